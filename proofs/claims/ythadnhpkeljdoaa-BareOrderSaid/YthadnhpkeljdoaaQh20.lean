/- Ground of the law: PvN, Gx6, LxRefBig, ItProg. -/
import Derived.Test.YthadnhpkeljdoaaQh19
import Derived.Test.YthadnhpkeljdoaaQh18
import Derived.Test.YthadnhpkeljdoaaQh15
import Derived.Test.YthadnhpkeljdoaaQh01
import Derived.Test.YthadnhpkeljdoaaQh07
import Derived.Laws.StructEq
import Derived.DeepKeys5
import Derived.Maps.Own
import Derived.ChangeMaps5
import Derived.Laws.AppendOwnNone
import Derived.Lib.SliceRun
import Derived.Laws.IdiomCopy
import Derived.StillTailTactics
import Derived.Carry
import Derived.Shelf.Strings.BuilderK
import Derived.WalkKit
import Derived.Test.YthadnhpkeljdoaaQh00
set_option maxRecDepth 100000
set_option maxHeartbeats 8000000
set_option linter.unusedVariables false
set_option linter.unusedSimpArgs false
namespace Go.Proofs.Ythadnhpkeljdoaa.pv
open Go.RowKit
abbrev Keys:=List (Nat × Nat)
def keysOf (ws : Mem) : Keys:=ws.map fun p=>(p.1,p.2.1)
def slotsOf : List Operand → Keys
  | []=>[]
  | .tmp t :: r=>(0,t) :: slotsOf r
  | _ :: r=>slotsOf r
def cellKeys (b : Nat) : Nat → Nat → Keys
  | _,0=>[]
  | o,n + 1=>(b + 2,o) :: cellKeys b (o + 1) n
def memReads (ty : Tys) (m : Mem) (o : Oper) : Keys :=
  match o.op with
  | .load t x=>(match tyOf ty t,ev m x with
    | some y,.ptr b off=>(b + 2,off) :: cellKeys b off y.size
    | _,_=>[])
  | .store _ p x=>(match ev m p,cellsOf (ev m x) with
    | .ptr b off,some l=>cellKeys b off l.length
    | _,_=>[])
  | .call { callee:=.builtin .append,args,.. }=>(match args.toList with
    | [s,_]=>(match ev m s with
      | .sl (.own t _ _) _=>[(1,t)]
      | _=>[])
    | _=>[])
  | _=>[]
def guardReads (ops : Array Oper) (g : Option (Nat × Bool)) : Keys :=
  match g with
  | none=>[]
  | some (j,_)=>match (ops[j]?).bind (·.dst) with
    | some t=>[(0,t)]
    | none=>[]
def opReads (ty : Tys) (m : Mem) (o : Oper) : Keys:=slotsOf o.op.operands.toList ++ memReads ty m o
def Same (m m' : Mem) (k : Keys) : Prop:=∀ p ∈ k,look m p.1 p.2 = look m' p.1 p.2
theorem slots_ev {m m' : Mem} : ∀ {l : List Operand},Same m m' (slotsOf l) → ∀ x ∈ l,ev m x = ev m' x
  | [],_,x,h=>by cases h
  | y :: r,hs,x,h=>by
    rcases List.mem_cons.1 h with rfl | h
    · cases x with
      | tmp t=>exact hs (0,t) (by simp [slotsOf])
      | _=>rfl
    · refine slots_ev (l:=r) (fun p hp=>hs p ?_) x h
      cases y <;> simp [slotsOf,hp]
theorem cr_same {m m' : Mem} {b : Nat} : ∀ (n o : Nat),Same m m' (cellKeys b o n) → cr m b o n = cr m' b o n
  | 0,o,h=>rfl
  | n + 1,o,h=>by
    simp only [cr]
    rw [h (b + 2,o) (by simp [cellKeys]),cr_same n (o + 1) (fun p hp=>h p (by simp [cellKeys,hp]))]
theorem dBuild_same {ty : Tys} {m m' : Mem} {fs : List (Nat × TypeId)} : ∀ (ps : List (Nat × Operand)) (z : List D),(∀ p ∈ ps,ev m p.2 = ev m' p.2) → dBuild ty m fs z ps = dBuild ty m' fs z ps
  | [],z,h=>rfl
  | (i,x) :: r,z,h=>by
    have e : ev m x = ev m' x:=h (i,x) (List.mem_cons_self ..)
    have ih:=fun z=>dBuild_same (ty:=ty) (fs:=fs) r z fun p hp=>h p (List.mem_cons_of_mem _ hp)
    unfold dBuild
    simp only [e,ih]
theorem dFillE_same {m m' : Mem} {sz : Nat} : ∀ (ps : List (Nat × Operand)) (es : List (List D)),(∀ p ∈ ps,ev m p.2 = ev m' p.2) → dFillE m sz es ps = dFillE m' sz es ps
  | [],es,h=>rfl
  | (i,x) :: r,es,h=>by
    have e : ev m x = ev m' x:=h (i,x) (List.mem_cons_self ..)
    have ih:=fun es=>dFillE_same (sz:=sz) r es fun p hp=>h p (List.mem_cons_of_mem _ hp)
    unfold dFillE
    simp only [e,ih]
theorem dop_same {ty : Tys} {m m' : Mem} {id : Nat} {o : Oper} (h : Same m m' (opReads ty m o)) : dop ty m id o = dop ty m' id o:=by
  have hev : ∀ x ∈ o.op.operands.toList,ev m x = ev m' x:=slots_ev fun p hp=>h p (List.mem_append_left _ hp)
  have hmem : Same m m' (memReads ty m o):=fun p hp=>h p (List.mem_append_right _ hp)
  clear h
  obtain ⟨dst,op,type,pos,after,guard⟩:=o
  have e1 : ∀ (x : Operand),op.operands.toList = [x] → ev m x = ev m' x:=fun x e=>hev x (by simp only [e];simp)
  have e2 : ∀ (x y : Operand),op.operands.toList = [x,y] → ev m x = ev m' x ∧ ev m y = ev m' y:=fun x y e=>⟨hev x (by simp only [e];simp),hev y (by simp only [e];simp)⟩
  cases op with
  | move x=>simp only [dop,e1 x rfl]
  | assign x=>simp only [dop,e1 x rfl]
  | pick c a b=>simp only [dop,hev c (by simp [Op.operands]),hev a (by simp [Op.operands]),hev b (by simp [Op.operands])]
  | alloc t=>rfl
  | box t x=>simp only [dop,e1 x rfl]
  | build t ps =>
    have : ∀ p ∈ ps.toList,ev m p.2 = ev m' p.2:=fun p hp=>hev p.2 (by simp only [Op.operands];exact List.mem_map.2 ⟨p,hp,rfl⟩)
    simp only [dop,dBuild_same ps.toList _ this]
  | buildSlice t n ps =>
    have : ∀ p ∈ ps.toList,ev m p.2 = ev m' p.2:=fun p hp=>hev p.2 (by simp only [Op.operands];exact List.mem_map.2 ⟨p,hp,rfl⟩)
    simp only [dop,dFillE_same ps.toList _ this]
  | load t x =>
    have hx:=e1 x rfl
    simp only [dop,← hx]
    simp only [memReads] at hmem
    split
    · rename_i y hy
      rw [hy] at hmem
      unfold dLoad
      split
      · rename_i b off e
        rw [e] at hmem
        have h1:=hmem (b + 2,off) (List.mem_cons_self ..)
        have h2:=cr_same y.size off fun p hp=>hmem p (List.mem_cons_of_mem _ hp)
        simp only at h1
        rw [h1,h2]
      · rfl
      · rfl
    · rfl
  | store t p x =>
    obtain ⟨hp,hx⟩:=e2 p x rfl
    simp only [dop,← hp,← hx]
    simp only [memReads] at hmem
    split
    · rename_i y hy
      unfold dStore
      split
      · rename_i b off e
        rw [e] at hmem
        split
        · rename_i l hl
          rw [hl] at hmem
          rw [cr_same l.length off hmem]
        · rfl
      · rfl
    · rfl
  | nilCheck x=>simp only [dop,e1 x rfl]
  | binOp op t x y yt=>simp only [dop,(e2 x y rfl).1,(e2 x y rfl).2]
  | unOp op t x=>cases op <;> simp only [dop,e1 x rfl]
  | convert s t x=>simp only [dop,e1 x rfl]
  | fieldAddr t x f=>simp only [dop,e1 x rfl]
  | field t x f=>simp only [dop,e1 x rfl]
  | indexAddr t x i=>simp only [dop,(e2 x i rfl).1,(e2 x i rfl).2]
  | index t x i=>simp only [dop,(e2 x i rfl).1,(e2 x i rfl).2]
  | slice t x lo hi mx =>
    cases mx with
    | some _=>rfl
    | none =>
      have hx : ev m x = ev m' x:=hev x (by simp [Op.operands])
      have hlo : optD m lo = optD m' lo:=by
        cases lo with
        | none=>rfl
        | some c=>simp only [optD,hev c (by simp [Op.operands])]
      have hhi : optD m hi = optD m' hi:=by
        cases hi with
        | none=>rfl
        | some c=>simp only [optD,hev c (by simp [Op.operands])]
      simp only [dop,hx,hlo,hhi]
  | extract x i=>simp only [dop,e1 x rfl]
  | call c =>
    obtain ⟨callee,args,ats⟩:=c
    have ha : ∀ x ∈ args.toList,ev m x = ev m' x:=fun x hx=>hev x (by
      simp only [Op.operands,Call.operands,Array.toList_append]
      exact List.mem_append_right _ hx)
    cases callee with
    | invoke r s=>rfl
    | value f =>
      cases f with
      | func f =>
        have h1 : args.toList.map (ev m) = args.toList.map (ev m'):=List.map_congr_left ha
        have h2 : (args.toList.map fun x=>stripA (ev m x)) = args.toList.map fun x=>stripA (ev m' x):=List.map_congr_left fun x hx=>by rw [ha x hx]
        simp only [dop,h1,h2]
      | tmp t =>
        have h0 : look m 0 t = look m' 0 t:=hev (.tmp t) (by simp [Op.operands,Call.operands])
        have h1 : args.toList.map (ev m) = args.toList.map (ev m'):=List.map_congr_left ha
        have h2 : (args.toList.map fun x=>stripA (ev m x)) = args.toList.map fun x=>stripA (ev m' x):=List.map_congr_left fun x hx=>by rw [ha x hx]
        simp only [dop,h0,h1,h2]
      | _=>rfl
    | builtin b =>
      cases b
      case append =>
        simp only [dop]
        simp only [memReads] at hmem
        split
        · rename_i s x t u h1 h2
          rw [h1] at hmem ha
          have hmem : Same m m' (match ev m s with
            | .sl (.own t _ _) _=>[(1,t)]
            | _=>[]):=hmem
          have hs:=ha s (by simp);have hx:=ha x (by simp)
          simp only [← hs,← hx]
          have : ∀ e z,dAppend m id e z (ev m s) (ev m x) = dAppend m' id e z (ev m s) (ev m x):=fun e z=>by
            unfold dAppend
            split
            · rfl
            · rename_i t' e' sz es k news q1 q2
              rw [q1] at hmem
              have : look m 1 t' = look m' 1 t':=hmem (1,t') (by simp)
              rw [this]
            · rfl
          simp only [this]
        · rfl
      case len =>
        simp only [dop]
        split
        · rename_i x t h1 h2
          rw [h1] at ha
          simp only [ha x (by simp)]
        · rfl
      case min =>
        simp only [dop]
        split
        · rename_i x y h1
          rw [h1] at ha
          simp only [ha x (by simp),ha y (by simp)]
        · rfl
      case max =>
        simp only [dop]
        split
        · rename_i x y h1
          rw [h1] at ha
          simp only [ha x (by simp),ha y (by simp)]
        · rfl
      all_goals rfl
  | _=>rfl
theorem wantD_same {ops : Array Oper} {g : Option (Nat × Bool)} {m m' : Mem} (h : Same m m' (guardReads ops g)) : wantD ops g m = wantD ops g m':=by
  unfold wantD
  unfold guardReads at h
  split
  · rfl
  · rename_i j want
    split
    · rename_i t ht
      simp only [ht] at h
      have:=h (0,t) (by simp)
      simp only at this
      rw [this]
    · rfl
section
variable {P : Program} {ops : Array Oper} {Q : Exit → Act → World → Prop} {md : Region.Mode}
def done (listed : Array Bool) (k : Nat) : Bool:=listed.getD k false
theorem count_set {l : List Bool} {i : Nat} (h : l[i]? = some false) : (l.set i true).count false + 1 = l.count false:=by
  induction l generalizing i with
  | nil=>simp at h
  | cons b r ih =>
    cases i with
    | zero=>simp at h;subst h;simp
    | succ i =>
      have:=ih (i:=i) (by simpa using h)
      simp only [List.set_cons_succ,List.count_cons]
      omega
theorem wpAny_inv (Inv : Array Bool → Act → World → Prop)
    (hstep : ∀ listed a w i,Inv listed a w → i ∈ Region.ready md ops listed → wpOp P ops Q i (Inv (listed.setIfInBounds i true)) a w)
    (hend : ∀ listed a w,Inv listed a w → Region.ready md ops listed = [] → Q .normal a w) :
    ∀ fuel listed a w,listed.toList.count false ≤ fuel → Inv listed a w → wpAny P md ops Q fuel listed a w:=by
  have hdown : ∀ (listed : Array Bool) i,i ∈ Region.ready md ops listed → (listed.setIfInBounds i true).toList.count false + 1 = listed.toList.count false:=by
    intro listed i hi
    obtain ⟨h2,_⟩:=mem_ready.1 hi
    rw [Array.toList_setIfInBounds]
    refine count_set ?_
    cases hq : listed[i]? with
    | none=>simp [Array.getD_eq_getD_getElem?,hq] at h2
    | some b =>
      have : b = false:=by simpa [Array.getD_eq_getD_getElem?,hq] using h2
      rw [← Array.getElem?_toList] at hq
      rw [hq,this]
  intro fuel
  induction fuel with
  | zero =>
    intro listed a w hc hI
    have hr : Region.ready md ops listed = []:=by
      cases hr : Region.ready md ops listed with
      | nil=>rfl
      | cons i r =>
        have:=hdown listed i (by rw [hr];exact List.mem_cons_self ..)
        omega
    exact ⟨hr,hend listed a w hI hr⟩
  | succ fuel ih =>
    intro listed a w hc hI
    refine ⟨fun hr=>hend listed a w hI hr,fun i hi=>?_⟩
    have:=hdown listed i hi
    exact wpOp_mono (fun a' w' h=>ih _ a' w' (by omega) h) (hstep listed a w i hI hi)
theorem done_set {listed : Array Bool} {i : Nat} (h : listed.getD i true = false) (k : Nat) : done (listed.setIfInBounds i true) k = ((k == i) || done listed k):=by
  unfold done
  have hi : i < listed.size:=by
    rcases Nat.lt_or_ge i listed.size with h' | h'
    · exact h'
    · simp [Array.getD_eq_getD_getElem?,Array.getElem?_eq_none h'] at h
  by_cases e : k = i
  · subst e;simp [Array.getD_eq_getD_getElem?,hi]
  · simp [Array.getD_eq_getD_getElem?,e,Ne.symm e]
theorem done_not {listed : Array Bool} {i : Nat} (h : listed.getD i true = false) : done listed i = false:=by
  unfold done
  rw [Array.getD_eq_getD_getElem?] at h ⊢
  cases hq : listed[i]? with
  | none=>rfl
  | some b=>rw [hq] at h;simpa using h
theorem done_none (k i : Nat) : done (Array.replicate k false) i = false:=by
  unfold done
  rw [Array.getD_eq_getD_getElem?]
  cases h : (Array.replicate k false)[i]? with
  | none=>rfl
  | some b=>rw [Array.eq_of_mem_replicate (Array.mem_of_getElem? h)];rfl
end
structure Ent where
  o : Oper
  m : Mem
  want : Bool
  d : D
  ws : Mem
def Ent.out (e : Ent) : Mem:=putM e.o.dst e.d e.ws
theorem putM_app (dst : Option Tmp) (d : D) (ws m : Mem) : putM dst d (ws ++ m) = putM dst d ws ++ m:=by cases dst <;> rfl
def acc (S : Nat → Bool) : Nat → List Ent → Mem → Mem
  | _,[],m=>m
  | i,e :: r,m=>acc S (i + 1) r (if S i then e.out ++ m else m)
theorem acc_append (S : Nat → Bool) : ∀ (es fs : List Ent) (i : Nat) (m : Mem),acc S i (es ++ fs) m = acc S (i + es.length) fs (acc S i es m)
  | [],fs,i,m=>rfl
  | e :: r,fs,i,m=>by
    simp only [List.cons_append,acc,List.length_cons]
    rw [acc_append S r fs (i + 1),show i + 1 + r.length = i + (r.length + 1) by omega]
theorem acc_none {S : Nat → Bool} : ∀ (es : List Ent) (i : Nat) (m : Mem),(∀ j,i ≤ j → S j = false) → acc S i es m = m
  | [],i,m,h=>rfl
  | e :: r,i,m,h=>by simp only [acc,h i (Nat.le_refl _)];exact acc_none r (i + 1) m fun j hj=>h j (by omega)
theorem acc_look {x y : Nat} {S S' : Nat → Bool} : ∀ (es : List Ent) (i : Nat) {m m' : Mem},(∀ j e,es[j]? = some e → has e.out x y = true → S (i + j) = S' (i + j)) → look m x y = look m' x y → look (acc S i es m) x y = look (acc S' i es m') x y
  | [],i,m,m',h,hm=>hm
  | e :: r,i,m,m',h,hm=>by
    simp only [acc]
    refine acc_look r (i + 1) (fun j f hj hf=>?_) ?_
    · have:=h (j + 1) f (by simpa using hj) hf
      rw [show i + 1 + j = i + (j + 1) by omega];exact this
    · have look1 : ∀ (b : Bool) (q : Mem),look (if b then e.out ++ q else q) x y = if b && has e.out x y then look e.out x y else look q x y:=fun b q=>by
        cases b
        · rfl
        · simp only [if_true,Bool.true_and,look_app]
      rw [look1,look1]
      cases hh : has e.out x y with
      | false=>simp only [Bool.and_false,Bool.false_eq_true,if_false];exact hm
      | true =>
        have:=h 0 e rfl hh
        simp only [Nat.add_zero] at this
        rw [this,hm]
theorem acc_last {x y : Nat} {S : Nat → Bool} : ∀ (es : List Ent) (i k : Nat) (e : Ent) {m : Mem},es[k]? = some e → has e.out x y = true → S (i + k) = true → (∀ j f,es[j]? = some f → k < j → has f.out x y = true → S (i + j) = false) → look (acc S i es m) x y = look e.out x y
  | [],i,k,e,m,h,_,_,_=>by cases h
  | f :: r,i,0,e,m,h,hh,hS,hn=>by
    cases h
    simp only [acc]
    have:=acc_look (x:=x) (y:=y) (S:=S) (S':=fun _=>false) r (i + 1) (m:=if S i then f.out ++ m else m) (m':=f.out ++ m) (fun j g hj hg=>by
      have:=hn (j + 1) g (by simpa using hj) (by omega) hg
      rw [show i + 1 + j = i + (j + 1) by omega];exact this) (by simp only [Nat.add_zero] at hS;rw [hS];rfl)
    rw [this,acc_none _ _ _ (fun _ _=>rfl),look_app,hh]
    rfl
  | f :: r,i,k + 1,e,m,h,hh,hS,hn=>by
    simp only [acc]
    refine acc_last r (i + 1) k e (by simpa using h) hh (by rw [show i + 1 + k = i + (k + 1) by omega];exact hS) fun j g hj hlt hg=>?_
    have:=hn (j + 1) g (by simpa using hj) (by omega) hg
    rw [show i + 1 + j = i + (j + 1) by omega];exact this
theorem has_keys : ∀ {ws : Mem} {x y : Nat},has ws x y = true ↔ (x,y) ∈ keysOf ws
  | [],x,y=>by simp [has,keysOf]
  | (a,b,d) :: r,x,y=>by
    have ih:=has_keys (ws:=r) (x:=x) (y:=y)
    simp only [keysOf,List.map_cons,List.mem_cons,Prod.mk.injEq,has]
    by_cases h : a = x ∧ b = y
    · simp [h.1,h.2]
    · have h' : (Nat.beq a x && Nat.beq b y) = false:=by
        rw [Bool.eq_false_iff];intro e
        rw [Bool.and_eq_true] at e
        exact h ⟨Nat.eq_of_beq_eq_true e.1,Nat.eq_of_beq_eq_true e.2⟩
      rw [h',cond_false,ih]
      simp only [keysOf]
      constructor
      · exact .inr
      · rintro (⟨rfl,rfl⟩ | h2)
        · exact absurd ⟨rfl,rfl⟩ h
        · exact h2
end Go.Proofs.Ythadnhpkeljdoaa.pv
namespace Go.Proofs.Ythadnhpkeljdoaa.gn
open Go.Lib (hid)
open Go.RowKit Go.Shelf sx ed
section
variable {bs : List Int}
theorem pipe0_ex {d : Int} (hd : d ≤ 0) (K : Nat) : Ex1 bs 5 22 d K:=by
 obtain ⟨s1,K1,H1⟩:=of_ex (bs:=bs) K #[.string ⟨#[46]⟩,.string ⟨#[49]⟩,.string ⟨#[46,97]⟩,.string ⟨#[36,120]⟩,.string ⟨#[102]⟩,.string ⟨#[34,115,34]⟩,.string ⟨#[46,46]⟩,.string ⟨#[50,46,53,101,49]⟩,.string ⟨#[64,106,115,111,110]⟩,.string ⟨#[103,40,49,41]⟩] 10 5 (by decide) (by decide) rfl rfl
 refine ⟨s1,K1,hid ⟨H1.out.1,fun B ao cap W h=>?_⟩⟩
 have e1 : decide (d ≤ 0) = true:=decide_eq_true hd
 have G0:=stD h
 clear h
 go_enter Try.func22,Try.ntmps22
 go_wp2_with fail
 go_region
 go_wp2_with fail
 (refine (tO H1 G0).mono ?_);rintro e w1 ⟨rfl,G1⟩
 go_wp2_with fail
 go_ret
 exact ⟨rfl,G1.out.g,G1.out.k⟩
theorem pipeE_ex {d : Int} (hd : 0 < d) (K : Nat) (hK : bs.length ≤ K) : Ex1 bs 5 22 d K:=by
 obtain ⟨s1,K1,H1⟩:=of_ex (bs:=bs) K #[.string ⟨#[46]⟩,.string ⟨#[49]⟩,.string ⟨#[46,97]⟩,.string ⟨#[36,120]⟩,.string ⟨#[102]⟩,.string ⟨#[34,115,34]⟩,.string ⟨#[46,46]⟩,.string ⟨#[50,46,53,101,49]⟩,.string ⟨#[64,106,115,111,110]⟩,.string ⟨#[103,40,49,41]⟩] 10 5 (by decide) (by decide) rfl rfl
 refine ⟨s1,K1,hid ⟨H1.out.1,fun B ao cap W h=>?_⟩⟩
 have e1 : decide (d ≤ 0) = false:=decide_eq_false (by omega)
 have e2 : ¬ (d ≤ 0):=by omega
 have b0:=h.box.cell 0;have b1:=h.box.cell 1
 have g1 : decide ((bs.length : Int) ≤ (K : Int)) = true:=decide_eq_true (by omega)
 have g2 : decide (bs.length ≤ K) = true:=decide_eq_true hK
 have G0:=stD h
 clear h hd hK
 go_enter Try.func22,Try.ntmps22
 go_wp2_with fail
 go_region
 clear b0 b1 g1 g2
 go_wp2_with fail
 (refine (tO H1 G0).mono ?_);rintro e w1 ⟨rfl,G1⟩
 go_wp2_with fail
 go_ret
 exact ⟨rfl,G1.out.g,G1.out.k⟩
theorem post0_ex {d : Int} (hd : d ≤ 0) (K : Nat) : Ex1 bs 3 35 d K:=by
 obtain ⟨s1,K1,H1⟩:=of_ex (bs:=bs) K #[.string ⟨#[46]⟩,.string ⟨#[46,97]⟩,.string ⟨#[36,120]⟩,.string ⟨#[36,121]⟩,.string ⟨#[102]⟩,.string ⟨#[49]⟩,.string ⟨#[34,115,34]⟩] 7 3 (by decide) (by decide) rfl rfl
 refine ⟨s1,K1,hid ⟨H1.out.1,fun B ao cap W h=>?_⟩⟩
 have e1 : decide (d ≤ 0) = true:=decide_eq_true hd
 have G0:=st0 h
 clear h
 go_enter Try.func35,Try.ntmps35
 go_wp2_with fail
 (with_reducible refine (tO H1 G0).mono ?_);rintro e w1 ⟨rfl,G1⟩
 go_wp2_with fail
 go_ret
 exact ⟨rfl,G1.out.g,G1.out.k⟩
theorem up {f : FuncId} {d : Int} {K X Y : Nat} (h : Ex1 bs X f d K) (hxy : X ≤ Y) : Ex1 bs Y f d K:=by
 obtain ⟨s,K',⟨h1,h2⟩⟩:=h
 exact ⟨s,K',hid ⟨Nat.le_trans h1 hxy,h2⟩⟩
theorem gs_zero : Gs bs 0 10 where
 pipe d hd _ K:=up (pipe0_ex hd K) (by decide)
 post d hd _ K:=up (post0_ex hd K) (by decide)
theorem gs_next {m : Int} {X : Nat} (h : Gs bs m X) (hm : m ≤ 800) (hX : X ≤ 100000000000) : Gs bs (m + 1) (6 * X + 200) where
 pipe d hd hd0 K:=by
  by_cases h0 : d ≤ 0
  ·exact up (pipe0_ex h0 K) (by omega)
  ·by_cases hK : K < bs.length
   ·exact pipeOn_ex h hX (by omega) (by omega) (by omega) (by omega) K hK
   ·exact up (pipeE_ex (by omega) K (by omega)) (by omega)
 post d hd hd0 K:=by
  by_cases h0 : d ≤ 0
  ·exact up (post0_ex h0 K) (by omega)
  ·exact postOn_ex h hX (by omega) (by omega) (by omega) (by omega) K
theorem gs_five : Gs bs 5 388760:=gs_next (gs_next (gs_next (gs_next (gs_next gs_zero (by decide) (by decide)) (by decide) (by decide)) (by decide) (by decide)) (by decide) (by decide)) (by decide) (by decide)
end
end Go.Proofs.Ythadnhpkeljdoaa.gn
namespace Go.Proofs.Ythadnhpkeljdoaa.lx
open Go.Lib (hid)
open Go.RowKit Go.Shelf
open sg (lst_len)
theorem rtokens_long (s : ByteArray) (hs : 65536 < s.size) (w : World) : Calls Try.prog 18 #[.string s] w (RTo s w):=by
 have HF:=hid (show tokensF s.data.toList (utf.checkF s) = ([],3,0) by unfold tokensF;rw [if_pos (by rw [lst_len];omega)])
 have t0 : decide ((65536 : Int) < (s.size : Int)) = true:=decide_eq_true (by omega)
 have t1 : decide (65536 < s.size) = true:=decide_eq_true hs
 go_enter Try.func18,Try.ntmps18
 go_wp2_with fail
 refine bodyPost_ret (v:=.tuple #[.slice none 0 0,.int .i64 3,.int .i64 0]) (by simp [results,Try.results18,go_sem]) rfl ⟨.slice none 0 0,by rw [HF.out],by rw [HF.out];exact World.ownsRow_nil _ _ _ _,Below.refl _ _⟩
theorem rtokens_any (s : ByteArray) (w : World) (l : List Lx.Tok) (err at' : Int) (h : tokensF s.data.toList (utf.checkF s) = (l,err,at')) :
  Calls Try.prog 18 #[.string s] w fun e w'=>∃ v,e = .returned (.tuple #[v,.int .i64 err,.int .i64 at']) ∧ w'.ownsRow w.heap.size 54 2 v l.length (tokCells l) ∧ Below w.heap.size w w':=by
 have hc : Calls Try.prog 18 #[.string s] w (RTo s w):=by
  by_cases hs : s.size ≤ 65536
  ·exact rtokens_callsB s hs w
  ·exact rtokens_long s (by omega) w
 refine hc.mono ?_
 rintro e w' ⟨v,rfl,ho,hb⟩
 rw [h] at ho ⊢
 exact ⟨v,rfl,ho,hb⟩
end Go.Proofs.Ythadnhpkeljdoaa.lx
namespace Go.Proofs.Ythadnhpkeljdoaa.it
open Go.RowKit Go.Shelf
open sg (lst_len)
open lx
def idleB (k : Int) : Bool:=k == 1 || k == 2
end Go.Proofs.Ythadnhpkeljdoaa.it
namespace Go.Proofs.Ythadnhpkeljdoaa.it
open Go.RowKit Go.Shelf
open sg (lst_len)
open lx
end Go.Proofs.Ythadnhpkeljdoaa.it
namespace Go.Proofs.Ythadnhpkeljdoaa.it
open Go.RowKit Go.Shelf
open sg (lst_len)
open lx
end Go.Proofs.Ythadnhpkeljdoaa.it
namespace Go.Proofs.Ythadnhpkeljdoaa.it
open Go.RowKit Go.Shelf
open sg (lst_len)
open lx
def fidx (p : Tk → Bool) (ts : List Tk) : Nat:=(ts.takeWhile (fun t=>!p t)).length
theorem fidx_le (p : Tk → Bool) (ts : List Tk) : fidx p ts ≤ ts.length:=by
 unfold fidx
 exact (List.takeWhile_prefix _).length_le
theorem fidx_cons (p : Tk → Bool) (t : Tk) (r : List Tk) : fidx p (t :: r) = if p t then 0 else fidx p r + 1:=by
 unfold fidx
 rw [List.takeWhile_cons]
 cases p t <;> simp
end Go.Proofs.Ythadnhpkeljdoaa.it
namespace Go.Proofs.Ythadnhpkeljdoaa.it
open Go.RowKit Go.Shelf
open sg (lst_len)
open lx
open Go.Maps (Keyed)
end Go.Proofs.Ythadnhpkeljdoaa.it
namespace Go.Proofs.Ythadnhpkeljdoaa.it
open Go.RowKit Go.Shelf
open sg (lst_len)
open lx
end Go.Proofs.Ythadnhpkeljdoaa.it
namespace Go.Proofs.Ythadnhpkeljdoaa.it
open Go.RowKit Go.Shelf
open sg (lst_len)
open lx
end Go.Proofs.Ythadnhpkeljdoaa.it
namespace Go.Proofs.Ythadnhpkeljdoaa.it
open Go.RowKit Go.Shelf
open sg (lst_len)
open lx
open sx (Blk)
end Go.Proofs.Ythadnhpkeljdoaa.it
namespace Go.Proofs.Ythadnhpkeljdoaa.it
open Go.RowKit Go.Shelf
open sg (lst_len)
open lx
end Go.Proofs.Ythadnhpkeljdoaa.it
namespace Go.Proofs.Ythadnhpkeljdoaa.it
open Go.RowKit Go.Shelf
open sg (lst_len)
open lx
end Go.Proofs.Ythadnhpkeljdoaa.it
namespace Go.Proofs.Ythadnhpkeljdoaa.it
open Go.RowKit
open sg (lst_len)
open lx
end Go.Proofs.Ythadnhpkeljdoaa.it
