/- Ground of the law: PvQ, ItRefM, PvT, ItRefI, PvU, PvV. -/
import Derived.Test.YthadnhpkeljdoaaQh22
import Derived.Test.YthadnhpkeljdoaaProg
import Derived.Laws.OwnMore
import Derived.OneCell
set_option maxRecDepth 100000
set_option maxHeartbeats 8000000
set_option linter.unusedVariables false
set_option linter.unusedSimpArgs false
namespace Go.Proofs.Ythadnhpkeljdoaa.pv
open Go.RowKit
def eqFs : List (Nat × TypeId) → List (Nat × TypeId) → Bool
  | [],[]=>true
  | (a,b) :: r,(c,d) :: q=>a.beq c && b.beq d && eqFs r q
  | _,_=>false
theorem eqFs_eq : ∀ {a b : List (Nat × TypeId)},eqFs a b = true → a = b
  | [],[],_=>rfl
  | (a,b) :: r,(c,d) :: q,h=>by
    simp only [eqFs,Bool.and_eq_true] at h
    rw [Nat.eq_of_beq_eq_true h.1.1,Nat.eq_of_beq_eq_true h.1.2,eqFs_eq h.2]
  | [],_ :: _,h=>by cases h
  | _ :: _,[],h=>by cases h
def kdChk (P : Program) (t : TypeId) : Kd → Bool
  | .bool=>(match P.underlying t with | some .bool=>true | _=>false)
  | .str=>(match P.underlying t with | some .string=>true | _=>false)
  | .no=>true
  | .int k=>(match P.underlying t with | some (.int k')=>decide (k' = k) | _=>false)
  | .sl e=>(match P.underlying t with | some (.slice e')=>Nat.beq e' e | _=>false)
  | .st fs=>(match P.underlying t with | some (.struct a)=>eqFs (a.toList.map fun f=>(f.offset,f.type)) fs | _=>false)
theorem kdChk_ok {P : Program} {t : TypeId} {k : Kd} (h : kdChk P t k = true) : KdOk P t k:=by
  unfold kdChk at h
  cases k <;> simp only [KdOk] at h ⊢
  case bool=>split at h <;> first | assumption | cases h
  case str=>split at h <;> first | assumption | cases h
  case int k =>
    split at h
    · rename_i k' e;rw [e,of_decide_eq_true h]
    · cases h
  case sl e' =>
    split at h
    · rename_i e2 e;rw [e,Nat.eq_of_beq_eq_true h]
    · cases h
  case st fs =>
    split at h
    · rename_i A e;exact ⟨A,e,eqFs_eq h⟩
    · cases h
def zD : Value → D → Bool
  | .bool b,.v (.bool c)=>decide (b = c)
  | .int k n,.v (.int j q)=>decide (k = j) && decide (n = q)
  | .string s,.v (.string u)=>decide (s = u)
  | .slice none 0 0,.sl .nil []=>true
  | _,_=>false
theorem zD_ok {v : Value} {d : D} (h : zD v d = true) : constC v = d ∧ goodC d = true:=by
  unfold zD at h
  split at h
  · rw [of_decide_eq_true h];exact ⟨rfl,rfl⟩
  · rw [Bool.and_eq_true] at h
    rw [of_decide_eq_true h.1,of_decide_eq_true h.2];exact ⟨rfl,rfl⟩
  · rw [of_decide_eq_true h];exact ⟨rfl,rfl⟩
  · exact ⟨rfl,rfl⟩
  · cases h
def zDs : List Value → List D → Bool
  | [],[]=>true
  | v :: r,d :: q=>zD v d && zDs r q
  | _,_=>false
theorem zDs_ok : ∀ {l : List Value} {q : List D},zDs l q = true → l.map constC = q ∧ q.all goodC = true
  | [],[],_=>⟨rfl,rfl⟩
  | v :: r,d :: q,h=>by
    simp only [zDs,Bool.and_eq_true] at h
    obtain ⟨h1,h2⟩:=zD_ok h.1
    obtain ⟨h3,h4⟩:=zDs_ok h.2
    exact ⟨by simp [h1,h3],by simp [h2,h4]⟩
  | [],_ :: _,h=>by cases h
  | _ :: _,[],h=>by cases h
def tyChk (P : Program) (t : TypeId) (y : Ty) : Bool :=
  kdChk P t y.kd && (match P.info? t with
    | some i=>i.size.beq y.size && i.bytes.beq y.bytes && (match i.zero with
      | some z=>zDs z.cells.toList y.zero
      | none=>false)
    | none=>false) && y.zero.length.beq y.size && (match y.kd with
    | .st _=>true
    | _=>y.size.beq 1)
theorem tyChk_ok {P : Program} {t : TypeId} {y : Ty} (h : tyChk P t y = true) : TyOk P t y:=by
  unfold tyChk at h
  simp only [Bool.and_eq_true] at h
  obtain ⟨⟨⟨h1,h2⟩,h3⟩,h4⟩:=h
  refine ⟨kdChk_ok h1,?_,?_⟩
  · split at h2
    · rename_i i hi
      simp only [Bool.and_eq_true] at h2
      obtain ⟨⟨a1,a2⟩,a3⟩:=h2
      split at a3
      · rename_i z hz
        obtain ⟨b1,b2⟩:=zDs_ok a3
        exact ⟨i,z,hi,Nat.eq_of_beq_eq_true a1,Nat.eq_of_beq_eq_true a2,hz,b1,b2,Nat.eq_of_beq_eq_true h3⟩
      · cases a3
    · cases h2
  · split at h4
    · rename_i fs e;exact .inl ⟨fs,e⟩
    · exact .inr (Nat.eq_of_beq_eq_true h4)
theorem tys_ok {P : Program} {ty : Tys} (h : (ty.all fun p=>tyChk P p.1 p.2) = true) : TysOk P ty:=by
  intro t y hy
  rw [List.all_eq_true] at h
  have : ∀ (l : Tys),tyOf l t = some y → (t,y) ∈ l:=by
    intro l
    induction l with
    | nil=>intro e;cases e
    | cons p r ih =>
      intro e
      obtain ⟨u,z⟩:=p
      have e : (bif u.beq t then some z else tyOf r t) = some y:=e
      cases hb : u.beq t with
      | true=>rw [hb] at e;cases e;rw [Nat.eq_of_beq_eq_true hb];exact List.mem_cons_self ..
      | false=>rw [hb] at e;exact List.mem_cons_of_mem _ (ih e)
  exact tyChk_ok (h (t,y) (this ty hy))
def shOf : List (FuncId × Sh) → FuncId → Sh
  | [],_=>[]
  | (f,s) :: r,g=>bif f.beq g then s else shOf r g
theorem shOf_ok {l : List (FuncId × Sh)} (h : (l.all fun p=>shOk p.2) = true) : ∀ f,shOk (shOf l f) = true:=by
  intro f
  induction l with
  | nil=>rfl
  | cons p r ih =>
    rw [List.all_cons,Bool.and_eq_true] at h
    unfold shOf
    cases hb : p.1.beq f
    · simpa using ih h.2
    · simpa using h.1
def subC : List Nat → Code → Code
  | 0 :: p,.seq a _=>subC p a
  | _ :: p,.seq _ b=>subC p b
  | 0 :: p,.cond _ a _=>subC p a
  | _ :: p,.cond _ _ b=>subC p b
  | _ :: p,.block _ c=>subC p c
  | _ :: p,.loop c=>subC p c
  | _,c=>c
def ctxQ (E : Env) : List Nat → Code → (Exit → St → Prop) → (Exit → St → Prop)
  | 0 :: p,.seq a b,Q=>ctxQ E p a (thenD (dwp E b Q) Q)
  | _ :: p,.seq _ b,Q=>ctxQ E p b Q
  | 0 :: p,.cond _ a _,Q=>ctxQ E p a Q
  | _ :: p,.cond _ _ b,Q=>ctxQ E p b Q
  | _ :: p,.block id c,Q=>ctxQ E p c (blockD id Q)
  | _,_,Q=>Q
def bcond (b : Bool) (A B : Prop) : Prop :=
  match b with
  | true=>A
  | false=>B
def endD (E : Env) (f : FuncId) (rs : List ResultVar) (K : List D → Prop) : Exit → St → Prop
  | .normal,s=>dret E s.m (E.sh f) rs K
  | .ret,s=>dret E s.m (E.sh f) rs K
  | _,_=>False
theorem thenD_mono {n n' : St → Prop} {Q Q' : Exit → St → Prop} (h1 : ∀ s,n s → n' s) (h2 : ∀ e s,Q e s → Q' e s) : ∀ e s,thenD n Q e s → thenD n' Q' e s:=fun e s h=>by
  cases e <;> first | exact h1 _ h | exact h2 _ _ h
theorem opP_mono {E : Env} {id : Nat} {o : Oper} {m : Mem} {K K' : D → Mem → Prop} (hE : ∀ f,shOk (E.sh f) = true) (h : ∀ d ws,K d ws → K' d ws) (hh : opP E id o m K) : opP E id o m K':=by
  have exCm : ∀ (cs : List CT) {K K' : List D → Prop},(∀ l,K l → K' l) → exC cs K → exC cs K':=by
    intro cs
    induction cs with
    | nil=>exact fun h hk=>h _ hk
    | cons c r ih=>intro K K' h hk;cases c <;> (obtain ⟨x,hx⟩:=hk;exact ⟨x,ih (fun l=>h _) hx⟩)
  have exSm : ∀ (sh : Sh) {K K' : List D → Prop},(∀ l,K l → K' l) → exS sh K → exS sh K':=by
    intro sh
    induction sh with
    | nil=>exact fun h hk=>h _ hk
    | cons c r ih=>intro K K' h hk;obtain ⟨b,cs⟩:=c;cases b <;> exact exCm cs (fun l hl=>ih (fun q=>h _) hl) hk
  unfold opP at hh ⊢
  split at hh
  · exact hh
  · exact h _ _ hh
  · exact h _ _ hh
  · exact ⟨hh.1,h _ _ hh.2⟩
  · exact ⟨hh.1,exCm _ (fun l hl=>⟨hl.1,h _ _ hl.2⟩) hh.2⟩
  · exact exSm _ (fun l hl=>⟨hl.1,h _ _ hl.2⟩) hh
theorem putD_mono {n : Nat} {dst : Option Tmp} {d : D} {m : Mem} {K K' : Mem → Prop} (h : ∀ m,K m → K' m) (hh : putD n dst d m K) : putD n dst d m K':=by
  unfold putD at hh ⊢
  split
  · exact h _ hh
  · rename_i t
    have hh : (bif (t + 1).ble n then K ((0,t,d) :: m) else False):=hh
    cases hb : (t + 1).ble n
    · rw [hb] at hh;exact hh.elim
    · rw [hb] at hh;exact h _ hh
theorem guardD_mono {ops : Array Oper} {g : Option (Nat × Bool)} {m : Mem} {A A' B B' : Mem → Prop} (h1 : ∀ m,A m → A' m) (h2 : ∀ m,B m → B' m) (hh : guardD ops g m A B) : guardD ops g m A' B':=by
  cases g with
  | none=>exact h1 _ hh
  | some p =>
    obtain ⟨j,want⟩:=p
    cases ht : (ops[j]?).bind (fun x=>x.dst) with
    | none=>simp only [guardD,ht] at hh
    | some t =>
      simp only [guardD,ht] at hh ⊢
      generalize look m 0 t = d at hh ⊢
      cases d <;> first | exact hh.elim | exact h2 _ hh | skip
      rename_i x
      cases x <;> first | exact hh.elim | skip
      rename_i b
      cases b <;> cases want <;> first | exact h1 _ hh | exact h2 _ hh
theorem dops_mono {E : Env} (hE : ∀ f,shOk (E.sh f) = true) {ops : Array Oper} {nx : Nat} {K K' : Mem → Prop} (h : ∀ m,K m → K' m) : ∀ (l : List Oper) (i : Nat) (m : Mem),dops E ops nx l i m K → dops E ops nx l i m K'
  | [],i,m,hh=>h _ hh
  | o :: r,i,m,hh=>by
    unfold dops at hh ⊢
    exact guardD_mono (fun m hm=>opP_mono hE (fun d ws hk=>putD_mono (fun m hm=>dops_mono hE h r _ m hm) hk) hm) (fun m hm=>putD_mono (fun m hm=>dops_mono hE h r _ m hm) hm) hh
theorem dopsD_mono {E : Env} (hE : ∀ f,shOk (E.sh f) = true) {ops : Array Oper} {nx : Nat} {K K' : Mem → Prop} (h : ∀ m,K m → K' m) : ∀ (l : List Oper) (i : Nat) (g : List Foot) (m : Mem),dopsD E ops nx l i g m K → dopsD E ops nx l i g m K'
  | [],i,g,m,hh=>h _ hh
  | o :: r,i,g,m,hh=>by
    unfold dopsD at hh ⊢
    exact guardD_mono (fun m hm=>opP_mono hE (fun d ws hk=>cond_mono hk fun hk=>putD_mono (fun m hm=>dopsD_mono hE h r _ _ m hm) hk) hm) (fun m hm=>cond_mono hm fun hk=>putD_mono (fun m hm=>dopsD_mono hE h r _ _ m hm) hk) hh
theorem dwp_mono {E : Env} (hE : ∀ f,shOk (E.sh f) = true) : ∀ (c : Code) {Q Q' : Exit → St → Prop} (s : St),(∀ e s,Q e s → Q' e s) → dwp E c Q s → dwp E c Q' s
  | .skip,Q,Q',s,h,hh=>h _ _ hh
  | .region id ops draw,Q,Q',s,h,hh=>by
    cases draw
    · exact dops_mono hE (fun m hm=>h _ _ hm) _ _ _ hh
    · exact dopsD_mono hE (fun m hm=>h _ _ hm) _ _ _ _ hh
  | .seq a b,Q,Q',s,h,hh=>dwp_mono hE a s (thenD_mono (fun s hs=>dwp_mono hE b s h hs) h) hh
  | .cond c a b,Q,Q',s,h,hh=>by
    have hh : condD c s (dwp E a Q) (dwp E b Q):=hh
    show condD c s (dwp E a Q') (dwp E b Q')
    unfold condD at hh ⊢
    generalize ev s.m c = d at hh ⊢
    cases d <;> first | exact hh.elim | skip
    rename_i x
    cases x <;> first | exact hh.elim | skip
    rename_i x
    cases x
    · exact dwp_mono hE b _ h hh
    · exact dwp_mono hE a _ h hh
  | .block id c,Q,Q',s,h,hh=>dwp_mono hE c s (fun e s hs=>by
      cases e with
      | exit id' =>
        have hs : (bif id'.beq id then Q .normal s else Q (.exit id') s):=hs
        show (bif id'.beq id then Q' .normal s else Q' (.exit id') s)
        cases hb : id'.beq id
        · rw [hb] at hs;exact h _ _ hs
        · rw [hb] at hs;exact h _ _ hs
      | _=>exact h _ _ hs) hh
  | .loop c,Q,Q',s,h,hh=>by
    have hh : loopP (dwp E c) Q s (E.lv (regId c)):=hh
    show loopP (dwp E c) Q' s (E.lv (regId c))
    unfold loopP at hh ⊢
    split
    · rename_i e
      rw [e] at hh
      obtain ⟨k,hk⟩:=hh
      refine ⟨k,?_⟩
      have key : ∀ k s,dloop (dwp E c) Q k s → dloop (dwp E c) Q' k s:=by
        intro k
        induction k with
        | zero=>exact fun s hs=>hs
        | succ k ih=>exact fun s hs=>dwp_mono hE c s (thenD_mono ih h) hs
      exact key k s hk
    · rename_i L e
      rw [e] at hh
      obtain ⟨k,hk⟩:=hh
      refine ⟨k,?_⟩
      have key : ∀ (base : Nat) k ds,dloopI (dwp E c) Q L base k ds → dloopI (dwp E c) Q' L base k ds:=by
        intro base k
        induction k with
        | zero=>exact fun ds hs=>hs
        | succ k ih=>exact fun ds hs=>dwp_mono hE c _ (thenD_mono (fun s hs=>restrV_mono _ _ _ _ ih hs) h) hs
      exact restrV_mono _ _ _ _ (key s.nx k) hk
  | .exit id,Q,Q',s,h,hh=>h _ _ hh
  | .ret,Q,Q',s,h,hh=>h _ _ hh
  | .rangeFunc _ _ _ _,Q,Q',s,h,hh=>hh
  | .scope _,Q,Q',s,h,hh=>hh
  | .label _,Q,Q',s,h,hh=>hh
  | .goto _,Q,Q',s,h,hh=>hh
  | .refuse _,Q,Q',s,h,hh=>hh
theorem ok_of {P : Program} {E : Env} {f : FuncId} {fn : Func} {c : Code} {ds l : List D} (hE : EnvOk P E) (hm : P.follows .mixedOrders = true) (hf : P.funcs[f]? = some fn) (hb : fn.body = some c) (hn : fn.ntmps = E.n) (hlen : ds.length ≤ E.n) (hone : oneF (E.sh f) = true)
    (hcall : ∀ (args : Array Value) (w : World),(callFunc f args).run P w = .ok (.enter f args) w) (hd : dwp E c (endD E f fn.results.toList (· = l)) ⟨0,argM 0 ds⟩) : Ok P f ds l :=
  fn_ok hE hm hf hb hn hlen hone hcall (dwp_mono hE.sh c _ (fun e s h=>by cases e <;> first | exact ⟨trivial,h⟩ | exact h.elim) hd)
end Go.Proofs.Ythadnhpkeljdoaa.pv
namespace Go.Proofs.Ythadnhpkeljdoaa.it
open Go.RowKit Go.Shelf
open sg (lst_len)
open lx sx
theorem aheadU_snoc (l : List Tk) (t : Tk) : aheadU (l ++ [t]) = if aheadU l < l.length then aheadU l else if idleB t.1 then l.length + 1 else l.length:=by
  induction l with
  | nil =>
    rw [List.nil_append,aheadU_cons]
    simp [show aheadU [] = 0 from rfl]
  | cons x r ih =>
    rw [List.cons_append,aheadU_cons,aheadU_cons]
    cases hx : idleB x.1 with
    | false=>simp
    | true =>
      simp only [if_true,List.length_cons]
      rw [ih]
      by_cases h : aheadU r < r.length
      · have h2 : aheadU r + 1 < r.length + 1:=by omega
        simp only [if_pos h,if_pos h2]
      · have h2 : ¬ aheadU r + 1 < r.length + 1:=by omega
        simp only [if_neg h,if_neg h2]
        cases idleB t.1 <;> simp
theorem runsFrom_plain (a p : Nat) (l : List Tk) (t : Tk) (hi : idleB t.1 = false) : runsFrom a p (l ++ [t]) = runsFrom a p l ++ [⟨a + sizeT l,p + l.length,[t]⟩]:=by
  generalize hn : l.length = m
  induction m using Nat.strongRecOn generalizing a p l with
  | ind m ih =>
    subst hn
    cases l with
    | nil =>
      rw [List.nil_append,runsFrom,runsFrom]
      simp [aheadU,fidx,runsFrom,sizeT]
    | cons x r =>
      have hk:=aheadU_le r
      have hah : aheadU (r ++ [t]) = aheadU r:=by
        rw [aheadU_snoc]
        split
        · rfl
        · rw [hi];simp;omega
      rw [List.cons_append,runsFrom,runsFrom,hah,List.take_append_of_le_length hk,List.drop_append_of_le_length hk]
      have:=ih (r.drop (aheadU r)).length (by rw [List.length_drop,List.length_cons];omega) (a + sizeT (x :: r.take (aheadU r))) (p + (1 + aheadU r)) (r.drop (aheadU r)) rfl
      rw [this,List.cons_append]
      have e1 : sizeT (x :: r) = sizeT (x :: r.take (aheadU r)) + sizeT (r.drop (aheadU r)):=by
        rw [← sizeT_both,List.cons_append,List.take_append_drop]
      have e2 : (r.drop (aheadU r)).length = r.length - aheadU r:=List.length_drop
      rw [e1,e2,List.length_cons,show a + sizeT (x :: r.take (aheadU r)) + sizeT (r.drop (aheadU r)) = a + (sizeT (x :: r.take (aheadU r)) + sizeT (r.drop (aheadU r))) by omega,show p + (1 + aheadU r) + (r.length - aheadU r) = p + (r.length + 1) by omega]
theorem runsFrom_ne (a p : Nat) (x : Tk) (r : List Tk) : runsFrom a p (x :: r) ≠ []:=by rw [runsFrom];simp
theorem runsFrom_idle (a p : Nat) (l : List Tk) (t : Tk) (hi : idleB t.1 = true) (hl : l ≠ []) :
    ∃ pre x,runsFrom a p l = pre ++ [x] ∧ runsFrom a p (l ++ [t]) = pre ++ [⟨x.at',x.p,x.l ++ [t]⟩] ∧ x.l ≠ []:=by
  generalize hn : l.length = m
  induction m using Nat.strongRecOn generalizing a p l with
  | ind m ih =>
    subst hn
    cases l with
    | nil=>exact absurd rfl hl
    | cons x r =>
      have hk:=aheadU_le r
      rw [List.cons_append,runsFrom,runsFrom]
      by_cases hlt : aheadU r < r.length
      · have hah : aheadU (r ++ [t]) = aheadU r:=by rw [aheadU_snoc,if_pos hlt]
        rw [hah,List.take_append_of_le_length hk,List.drop_append_of_le_length hk]
        obtain ⟨pre,y,h1,h2,h3⟩:=ih (r.drop (aheadU r)).length (by rw [List.length_drop,List.length_cons];omega) (a + sizeT (x :: r.take (aheadU r))) (p + (1 + aheadU r)) (r.drop (aheadU r)) (fun e=>by have:=congrArg List.length e;rw [List.length_drop] at this;simp at this;omega) rfl
        rw [h1,h2]
        exact ⟨_ :: pre,y,rfl,rfl,h3⟩
      · have hall : aheadU r = r.length:=by omega
        have hah : aheadU (r ++ [t]) = r.length + 1:=by rw [aheadU_snoc,if_neg hlt,hi];rfl
        rw [hah,hall,List.take_length,List.drop_length,runsFrom,List.take_of_length_le (by simp),List.drop_of_length_le (by simp),runsFrom]
        exact ⟨[],⟨a,p,x :: r⟩,rfl,rfl,by simp⟩
def leadU (l : List Tk) : List ByteArray:=notesU (l.take (aheadU l))
theorem runs_empty {l : List Tk} : runsU l = [] ↔ aheadU l = l.length:=by
  unfold runsU
  have hk:=aheadU_le l
  cases hd : l.drop (aheadU l) with
  | nil =>
    have:=congrArg List.length hd
    rw [List.length_drop] at this
    simp at this
    exact ⟨fun _=>by omega,fun _=>by rw [runsFrom]⟩
  | cons x r =>
    have:=congrArg List.length hd
    rw [List.length_drop,List.length_cons] at this
    exact ⟨fun e=>absurd e (runsFrom_ne _ _ _ _),fun e=>by omega⟩
theorem step_plain (l : List Tk) (t : Tk) (hi : idleB t.1 = false) : runsU (l ++ [t]) = runsU l ++ [⟨sizeT l,l.length,[t]⟩] ∧ leadU (l ++ [t]) = leadU l:=by
  have hk:=aheadU_le l
  have hah : aheadU (l ++ [t]) = aheadU l:=by
    rw [aheadU_snoc]
    split
    · rfl
    · rw [hi];simp;omega
  constructor
  · unfold runsU
    rw [hah,List.take_append_of_le_length hk,List.drop_append_of_le_length hk,runsFrom_plain _ _ _ _ hi]
    congr 1
    have e1:=congrArg sizeT (List.take_append_drop (aheadU l) l)
    rw [sizeT_both] at e1
    rw [e1,List.length_drop,show aheadU l + (l.length - aheadU l) = l.length by omega]
  · unfold leadU
    rw [hah,List.take_append_of_le_length hk]
theorem step_lead (l : List Tk) (t : Tk) (hi : idleB t.1 = true) (hr : runsU l = []) : runsU (l ++ [t]) = [] ∧ leadU (l ++ [t]) = leadU l ++ notesU [t]:=by
  have h0:=runs_empty.1 hr
  have hah : aheadU (l ++ [t]) = l.length + 1:=by rw [aheadU_snoc,if_neg (by omega),hi];rfl
  constructor
  · rw [runs_empty,hah];simp
  · unfold leadU
    rw [hah,h0,List.take_length,List.take_of_length_le (by simp),notesU_app]
theorem step_behind (l : List Tk) (t : Tk) (hi : idleB t.1 = true) (hr : runsU l ≠ []) :
    (∃ pre x,runsU l = pre ++ [x] ∧ runsU (l ++ [t]) = pre ++ [⟨x.at',x.p,x.l ++ [t]⟩] ∧ x.l ≠ []) ∧ leadU (l ++ [t]) = leadU l:=by
  have hk:=aheadU_le l
  have hlt : aheadU l < l.length:=by
    have h1 : ¬ aheadU l = l.length:=fun e=>hr (runs_empty.2 e)
    omega
  have hah : aheadU (l ++ [t]) = aheadU l:=by rw [aheadU_snoc,if_pos hlt]
  constructor
  · unfold runsU
    rw [hah,List.take_append_of_le_length hk,List.drop_append_of_le_length hk]
    exact runsFrom_idle _ _ _ _ hi (fun e=>by have:=congrArg List.length e;rw [List.length_drop] at this;simp at this;omega)
  · unfold leadU
    rw [hah,List.take_append_of_le_length hk]
theorem head_app {l : List Tk} (h : l ≠ []) (m : List Tk) (d : Tk) : (l ++ m).headD d = l.headD d:=by
  cases l with
  | nil=>exact absurd rfl h
  | cons a r=>rfl
end Go.Proofs.Ythadnhpkeljdoaa.it
namespace Go.Proofs.Ythadnhpkeljdoaa.pv
open Go.RowKit
def tyT : Tys:=[
 (2,⟨.int .i64,1,8,[.v (.int .i64 0)]⟩),
 (3,⟨.int .i64,1,8,[.v (.int .i64 0)]⟩),
 (4,⟨.bool,1,1,[.v (.bool false)]⟩),
 (5,⟨.int .u8,1,1,[.v (.int .u8 0)]⟩),
 (6,⟨.int .u8,1,1,[.v (.int .u8 0)]⟩),
 (7,⟨.st [(0,2),(1,3),(2,4),(3,6)],4,24,[.v (.int .i64 0),.v (.int .i64 0),.v (.bool false),.v (.int .u8 0)]⟩),
 (8,⟨.st [(0,2),(1,3),(2,4),(3,6)],4,24,[.v (.int .i64 0),.v (.int .i64 0),.v (.bool false),.v (.int .u8 0)]⟩),
 (9,⟨.str,1,16,[.v (.string ⟨#[]⟩)]⟩),
 (10,⟨.str,1,16,[.v (.string ⟨#[]⟩)]⟩),
 (11,⟨.str,1,16,[.v (.string ⟨#[]⟩)]⟩),
 (12,⟨.int .u64,1,8,[.v (.int .u64 0)]⟩),
 (13,⟨.st [(0,9),(1,12)],2,24,[.v (.string ⟨#[]⟩),.v (.int .u64 0)]⟩),
 (14,⟨.st [(0,9),(1,12)],2,24,[.v (.string ⟨#[]⟩),.v (.int .u64 0)]⟩),
 (21,⟨.int .i32,1,4,[.v (.int .i32 0)]⟩),
 (22,⟨.sl 5,1,24,[.sl .nil []]⟩),
 (23,⟨.sl 25,1,24,[.sl .nil []]⟩),
 (24,⟨.st [(0,3),(1,9),(2,23)],3,48,[.v (.int .i64 0),.v (.string ⟨#[]⟩),.sl .nil []]⟩),
 (25,⟨.st [(0,3),(1,9),(2,23)],3,48,[.v (.int .i64 0),.v (.string ⟨#[]⟩),.sl .nil []]⟩),
 (28,⟨.sl 31,1,24,[.sl .nil []]⟩),
 (31,⟨.sl 3,1,24,[.sl .nil []]⟩),
 (45,⟨.sl 54,1,24,[.sl .nil []]⟩),
 (48,⟨.sl 9,1,24,[.sl .nil []]⟩),
 (49,⟨.sl 56,1,24,[.sl .nil []]⟩),
 (53,⟨.st [(0,3),(1,9)],2,24,[.v (.int .i64 0),.v (.string ⟨#[]⟩)]⟩),
 (54,⟨.st [(0,3),(1,9)],2,24,[.v (.int .i64 0),.v (.string ⟨#[]⟩)]⟩),
 (55,⟨.st [(0,54),(2,3),(3,48)],4,56,[.v (.int .i64 0),.v (.string ⟨#[]⟩),.v (.int .i64 0),.sl .nil []]⟩),
 (56,⟨.st [(0,54),(2,3),(3,48)],4,56,[.v (.int .i64 0),.v (.string ⟨#[]⟩),.v (.int .i64 0),.sl .nil []]⟩),
 (58,⟨.st [(0,22),(1,3)],2,32,[.sl .nil [],.v (.int .i64 0)]⟩),
 (59,⟨.st [(0,22),(1,3)],2,32,[.sl .nil [],.v (.int .i64 0)]⟩),
 (65,⟨.st [(0,9),(1,3),(2,45),(3,31),(4,4),(5,3)],6,88,[.v (.string ⟨#[]⟩),.v (.int .i64 0),.sl .nil [],.sl .nil [],.v (.bool false),.v (.int .i64 0)]⟩),
 (66,⟨.st [(0,9),(1,3),(2,45),(3,31),(4,4),(5,3)],6,88,[.v (.string ⟨#[]⟩),.v (.int .i64 0),.sl .nil [],.sl .nil [],.v (.bool false),.v (.int .i64 0)]⟩),
 (70,⟨.st [(0,49),(1,3),(2,4)],3,40,[.sl .nil [],.v (.int .i64 0),.v (.bool false)]⟩),
 (71,⟨.st [(0,49),(1,3),(2,4)],3,40,[.sl .nil [],.v (.int .i64 0),.v (.bool false)]⟩),
 (85,⟨.int .u64,1,8,[.v (.int .u64 0)]⟩),
 (99,⟨.sl 48,1,24,[.sl .nil []]⟩),
 (112,⟨.int .u32,1,4,[.v (.int .u32 0)]⟩),
 (113,⟨.int .u8,1,1,[.v (.int .u8 0)]⟩),
 (114,⟨.int .u8,1,1,[.v (.int .u8 0)]⟩),
 (116,⟨.int .i32,1,4,[.v (.int .i32 0)]⟩),
 (117,⟨.int .i32,1,4,[.v (.int .i32 0)]⟩)]
def shT : List (FuncId × Sh):=[
 (0,[]),
 (1,[]),
 (2,[]),
 (3,[(false,[.b])]),
 (4,[(true,[.i .i64,.s,.l]),(false,[.b])]),
 (5,[(false,[.l])]),
 (6,[(false,[.l])]),
 (7,[(false,[.b])]),
 (8,[(false,[.b])]),
 (9,[(true,[.i .i64,.s,.l]),(false,[.i .i64]),(false,[.i .i64])]),
 (10,[(false,[.s])]),
 (11,[(false,[.l])]),
 (13,[(false,[.b])]),
 (14,[(false,[.l])]),
 (15,[(false,[.b])]),
 (16,[(true,[.i .i64,.s,.l])]),
 (17,[(false,[.b])]),
 (18,[(false,[.l]),(false,[.i .i64]),(false,[.i .i64])]),
 (19,[(false,[.l]),(false,[.l])]),
 (20,[(true,[.i .i64,.s,.l]),(false,[.i .i64]),(false,[.i .i64])]),
 (21,[(false,[.i .i64])]),
 (22,[(false,[.s])]),
 (23,[]),
 (24,[(false,[.b])]),
 (25,[(true,[.i .i64,.s,.l])]),
 (26,[(true,[.i .i64,.s,.l])]),
 (27,[(false,[.b])]),
 (28,[(false,[.i .i64])]),
 (29,[(true,[.s,.i .i64,.l,.l,.b,.i .i64])]),
 (30,[(true,[.s,.i .i64,.l,.l,.b,.i .i64])]),
 (31,[(false,[.b])]),
 (32,[(false,[.i .i64])]),
 (33,[(true,[.l,.i .i64,.b]),(true,[.i .i64,.s,.l])]),
 (34,[(false,[.s])]),
 (35,[(false,[.s])]),
 (36,[(false,[.s])]),
 (37,[(false,[.s])]),
 (38,[(false,[.s])]),
 (39,[(false,[.s])]),
 (40,[(false,[.f 25 3])]),
 (41,[(false,[.b])]),
 (42,[(false,[.i .i64])]),
 (43,[(false,[.i .i64])]),
 (44,[(true,[.s,.i .i64,.l,.l,.b,.i .i64])]),
 (45,[(true,[.i .i64,.s])]),
 (46,[(false,[.b])]),
 (47,[(true,[.l,.i .i64,.b]),(true,[.i .i64,.s,.l])]),
 (48,[(true,[.l,.i .i64,.b]),(true,[.i .i64,.s,.l])]),
 (49,[(true,[.l,.i .i64,.b]),(true,[.i .i64,.s,.l])]),
 (50,[(true,[.l,.i .i64,.b])]),
 (51,[(false,[.s])]),
 (52,[(false,[.s])]),
 (53,[(false,[.s])]),
 (54,[(false,[.i .i64])]),
 (55,[(false,[.i .i64])]),
 (56,[(false,[.b])]),
 (57,[(false,[.i .i64])]),
 (58,[(false,[.i .i64])]),
 (59,[(false,[.i .i64])]),
 (60,[(false,[.b])]),
 (61,[(false,[.i .i64])]),
 (62,[(false,[.i .i64])]),
 (63,[(false,[.i .i64])]),
 (64,[(true,[.i .i64,.s])]),
 (65,[(true,[.l,.i .i64,.b])]),
 (66,[(true,[.l,.i .i64,.b]),(true,[.i .i64,.s,.l])]),
 (67,[(true,[.l,.i .i64,.b])]),
 (68,[(true,[.l,.i .i64,.b]),(false,[.s])]),
 (69,[(false,[.b])]),
 (70,[(true,[.l,.i .i64,.b]),(false,[.f 25 3])]),
 (71,[(true,[.l,.i .i64,.b]),(true,[.i .i64,.s,.l])]),
 (72,[(false,[.b])]),
 (73,[(false,[.i .i64])]),
 (74,[(false,[.b])]),
 (75,[(false,[.i .i64])]),
 (76,[(false,[.l])]),
 (77,[(true,[.l,.i .i64,.b])]),
 (78,[(false,[.b])]),
 (79,[(true,[.l,.i .i64,.b]),(true,[.i .i64,.s,.l])]),
 (80,[(false,[.s])]),
 (81,[(false,[.i .i64])]),
 (82,[(false,[.i .i64])]),
 (83,[(false,[.i .i64])]),
 (84,[(true,[.l,.i .i64,.b]),(false,[.s])]),
 (85,[(false,[.b])]),
 (86,[(true,[.l,.i .i64,.b]),(true,[.i .i64,.s,.l])]),
 (87,[(true,[.l,.i .i64,.b]),(true,[.i .i64,.s,.l])]),
 (88,[(false,[.s])]),
 (89,[(false,[.l])]),
 (90,[(true,[.l,.i .i64,.b]),(true,[.i .i64,.s,.l])]),
 (91,[(true,[.l,.i .i64,.b]),(true,[.i .i64,.s,.l])]),
 (92,[(true,[.l,.i .i64,.b]),(true,[.i .i64,.s,.l])]),
 (93,[(true,[.i .i64,.s,.l]),(false,[.b])]),
 (94,[(true,[.l,.i .i64,.b]),(true,[.i .i64,.s,.l])]),
 (95,[(true,[.l,.i .i64,.b]),(true,[.i .i64,.s,.l])]),
 (96,[(true,[.l,.i .i64,.b]),(true,[.i .i64,.s,.l]),(false,[.b])]),
 (97,[(true,[.l,.i .i64,.b]),(true,[.i .i64,.s,.l])]),
 (98,[(true,[.l,.i .i64,.b]),(true,[.i .i64,.s,.l])]),
 (99,[(true,[.l,.i .i64,.b]),(true,[.i .i64,.s,.l])]),
 (100,[(true,[.l,.i .i64,.b]),(true,[.i .i64,.s,.l])]),
 (101,[(true,[.l,.i .i64,.b]),(true,[.i .i64,.s,.l])]),
 (102,[(false,[.s])]),
 (103,[]),
 (104,[(false,[.s])]),
 (105,[]),
 (106,[(false,[.s])]),
 (107,[]),
 (108,[(false,[.s])]),
 (109,[]),
 (110,[(false,[.s])]),
 (111,[]),
 (112,[(false,[.s])]),
 (113,[]),
 (114,[(false,[.i .i64])]),
 (115,[(false,[.s])]),
 (116,[]),
 (117,[(false,[.s])])]
theorem tyT_ok : TysOk Try.prog tyT:=tys_ok (by kernel_rfl)
def lvOf : List (Nat × Ann) → Nat → Option Ann
 | [],_=>none
 | (i,L) :: r,j=>bif i.beq j then some L else lvOf r j
def En (n : Nat) (lv : List (Nat × Ann)) : Env:=⟨tyT,shOf shT,Ok Try.prog,n,lvOf lv⟩
theorem en_ok (n : Nat) (lv : List (Nat × Ann)) : EnvOk Try.prog (En n lv):=⟨tyT_ok,shOf_ok (by decide +kernel),fun _ _ _ h=>h⟩
theorem follows : Try.prog.follows .mixedOrders = true:=by kernel_rfl
end Go.Proofs.Ythadnhpkeljdoaa.pv
namespace Go.Proofs.Ythadnhpkeljdoaa.it
open Go.Lib (hid)
open Go.RowKit Go.Shelf
open sg (lst_len)
open lx sx
attribute [local go_sem] Oper.semAt_some
theorem own_not {W : World} {base size n g : Nat} {e e2 : TypeId} {v : Value} {xs : List Value} (h : W.ownsRow base e size v n xs) (hg : ∃ c,W.heap[g]? = some (.cells c e2 (0,0))) (hne : e ≠ e2) : v.ownBlock ≠ some g:=by
  intro hv
  rcases h.2 with ⟨rfl,_⟩ | ⟨g',cap,cur,rfl,h2,h3,h4⟩
  · simp [Value.ownBlock] at hv
  · obtain rfl : g' = g:=by simpa [Value.ownBlock] using hv
    obtain ⟨c,hc⟩:=hg
    rw [h3] at hc
    cases hc
    exact hne rfl
theorem notesAt_init {base : Nat} {W : World} {pre : List Run} {x : Run} {nvp : List Value} {nv : Value} (hl : nvp.length = pre.length) (h : NotesAt base W (pre ++ [x]) (nvp ++ [nv])) : NotesAt base W pre nvp ∧ W.ownsRow base 9 1 nv (notesU x.l).length (strs (notesU x.l)):=by
  induction pre generalizing nvp with
  | nil=>cases nvp with
    | nil=>exact ⟨trivial,h.1⟩
    | cons _ _=>cases hl
  | cons y ys ih=>cases nvp with
    | nil=>cases hl
    | cons mv mvs=>exact ⟨⟨h.1,(ih (by simpa using hl) h.2).1⟩,(ih (by simpa using hl) h.2).2⟩
theorem nvs_snoc {base : Nat} {W : World} {pre : List Run} {x : Run} {nvs : List Value} (h : NotesAt base W (pre ++ [x]) nvs) : ∃ a b,nvs = a ++ [b] ∧ a.length = pre.length:=by
  have hl:=h.len
  rw [List.length_append] at hl
  refine ⟨nvs.dropLast,nvs.getLast (fun e=>by subst e;simp at hl),(List.dropLast_concat_getLast _).symm,?_⟩
  rw [List.length_dropLast,hl];simp
structure RI (w : World) (ts : List Tk) (k : Nat) (ld ot : Value) (wr : World) : Prop where
  lead : wr.ownsRow w.heap.size 9 1 ld (leadU (ts.take k)).length (strs (leadU (ts.take k)))
  out : ∃ nvs,wr.ownsRow w.heap.size 56 4 ot (runsU (ts.take k)).length (itemCells (runsU (ts.take k)) nvs) ∧ NotesAt w.heap.size wr (runsU (ts.take k)) nvs
  hb : Below w.heap.size w wr
theorem RI.zero (w : World) (ts : List Tk) : RI w ts 0 (.slice none 0 0) (.slice none 0 0) w :=
  ⟨World.ownsRow_nil _ _ _ _,⟨[],by rw [List.take_zero,runsU_nil];exact ⟨World.ownsRow_nil _ _ _ _,trivial⟩⟩,Below.refl _ _⟩
theorem RI.size {w wr : World} {ts : List Tk} {k : Nat} {ld ot : Value} (h : RI w ts k ld ot wr) : w.heap.size ≤ wr.heap.size:=h.hb.size
theorem RI.next {w wr wz : World} {ts : List Tk} {k : Nat} {ld ot : Value} (h : RI w ts k ld ot wr) (hb : Below wr.heap.size wr wz) : RI w ts k ld ot wz:=by
  obtain ⟨nvs,h1,h2⟩:=h.out
  exact ⟨ownsRow_below h.lead hb,⟨nvs,ownsRow_below h1 hb,h2.own hb⟩,h.hb.trans (hb.mono h.size)⟩
theorem RI.plain {w wr w3 : World} {ts : List Tk} {k : Nat} {ld ot v' : Value} {kt : Int} {tx : ByteArray} {nvs : List Value} (h : RI w ts k ld ot wr) (ht : ts[k]? = some (kt,tx)) (hi : idleB kt = false)
    (ho : wr.ownsRow w.heap.size 56 4 ot (runsU (ts.take k)).length (itemCells (runsU (ts.take k)) nvs)) (hN : NotesAt w.heap.size wr (runsU (ts.take k)) nvs)
    (hown : w3.ownsRow w.heap.size 56 4 v' ((runsU (ts.take k)).length + 1) (itemCells (runsU (ts.take k)) nvs ++ [.int .i64 kt,.string tx,.int .i64 (sizeT (ts.take k) : Int),.slice none 0 0]))
    {o : Obj} (hg : (wr.alloc o).grownBy w3 ot.ownBlock) : RI w ts (k + 1) ld v' w3:=by
  obtain ⟨hr,hl⟩:=step_plain (ts.take k) (kt,tx) hi
  have htk:=take_snoc ts k (kt,tx) ht
  rw [← htk] at hr hl
  have hne2 : kt ≠ 2:=fun e=>by rw [e] at hi;exact absurd hi (by decide)
  obtain ⟨hbx,hko,hbe,hty⟩:=appended (Below.refl _ wr) ho hg h.size
  refine ⟨?_,⟨nvs ++ [.slice none 0 0],?_,?_⟩,h.hb.trans hbe⟩
  · rw [hl]
    exact own_typed h.lead (by decide) hty
  · rw [hr,List.length_append,itemCells_snoc hN.len]
    exact hown
  · rw [hr]
    refine (hN.typed (by decide) hty).snoc ?_
    have e0 : notesU [(kt,tx)] = []:=notesU_no [] (kt,tx) hne2
    rw [show (⟨sizeT (ts.take k),(ts.take k).length,[(kt,tx)]⟩ : Run).l = [(kt,tx)] from rfl,e0]
    exact World.ownsRow_nil _ _ _ _
theorem RI.space {w wr : World} {ts : List Tk} {k : Nat} {ld ot : Value} {kt : Int} {tx : ByteArray} (h : RI w ts k ld ot wr) (ht : ts[k]? = some (kt,tx)) (hi : idleB kt = true) (h2 : kt ≠ 2) : RI w ts (k + 1) ld ot wr:=by
  have htk:=take_snoc ts k (kt,tx) ht
  have e0 : ∀ l : List Tk,notesU (l ++ [(kt,tx)]) = notesU l:=fun l=>notesU_no l (kt,tx) h2
  obtain ⟨nvs,ho,hN⟩:=h.out
  by_cases hr : runsU (ts.take k) = []
  · obtain ⟨h1,h3⟩:=step_lead (ts.take k) (kt,tx) hi hr
    rw [← htk] at h1 h3
    have e1 : notesU [(kt,tx)] = []:=e0 []
    rw [e1,List.append_nil] at h3
    rw [hr] at ho hN
    exact ⟨by rw [h3];exact h.lead,⟨nvs,by rw [h1];exact ho,by rw [h1];exact hN⟩,h.hb⟩
  · obtain ⟨⟨pre,x,p1,p2,p3⟩,h3⟩:=step_behind (ts.take k) (kt,tx) hi hr
    rw [← htk] at p2 h3
    rw [p1] at ho hN
    refine ⟨by rw [h3];exact h.lead,⟨nvs,?_,?_⟩,h.hb⟩
    all_goals rw [p2]
    · obtain ⟨nvp,nv,rfl,hlp⟩:=nvs_snoc hN
      rw [itemCells_snoc hlp] at ho ⊢
      rw [List.length_append] at ho ⊢
      simp only [head_app p3]
      exact ho
    · obtain ⟨nvp,nv,rfl,hlp⟩:=nvs_snoc hN
      obtain ⟨hp,hx⟩:=notesAt_init hlp hN
      refine hp.snoc ?_
      rw [show (⟨x.at',x.p,x.l ++ [(kt,tx)]⟩ : Run).l = x.l ++ [(kt,tx)] from rfl,e0]
      exact hx
theorem RI.ahead {w wr w3 : World} {ts : List Tk} {k : Nat} {ld ot v' : Value} {tx : ByteArray} (h : RI w ts k ld ot wr) (ht : ts[k]? = some (2,tx)) (hr : (runsU (ts.take k)).length = 0)
    (hown : w3.ownsRow w.heap.size 9 1 v' ((leadU (ts.take k)).length + 1) (strs (leadU (ts.take k)) ++ [.string tx]))
    {o : Obj} (hg : (wr.alloc o).grownBy w3 ld.ownBlock) : RI w ts (k + 1) v' ot w3:=by
  have hr0:=List.length_eq_zero_iff.1 hr
  have htk:=take_snoc ts k (2,tx) ht
  obtain ⟨h1,h3⟩:=step_lead (ts.take k) (2,tx) rfl hr0
  rw [← htk] at h1 h3
  have e1 : notesU [(2,tx)] = [tx]:=notesU_yes [] (2,tx) rfl
  rw [e1] at h3
  obtain ⟨nvs,ho,hN⟩:=h.out
  obtain ⟨hbx,hko,hbe,hty⟩:=appended (Below.refl _ wr) h.lead hg h.size
  rw [hr0] at ho hN
  refine ⟨?_,⟨nvs,?_,?_⟩,h.hb.trans hbe⟩
  · rw [h3,strs_snoc,List.length_append]
    exact hown
  · rw [h1]
    exact own_typed ho (by decide) hty
  · rw [h1]
    cases nvs with
    | nil=>trivial
    | cons _ _=>exact hN.elim
theorem RI.last {w wr : World} {ts : List Tk} {k p : Nat} {ld ot : Value} (h : RI w ts k ld ot wr) (hp : (runsU (ts.take k)).length = p + 1) :
    ∃ g cap pre x nvp nv,ot = .slice (some ⟨g,0,none⟩) (p + 1) cap ∧ g < wr.heap.size ∧ runsU (ts.take k) = pre ++ [x] ∧ pre.length = p ∧ nvp.length = p ∧
      wr.ownsRow w.heap.size 56 4 (.slice (some ⟨g,0,none⟩) (p + 1) cap) (p + 1) (itemCells pre nvp ++ [.int .i64 ((x.l.headD (0,⟨#[]⟩)).1),.string (x.l.headD (0,⟨#[]⟩)).2,.int .i64 (x.at' : Int),nv]) ∧
      NotesAt w.heap.size wr pre nvp ∧ wr.ownsRow w.heap.size 9 1 nv (notesU x.l).length (strs (notesU x.l)) ∧ wr.cell? ⟨g,p * 4 + 3,none⟩ = some nv:=by
  obtain ⟨nvs,ho,hN⟩:=h.out
  obtain ⟨pre,x,hpx⟩ : ∃ pre x,runsU (ts.take k) = pre ++ [x]:=by
    have hne : runsU (ts.take k) ≠ []:=fun e=>by rw [e] at hp;simp at hp
    exact ⟨_,_,(List.dropLast_concat_getLast hne).symm⟩
  rw [hpx] at ho hN hp
  have hpl : pre.length = p:=by simpa using hp
  obtain ⟨nvp,nv,rfl,hlp⟩:=nvs_snoc hN
  obtain ⟨hP,hx⟩:=notesAt_init hlp hN
  rw [hp] at ho
  have ho':=ho
  rw [itemCells_snoc hlp] at ho'
  obtain ⟨oa,cap,rfl,_⟩:=own_len ho'
  rw [← hp] at ho
  obtain ⟨g,nv',hg,hgl,hnv,_,_,_,c3,_⟩:=item_get (n:=0) ho hN p x (by rw [← hpl];simp)
  subst hg
  obtain rfl : nv = nv':=by
    rw [← hpl,← hlp] at hnv
    simpa using hnv
  exact ⟨g,cap,pre,x,nvp,nv,rfl,hgl,hpx,hpl,by omega,ho',hP,hx,c3⟩
theorem RI.note {w wr w4 : World} {ts : List Tk} {k p g cap M : Nat} {ld : Value} {tx : ByteArray} {pre : List Run} {x : Run} {nvp : List Value} {nv v' : Value} (h : RI w ts k ld (.slice (some ⟨g,0,none⟩) M cap) wr) (hM : p + 1 = M) (ht : ts[k]? = some (2,tx))
    (hg : g < wr.heap.size) (hpx : runsU (ts.take k) = pre ++ [x]) (hpl : pre.length = p) (hlp : nvp.length = p)
    (ho : wr.ownsRow w.heap.size 56 4 (.slice (some ⟨g,0,none⟩) M cap) M (itemCells pre nvp ++ [.int .i64 ((x.l.headD (0,⟨#[]⟩)).1),.string (x.l.headD (0,⟨#[]⟩)).2,.int .i64 (x.at' : Int),nv]))
    (hP : NotesAt w.heap.size wr pre nvp) (hb4 : Below wr.heap.size wr w4)
    (hown : w4.ownsRow wr.heap.size 9 1 v' ((notesU x.l).length + 1) (strs (notesU x.l) ++ [.string tx])) :
    RI w ts (k + 1) ld (.slice (some ⟨g,0,none⟩) M cap) (w4.setCell ⟨g,p * 4 + 3,none⟩ v'):=by
  subst hM
  have htk:=take_snoc ts k (2,tx) ht
  obtain ⟨⟨pre2,x2,p1,p2,p3⟩,h3⟩:=step_behind (ts.take k) (2,tx) rfl (fun e=>by rw [hpx] at e;simp at e)
  rw [← htk] at p2 h3
  rw [hpx] at p1
  obtain ⟨rfl,hx⟩:=List.append_inj p1 (by have:=congrArg List.length p1;simpa using this)
  obtain rfl : x = x2:=by simpa using hx
  have ho4:=ownsRow_below ho hb4
  have hblk : ∃ c,w4.heap[g]? = some (.cells c 56 (0,0)):=by
    rcases ho4.2 with ⟨e,_⟩ | ⟨g',cap',cur,e,h2,h3',h4⟩
    · cases e
    · cases e
      exact ⟨_,h3'⟩
  have hfar : ∀ (base n : Nat) v xs,w4.ownsRow base 9 1 v n xs → (w4.setCell ⟨g,p * 4 + 3,none⟩ v').ownsRow base 9 1 v n xs:=fun base n v xs hv =>
    ownsRow_setCell_other hv (own_not hv hblk (by decide)) v'
  have hst:=(ho4.stored (p * 4 + 3) v').1
  have hgw : w.heap.size ≤ g:=by
    rcases ho.2 with ⟨e,_⟩ | ⟨g',cap',cur,e,h2,h3',h4⟩
    · cases e
    · cases e
      exact h2
  refine ⟨?_,⟨nvp ++ [v'],?_,?_⟩,(h.hb.trans (hb4.mono h.size)).setCell (p:=⟨g,p * 4 + 3,none⟩) hgw _⟩
  · rw [h3]
    exact hfar _ _ _ _ (ownsRow_below h.lead hb4)
  · rw [p2,List.length_append,itemCells_snoc (by omega),hpl]
    have hcl : (itemCells pre nvp).length = p * 4:=by
      have:=ho.1
      rw [List.length_append] at this
      simp only [List.length_cons,List.length_nil] at this
      omega
    rw [List.set_append_right _ _ (by omega),hcl,show p * 4 + 3 - p * 4 = 3 by omega] at hst
    rw [show (⟨x.at',x.p,x.l ++ [(2,tx)]⟩ : Run).l = x.l ++ [(2,tx)] from rfl,head_app p3]
    exact hst
  · rw [p2]
    refine NotesAt.snoc ((hP.own hb4).map (fun v n xs hv=>hfar _ _ _ _ hv)) ?_
    rw [show (⟨x.at',x.p,x.l ++ [(2,tx)]⟩ : Run).l = x.l ++ [(2,tx)] from rfl,notesU_yes _ (2,tx) rfl,List.length_append,strs_snoc]
    exact hfar _ _ _ _ (own_base hown h.size)
theorem wadd3 {a b c : Nat} (h : a + b = c) (hc : c ≤ 1000000) : wrap64 ((a : Int) + (b : Int)) = (c : Int):=by rw [IntWalk.wrap64_in _ (by omega)];omega
theorem wsub1 {p N : Nat} (h : N = p + 1) (hc : N ≤ 1000000) : wrap64 ((N : Int) - 1) = (p : Int):=by rw [IntWalk.wrap64_in _ (by omega)];omega
theorem run_len (ts : List Tk) (x : Run) (h : x ∈ runsU ts) : x.l.length ≤ ts.length:=by
  have : ∀ (a p : Nat) (l : List Tk),∀ x ∈ runsFrom a p l,x.l.length ≤ l.length:=by
    intro a p l
    generalize hn : l.length = m
    induction m using Nat.strongRecOn generalizing a p l with
    | ind m ih =>
      cases l with
      | nil=>rw [runsFrom];intro x hx;cases hx
      | cons t r =>
        have hk:=aheadU_le r
        rw [runsFrom]
        intro x hx
        simp only [List.length_cons] at hn
        rcases List.mem_cons.1 hx with rfl | hx
        · simp only [List.length_cons,List.length_take];omega
        · have:=ih (r.drop (aheadU r)).length (by rw [List.length_drop];omega) _ _ _ rfl x hx
          rw [List.length_drop] at this
          omega
  have h1:=this _ _ _ x h
  rw [List.length_drop] at h1
  omega
structure RIk (ts : List Tk) (k : Nat) (t : Tk) : Prop where
  tk : ts[k]? = some t
  s1 : sizeT (ts.take k) ≤ 65536
  s2 : sizeT (ts.take k) + t.2.size = sizeT (ts.take (k + 1))
  s3 : sizeT (ts.take (k + 1)) ≤ 65536
  n1 : (runsU (ts.take k)).length ≤ 65536
  n2 : (leadU (ts.take k)).length ≤ 65536
  n3 : ∀ x ∈ runsU (ts.take k),(notesU x.l).length ≤ 65536
theorem RIk.of {ts : List Tk} (hs : sizeT ts ≤ 65536) (hl : ts.length ≤ 65536) {k : Nat} {t : Tk} (h : ts[k]? = some t) : RIk ts k t:=by
  have h1:=sizeT_take ts k
  have h2:=sizeT_take ts (k + 1)
  have htk:=take_snoc ts k t h
  have h3 : sizeT (ts.take k) + t.2.size = sizeT (ts.take (k + 1)):=by rw [htk,sizeT_both];simp [sizeT]
  have h4:=runsU_len (ts.take k)
  have h5 : (ts.take k).length ≤ 65536:=by rw [List.length_take];omega
  refine ⟨h,by omega,h3,by omega,by omega,?_,fun x hx=>?_⟩
  · have:=notesU_len ((ts.take k).take (aheadU (ts.take k)))
    have e : ((ts.take k).take (aheadU (ts.take k))).length ≤ (ts.take k).length:=by rw [List.length_take];omega
    unfold leadU
    omega
  · have:=notesU_len x.l
    have e:=run_len (ts.take k) x hx
    omega
theorem ritems_big (v : Value) (ts : List Tk) (w : World) (h : TksAt w.heap.size w v ts) (hs : sizeT ts ≤ 65536) (hl : ts.length ≤ 65536) :
    Calls Try.prog 19 #[v] w fun e w'=>∃ lv ov nvs,e = .returned (.tuple #[lv,ov]) ∧ w'.ownsRow w.heap.size 9 1 lv (notesU (ts.take (aheadU ts))).length (strs (notesU (ts.take (aheadU ts)))) ∧
        w'.ownsRow w.heap.size 56 4 ov (runsU ts).length (itemCells (runsU ts) nvs) ∧ NotesAt w.heap.size w' (runsU ts) nvs ∧ Below w.heap.size w w':=by
  obtain ⟨ao,cap,rfl,hm,hc⟩:=h
  obtain ⟨i0,hi,hz0,hz1,hz2⟩:=info_parts infoStr
  obtain ⟨j0,hj,hy0,hy1,hy2⟩:=info_parts infoItem
  have HC:=hid hc;have HRI:=hid (fun k t=>@RIk.of ts hs hl k t)
  have HLEN:=hid hl
  clear hc hs hm hl
  go_enter Try.func19,Try.ntmps19
  go_wp2_with fail
  go_loopw [4,5,6,7] (fun ld ot at' i wr=>∃ k : Nat,k ≤ ts.length ∧ i = .int .i64 (k : Int) ∧ at' = .int .i64 (sizeT (ts.take k) : Int) ∧ RI w ts k ld ot wr) (fun _ _ _ i _=>ts.length - (intOf i).toNat)
  case atStart=>exact ⟨0,Nat.zero_le _,rfl,rfl,RI.zero w ts⟩
  case round =>
    obtain ⟨k,hk,rfl,rfl,hR⟩:=hrel
    by_cases hlt : k < ts.length
    · obtain ⟨⟨kt,tx⟩,ht⟩ : ∃ t,ts[k]? = some t:=⟨_,List.getElem?_eq_getElem hlt⟩
      obtain ⟨g,off,rfl,hg,c0,c1⟩:=HC.out k _ ht
      have HRK:=hid (HRI.out k _ ht)
      have HCELL:=hid (show ∀ wz,Below w.heap.size w wz → wz.cell? ⟨g,off + k * 2,none⟩ = some (.int .i64 kt) ∧ wz.cell? ⟨g,off + k * 2 + 1,none⟩ = some (.string tx) from
        fun wz hb=>⟨(hb.cell (p:=⟨g,off + k * 2,none⟩) (World.block_lt_of_cell? w _ c0)).trans c0,(hb.cell (p:=⟨g,off + k * 2 + 1,none⟩) (World.block_lt_of_cell? w _ c1)).trans c1⟩)
      have d0:=(HCELL.out wr hR.hb).1
      have d1:=(HCELL.out wr hR.hb).2
      have hlt1 : (k : Int) < (ts.length : Int):=by omega
      have hk1l : k + 1 ≤ ts.length:=hlt
      have hw1:=wk1 (k:=k) (by have:=HLEN.out;omega)
      obtain ⟨m0,hm0⟩ : ∃ m,sizeT (ts.take k) = m:=⟨_,rfl⟩
      obtain ⟨m1,hm1⟩ : ∃ m,sizeT (ts.take (k + 1)) = m:=⟨_,rfl⟩
      have hws : wrap64 ((m0 : Int) + (tx.size : Int)) = (m1 : Int):=wadd3 (by have:=HRK.out.s2;rw [hm0,hm1] at this;exact this) (by have:=HRK.out.s3;rw [hm1] at this;omega)
      rw [hm0]
      have HM0:=hid hm0;have HM1:=hid hm1;have HR:=hid hR
      have hpl:=fun w=>rplain_calls kt tx w
      clear hm0 hm1 c0 c1 hg hk hlt ht
      cases hi : idleB kt with
      | false =>
        have HI:=hid hi
        have h2 : kt ≠ 2:=fun e=>by rw [e] at hi;exact absurd hi (by decide)
        have q1 : (kt == 2) = false:=beq_eq_false_iff_ne.2 h2
        have q2 : decide (kt = 2) = false:=decide_eq_false h2
        simp only [hi,Bool.not_false] at hpl
        obtain ⟨nvs,ho,hN⟩:=hR.out
        have HO:=hid ho;have HN:=hid hN
        clear hR ho hN hi h2
        go_wp2_with fail
        ((with_reducible refine (hpl _).mono ?_);rintro _ w2 ⟨rfl,hb2⟩)
        have HR2:=hid (HR.out.next hb2)
        have HO2:=hid (ownsRow_below HO.out hb2);have HN2:=hid (HN.out.own hb2)
        obtain ⟨oa,oc,rfl,_⟩:=own_len HO.out
        have e0:=(HCELL.out w2 HR2.out.hb).1
        have e1:=(HCELL.out w2 HR2.out.hb).2
        clear hb2 d0 d1
        go_wp2_with (at_builtin;refine wpList_append_own _ rfl _ _ 49 rfl w.heap.size 56 j0 (.agg #[.int .i64 0,.string ⟨#[]⟩,.int .i64 0,.slice none 0 0]) 4 56 Try.underlying49 hj hy0 hy1 hy2 rfl (by decide) _ _ _ rfl (HO2.out.alloc _) ⟨w2.heap.size,0,none⟩ 1 1 [.int .i64 kt,.string tx,.int .i64 (m0 : Int),.slice none 0 0] rfl rfl (cell_four_new _ _ _ _ _ _) (by simp [Value.oneCell']) (by have:=HRK.out.n1;unfold maxLen;omega) (by have:=HRK.out.n1;omega) (by have:=HR2.out.size;simp;omega) ?_;intro v' w3 hown' hgrow _;have HR3:=hid (HR2.out.plain HRK.out.tk HI.out HO2.out HN2.out (by rw [HM0.out];exact hown') hgrow);have f0:=(HCELL.out w3 HR3.out.hb).1;have f1:=(HCELL.out w3 HR3.out.hb).2;clear hown' hgrow)
        exact ⟨⟨k + 1,hk1l,by rw [hw1],by rw [hws,HM1.out],HR3.out⟩,by rw [hw1];exact meas0 hk1l⟩
      | true =>
        have HI:=hid hi
        simp only [hi,Bool.not_true] at hpl
        by_cases h2 : kt = 2
        · subst h2
          obtain ⟨N,hN⟩ : ∃ N,(runsU (ts.take k)).length = N:=⟨_,rfl⟩
          have hNl : N ≤ 65536:=by have:=HRK.out.n1;omega
          cases N with
          | zero =>
            have HNN:=hid hN
            obtain ⟨oa,oc,rfl⟩ : ∃ oa oc,u5 = .slice oa 0 oc:=by
              obtain ⟨nvs,ho,_⟩:=hR.out
              rw [hN] at ho
              obtain ⟨oa,oc,e,_⟩:=own_len ho
              exact ⟨oa,oc,e⟩
            have q3 : ((0 : Int) == 0) = true:=rfl
            have q4 : decide ((0 : Int) < 0) = false:=rfl
            clear hR hi hN hNl
            go_wp2_with fail
            ((with_reducible refine (hpl _).mono ?_);rintro _ w2 ⟨rfl,hb2⟩)
            have HR2:=hid (HR.out.next hb2)
            obtain ⟨la,lc,rfl,_⟩:=own_len HR2.out.lead
            have e0:=(HCELL.out w2 HR2.out.hb).1
            have e1:=(HCELL.out w2 HR2.out.hb).2
            clear hb2 d0 d1
            go_wp2_with (at_builtin;refine wpList_append_own _ rfl _ _ 48 rfl w.heap.size 9 i0 (.string ⟨#[]⟩) 1 16 Try.underlying48 hi hz0 hz1 hz2 rfl (by decide) _ _ _ rfl (HR2.out.lead.alloc _) ⟨w2.heap.size,0,none⟩ 1 1 [.string tx] rfl rfl (str_new _ _ _) (by simp [Value.oneCell']) (by have:=HRK.out.n2;unfold maxLen;omega) (by have:=HRK.out.n2;omega) (by have:=HR2.out.size;simp;omega) ?_;intro v' w3 hown' hgrow _;have HR3:=hid (HR2.out.ahead HRK.out.tk HNN.out hown' hgrow);have f0:=(HCELL.out w3 HR3.out.hb).1;have f1:=(HCELL.out w3 HR3.out.hb).2;clear hown' hgrow)
            exact ⟨⟨k + 1,hk1l,by rw [hw1],by rw [hws,HM1.out],HR3.out⟩,by rw [hw1];exact meas0 hk1l⟩
          | succ p =>
            obtain ⟨g2,oc,pre,x,nvp,nv,rfl,hg2,hpx,hpl2,hlp,ho,hP,hx,hc3⟩:=hR.last hN
            obtain ⟨M,hM⟩ : ∃ M,p + 1 = M:=⟨_,rfl⟩
            have HP:=hid hP;have HPX:=hid hpx;have HPL:=hid hpl2;have HLP:=hid hlp
            have HXL:=hid (HRK.out.n3 x (by rw [hpx];simp))
            have hwM : wrap64 ((M : Int) - 1) = (p : Int):=wsub1 hM.symm (by omega)
            have hwM' : IntKind.i64.wrap ((M : Int) - 1) = (p : Int):=(IntWalk.i64_left _).trans hwM
            have q3 : ((M : Int) == 0) = false:=beq_eq_false_iff_ne.2 (by omega)
            have q4 : decide ((0 : Int) < (M : Int)) = true:=decide_eq_true (by omega)
            have hpM : (p : Int) < (M : Int):=by omega
            rw [hM] at hR ho
            have HM:=hid hM;have HO:=hid ho;have HX:=hid hx;have HR':=hid hR;have HG2:=hid hg2
            rw [hM]
            clear hR hi hN hNl hpx hP hpl2 hlp ho hx hg2 hM
            go_wp2_with fail
            ((with_reducible refine (hpl _).mono ?_);rintro _ w2 ⟨rfl,hb2⟩)
            have HR2:=hid (HR'.out.next hb2)
            have HO2:=hid (ownsRow_below HO.out hb2);have HP2:=hid (HP.out.own hb2);have HX2:=hid (ownsRow_below HX.out hb2)
            have HG22:=hid (Nat.lt_of_lt_of_le HG2.out hb2.size)
            have e3 : w2.cell? ⟨g2,p * 4 + 3,none⟩ = some nv:=(hb2.cell (World.block_lt_of_cell? wr _ hc3)).trans hc3
            have e0:=(HCELL.out w2 HR2.out.hb).1
            have e1:=(HCELL.out w2 HR2.out.hb).2
            clear hb2 d0 d1 hc3
            go_wp2_with (at_builtin;first | (refine wpList_append_own _ rfl _ _ 48 rfl w2.heap.size 9 i0 (.string ⟨#[]⟩) 1 16 Try.underlying48 hi hz0 hz1 hz2 rfl (by decide) _ _ _ rfl (HOWN3.out.alloc _) ⟨w3.heap.size,0,none⟩ 1 1 [.string tx] rfl rfl (str_new _ _ _) (by simp [Value.oneCell']) (by have:=HXL.out;unfold maxLen;omega) (by have:=HXL.out;omega) (by have:=HB3.out.size;simp;omega) ?_;intro v4 w4 hown4 hgrow4 _;have hb4 : Below w2.heap.size w2 w4:=(HB3.out.alloc HB3.out.size (.cells #[.string tx] 9)).grown hgrow4 (by have:=HB3.out.size;simp;omega) (fun j ej=>(HOWN3.out.lt j ej).1);have z0:=(ownsRow_below HO2.out hb4).frozenAt (p * 4 + 3);have z1 : w4.cell? ⟨g2,p * 4 + 3,none⟩ = some nv:=(hb4.cell (World.block_lt_of_cell? w2 _ e3)).trans e3;have HR5:=hid (HR2.out.note HM.out HRK.out.tk HG22.out HPX.out HPL.out HLP.out HO2.out HP2.out hb4 hown4);have e6:=(HCELL.out _ HR5.out.hb).2;obtain ⟨a4,l4,c4,rfl⟩:=own_slice hown4;clear hown4 hgrow4 hb4) | (refine wpList_append_rows _ rfl _ _ 48 rfl w2.heap.size 9 i0 (.string ⟨#[]⟩) 1 16 Try.underlying48 hi hz0 hz1 hz2 rfl (by decide) _ 0 [] rfl (World.ownsRow_nil _ _ _ _) _ _ _ _ rfl HX2.out (strs_one _) (by have:=HXL.out;unfold maxLen;omega) (by have:=HXL.out;omega) (Nat.le_refl _) ?_;intro v3 w3 hown3 hb3;rw [List.nil_append,Nat.zero_add] at hown3;have HB3:=hid hb3;have HOWN3:=hid hown3;have e5:=(HCELL.out w3 (HR2.out.hb.trans (hb3.mono HR2.out.size))).2;obtain ⟨a3,l3,c3,rfl⟩:=own_slice hown3;clear hown3 hb3))
            exact ⟨⟨k + 1,hk1l,by rw [hw1],by rw [hws,HM1.out],HR5.out⟩,by rw [hw1];exact meas0 hk1l⟩
        · have q1 : (kt == 2) = false:=beq_eq_false_iff_ne.2 h2
          have q2 : decide (kt = 2) = false:=decide_eq_false h2
          have H2:=hid h2
          clear hR hi h2
          go_wp2_with fail
          ((with_reducible refine (hpl _).mono ?_);rintro _ w2 ⟨rfl,hb2⟩)
          have HR2:=hid (HR.out.next hb2)
          have e0:=(HCELL.out w2 HR2.out.hb).1
          have e1:=(HCELL.out w2 HR2.out.hb).2
          clear hb2 d0 d1
          go_wp2_with fail
          exact ⟨⟨k + 1,hk1l,by rw [hw1],by rw [hws,HM1.out],HR2.out.space HRK.out.tk HI.out H2.out⟩,by rw [hw1];exact meas0 hk1l⟩
    · obtain rfl : k = ts.length:=by omega
      have hge : decide ((ts.length : Int) < (ts.length : Int)) = false:=by simp
      have HR:=hid hR
      clear hR
      go_wp2_with fail
      obtain ⟨nvs,ho,hN⟩:=HR.out.out
      have hld:=HR.out.lead
      have hbb:=HR.out.hb
      rw [List.take_length] at ho hN hld
      exact bodyPost_ret (v:=.tuple #[u4,u5]) (by simp [results,Try.results19,go_sem]) rfl ⟨_,_,nvs,rfl,hld,ho,hN,hbb⟩
end Go.Proofs.Ythadnhpkeljdoaa.it
namespace Go.Proofs.Ythadnhpkeljdoaa.pv
open Go.RowKit
abbrev dI (n : Int) : D:=.v (.int .i64 n)
abbrev dS (s : ByteArray) : D:=.v (.string s)
abbrev dB (b : Bool) : D:=.v (.bool b)
abbrev dL (es : List (List D)) : D:=.sl .no es
theorem ok_sh {f : FuncId} {fn : Func} {ds l : List D} (lv : List (Nat × Ann)) (hf : Try.prog.funcs[f]? = some fn) (hs : (fn.body.isSome && ds.length.ble fn.ntmps && oneF (shOf shT f)) = true) (hcall : ∀ (args : Array Value) (w : World),(callFunc f args).run Try.prog w = .ok (.enter f args) w)
  (hd : dwp (En fn.ntmps lv) (fn.body.getD .skip) (endD (En fn.ntmps lv) f fn.results.toList (· = l)) ⟨0,argM 0 ds⟩) : Ok Try.prog f ds l:=by
 rw [Bool.and_eq_true,Bool.and_eq_true] at hs
 obtain ⟨c,hc⟩:=Option.isSome_iff_exists.1 hs.1.1
 rw [hc] at hd
 exact ok_of (en_ok _ _) follows hf hc rfl (Nat.le_of_ble_eq_true hs.1.2) hs.2 hcall hd
end Go.Proofs.Ythadnhpkeljdoaa.pv
namespace Go.Proofs.Ythadnhpkeljdoaa.pv
open Go.RowKit
def Dist {α : Type} (T : (α → Prop) → Prop) : Prop:=∀ K,T K → ∃ x,K x ∧ ∀ K' : α → Prop,K' x → T K'
theorem Dist.bind {α β : Type} {T : (α → Prop) → Prop} {U : α → (β → Prop) → Prop} (h1 : Dist T) (h2 : ∀ x,Dist (U x)) : Dist fun K=>T fun x=>U x K:=by
  intro K h
  obtain ⟨x,hx,hT⟩:=h1 _ h
  obtain ⟨y,hy,hU⟩:=h2 x K hx
  exact ⟨y,hy,fun K' hk=>hT _ (hU K' hk)⟩
theorem dist_ret {α : Type} (x : α) : Dist fun K=>K x:=fun K h=>⟨x,h,fun K' hk=>hk⟩
theorem dist_no {α : Type} : Dist fun _ : α → Prop=>False:=fun K h=>h.elim
theorem dist_and {α : Type} {p : Prop} {T : (α → Prop) → Prop} (h : Dist T) : Dist fun K=>p ∧ T K:=by
  intro K hh
  obtain ⟨x,hx,hT⟩:=h K hh.2
  exact ⟨x,hx,fun K' hk=>⟨hh.1,hT K' hk⟩⟩
theorem dist_ex {α β : Type} {T : β → (α → Prop) → Prop} (h : ∀ b,Dist (T b)) : Dist fun K=>∃ b,T b K:=by
  rintro K ⟨b,hb⟩
  obtain ⟨x,hx,hT⟩:=h b K hb
  exact ⟨x,hx,fun K' hk=>⟨b,hT K' hk⟩⟩
theorem dist_if {α : Type} {b : Bool} {T U : (α → Prop) → Prop} (h1 : Dist T) (h2 : Dist U) : Dist fun K=>bif b then T K else U K:=by
  cases b
  · exact h2
  · exact h1
theorem dist_exC : ∀ cs,Dist (exC cs)
  | []=>dist_ret []
  | .b :: r=>dist_ex fun x=>(dist_exC r).bind fun l=>dist_ret _
  | .s :: r=>dist_ex fun x=>(dist_exC r).bind fun l=>dist_ret _
  | .i k :: r=>dist_ex fun x=>(dist_exC r).bind fun l=>dist_ret _
  | .l :: r=>dist_ex fun x=>(dist_exC r).bind fun l=>dist_ret _
  | .f e sz :: r=>dist_ex fun x=>(dist_exC r).bind fun l=>dist_ret _
theorem dist_exS : ∀ sh,Dist (exS sh)
  | []=>dist_ret []
  | (true,cs) :: r=>(dist_exC cs).bind fun l=>(dist_exS r).bind fun m=>dist_ret _
  | (false,cs) :: r=>(dist_exC cs).bind fun l=>(dist_exS r).bind fun m=>dist_ret _
theorem dist_opP (E : Env) (id : Nat) (o : Oper) (m : Mem) : Dist fun K : D × Mem → Prop=>opP E id o m fun d ws=>K (d,ws):=by
  unfold opP
  cases dop E.ty m id o with
  | bad=>exact dist_no
  | val d=>exact dist_ret _
  | put d ws=>exact dist_ret _
  | eff p d ws=>exact dist_and (dist_ret _)
  | idx es i cs=>exact dist_and ((dist_exC cs).bind fun l=>dist_and (dist_ret _))
  | call f args=>exact (dist_exS _).bind fun l=>dist_and (dist_ret _)
theorem dist_putD {α : Type} (n : Nat) (dst : Option Tmp) (d : D) (m : Mem) {T : Mem → (α → Prop) → Prop} (h : ∀ m,Dist (T m)) : Dist fun K=>putD n dst d m fun m=>T m K:=by
  unfold putD
  cases dst with
  | none=>exact h _
  | some t=>exact dist_if (h _) dist_no
theorem dist_guardD {α : Type} (ops : Array Oper) (g : Option (Nat × Bool)) (m : Mem) {A B : Mem → (α → Prop) → Prop} (h1 : ∀ m,Dist (A m)) (h2 : ∀ m,Dist (B m)) : Dist fun K=>guardD ops g m (fun m=>A m K) (fun m=>B m K):=by
  cases g with
  | none=>exact h1 _
  | some p =>
    obtain ⟨j,want⟩:=p
    cases ht : (ops[j]?).bind (fun x=>x.dst) with
    | none=>simp only [guardD,ht];exact dist_no
    | some t =>
      simp only [guardD,ht]
      generalize look m 0 t = d
      cases d <;> first | exact dist_no | exact h2 _ | skip
      rename_i x
      cases x <;> first | exact dist_no | skip
      rename_i b
      cases b <;> cases want <;> first | exact h1 _ | exact h2 _
theorem dist_dops (E : Env) (ops : Array Oper) (nx : Nat) : ∀ (l : List Oper) (i : Nat) (m : Mem),Dist (dops E ops nx l i m)
  | [],i,m=>dist_ret m
  | o :: r,i,m=>by
    show Dist fun K=>dops E ops nx (o :: r) i m K
    unfold dops
    exact dist_guardD ops _ m (fun m=>(dist_opP E _ o m).bind fun x=>dist_putD E.n o.dst x.1 (x.2 ++ m) fun m=>dist_dops E ops nx r (i + 1) m) (fun m=>dist_putD _ _ _ _ fun m=>dist_dops E ops nx r _ m)
theorem dist_dopsD (E : Env) (ops : Array Oper) (nx : Nat) : ∀ (l : List Oper) (i : Nat) (g : List Foot) (m : Mem),Dist (dopsD E ops nx l i g m)
  | [],i,g,m=>dist_ret m
  | o :: r,i,g,m=>by
    show Dist fun K=>dopsD E ops nx (o :: r) i g m K
    unfold dopsD
    exact dist_guardD ops _ m (fun m=>(dist_opP E _ o m).bind fun x=>dist_if (b:=footOk ⟨i,anOf g (dirs o),guardReads ops o.guard ++ opReads E.ty m o,keysOf (putM o.dst x.1 x.2)⟩ g && (dirs o).all fun j=>(j + 1).ble i) (dist_putD E.n o.dst x.1 (x.2 ++ m) fun m'=>dist_dopsD E ops nx r (i + 1) (⟨i,anOf g (dirs o),guardReads ops o.guard ++ opReads E.ty m o,keysOf (putM o.dst x.1 x.2)⟩ :: g) m') dist_no) (fun m=>dist_if (dist_putD _ _ _ _ fun m=>dist_dopsD E ops nx r _ _ m) dist_no)
theorem dist_restrV (m : Mem) (base : Nat) : ∀ (L : Ann) (us : List Nat),Dist (restrV m base L us)
  | [],us=>dist_ret []
  | (x,y,none) :: r,us=>dist_if ((dist_restrV m base r us).bind fun ds=>dist_ret _) dist_no
  | (x,y,some (e,sz)) :: r,us=>by
    show Dist fun K=>restrV m base ((x,y,some (e,sz)) :: r) us K
    unfold restrV
    refine dist_if ?_ dist_no
    generalize look m x y = d
    cases d <;> first | exact dist_no | skip
    rename_i t es
    cases t with
    | no=>exact dist_no
    | nil =>
      cases es with
      | nil=>exact (dist_restrV m base r us).bind fun ds=>dist_ret _
      | cons _ _=>exact dist_no
    | own t e' sz' =>
      refine dist_if ?_ dist_no
      generalize look m 1 t = d
      cases d <;> first | exact dist_no | exact dist_and ((dist_restrV m base r _).bind fun ds=>dist_ret _)
theorem dist_thenD {T : St → (Exit × St → Prop) → Prop} (h : ∀ s,Dist (T s)) (x : Exit × St) : Dist fun K=>thenD (fun s=>T s K) (fun e s=>K (e,s)) x.1 x.2:=by
  obtain ⟨e,s⟩:=x
  cases e <;> first | exact h s | exact dist_ret (_,s)
theorem dist_blockD (id : Nat) (x : Exit × St) : Dist fun K : Exit × St → Prop=>blockD id (fun e s=>K (e,s)) x.1 x.2:=by
  obtain ⟨e,s⟩:=x
  cases e with
  | exit id'=>exact dist_if (b:=id'.beq id) (dist_ret (Exit.normal,s)) (dist_ret (Exit.exit id',s))
  | _=>exact dist_ret (_,s)
theorem dist_dwp (E : Env) : ∀ (c : Code) (s : St),Dist fun K : Exit × St → Prop=>dwp E c (fun e s=>K (e,s)) s
  | .skip,s=>dist_ret (Exit.normal,s)
  | .region _ ops draw,s=>by
    cases draw
    · exact (dist_dops E ops _ _ _ _).bind fun m=>dist_ret (Exit.normal,(⟨_,m⟩ : St))
    · exact (dist_dopsD E ops _ _ _ _ _).bind fun m=>dist_ret (Exit.normal,(⟨_,m⟩ : St))
  | .seq a b,s=>(dist_dwp E a s).bind fun x=>dist_thenD (fun s=>dist_dwp E b s) x
  | .cond c a b,s=>by
    show Dist fun K : Exit × St → Prop=>condD c s (dwp E a fun e s=>K (e,s)) (dwp E b fun e s=>K (e,s))
    unfold condD
    generalize ev s.m c = d
    cases d <;> first | exact dist_no | skip
    rename_i x
    cases x <;> first | exact dist_no | skip
    rename_i x
    cases x
    · exact dist_dwp E b _
    · exact dist_dwp E a _
  | .block id c,s=>(dist_dwp E c s).bind fun x=>dist_blockD id x
  | .loop c,s=>by
    show Dist fun K : Exit × St → Prop=>loopP (dwp E c) (fun e s=>K (e,s)) s (E.lv (regId c))
    unfold loopP
    cases E.lv (regId c) with
    | none =>
      refine dist_ex fun k=>?_
      have key : ∀ k s,Dist fun K : Exit × St → Prop=>dloop (dwp E c) (fun e s=>K (e,s)) k s:=by
        intro k
        induction k with
        | zero=>exact fun s=>dist_no
        | succ k ih=>exact fun s=>(dist_dwp E c s).bind fun x=>dist_thenD ih x
      exact key k s
    | some L =>
      refine dist_ex fun k=>?_
      have key : ∀ base k ds,Dist fun K : Exit × St → Prop=>dloopI (dwp E c) (fun e s=>K (e,s)) L base k ds:=by
        intro base k
        induction k with
        | zero=>exact fun ds=>dist_no
        | succ k ih=>exact fun ds=>(dist_dwp E c _).bind fun x=>dist_thenD (fun s=>(dist_restrV s.m base L []).bind ih) x
      exact (dist_restrV s.m s.nx L []).bind (key s.nx k)
  | .exit id,s=>dist_ret (Exit.exit id,s)
  | .ret,s=>dist_ret (Exit.ret,s)
  | .rangeFunc _ _ _ _,s=>dist_no
  | .scope _,s=>dist_no
  | .label _,s=>dist_no
  | .goto _,s=>dist_no
  | .refuse _,s=>dist_no
theorem dist_retC (m : Mem) (s : Bool × List CT) (d : D) : Dist (retC m s d):=by
  show Dist fun K=>retC m s d K
  unfold retC
  split
  · cases d <;> first | exact dist_no | exact dist_ret _
  · cases d <;> first | exact dist_no | skip
    rename_i t es
    cases t with
    | no=>exact dist_no
    | nil =>
      cases es with
      | nil=>exact dist_if dist_no (dist_ret _)
      | cons _ _=>exact dist_no
    | own t e' sz' =>
      refine dist_if ?_ dist_no
      generalize look m 1 t = d
      cases d <;> first | exact dist_no | exact dist_and (dist_ret _)
  · exact dist_if (dist_ret _) dist_no
  · exact dist_no
theorem dist_dret (E : Env) (m : Mem) : ∀ (sh : Sh) (rs : List ResultVar),Dist (dret E m sh rs)
  | [],[]=>dist_ret []
  | s :: r,v :: q=>by
    show Dist fun K=>dret E m (s :: r) (v :: q) K
    unfold dret
    cases resR E m v <;> first | exact dist_no | exact (dist_retC m s _).bind fun d=>(dist_dret E m r q).bind fun l=>dist_ret _
  | [],_ :: _=>dist_no
  | _ :: _,[]=>dist_no
theorem dist_endD (E : Env) (f : FuncId) (rs : List ResultVar) (x : Exit × St) : Dist fun K=>endD E f rs K x.1 x.2:=by
  obtain ⟨e,s⟩:=x
  cases e <;> first | exact dist_no | exact dist_dret E s.m _ rs
def OkP (P : Program) (f : FuncId) (ds : List D) (Post : List D → Prop) : Prop:=∃ out,Ok P f ds out ∧ Post out
theorem okp_sh {f : FuncId} {fn : Func} {ds : List D} {Post : List D → Prop} (lv : List (Nat × Ann)) (hf : Try.prog.funcs[f]? = some fn) (hs : (fn.body.isSome && ds.length.ble fn.ntmps && oneF (shOf shT f)) = true) (hcall : ∀ (args : Array Value) (w : World),(callFunc f args).run Try.prog w = .ok (.enter f args) w)
    (hd : dwp (En fn.ntmps lv) (fn.body.getD .skip) (endD (En fn.ntmps lv) f fn.results.toList Post) ⟨0,argM 0 ds⟩) : OkP Try.prog f ds Post:=by
  obtain ⟨out,ho,hall⟩:=((dist_dwp (En fn.ntmps lv) (fn.body.getD .skip) ⟨0,argM 0 ds⟩).bind fun x=>dist_endD (En fn.ntmps lv) f fn.results.toList x) Post hd
  exact ⟨out,ok_sh lv hf hs hcall (hall (· = out) rfl),ho⟩
end Go.Proofs.Ythadnhpkeljdoaa.pv
