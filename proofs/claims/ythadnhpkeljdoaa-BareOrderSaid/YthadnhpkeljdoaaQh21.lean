/- Ground of the law: PvO, ItAll, Gx7. -/
import Derived.Test.YthadnhpkeljdoaaQh20
import Derived.Test.YthadnhpkeljdoaaQh01
import Derived.Test.YthadnhpkeljdoaaQh02
import Derived.LoopNIn
import Derived.LoopIn
import Derived.Shelf.RegionOpen
import Derived.RegionTactic
import Derived.RegionIn
set_option maxRecDepth 100000
set_option maxHeartbeats 8000000
set_option linter.unusedVariables false
set_option linter.unusedSimpArgs false
namespace Go.Proofs.Ythadnhpkeljdoaa.pv
open Go.RowKit
structure Foot where
  i : Nat
  an : List Nat
  rs : Keys
  wk : Keys
def clash : Keys → Keys → Bool
  | [],_=>false
  | (a,b) :: r,l=>(l.any fun q=>a.beq q.1 && b.beq q.2) || clash r l
def inL (l : List Nat) (x : Nat) : Bool:=l.any x.beq
def footOk (f : Foot) (h : List Foot) : Bool:=h.all fun g=>inL f.an g.i || !(clash g.wk f.rs || clash g.wk f.wk || clash g.rs f.wk)
def dirs (o : Oper) : List Nat:=o.after.toList.filterMap fun e=>bif Region.binds .any e then some e.on else none
def dd : List Nat → List Nat → List Nat
  | [],a=>a
  | x :: r,a=>bif inL a x then dd r a else dd r (x :: a)
theorem mem_dd : ∀ {l a : List Nat} {j : Nat},j ∈ dd l a → j ∈ l ∨ j ∈ a
  | [],a,j,h=>.inr h
  | x :: r,a,j,h=>by
    unfold dd at h
    cases hx : inL a x with
    | true =>
      rw [hx] at h
      exact (mem_dd h).imp (List.mem_cons_of_mem _) id
    | false =>
      rw [hx] at h
      rcases mem_dd h with h | h
      · exact .inl (List.mem_cons_of_mem _ h)
      · rcases List.mem_cons.1 h with rfl | h
        · exact .inl (List.mem_cons_self)
        · exact .inr h
def anOf (h : List Foot) (ds : List Nat) : List Nat:=dd (ds ++ h.flatMap fun g=>bif inL ds g.i then g.an else []) []
def dopsD (E : Env) (ops : Array Oper) (nx : Nat) : List Oper → Nat → List Foot → Mem → (Mem → Prop) → Prop
  | [],_,_,m,K=>K m
  | o :: r,i,h,m,K=>guardD ops o.guard m
      (fun m=>opP E (nx + i) o m fun d ws=>bif footOk ⟨i,anOf h (dirs o),guardReads ops o.guard ++ opReads E.ty m o,keysOf (putM o.dst d ws)⟩ h && (dirs o).all (fun j=>(j + 1).ble i) then
        putD E.n o.dst d (ws ++ m) fun m'=>dopsD E ops nx r (i + 1) (⟨i,anOf h (dirs o),guardReads ops o.guard ++ opReads E.ty m o,keysOf (putM o.dst d ws)⟩ :: h) m' K else False)
      (fun m=>bif footOk ⟨i,anOf h (dirs o),guardReads ops o.guard,keysOf (putM o.dst .und [])⟩ h && (dirs o).all (fun j=>(j + 1).ble i) then
        putD E.n o.dst .und m fun m'=>dopsD E ops nx r (i + 1) (⟨i,anOf h (dirs o),guardReads ops o.guard,keysOf (putM o.dst .und [])⟩ :: h) m' K else False)
inductive Anc (ops : Array Oper) : Nat → Nat → Prop
  | one {i j : Nat} {o : Oper} : ops[i]? = some o → j ∈ dirs o → Anc ops j i
  | more {i j k : Nat} {o : Oper} : ops[i]? = some o → k ∈ dirs o → Anc ops j k → Anc ops j i
theorem inL_iff {l : List Nat} {x : Nat} : inL l x = true ↔ x ∈ l:=by
  unfold inL
  rw [List.any_eq_true]
  constructor
  · rintro ⟨y,h1,h2⟩;rw [Nat.eq_of_beq_eq_true h2];exact h1
  · intro h;exact ⟨x,h,by simp⟩
theorem clash_iff : ∀ {a b : Keys},clash a b = false → ∀ p ∈ a,p ∉ b
  | [],b,h,p,hp=>by cases hp
  | (x,y) :: r,b,h,p,hp=>by
    simp only [clash,Bool.or_eq_false_iff] at h
    rcases List.mem_cons.1 hp with rfl | hp
    · intro hb
      have:=h.1
      rw [List.any_eq_false] at this
      exact this _ hb (by simp)
    · exact clash_iff h.2 p hp
theorem dirs_mem {o : Oper} {j : Nat} : j ∈ dirs o ↔ ∃ e ∈ o.after,Region.binds .any e = true ∧ e.on = j:=by
  unfold dirs
  rw [List.mem_filterMap]
  constructor
  · rintro ⟨e,h1,h2⟩
    cases hb : Region.binds .any e with
    | false=>rw [hb] at h2;cases h2
    | true=>rw [hb] at h2;cases h2;exact ⟨e,Array.mem_toList_iff.1 h1,hb,rfl⟩
  · rintro ⟨e,h1,h2,rfl⟩
    exact ⟨e,Array.mem_toList_iff.2 h1,by rw [h2];rfl⟩
section
variable {P : Program} {E : Env} {ops : Array Oper} {nx : Nat} {m0 : Mem}
def Ent.rd (E : Env) (ops : Array Oper) (e : Ent) : Keys:=guardReads ops e.o.guard ++ (if e.want then opReads E.ty e.m e.o else [])
structure Plan (E : Env) (ops : Array Oper) (nx : Nat) (m0 : Mem) (es : List Ent) : Prop where
  op : ∀ (i : Nat) (e : Ent),es[i]? = some e → ops[i]? = some e.o
  mem : ∀ (i : Nat) (e : Ent),es[i]? = some e → Leq e.m (acc (fun j=>decide (j < i)) 0 es m0)
  want : ∀ (i : Nat) (e : Ent),es[i]? = some e → wantD ops e.o.guard e.m = some e.want
  told : ∀ (i : Nat) (e : Ent),es[i]? = some e → if e.want then opS E (nx + i) (dop E.ty e.m (nx + i) e.o) e.d e.ws else e.d = .und ∧ e.ws = []
  dst : ∀ (i : Nat) (e : Ent) t,es[i]? = some e → e.o.dst = some t → t < E.n
  apart : ∀ (i j : Nat) (e f : Ent),es[i]? = some e → es[j]? = some f → j < i → Anc ops j i ∨ ((∀ p ∈ keysOf f.out,p ∉ e.rd E ops) ∧ (∀ p ∈ keysOf f.out,p ∉ keysOf e.out) ∧ ∀ p ∈ f.rd E ops,p ∉ keysOf e.out)
  dir : ∀ (i : Nat) (e : Ent) j,es[i]? = some e → j ∈ dirs e.o → j < i
structure Noted (E : Env) (ops : Array Oper) (es : List Ent) (h : List Foot) : Prop where
  sound : ∀ g ∈ h,∃ e,es[g.i]? = some e ∧ g.rs = e.rd E ops ∧ g.wk = keysOf e.out ∧ ∀ j ∈ g.an,Anc ops j g.i
  all : ∀ j,j < es.length → ∃ g ∈ h,g.i = j
theorem acc_more {S : Nat → Bool} {es fs : List Ent} (h : ∀ j,es.length ≤ j → S j = false) (m : Mem) : acc S 0 (es ++ fs) m = acc S 0 es m:=by
  rw [acc_append,acc_none]
  intro j hj
  exact h j (by omega)
theorem Plan.step {es : List Ent} {h : List Foot} {mc m : Mem} {o : Oper} {b : Bool} {d : D} {ws : Mem} {f : Foot} (hp : Plan E ops nx m0 es) (hn : Noted E ops es h) (hmc : Leq mc (acc (fun _=>true) 0 es m0)) (ho : ops[es.length]? = some o) (hm : Leq mc m)
    (hw : wantD ops o.guard m = some b) (ht : if b then opS E (nx + es.length) (dop E.ty m (nx + es.length) o) d ws else d = .und ∧ ws = []) (hd : ∀ t,o.dst = some t → t < E.n)
    (hf : f = ⟨es.length,anOf h (dirs o),Ent.rd E ops ⟨o,m,b,d,ws⟩,keysOf (putM o.dst d ws)⟩) (hok : footOk f h = true) (hdir : ∀ j ∈ dirs o,j < es.length) :
    Plan E ops nx m0 (es ++ [⟨o,m,b,d,ws⟩]) ∧ Noted E ops (es ++ [⟨o,m,b,d,ws⟩]) (f :: h) ∧ Leq (putM o.dst d (ws ++ m)) (acc (fun _=>true) 0 (es ++ [⟨o,m,b,d,ws⟩]) m0):=by
  have cases_get : ∀ (i : Nat) (e : Ent),(es ++ [(⟨o,m,b,d,ws⟩ : Ent)])[i]? = some e → es[i]? = some e ∨ (i = es.length ∧ e = ⟨o,m,b,d,ws⟩):=fun i e hi=>by
    rcases Nat.lt_trichotomy i es.length with h1 | h1 | h1
    · rw [List.getElem?_append_left h1] at hi;exact .inl hi
    · subst h1
      rw [List.getElem?_append_right (Nat.le_refl _),Nat.sub_self] at hi
      cases hi;exact .inr ⟨rfl,rfl⟩
    · rw [List.getElem?_append_right (by omega)] at hi
      obtain ⟨j,hj⟩ : ∃ j,i - es.length = j + 1:=⟨i - es.length - 1,by omega⟩
      rw [hj] at hi;cases hi
  have lt_of : ∀ (i : Nat) (e : Ent),es[i]? = some e → i < es.length:=fun i e h=>(List.getElem?_eq_some_iff.1 h).1
  have hanc : ∀ j ∈ anOf h (dirs o),Anc ops j es.length:=fun j hj=>by
    unfold anOf at hj
    have hj:=(mem_dd hj).resolve_right (fun h=>by cases h)
    rcases List.mem_append.1 hj with hj | hj
    · exact .one ho hj
    · obtain ⟨g,hg,hj⟩:=List.mem_flatMap.1 hj
      cases hb : inL (dirs o) g.i with
      | false=>rw [hb] at hj;cases hj
      | true =>
        rw [hb] at hj
        obtain ⟨e,_,_,_,h4⟩:=hn.sound g hg
        exact .more ho (inL_iff.1 hb) (h4 j hj)
  refine ⟨⟨?_,?_,?_,?_,?_,?_,?_⟩,⟨?_,?_⟩,?_⟩
  · intro i e hi
    rcases cases_get i e hi with h1 | ⟨rfl,rfl⟩
    · exact hp.op i e h1
    · exact ho
  · intro i e hi
    rcases cases_get i e hi with h1 | ⟨rfl,rfl⟩
    · rw [acc_more (fun j hj=>decide_eq_false (by have:=lt_of i e h1;omega))]
      exact hp.mem i e h1
    · rw [acc_more (fun j hj=>decide_eq_false (by omega))]
      refine hm.symm.trans (hmc.trans ?_)
      intro x y
      refine acc_look es 0 (fun j f hj _=>?_) rfl
      have:=lt_of j f hj
      simp only [Nat.zero_add]
      exact (decide_eq_true this).symm
  · intro i e hi
    rcases cases_get i e hi with h1 | ⟨rfl,rfl⟩
    · exact hp.want i e h1
    · exact hw
  · intro i e hi
    rcases cases_get i e hi with h1 | ⟨rfl,rfl⟩
    · exact hp.told i e h1
    · exact ht
  · intro i e t hi
    rcases cases_get i e hi with h1 | ⟨rfl,rfl⟩
    · exact hp.dst i e t h1
    · exact hd t
  · intro i j e g hi hj hlt
    rcases cases_get i e hi with h1 | ⟨rfl,rfl⟩
    · rcases cases_get j g hj with h2 | ⟨rfl,rfl⟩
      · exact hp.apart i j e g h1 h2 hlt
      · have:=lt_of i e h1;omega
    · rcases cases_get j g hj with h2 | ⟨rfl,rfl⟩
      · obtain ⟨ft,hft,rfl⟩:=hn.all j hlt
        obtain ⟨e',e1,e2,e3,_⟩:=hn.sound ft hft
        rw [h2] at e1;cases e1
        unfold footOk at hok
        rw [List.all_eq_true] at hok
        have:=hok ft hft
        rw [Bool.or_eq_true] at this
        rcases this with h3 | h3
        · left
          rw [hf] at h3
          exact hanc _ (inL_iff.1 h3)
        · right
          rw [Bool.not_eq_true',Bool.or_eq_false_iff,Bool.or_eq_false_iff] at h3
          obtain ⟨⟨c1,c2⟩,c3⟩:=h3
          rw [hf,e3] at c1;rw [hf,e3] at c2;rw [hf,e2] at c3
          exact ⟨clash_iff c1,clash_iff c2,clash_iff c3⟩
      · omega
  · intro i e j hi
    rcases cases_get i e hi with h1 | ⟨rfl,rfl⟩
    · exact hp.dir i e j h1
    · exact hdir j
  · intro g hg
    rcases List.mem_cons.1 hg with rfl | hg
    · rw [hf]
      exact ⟨⟨o,m,b,d,ws⟩,by rw [List.getElem?_append_right (Nat.le_refl _),Nat.sub_self];rfl,rfl,rfl,hanc⟩
    · obtain ⟨e,e1,e2⟩:=hn.sound g hg
      exact ⟨e,by rw [List.getElem?_append_left (lt_of _ _ e1)];exact e1,e2⟩
  · intro j hj
    rw [List.length_append] at hj
    by_cases h1 : j < es.length
    · obtain ⟨g,h2,h3⟩:=hn.all j h1
      exact ⟨g,List.mem_cons_of_mem _ h2,h3⟩
    · refine ⟨f,List.mem_cons_self ..,?_⟩
      rw [hf]
      simp at hj
      show es.length = j
      omega
  · rw [acc_append]
    simp only [acc,if_true]
    rw [putM_app]
    exact (hm.symm.trans hmc).app _
theorem all_lt {ds : List Nat} {i : Nat} (h : (ds.all fun j=>(j + 1).ble i) = true) : ∀ j ∈ ds,j < i:=fun j hj=>Nat.le_of_ble_eq_true (List.all_eq_true.1 h j hj)
theorem dopsD_out (hE : EnvOk P E) {K : Mem → Prop} : ∀ (l : List Oper) (es : List Ent) (h : List Foot) (mc : Mem),Plan E ops nx m0 es → Noted E ops es h → Leq mc (acc (fun _=>true) 0 es m0) → (∀ j,ops[es.length + j]? = l[j]?) →
    dopsD E ops nx l es.length h mc K → ∃ es' mf,es'.length = es.length + l.length ∧ Plan E ops nx m0 es' ∧ Leq mf (acc (fun _=>true) 0 es' m0) ∧ K mf
  | [],es,h,mc,hp,hn,hmc,ho,hd=>⟨es,mc,rfl,hp,hmc,hd⟩
  | o :: r,es,h,mc,hp,hn,hmc,ho,hd=>by
    unfold dopsD at hd
    obtain ⟨m,hm,hd⟩:=guardD_out hd
    have ho0 : ops[es.length]? = some o:=by simpa using ho 0
    have go : ∀ (b : Bool) (d : D) (ws : Mem),wantD ops o.guard m = some b → (if b then opS E (nx + es.length) (dop E.ty m (nx + es.length) o) d ws else d = .und ∧ ws = []) →
        (∀ t,o.dst = some t → t < E.n) → footOk ⟨es.length,anOf h (dirs o),Ent.rd E ops ⟨o,m,b,d,ws⟩,keysOf (putM o.dst d ws)⟩ h = true → (∀ j ∈ dirs o,j < es.length) →
        dopsD E ops nx r (es.length + 1) (⟨es.length,anOf h (dirs o),Ent.rd E ops ⟨o,m,b,d,ws⟩,keysOf (putM o.dst d ws)⟩ :: h) (putM o.dst d (ws ++ m)) K →
        ∃ es' mf,es'.length = es.length + (o :: r).length ∧ Plan E ops nx m0 es' ∧ Leq mf (acc (fun _=>true) 0 es' m0) ∧ K mf:=by
      intro b d ws hw ht hdst hok hdir hrec
      obtain ⟨p1,p2,p3⟩:=Plan.step hp hn hmc ho0 hm hw ht hdst rfl hok hdir
      have:=dopsD_out hE r (es ++ [⟨o,m,b,d,ws⟩]) _ _ p1 p2 p3 (fun j=>by
        rw [List.length_append]
        have:=ho (j + 1)
        rw [List.getElem?_cons_succ] at this
        rw [← this]
        congr 1
        simp;omega) (by rw [List.length_append];exact hrec)
      obtain ⟨es',mf,q1,q2⟩:=this
      exact ⟨es',mf,by rw [q1];simp;omega,q2⟩
    have hwm : wantD ops o.guard mc = wantD ops o.guard m:=wantD_same fun p _=>hm p.1 p.2
    rw [hwm] at hd
    rcases hd with ⟨hw,hd⟩ | ⟨hw,hd⟩
    · obtain ⟨d,ws,hs,hk⟩:=opP_out hE hd
      cases hc : (footOk ⟨es.length,anOf h (dirs o),guardReads ops o.guard ++ opReads E.ty m o,keysOf (putM o.dst d ws)⟩ h && (dirs o).all (fun j=>(j + 1).ble es.length)) with
      | false=>rw [hc] at hk;exact hk.elim
      | true =>
        rw [hc,cond_true] at hk
        rw [Bool.and_eq_true] at hc
        obtain ⟨hdst,hk⟩:=putD_out hk
        exact go true d ws hw hs hdst hc.1 (all_lt hc.2) hk
    · cases hc : (footOk ⟨es.length,anOf h (dirs o),guardReads ops o.guard,keysOf (putM o.dst .und [])⟩ h && (dirs o).all (fun j=>(j + 1).ble es.length)) with
      | false=>rw [hc] at hd;exact hd.elim
      | true =>
        rw [hc,cond_true] at hd
        rw [Bool.and_eq_true] at hc
        obtain ⟨hdst,hk⟩:=putD_out hd
        have hrd : Ent.rd E ops ⟨o,m,false,.und,[]⟩ = guardReads ops o.guard:=by simp [Ent.rd]
        exact go false .und [] hw ⟨rfl,rfl⟩ hdst (by rw [hrd];exact hc.1) (all_lt hc.2) (by rw [hrd];exact hk)
theorem any_sound (hE : EnvOk P E) {es : List Ent} {mf : Mem} {Q : Exit → Act → World → Prop} {w0 : World} {I : Nat → Nat → Prop} {G : Gh} {a : Act} {w : World} (hlen : es.length = ops.size) (hp : Plan E ops nx m0 es) (hmf : Leq mf (acc (fun _=>true) 0 es m0))
    (hr : Run E w0 I (fun u=>nx ≤ u) G m0 a w) (hQ : ∀ G' a' w',Run E w0 I (fun u=>nx + ops.size ≤ u) G' mf a' w' → Q .normal a' w') : wpAny P .any ops Q ops.size (Array.replicate ops.size false) a w:=by
  let Inv : Array Bool → Act → World → Prop:=fun listed a w=>listed.size = ops.size ∧ (∀ i j o,ops[i]? = some o → j ∈ dirs o → done listed i = true → done listed j = true) ∧
    ∃ G,Run E w0 I (fun u=>nx ≤ u ∧ ∀ j,done listed j = true → u ≠ nx + j) G (acc (done listed) 0 es m0) a w
  have get : ∀ (i : Nat) (o : Oper),ops[i]? = some o → ∃ e : Ent,es[i]? = some e ∧ e.o = o:=fun i o h=>by
    have hlt:=(Array.getElem?_eq_some_iff.1 h).1
    have he:=List.getElem?_eq_getElem (l:=es) (i:=i) (by omega)
    have:=hp.op i _ he
    rw [h] at this
    exact ⟨_,he,(Option.some.inj this).symm⟩
  have anc : ∀ {listed : Array Bool},(∀ i j o,ops[i]? = some o → j ∈ dirs o → done listed i = true → done listed j = true) → ∀ {j i},Anc ops j i → done listed i = true → done listed j = true:=by
    intro listed hc j i h
    induction h with
    | one h1 h2=>exact hc _ _ _ h1 h2
    | more h1 h2 _ ih=>exact fun h=>ih (hc _ _ _ h1 h2 h)
  refine wpAny_inv Inv ?_ ?_ ops.size _ a w (by simp) ?_
  · rintro listed a w i ⟨hs,hcl,G,hR⟩ hi
    obtain ⟨hi0,o,ho,haft⟩:=mem_ready.1 hi
    obtain ⟨e,he,rfl⟩:=get i o ho
    have hnot:=done_not hi0
    have hdirs : ∀ j ∈ dirs e.o,done listed j = true:=fun j hj=>by
      obtain ⟨ed,h1,h2,rfl⟩:=dirs_mem.1 hj
      exact haft ed h1 h2
    have hancs : ∀ {j},Anc ops j i → done listed j = true:=fun {j} h=>by
      cases h with
      | one h1 h2=>rw [ho] at h1;cases h1;exact hdirs _ h2
      | more h1 h2 h3=>rw [ho] at h1;cases h1;exact anc hcl h3 (hdirs _ h2)
    have hds:=fun k=>done_set hi0 k
    have same : Same e.m (acc (done listed) 0 es m0) (e.rd E ops):=fun p hpr=>by
      rw [hp.mem i e he p.1 p.2]
      refine acc_look es 0 (fun j f hj hf=>?_) rfl
      rw [has_keys] at hf
      simp only [Nat.zero_add]
      rcases Nat.lt_trichotomy j i with h1 | h1 | h1
      · rw [decide_eq_true h1]
        rcases hp.apart i j e f he hj h1 with h2 | ⟨h2,_⟩
        · exact (hancs h2).symm
        · exact absurd hpr (h2 p hf)
      · subst h1
        rw [decide_eq_false (Nat.lt_irrefl _),hnot]
      · rw [decide_eq_false (by omega)]
        rcases hp.apart j i f e hj he h1 with h2 | ⟨_,_,h2⟩
        · cases hd : done listed j with
          | false=>rfl
          | true=>rw [anc hcl h2 hd] at hnot;cases hnot
        · exact absurd hf (h2 p hpr)
    have hwm : wantD ops e.o.guard (acc (done listed) 0 es m0) = some e.want:=by
      rw [← hp.want i e he]
      exact (wantD_same fun p hp'=>same p (List.mem_append_left _ hp')).symm
    have hwt:=want_sound hR.sim hwm
    have hfr : nx ≤ nx + i ∧ ∀ j,done listed j = true → nx + i ≠ nx + j:=⟨by omega,fun j hj e=>by
      have : i = j:=by omega
      rw [← this,hnot] at hj;cases hj⟩
    have leq : Leq (putM e.o.dst e.d (e.ws ++ acc (done listed) 0 es m0)) (acc (done (listed.setIfInBounds i true)) 0 es m0):=fun x y=>by
      rw [putM_app,look_app]
      by_cases hk : has (putM e.o.dst e.d e.ws) x y = true
      · rw [if_pos hk]
        refine (acc_last es 0 i e he hk (by rw [Nat.zero_add,hds];simp) fun j f hj hlt hf=>?_).symm
        rw [Nat.zero_add,hds,beq_false_of_ne (by omega),Bool.false_or]
        rcases hp.apart j i f e hj he hlt with h2 | ⟨_,h2,_⟩
        · cases hd : done listed j with
          | false=>rfl
          | true=>rw [anc hcl h2 hd] at hnot;cases hnot
        · exact absurd (has_keys.1 hf) (h2 _ (has_keys.1 hk))
      · rw [if_neg hk]
        refine acc_look es 0 (fun j f hj hf=>?_) rfl
        rw [Nat.zero_add,hds]
        by_cases hji : j = i
        · subst hji
          rw [he] at hj;cases hj
          exact absurd hf hk
        · rw [beq_false_of_ne hji,Bool.false_or]
    have closed : ∀ k j o,ops[k]? = some o → j ∈ dirs o → done (listed.setIfInBounds i true) k = true → done (listed.setIfInBounds i true) j = true:=fun k j o' hk hj hd=>by
      rw [hds] at hd ⊢
      by_cases hki : k = i
      · subst hki
        rw [ho] at hk;cases hk
        rw [hdirs j hj];simp
      · rw [beq_false_of_ne hki,Bool.false_or] at hd
        rw [hcl k j o' hk hj hd];simp
    have hdst:=hp.dst i e
    unfold wpOp
    rw [ho]
    simp only []
    have htold:=hp.told i e he
    cases hw : e.want with
    | true =>
      rw [hw] at htold hwt
      simp only [if_true] at htold
      rw [hwt]
      simp only [if_true]
      left
      have hdop : dop E.ty (acc (done listed) 0 es m0) (nx + i) e.o = dop E.ty e.m (nx + i) e.o:=by
        refine (dop_same fun p hp'=>same p (List.mem_append_right _ ?_)).symm
        rw [hw];exact hp'
      obtain ⟨f1,f2⟩:=hR.fresh (nx + i) hfr
      refine op_sound hE hR.sim f1 f2 (by rw [hdop];exact htold) _ _ fun v G' w' ha hv=>?_
      refine ⟨by simp [hs],closed,G',Run.leq ?_ leq⟩
      exact run_after hR ha hv (fun t ht=>hdst t he ht) fun u hu=>⟨⟨hu.1,fun j hj=>hu.2 j (by rw [hds,hj];simp)⟩,hu.2 i (by rw [hds];simp)⟩
    | false =>
      rw [hw] at htold hwt
      simp only [Bool.false_eq_true,if_false] at htold
      rw [hwt]
      simp only [Bool.false_eq_true,if_false]
      obtain ⟨e1,e2⟩:=htold
      rw [e1,e2] at leq
      refine ⟨by simp [hs],closed,G,Run.leq (run_und (hR.less fun u hu=>⟨hu.1,fun j hj=>hu.2 j (by rw [hds,hj];simp)⟩) (fun t ht=>hdst t he ht)) leq⟩
  · rintro listed a w ⟨hs,hcl,G,hR⟩ hre
    have all : ∀ i,i < ops.size → done listed i = true:=by
      intro i
      induction i using Nat.strongRecOn with
      | _ i ih =>
        intro hi
        cases hd : done listed i with
        | true=>rfl
        | false =>
          exfalso
          have ho : ops[i]? = some ops[i]:=Array.getElem?_eq_getElem hi
          obtain ⟨e,he,heo⟩:=get i _ ho
          have : i ∈ Region.ready .any ops listed:=mem_ready.2 ⟨by
            unfold done at hd
            rw [Array.getD_eq_getD_getElem?,Array.getElem?_eq_getElem (by omega)] at hd ⊢
            exact hd,ops[i],ho,fun ed h1 h2=>by
            have hj : ed.on ∈ dirs e.o:=dirs_mem.2 ⟨ed,heo ▸ h1,h2,rfl⟩
            exact ih ed.on (hp.dir i e ed.on he hj) (by have:=hp.dir i e ed.on he hj;omega)⟩
          rw [hre] at this;cases this
    refine hQ G a w ((hR.leq fun x y=>?_).less fun u hu=>⟨by omega,fun j hj e=>?_⟩)
    · rw [hmf x y]
      refine acc_look es 0 (fun j f hj _=>?_) rfl
      have:=(List.getElem?_eq_some_iff.1 hj).1
      rw [Nat.zero_add]
      exact all j (by omega)
    · have : j < listed.size:=by
        rcases Nat.lt_or_ge j listed.size with h | h
        · exact h
        · unfold done at hj
          simp [Array.getD_eq_getD_getElem?,Array.getElem?_eq_none h] at hj
      omega
  · refine ⟨by simp,(fun i j o _ _ h=>by rw [done_none] at h;cases h),G,?_⟩
    have : acc (done (Array.replicate ops.size false)) 0 es m0 = m0:=acc_none es 0 m0 fun j _=>done_none _ _
    rw [this]
    exact hr.less fun u hu=>hu.1
theorem dopsD_sound (hE : EnvOk P E) (hm : P.follows .mixedOrders = true) {id : Nat} {l : List Oper} {K : Mem → Prop} {Q : Exit → Act → World → Prop} {w0 : World} {I : Nat → Nat → Prop} {G : Gh} {a : Act} {w : World} {m : Mem} (hd : dopsD E l.toArray nx l 0 [] m K)
    (hr : Run E w0 I (fun u=>nx ≤ u) G m a w) (hQ : ∀ G' m' a' w',K m' → Run E w0 I (fun u=>nx + l.length ≤ u) G' m' a' w' → Q .normal a' w') : (Code.region id l.toArray true).wp P Q a w:=by
  obtain ⟨es,mf,h1,h2,h3,h4⟩:=dopsD_out (P:=P) (m0:=m) hE l [] [] m
    ⟨(fun i e h=>by cases h),(fun i e h=>by cases h),(fun i e h=>by cases h),(fun i e h=>by cases h),(fun i e t h=>by cases h),(fun i j e f h=>by cases h),(fun i e j h=>by cases h)⟩
    ⟨(fun g h=>by cases h),(fun j h=>by cases h)⟩ (.refl m) (fun j=>by simp) hd
  refine wp_region_any hm ?_
  have hr' : Run E w0 I (fun u=>nx ≤ u) G m a { w with drawn:=w.drawn + 1 } :=
    have st : Step G w G { w with drawn:=w.drawn + 1 }:=⟨fun _ _ h=>h,fun _ _ _=>rfl,fun _ _ h=>h,fun t T h=>⟨T,h,⟨rfl,rfl⟩,Nat.le_refl _,fun _=>rfl⟩⟩
    ⟨⟨hr.sim.tm,hr.sim.df,fun t=>(hr.sim.slot t).mono st,⟨fun b g ty n hb i x hx=>(hr.sim.cells.val b g ty n hb i x hx).mono st,hr.sim.cells.out⟩,hr.sim.toks,
      ⟨hr.sim.ok.base,hr.sim.ok.imm,hr.sim.ok.box,hr.sim.ok.boxImm,hr.sim.ok.boxInj,hr.sim.ok.tok,hr.sim.ok.tokImm,hr.sim.ok.tokInj,hr.sim.ok.tokBox⟩⟩,
      hr.base,hr.below.drew,hr.imm,hr.immo,hr.fresh⟩
  exact any_sound (nx:=nx) hE (by simpa using h1) h2 h3 hr' fun G' a' w' hR=>hQ G' mf a' w' h4 (by simpa using hR)
end
end Go.Proofs.Ythadnhpkeljdoaa.pv
namespace Go.Proofs.Ythadnhpkeljdoaa.it
open Go.RowKit Go.Shelf
open sg (lst_len)
open lx
theorem infoStr : (Try.prog.info? 9).map (fun i=>(i.zero,i.size,i.bytes)) = some (some (.string ⟨#[]⟩),1,16):=by kernel_rfl
def notesU (ts : List Tk) : List ByteArray:=(ts.filter (fun t=>decide (t.1 = 2))).map (·.2)
def strs (l : List ByteArray) : List Value:=l.map .string
theorem notesU_app (a b : List Tk) : notesU (a ++ b) = notesU a ++ notesU b:=by simp [notesU]
theorem notesU_yes (ts : List Tk) (t : Tk) (h : t.1 = 2) : notesU (ts ++ [t]) = notesU ts ++ [t.2]:=by rw [notesU_app];simp [notesU,h]
theorem notesU_no (ts : List Tk) (t : Tk) (h : t.1 ≠ 2) : notesU (ts ++ [t]) = notesU ts:=by rw [notesU_app];simp [notesU,h]
theorem notesU_len (ts : List Tk) : (notesU ts).length ≤ ts.length:=by unfold notesU;rw [List.length_map];exact List.length_filter_le _ _
theorem strs_snoc (l : List ByteArray) (s : ByteArray) : strs (l ++ [s]) = strs l ++ [.string s]:=by simp [strs]
theorem str_new (w : World) (a : Value) (t : TypeId) : ∀ j u,[a][j]? = some u → (w.alloc (.cells #[a] t)).cell? ((⟨w.heap.size,0,none⟩ : Addr).add j) = some u:=by
  intro j u hu
  have hb:=(sx.Blk.new w t #[a]).cell j
  match j,hu with
  | 0,hu=>cases hu;exact hb
  | n + 1,hu=>simp at hu
def aheadU (ts : List Tk) : Nat:=fidx (fun t=>!idleB t.1) ts
theorem aheadU_le (ts : List Tk) : aheadU ts ≤ ts.length:=fidx_le _ _
end Go.Proofs.Ythadnhpkeljdoaa.it
namespace Go.Proofs.Ythadnhpkeljdoaa.it
open Go.RowKit Go.Shelf
open sg (lst_len)
open lx sx
attribute [local go_sem] Oper.semAt_some
theorem aheadU_cons (t : Tk) (r : List Tk) : aheadU (t :: r) = if idleB t.1 then aheadU r + 1 else 0:=by
  unfold aheadU
  rw [fidx_cons]
  cases idleB t.1 <;> simp
structure Run where
  at' : Nat
  p : Nat
  l : List Tk
def runsFrom (at' p : Nat) : List Tk → List Run
  | []=>[]
  | t :: r=>⟨at',p,t :: r.take (aheadU r)⟩ :: runsFrom (at' + sizeT (t :: r.take (aheadU r))) (p + (1 + aheadU r)) (r.drop (aheadU r))
termination_by l=>l.length
decreasing_by simp;omega
def runsU (ts : List Tk) : List Run:=runsFrom (sizeT (ts.take (aheadU ts))) (aheadU ts) (ts.drop (aheadU ts))
theorem sizeT_both (a b : List Tk) : sizeT (a ++ b) = sizeT a + sizeT b:=by simp [sizeT]
end Go.Proofs.Ythadnhpkeljdoaa.it
namespace Go.Proofs.Ythadnhpkeljdoaa.it
open Go.RowKit Go.Shelf
open sg (lst_len)
open lx sx
attribute [local go_sem] Oper.semAt_some
theorem infoItem : (Try.prog.info? 56).map (fun i=>(i.zero,i.size,i.bytes)) = some (some (.agg #[.int .i64 0,.string ⟨#[]⟩,.int .i64 0,.slice none 0 0]),4,56):=by kernel_rfl
def itemCells : List Run → List Value → List Value
  | x :: xs,nv :: nvs=>.int .i64 ((x.l.headD (0,⟨#[]⟩)).1) :: .string (x.l.headD (0,⟨#[]⟩)).2 :: .int .i64 (x.at' : Int) :: nv :: itemCells xs nvs
  | _,_=>[]
def NotesAt (base : Nat) (W : World) : List Run → List Value → Prop
  | x :: xs,nv :: nvs=>W.ownsRow base 9 1 nv (notesU x.l).length (strs (notesU x.l)) ∧ NotesAt base W xs nvs
  | [],[]=>True
  | _,_=>False
end Go.Proofs.Ythadnhpkeljdoaa.it
namespace Go.Proofs.Ythadnhpkeljdoaa.it
open Go.RowKit Go.Shelf
open sg (lst_len)
open lx sx
attribute [local go_sem] Oper.semAt_some
theorem NotesAt.len {base : Nat} {W : World} {pre : List Run} {nvs : List Value} (h : NotesAt base W pre nvs) : nvs.length = pre.length:=by
  induction pre generalizing nvs with
  | nil=>cases nvs with
    | nil=>rfl
    | cons _ _=>exact h.elim
  | cons x xs ih=>cases nvs with
    | nil=>exact h.elim
    | cons nv nvs=>rw [List.length_cons,List.length_cons,ih h.2]
theorem itemCells_snoc {pre : List Run} {nvs : List Value} (hl : nvs.length = pre.length) (x : Run) (nv : Value) :
    itemCells (pre ++ [x]) (nvs ++ [nv]) = itemCells pre nvs ++ [.int .i64 ((x.l.headD (0,⟨#[]⟩)).1),.string (x.l.headD (0,⟨#[]⟩)).2,.int .i64 (x.at' : Int),nv]:=by
  induction pre generalizing nvs with
  | nil=>cases nvs with
    | nil=>rfl
    | cons _ _=>cases hl
  | cons y ys ih=>cases nvs with
    | nil=>cases hl
    | cons mv nvs=>simp only [List.cons_append,itemCells,ih (by simpa using hl)]
theorem NotesAt.snoc {base : Nat} {W : World} {pre : List Run} {nvs : List Value} (h : NotesAt base W pre nvs) {x : Run} {nv : Value} (hx : W.ownsRow base 9 1 nv (notesU x.l).length (strs (notesU x.l))) : NotesAt base W (pre ++ [x]) (nvs ++ [nv]):=by
  induction pre generalizing nvs with
  | nil=>cases nvs with
    | nil=>exact ⟨hx,trivial⟩
    | cons _ _=>exact h.elim
  | cons y ys ih=>cases nvs with
    | nil=>exact h.elim
    | cons mv nvs=>exact ⟨h.1,ih h.2⟩
theorem own_typed {W W' : World} {base size n : Nat} {e e2 : TypeId} {v : Value} {xs : List Value} (h : W.ownsRow base e2 size v n xs) (hne : e2 ≠ e) (hb : ∀ b t vs,t ≠ e → Blk W b t vs → Blk W' b t vs) : W'.ownsRow base e2 size v n xs:=by
  refine ⟨h.1,?_⟩
  rcases h.2 with hn | ⟨g,cap,cur,h1,h2,h3,h4⟩
  · exact .inl hn
  · exact .inr ⟨g,cap,cur,h1,h2,hb _ _ _ hne h3,h4⟩
theorem NotesAt.typed {W W' : World} {base : Nat} {e : TypeId} {pre : List Run} {nvs : List Value} (h : NotesAt base W pre nvs) (hne : 9 ≠ e) (hb : ∀ b t vs,t ≠ e → Blk W b t vs → Blk W' b t vs) : NotesAt base W' pre nvs:=by
  induction pre generalizing nvs with
  | nil=>cases nvs with
    | nil=>trivial
    | cons _ _=>exact h.elim
  | cons x xs ih=>cases nvs with
    | nil=>exact h.elim
    | cons nv nvs=>exact ⟨own_typed h.1 hne hb,ih h.2⟩
theorem NotesAt.own {W W' : World} {base : Nat} {pre : List Run} {nvs : List Value} (h : NotesAt base W pre nvs) (hb : Below W.heap.size W W') : NotesAt base W' pre nvs:=by
  induction pre generalizing nvs with
  | nil=>cases nvs with
    | nil=>trivial
    | cons _ _=>exact h.elim
  | cons x xs ih=>cases nvs with
    | nil=>exact h.elim
    | cons nv nvs=>exact ⟨ownsRow_below h.1 hb,ih h.2⟩
theorem cell_four_new (w : World) (a b c d : Value) (t : TypeId) : ∀ j u,[a,b,c,d][j]? = some u → (w.alloc (.cells #[a,b,c,d] t)).cell? ((⟨w.heap.size,0,none⟩ : Addr).add j) = some u:=by
  intro j u hu
  have hb:=(Blk.new w t #[a,b,c,d]).cell j
  match j,hu with
  | 0,hu=>cases hu;exact hb
  | 1,hu=>cases hu;exact hb
  | 2,hu=>cases hu;exact hb
  | 3,hu=>cases hu;exact hb
  | n + 4,hu=>simp at hu
theorem NotesAt.map {W W' : World} {base : Nat} {pre : List Run} {nvs : List Value} (h : NotesAt base W pre nvs) (hf : ∀ v n xs,W.ownsRow base 9 1 v n xs → W'.ownsRow base 9 1 v n xs) : NotesAt base W' pre nvs:=by
  induction pre generalizing nvs with
  | nil=>cases nvs with
    | nil=>trivial
    | cons _ _=>exact h.elim
  | cons x xs ih=>cases nvs with
    | nil=>exact h.elim
    | cons nv nvs=>exact ⟨hf _ _ _ h.1,ih h.2⟩
theorem runsFrom_len (a p : Nat) (l : List Tk) : (runsFrom a p l).length ≤ l.length:=by
  generalize hn : l.length = m
  induction m using Nat.strongRecOn generalizing a p l with
  | ind m ih =>
    cases l with
    | nil=>rw [runsFrom];exact Nat.zero_le _
    | cons t r =>
      rw [runsFrom,List.length_cons]
      have:=ih (r.drop (aheadU r)).length (by rw [List.length_drop];simp at hn;omega) (a + sizeT (t :: r.take (aheadU r))) (p + (1 + aheadU r)) (r.drop (aheadU r)) rfl
      rw [List.length_drop] at this
      simp at hn
      omega
theorem runsU_len (ts : List Tk) : (runsU ts).length ≤ ts.length:=by
  have:=runsFrom_len (sizeT (ts.take (aheadU ts))) (aheadU ts) (ts.drop (aheadU ts))
  rw [List.length_drop] at this
  unfold runsU
  omega
end Go.Proofs.Ythadnhpkeljdoaa.it
namespace Go.Proofs.Ythadnhpkeljdoaa.it
open Go.RowKit Go.Shelf
open sg (lst_len)
open lx sx
attribute [local go_sem] Oper.semAt_some
theorem runsU_nil : runsU [] = []:=by unfold runsU;rw [List.drop_nil,runsFrom]
end Go.Proofs.Ythadnhpkeljdoaa.it
namespace Go.Proofs.Ythadnhpkeljdoaa.it
open Go.RowKit Go.Shelf
open sg (lst_len)
open lx sx
theorem own_len {W : World} {base size n : Nat} {e : TypeId} {v : Value} {xs : List Value} (h : W.ownsRow base e size v n xs) : ∃ ao cap,v = .slice ao n cap ∧ n ≤ cap:=by
  rcases h.2 with ⟨rfl,h0⟩ | ⟨g,cap,cur,rfl,h2,h3,h4⟩
  · exact ⟨none,0,by rw [h0],by omega⟩
  · exact ⟨_,cap,rfl,h4.1⟩
theorem own_at {W : World} {base size n : Nat} {e : TypeId} {ao : Option Addr} {cap : Nat} {xs : List Value} (h : W.ownsRow base e size (.slice ao n cap) n xs) {j : Nat} {u : Value} (hu : xs[j]? = some u) : ∃ g,ao = some ⟨g,0,none⟩ ∧ base ≤ g ∧ g < W.heap.size ∧ W.cell? ⟨g,j,none⟩ = some u:=by
  rcases h.2 with ⟨hn,h0⟩ | ⟨g,cap',cur,hv,h2,h3,h4⟩
  · have:=h.1
    rw [h0] at this
    have:=(List.getElem?_eq_some_iff.1 hu).1
    omega
  · cases hv
    refine ⟨g,rfl,h2,(Array.getElem?_eq_some_iff.1 h3).1,?_⟩
    rw [h.cellAt j (by have:=(List.getElem?_eq_some_iff.1 hu).1;have:=h.1;omega)]
    exact hu
theorem itemCells_at (rs : List Run) (nvs : List Value) (j : Nat) (x : Run) (nv : Value) (hx : rs[j]? = some x) (hn : nvs[j]? = some nv) :
    (itemCells rs nvs)[j * 4]? = some (.int .i64 (x.l.headD (0,⟨#[]⟩)).1) ∧ (itemCells rs nvs)[j * 4 + 1]? = some (.string (x.l.headD (0,⟨#[]⟩)).2) ∧ (itemCells rs nvs)[j * 4 + 2]? = some (.int .i64 (x.at' : Int)) ∧ (itemCells rs nvs)[j * 4 + 3]? = some nv:=by
  induction rs generalizing nvs j with
  | nil=>cases hx
  | cons y ys ih =>
    cases nvs with
    | nil=>cases hn
    | cons mv mvs =>
      cases j with
      | zero=>simp at hx hn;subst hx hn;exact ⟨rfl,rfl,rfl,rfl⟩
      | succ j =>
        have:=ih mvs j (by simpa using hx) (by simpa using hn)
        rw [show (j + 1) * 4 = j * 4 + 4 by omega]
        simpa [itemCells] using this
theorem notes_get {base : Nat} {W : World} {rs : List Run} {nvs : List Value} (h : NotesAt base W rs nvs) (j : Nat) (x : Run) (nv : Value) (hx : rs[j]? = some x) (hn : nvs[j]? = some nv) : W.ownsRow base 9 1 nv (notesU x.l).length (strs (notesU x.l)):=by
  induction rs generalizing nvs j with
  | nil=>cases hx
  | cons y ys ih =>
    cases nvs with
    | nil=>cases hn
    | cons mv mvs =>
      cases j with
      | zero=>simp at hx hn;subst hx hn;exact h.1
      | succ j=>exact ih h.2 j (by simpa using hx) (by simpa using hn)
theorem item_get {base n : Nat} {W : World} {ao : Option Addr} {cap : Nat} {rs : List Run} {nvs : List Value} (h : W.ownsRow base 56 4 (.slice ao rs.length cap) rs.length (itemCells rs nvs)) (hN : NotesAt base W rs nvs) (j : Nat) (x : Run) (hx : rs[j]? = some x) :
    ∃ g nv,ao = some ⟨g,0,none⟩ ∧ g < W.heap.size ∧ nvs[j]? = some nv ∧ W.cell? ⟨g,j * 4,none⟩ = some (.int .i64 (x.l.headD (0,⟨#[]⟩)).1) ∧ W.cell? ⟨g,j * 4 + 1,none⟩ = some (.string (x.l.headD (0,⟨#[]⟩)).2) ∧ W.cell? ⟨g,j * 4 + 2,none⟩ = some (.int .i64 (x.at' : Int)) ∧ W.cell? ⟨g,j * 4 + 3,none⟩ = some nv ∧
      W.ownsRow base 9 1 nv (notesU x.l).length (strs (notesU x.l)):=by
  have hj:=(List.getElem?_eq_some_iff.1 hx).1
  obtain ⟨nv,hn⟩ : ∃ nv,nvs[j]? = some nv:=⟨_,List.getElem?_eq_getElem (by rw [hN.len];exact hj)⟩
  obtain ⟨c0,c1,c2,c3⟩:=itemCells_at rs nvs j x nv hx hn
  obtain ⟨g,hg,hb,hgl,d0⟩:=own_at h c0
  obtain ⟨g1,hg1,_,_,d1⟩:=own_at h c1
  obtain ⟨g2,hg2,_,_,d2⟩:=own_at h c2
  obtain ⟨g3,hg3,_,_,d3⟩:=own_at h c3
  rw [hg] at hg1 hg2 hg3
  obtain rfl : g = g1:=by simpa using hg1
  obtain rfl : g = g2:=by simpa using hg2
  obtain rfl : g = g3:=by simpa using hg3
  exact ⟨g,nv,hg,hgl,hn,d0,d1,d2,d3,notes_get hN j x nv hx hn⟩
end Go.Proofs.Ythadnhpkeljdoaa.it
namespace Go.Proofs.Ythadnhpkeljdoaa.gn
open Go.Lib (hid)
open Go.RowKit Go.Shelf sx ed
theorem GAt.of_bytes {W W' : World} {v : Value} {bs : List Int} {ao : Option Addr} {n cap : Nat} (hv : v = .slice ao n cap) (hb : law.BytesAt W v bs) (h6 : bs.length ≤ 60) (hW : W.alloc (.cells #[v,.int .i64 0] 59) = W') : GAt bs W.heap.size ao cap 0 W':=by
 subst hW
 subst hv
 have hn : bs.length = n:=by
  rcases hb with ⟨e,rfl⟩ | ⟨a,c,e,rfl⟩ | ⟨b,off,c,e,_,_⟩ <;> cases e <;> rfl
 refine ⟨by rw [hn];exact Blk.new W _ _,Nat.zero_le _,h6,fun j hj=>?_⟩
 rcases hb with ⟨e,rfl⟩ | ⟨a,c,e,rfl⟩ | ⟨b,off,c,e,hm,h⟩
 ·cases hj
 ·cases hj
 ·cases e
  obtain ⟨h1,h2,h3⟩:=h j hj
  have hl : b < W.heap.size:=World.block_lt_of_cell? W _ h1
  refine ⟨b,off,rfl,by omega,by simp;omega,⟨h2,h3⟩,?_⟩
  rw [← h1]
  exact World.cell?_alloc_lt W (.cells #[.slice (some ⟨b,off,none⟩) bs.length cap,.int .i64 0] 59) _ hl
theorem entered {bs : List Int} (h6 : bs.length ≤ 60) {w : World} {v : Value} (hb : law.BytesAt w v bs) : ∃ ao n cap W B,v = .slice ao n cap ∧ w.alloc (.cells #[.slice ao n cap,.int .i64 0] 59) = W ∧ w.heap.size = B ∧ GAt bs B ao cap 0 W ∧ ∀ w',GK B W w' → Below w.heap.size w w':=by
 obtain ⟨ao,n,cap,rfl⟩ : ∃ ao n cap,v = .slice ao n cap:=by rcases hb with ⟨e,_⟩ | ⟨a,c,e,_⟩ | ⟨b,off,c,e,_⟩ <;> exact ⟨_,_,_,e⟩
 have hbl : Below w.heap.size w (w.alloc (.cells #[.slice ao n cap,.int .i64 0] 59)):=(Below.refl _ w).alloc (Nat.le_refl _) _
 exact ⟨ao,n,cap,_,_,rfl,rfl,rfl,GAt.of_bytes rfl hb h6 rfl,fun w' hk=>⟨hk.os.trans hbl.os,hk.tape.trans hbl.tape,hk.output.trans hbl.output,Nat.le_trans hbl.size hk.size,fun k hk'=>(hk.block k (Nat.lt_of_lt_of_le hk' hbl.size) (by omega)).trans (hbl.block k hk')⟩⟩
theorem source_ex (bs : List Int) (h6 : bs.length ≤ 60) : ∃ s : ByteArray,s.size ≤ 1200000 ∧ ∀ (w : World) (v : Value),law.BytesAt w v bs → Calls Try.prog 10 #[v] w fun e w'=>e = .returned (.string s) ∧ Below w.heap.size w w':=by
 obtain ⟨X,hXX⟩ : ∃ X,388760 = X:=⟨_,rfl⟩
 have hs : Gs bs 5 X:=by rw [← hXX];exact gs_five
 have hPipe3:=hid (hs.pipe 3 (by decide) (by decide));have hPipe5:=hid (hs.pipe 5 (by decide) (by decide))
 have HX : RowKit.Hid (X ≤ 388760):=hid (by omega)
 clear hXX hs
 obtain ⟨z1,K1,hz1,H1⟩:=next_ex (bs:=bs) 0 12 12 rfl (by decide) (by decide)
 have hzz : z1 = 0 ∨ z1 = 1 ∨ z1 = 2 ∨ z1 = 3 ∨ z1 = 4 ∨ z1 = 5 ∨ z1 = 6 ∨ z1 = 7 ∨ z1 = 8 ∨ z1 = 9 ∨ z1 = 10 ∨ z1 = 11:=by omega
 clear hz1
 rcases hzz with rfl | rfl | rfl | rfl | rfl | rfl | rfl | rfl | rfl | rfl | rfl | rfl
 ·skip
  obtain ⟨s2,K2,H2⟩:=hPipe5.out K1
  obtain ⟨s3,c3,Z3,q3⟩:=catL ⟨#[105,109,112,111,114,116,32,34,97,47,98,34,32,97,115,32,109,59,32,105,110,99,108,117,100,101,32,34,99,34,59,32]⟩ s2 32 H2.out.1 rfl (by have:=HX.out;omega)
  refine ⟨s3,Nat.le_trans Z3.out (by have:=HX.out;omega),fun w v hb=>?_⟩
  obtain ⟨ao,n,cap,W,B,rfl,hW,hB,hg,fin⟩:=entered h6 hb
  have HF:=hid fin;have G0:=st0 hg
  have HW:=hid hW;have HB:=hid hB
  clear hg hb hW hB fin
  go_enter Try.func10,Try.ntmps10
  go_wp2_with fail
  rw [HW.out,HB.out]
  (with_reducible refine (tN H1 G0).mono ?_);rintro e w1 ⟨rfl,G1⟩
  go_wp2_with fail
  (with_reducible refine (tA H2 G1).mono ?_);rintro e w2 ⟨rfl,G2⟩
  go_wp2_with fail
  go_ret
  exact ⟨rfl,HF.out _ G2.out.k⟩
 ·skip
  obtain ⟨s4,K4,H4⟩:=hPipe5.out K1
  obtain ⟨s5,c5,Z5,q5⟩:=catL ⟨#[35,32,116,111,112,10,105,109,112,111,114,116,32,34,100,34,32,97,115,32,36,120,59,32]⟩ s4 24 H4.out.1 rfl (by have:=HX.out;omega)
  refine ⟨s5,Nat.le_trans Z5.out (by have:=HX.out;omega),fun w v hb=>?_⟩
  obtain ⟨ao,n,cap,W,B,rfl,hW,hB,hg,fin⟩:=entered h6 hb
  have HF:=hid fin;have G0:=st0 hg
  have HW:=hid hW;have HB:=hid hB
  clear hg hb hW hB fin
  go_enter Try.func10,Try.ntmps10
  go_wp2_with fail
  rw [HW.out,HB.out]
  (with_reducible refine (tN H1 G0).mono ?_);rintro e w1 ⟨rfl,G1⟩
  go_wp2_with fail
  (with_reducible refine (tA H4 G1).mono ?_);rintro e w4 ⟨rfl,G4⟩
  go_wp2_with fail
  go_ret
  exact ⟨rfl,HF.out _ G4.out.k⟩
 ·skip
  obtain ⟨s6,K6,H6⟩:=hPipe3.out K1
  obtain ⟨s7,c7,Z7,q7⟩:=catL ⟨#[100,101,102,32,102,58,32]⟩ s6 7 H6.out.1 rfl (by have:=HX.out;omega)
  obtain ⟨s8,c8,Z8,q8⟩:=catR s7 ⟨#[59,32,100,101,102,32,103,40,120,41,58,32]⟩ 12 Z7.out rfl (by have:=HX.out;omega)
  obtain ⟨s9,K9,H9⟩:=hPipe3.out K6
  obtain ⟨s10,c10,Z10,q10⟩:=cat s8 s9 Z8.out H9.out.1 (by have:=HX.out;omega)
  obtain ⟨s11,c11,Z11,q11⟩:=catR s10 ⟨#[59]⟩ 1 Z10.out rfl (by have:=HX.out;omega)
  refine ⟨s11,Nat.le_trans Z11.out (by have:=HX.out;omega),fun w v hb=>?_⟩
  obtain ⟨ao,n,cap,W,B,rfl,hW,hB,hg,fin⟩:=entered h6 hb
  have HF:=hid fin;have G0:=st0 hg
  have HW:=hid hW;have HB:=hid hB
  clear hg hb hW hB fin
  go_enter Try.func10,Try.ntmps10
  go_wp2_with fail
  rw [HW.out,HB.out]
  (with_reducible refine (tN H1 G0).mono ?_);rintro e w1 ⟨rfl,G1⟩
  go_wp2_with fail
  (with_reducible refine (tA H6 G1).mono ?_);rintro e w6 ⟨rfl,G6⟩
  go_wp2_with fail
  (with_reducible refine (tA H9 G6).mono ?_);rintro e w9 ⟨rfl,G9⟩
  go_wp2_with fail
  go_ret
  exact ⟨rfl,HF.out _ G9.out.k⟩
 all_goals
  obtain ⟨s12,K12,H12⟩:=hPipe5.out K1
  obtain ⟨s13,c13,Z13,q13⟩:=catL ⟨#[]⟩ s12 0 H12.out.1 rfl (by have:=HX.out;omega)
  refine ⟨s13,Nat.le_trans Z13.out (by have:=HX.out;omega),fun w v hb=>?_⟩
  obtain ⟨ao,n,cap,W,B,rfl,hW,hB,hg,fin⟩:=entered h6 hb
  have HF:=hid fin;have G0:=st0 hg
  have HW:=hid hW;have HB:=hid hB
  clear hg hb hW hB fin
  go_enter Try.func10,Try.ntmps10
  go_wp2_with fail
  rw [HW.out,HB.out]
  (with_reducible refine (tN H1 G0).mono ?_);rintro e w1 ⟨rfl,G1⟩
  go_wp2_with fail
  (with_reducible refine (tA H12 G1).mono ?_);rintro e w12 ⟨rfl,G12⟩
  go_wp2_with fail
  go_ret
  exact ⟨rfl,HF.out _ G12.out.k⟩
end Go.Proofs.Ythadnhpkeljdoaa.gn
