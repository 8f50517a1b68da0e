/- Ground of the law: PvF, PaMono, SgRef2, NdRef2, UtfRef3, SgOper, SgKey. -/
import Derived.Test.YthadnhpkeljdoaaGreatQf08
import Derived.Laws.Rows
import Derived.Test.YthadnhpkeljdoaaGreatQf07
import Derived.Test.YthadnhpkeljdoaaGreatQf05
import Derived.Lib.Bytealg
import Derived.RangeFuncNested
import Derived.RangeFuncBound
import Derived.RangeFuncCalls
import Derived.RangeFuncLeaves
import Derived.RangeFuncBox
import Derived.RegionTactic
import Derived.OwnWalkIn
import Derived.TacticsInMore
import Derived.LoopNIn
import Derived.LoopIn
import Derived.ChangeAlike
import Derived.Deep.MidRow
import Derived.Maps.OwnSet
import Derived.StringKeys
set_option maxRecDepth 100000
set_option maxHeartbeats 8000000
set_option linter.unusedVariables false
set_option linter.unusedSimpArgs false
namespace Go.Proofs.YthadnhpkeljdoaaGreat.pv
open Go.RowKit
theorem look_cw_in (b : Nat) : ∀ (l : List D) (o : Nat) (m : Mem) (i : Nat) (h : i < l.length),look (cw b o l ++ m) (b + 2) (o + i) = l[i]'h
  | d :: r,o,m,0,h=>by simp [cw,look]
  | d :: r,o,m,i + 1,h=>by
    have:=look_cw_in b r (o + 1) m i (by simpa using h)
    have hne : Nat.beq o (o + (i + 1)) = false:=by
      rw [Bool.eq_false_iff];intro e;have:=Nat.eq_of_beq_eq_true e;omega
    simp only [cw,List.cons_append,look,hne,Bool.and_false,cond_false,List.getElem_cons_succ]
    rw [← this,show o + 1 + i = o + (i + 1) by omega]
theorem look_cw_out (b : Nat) : ∀ (l : List D) (o : Nat) (m : Mem) (x y : Nat),(x ≠ b + 2 ∨ y < o ∨ o + l.length ≤ y) → look (cw b o l ++ m) x y = look m x y
  | [],o,m,x,y,h=>rfl
  | d :: r,o,m,x,y,h=>by
    have ih:=look_cw_out b r (o + 1) m x y (by simp at h;omega)
    have hne : (Nat.beq (b + 2) x && Nat.beq o y) = false:=by
      rw [Bool.eq_false_iff];intro e
      rw [Bool.and_eq_true] at e
      have e1:=Nat.eq_of_beq_eq_true e.1;have e2:=Nat.eq_of_beq_eq_true e.2
      simp at h;omega
    simp only [cw,List.cons_append,look,hne,cond_false]
    exact ih
section
variable {P : Program} {ty : Tys} {n : Nat} {G : Gh} {m : Mem} {a : Act} {w : World} {o : Oper} {id : Nat}
theorem lt_of_cell {g i : Nat} {x : Value} (h : w.cell? ⟨g,i,none⟩ = some x) : g < w.heap.size:=World.block_lt_of_cell? w ⟨g,i,none⟩ h
theorem after_box (hG : GOk G w) (hf : G.box id = none) {vs : Array Value} {l : List D} (t : TypeId) (hs : vs.size = l.length) (hr : ∀ (i : Nat) (x : Value) (d : D),vs[i]? = some x → l[i]? = some d → RepC G w x d) :
    ∃ G',After G w id (cw id 0 l) G' (w.alloc (.cells vs t)) ∧ Rep G' (w.alloc (.cells vs t)) (.pointer (some ⟨w.heap.size,0,none⟩)) (.ptr id 0):=by
  let G' : Gh:={ G with box:=fun b=>if b = id then some (w.heap.size,t,l.length) else G.box b }
  have hb : ∀ b x,G'.box b = some x → (b = id ∧ x = (w.heap.size,t,l.length)) ∨ (b ≠ id ∧ G.box b = some x):=fun b x e=>by
    by_cases e' : b = id
    · left;refine ⟨e',?_⟩;have : G'.box b = some (w.heap.size,t,l.length):=if_pos e';rw [this] at e;cases e;rfl
    · right;refine ⟨e',?_⟩;have : G'.box b = G.box b:=if_neg e';rw [← this];exact e
  have hbid : G'.box id = some (w.heap.size,t,l.length):=if_pos rfl
  have hold : ∀ k,k < w.heap.size → (w.alloc (.cells vs t)).heap[k]? = w.heap[k]?:=fun k hk=>Below.heap_alloc w _ _ hk
  have hcell : ∀ g i,g < w.heap.size → (w.alloc (.cells vs t)).cell? ⟨g,i,none⟩ = w.cell? ⟨g,i,none⟩:=fun g i hg=>World.cell?_of_block (hold g hg)
  have hst : Step G w G' (w.alloc (.cells vs t)):=⟨fun _ _ h=>h,fun g i h=>hcell g i (hG.imm g i h),fun b x h=>by
    have : b ≠ id:=fun e=>by rw [e,hf] at h;cases h
    exact (if_neg this).trans h,fun t T h=>⟨T,h,⟨rfl,rfl⟩,Nat.le_refl _,fun _=>rfl⟩⟩
  have hown : ∀ t T,G.tok t = some T → ∀ g,T.v.ownBlock = some g → g < w.heap.size:=fun t T h g e=>((hG.tok t T h).2.1.lt g e).2
  have hboxlt : ∀ b g ty n,G.box b = some (g,ty,n) → g < w.heap.size:=fun b g ty n e=>by obtain ⟨_,vs,hv,_⟩:=hG.box b g ty n e;exact hv.lt
  refine ⟨G',⟨hst,?_,rfl,(Below.refl _ w).alloc hG.base _,?_,?_,?_,?_,fun _ _ _ h=>h,fun m y=>look_cw_out id l 0 m 0 y (.inl (by omega))⟩,.ptr id 0 w.heap.size l.length t hbid⟩
  · refine ⟨by show G.base ≤ _;simp;have:=hG.base;omega,fun g i h=>by simp;have:=hG.imm g i h;omega,?_,?_,?_,?_,hG.tokImm,hG.tokInj,?_⟩
    · intro b g ty n e
      rcases hb b _ e with ⟨_,e⟩ | ⟨_,e⟩
      · cases e;exact ⟨hG.base,vs,heap_alloc_new w _,hs⟩
      · obtain ⟨h1,vs',h2,h3⟩:=hG.box b g ty n e
        exact ⟨h1,vs',(hold g h2.lt).trans h2,h3⟩
    · intro b g ty n i e
      rcases hb b _ e with ⟨_,e⟩ | ⟨_,e⟩
      · cases e;intro h;have:=hG.imm _ i h;omega
      · exact hG.boxImm b g ty n i e
    · intro b b' g ty ty' n n' e e'
      rcases hb b _ e with ⟨h1,e⟩ | ⟨h1,e⟩ <;> rcases hb b' _ e' with ⟨h2,e'⟩ | ⟨h2,e'⟩
      · rw [h1,h2]
      · cases e;have:=hboxlt _ _ _ _ e';omega
      · cases e';have:=hboxlt _ _ _ _ e;omega
      · exact hG.boxInj b b' g ty ty' n n' e e'
    · intro t' T e
      obtain ⟨h1,h2,h3⟩:=hG.tok t' T e
      exact ⟨h1,h2.alloc _,h3⟩
    · intro t' T b g ty n e e1 e2
      rcases hb b _ e2 with ⟨_,e2⟩ | ⟨_,e2⟩
      · cases e2;have:=hown t' T e _ e1;omega
      · exact hG.tokBox t' T b g ty n e e1 e2
  · intro m hm
    refine ⟨fun b g ty n e i x hx=>?_,fun b i h=>?_⟩
    · rcases hb b _ e with ⟨he,e'⟩ | ⟨hne,e⟩
      · subst he
        clear e
        cases e'
        rw [World.cell?_alloc_new] at hx
        have hi : i < l.length:=by have:=(Array.getElem?_eq_some_iff.1 hx).1;omega
        have:=look_cw_in b l 0 m i hi
        rw [Nat.zero_add] at this
        rw [this]
        exact (hr i x _ hx (List.getElem?_eq_getElem hi)).mono hst
      · rw [look_cw_out id l 0 m (b + 2) i (.inl (by omega))]
        rw [hcell g i (hboxlt b g ty n e)] at hx
        exact (hm.val b g ty n e i x hx).mono hst
    · by_cases e : b = id
      · subst e
        rw [look_cw_out b l 0 m (b + 2) i (.inr (.inr (by have:=h _ _ _ hbid;omega)))]
        exact hm.out b i (fun g ty n e=>by rw [hf] at e;cases e)
      · rw [look_cw_out id l 0 m (b + 2) i (.inl (by omega))]
        exact hm.out b i (fun g ty n e'=>h g ty n ((if_neg e).trans e'))
  · intro m hm t' n' h
    rw [look_cw_out id l 0 m 1 t' (.inl (by omega))] at h
    exact hm t' n' h
  · intro b x e
    rcases hb b _ e with ⟨e,_⟩ | ⟨_,e⟩
    · exact .inr e
    · exact .inl e
  · exact fun t T h=>.inl ⟨T,h⟩
theorem ok_box {t : TypeId} {x : Operand} {l : List D} (h : Sim n G m a w) (hf : G.box id = none) (ho : o.op = .box t x) (hl : cellsOf (ev m x) = some l) : OpOk P o G a w id (.ptr id 0) (cw id 0 l):=by
  obtain ⟨h1,h2⟩:=rep_cells (h.ev x) hl
  obtain ⟨G',ha,hr⟩:=after_box h.ok hf t h1 h2
  exact .of_run (v:=.pointer (some ⟨w.heap.size,0,none⟩)) (by simp [execOp,ho,Instr.box,newVar,newRow,newObj,Sem.run]) ha hr
theorem ok_alloc {t : TypeId} {y : Ty} (h : Sim n G m a w) (hy : TyOk P t y) (hf : G.box id = none) (ho : o.op = .alloc t) : OpOk P o G a w id (.ptr id 0) (cw id 0 y.zero):=by
  obtain ⟨i,z,h1,h2,_,h3,h4,h5,h6⟩:=hy.info
  have hz : z.cells.size = y.zero.length:=by rw [← h4];simp
  obtain ⟨G',ha,hr⟩:=after_box (G:=G) (w:=w) (id:=id) (vs:=z.cells) (l:=y.zero) h.ok hf t hz (fun i x d hi hd=>by
    rw [← h4,List.getElem?_map,Array.getElem?_toList,hi] at hd
    cases hd
    refine repC_const ?_
    rw [← h4,List.all_eq_true] at h5
    exact h5 _ (List.mem_map.2 ⟨x,by rw [Array.mem_toList_iff];exact Array.mem_of_getElem? hi,rfl⟩))
  exact .of_run (v:=.pointer (some ⟨w.heap.size,0,none⟩)) (by simp [execOp,ho,Instr.alloc,zeroValue,typeInfo,h1,h3,newVar,newRow,newObj,Sem.run]) ha hr
theorem ok_store {t : TypeId} {p x : Operand} {y : Ty} (h : Sim n G m a w) (hy : TyOk P t y) (ho : o.op = .store t p x) {d : D} {ws : Mem} (hd : dStore m y (ev m x) (ev m p) = .put d ws) : OpOk P o G a w id d ws:=by
  have hp:=h.ev p
  unfold dStore at hd
  split at hd
  · rename_i b off e
    split at hd
    · rename_i l hl
      cases hc : (l.length.beq y.size && (cr m b off l.length).all there) with
      | false=>rw [hc] at hd;cases hd
      | true =>
        rw [hc] at hd
        cases hd
        rw [Bool.and_eq_true] at hc
        have hsz : l.length = y.size:=Nat.eq_of_beq_eq_true hc.1
        rw [e] at hp
        obtain ⟨g,k,t',e1,hb⟩:=rep_ptr hp
        obtain ⟨h1,h2⟩:=rep_cells (h.ev x) hl
        obtain ⟨hbase,vs,hv,hvs⟩:=h.ok.box b g t' k hb
        obtain ⟨c1,c2⟩:=cr_spec m b off l.length
        have hin : off + l.length ≤ vs.size ∨ l.length = 0:=by
          by_cases h0 : l.length = 0
          · exact .inr h0
          · left
            have hm:=List.all_eq_true.1 hc.2 _ (List.mem_of_getElem? (c2 (l.length - 1) (by omega)))
            have:=(h.box hb hm).1
            omega
        have hone : ∀ v ∈ (a.eval x).cells.toList,v.oneCell' = true:=fun v hv=>by
          obtain ⟨i,hi⟩:=List.getElem?_of_mem hv
          rw [Array.getElem?_toList] at hi
          have hlt:=(Array.getElem?_eq_some_iff.1 hi).1
          exact (h2 i v _ hi (List.getElem?_eq_getElem (by omega))).one
        have hlen : (a.eval x).cells.toList.length = l.length:=by simp [h1]
        have hrun : ∃ W,(storeCells ⟨g,off,none⟩ (a.eval x).cells.toList 0).run P w = .ok () W ∧ (∀ j,j ≠ g → W.heap[j]? = w.heap[j]?) ∧ W.heap.size = w.heap.size ∧ W.os = w.os ∧ W.tape = w.tape ∧ W.output = w.output ∧ ∃ us : Array Value,Blk W g t' us ∧ us.size = vs.size ∧ (∀ i,i < l.length → us[off + i]? = (a.eval x).cells[i]?) ∧ ∀ i,(i < off ∨ off + l.length ≤ i) → us[i]? = vs[i]?:=by
          rcases hin with hin | h0
          · have hr:=run_storeCells_at P g off t' (a.eval x).cells.toList 0 vs w hv (by rw [hlen];exact hin) hone
            refine ⟨_,hr,fun j hj=>setRow_other w g j _ hj,by simp,rfl,rfl,rfl,_,setRow_heap w g vs _ t' _ hv,?_,fun i hi=>?_,fun i hi=>?_⟩
            · simp only [List.size_toArray,List.length_append,List.length_take,List.length_drop,hlen,Array.length_toList];omega
            · rw [List.getElem?_toArray,List.getElem?_append_left (by simp only [List.length_append,List.length_take,hlen,Array.length_toList];omega),List.getElem?_append_right (by simp only [List.length_take,Array.length_toList];omega)]
              simp only [List.length_take,Array.length_toList,Nat.add_zero]
              rw [show off + i - min off vs.size = i by omega,Array.getElem?_toList]
            · rw [List.getElem?_toArray]
              rcases hi with hi | hi
              · rw [List.getElem?_append_left (by simp only [List.length_append,List.length_take,hlen,Array.length_toList];omega),List.getElem?_append_left (by simp only [List.length_take,Array.length_toList];omega),List.getElem?_take_of_lt (by omega),Array.getElem?_toList]
              · rw [List.getElem?_append_right (by simp only [List.length_append,List.length_take,hlen,Array.length_toList];omega),List.getElem?_drop,Array.getElem?_toList]
                congr 1
                simp only [List.length_append,List.length_take,hlen,Array.length_toList]
                omega
          · have hnil : (a.eval x).cells.toList = []:=List.eq_nil_of_length_eq_zero (by omega)
            rw [hnil]
            exact ⟨w,by simp [storeCells],fun _ _=>rfl,rfl,rfl,rfl,rfl,vs,hv,rfl,fun i hi=>by omega,fun _ _=>rfl⟩
        obtain ⟨W,hr,hother,hsize,w1,w2,w3,us,hus,hue,hnew,hkeep⟩:=hrun
        have hrun : (execOp a.eval o).run P w = .ok .skip W:=by
          have hcs : (a.eval x).cells.size = y.size:=by omega
          simp [execOp,ho,e1,Instr.storeAt,Instr.sureAddr,storeVar,hy.size,hcs,hr]
        have hcell : ∀ g' i,g' ≠ g → W.cell? ⟨g',i,none⟩ = w.cell? ⟨g',i,none⟩:=fun g' i hne=>World.cell?_of_block (hother g' hne)
        have hnimm : ∀ i,¬ G.imm g i:=fun i=>h.ok.boxImm b g t' k i hb
        have hst : Step G w G W:=⟨fun _ _ h=>h,fun g' i hi=>hcell g' i (fun e=>hnimm i (e ▸ hi)),fun _ _ h=>h,fun t T h=>⟨T,h,⟨rfl,rfl⟩,Nat.le_refl _,fun _=>rfl⟩⟩
        refine .of_skip hrun ⟨hst,?_,rfl,⟨w1,w2,w3,by omega,fun k hk=>hother k (by omega)⟩,?_,?_,fun _ _ h=>.inl h,fun _ T h=>.inl ⟨T,h⟩,fun _ _ _ h=>h,fun m y=>look_cw_out b l off m 0 y (.inl (by omega))⟩
        · refine ⟨by have:=h.ok.base;omega,fun g' i hi=>by have:=h.ok.imm g' i hi;omega,?_,h.ok.boxImm,h.ok.boxInj,?_,h.ok.tokImm,h.ok.tokInj,h.ok.tokBox⟩
          · intro b' g' ty' n' e'
            obtain ⟨q1,vs',q2,q3⟩:=h.ok.box b' g' ty' n' e'
            by_cases hg : g' = g
            · subst hg
              have : b' = b:=h.ok.boxInj _ _ _ _ _ _ _ e' hb
              subst this
              rw [hb] at e';cases e'
              exact ⟨q1,us,hus,by omega⟩
            · exact ⟨q1,vs',(hother g' hg).trans q2,q3⟩
          · intro t1 T e'
            obtain ⟨q1,q2,q3⟩:=h.ok.tok t1 T e'
            refine ⟨q1,q2.kept (row:=some g) ⟨w1,w2,w3,by omega,fun k _ hk=>hother k (fun e=>hk (by rw [e]))⟩ (.inr (fun e=>?_)),q3⟩
            exact h.ok.tokBox t1 T b g t' k e' e hb
        · intro m' hm'
          refine ⟨fun b' g' ty' n' e' i v hv'=>?_,fun b' i hi=>?_⟩
          · by_cases hg : g' = g
            · subst hg
              have : b' = b:=h.ok.boxInj _ _ _ _ _ _ _ e' hb
              subst this
              rw [hus.cell] at hv'
              by_cases hi : off ≤ i ∧ i < off + l.length
              · obtain ⟨j,rfl⟩ : ∃ j,i = off + j:=⟨i - off,by omega⟩
                rw [look_cw_in b' l off m' j (by omega)]
                rw [hnew j (by omega)] at hv'
                exact (h2 j v _ hv' (List.getElem?_eq_getElem (by omega))).mono hst
              · rw [look_cw_out b' l off m' (b' + 2) i (by omega)]
                rw [hkeep i (by omega),← hv.cell] at hv'
                exact (hm'.val b' g' ty' n' e' i v hv').mono hst
            · have hne : b' ≠ b:=fun e=>by rw [e,hb] at e';cases e';exact hg rfl
              rw [look_cw_out b l off m' (b' + 2) i (.inl (by omega))]
              rw [hcell g' i hg] at hv'
              exact (hm'.val b' g' ty' n' e' i v hv').mono hst
          · by_cases hne : b' = b
            · subst hne
              have:=hi g t' k hb
              rw [look_cw_out b' l off m' (b' + 2) i (by omega)]
              exact hm'.out b' i hi
            · rw [look_cw_out b l off m' (b' + 2) i (.inl (by omega))]
              exact hm'.out b' i hi
        · intro m' hm' t1 n1 e'
          rw [look_cw_out b l off m' 1 t1 (.inl (by omega))] at e'
          exact hm' t1 n1 e'
    · cases hd
  · cases hd
end
end Go.Proofs.YthadnhpkeljdoaaGreat.pv
namespace Go.Proofs.YthadnhpkeljdoaaGreat.pa
open Go.RowKit nd pr
namespace Pa
def Le {α : Type} : Pa α → Pa α → Prop
 | out,_=>True
 | ret x,ret y=>x = y
 | bad,bad=>True
 | look k,look k'=>∀ t,(k t).Le (k' t)
 | peek k,peek k'=>∀ t,(k t).Le (k' t)
 | ended k,ended k'=>∀ t,(k t).Le (k' t)
 | move k,move k'=>k.Le k'
 | _,_=>False
theorem Le.refl {α : Type} : ∀ p : Pa α,p.Le p
 | out=>trivial
 | ret x=>rfl
 | bad=>trivial
 | look k=>fun t=>Le.refl (k t)
 | peek k=>fun t=>Le.refl (k t)
 | ended k=>fun t=>Le.refl (k t)
 | move k=>Le.refl k
theorem Le.trans {α : Type} : ∀ {p q s : Pa α},p.Le q → q.Le s → p.Le s
 | out,_,_,_,_=>trivial
 | ret x,ret y,ret z,h,h'=>Eq.trans (show x = y from h) h'
 | bad,bad,bad,_,_=>trivial
 | look k,look k',look k'',h,h'=>fun t=>Le.trans (h t) (h' t)
 | peek k,peek k',peek k'',h,h'=>fun t=>Le.trans (h t) (h' t)
 | ended k,ended k',ended k'',h,h'=>fun t=>Le.trans (h t) (h' t)
 | move k,move k',move k'',h,h'=>Le.trans (p:=k) (q:=k') (s:=k'') h h'
theorem Le.run {α : Type} : ∀ {p q : Pa α},p.Le q → ∀ {r : List Tk} {o : Out α},p.run r = some o → q.run r = some o
 | out,_,_,_,_,h=>by cases h
 | ret x,ret y,e,_,_,h=>by cases (show x = y from e);exact h
 | bad,bad,_,_,_,h=>h
 | look k,look k',e,r,_,h=>Le.run (p:=k (tok r)) (q:=k' (tok r)) (e (tok r)) (r:=r) h
 | peek k,peek k',e,r,_,h=>Le.run (p:=k (tok r.tail)) (q:=k' (tok r.tail)) (e (tok r.tail)) (r:=r) h
 | ended k,ended k',e,r,_,h=>Le.run (p:=k r.isEmpty) (q:=k' r.isEmpty) (e r.isEmpty) (r:=r) h
 | move k,move k',e,r,_,h=>Le.run (p:=k) (q:=k') e (r:=r.tail) h
theorem Le.bind {α β : Type} {f g : α → Pa β} (hf : ∀ x,(f x).Le (g x)) : ∀ (p q : Pa α),p.Le q → (p.bind f).Le (q.bind g)
 | out,_,_=>trivial
 | ret x,ret y,e=>by cases (show x = y from e);exact hf x
 | bad,bad,_=>trivial
 | look k,look k',e=>fun t=>Le.bind hf (k t) (k' t) (e t)
 | peek k,peek k',e=>fun t=>Le.bind hf (k t) (k' t) (e t)
 | ended k,ended k',e=>fun t=>Le.bind hf (k t) (k' t) (e t)
 | move k,move k',e=>Le.bind hf k k' e
end Pa
section
variable {α : Type}
theorem need_le {s : ByteArray} {k k' : Pa α} (h : k.Le k') : (need s k).Le (need s k'):=fun t=>by dsimp only;split;exact h;exact trivial
theorem one_le {kd : Int} {k k' : Pa α} (h : k.Le k') : (one kd k).Le (one kd k'):=fun t=>by dsimp only;split;exact h;exact trivial
theorem text_le {kd : Int} {k k' : ByteArray → Pa α} (h : ∀ s,(k s).Le (k' s)) : (text kd k).Le (text kd k'):=fun t=>by dsimp only;split;exact h _;exact trivial
theorem name_le {k k' : ByteArray → Pa α} (h : ∀ s,(k s).Le (k' s)) : (name k).Le (name k'):=fun t=>by dsimp only;split;exact h _;exact trivial
theorem if_le {c : Prop} [Decidable c] {p q p' q' : Pa α} (h1 : p.Le p') (h2 : q.Le q') : (if c then p else q).Le (if c then p' else q'):=by
 split
 ·exact h1
 ·exact h2
theorem ret_le (x : α) : (Pa.ret x).Le (Pa.ret x):=rfl
theorem look_le {k k' : Tk → Pa α} (h : ∀ t,(k t).Le (k' t)) : (Pa.look k).Le (Pa.look k'):=h
theorem peek_le {k k' : Tk → Pa α} (h : ∀ t,(k t).Le (k' t)) : (Pa.peek k).Le (Pa.peek k'):=h
theorem ended_le {k k' : Bool → Pa α} (h : ∀ t,(k t).Le (k' t)) : (Pa.ended k).Le (Pa.ended k'):=h
theorem move_le {k k' : Pa α} (h : k.Le k') : (Pa.move k).Le (Pa.move k'):=h
end
theorem step_le {rec rec' : (f : Fn) → Pa (Res f)} (h : ∀ f,(rec f).Le (rec' f)) : ∀ f,(step rec f).Le (step rec' f):=by
 intro f
 have h_exp : ∀ (l : Int),Pa.Le (rec (.exp l) : Pa (Nd)) (rec' (.exp l)):=fun l=>h (.exp l)
 have h_expL : ∀ (l : Int) (x : Nd) (b : Int),Pa.Le (rec (.expL l x b) : Pa (Nd)) (rec' (.expL l x b)):=fun l x b=>h (.expL l x b)
 have h_operand : Pa.Le (rec (.operand) : Pa (Nd)) (rec' (.operand)):=h (.operand)
 have h_params : Pa.Le (rec (.params) : Pa (List Nd)) (rec' (.params)):=h (.params)
 have h_deff : ∀ (b : Bool),Pa.Le (rec (.deff b) : Pa (Nd)) (rec' (.deff b)):=fun b=>h (.deff b)
 have h_within : ∀ (x : Nd) (d : ByteArray),Pa.Le (rec (.within x d) : Pa (Nd)) (rec' (.within x d)):=fun x d=>h (.within x d)
 have h_slice : ∀ (x : Nd) (f : Nd) (d : ByteArray),Pa.Le (rec (.slice x f d) : Pa (Nd)) (rec' (.slice x f d)):=fun x f d=>h (.slice x f d)
 have h_post : Pa.Le (rec (.post) : Pa (Nd)) (rec' (.post)):=h (.post)
 have h_postL : ∀ (x : Nd),Pa.Le (rec (.postL x) : Pa (Nd)) (rec' (.postL x)):=fun x=>h (.postL x)
 have h_str : Pa.Le (rec (.str) : Pa (Nd)) (rec' (.str)):=h (.str)
 have h_strF : ∀ (f : ByteArray),Pa.Le (rec (.strF f) : Pa (Nd)) (rec' (.strF f)):=fun f=>h (.strF f)
 have h_strL : Pa.Le (rec (.strL) : Pa (List Nd)) (rec' (.strL)):=h (.strL)
 have h_term : Pa.Le (rec (.term) : Pa (Nd)) (rec' (.term)):=h (.term)
 have h_bracket : Pa.Le (rec (.bracket) : Pa (Nd)) (rec' (.bracket)):=h (.bracket)
 have h_pairs : Pa.Le (rec (.pairs) : Pa (List Nd)) (rec' (.pairs)):=h (.pairs)
 have h_worded : Pa.Le (rec (.worded) : Pa (Nd)) (rec' (.worded)):=h (.worded)
 have h_args : Pa.Le (rec (.args) : Pa (List Nd)) (rec' (.args)):=h (.args)
 have h_ifs : Pa.Le (rec (.ifs) : Pa (List Nd)) (rec' (.ifs)):=h (.ifs)
 have h_fold : ∀ (k : Int) (b : Bool),Pa.Le (rec (.fold k b) : Pa (Nd)) (rec' (.fold k b)):=fun k b=>h (.fold k b)
 have h_key : ∀ (p : Bool),Pa.Le (rec (.key p) : Pa (Nd × Bool)) (rec' (.key p)):=fun p=>h (.key p)
 have h_pair : Pa.Le (rec (.pair) : Pa (Nd)) (rec' (.pair)):=h (.pair)
 have h_value : Pa.Le (rec (.value) : Pa (Nd)) (rec' (.value)):=h (.value)
 have h_unit : Pa.Le (rec (.unit) : Pa (Nd)) (rec' (.unit)):=h (.unit)
 have h_keypat : Pa.Le (rec (.keypat) : Pa (Nd)) (rec' (.keypat)):=h (.keypat)
 have h_pattern : Pa.Le (rec (.pattern) : Pa (Nd)) (rec' (.pattern)):=h (.pattern)
 have h_elems : ∀ (b : Bool),Pa.Le (rec (.elems b) : Pa (List Nd)) (rec' (.elems b)):=fun b=>h (.elems b)
 have h_bring : Pa.Le (rec (.bring) : Pa (Nd)) (rec' (.bring)):=h (.bring)
 have h_plainL : Pa.Le (rec (.plainL) : Pa (List Nd)) (rec' (.plainL)):=h (.plainL)
 have h_brings : Pa.Le (rec (.brings) : Pa (List Nd)) (rec' (.brings)):=h (.brings)
 clear h
 cases f <;> simp only [step]
 all_goals
  repeat (first
   | with_reducible exact h_exp _
   | with_reducible exact h_expL _ _ _
   | with_reducible exact h_operand
   | with_reducible exact h_params
   | with_reducible exact h_deff _
   | with_reducible exact h_within _ _
   | with_reducible exact h_slice _ _ _
   | with_reducible exact h_post
   | with_reducible exact h_postL _
   | with_reducible exact h_str
   | with_reducible exact h_strF _
   | with_reducible exact h_strL
   | with_reducible exact h_term
   | with_reducible exact h_bracket
   | with_reducible exact h_pairs
   | with_reducible exact h_worded
   | with_reducible exact h_args
   | with_reducible exact h_ifs
   | with_reducible exact h_fold _ _
   | with_reducible exact h_key _
   | with_reducible exact h_pair
   | with_reducible exact h_value
   | with_reducible exact h_unit
   | with_reducible exact h_keypat
   | with_reducible exact h_pattern
   | with_reducible exact h_elems _
   | with_reducible exact h_bring
   | with_reducible exact h_plainL
   | with_reducible exact h_brings
   | with_reducible refine Pa.Le.bind (fun _=>?_) _ _ ?_
   | with_reducible refine need_le ?_
   | with_reducible refine one_le ?_
   | with_reducible refine text_le (fun _=>?_)
   | with_reducible refine name_le (fun _=>?_)
   | with_reducible refine look_le (fun _=>?_)
   | with_reducible refine peek_le (fun _=>?_)
   | with_reducible refine ended_le (fun _=>?_)
   | with_reducible refine move_le ?_
   | with_reducible refine if_le ?_ ?_
   | exact ret_le _
   | exact trivial)
theorem go_next : ∀ n f,(go n f).Le (go (n + 1) f)
 | 0,f=>trivial
 | n + 1,f=>step_le (go_next n) f
theorem go_le {n m : Nat} (h : n ≤ m) (f : Fn) : (go n f).Le (go m f):=by
 induction h with
 | refl=>exact Pa.Le.refl _
 | step _ ih=>exact ih.trans (go_next _ f)
theorem run_one {n m : Nat} {f : Fn} {r : List Tk} {o o' : Out (Res f)} (h : (go n f).run r = some o) (h' : (go m f).run r = some o') : o = o':=by
 rcases Nat.le_total n m with e | e
 ·exact Option.some.inj (((go_le e f).run h).symm.trans h')
 ·exact Option.some.inj (h.symm.trans ((go_le e f).run h'))
theorem fuel_ok (l : List Tk) : 8 * l.length + 6 < fuel l:=by unfold fuel;omega
theorem parse_ok (l : List Tk) : ∃ o,(go (fuel l) .program).run l = some o:=parse_run l _ (fuel_ok l)
theorem parse_of {l : List Tk} {n : Nat} {o : Out Nd} (hd : deepAt 0 0 l = none) (h : (go n .program).run l = some o) : parse l = match o with
  | .ok _ x=>(x,0,0)
  | .bad r=>(none0,22,l.length - r.length):=by
 obtain ⟨o',h'⟩:=parse_ok l
 obtain rfl:=run_one h h'
 unfold parse
 rw [hd,h']
 cases o <;> rfl
end Go.Proofs.YthadnhpkeljdoaaGreat.pa
namespace Go.Proofs.YthadnhpkeljdoaaGreat.sg
open Go.Lib (hid)
open Go.RowKit Go.Shelf
theorem pre_two_take (s : ByteArray) (a : Nat) : ((s.extract a (a + 2)).toList == [58,58]) = Lib.hasPrefix (s.data.toList.drop a) [58,58]:=by
  rw [Lib.toList_data,Lib.extract_data,← Lib.hasPrefix_of_take]
  have e : a + 2 - a = [58,58].length:=by simp
  rw [e]
  by_cases h : ([58,58] : List UInt8).length ≤ (s.data.toList.drop a).length
  · rw [decide_eq_true h,Bool.true_and,Bool.eq_iff_iff,beq_iff_eq,beq_iff_eq];exact Iff.rfl
  · rw [decide_eq_false h,Bool.false_and,beq_eq_false_iff_ne]
    intro e2
    have:=congrArg List.length e2
    rw [List.length_take] at this
    omega
theorem further_small {l : List UInt8} (h : l.length ≤ 2) : Sg.further l = 0:=by
  unfold Sg.further
  split
  · have : l.drop 2 = []:=List.drop_eq_nil_of_le h
    rw [this];rfl
  · rfl
def RW (s : ByteArray) (b f : Nat) : Prop:=(b = 0 ∧ Sg.word s.data.toList = 0) ∨ (0 < b ∧ b ≤ s.size ∧ s.size ≤ f + b ∧ Sg.word s.data.toList = b + Sg.tail f (s.data.toList.drop b))
theorem RW.start (s : ByteArray) : RW s (Sg.simple s.data.toList) s.size:=by
  have hsl:=Sg.simple_le s.data.toList
  rw [lst_len] at hsl
  by_cases h : Sg.simple s.data.toList = 0
  · left
    refine ⟨h,?_⟩
    unfold Sg.word;rw [if_pos h]
  · right
    refine ⟨by omega,hsl,by omega,?_⟩
    unfold Sg.word;rw [if_neg h,lst_len]
theorem RW.fin {s : ByteArray} {b f : Nat} (h : RW s b f) (h0 : Sg.further (s.data.toList.drop b) = 0) : Sg.word s.data.toList = b:=by
  rcases h with ⟨rfl,h⟩ | ⟨_,_,_,h⟩
  · exact h
  · rw [h]
    cases f with
    | zero=>rfl
    | succ f =>
      rw [show Sg.tail (f + 1) (s.data.toList.drop b) = (if Sg.further (s.data.toList.drop b) = 0 then 0 else Sg.further (s.data.toList.drop b) + Sg.tail f ((s.data.toList.drop b).drop (Sg.further (s.data.toList.drop b)))) from rfl,if_pos h0];rfl
theorem RW.step {s : ByteArray} {b f m : Nat} (h : RW s b f) (hb : 0 < b) (hm : Sg.further (s.data.toList.drop b) = m) (h0 : m ≠ 0) : b + m ≤ s.size ∧ RW s (b + m) (f - 1):=by
  have hfl:=Sg.further_le (s.data.toList.drop b)
  rw [List.length_drop,lst_len,hm] at hfl
  rcases h with ⟨rfl,h⟩ | ⟨_,h1,h2,h⟩
  · omega
  · cases f with
    | zero=>omega
    | succ f =>
      rw [show Sg.tail (f + 1) (s.data.toList.drop b) = (if Sg.further (s.data.toList.drop b) = 0 then 0 else Sg.further (s.data.toList.drop b) + Sg.tail f ((s.data.toList.drop b).drop (Sg.further (s.data.toList.drop b)))) from rfl,hm,if_neg h0,List.drop_drop] at h
      exact ⟨by omega,.inr ⟨by omega,by omega,by omega,by rw [h,Nat.add_sub_cancel];omega⟩⟩
theorem rword_calls (s : ByteArray) (hs : s.size ≤ 140737488351232) (w : World) :
    Calls Tryz.prog 86 #[.string s] w fun e w'=>e = .returned (.int .i64 (Sg.word s.data.toList : Nat)) ∧ w = w':=by
  have hsm:=rsimple_calls s hs w
  have hst:=RW.start s
  obtain ⟨k0,hk0⟩ : ∃ k,Sg.simple s.data.toList = k:=⟨_,rfl⟩
  rw [hk0] at hsm hst
  have HST:=hid hst
  clear hk0 hst
  go_enter Tryz.func86,Tryz.ntmps86
  go_wp2_with fail
  ((with_reducible refine hsm.mono ?_);rintro e w1 ⟨rfl,rfl⟩)
  go_wp2_with fail
  go_loopw [3] (fun n wr=>∃ (b f : Nat),n = .int .i64 (b : Int) ∧ RW s b f ∧ wr = w) (fun n _=>s.size + 1 - (intOf n).toNat)
  case atStart=>exact ⟨k0,s.size,rfl,HST.out,rfl⟩
  case round =>
    obtain ⟨b,f,rfl,hR,rfl⟩:=hrel
    have HR:=hid hR
    by_cases h0 : b = 0
    · have hw : Sg.word s.data.toList = 0:=by
        rcases hR with ⟨_,h⟩ | ⟨h,_⟩
        · exact h
        · omega
      have HV:=hid hw
      subst h0
      clear hR hw
      go_wp2_with fail
      go_ret
      exact ⟨by rw [HV.out];rfl,rfl⟩
    · have hbs : b ≤ s.size:=by
        rcases hR with ⟨h,_⟩ | ⟨_,h,_⟩
        · omega
        · exact h
      clear hR
      have t0 : decide ((0 : Int) < (b : Int)) = true:=decide_eq_true (by omega)
      have t0' : decide (0 < b) = true:=decide_eq_true (by omega)
      obtain ⟨c,hc⟩ : ∃ c,b + 2 = c:=⟨_,rfl⟩
      have w2 : wrap64 ((b : Int) + 2) = (c : Int):=by rw [IntWalk.wrap64_in _ (by omega)];omega
      have w2' : IntKind.i64.wrap ((b : Int) + 2) = (c : Int):=(IntWalk.i64_left _).trans w2
      have w2n : (b : Int) + 2 = (c : Int):=by omega
      by_cases h1 : c < s.size
      · have t1 : decide ((c : Int) < (s.size : Int)) = true:=decide_eq_true (by omega)
        have hpt:=pre_two_take s b
        rw [hc] at hpt
        have l1 : (b : Int) ≤ (c : Int):=by omega
        have l2 : (c : Int) ≤ (s.size : Int):=by omega
        cases hp : Lib.hasPrefix (s.data.toList.drop b) [58,58] with
        | false =>
          rw [hp] at hpt
          have HV:=hid (HR.out.fin (by unfold Sg.further;rw [hp];rfl))
          clear hp
          go_wp2_with fail
          go_ret
          exact ⟨by rw [HV.out];rfl,rfl⟩
        | true =>
          rw [hp] at hpt
          have hsc:=rsimple_calls (s.extract c s.size) (ext_size _ _ hs) wr
          rw [extract_drop] at hsc
          have hfu : Sg.further (s.data.toList.drop b) = if Sg.simple (s.data.toList.drop c) = 0 then 0 else 2 + Sg.simple (s.data.toList.drop c):=by
            unfold Sg.further;rw [hp,if_pos rfl,List.drop_drop,hc]
          have hkl:=Sg.simple_le (s.data.toList.drop c)
          rw [List.length_drop,lst_len] at hkl
          obtain ⟨k,hk⟩ : ∃ k,Sg.simple (s.data.toList.drop c) = k:=⟨_,rfl⟩
          rw [hk] at hsc hfu hkl
          clear hp hk
          by_cases hk0 : k = 0
          · have HV:=hid (HR.out.fin (by rw [hfu,if_pos hk0]))
            subst hk0
            clear hfu
            go_wp2_with fail
            ((with_reducible refine hsc.mono ?_);rintro e w1 ⟨rfl,rfl⟩)
            go_wp2_with fail
            go_ret
            exact ⟨by rw [HV.out];rfl,rfl⟩
          · rw [if_neg hk0] at hfu
            have hst:=HR.out.step (by omega) hfu (by omega)
            have HS:=hid hst
            have t2 : decide ((0 : Int) < (k : Int)) = true:=decide_eq_true (by omega)
            have t2' : decide (0 < k) = true:=decide_eq_true (by omega)
            have w3 : wrap64 (2 + (k : Int)) = ((2 + k : Nat) : Int):=by rw [IntWalk.wrap64_in _ (by omega)];omega
            have w3' : IntKind.i64.wrap (2 + (k : Int)) = ((2 + k : Nat) : Int):=(IntWalk.i64_left _).trans w3
            have w4 : wrap64 ((b : Int) + ((2 + k : Nat) : Int)) = ((b + (2 + k) : Nat) : Int):=by rw [IntWalk.wrap64_in _ (by omega)];omega
            have w4' : IntKind.i64.wrap ((b : Int) + ((2 + k : Nat) : Int)) = ((b + (2 + k) : Nat) : Int):=(IntWalk.i64_left _).trans w4
            clear hfu hst
            go_wp2_with fail
            ((with_reducible refine hsc.mono ?_);rintro e w1 ⟨rfl,rfl⟩)
            go_wp2_with fail
            ((with_reducible refine hsc.mono ?_);rintro e w1 ⟨rfl,rfl⟩)
            go_wp2_with fail
            go_roundw
            case rel=>exact ⟨b + (2 + k),f - 1,by go_num,HS.out.2,trivial⟩
            case measure=>simp [intOf];have:=HS.out.1;omega
      · have t1 : decide ((c : Int) < (s.size : Int)) = false:=decide_eq_false (by omega)
        have HV:=hid (HR.out.fin (further_small (by rw [List.length_drop,lst_len];omega)))
        go_wp2_with fail
        go_ret
        exact ⟨by rw [HV.out];rfl,rfl⟩
end Go.Proofs.YthadnhpkeljdoaaGreat.sg
namespace Go.Proofs.YthadnhpkeljdoaaGreat.nd
open Go.Lib (hid)
open Go.RowKit sx ed
theorem ret_int {a b : Int} (h : a = b) : Ending.returned (.int .i64 a) = .returned (.int .i64 b):=by rw [h]
def RCountOk (x : Nd) : Prop:=x.count ≤ 1000000 → ∀ (w : World) (v : Value),NdAt (Lt w.heap.size) w x v →
 Calls Tryz.prog 23 #[v] w fun e w'=>e = .returned (.int .i64 (x.count : Int)) ∧ Below w.heap.size w w'
theorem rcount_ok (x : Nd) : RCountOk x:=by
 refine Nd.induct (p:=RCountOk) (fun x hp hcnt w v hu=>?_) x
 obtain ⟨s,rfl,hs⟩:=hu
 obtain ⟨ao,cap,rfl,hm⟩:=hs.slice
 obtain ⟨k,t,f⟩:=x
 dsimp only at hs hm hp ⊢
 unfold maxLen at hm
 simp only [Nd.count] at hcnt
 obtain ⟨W0,hW0⟩ : ∃ W0,w.alloc (.cells #[.int .i64 k,.string t,.slice ao f.len cap] 27) = W0:=⟨_,rfl⟩
 have hb0 : Below w.heap.size w W0:=by rw [← hW0];exact (Below.refl _ w).alloc (Nat.le_refl _) _
 have hk1 : Blk W0 w.heap.size 27 #[.int .i64 k,.string t,.slice ao f.len cap]:=by rw [← hW0];exact Blk.new w _ _
 obtain ⟨m,hmm⟩ : ∃ m,f.len = m:=⟨_,rfl⟩
 rw [hmm] at hm hs hW0 hk1 ⊢
 have HF:=hid (hs.below hb0 (Nat.le_refl _));have HL:=hid hmm;have HP:=hid hp;have HB0:=hid hb0
 have HK1:=hid hk1;have HW0:=hid hW0;have HCN:=hid hcnt
 clear hs hmm hp hb0 hk1 hW0 hcnt
 go_enter Tryz.func23,Tryz.ntmps23
 go_wp2_with fail
 rw [HW0.out]
 go_loopw [3,4] (fun a i wr=>∃ j c : Nat,j ≤ m ∧ i = .int .i64 (j : Int) ∧ a = .int .i64 (c : Int) ∧ c = 1 + (f.take j).count ∧ Below W0.heap.size W0 wr) (fun _ i _=>m - (intOf i).toNat)
 case atStart=>exact ⟨0,1,Nat.zero_le _,rfl,rfl,by cases f <;> rfl,Below.refl _ _⟩
 case round =>
  obtain ⟨j,c,hj,rfl,rfl,hc,hbw⟩:=hrel
  have a2:=(HK1.out.own hbw).cell 2
  by_cases hlt : j < m
  ·obtain ⟨x,hx⟩:=Fo.get_of_lt (f:=f) (i:=j) (by rw [HL.out];exact hlt)
   have hFw:=HF.out.toLt.below hbw (Nat.le_refl _)
   obtain ⟨g1,o1,ao1,cap1,rfl,_,hg1,d0,d1,d2,d3⟩:=hFw.get hx
   have hlt1 : (j : Int) < (m : Int):=by omega
   have hcx:=Fo.count_get hx
   have hc1:=HCN.out
   have hcc:=Fo.count_snoc hx
   obtain ⟨d,hd⟩ : ∃ d,x.count = d:=⟨_,rfl⟩
   have hcall : Calls Tryz.prog 23 #[.agg #[.int .i64 x.k,.string x.t,.slice ao1 x.kids.len cap1]] wr fun e w'=>e = .returned (.int .i64 (x.count : Int)) ∧ Below wr.heap.size wr w' :=
    HP.out.get hx (by omega) wr _ (NdAt.mk d3.toLt)
   rw [hd] at hcall hcx hcc
   have hc2 : c ≤ 1000000:=by omega
   have hd2 : d ≤ 1000000:=by omega
   have hrel2 : c + d = 1 + (f.take (j + 1)).count:=by omega
   have HC:=hid hcall;have HR:=hid hrel2
   have HW:=hid hbw
   clear hcall hx d3 hbw hFw hcx hc hcc hd hrel2 hc1
   go_wp2_with fail
   ((with_reducible refine HC.out.mono ?_);rintro e w1 ⟨rfl,hb1⟩)
   have hb2:=HW.out.trans (hb1.mono HW.out.size)
   have HB2:=hid hb2
   clear hb1 hb2
   go_wp2_with fail
   exact ⟨⟨j + 1,c + d,by omega,rfl,by go_num,HR.out,HB2.out⟩,by simp [intOf];omega⟩
  ·obtain rfl : j = m:=by omega
   have hge : decide ((j : Int) < (j : Int)) = false:=by simp
   rw [Fo.take_all (by rw [HL.out];exact Nat.le_refl _)] at hc
   have HC:=hid hc
   clear hc
   go_wp2_with fail
   go_ret
   exact ⟨ret_int (by have:=HC.out;simp only [Nd.count];omega),HB0.out.trans (hbw.mono HB0.out.size)⟩
end Go.Proofs.YthadnhpkeljdoaaGreat.nd
namespace Go.Proofs.YthadnhpkeljdoaaGreat.utf
open Go.Lib (hid)
open Go.RowKit
theorem Below.next {B : Nat} {w a b : World} (h : Below B w a) (k : Below a.heap.size a b) (hB : B ≤ w.heap.size) : Below B w b:=h.trans (k.mono (Nat.le_trans hB h.size))
theorem one_dropB (s : ByteArray) (hs : s.size ≤ 70000) (k r : Nat) (h : oneL (s.data.toList.drop k) = r) (w : World) :
  Calls Tryz.prog 70 #[.string (s.extract k s.size)] w fun e w'=>e = .returned (.int .i64 (r : Int)) ∧ Below w.heap.size w w':=by
 have hsz : (s.extract k s.size).size ≤ 70000:=by rw [ByteArray.size_extract];omega
 have h1:=one_calls (s.extract k s.size) hsz w
 rw [extract_drop,h] at h1
 exact h1
theorem refCheck_big (s : ByteArray) (hs : s.size ≤ 70000) (w : World) : Calls Tryz.prog 55 #[.string s] w fun e w'=>e = .returned (.int .i64 (checkF s)) ∧ Below w.heap.size w w':=by
 go_enter Tryz.func55,Tryz.ntmps55
 go_wp2_with fail
 go_loopw [3] (fun a wr=>∃ pos b : Nat,a = .int .i64 (pos : Int) ∧ pos ≤ s.size ∧ chkL b (s.data.toList.drop pos) pos = checkF s ∧ s.size ≤ pos + b ∧ Below w.heap.size w wr) (fun a _=>s.size - (intOf a).toNat)
 case atStart=>exact ⟨0,s.size,rfl,Nat.zero_le _,by rw [checkF_L,size_toList];rfl,by omega,Below.refl _ _⟩
 case round =>
  obtain ⟨pos,b,rfl,hpos,hc,hb,hB⟩:=hrel
  by_cases hlt : pos < s.size
  ·have hne : s.data.toList.drop pos ≠ []:=fun e=>(drop_ne s pos).1 e hlt
   have hle:=oneL_le _ hne
   rw [List.length_drop,size_toList] at hle
   obtain ⟨b,rfl⟩ : ∃ b',b = b' + 1:=⟨b - 1,by omega⟩
   obtain ⟨r,hr⟩ : ∃ r,oneL (s.data.toList.drop pos) = r:=⟨_,rfl⟩
   have ho:=one_dropB s hs pos r hr
   simp only [chkL] at hc
   rw [if_neg hne,hr,List.drop_drop] at hc
   rw [hr] at hle
   have HO:=hid ho;have HC:=hid hc
   have hposI : (pos : Int) ≤ (s.size : Int):=by omega
   clear ho hc hr hne
   by_cases h0 : r = 0
   ·subst h0
    go_wp2_with fail
    ((with_reducible refine (HO.out _).mono ?_);rintro e w1 ⟨rfl,hb1⟩)
    go_wp2_with fail
    go_ret
    exact ⟨by have:=HC.out;simp only [if_true] at this;rw [← this];rfl,Below.next hB hb1 (Nat.le_refl _)⟩
   ·have hz : ((r : Int) == 0) = false:=by rw [beq_eq_false_iff_ne];omega
    have HC2:=hid (show chkL b (s.data.toList.drop (pos + r)) (pos + r) = checkF s from by have:=HC.out;rwa [if_neg h0] at this)
    go_wp2_with fail
    ((with_reducible refine (HO.out _).mono ?_);rintro e w1 ⟨rfl,hb1⟩)
    go_wp2_with fail
    go_roundw
    case rel=>exact ⟨pos + r,b,by go_num,by omega,HC2.out,by omega,Below.next hB hb1 (Nat.le_refl _)⟩
    case measure=>simp [intOf];omega
  ·have hnil:=(drop_ne s pos).2 hlt
   rw [hnil,chkL_nil] at hc
   have HC:=hid hc
   clear hc hnil
   go_wp2_with fail
   go_ret
   exact ⟨by rw [← HC.out];rfl,hB⟩
end Go.Proofs.YthadnhpkeljdoaaGreat.utf
namespace Go.Proofs.YthadnhpkeljdoaaGreat.sg
open Go.RowKit Go.Shelf
attribute [local go_sem] Oper.semAt_some
def opsL : List Value:=Sg.opers.map fun l=>Value.string ⟨l.toArray⟩
theorem opsL_at {m : Nat} (h : m < 34) : opsL.toArray[m]? = some (.string ⟨(Sg.opers.getD m []).toArray⟩):=by
 have hl : Sg.opers.length = 34:=rfl
 simp [opsL,List.getD,h,hl]
theorem oper_find {l : List UInt8} {ini : List (List UInt8)} {x : List UInt8} (hpre : ini ++ [x] <+: Sg.opers) (hno : ∀ y ∈ ini,Lib.hasPrefix l y = false) (hle : Lib.hasPrefix l x = true) : Sg.oper l = x.length:=by
 obtain ⟨rest,hr⟩:=hpre
 unfold Sg.oper
 rw [← hr,List.append_assoc,List.find?_append,List.find?_eq_none.2 (fun y hy=>by rw [hno y hy];simp)]
 have e : ([x] ++ rest).find? (fun o=>Lib.hasPrefix l o) = some x:=by simp [hle]
 rw [e];rfl
theorem oper_none {l : List UInt8} (hno : ∀ y ∈ Sg.opers,Lib.hasPrefix l y = false) : Sg.oper l = 0:=by
 unfold Sg.oper
 rw [List.find?_eq_none.2 (fun y hy=>by rw [hno y hy];simp)]
end Go.Proofs.YthadnhpkeljdoaaGreat.sg
namespace Go.Proofs.YthadnhpkeljdoaaGreat.sg
open Go.RowKit Go.Shelf Go.Maps Go.ChangeMaps Go.WideShapes Go.WideMaps
theorem isEmpty_data (s : ByteArray) : s.toList.isEmpty = s.data.toList.isEmpty:=by rw [Lib.toList_data]
end Go.Proofs.YthadnhpkeljdoaaGreat.sg
