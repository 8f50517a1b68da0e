/- Ground of the law: PvG, SgRef4, NdDeep. -/
import Derived.Test.YthadnhpkeljdoaaQh08
import Derived.Laws.Tables
import Derived.Laws.OwnMore
import Derived.Laws.Strings2
import Derived.Test.YthadnhpkeljdoaaQh09
import Derived.Deep.QuietTactic
import Derived.BigQuiet
import Derived.Test.YthadnhpkeljdoaaQh07
set_option maxRecDepth 100000
set_option maxHeartbeats 8000000
set_option linter.unusedVariables false
set_option linter.unusedSimpArgs false
namespace Go.Proofs.Ythadnhpkeljdoaa.pv
open Go.RowKit
theorem look_cons (p q : Nat) (d : D) (m : Mem) (x y : Nat) : look ((p,q,d) :: m) x y = if p = x ∧ q = y then d else look m x y:=by
  by_cases h : p = x ∧ q = y
  · rw [if_pos h];simp [look,h.1,h.2]
  · have : (Nat.beq p x && Nat.beq q y) = false:=by
      rw [Bool.eq_false_iff];intro e
      rw [Bool.and_eq_true] at e
      exact h ⟨Nat.eq_of_beq_eq_true e.1,Nat.eq_of_beq_eq_true e.2⟩
    rw [if_neg h];simp only [look,this,cond_false]
section
variable {P : Program} {ty : Tys} {n : Nat} {G : Gh} {m : Mem} {a : Act} {w : World} {o : Oper} {id : Nat}
theorem repC_sl {b : Option Addr} {len cap : Nat} {k : Tk} {es : List (List D)} (h : RepC G w (.slice b len cap) (.sl k es)) : len = es.length ∧ ∃ (g q sz : Nat) (xs : Nat → Nat → Value),(es ≠ [] → b = some ⟨g,q,none⟩) ∧
    (∀ (i : Nat) (e : List D) (j : Nat) (d : D),es[i]? = some e → e[j]? = some d → w.cell? ⟨g,q + (i * sz + j),none⟩ = some (xs i j) ∧ G.imm g (q + (i * sz + j))) ∧
    (∀ (i : Nat) (e : List D) (j : Nat) (d : D),es[i]? = some e → e[j]? = some d → RepC G w (xs i j) d) ∧ (∀ e ∈ es,e.length = sz ∧ e.all noOwn = true) ∧ (es.length ≤ maxLen ∧ es.length ≤ cap) ∧ TkOk G b cap es.length sz k:=by
  generalize hv : Value.slice b len cap = v at h
  cases h with
  | sl a cap k es g o sz xs ha hc hr hl hm hk =>
    cases hv
    exact ⟨rfl,g,o,sz,xs,ha,hc,hr,hl,hm,hk⟩
theorem after_tok (hG : GOk G w) {w' : World} {t e sz k : Nat} {v : Value} {xs : List Value} {row : Option Nat} (hsz : 0 < sz) (hid : t = id ∨ ∃ T,G.tok t = some T)
    (hown : w'.ownsRow G.base e sz v k xs) (hgrow : w.grownBy w' row) (hold : ∀ g i,G.imm g i → w'.cell? ⟨g,i,none⟩ = w.cell? ⟨g,i,none⟩)
    (hrow : (G.tok t = none ∧ row = none) ∨ ∃ T,G.tok t = some T ∧ row = T.v.ownBlock ∧ T.e = e ∧ T.sz = sz ∧ T.n ≤ k ∧ (k = T.n → v = T.v))
    (hnew : ∀ g,v.ownBlock = some g → row = some g ∨ w.heap.size ≤ g) :
    ∃ G',After G w id [(1,t,.num k)] G' w' ∧ G'.tok t = some ⟨v,e,sz,k,xs⟩ ∧ ∀ g,v.ownBlock = some g → ∀ i,i < k * sz → G'.imm g i:=by
  let G' : Gh:={ G with imm:=fun g i=>G.imm g i ∨ (v.ownBlock = some g ∧ i < k * sz),tok:=fun u=>if u = t then some ⟨v,e,sz,k,xs⟩ else G.tok u }
  have htt : G'.tok t = some ⟨v,e,sz,k,xs⟩:=if_pos rfl
  have htu : ∀ u,u ≠ t → G'.tok u = G.tok u:=fun u h=>if_neg h
  have hboxlt : ∀ b g ty n,G.box b = some (g,ty,n) → g < w.heap.size:=fun b g ty n e=>by obtain ⟨_,vs,hv,_⟩:=hG.box b g ty n e;exact hv.lt
  have hrowbox : ∀ b g ty n,G.box b = some (g,ty,n) → row ≠ some g:=fun b g ty n e h=>by
    rcases hrow with ⟨_,h1⟩ | ⟨T,h1,h2,_⟩
    · rw [h1] at h;cases h
    · exact hG.tokBox t T b g ty n h1 (h2 ▸ h) e
  have htoklt : ∀ u T g,G.tok u = some T → T.v.ownBlock = some g → g < w.heap.size:=fun u T g h e=>((hG.tok u T h).2.1.lt g e).2
  have hrowtok : ∀ u T g,u ≠ t → G.tok u = some T → T.v.ownBlock = some g → row ≠ some g:=fun u T g hu h e he=>by
    rcases hrow with ⟨_,h1⟩ | ⟨T',h1,h2,_⟩
    · rw [h1] at he;cases he
    · exact hu (hG.tokInj u t T T' g h h1 e (h2 ▸ he))
  have hblk : ∀ g,g < w.heap.size → row ≠ some g → w'.heap[g]? = w.heap[g]?:=fun g h1 h2=>hgrow.block g h1 (fun e=>h2 e.symm)
  have hst : Step G w G' w':=⟨fun g i h=>.inl h,hold,fun _ _ h=>h,fun u T h=>by
    by_cases hu : u = t
    · subst hu
      rcases hrow with ⟨h1,_⟩ | ⟨T',h1,h2,h3,h4,h5,h6⟩
      · rw [h1] at h;cases h
      · rw [h1] at h;cases h
        exact ⟨_,htt,⟨h3.symm,h4.symm⟩,h5,fun e=>h6 e⟩
    · exact ⟨T,(htu u hu).trans h,⟨rfl,rfl⟩,Nat.le_refl _,fun _=>rfl⟩⟩
  refine ⟨G',⟨hst,?_,rfl,⟨hgrow.os,hgrow.tape,hgrow.output,hgrow.size,fun q hq=>?_⟩,?_,?_,fun _ _ h=>.inl h,?_,fun g i hg h=>h.elim (fun h=>h) (fun h=>by have:=(hown.lt g h.1).1;omega),fun m y=>by rw [List.singleton_append,look_cons,if_neg (by omega)]⟩,htt,fun g hg i hi=>.inr ⟨hg,hi⟩⟩
  · refine ⟨Nat.le_trans hG.base hgrow.size,?_,?_,?_,hG.boxInj,?_,?_,?_,?_⟩
    · rintro g i (h | ⟨h,_⟩)
      · exact Nat.lt_of_lt_of_le (hG.imm g i h) hgrow.size
      · exact (hown.lt g h).2
    · intro b g ty n eb
      obtain ⟨h1,vs,h2,h3⟩:=hG.box b g ty n eb
      exact ⟨h1,vs,(hblk g h2.lt (hrowbox b g ty n eb)).trans h2,h3⟩
    · rintro b g ty n i eb (h | ⟨h,_⟩)
      · exact hG.boxImm b g ty n i eb h
      · rcases hnew g h with h' | h'
        · exact hrowbox b g ty n eb h'
        · have:=hboxlt b g ty n eb;omega
    · intro u T h
      by_cases hu : u = t
      · subst hu
        rw [htt] at h;cases h
        exact ⟨hsz,hown,fun g hg i hi=>.inr ⟨hg,hi⟩⟩
      · rw [htu u hu] at h
        obtain ⟨h1,h2,h3⟩:=hG.tok u T h
        refine ⟨h1,h2.kept hgrow ?_,fun g hg i hi=>.inl (h3 g hg i hi)⟩
        cases ho : T.v.ownBlock with
        | none=>exact .inl rfl
        | some g=>exact .inr (fun e=>hrowtok u T g hu h ho e.symm)
    · rintro u T g i h hg (hi | ⟨hi,hlt⟩)
      · by_cases hu : u = t
        · subst hu
          rw [htt] at h;cases h
          rcases hnew g hg with h' | h'
          · rcases hrow with ⟨_,h1⟩ | ⟨T',h1,h2,h3,h4,h5,h6⟩
            · rw [h1] at h';cases h'
            · have:=hG.tokImm u T' g i h1 (h2 ▸ h') hi
              rw [h4] at this
              exact Nat.lt_of_lt_of_le this (Nat.mul_le_mul_right _ h5)
          · have:=hG.imm g i hi;omega
        · rw [htu u hu] at h
          exact hG.tokImm u T g i h hg hi
      · by_cases hu : u = t
        · subst hu
          rw [htt] at h;cases h
          exact hlt
        · rw [htu u hu] at h
          rcases hnew g hi with h' | h'
          · exact absurd h' (hrowtok u T g hu h hg)
          · have:=htoklt u T g h hg;omega
    · intro u u' T T' g h h' hg hg'
      by_cases hu : u = t <;> by_cases hu' : u' = t
      · rw [hu,hu']
      · subst hu
        rw [htt] at h;cases h
        rw [htu u' hu'] at h'
        rcases hnew g hg with q | q
        · exact absurd q (hrowtok u' T' g hu' h' hg')
        · have:=htoklt u' T' g h' hg';omega
      · subst hu'
        rw [htt] at h';cases h'
        rw [htu u hu] at h
        rcases hnew g hg' with q | q
        · exact absurd q (hrowtok u T g hu h hg)
        · have:=htoklt u T g h hg;omega
      · rw [htu u hu] at h;rw [htu u' hu'] at h'
        exact hG.tokInj u u' T T' g h h' hg hg'
    · intro u T b g ty n h hg eb
      by_cases hu : u = t
      · subst hu
        rw [htt] at h;cases h
        rcases hnew g hg with q | q
        · exact hrowbox b g ty n eb q
        · have:=hboxlt b g ty n eb;omega
      · rw [htu u hu] at h
        exact hG.tokBox u T b g ty n h hg eb
  · refine hblk q (Nat.lt_of_lt_of_le hq hG.base) (fun h=>?_)
    rcases hrow with ⟨_,h1⟩ | ⟨T',h1,h2,_⟩
    · rw [h1] at h;cases h
    · have:=((hG.tok t T' h1).2.1.lt q (h2 ▸ h)).1;omega
  · intro m hm
    refine ⟨fun b g ty n eb i x hx=>?_,fun b i h=>?_⟩
    · have : look ([(1,t,.num k)] ++ m) (b + 2) i = look m (b + 2) i:=by rw [List.singleton_append,look_cons,if_neg (by omega)]
      rw [this]
      rw [World.cell?_of_block (a:=⟨g,i,none⟩) (hblk g (hboxlt b g ty n eb) (hrowbox b g ty n eb))] at hx
      exact (hm.val b g ty n eb i x hx).mono hst
    · have : look ([(1,t,.num k)] ++ m) (b + 2) i = look m (b + 2) i:=by rw [List.singleton_append,look_cons,if_neg (by omega)]
      rw [this]
      exact hm.out b i h
  · intro m hm u q h
    by_cases hu : u = t
    · subst hu
      have : look ([(1,u,.num k)] ++ m) 1 u = .num k:=by simp [look]
      rw [this] at h;cases h
      exact ⟨_,htt,rfl⟩
    · have : look ([(1,t,.num k)] ++ m) 1 u = look m 1 u:=by rw [List.singleton_append,look_cons,if_neg (fun e=>hu e.2.symm)]
      rw [this] at h
      obtain ⟨T,h1,h2⟩:=hm u q h
      exact ⟨T,(htu u hu).trans h1,h2⟩
  · intro u T h
    by_cases hu : u = t
    · subst hu
      exact hid.symm
    · rw [htu u hu] at h;exact .inl ⟨T,h⟩
theorem repC_own {G' : Gh} {w' : World} {t e sz k : Nat} {v : Value} {xs : List Value} {es : List (List D)} {base : Nat} (hown : w'.ownsRow base e sz v k xs) (ht : G'.tok t = some ⟨v,e,sz,k,xs⟩)
    (himm : ∀ g,v.ownBlock = some g → ∀ i,i < k * sz → G'.imm g i) (hk : es.length = k) (hl : ∀ c ∈ es,c.length = sz ∧ c.all noOwn = true)
    (hx : ∀ (i : Nat) (c : List D) (j : Nat) (d : D),es[i]? = some c → c[j]? = some d → ∃ x,xs[i * sz + j]? = some x ∧ RepC G' w' x d) : RepC G' w' v (.sl (.own t e sz) es):=by
  have hin : ∀ (i : Nat) (c : List D) (j : Nat) (d : D),es[i]? = some c → c[j]? = some d → i * sz + j < k * sz:=fun i c j d h1 h2=>by
    have hi:=(List.getElem?_eq_some_iff.1 h1).1
    have hj:=(List.getElem?_eq_some_iff.1 h2).1
    rw [(hl c (List.mem_of_getElem? h1)).1] at hj
    have : (i + 1) * sz ≤ k * sz:=Nat.mul_le_mul_right _ (by omega)
    rw [Nat.add_mul] at this;omega
  rcases hown.2 with ⟨rfl,h0⟩ | ⟨g,cap,cur,hv,h1,h2,h3,h4,h5,h6⟩
  · have hes : es = []:=List.eq_nil_of_length_eq_zero (by omega)
    subst hes
    exact .sl none 0 _ [] 0 0 sz (fun _ _=>undef) (fun e=>absurd rfl e) (fun i c j d h=>by cases h) (fun i c j d h=>by cases h) hl ⟨Nat.zero_le _,Nat.le_refl _⟩ ⟨rfl,_,ht,rfl,rfl,Nat.zero_le _,fun _=>rfl⟩
  · have hcells:=hown.cells (g:=g) (by rw [hv];rfl)
    have hkm : k ≤ maxLen:=Nat.le_trans h3 h4
    subst hk
    have e0 : v = .slice (some ⟨g,0,none⟩) es.length cap:=hv
    rw [e0]
    refine .sl _ cap _ es g 0 sz (fun i j=>xs.getD (i * sz + j) undef) (fun _=>rfl) (fun i c j d h1 h2=>?_) (fun i c j d h1 h2=>?_) hl ⟨hkm,h3⟩ ⟨rfl,_,ht,rfl,rfl,Nat.le_refl _,fun _=>e0.symm⟩
    · obtain ⟨x,hx1,_⟩:=hx i c j d h1 h2
      have:=hcells _ _ hx1
      rw [Addr.add_lit] at this
      rw [this,List.getD_eq_getElem?_getD,hx1]
      exact ⟨rfl,himm g (by rw [e0];rfl) _ (by rw [Nat.zero_add];exact hin i c j d h1 h2)⟩
    · obtain ⟨x,hx1,hx2⟩:=hx i c j d h1 h2
      rw [List.getD_eq_getElem?_getD,hx1]
      exact hx2
theorem strip_rep {x : Value} {d : D} (h : RepC G w x d) : RepC G w x (strip d):=by
  cases h with
  | junk x h=>exact .junk x h
  | v x h=>exact .v x h
  | sl a cap k es g o sz xs ha hc hr hl hm hk=>exact .sl a cap .no es g o sz xs ha hc hr hl hm trivial
theorem ok_idx {t e : TypeId} {y z : Ty} {x i : Operand} {k : Tk} {kd : IntKind} {es : List (List D)} {j : Int} {l : List D} (h : Sim n G m a w) (hy : TyOk P t y) (hz : TyOk P e z) (hk : y.kd = .sl e) (ho : o.op = .indexAddr t x i)
    (he : ev m x = .sl k es) (hi : ev m i = .v (.int kd j)) (hj : 0 ≤ j) (hl : es[j.toNat]? = some l) (hs : l.length = z.size) : OpOk P o G a w id (.el l 0) []:=by
  have hx:=h.ev x;have hi':=h.ev i
  rw [he] at hx;rw [hi] at hi'
  obtain ⟨e2,_⟩:=rep_v hi'
  obtain ⟨b,cap,e1,hr0⟩:=rep_sl hx
  have hu:=hy.kd
  rw [hk] at hu
  have hlt:=(List.getElem?_eq_some_iff.1 hl).1
  obtain ⟨_,g,q,sz,xs,ha,hc,hr,hll,hm,hk'⟩:=repC_sl hr0
  · obtain rfl:=ha (fun e=>by rw [e] at hl;cases hl)
    have hsz : l.length = sz:=(hll l (List.mem_of_getElem? hl)).1
    have hjlt : j < (es.length : Int):=by omega
    refine .pure h.ok (v:=.pointer (some ⟨g,q + j.toNat * sz + 0,none⟩)) ?_ (.el g _ l 0 (fun p=>xs j.toNat p) (fun p d hp=>?_) (fun p d hp=>hr _ l p d hl hp))
    · have hzs:=hz.size w
      simp [execOp,ho,e1,e2,Instr.indexAt,asIntOf,run_underlying (show P.underlying t = some (.slice e) from hu),hj,hjlt,hzs,← hs,hsz,Addr.add_lit]
    · have:=hc j.toNat l p d hl hp
      rw [Nat.add_assoc]
      exact this
theorem ok_slice_s {t : TypeId} {y : Ty} {x : Operand} {lo hi : Option Operand} (h : Sim n G m a w) (hy : TyOk P t y) (hk : y.kd = .str) (ho : o.op = .slice t x lo hi none) {p : Prop} {d : D} {ws : Mem} (hd : dSlice true 0 (ev m x) (optD m lo) (optD m hi) = .eff p d ws) (hp : p) : OpOk P o G a w id d ws:=by
  have hu:=hy.kd
  rw [hk] at hu
  have hu : P.underlying t = some .string:=hu
  have hx:=h.ev x
  unfold dSlice at hd
  have one : ∀ (c : Option Operand) {q : IntKind} {i : Int},optD m c = some (.v (.int q i)) → ∃ c',c = some c' ∧ a.eval c' = .int q i:=fun c q i e=>by
    cases c with
    | none=>cases e
    | some c' =>
      have e' : ev m c' = .v (.int q i):=by simpa [optD] using e
      have:=h.ev c'
      rw [e'] at this
      exact ⟨c',rfl,(rep_v this).1⟩
  have zero : ∀ (c : Option Operand),optD m c = none → c = none:=fun c e=>by cases c <;> first | rfl | cases e
  split at hd
  · rename_i e1 e2 e3
    cases hd
    rw [e1] at hx
    obtain ⟨e4,_⟩:=rep_v hx
    obtain ⟨c,rfl,e5⟩:=one _ e2
    obtain rfl:=zero _ e3
    exact ok_v h rfl (by simp [execOp,ho,e4,e5,run_sliceAt_string w t _ _ _ _ hu,run_slice_string_l w t _ hu _ _ hp.1 hp.2])
  · rename_i e1 e2 e3
    cases hd
    rw [e1] at hx
    obtain ⟨e4,_⟩:=rep_v hx
    obtain ⟨c,rfl,e5⟩:=one _ e3
    obtain rfl:=zero _ e2
    exact ok_v h rfl (by simp [execOp,ho,e4,e5,run_sliceAt_string w t _ _ _ _ hu,run_slice_string_h w t _ hu _ _ hp.1 hp.2])
  · rename_i e1 e2 e3
    cases hd
    rw [e1] at hx
    obtain ⟨e4,_⟩:=rep_v hx
    obtain ⟨c,rfl,e5⟩:=one _ e2
    obtain ⟨c',rfl,e6⟩:=one _ e3
    exact ok_v h rfl (by simp [execOp,ho,e4,e5,e6,run_sliceAt_string w t _ _ _ _ hu,run_slice_string w t _ _ _ _ _ hu hp.1 hp.2.1 hp.2.2])
  all_goals (rename_i hh _ _ _;first | cases hh | cases hd)
end
end Go.Proofs.Ythadnhpkeljdoaa.pv
namespace Go.Proofs.Ythadnhpkeljdoaa.sg
open Go.Lib (hid)
open Go.RowKit Go.Shelf
theorem cells_new (w : World) (cs : Array Value) (t : TypeId) (k : Nat) : (w.alloc (.cells cs t)).cell? ⟨w.heap.size,k,none⟩ = cs[k]? :=
  cell_of_row _ _ _ _ t (0,0) (World.alloc_heap_new w _)
def keyCells : Array Value:=#[.string ⟨#[97,110,100]⟩,.string ⟨#[97,115]⟩,.string ⟨#[98,114,101,97,107]⟩,.string ⟨#[99,97,116,99,104]⟩,.string ⟨#[100,101,102]⟩,.string ⟨#[101,108,105,102]⟩,.string ⟨#[101,108,115,101]⟩,.string ⟨#[101,110,100]⟩,.string ⟨#[102,111,114,101,97,99,104]⟩,.string ⟨#[105,102]⟩,.string ⟨#[105,109,112,111,114,116]⟩,.string ⟨#[105,110,99,108,117,100,101]⟩,.string ⟨#[108,97,98,101,108]⟩,.string ⟨#[109,111,100,117,108,101]⟩,.string ⟨#[111,114]⟩,.string ⟨#[114,101,100,117,99,101]⟩,.string ⟨#[116,104,101,110]⟩,.string ⟨#[116,114,121]⟩]
def keyB (k : Nat) : ByteArray:=⟨(Sg.keys.getD k []).toArray⟩
theorem keyB_data (k : Nat) : (keyB k).data.toList = Sg.keys.getD k []:=by simp [keyB]
theorem key_at (k : Nat) (h : k < 18) : keyCells[k]? = some (.string (keyB k)):=by
  have e : keyCells = (Sg.keys.map fun l=>Value.string ⟨l.toArray⟩).toArray:=rfl
  have hl : Sg.keys.length = 18:=rfl
  rw [e]
  simp [keyB,List.getD,h,hl]
theorem key_yes {l : List UInt8} {k : Nat} (h : k < 18) (e : Sg.keys.getD k [] = l) : Sg.key l = true:=by
  unfold Sg.key
  rw [List.contains_iff_mem,← e]
  have hl : k < Sg.keys.length:=h
  rw [List.getD,List.getElem?_eq_getElem hl]
  exact List.getElem_mem hl
theorem key_no {l : List UInt8} (h : ∀ j,j < 18 → Sg.keys.getD j [] ≠ l) : Sg.key l = false:=by
  unfold Sg.key
  rw [Bool.eq_false_iff]
  intro hc
  rw [List.contains_iff_mem] at hc
  obtain ⟨j,hj,e⟩:=List.getElem_of_mem hc
  exact h j hj (by rw [List.getD,List.getElem?_eq_getElem hj];exact e)
theorem rkey_calls (s : ByteArray) (w : World) :
    Calls Try.prog 85 #[.string s] w fun e w'=>e = .returned (.bool (Sg.key s.data.toList)) ∧ Below w.heap.size w w':=by
  go_enter Try.func85,Try.ntmps85
  go_wp2_with fail
  go_loopw [4] (fun i wr=>∃ k : Nat,i = .int .i64 (k : Int) ∧ k ≤ 18 ∧ (∀ j,j < k → Sg.keys.getD j [] ≠ s.data.toList) ∧ wr = w.alloc (.cells keyCells 9)) (fun i _=>18 - (intOf i).toNat)
  case atStart=>exact ⟨0,rfl,by omega,fun j hj=>absurd hj (Nat.not_lt_zero j),rfl⟩
  case round =>
    obtain ⟨k,rfl,hk,hno,rfl⟩:=hrel
    by_cases h : k < 18
    · have hcell : (w.alloc (.cells keyCells 9)).cell? ⟨w.heap.size,k,none⟩ = some (.string (keyB k)):=by rw [cells_new];exact key_at k h
      by_cases e : Sg.keys.getD k [] = s.data.toList
      · have HV:=hid (key_yes h e)
        have hbq : ((keyB k).toList == s.toList) = true:=by rw [beq_iff_eq,Lib.toList_data,Lib.toList_data,keyB_data];exact e
        have hb:=hid (show Below w.heap.size w (w.alloc (.cells keyCells 9)) from (Below.refl _ w).alloc (Nat.le_refl _) _)
        obtain ⟨y,hy⟩ : ∃ y,keyB k = y:=⟨_,rfl⟩
        rw [hy] at hbq hcell
        clear hno e hy
        obtain ⟨W,hW⟩ : ∃ W,w.alloc (.cells keyCells 9) = W:=⟨_,rfl⟩
        rw [hW] at hcell hb ⊢
        clear hW
        go_wp2_with fail
        go_ret
        exact ⟨by rw [HV.out];rfl,hb.out⟩
      · have hbq : ((keyB k).toList == s.toList) = false:=by rw [beq_eq_false_iff_ne,Lib.toList_data,Lib.toList_data,keyB_data];exact e
        have HN:=hid (show ∀ j,j < k + 1 → Sg.keys.getD j [] ≠ s.data.toList from fun j hj=>by
          rcases Nat.lt_or_ge j k with h' | h'
          · exact hno j h'
          · obtain rfl : j = k:=by omega
            exact e)
        obtain ⟨y,hy⟩ : ∃ y,keyB k = y:=⟨_,rfl⟩
        rw [hy] at hbq hcell
        clear hno e hy
        obtain ⟨W,hW⟩ : ∃ W,w.alloc (.cells keyCells 9) = W:=⟨_,rfl⟩
        have HW:=hid hW
        rw [hW] at hcell ⊢
        clear hW
        go_wp2_with fail
        go_roundw
        case rel=>exact ⟨k + 1,by go_num,by omega,HN.out,trivial⟩
        case measure=>simp [intOf];omega
    · have hk18 : k = 18:=by omega
      subst hk18
      have HV:=hid (key_no hno)
      have hb:=hid (show Below w.heap.size w (w.alloc (.cells keyCells 9)) from (Below.refl _ w).alloc (Nat.le_refl _) _)
      clear hno
      obtain ⟨W,hW⟩ : ∃ W,w.alloc (.cells keyCells 9) = W:=⟨_,rfl⟩
      rw [hW] at hb ⊢
      clear hW
      go_wp2_with fail
      go_ret
      exact ⟨by rw [HV.out];rfl,hb.out⟩
theorem rplain_calls (s : ByteArray) (hs : s.size ≤ 140737488351232) (w : World) :
    Calls Try.prog 78 #[.string s] w fun e w'=>e = .returned (.bool (Sg.plain s.data.toList)) ∧ Below w.heap.size w w':=by
  rcases Nat.eq_zero_or_pos s.size with h0 | h0
  · obtain rfl:=empty_eq s h0
    go_enter Try.func78,Try.ntmps78
    go_wp2_with fail
    go_ret
    exact ⟨rfl,Below.refl _ _⟩
  · have hne:=ne_empty s h0
    have hsm:=rsimple_calls s hs
    have hk:=rkey_calls s
    have HP:=hid (show Sg.plain s.data.toList = (decide (Sg.simple s.data.toList = s.size) && !Sg.key s.data.toList) from by
      unfold Sg.plain;rw [← isEmpty_data,hne,lst_len];rfl)
    obtain ⟨k,hk0⟩ : ∃ k,Sg.simple s.data.toList = k:=⟨_,rfl⟩
    obtain ⟨q,hq⟩ : ∃ q,Sg.key s.data.toList = q:=⟨_,rfl⟩
    simp only [hk0] at hsm
    simp only [hq] at hk
    rw [hk0,hq] at HP
    clear hk0 hq
    by_cases he : k = s.size
    · have HX:=hid (show Sg.plain s.data.toList = !q from by rw [HP.out,decide_eq_true he];rfl)
      have t1 : ((k : Int) == (s.size : Int)) = true:=by rw [beq_iff_eq];omega
      clear HP
      go_enter Try.func78,Try.ntmps78
      go_wp2_with fail
      ((with_reducible refine (hsm _).mono ?_);rintro e w1 ⟨rfl,rfl⟩)
      go_wp2_with fail
      ((with_reducible refine (hk _).mono ?_);rintro e w1 ⟨rfl,hb⟩)
      go_wp2_with fail
      go_ret
      exact ⟨by rw [HX.out];rfl,hb⟩
    · have HX:=hid (show Sg.plain s.data.toList = false from by rw [HP.out,decide_eq_false he];rfl)
      have t1 : ((k : Int) == (s.size : Int)) = false:=by rw [beq_eq_false_iff_ne];omega
      clear HP
      go_enter Try.func78,Try.ntmps78
      go_wp2_with fail
      ((with_reducible refine (hsm _).mono ?_);rintro e w1 ⟨rfl,rfl⟩)
      go_wp2_with fail
      go_ret
      exact ⟨by rw [HX.out];rfl,Below.refl _ _⟩
theorem ropers_calls (w : World) : Calls Try.prog 76 #[] w fun e w'=>e = .returned (.slice (some ⟨w.heap.size,0,none⟩) 34 34) ∧ w' = w.alloc (.cells opsL.toArray 9):=by
  go_enter Try.func76,Try.ntmps76
  go_wp2_with fail
  go_ret
  exact ⟨rfl,rfl⟩
theorem oper_yes {l : List UInt8} {k : Nat} (hk : k < 34) (hno : ∀ j,j < k → Lib.hasPrefix l (Sg.opers.getD j []) = false) (h : Lib.hasPrefix l (Sg.opers.getD k []) = true) : Sg.oper l = (Sg.opers.getD k []).length:=by
  have hl : k < Sg.opers.length:=hk
  refine oper_find (ini:=Sg.opers.take k) (x:=Sg.opers.getD k []) ?_ ?_ h
  · rw [← take_snoc_op hl];exact List.take_prefix _ _
  · intro y hy
    obtain ⟨j,hj,e⟩:=List.getElem_of_mem hy
    rw [List.length_take] at hj
    have:=hno j (by omega)
    rw [List.getElem_take] at e
    rw [List.getD,List.getElem?_eq_getElem (by omega)] at this
    rw [← e];exact this
where
  take_snoc_op {k : Nat} (hl : k < Sg.opers.length) : Sg.opers.take (k + 1) = Sg.opers.take k ++ [Sg.opers.getD k []]:=by
    rw [List.take_succ_eq_append_getElem hl]
    simp [List.getD,hl]
theorem oper_no {l : List UInt8} (hno : ∀ j,j < 34 → Lib.hasPrefix l (Sg.opers.getD j []) = false) : Sg.oper l = 0:=by
  refine oper_none fun y hy=>?_
  obtain ⟨j,hj,e⟩:=List.getElem_of_mem hy
  have:=hno j hj
  rw [List.getD,List.getElem?_eq_getElem hj] at this
  rw [← e];exact this
def opB (m : Nat) : ByteArray:=⟨(Sg.opers.getD m []).toArray⟩
theorem opB_data (m : Nat) : (opB m).data.toList = Sg.opers.getD m []:=by simp [opB]
theorem opB_size (m : Nat) : (opB m).size = (Sg.opers.getD m []).length:=by rw [← lst_len,opB_data]
theorem op_len : ∀ o ∈ Sg.opers,o.length ≤ 3:=by decide
theorem opB_small {m : Nat} (h : m < 34) : (opB m).size ≤ 3:=by
  rw [opB_size]
  have hl : m < Sg.opers.length:=h
  rw [List.getD,List.getElem?_eq_getElem hl]
  exact op_len _ (List.getElem_mem hl)
theorem pre_beq (s o : ByteArray) (h : o.size ≤ s.size) : ((s.extract 0 o.size).toList == o.toList) = Lib.hasPrefix s.data.toList o.data.toList:=by
  rw [Lib.toList_data,Lib.toList_data,Lib.extract_data,List.drop_zero,Nat.sub_zero,← Lib.hasPrefix_of_take,lst_len,lst_len,decide_eq_true h,Bool.true_and,Bool.eq_iff_iff,beq_iff_eq]
theorem pre_short (s o : ByteArray) (h : ¬ o.size ≤ s.size) : Lib.hasPrefix s.data.toList o.data.toList = false:=by
  rw [← Lib.hasPrefix_of_take,lst_len,lst_len,decide_eq_false h,Bool.false_and]
theorem roper_calls (s : ByteArray) (hs : s.size ≤ 140737488351232) (w : World) :
    Calls Try.prog 63 #[.string s] w fun e w'=>e = .returned (.int .i64 (Sg.oper s.data.toList : Nat)) ∧ Below w.heap.size w w':=by
  go_enter Try.func63,Try.ntmps63
  go_wp2_with fail
  ((with_reducible refine (ropers_calls _).mono ?_);rintro e w1 ⟨rfl,rfl⟩)
  have hb0 : Below w.heap.size w (w.alloc (.cells opsL.toArray 9)):=(Below.refl _ w).alloc (Nat.le_refl _) _
  have hcells : ∀ m,m < 34 → (w.alloc (.cells opsL.toArray 9)).cell? ⟨w.heap.size,m,none⟩ = some (.string (opB m)):=fun m hm=>by rw [cells_new];exact opsL_at hm
  obtain ⟨W,hW⟩ : ∃ W,w.alloc (.cells opsL.toArray 9) = W:=⟨_,rfl⟩
  rw [hW] at hb0 hcells ⊢
  clear hW
  have HB:=hid hb0;have HC:=hid hcells
  clear hb0 hcells
  go_wp2_with fail
  go_loopw [4] (fun i wr=>∃ k nq : Nat,i = .int .i64 (k : Int) ∧ k ≤ 34 ∧ (∀ j,j < k → Lib.hasPrefix s.data.toList (Sg.opers.getD j []) = false) ∧ wr = W.drewN nq) (fun i _=>34 - (intOf i).toNat)
  case atStart=>exact ⟨0,0,rfl,by omega,fun j hj=>absurd hj (Nat.not_lt_zero j),rfl⟩
  case round =>
    obtain ⟨k,nq,rfl,hk,hno,rfl⟩:=hrel
    have HB2:=hid (show ∀ q,Below w.heap.size w (W.drewN q) from fun q=>HB.out.trans ⟨rfl,rfl,rfl,Nat.le_refl _,fun _ _=>rfl⟩)
    by_cases h : k < 34
    · have hcell:=HC.out k h
      have hsm:=opB_small h
      have hbd:=opB_data k
      have HX:=hid (fun (hp : Lib.hasPrefix s.data.toList (Sg.opers.getD k []) = true)=>oper_yes h hno hp)
      have HN:=hid (fun (e : Lib.hasPrefix s.data.toList (Sg.opers.getD k []) = false)=>show ∀ j,j < k + 1 → Lib.hasPrefix s.data.toList (Sg.opers.getD j []) = false from fun j hj=>by
          rcases Nat.lt_or_ge j k with h' | h'
          · exact hno j h'
          · obtain rfl : j = k:=by omega
            exact e)
      rw [← hbd] at HX HN
      obtain ⟨o,ho⟩ : ∃ o,opB k = o:=⟨_,rfl⟩
      rw [ho] at hcell hsm HX HN
      have hcell2 : (W.drewN nq).cell? ⟨w.heap.size,k,none⟩ = some (.string o):=hcell
      have g0 : (0 : Int) ≤ (k : Int):=by omega
      have g1 : (k : Int) < 34:=by omega
      clear hno hbd ho
      by_cases hle : o.size ≤ s.size
      · have hpb:=pre_beq s o hle
        have t1 : decide ((o.size : Int) ≤ (s.size : Int)) = true:=decide_eq_true (by omega)
        have g2 : (o.size : Int) ≤ (s.size : Int):=by omega
        have t1n : decide (o.size ≤ s.size) = true:=decide_eq_true hle
        cases hp : Lib.hasPrefix s.data.toList o.data.toList with
        | true =>
          have HV:=hid (HX.out hp)
          rw [hp] at hpb
          clear hp
          have HL:=hid (lst_len o)
          go_wp2_with fail
          go_quiet (fail)
          rename_i nq2
          rw [World.drewN_drewN]
          go_wp2_with fail
          go_ret
          exact ⟨by rw [HV.out,HL.out];rfl,HB2.out _⟩
        | false =>
          have HN2:=hid (HN.out hp)
          rw [hp] at hpb
          clear hp
          go_wp2_with fail
          go_quiet (fail)
          rename_i nq2
          rw [World.drewN_drewN]
          go_wp2_with fail
          go_roundw
          case rel=>exact ⟨k + 1,_,by go_num,by omega,HN2.out,rfl⟩
          case measure=>simp [intOf];omega
      · have HN2:=hid (HN.out (pre_short s o hle))
        have t1 : decide ((o.size : Int) ≤ (s.size : Int)) = false:=decide_eq_false (by omega)
        have t1n : decide (o.size ≤ s.size) = false:=decide_eq_false hle
        clear hle
        go_wp2_with fail
        go_quiet (fail)
        rename_i nq2
        rw [World.drewN_drewN]
        go_wp2_with fail
        go_roundw
        case rel=>exact ⟨k + 1,_,by go_num,by omega,HN2.out,rfl⟩
        case measure=>simp [intOf];omega
    · have hk34 : k = 34:=by omega
      subst hk34
      have HV:=hid (oper_no hno)
      clear hno
      go_wp2_with fail
      go_ret
      exact ⟨by rw [HV.out];rfl,HB2.out _⟩
end Go.Proofs.Ythadnhpkeljdoaa.sg
namespace Go.Proofs.Ythadnhpkeljdoaa.nd
open Go.RowKit sx ed
theorem infoI : (Try.prog.info? 3).map (fun i=>(i.zero,i.size,i.bytes)) = some (some (.int .i64 0),1,8):=by kernel_rfl
def nums (l : List Nat) : List Value:=l.map fun (n : Nat)=>.int .i64 (n : Int)
theorem nums_snoc (l : List Nat) (n : Nat) : nums (l ++ [n]) = nums l ++ [.int .i64 (n : Int)]:=by simp [nums]
end Go.Proofs.Ythadnhpkeljdoaa.nd
