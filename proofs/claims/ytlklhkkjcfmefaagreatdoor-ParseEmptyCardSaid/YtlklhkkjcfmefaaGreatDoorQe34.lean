/- Ground of the law: PaP34. -/
import Derived.Test.YtlklhkkjcfmefaaGreatDoorQe33
import Derived.Test.YtlklhkkjcfmefaaGreatDoorQe04
set_option maxRecDepth 100000
set_option maxHeartbeats 8000000
set_option linter.unusedVariables false
set_option linter.unusedSimpArgs false
namespace Go.Proofs.YtlklhkkjcfmefaaGreatDoor.pa
open Go.Lib (hid)
open Go.RowKit nd pr sx ed
def keysT : List Tk:=[(13,dot),(13,dots),(13,lbr),(13,lpar),(13,lbrace),(3,wif),(3,wreduce),(3,wforeach),(3,wbreak),(3,eB),(4,eB),(5,eB),(6,eB),(12,eB),(7,eB)]
theorem keys_of (B : Nat) : (termsL B).map (·.1) = keysT:=rfl
theorem keys_apart : ∀ g,g < 15 → ∀ k,k < 15 → keysT.getD g noTk = keysT.getD k noTk → g = k:=by decide +kernel
theorem terms_key {B g : Nat} {p : Tk × Value} (h : (termsL B)[g]? = some p) : p.1 = keysT.getD g noTk:=by
 rw [← keys_of B,List.getD_eq_getElem?_getD,List.getElem?_map,h];rfl
theorem terms_lt {B g : Nat} {p : Tk × Value} (h : (termsL B)[g]? = some p) : g < 15:=(List.getElem?_eq_some_iff.1 h).1
theorem op_callsS (s : ByteArray) (W : World) : Calls Tryz.prog 63 #[.string s] W fun e w'=>e = .returned (.agg #[.int .i64 13,.string s]) ∧ Below W.heap.size W w':=op_calls' s W
theorem word_callsS (s : ByteArray) (W : World) : Calls Tryz.prog 69 #[.string s] W fun e w'=>e = .returned (.agg #[.int .i64 3,.string s]) ∧ Below W.heap.size W w':=word_calls' s W
abbrev ptrB (B : Nat) : Value:=.pointer (some ⟨B,0,none⟩)
def slotS (i : Nat) : Nat:=if i = 0 then 8 else if i = 1 then 9 else if i < 62 then (if (i - 2) % 4 = 3 then 1000 else 10 + 3 * ((i - 2) / 4) + (i - 2) % 4) else if i = 62 then 55 else if i = 63 then 56 else if i = 64 then 57 else 1000
def valS (B : Nat) (T : Value) (i : Nat) : Value :=
 if i = 0 then ptrB B else if i = 1 then T else if i < 62 then (if (i - 2) % 4 = 0 then tokV (keysT.getD ((i - 2) / 4) noTk) else if (i - 2) % 4 = 1 then ptrB B else ((termsL B).getD ((i - 2) / 4) (noTk,undef)).2) else if i = 62 then T else if i = 63 then ptrB B else if i = 64 then .pointer (some ⟨B,2,none⟩) else undef
theorem slots_apart : ∀ i,i < 66 → ∀ j,j < 66 → slotS i < 59 → slotS i = slotS j → i = j:=by decide +kernel
theorem slots_far : ∀ i,i < 66 → slotS i ≠ 3:=by decide +kernel
theorem eval_put (a : Act) (d k : Nat) (v : Value) (hd : d < a.tmps.size) : (a.put (some d) v).eval (.tmp k) = if k = d then v else a.eval (.tmp k):=by
 show (a.tmps.setIfInBounds d v).getD k undef = if k = d then v else a.tmps.getD k undef
 by_cases e : k = d
 ·subst e;simp [Array.getD_eq_getD_getElem?,hd]
 ·simp [Array.getD_eq_getD_getElem?,e,Ne.symm e]
structure SA (B : Nat) (T : Value) (d : Nat → Bool) (a : Act) : Prop where
 sz : a.tmps.size = 59
 df : a.defers = []
 t3 : a.eval (.tmp 3) = ptrB B
 vs : ∀ i,i < 66 → d i = true → slotS i < 59 → a.eval (.tmp (slotS i)) = valS B T i
theorem SA.put {B : Nat} {T : Value} {d : Nat → Bool} {a : Act} (h : SA B T d a) {i : Nat} (hi : i < 66) (hs : slotS i < 59) : SA B T (fun k=>(k == i) || d k) (a.put (some (slotS i)) (valS B T i)):=by
 refine ⟨by show (a.tmps.setIfInBounds _ _).size = 59;rw [Array.size_setIfInBounds];exact h.sz,h.df,?_,fun j hj hdj hsj=>?_⟩
 ·rw [eval_put _ _ _ _ (by rw [h.sz];exact hs),if_neg (fun e=>slots_far i hi e.symm)];exact h.t3
 ·rw [eval_put _ _ _ _ (by rw [h.sz];exact hs)]
  by_cases e : j = i
  ·subst e;rw [if_pos rfl]
  ·rw [if_neg (fun e2=>e (slots_apart j hj i hi hsj e2))]
   exact h.vs j hj (by simpa [e] using hdj) hsj
theorem SA.skip {B : Nat} {T : Value} {d : Nat → Bool} {a : Act} (h : SA B T d a) {i : Nat} (hs : ¬ slotS i < 59) : SA B T (fun k=>(k == i) || d k) a :=
 ⟨h.sz,h.df,h.t3,fun j hj hdj hsj=>h.vs j hj (by
  by_cases e : j = i
  ·subst e;exact absurd hsj hs
  ·simpa [e] using hdj) hsj⟩
structure SM (W1 : World) (B T : Nat) (d : Nat → Bool) (u : World) : Prop where
 bl : Below W1.heap.size W1 u
 m : d 1 = true → W1.heap.size ≤ T ∧ ∃ l,MapT u T l ∧ ∀ p,p ∈ l ↔ ∃ g,g < 15 ∧ d (4 * g + 5) = true ∧ (termsL B)[g]? = some p
 o64 : d 64 = true → d 63 = true
 ord : ∀ j,(j = 62 ∨ ∃ g,g < 15 ∧ j = 4 * g + 5) → d j = true → d 1 = true
theorem SM.next {W1 : World} {B T : Nat} {d d' : Nat → Bool} {u u' : World} (h : SM W1 B T d u) (hb : Below u.heap.size u u') (h1 : d' 1 = d 1) (hg : ∀ g,g < 15 → d' (4 * g + 5) = d (4 * g + 5)) (h62 : d' 62 = true → d' 1 = true) (h64 : d' 64 = true → d' 63 = true) : SM W1 B T d' u':=by
 refine ⟨h.bl.trans (hb.mono h.bl.size),fun e=>?_,h64,fun j hj hd=>by
  rcases hj with rfl | ⟨g,hg15,rfl⟩
  ·exact h62 hd
  ·rw [h1];exact h.ord _ (.inr ⟨g,hg15,rfl⟩) (by rw [← hg g hg15];exact hd)⟩
 obtain ⟨ht,l,hm,hl⟩:=h.m (h1 ▸ e)
 refine ⟨ht,l,MapT.of_heap hm (hb.block _ hm.lt),fun p=>?_⟩
 rw [hl p]
 constructor
 ·rintro ⟨g,h1,h2,h3⟩;exact ⟨g,h1,by rw [hg g h1];exact h2,h3⟩
 ·rintro ⟨g,h1,h2,h3⟩;exact ⟨g,h1,by rw [← hg g h1];exact h2,h3⟩
def IN (W1 : World) (B : Nat) (d : Nat → Bool) (a : Act) (u : World) : Prop:=∃ T : Nat,SA B (.map (some T)) d a ∧ SM W1 B T d u
def FN (W1 : World) (B : Nat) (a : Act) (u : World) : Prop:=a.tmps.size = 59 ∧ a.defers = [] ∧ a.eval (.tmp 3) = ptrB B ∧ ∃ T u',W1.heap.size ≤ T ∧ Below W1.heap.size W1 u' ∧ u = u'.setCell ⟨B,2,none⟩ (.map (some T)) ∧ ∃ l,MapT u' T l ∧ ∀ p,p ∈ l ↔ p ∈ termsL B
def IV (W1 : World) (B : Nat) (listed : Array Bool) (a : Act) (u : World) : Prop:=listed.size = 66 ∧ ((rinv.done listed 65 = false ∧ IN W1 B (rinv.done listed) a u) ∨ ((∀ i,i < 66 → rinv.done listed i = true) ∧ FN W1 B a u))
structure ST (listed : Array Bool) (i : Nat) : Prop where
 sz : listed.size = 66
 dn : rinv.done (listed.setIfInBounds i true) = fun k=>(k == i) || rinv.done listed k
 ni : rinv.done listed i = false
 n5 : rinv.done listed 65 = false
theorem ST.size {listed : Array Bool} {i : Nat} (h : ST listed i) : (listed.setIfInBounds i true).size = 66:=by rw [Array.size_setIfInBounds];exact h.sz
theorem IV.pure {W1 : World} {B : Nat} {listed : Array Bool} {a : Act} {u u' : World} {i s : Nat} {v : Value} (hst : ST listed i) (h : IN W1 B (rinv.done listed) a u) (hb : Below u.heap.size u u') (hi : i < 65) (hi1 : i ≠ 1) (hins : ∀ g,g < 15 → 4 * g + 5 ≠ i) (hss : slotS i = s) (hs : s < 59) (h62 : i = 62 → rinv.done listed 1 = true) (h64 : i = 64 → rinv.done listed 63 = true)
  (hv : ∀ T : Nat,SA B (.map (some T)) (rinv.done listed) a → v = valS B (.map (some T)) i) : IV W1 B (listed.setIfInBounds i true) (a.put (some s) v) u':=by
 obtain ⟨T,hA,hM⟩:=h
 obtain rfl:=hv T hA
 subst hss
 refine ⟨hst.size,.inl ⟨?_,T,?_,?_⟩⟩
 ·rw [hst.dn];simp only [hst.n5,Bool.or_false,beq_eq_false_iff_ne];omega
 ·rw [hst.dn];exact hA.put (by omega) hs
 ·rw [hst.dn]
  exact hM.next hb (by simp [Ne.symm hi1]) (fun g hg=>by simp [hins g hg]) (fun e=>by
   by_cases e62 : i = 62
   ·simp [h62 e62]
   ·have : rinv.done listed 62 = true:=by simpa [Ne.symm e62] using e
    simp [hM.ord 62 (.inl rfl) this]) (fun e=>by
   by_cases e64 : i = 64
   ·simp [h64 e64]
   ·have : rinv.done listed 64 = true:=by simpa [Ne.symm e64] using e
    simp [hM.o64 this])
theorem IV.made {W1 : World} {B : Nat} {listed : Array Bool} {a : Act} {u : World} (hst : ST listed 1) (h : IN W1 B (rinv.done listed) a u) : IV W1 B (listed.setIfInBounds 1 true) (a.put (some 9) (.map (some u.heap.size))) (u.alloc (.map #[] 0)):=by
 obtain ⟨T,hA,hM⟩:=h
 have hno : ∀ j,(j = 62 ∨ ∃ g,g < 15 ∧ j = 4 * g + 5) → rinv.done listed j = false:=fun j hj=>by
  cases e : rinv.done listed j with
  | false=>rfl
  | true=>exact absurd (hM.ord j hj e) (by rw [hst.ni];decide)
 have h62:=hno 62 (.inl rfl)
 have hg : ∀ g,g < 15 → rinv.done listed (4 * g + 5) = false:=fun g h=>hno _ (.inr ⟨g,h,rfl⟩)
 have hb : Below u.heap.size u (u.alloc (.map #[] 0)):=(Below.refl _ u).alloc (Nat.le_refl _) _
 refine ⟨hst.size,.inl ⟨?_,u.heap.size,?_,?_⟩⟩
 ·rw [hst.dn];simp only [hst.n5,Bool.or_false,beq_eq_false_iff_ne];omega
 ·have hA' : SA B (.map (some u.heap.size)) (rinv.done listed) a:=⟨hA.sz,hA.df,hA.t3,fun i hi hd hs=>(hA.vs i hi hd hs).trans (by
   have h1 : i ≠ 1:=fun e=>by rw [e] at hd;rw [hst.ni] at hd;cases hd
   have h2 : i ≠ 62:=fun e=>by rw [e] at hd;rw [h62] at hd;cases hd
   simp [valS,h1,h2])⟩
  rw [hst.dn]
  exact hA'.put (i:=1) (by decide) (by decide)
 ·rw [hst.dn]
  refine ⟨hM.bl.trans (hb.mono hM.bl.size),fun _=>⟨hM.bl.size,[],map_new u,fun p=>?_⟩,fun e=>by have:=hM.o64 (by simpa using e);simp [this],fun _ _ _=>by simp⟩
  constructor
  ·intro e;cases e
  ·rintro ⟨g,h1,h2,_⟩
   have : (4 * g + 5 == 1) = false:=by simp
   rw [this,Bool.false_or,hg g h1] at h2
   cases h2
theorem IV.insert {W1 : World} {B : Nat} {listed : Array Bool} {a : Act} {u : World} {i g : Nat} {t : Tk} {v : Value} (hst : ST listed i) (h : IN W1 B (rinv.done listed) a u) (hig : i = 4 * g + 5) (hg15 : g < 15) (h1 : rinv.done listed 1 = true) (hk : (termsL B)[g]? = some (t,v)) :
  ∃ (T : Nat) (u' : World),SA B (.map (some T)) (rinv.done listed) a ∧ (Instr.mapUpdate 98 (.map (some T)) (tokV t) v).run Tryz.prog u = .ok () u' ∧ IV W1 B (listed.setIfInBounds i true) a u':=by
 obtain ⟨T,hA,hM⟩:=h
 obtain ⟨ht,l,hm,hl⟩:=hM.m h1
 have hi66 : i < 66:=by omega
 obtain ⟨u',r1,r2,r3⟩:=hm.put (fun p hp=>by
   obtain ⟨k,_,_,hp2⟩:=(hl p).1 hp
   exact terms_keys B p (List.mem_of_getElem? hp2)) (t:=t) (terms_keys B (t,v) (List.mem_of_getElem? hk)) (fun p hp e=>by
   obtain ⟨k,hk1,hk2,hp2⟩:=(hl p).1 hp
   have e1:=terms_key hp2
   have e2:=terms_key hk
   have : k = g:=keys_apart k hk1 g hg15 (by rw [← e1,← e2];exact e)
   rw [this,← hig,hst.ni] at hk2
   cases hk2) Tryz.underlying98 v
 refine ⟨T,u',hA,r1,hst.size,.inl ⟨?_,T,?_,?_⟩⟩
 ·rw [hst.dn];simp only [hst.n5,Bool.or_false,beq_eq_false_iff_ne];omega
 ·rw [hst.dn]
  refine hA.skip ?_
  have h4 : (i - 2) % 4 = 3:=by omega
  unfold slotS
  rw [if_neg (by omega),if_neg (by omega),if_pos (by omega),if_pos h4]
  decide
 ·rw [hst.dn]
  refine ⟨hM.bl.trans ⟨r3.os,r3.tape,r3.output,r3.size,fun k hk=>r3.block k (by have:=hM.bl.size;omega) (fun e=>by have:=Option.some.inj e;omega)⟩,fun _=>⟨ht,_,r2,fun p=>?_⟩,fun e=>by
   have : (64 == i) = false:=by simp;omega
   rw [this,Bool.false_or] at e
   have:=hM.o64 e
   simp [this],fun _ _ _=>by simp [h1]⟩
  rw [List.mem_append,List.mem_singleton,hl p]
  constructor
  ·rintro (⟨k,a1,a2,a3⟩ | rfl)
   ·exact ⟨k,a1,by simp [a2],a3⟩
   ·exact ⟨g,hg15,by simp [hig],hk⟩
  ·rintro ⟨k,a1,a2,a3⟩
   by_cases e : k = g
   ·subst e
    rw [hk] at a3
    exact .inr (Option.some.inj a3).symm
   ·refine .inl ⟨k,a1,?_,a3⟩
    have : (4 * k + 5 == i) = false:=by simp;omega
    rw [this,Bool.false_or] at a2
    exact a2
theorem IV.stored {W1 : World} {B : Nat} {listed : Array Bool} {a : Act} {u : World} {lv : Value} {O : Nat} (hst : ST listed 65) (h : IN W1 B (rinv.done listed) a u) (hall0 : ∀ i,i < 63 → rinv.done listed i = true) (h64 : rinv.done listed 64 = true) (hblk : Blk W1 B 100 #[lv,.int .i64 0,.map none,.map (some O)]) :
  ∃ T : Nat,a.eval (.tmp 57) = .pointer (some ⟨B,2,none⟩) ∧ a.eval (.tmp 55) = .map (some T) ∧ u.cell? ⟨B,2,none⟩ = some (.map none) ∧ u.frozen? ⟨B,2,none⟩ = false ∧ IV W1 B (listed.setIfInBounds 65 true) a (u.setCell ⟨B,2,none⟩ (.map (some T))):=by
 obtain ⟨T,hA,hM⟩:=h
 have hall : ∀ i,i < 65 → rinv.done listed i = true:=fun i hi=>by
  by_cases e : i < 63
  ·exact hall0 i e
  ·by_cases e2 : i = 63
   ·subst e2;exact hM.o64 h64
   ·obtain rfl : i = 64:=by omega
    exact h64
 have hbu : Blk u B 100 #[lv,.int .i64 0,.map none,.map (some O)]:=hblk.own hM.bl
 obtain ⟨ht,l,hm,hl⟩:=hM.m (hall 1 (by omega))
 refine ⟨T,(hA.vs 64 (by decide) (hall 64 (by omega)) (by decide)).trans rfl,(hA.vs 62 (by decide) (hall 62 (by omega)) (by decide)).trans rfl,hbu.cell 2,hbu.frozen 2,hst.size,.inr ⟨fun i hi=>?_,hA.sz,hA.df,hA.t3,T,u,ht,hM.bl,rfl,l,hm,fun p=>?_⟩⟩
 ·rw [hst.dn]
  by_cases e : i = 65
  ·simp [e]
  ·simp [hall i (by omega)]
 ·rw [hl p]
  constructor
  ·rintro ⟨g,_,_,h3⟩;exact List.mem_of_getElem? h3
  ·intro hp
   obtain ⟨g,hg⟩:=List.getElem?_of_mem hp
   exact ⟨g,terms_lt hg,hall _ (by have:=terms_lt hg;omega),hg⟩
theorem start_in (W : World) (ao : Option Addr) (n cap : Nat) : CallsIn Fence.wide 3 Tryz.prog 44 #[.slice ao n cap] W fun e w'=>∃ T,e = .returned (.pointer (some ⟨W.heap.size + 1,0,none⟩)) ∧ Below W.heap.size W w' ∧ W.heap.size + 2 ≤ T ∧
  Blk w' (W.heap.size + 1) 100 #[.slice ao n cap,.int .i64 0,.map (some T),.map (some W.heap.size)] ∧ MapT w' W.heap.size [] ∧ ∃ l,MapT w' T l ∧ ∀ p,p ∈ l ↔ p ∈ termsL (W.heap.size + 1):=by
 have hmk1 : ∀ w,(Instr.makeMap 97 none).run Tryz.prog w = .ok (.map (some w.heap.size)) (w.alloc (.map #[] 0)):=fun w=>rfl
 have hmx : Tryz.prog.follows .mixedOrders = true:=by kernel_rfl
 obtain ⟨X1,h1⟩ : ∃ X1,W.alloc (.map #[] 0) = X1:=⟨_,rfl⟩
 obtain ⟨X2,h2⟩ : ∃ X2,X1.alloc (.cells #[.slice ao n cap,.int .i64 0,.map none,.map (some W.heap.size)] 100) = X2:=⟨_,rfl⟩
 have hb1 : Below W.heap.size W X1:=by rw [← h1];exact (Below.refl _ _).alloc (Nat.le_refl _) _
 have hb2 : Below X1.heap.size X1 X2:=by rw [← h2];exact (Below.refl _ _).alloc (Nat.le_refl _) _
 have s1 : X1.heap.size = W.heap.size + 1:=by rw [← h1];simp
 have s2 : X2.heap.size = W.heap.size + 2:=by rw [← h2];simp [s1]
 have m1 : MapT X1 W.heap.size []:=by rw [← h1];exact map_new W
 have HO:=hid (MapT.of_heap m1 (hb2.block _ m1.lt))
 have bk : Blk X2 (W.heap.size + 1) 100 #[.slice ao n cap,.int .i64 0,.map none,.map (some W.heap.size)]:=by rw [← h2,← s1];exact Blk.new _ _ _
 have HB:=hid (show Blk X2.drew (W.heap.size + 1) 100 #[.slice ao n cap,.int .i64 0,.map none,.map (some W.heap.size)] from bk)
 have HBL:=hid (hb1.trans (hb2.mono hb1.size))
 have H1:=hid h1;have H2:=hid h2;have S2:=hid s2
 clear hb1 hb2 m1 bk s1 s2 h1 h2
 refine callsIn_of_wp_marks Tryz.func44 rfl trivial ?_ rfl
 simp only [Tryz.ntmps44,List.size_toArray,List.length_cons,List.length_nil,Nat.reduceSub,Nat.reduceAdd,Array.replicate_succ,Array.replicate_zero,List.push_toArray,List.append_toArray,List.nil_append,List.cons_append]
 gi_wp2_with fail
 rw [H1.out,H2.out]
 refine wpIn_region_any hmx ?_
 change wpAnyIn _ _ _ _ _ _ _ _ _ X2.drew
 refine rinv.wpAnyIn_inv (IV X2.drew (W.heap.size + 1)) ?step ?fin _ _ _ _ (by decide) ?start
 case start =>
  refine ⟨rfl,.inl ⟨rfl,0,⟨rfl,rfl,?_,fun i hi hd=>?_⟩,⟨Below.refl _ _,fun hd=>?_,fun hd=>?_,fun j _ hd=>?_⟩⟩⟩
  ·rfl
  ·have e:=hd.symm.trans (rinv.done_none _ i)
   cases e
  ·have e:=hd.symm.trans (rinv.done_none _ 1)
   cases e
  ·have e:=hd.symm.trans (rinv.done_none _ 64)
   cases e
  ·have e:=hd.symm.trans (rinv.done_none _ j)
   cases e
 case fin =>
  rintro listed a u ⟨hsz,hI⟩ hre
  have hall:=rinv.all_done hre hsz (by kernel_rfl)
  have hF : FN X2.drew (W.heap.size + 1) a u:=by
   rcases hI with ⟨h,_⟩ | ⟨_,h⟩
   ·exact absurd (hall 65 (by decide)) (by rw [h];decide)
   ·exact h
  clear hall hI hre hsz
  obtain ⟨h59,hdf,h3,T,u',hT,hb,rfl,l,hm,hl⟩:=hF
  obtain ⟨tmps,defers⟩:=a
  obtain rfl : defers = []:=hdf
  have h3 : tmps.getD 3 undef = ptrB (W.heap.size + 1):=h3
  have h59 : tmps.size = 59:=h59
  have HE:=hid (And.intro hT (And.intro hb (And.intro hm hl)))
  clear hT hb hm hl
  gi_wp2
  have hbu : Blk u' (W.heap.size + 1) 100 #[.slice ao n cap,.int .i64 0,.map none,.map (some W.heap.size)]:=HB.out.own HE.out.2.1
  have hBLX : Below W.heap.size W X2.drew:=HBL.out.drew
  have hT2 : W.heap.size + 2 ≤ T:=by have:=HE.out.1;have hs : X2.drew.heap.size = W.heap.size + 2:=S2.out;omega
  have hOu : MapT u' W.heap.size []:=MapT.of_heap (show MapT X2.drew W.heap.size [] from HO.out) (HE.out.2.1.block _ (by have hs : X2.drew.heap.size = W.heap.size + 2:=S2.out;omega))
  refine ⟨.pointer (some ⟨W.heap.size + 1,0,none⟩),?_,rfl,(hBLX.trans (HE.out.2.1.mono hBLX.size)).setCell (p:=⟨W.heap.size + 1,2,none⟩) (by simp) _,T,hT2,hbu.set (o:=2) _,MapT.of_heap hOu (Below.heap_setCell _ _ _ _ (fun e=>by simp at e)),l,MapT.of_heap HE.out.2.2.1 (Below.heap_setCell _ _ _ _ (fun e=>by simp at e;omega)),fun a b c=>HE.out.2.2.2 ((a,b),c)⟩
  simp [results,Tryz.results44,go_sem,h59]
 case step =>
  rintro listed a u i ⟨hsz,hI⟩ hi
  obtain ⟨hlt,hnot,haft⟩:=rinv.ready_mem hi
  have hlt : i < 66:=hlt
  have hni:=rinv.done_not hnot
  have hIN : rinv.done listed 65 = false ∧ IN X2.drew (W.heap.size + 1) (rinv.done listed) a u:=by
   rcases hI with h | ⟨h,_⟩
   ·exact h
   ·rw [h i hlt] at hni;cases hni
  have hst : ST listed i:=⟨hsz,funext (rinv.done_set hnot),hni,hIN.1⟩
  have HST:=hid hst;have HIN:=hid hIN.2;have HA:=hid haft
  clear hst hIN hni hI hnot hi hsz haft
  match i,hlt with
  | 0,_=>exact rinv.op_move rfl rfl rfl (IV.pure HST.out HIN.out (Below.refl _ _) (by decide) (by decide) (by decide) (by decide +kernel) (by decide) (fun e=>absurd e (by decide)) (fun e=>absurd e (by decide)) (fun T h=>h.t3))
  | 1,_ =>
   exact rinv.op_makeMap rfl rfl rfl (IV.made HST.out HIN.out)
  | 2,_ =>
   refine rinv.op_call1 rfl rfl rfl (enters_of Tryz.func63 (by kernel_rfl) rfl _ _) ((op_callsS _ _).mono ?_)
   rintro e w' ⟨rfl,hb⟩
   exact ⟨_,rfl,IV.pure HST.out HIN.out hb (by decide) (by decide) (by decide) (by decide +kernel) (by decide) (fun e=>absurd e (by decide)) (fun e=>absurd e (by decide)) (fun T h=>rfl)⟩
  | 3,_=>exact rinv.op_move rfl rfl rfl (IV.pure HST.out HIN.out (Below.refl _ _) (by decide) (by decide) (by decide) (by decide +kernel) (by decide) (fun e=>absurd e (by decide)) (fun e=>absurd e (by decide)) (fun T h=>h.t3))
  | 4,_ =>
   have hd : rinv.done listed 3 = true:=rinv.after_done HA.out rfl 3 (by kernel_rfl)
   exact rinv.op_makeFunc rfl rfl rfl (IV.pure HST.out HIN.out (Below.refl _ _) (by decide) (by decide) (by decide) (by decide +kernel) (by decide) (fun e=>absurd e (by decide)) (fun e=>absurd e (by decide)) (fun T h=>by
    rw [show a.eval (.tmp 11) = ptrB (W.heap.size + 1) from h.vs 3 (by decide) hd (by decide +kernel)];rfl))
  | 5,_ =>
   have hd : rinv.done listed 1 = true ∧ rinv.done listed 2 = true ∧ rinv.done listed 4 = true:=⟨rinv.after_done HA.out rfl 1 (by kernel_rfl),rinv.after_done HA.out rfl 2 (by kernel_rfl),rinv.after_done HA.out rfl 4 (by kernel_rfl)⟩
   obtain ⟨T,u',hA,hrun,hIV⟩:=IV.insert HST.out HIN.out (g:=0) rfl (by decide) hd.1 rfl
   have e9 : a.eval (.tmp 9) = .map (some T):=hA.vs 1 (by decide) hd.1 (by decide +kernel)
   have ek : a.eval (.tmp 10) = tokV (keysT.getD 0 noTk):=hA.vs 2 (by decide) hd.2.1 (by decide +kernel)
   have ef : a.eval (.tmp 12) = methV 64 (W.heap.size + 1):=hA.vs 4 (by decide) hd.2.2 (by decide +kernel)
   exact rinv.op_insert rfl rfl rfl (by rw [e9,ek,ef];exact hrun) hIV
  | 6,_ =>
   refine rinv.op_call1 rfl rfl rfl (enters_of Tryz.func63 (by kernel_rfl) rfl _ _) ((op_callsS _ _).mono ?_)
   rintro e w' ⟨rfl,hb⟩
   exact ⟨_,rfl,IV.pure HST.out HIN.out hb (by decide) (by decide) (by decide) (by decide +kernel) (by decide) (fun e=>absurd e (by decide)) (fun e=>absurd e (by decide)) (fun T h=>rfl)⟩
  | 7,_=>exact rinv.op_move rfl rfl rfl (IV.pure HST.out HIN.out (Below.refl _ _) (by decide) (by decide) (by decide) (by decide +kernel) (by decide) (fun e=>absurd e (by decide)) (fun e=>absurd e (by decide)) (fun T h=>h.t3))
  | 8,_ =>
   have hd : rinv.done listed 7 = true:=rinv.after_done HA.out rfl 7 (by kernel_rfl)
   exact rinv.op_makeFunc rfl rfl rfl (IV.pure HST.out HIN.out (Below.refl _ _) (by decide) (by decide) (by decide) (by decide +kernel) (by decide) (fun e=>absurd e (by decide)) (fun e=>absurd e (by decide)) (fun T h=>by
    rw [show a.eval (.tmp 14) = ptrB (W.heap.size + 1) from h.vs 7 (by decide) hd (by decide +kernel)];rfl))
  | 9,_ =>
   have hd : rinv.done listed 1 = true ∧ rinv.done listed 6 = true ∧ rinv.done listed 8 = true:=⟨rinv.after_done HA.out rfl 1 (by kernel_rfl),rinv.after_done HA.out rfl 6 (by kernel_rfl),rinv.after_done HA.out rfl 8 (by kernel_rfl)⟩
   obtain ⟨T,u',hA,hrun,hIV⟩:=IV.insert HST.out HIN.out (g:=1) rfl (by decide) hd.1 rfl
   have e9 : a.eval (.tmp 9) = .map (some T):=hA.vs 1 (by decide) hd.1 (by decide +kernel)
   have ek : a.eval (.tmp 13) = tokV (keysT.getD 1 noTk):=hA.vs 6 (by decide) hd.2.1 (by decide +kernel)
   have ef : a.eval (.tmp 15) = methV 65 (W.heap.size + 1):=hA.vs 8 (by decide) hd.2.2 (by decide +kernel)
   exact rinv.op_insert rfl rfl rfl (by rw [e9,ek,ef];exact hrun) hIV
  | 10,_ =>
   refine rinv.op_call1 rfl rfl rfl (enters_of Tryz.func63 (by kernel_rfl) rfl _ _) ((op_callsS _ _).mono ?_)
   rintro e w' ⟨rfl,hb⟩
   exact ⟨_,rfl,IV.pure HST.out HIN.out hb (by decide) (by decide) (by decide) (by decide +kernel) (by decide) (fun e=>absurd e (by decide)) (fun e=>absurd e (by decide)) (fun T h=>rfl)⟩
  | 11,_=>exact rinv.op_move rfl rfl rfl (IV.pure HST.out HIN.out (Below.refl _ _) (by decide) (by decide) (by decide) (by decide +kernel) (by decide) (fun e=>absurd e (by decide)) (fun e=>absurd e (by decide)) (fun T h=>h.t3))
  | 12,_ =>
   have hd : rinv.done listed 11 = true:=rinv.after_done HA.out rfl 11 (by kernel_rfl)
   exact rinv.op_makeFunc rfl rfl rfl (IV.pure HST.out HIN.out (Below.refl _ _) (by decide) (by decide) (by decide) (by decide +kernel) (by decide) (fun e=>absurd e (by decide)) (fun e=>absurd e (by decide)) (fun T h=>by
    rw [show a.eval (.tmp 17) = ptrB (W.heap.size + 1) from h.vs 11 (by decide) hd (by decide +kernel)];rfl))
  | 13,_ =>
   have hd : rinv.done listed 1 = true ∧ rinv.done listed 10 = true ∧ rinv.done listed 12 = true:=⟨rinv.after_done HA.out rfl 1 (by kernel_rfl),rinv.after_done HA.out rfl 10 (by kernel_rfl),rinv.after_done HA.out rfl 12 (by kernel_rfl)⟩
   obtain ⟨T,u',hA,hrun,hIV⟩:=IV.insert HST.out HIN.out (g:=2) rfl (by decide) hd.1 rfl
   have e9 : a.eval (.tmp 9) = .map (some T):=hA.vs 1 (by decide) hd.1 (by decide +kernel)
   have ek : a.eval (.tmp 16) = tokV (keysT.getD 2 noTk):=hA.vs 10 (by decide) hd.2.1 (by decide +kernel)
   have ef : a.eval (.tmp 18) = methV 66 (W.heap.size + 1):=hA.vs 12 (by decide) hd.2.2 (by decide +kernel)
   exact rinv.op_insert rfl rfl rfl (by rw [e9,ek,ef];exact hrun) hIV
  | 14,_ =>
   refine rinv.op_call1 rfl rfl rfl (enters_of Tryz.func63 (by kernel_rfl) rfl _ _) ((op_callsS _ _).mono ?_)
   rintro e w' ⟨rfl,hb⟩
   exact ⟨_,rfl,IV.pure HST.out HIN.out hb (by decide) (by decide) (by decide) (by decide +kernel) (by decide) (fun e=>absurd e (by decide)) (fun e=>absurd e (by decide)) (fun T h=>rfl)⟩
  | 15,_=>exact rinv.op_move rfl rfl rfl (IV.pure HST.out HIN.out (Below.refl _ _) (by decide) (by decide) (by decide) (by decide +kernel) (by decide) (fun e=>absurd e (by decide)) (fun e=>absurd e (by decide)) (fun T h=>h.t3))
  | 16,_ =>
   have hd : rinv.done listed 15 = true:=rinv.after_done HA.out rfl 15 (by kernel_rfl)
   exact rinv.op_makeFunc rfl rfl rfl (IV.pure HST.out HIN.out (Below.refl _ _) (by decide) (by decide) (by decide) (by decide +kernel) (by decide) (fun e=>absurd e (by decide)) (fun e=>absurd e (by decide)) (fun T h=>by
    rw [show a.eval (.tmp 20) = ptrB (W.heap.size + 1) from h.vs 15 (by decide) hd (by decide +kernel)];rfl))
  | 17,_ =>
   have hd : rinv.done listed 1 = true ∧ rinv.done listed 14 = true ∧ rinv.done listed 16 = true:=⟨rinv.after_done HA.out rfl 1 (by kernel_rfl),rinv.after_done HA.out rfl 14 (by kernel_rfl),rinv.after_done HA.out rfl 16 (by kernel_rfl)⟩
   obtain ⟨T,u',hA,hrun,hIV⟩:=IV.insert HST.out HIN.out (g:=3) rfl (by decide) hd.1 rfl
   have e9 : a.eval (.tmp 9) = .map (some T):=hA.vs 1 (by decide) hd.1 (by decide +kernel)
   have ek : a.eval (.tmp 19) = tokV (keysT.getD 3 noTk):=hA.vs 14 (by decide) hd.2.1 (by decide +kernel)
   have ef : a.eval (.tmp 21) = methV 67 (W.heap.size + 1):=hA.vs 16 (by decide) hd.2.2 (by decide +kernel)
   exact rinv.op_insert rfl rfl rfl (by rw [e9,ek,ef];exact hrun) hIV
  | 18,_ =>
   refine rinv.op_call1 rfl rfl rfl (enters_of Tryz.func63 (by kernel_rfl) rfl _ _) ((op_callsS _ _).mono ?_)
   rintro e w' ⟨rfl,hb⟩
   exact ⟨_,rfl,IV.pure HST.out HIN.out hb (by decide) (by decide) (by decide) (by decide +kernel) (by decide) (fun e=>absurd e (by decide)) (fun e=>absurd e (by decide)) (fun T h=>rfl)⟩
  | 19,_=>exact rinv.op_move rfl rfl rfl (IV.pure HST.out HIN.out (Below.refl _ _) (by decide) (by decide) (by decide) (by decide +kernel) (by decide) (fun e=>absurd e (by decide)) (fun e=>absurd e (by decide)) (fun T h=>h.t3))
  | 20,_ =>
   have hd : rinv.done listed 19 = true:=rinv.after_done HA.out rfl 19 (by kernel_rfl)
   exact rinv.op_makeFunc rfl rfl rfl (IV.pure HST.out HIN.out (Below.refl _ _) (by decide) (by decide) (by decide) (by decide +kernel) (by decide) (fun e=>absurd e (by decide)) (fun e=>absurd e (by decide)) (fun T h=>by
    rw [show a.eval (.tmp 23) = ptrB (W.heap.size + 1) from h.vs 19 (by decide) hd (by decide +kernel)];rfl))
  | 21,_ =>
   have hd : rinv.done listed 1 = true ∧ rinv.done listed 18 = true ∧ rinv.done listed 20 = true:=⟨rinv.after_done HA.out rfl 1 (by kernel_rfl),rinv.after_done HA.out rfl 18 (by kernel_rfl),rinv.after_done HA.out rfl 20 (by kernel_rfl)⟩
   obtain ⟨T,u',hA,hrun,hIV⟩:=IV.insert HST.out HIN.out (g:=4) rfl (by decide) hd.1 rfl
   have e9 : a.eval (.tmp 9) = .map (some T):=hA.vs 1 (by decide) hd.1 (by decide +kernel)
   have ek : a.eval (.tmp 22) = tokV (keysT.getD 4 noTk):=hA.vs 18 (by decide) hd.2.1 (by decide +kernel)
   have ef : a.eval (.tmp 24) = methV 68 (W.heap.size + 1):=hA.vs 20 (by decide) hd.2.2 (by decide +kernel)
   exact rinv.op_insert rfl rfl rfl (by rw [e9,ek,ef];exact hrun) hIV
  | 22,_ =>
   refine rinv.op_call1 rfl rfl rfl (enters_of Tryz.func69 (by kernel_rfl) rfl _ _) ((word_callsS _ _).mono ?_)
   rintro e w' ⟨rfl,hb⟩
   exact ⟨_,rfl,IV.pure HST.out HIN.out hb (by decide) (by decide) (by decide) (by decide +kernel) (by decide) (fun e=>absurd e (by decide)) (fun e=>absurd e (by decide)) (fun T h=>rfl)⟩
  | 23,_=>exact rinv.op_move rfl rfl rfl (IV.pure HST.out HIN.out (Below.refl _ _) (by decide) (by decide) (by decide) (by decide +kernel) (by decide) (fun e=>absurd e (by decide)) (fun e=>absurd e (by decide)) (fun T h=>h.t3))
  | 24,_ =>
   have hd : rinv.done listed 23 = true:=rinv.after_done HA.out rfl 23 (by kernel_rfl)
   exact rinv.op_makeFunc rfl rfl rfl (IV.pure HST.out HIN.out (Below.refl _ _) (by decide) (by decide) (by decide) (by decide +kernel) (by decide) (fun e=>absurd e (by decide)) (fun e=>absurd e (by decide)) (fun T h=>by
    rw [show a.eval (.tmp 26) = ptrB (W.heap.size + 1) from h.vs 23 (by decide) hd (by decide +kernel)];rfl))
  | 25,_ =>
   have hd : rinv.done listed 1 = true ∧ rinv.done listed 22 = true ∧ rinv.done listed 24 = true:=⟨rinv.after_done HA.out rfl 1 (by kernel_rfl),rinv.after_done HA.out rfl 22 (by kernel_rfl),rinv.after_done HA.out rfl 24 (by kernel_rfl)⟩
   obtain ⟨T,u',hA,hrun,hIV⟩:=IV.insert HST.out HIN.out (g:=5) rfl (by decide) hd.1 rfl
   have e9 : a.eval (.tmp 9) = .map (some T):=hA.vs 1 (by decide) hd.1 (by decide +kernel)
   have ek : a.eval (.tmp 25) = tokV (keysT.getD 5 noTk):=hA.vs 22 (by decide) hd.2.1 (by decide +kernel)
   have ef : a.eval (.tmp 27) = methV 70 (W.heap.size + 1):=hA.vs 24 (by decide) hd.2.2 (by decide +kernel)
   exact rinv.op_insert rfl rfl rfl (by rw [e9,ek,ef];exact hrun) hIV
  | 26,_ =>
   refine rinv.op_call1 rfl rfl rfl (enters_of Tryz.func69 (by kernel_rfl) rfl _ _) ((word_callsS _ _).mono ?_)
   rintro e w' ⟨rfl,hb⟩
   exact ⟨_,rfl,IV.pure HST.out HIN.out hb (by decide) (by decide) (by decide) (by decide +kernel) (by decide) (fun e=>absurd e (by decide)) (fun e=>absurd e (by decide)) (fun T h=>rfl)⟩
  | 27,_=>exact rinv.op_move rfl rfl rfl (IV.pure HST.out HIN.out (Below.refl _ _) (by decide) (by decide) (by decide) (by decide +kernel) (by decide) (fun e=>absurd e (by decide)) (fun e=>absurd e (by decide)) (fun T h=>h.t3))
  | 28,_ =>
   have hd : rinv.done listed 27 = true:=rinv.after_done HA.out rfl 27 (by kernel_rfl)
   exact rinv.op_makeFunc rfl rfl rfl (IV.pure HST.out HIN.out (Below.refl _ _) (by decide) (by decide) (by decide) (by decide +kernel) (by decide) (fun e=>absurd e (by decide)) (fun e=>absurd e (by decide)) (fun T h=>by
    rw [show a.eval (.tmp 29) = ptrB (W.heap.size + 1) from h.vs 27 (by decide) hd (by decide +kernel)];rfl))
  | 29,_ =>
   have hd : rinv.done listed 1 = true ∧ rinv.done listed 26 = true ∧ rinv.done listed 28 = true:=⟨rinv.after_done HA.out rfl 1 (by kernel_rfl),rinv.after_done HA.out rfl 26 (by kernel_rfl),rinv.after_done HA.out rfl 28 (by kernel_rfl)⟩
   obtain ⟨T,u',hA,hrun,hIV⟩:=IV.insert HST.out HIN.out (g:=6) rfl (by decide) hd.1 rfl
   have e9 : a.eval (.tmp 9) = .map (some T):=hA.vs 1 (by decide) hd.1 (by decide +kernel)
   have ek : a.eval (.tmp 28) = tokV (keysT.getD 6 noTk):=hA.vs 26 (by decide) hd.2.1 (by decide +kernel)
   have ef : a.eval (.tmp 30) = methV 71 (W.heap.size + 1):=hA.vs 28 (by decide) hd.2.2 (by decide +kernel)
   exact rinv.op_insert rfl rfl rfl (by rw [e9,ek,ef];exact hrun) hIV
  | 30,_ =>
   refine rinv.op_call1 rfl rfl rfl (enters_of Tryz.func69 (by kernel_rfl) rfl _ _) ((word_callsS _ _).mono ?_)
   rintro e w' ⟨rfl,hb⟩
   exact ⟨_,rfl,IV.pure HST.out HIN.out hb (by decide) (by decide) (by decide) (by decide +kernel) (by decide) (fun e=>absurd e (by decide)) (fun e=>absurd e (by decide)) (fun T h=>rfl)⟩
  | 31,_=>exact rinv.op_move rfl rfl rfl (IV.pure HST.out HIN.out (Below.refl _ _) (by decide) (by decide) (by decide) (by decide +kernel) (by decide) (fun e=>absurd e (by decide)) (fun e=>absurd e (by decide)) (fun T h=>h.t3))
  | 32,_ =>
   have hd : rinv.done listed 31 = true:=rinv.after_done HA.out rfl 31 (by kernel_rfl)
   exact rinv.op_makeFunc rfl rfl rfl (IV.pure HST.out HIN.out (Below.refl _ _) (by decide) (by decide) (by decide) (by decide +kernel) (by decide) (fun e=>absurd e (by decide)) (fun e=>absurd e (by decide)) (fun T h=>by
    rw [show a.eval (.tmp 32) = ptrB (W.heap.size + 1) from h.vs 31 (by decide) hd (by decide +kernel)];rfl))
  | 33,_ =>
   have hd : rinv.done listed 1 = true ∧ rinv.done listed 30 = true ∧ rinv.done listed 32 = true:=⟨rinv.after_done HA.out rfl 1 (by kernel_rfl),rinv.after_done HA.out rfl 30 (by kernel_rfl),rinv.after_done HA.out rfl 32 (by kernel_rfl)⟩
   obtain ⟨T,u',hA,hrun,hIV⟩:=IV.insert HST.out HIN.out (g:=7) rfl (by decide) hd.1 rfl
   have e9 : a.eval (.tmp 9) = .map (some T):=hA.vs 1 (by decide) hd.1 (by decide +kernel)
   have ek : a.eval (.tmp 31) = tokV (keysT.getD 7 noTk):=hA.vs 30 (by decide) hd.2.1 (by decide +kernel)
   have ef : a.eval (.tmp 33) = methV 72 (W.heap.size + 1):=hA.vs 32 (by decide) hd.2.2 (by decide +kernel)
   exact rinv.op_insert rfl rfl rfl (by rw [e9,ek,ef];exact hrun) hIV
  | 34,_ =>
   refine rinv.op_call1 rfl rfl rfl (enters_of Tryz.func69 (by kernel_rfl) rfl _ _) ((word_callsS _ _).mono ?_)
   rintro e w' ⟨rfl,hb⟩
   exact ⟨_,rfl,IV.pure HST.out HIN.out hb (by decide) (by decide) (by decide) (by decide +kernel) (by decide) (fun e=>absurd e (by decide)) (fun e=>absurd e (by decide)) (fun T h=>rfl)⟩
  | 35,_=>exact rinv.op_move rfl rfl rfl (IV.pure HST.out HIN.out (Below.refl _ _) (by decide) (by decide) (by decide) (by decide +kernel) (by decide) (fun e=>absurd e (by decide)) (fun e=>absurd e (by decide)) (fun T h=>h.t3))
  | 36,_ =>
   have hd : rinv.done listed 35 = true:=rinv.after_done HA.out rfl 35 (by kernel_rfl)
   exact rinv.op_makeFunc rfl rfl rfl (IV.pure HST.out HIN.out (Below.refl _ _) (by decide) (by decide) (by decide) (by decide +kernel) (by decide) (fun e=>absurd e (by decide)) (fun e=>absurd e (by decide)) (fun T h=>by
    rw [show a.eval (.tmp 35) = ptrB (W.heap.size + 1) from h.vs 35 (by decide) hd (by decide +kernel)];rfl))
  | 37,_ =>
   have hd : rinv.done listed 1 = true ∧ rinv.done listed 34 = true ∧ rinv.done listed 36 = true:=⟨rinv.after_done HA.out rfl 1 (by kernel_rfl),rinv.after_done HA.out rfl 34 (by kernel_rfl),rinv.after_done HA.out rfl 36 (by kernel_rfl)⟩
   obtain ⟨T,u',hA,hrun,hIV⟩:=IV.insert HST.out HIN.out (g:=8) rfl (by decide) hd.1 rfl
   have e9 : a.eval (.tmp 9) = .map (some T):=hA.vs 1 (by decide) hd.1 (by decide +kernel)
   have ek : a.eval (.tmp 34) = tokV (keysT.getD 8 noTk):=hA.vs 34 (by decide) hd.2.1 (by decide +kernel)
   have ef : a.eval (.tmp 36) = methV 73 (W.heap.size + 1):=hA.vs 36 (by decide) hd.2.2 (by decide +kernel)
   exact rinv.op_insert rfl rfl rfl (by rw [e9,ek,ef];exact hrun) hIV
  | 38,_=>exact rinv.op_val rfl rfl (v:=tokV (keysT.getD 9 noTk)) (w':=u) (by kernel_rfl) (IV.pure HST.out HIN.out (Below.refl _ _) (by decide) (by decide) (by decide) (by decide +kernel) (by decide) (fun e=>absurd e (by decide)) (fun e=>absurd e (by decide)) (fun T h=>rfl))
  | 39,_=>exact rinv.op_move rfl rfl rfl (IV.pure HST.out HIN.out (Below.refl _ _) (by decide) (by decide) (by decide) (by decide +kernel) (by decide) (fun e=>absurd e (by decide)) (fun e=>absurd e (by decide)) (fun T h=>h.t3))
  | 40,_ =>
   have hd : rinv.done listed 39 = true:=rinv.after_done HA.out rfl 39 (by kernel_rfl)
   exact rinv.op_makeFunc rfl rfl rfl (IV.pure HST.out HIN.out (Below.refl _ _) (by decide) (by decide) (by decide) (by decide +kernel) (by decide) (fun e=>absurd e (by decide)) (fun e=>absurd e (by decide)) (fun T h=>by
    rw [show a.eval (.tmp 38) = ptrB (W.heap.size + 1) from h.vs 39 (by decide) hd (by decide +kernel)];rfl))
  | 41,_ =>
   have hd : rinv.done listed 1 = true ∧ rinv.done listed 38 = true ∧ rinv.done listed 40 = true:=⟨rinv.after_done HA.out rfl 1 (by kernel_rfl),rinv.after_done HA.out rfl 38 (by kernel_rfl),rinv.after_done HA.out rfl 40 (by kernel_rfl)⟩
   obtain ⟨T,u',hA,hrun,hIV⟩:=IV.insert HST.out HIN.out (g:=9) rfl (by decide) hd.1 rfl
   have e9 : a.eval (.tmp 9) = .map (some T):=hA.vs 1 (by decide) hd.1 (by decide +kernel)
   have ek : a.eval (.tmp 37) = tokV (keysT.getD 9 noTk):=hA.vs 38 (by decide) hd.2.1 (by decide +kernel)
   have ef : a.eval (.tmp 39) = methV 74 (W.heap.size + 1):=hA.vs 40 (by decide) hd.2.2 (by decide +kernel)
   exact rinv.op_insert rfl rfl rfl (by rw [e9,ek,ef];exact hrun) hIV
  | 42,_=>exact rinv.op_val rfl rfl (v:=tokV (keysT.getD 10 noTk)) (w':=u) (by kernel_rfl) (IV.pure HST.out HIN.out (Below.refl _ _) (by decide) (by decide) (by decide) (by decide +kernel) (by decide) (fun e=>absurd e (by decide)) (fun e=>absurd e (by decide)) (fun T h=>rfl))
  | 43,_=>exact rinv.op_move rfl rfl rfl (IV.pure HST.out HIN.out (Below.refl _ _) (by decide) (by decide) (by decide) (by decide +kernel) (by decide) (fun e=>absurd e (by decide)) (fun e=>absurd e (by decide)) (fun T h=>h.t3))
  | 44,_ =>
   have hd : rinv.done listed 43 = true:=rinv.after_done HA.out rfl 43 (by kernel_rfl)
   exact rinv.op_makeFunc rfl rfl rfl (IV.pure HST.out HIN.out (Below.refl _ _) (by decide) (by decide) (by decide) (by decide +kernel) (by decide) (fun e=>absurd e (by decide)) (fun e=>absurd e (by decide)) (fun T h=>by
    rw [show a.eval (.tmp 41) = ptrB (W.heap.size + 1) from h.vs 43 (by decide) hd (by decide +kernel)];rfl))
  | 45,_ =>
   have hd : rinv.done listed 1 = true ∧ rinv.done listed 42 = true ∧ rinv.done listed 44 = true:=⟨rinv.after_done HA.out rfl 1 (by kernel_rfl),rinv.after_done HA.out rfl 42 (by kernel_rfl),rinv.after_done HA.out rfl 44 (by kernel_rfl)⟩
   obtain ⟨T,u',hA,hrun,hIV⟩:=IV.insert HST.out HIN.out (g:=10) rfl (by decide) hd.1 rfl
   have e9 : a.eval (.tmp 9) = .map (some T):=hA.vs 1 (by decide) hd.1 (by decide +kernel)
   have ek : a.eval (.tmp 40) = tokV (keysT.getD 10 noTk):=hA.vs 42 (by decide) hd.2.1 (by decide +kernel)
   have ef : a.eval (.tmp 42) = methV 75 (W.heap.size + 1):=hA.vs 44 (by decide) hd.2.2 (by decide +kernel)
   exact rinv.op_insert rfl rfl rfl (by rw [e9,ek,ef];exact hrun) hIV
  | 46,_=>exact rinv.op_val rfl rfl (v:=tokV (keysT.getD 11 noTk)) (w':=u) (by kernel_rfl) (IV.pure HST.out HIN.out (Below.refl _ _) (by decide) (by decide) (by decide) (by decide +kernel) (by decide) (fun e=>absurd e (by decide)) (fun e=>absurd e (by decide)) (fun T h=>rfl))
  | 47,_=>exact rinv.op_move rfl rfl rfl (IV.pure HST.out HIN.out (Below.refl _ _) (by decide) (by decide) (by decide) (by decide +kernel) (by decide) (fun e=>absurd e (by decide)) (fun e=>absurd e (by decide)) (fun T h=>h.t3))
  | 48,_ =>
   have hd : rinv.done listed 47 = true:=rinv.after_done HA.out rfl 47 (by kernel_rfl)
   exact rinv.op_makeFunc rfl rfl rfl (IV.pure HST.out HIN.out (Below.refl _ _) (by decide) (by decide) (by decide) (by decide +kernel) (by decide) (fun e=>absurd e (by decide)) (fun e=>absurd e (by decide)) (fun T h=>by
    rw [show a.eval (.tmp 44) = ptrB (W.heap.size + 1) from h.vs 47 (by decide) hd (by decide +kernel)];rfl))
  | 49,_ =>
   have hd : rinv.done listed 1 = true ∧ rinv.done listed 46 = true ∧ rinv.done listed 48 = true:=⟨rinv.after_done HA.out rfl 1 (by kernel_rfl),rinv.after_done HA.out rfl 46 (by kernel_rfl),rinv.after_done HA.out rfl 48 (by kernel_rfl)⟩
   obtain ⟨T,u',hA,hrun,hIV⟩:=IV.insert HST.out HIN.out (g:=11) rfl (by decide) hd.1 rfl
   have e9 : a.eval (.tmp 9) = .map (some T):=hA.vs 1 (by decide) hd.1 (by decide +kernel)
   have ek : a.eval (.tmp 43) = tokV (keysT.getD 11 noTk):=hA.vs 46 (by decide) hd.2.1 (by decide +kernel)
   have ef : a.eval (.tmp 45) = methV 76 (W.heap.size + 1):=hA.vs 48 (by decide) hd.2.2 (by decide +kernel)
   exact rinv.op_insert rfl rfl rfl (by rw [e9,ek,ef];exact hrun) hIV
  | 50,_=>exact rinv.op_val rfl rfl (v:=tokV (keysT.getD 12 noTk)) (w':=u) (by kernel_rfl) (IV.pure HST.out HIN.out (Below.refl _ _) (by decide) (by decide) (by decide) (by decide +kernel) (by decide) (fun e=>absurd e (by decide)) (fun e=>absurd e (by decide)) (fun T h=>rfl))
  | 51,_=>exact rinv.op_move rfl rfl rfl (IV.pure HST.out HIN.out (Below.refl _ _) (by decide) (by decide) (by decide) (by decide +kernel) (by decide) (fun e=>absurd e (by decide)) (fun e=>absurd e (by decide)) (fun T h=>h.t3))
  | 52,_ =>
   have hd : rinv.done listed 51 = true:=rinv.after_done HA.out rfl 51 (by kernel_rfl)
   exact rinv.op_makeFunc rfl rfl rfl (IV.pure HST.out HIN.out (Below.refl _ _) (by decide) (by decide) (by decide) (by decide +kernel) (by decide) (fun e=>absurd e (by decide)) (fun e=>absurd e (by decide)) (fun T h=>by
    rw [show a.eval (.tmp 47) = ptrB (W.heap.size + 1) from h.vs 51 (by decide) hd (by decide +kernel)];rfl))
  | 53,_ =>
   have hd : rinv.done listed 1 = true ∧ rinv.done listed 50 = true ∧ rinv.done listed 52 = true:=⟨rinv.after_done HA.out rfl 1 (by kernel_rfl),rinv.after_done HA.out rfl 50 (by kernel_rfl),rinv.after_done HA.out rfl 52 (by kernel_rfl)⟩
   obtain ⟨T,u',hA,hrun,hIV⟩:=IV.insert HST.out HIN.out (g:=12) rfl (by decide) hd.1 rfl
   have e9 : a.eval (.tmp 9) = .map (some T):=hA.vs 1 (by decide) hd.1 (by decide +kernel)
   have ek : a.eval (.tmp 46) = tokV (keysT.getD 12 noTk):=hA.vs 50 (by decide) hd.2.1 (by decide +kernel)
   have ef : a.eval (.tmp 48) = methV 77 (W.heap.size + 1):=hA.vs 52 (by decide) hd.2.2 (by decide +kernel)
   exact rinv.op_insert rfl rfl rfl (by rw [e9,ek,ef];exact hrun) hIV
  | 54,_=>exact rinv.op_val rfl rfl (v:=tokV (keysT.getD 13 noTk)) (w':=u) (by kernel_rfl) (IV.pure HST.out HIN.out (Below.refl _ _) (by decide) (by decide) (by decide) (by decide +kernel) (by decide) (fun e=>absurd e (by decide)) (fun e=>absurd e (by decide)) (fun T h=>rfl))
  | 55,_=>exact rinv.op_move rfl rfl rfl (IV.pure HST.out HIN.out (Below.refl _ _) (by decide) (by decide) (by decide) (by decide +kernel) (by decide) (fun e=>absurd e (by decide)) (fun e=>absurd e (by decide)) (fun T h=>h.t3))
  | 56,_ =>
   have hd : rinv.done listed 55 = true:=rinv.after_done HA.out rfl 55 (by kernel_rfl)
   exact rinv.op_makeFunc rfl rfl rfl (IV.pure HST.out HIN.out (Below.refl _ _) (by decide) (by decide) (by decide) (by decide +kernel) (by decide) (fun e=>absurd e (by decide)) (fun e=>absurd e (by decide)) (fun T h=>by
    rw [show a.eval (.tmp 50) = ptrB (W.heap.size + 1) from h.vs 55 (by decide) hd (by decide +kernel)];rfl))
  | 57,_ =>
   have hd : rinv.done listed 1 = true ∧ rinv.done listed 54 = true ∧ rinv.done listed 56 = true:=⟨rinv.after_done HA.out rfl 1 (by kernel_rfl),rinv.after_done HA.out rfl 54 (by kernel_rfl),rinv.after_done HA.out rfl 56 (by kernel_rfl)⟩
   obtain ⟨T,u',hA,hrun,hIV⟩:=IV.insert HST.out HIN.out (g:=13) rfl (by decide) hd.1 rfl
   have e9 : a.eval (.tmp 9) = .map (some T):=hA.vs 1 (by decide) hd.1 (by decide +kernel)
   have ek : a.eval (.tmp 49) = tokV (keysT.getD 13 noTk):=hA.vs 54 (by decide) hd.2.1 (by decide +kernel)
   have ef : a.eval (.tmp 51) = methV 78 (W.heap.size + 1):=hA.vs 56 (by decide) hd.2.2 (by decide +kernel)
   exact rinv.op_insert rfl rfl rfl (by rw [e9,ek,ef];exact hrun) hIV
  | 58,_=>exact rinv.op_val rfl rfl (v:=tokV (keysT.getD 14 noTk)) (w':=u) (by kernel_rfl) (IV.pure HST.out HIN.out (Below.refl _ _) (by decide) (by decide) (by decide) (by decide +kernel) (by decide) (fun e=>absurd e (by decide)) (fun e=>absurd e (by decide)) (fun T h=>rfl))
  | 59,_=>exact rinv.op_move rfl rfl rfl (IV.pure HST.out HIN.out (Below.refl _ _) (by decide) (by decide) (by decide) (by decide +kernel) (by decide) (fun e=>absurd e (by decide)) (fun e=>absurd e (by decide)) (fun T h=>h.t3))
  | 60,_ =>
   have hd : rinv.done listed 59 = true:=rinv.after_done HA.out rfl 59 (by kernel_rfl)
   exact rinv.op_makeFunc rfl rfl rfl (IV.pure HST.out HIN.out (Below.refl _ _) (by decide) (by decide) (by decide) (by decide +kernel) (by decide) (fun e=>absurd e (by decide)) (fun e=>absurd e (by decide)) (fun T h=>by
    rw [show a.eval (.tmp 53) = ptrB (W.heap.size + 1) from h.vs 59 (by decide) hd (by decide +kernel)];rfl))
  | 61,_ =>
   have hd : rinv.done listed 1 = true ∧ rinv.done listed 58 = true ∧ rinv.done listed 60 = true:=⟨rinv.after_done HA.out rfl 1 (by kernel_rfl),rinv.after_done HA.out rfl 58 (by kernel_rfl),rinv.after_done HA.out rfl 60 (by kernel_rfl)⟩
   obtain ⟨T,u',hA,hrun,hIV⟩:=IV.insert HST.out HIN.out (g:=14) rfl (by decide) hd.1 rfl
   have e9 : a.eval (.tmp 9) = .map (some T):=hA.vs 1 (by decide) hd.1 (by decide +kernel)
   have ek : a.eval (.tmp 52) = tokV (keysT.getD 14 noTk):=hA.vs 58 (by decide) hd.2.1 (by decide +kernel)
   have ef : a.eval (.tmp 54) = methV 79 (W.heap.size + 1):=hA.vs 60 (by decide) hd.2.2 (by decide +kernel)
   exact rinv.op_insert rfl rfl rfl (by rw [e9,ek,ef];exact hrun) hIV
  | 62,_ =>
   have hd : rinv.done listed 1 = true:=rinv.after_done HA.out rfl 1 (by kernel_rfl)
   exact rinv.op_move rfl rfl rfl (IV.pure HST.out HIN.out (Below.refl _ _) (by decide) (by decide) (by decide) (by decide +kernel) (by decide) (fun _=>hd) (fun e=>absurd e (by decide)) (fun T h=>h.vs 1 (by decide) hd (by decide +kernel)))
  | 63,_ =>
   have hd : rinv.done listed 0 = true:=rinv.after_done HA.out rfl 0 (by kernel_rfl)
   obtain ⟨T,hA,_⟩:=HIN.out
   have e8 : a.eval (.tmp 8) = ptrB (W.heap.size + 1):=hA.vs 0 (by decide) hd (by decide +kernel)
   exact rinv.op_nil rfl rfl rfl e8 (IV.pure HST.out HIN.out (Below.refl _ _) (by decide) (by decide) (by decide) (by decide +kernel) (by decide) (fun e=>absurd e (by decide)) (fun e=>absurd e (by decide)) (fun T h=>rfl))
  | 64,_ =>
   have hd : rinv.done listed 63 = true:=rinv.after_done HA.out rfl 63 (by kernel_rfl)
   obtain ⟨T,hA,_⟩:=HIN.out
   have e8 : a.eval (.tmp 56) = ptrB (W.heap.size + 1):=hA.vs 63 (by decide) hd (by decide +kernel)
   exact rinv.op_field rfl rfl rfl (v:=.pointer (some ⟨W.heap.size + 1,2,none⟩)) (w':=u) (by rw [e8];kernel_rfl) (IV.pure HST.out HIN.out (Below.refl _ _) (by decide) (by decide) (by decide) (by decide +kernel) (by decide) (fun e=>absurd e (by decide)) (fun _=>hd) (fun T h=>rfl))
  | 65,_ =>
   have hall : ∀ i,i < 63 → rinv.done listed i = true:=rinv.after_all HA.out rfl 63 (by kernel_rfl)
   have h64 : rinv.done listed 64 = true:=rinv.after_done HA.out rfl 64 (by kernel_rfl)
   obtain ⟨T,e57,e55,hc,hz,hIV⟩:=IV.stored HST.out HIN.out hall h64 HB.out
   exact rinv.op_store rfl rfl rfl (by rw [e57,e55];simp [go_sem,hc,hz];done) hIV
theorem start_calls (W : World) (ao : Option Addr) (n cap : Nat) : Calls Tryz.prog 44 #[.slice ao n cap] W fun e w'=>∃ T,e = .returned (.pointer (some ⟨W.heap.size + 1,0,none⟩)) ∧ Below W.heap.size W w' ∧ W.heap.size + 2 ≤ T ∧
  Blk w' (W.heap.size + 1) 100 #[.slice ao n cap,.int .i64 0,.map (some T),.map (some W.heap.size)] ∧ MapT w' W.heap.size [] ∧ ∃ l,MapT w' T l ∧ ∀ p,p ∈ l ↔ p ∈ termsL (W.heap.size + 1):=callsIn_wide.1 (start_in W ao n cap)
end Go.Proofs.YtlklhkkjcfmefaaGreatDoor.pa
