/- Ground of the law: PvBb, PvB2, PvW, BaKnown, PvX, PvArgs, BaOnce, BaPathR, BaOrder. -/
import Derived.Test.YthadnhpkeljdoaaQh26
import Derived.Test.YthadnhpkeljdoaaQh30
import Derived.Test.YthadnhpkeljdoaaQh02
import Derived.Test.YthadnhpkeljdoaaQh13
import Derived.Test.YthadnhpkeljdoaaQh04
import Derived.Test.YthadnhpkeljdoaaQh07
import Derived.Test.YthadnhpkeljdoaaQh11
import Derived.Test.YthadnhpkeljdoaaQh09
import Derived.Test.YthadnhpkeljdoaaQh18
import Derived.Test.YthadnhpkeljdoaaQh20
import Derived.Test.YthadnhpkeljdoaaQh23
import Derived.Test.YthadnhpkeljdoaaQh22
import Derived.Test.YthadnhpkeljdoaaQh16
import Derived.Deep.RegionHeld3
import Derived.Deep.Cut
import Derived.Test.YthadnhpkeljdoaaQh27
import Derived.Test.YthadnhpkeljdoaaQh14
import Derived.Test.YthadnhpkeljdoaaQh03
import Derived.Test.YthadnhpkeljdoaaQh01
import Derived.StillTailTactics
import Derived.Shelf.Strings.BuilderK
import Derived.WalkKit
import Derived.Test.YthadnhpkeljdoaaQh00
import Derived.Test.YthadnhpkeljdoaaQh12
import Derived.Test.YthadnhpkeljdoaaQh21
import Derived.Test.YthadnhpkeljdoaaQh08
import Derived.Test.YthadnhpkeljdoaaQh19
set_option maxRecDepth 100000
set_option maxHeartbeats 8000000
set_option linter.unusedVariables false
set_option linter.unusedSimpArgs false
namespace Go.Proofs.Ythadnhpkeljdoaa.pv
open Go.RowKit nd
abbrev ndv (x : Nd) : D:=.agg [dI x.k,dS x.t,dL (foD x.kids)]
theorem isBr_ok (x : Nd) : Ok Try.prog 13 [ndv x] [dB x.isBr]:=by
  refine ok_eq (o_isBracket ?_)
  have hl:=foD_len' x.kids
  unfold Nd.isBr
  cases c : x.k == 12
  · exact bcond_f c rfl
  · refine bcond_t c ?_
    show [dB ((Int.ofNat (foD x.kids).length) == (1 : Int))] = [dB (x.kids.len == 1)]
    rw [hl]
    congr 2
    cases e : x.kids.len == 1
    · rw [beq_eq_false_iff_ne] at e
      rw [beq_eq_false_iff_ne.2 (by simp only [Int.ofNat_eq_natCast];omega)]
    · rw [eq_of_beq e];rfl
theorem fo_one {f : Fo} (h : f.len = 1) : ∃ y,f.get? 0 = some y:=by
  cases f with
  | nil=>cases h
  | cons k t kids r=>exact ⟨_,rfl⟩
theorem strip_ok (x : Nd) : ∃ y,Ok Try.prog 26 [ndv x] [ndv y] ∧ y.isBr = false ∧ y.bare = x.bare ∧ y.weight ≤ x.weight ∧ SizeOf.sizeOf y.kids ≤ SizeOf.sizeOf x.kids:=by
  have key : ∀ (n : Nat) (x0 x : Nd),SizeOf.sizeOf x.kids ≤ n → ∃ y k,L_Bare1_1_2 x0.k x0.t (foD x0.kids) (· = [ndv y]) k [.ptr 0 0,.ptr 1 0,dI x.k,dS x.t,dL (foD x.kids),dI 0,dS ⟨#[]⟩,.sl .nil []] ∧ y.isBr = false ∧ y.bare = x.bare ∧ y.weight ≤ x.weight ∧ SizeOf.sizeOf y.kids ≤ SizeOf.sizeOf x.kids:=by
    intro n
    induction n with
    | zero =>
      intro x0 x h
      exfalso
      have : 0 < SizeOf.sizeOf x.kids:=by cases x.kids <;> simp <;> omega
      omega
    | succ n ih =>
      intro x0 x h
      cases hb : x.isBr
      · refine ⟨x,0 + 1,?_,hb,rfl,Nat.le_refl _,Nat.le_refl _⟩
        rw [l_Bare1_1_2]
        exact ⟨_,isBr_ok x,bcond_f hb rfl⟩
      · have hb':=hb
        unfold Nd.isBr at hb'
        rw [Bool.and_eq_true] at hb'
        obtain ⟨y,hy⟩:=fo_one (eq_of_beq hb'.2)
        have hsz:=get_size hy
        obtain ⟨z,k,hk,h1,h2,h3,h4⟩:=ih x0 y (by omega)
        have hw:=Fo.weight_get hy
        refine ⟨z,k + 1,?_,h1,h2.trans (Nd.bare_br hb hy).symm,?_,by omega⟩
        · rw [l_Bare1_1_2]
          exact ⟨_,isBr_ok x,bcond_t hb ⟨by omega,_,_,_,foD_get hy,hk⟩⟩
        · unfold Nd.weight at h3 hw ⊢
          omega
  obtain ⟨y,k,hk,h1,h2,h3,h4⟩:=key _ x x (Nat.le_refl _)
  exact ⟨y,ok_eq (o_Bare1 ⟨k,hk⟩),h1,h2,h3,h4⟩
theorem clone_ok (t : ByteArray) (ht : t.size ≤ 1000000) : Ok Try.prog 39 [dS t] [dS t] :=
  ok_of_calls (fun _ _=>by kernel_rfl) rfl (fun Γ w vs h1 h2=>args_one h1 h2) (fun w=>clone_calls t (by omega) w)
theorem grow_ok (m : Nat) (hm : m ≤ 1000000) : Ok Try.prog 40 [.sl .nil [],dI (m : Int)] [.sl (.own 0 25 3) []]:=by
  refine ⟨fun _ _=>by kernel_rfl,fun imm w vs himm hsz hargs=>?_⟩
  have hsz : vs.size = 2:=hsz
  have h0:=hargs 0 vs[0] (.sl .nil []) (Array.getElem?_eq_getElem (by omega)) rfl
  have h1:=repV_v (hargs 1 vs[1] (dI (m : Int)) (Array.getElem?_eq_getElem (by omega)) rfl)
  have hv : vs = #[.slice none 0 0,.int .i64 (m : Int)]:=by
    have e0 : vs[0] = .slice none 0 0:=by
      generalize vs[0] = y at h0 ⊢
      cases h0 with
      | c h =>
        generalize he : ([] : List (List D)) = es at h
        cases h with
        | sl a cap k es g o sz xs ha hc hr hl hm hk =>
          subst he
          obtain ⟨_,rfl,rfl⟩:=hk
          rfl
    apply Array.ext (by simpa using hsz)
    intro i h2 h3
    have : i = 0 ∨ i = 1:=by simp at h3;omega
    rcases this with rfl | rfl
    · simpa using e0
    · simpa using h1
  rw [hv]
  refine (growN_calls m (by omega) w).mono ?_
  rintro e w' ⟨v,rfl,ho,hb⟩
  refine ⟨v,⟨w.heap.size,imm,fun _=>none,fun t=>if t = 0 then some ⟨v,25,3,0,[]⟩ else none⟩,rfl,hb,fun _ _ h=>h,fun _ _ _ h=>h,fun g i h=>Nat.lt_of_lt_of_le (himm g i h) hb.size,?_,?_,?_⟩
  · refine .v (.c ?_)
    have hk : ∀ (a : Option Addr) (cap : Nat),v = .slice a 0 cap → TkOk ⟨w.heap.size,imm,fun _=>none,fun t=>if t = 0 then some ⟨v,25,3,0,[]⟩ else none⟩ a cap 0 3 (.own 0 25 3):=fun a cap e=>⟨rfl,_,rfl,rfl,rfl,Nat.le_refl _,fun _=>e.symm⟩
    rcases ho.2 with ⟨rfl,_⟩ | ⟨g,cap,cur,rfl,h2,h3,h4⟩
    · exact .sl none 0 _ [] 0 0 3 (fun _ _=>undef) (fun h=>absurd rfl h) (fun i e j d h=>by cases h) (fun i e j d h=>by cases h) (fun e h=>by cases h) ⟨Nat.zero_le _,Nat.le_refl _⟩ (hk _ _ rfl)
    · exact .sl (some ⟨g,0,none⟩) cap _ [] g 0 3 (fun _ _=>undef) (fun h=>rfl) (fun i e j d h=>by cases h) (fun i e j d h=>by cases h) (fun e h=>by cases h) ⟨Nat.zero_le _,Nat.zero_le _⟩ (hk _ _ rfl)
  · intro T hT
    cases hT
    refine ⟨Nat.zero_lt_succ 2,ho,fun g hg i hi=>by simp at hi,fun g i hg hi=>?_⟩
    have:=(ho.lt g hg).1
    have:=himm g i hi
    omega
  · intro k e sz es hmem
    rcases List.mem_cons.1 hmem with h | h
    · cases h
      exact ⟨rfl,_,rfl,rfl⟩
    · cases h
theorem foD_take {f : Fo} {i : Nat} {x : Nd} (h : f.get? i = some x) : foD (f.take (i + 1)) = foD (f.take i) ++ [[dI x.k,dS x.t,dL (foD x.kids)]]:=by
  induction f generalizing i with
  | nil=>cases h
  | cons k t kids r _ ih =>
    cases i with
    | zero=>cases h;cases r <;> rfl
    | succ i =>
      have:=ih (i:=i) h
      show [dI k,dS t,dL (foD kids)] :: foD (r.take (i + 1)) = _
      rw [this];rfl
theorem turned_ok (x : Nd) (hw : x.weight ≤ 1000000) : Ok Try.prog 25 [ndv x,.v (.func (.func 26) #[] #[])] [ndv x.bare]:=by
  generalize hn : SizeOf.sizeOf x.kids = n
  induction n using Nat.strongRecOn generalizing x with
  | ind n ih =>
    subst hn
    obtain ⟨y,hy,hb,hbb,hwy,hsy⟩:=strip_ok x
    have hyw : y.weight ≤ 1000000:=by omega
    have hwy':=hyw
    unfold Nd.weight at hyw
    have hcl:=clone_ok y.t (by omega)
    have hfl : y.kids.len ≤ 1000000:=by have:=Fo.len_le y.kids;have:=Fo.count_le y.kids;omega
    have hg:=grow_ok (foD y.kids).length (by rw [foD_len'];exact hfl)
    have key : ∀ (d j : Nat),y.kids.len - j = d → j ≤ y.kids.len → ∃ k,L_turned_4_22 x.k x.t (foD x.kids) (· = [ndv x.bare]) k [.v (.func (.func 26) #[] #[]),.ptr 1 0,.ptr 16 0,dL (foD y.kids),dI (Int.ofNat (foD y.kids).length),dI (j : Int),dI 0,dS ⟨#[]⟩,.sl .nil [],dI y.k,dS y.t,dL (foD (y.kids.bare.take j))]:=by
      intro d
      induction d with
      | zero =>
        intro j hd hj
        refine ⟨0 + 1,?_⟩
        rw [l_turned_4_22]
        refine bcond_f (decide_eq_false (by rw [foD_len'];simp only [Int.ofNat_eq_natCast];omega)) ?_
        rw [Fo.take_all (by rw [Fo.bare_len];omega),← hbb,Nd.bare_no hb]
      | succ d ihd =>
        intro j hd hj
        have hlt : j < y.kids.len:=by omega
        obtain ⟨z,hz⟩:=Fo.get_of_lt hlt
        have hzs:=get_size hz
        have hzw:=Fo.weight_get hz
        have hc:=ih (SizeOf.sizeOf z.kids) (by omega) z (by omega) rfl
        obtain ⟨k,hk⟩:=ihd (j + 1) (by omega) hlt
        rw [foD_take (Fo.bare_get hz)] at hk
        refine ⟨k + 1,?_⟩
        rw [l_turned_4_22]
        have hl : (foD (y.kids.bare.take j)).length = j:=by rw [foD_len',Fo.take_len (by rw [Fo.bare_len];omega)]
        refine bcond_t (decide_eq_true (by rw [foD_len'];simp only [Int.ofNat_eq_natCast];omega)) ⟨by omega,_,_,_,by rw [Int.toNat_natCast];exact foD_get hz,_,_,_,hc,⟨rfl,by simp,by rw [hl];omega⟩,by simp,?_⟩
        rw [show ((j : Int) + (1 : Int)) = ((j + 1 : Nat) : Int) by omega,Lib.wrap_i64_small _ (by omega)]
        exact hk
    obtain ⟨k,hk⟩:=key y.kids.len 0 (by omega) (Nat.zero_le _)
    have e0 : foD (y.kids.bare.take 0) = []:=by cases y.kids.bare <;> rfl
    rw [e0] at hk
    exact ok_eq (o_turned ⟨_,_,_,hy,_,hcl,_,hg,k,rfl,hk⟩)
theorem Bare_ok (x : Nd) (hw : x.weight ≤ 1000000) : Ok Try.prog 16 [ndv x] [ndv x.bare]:=ok_eq (o_Bare ⟨_,_,_,turned_ok x hw,rfl⟩)
theorem nd_of {Γ : Gh} {w : World} {v : Value} {x : Nd} (h : RepV Γ w v (ndv x)) : NdAt (Lt w.heap.size) w x v:=by
  generalize hd : ndv x = d at h
  cases h with
  | c h=>cases hd;cases h
  | agg zs l hz hq =>
    cases hd
    have hz : zs.size = 3:=hz
    have a0:=repC_eq (hq 0 zs[0] (dI x.k) (Array.getElem?_eq_getElem (by omega)) rfl)
    have a1:=repC_eq (hq 1 zs[1] (dS x.t) (Array.getElem?_eq_getElem (by omega)) rfl)
    have a2:=hq 2 zs[2] (dL (foD x.kids)) (Array.getElem?_eq_getElem (by omega)) rfl
    refine ⟨zs[2],?_,kids_of _ x.kids _ (Nat.le_refl _) a2⟩
    congr 1
    apply Array.ext (by simpa using hz)
    intro i h1 h2
    have : i = 0 ∨ i = 1 ∨ i = 2:=by omega
    rcases this with rfl | rfl | rfl
    · simpa using a0
    · simpa using a1
    · simp
theorem ok_two {P : Program} {f : FuncId} {x y : Nd} {b : Bool} (hen : ∀ (args : Array Value) (w : World),(callFunc f args).run P w = .ok (.enter f args) w)
    (h : ∀ (w : World) (u v : Value),NdAt (Lt w.heap.size) w x u → NdAt (Lt w.heap.size) w y v → Calls P f #[u,v] w fun e w'=>e = .returned (.bool b) ∧ Below w.heap.size w w') : Ok P f [ndv x,ndv y] [dB b]:=by
  refine ⟨hen,fun imm w vs himm hsz hargs=>?_⟩
  have hsz : vs.size = 2:=hsz
  have h0:=nd_of (hargs 0 vs[0] _ (Array.getElem?_eq_getElem (by omega)) rfl)
  have h1:=nd_of (hargs 1 vs[1] _ (Array.getElem?_eq_getElem (by omega)) rfl)
  have hv : vs = #[vs[0],vs[1]]:=by
    apply Array.ext (by simpa using hsz)
    intro i h2 h3
    have : i = 0 ∨ i = 1:=by simp at h3;omega
    rcases this with rfl | rfl <;> simp
  rw [hv]
  refine (h w _ _ h0 h1).mono ?_
  rintro e w' ⟨rfl,hb⟩
  exact ⟨_,⟨w.heap.size,imm,fun _=>none,fun _=>none⟩,rfl,⟨hb,fun _ _ h=>h,fun _ _ _ h=>h,fun g i h=>Nat.lt_of_lt_of_le (himm g i h) hb.size,.v (.c (.v _ rfl)),fun T e=>(by cases e),fun k e sz es hm=>by cases hm;rename_i hm;cases hm⟩⟩
theorem same_okP (x y : Nd) : Ok Try.prog 27 [ndv x,ndv y] [dB (x.same y)]:=ok_two (fun _ _=>by kernel_rfl) fun w u v hu hv=>same_ok x y w u v hu hv
theorem rsame_okP (x y : Nd) : Ok Try.prog 15 [ndv x,ndv y] [dB (x.same y)]:=ok_two (fun _ _=>by kernel_rfl) fun w u v hu hv=>rsame_ok x y w u v hu hv
theorem Same_ok (x y : Nd) (hx : x.weight ≤ 1000000) (hy : y.weight ≤ 1000000) : Ok Try.prog 17 [ndv x,ndv y] [dB (x.bare.same y.bare)]:=ok_eq (o_Same ⟨_,_,_,Bare_ok x hx,_,_,_,Bare_ok y hy,_,same_okP _ _,rfl⟩)
end Go.Proofs.Ythadnhpkeljdoaa.pv
namespace Go.Proofs.Ythadnhpkeljdoaa.pv
open Go.RowKit nd pa pr
open lx (asTk sizeT tokensF tokCells TksAt)
open it (runsU aheadU notesU itemCells NotesAt)
theorem ext_ok : ExtO where
  plain s hs:=ok_of_calls (fun _ _=>by kernel_rfl) rfl (fun Γ w vs h1 h2=>args_one h1 h2) (fun w=>sg.rplain_calls s (by omega) w)
  key s:=ok_of_calls (fun _ _=>by kernel_rfl) rfl (fun Γ w vs h1 h2=>args_one h1 h2) (fun w=>sg.rkey_calls s w)
  level s:=ok_of_calls (fun _ _=>by kernel_rfl) rfl (fun Γ w vs h1 h2=>args_one h1 h2) (fun w=>rlevel_calls s w)
  side s:=ok_of_calls (fun _ _=>by kernel_rfl) rfl (fun Γ w vs h1 h2=>args_one h1 h2) (fun w=>rside_calls s w)
  right s:=ok_of_calls (fun _ _=>by kernel_rfl) rfl (fun Γ w vs h1 h2=>args_one h1 h2) (fun w=>rright_calls s w)
  of t:=by
    refine ok_of_calls (vs0:=#[.agg #[.int .i64 t.1,.string t.2]]) (fun _ _=>by kernel_rfl) rfl (fun Γ w vs h1 h2=>?_) (fun w=>rof_calls t.1 t.2 w)
    have h1 : vs.size = 1:=h1
    have h0:=h2 0 vs[0] _ (Array.getElem?_eq_getElem (by omega)) rfl
    generalize hd : (D.agg [dI t.1,dS t.2]) = d at h0
    generalize hy : vs[0] = y at h0
    cases h0 with
    | c h=>cases hd;cases h
    | agg zs l hz hq =>
      cases hd
      have hz : zs.size = 2:=hz
      have a0:=repC_eq (hq 0 zs[0] (dI t.1) (Array.getElem?_eq_getElem (by omega)) rfl)
      have a1:=repC_eq (hq 1 zs[1] (dS t.2) (Array.getElem?_eq_getElem (by omega)) rfl)
      have ez : zs = #[.int .i64 t.1,.string t.2]:=by
        apply Array.ext (by simpa using hz)
        intro i h3 h4
        have : i = 0 ∨ i = 1:=by omega
        rcases this with rfl | rfl
        · simpa using a0
        · simpa using a1
      apply Array.ext (by simpa using h1)
      intro i h3 h4
      have : i = 0:=by simp at h4;omega
      subst this
      rw [hy,ez]
      rfl
theorem own_rep {Γ : Gh} {w : World} {base e sz n : Nat} {v : Value} {xs : List Value} {es : List (List D)} (ho : w.ownsRow base e sz v n xs) (hn : es.length = n) (hm : n ≤ maxLen) (hl : ∀ e ∈ es,e.length = sz ∧ e.all noOwn = true)
    (hi : ∀ g i,base ≤ g → g < w.heap.size → Γ.imm g i)
    (h : ∀ (i : Nat) (e : List D) (j : Nat) (d : D),es[i]? = some e → e[j]? = some d → ∃ u,xs[i * sz + j]? = some u ∧ RepC Γ w u d) : RepC Γ w v (dL es):=by
  subst hn
  have ho':=ho
  rcases ho.2 with ⟨rfl,h0⟩ | ⟨g,cap,cur,rfl,h2,h3,h4⟩
  · have hes : es = []:=List.eq_nil_of_length_eq_zero h0
    subst hes
    exact .sl none 0 .no [] 0 0 sz (fun _ _=>.bool true) (fun h=>absurd rfl h) (fun i e j d h=>by cases h) (fun i e j d h=>by cases h) (fun e h=>by cases h) ⟨Nat.zero_le _,Nat.le_refl _⟩ trivial
  · refine .sl (some ⟨g,0,none⟩) cap .no es g 0 sz (fun i j=>xs.getD (i * sz + j) (.bool true)) (fun _=>rfl) (fun i e j d he hd=>?_) (fun i e j d he hd=>?_) hl ⟨hm,h4.1⟩ trivial
    · obtain ⟨u,hu,hr⟩:=h i e j d he hd
      obtain ⟨g',hg',hb,hlt,hc⟩:=it.own_at ho' hu
      cases hg'
      refine ⟨?_,hi g _ hb hlt⟩
      rw [Nat.zero_add,hc,List.getD,hu];rfl
    · obtain ⟨u,hu,hr⟩:=h i e j d he hd
      show RepC Γ w (xs.getD (i * sz + j) (.bool true)) d
      rw [List.getD,hu]
      exact hr
def Gafter (I : Nat → Nat → Prop) (w w' : World) : Gh:=⟨w.heap.size,fun g i=>(g < w.heap.size → I g i) ∧ g < w'.heap.size,fun _=>none,fun _=>none⟩
theorem ret_after {I : Nat → Nat → Prop} {w w' : World} {vs : Array Value} {l : List D} (hI : ∀ g i,I g i → g < w.heap.size) (hb : Below w.heap.size w w') (hl : ∀ d,l ≠ [d]) (hn : l.all noOwn = true) (hs : vs.size = l.length)
    (hr : ∀ (i : Nat) (x : Value) (d : D),vs[i]? = some x → l[i]? = some d → RepV (Gafter I w w') w' x d) : RetOk I w (Gafter I w w') w' (.tuple vs) l:=by
  refine ⟨hb,fun g i h=>⟨fun _=>h,Nat.lt_of_lt_of_le (hI g i h) hb.size⟩,fun g i h e=>e.1 h,fun g i h=>h.2,?_,(fun T e=>by cases e),fun k e sz es hm=>?_⟩
  · have e : mkRes l = .tup l:=by
      match l,hl with
      | [],_=>rfl
      | [d],hl=>exact absurd rfl (hl d)
      | _ :: _ :: _,_=>rfl
    rw [e]
    exact .tup vs l hs hr
  · have:=List.all_eq_true.1 hn _ hm
    cases this
def tokD (l : List Lx.Tok) : List (List D):=l.map fun t=>[dI t.1,dS ⟨t.2.toArray⟩]
theorem tokCells_get : ∀ (l : List Lx.Tok) (i : Nat) (t : Lx.Tok),l[i]? = some t → (tokCells l)[i * 2]? = some (.int .i64 t.1) ∧ (tokCells l)[i * 2 + 1]? = some (.string ⟨t.2.toArray⟩)
  | [],_,_,h=>by cases h
  | t :: r,0,_,h=>by cases h;exact ⟨rfl,rfl⟩
  | t :: r,i + 1,u,h=>by
    have:=tokCells_get r i u h
    rw [show (i + 1) * 2 = i * 2 + 2 by omega]
    exact this
theorem ok_tokens (s : ByteArray) {l : List Lx.Tok} {er at' : Int} (h : tokensF s.data.toList (utf.checkF s) = (l,er,at')) (hm : l.length ≤ maxLen) : Ok Try.prog 18 [dS s] [dL (tokD l),dI er,dI at']:=by
  refine ⟨fun _ _=>by kernel_rfl,fun imm w vs himm hsz hargs=>?_⟩
  rw [args_one hsz hargs]
  refine (lx.rtokens_any s w l er at' h).mono ?_
  rintro e w' ⟨v,rfl,ho,hb⟩
  refine ⟨_,Gafter imm w w',rfl,ret_after himm hb (fun d e=>by cases e) rfl rfl fun i x d hx hd=>?_⟩
  match i,hx,hd with
  | 0,hx,hd =>
    cases hx;cases hd
    refine .c (own_rep ho (by simp [tokD]) hm (fun e he=>?_) (fun g i h1 h2=>⟨fun h=>absurd h1 (by omega),h2⟩) fun i e j d he hd=>?_)
    · obtain ⟨t,_,rfl⟩:=List.mem_map.1 he
      exact ⟨rfl,rfl⟩
    · unfold tokD at he
      rw [List.getElem?_map] at he
      obtain ⟨t,ht,rfl⟩:=Option.map_eq_some_iff.1 he
      obtain ⟨c0,c1⟩:=tokCells_get l i t ht
      match j,hd with
      | 0,hd=>cases hd;exact ⟨_,c0,.v _ rfl⟩
      | 1,hd=>cases hd;exact ⟨_,c1,.v _ rfl⟩
      | j + 2,hd=>cases hd
  | 1,hx,hd=>cases hx;cases hd;exact .c (.v _ rfl)
  | 2,hx,hd=>cases hx;cases hd;exact .c (.v _ rfl)
  | i + 3,hx,hd=>cases hd
theorem toks_of {Γ : Gh} {w : World} {v : Value} {l : List Lx.Tok} (h : RepC Γ w v (dL (tokD l))) : TksAt w.heap.size w v (l.map asTk):=by
  generalize he : tokD l = es at h
  cases h with
  | sl a cap k es g o sz xs ha hc hr hl hm hk =>
    subst he
    have hlen : (tokD l).length = (l.map asTk).length:=by simp [tokD]
    refine ⟨a,cap,by rw [hlen],by rw [← hlen];exact hm.1,fun j t ht=>?_⟩
    rw [List.getElem?_map] at ht
    obtain ⟨u,hu,rfl⟩:=Option.map_eq_some_iff.1 ht
    have hg : (tokD l)[j]? = some [dI u.1,dS ⟨u.2.toArray⟩]:=by unfold tokD;rw [List.getElem?_map,hu];rfl
    have hsz : sz = 2:=(hl _ (List.mem_of_getElem? hg)).1.symm
    subst hsz
    have c0:=hc j _ 0 (dI u.1) hg rfl
    have c1:=hc j _ 1 (dS ⟨u.2.toArray⟩) hg rfl
    have r0:=repC_eq (hr j _ 0 (dI u.1) hg rfl)
    have r1:=repC_eq (hr j _ 1 (dS ⟨u.2.toArray⟩) hg rfl)
    rw [r0] at c0
    rw [r1] at c1
    exact ⟨g,o,ha (by intro e;rw [e] at hg;cases hg),World.block_lt_of_cell? w _ c0.1,c0.1,c1.1⟩
def strD (l : List ByteArray) : List (List D):=l.map fun s=>[dS s]
def runD (r : it.Run) : List D:=[dI (r.l.headD (0,⟨#[]⟩)).1,dS (r.l.headD (0,⟨#[]⟩)).2,dI (r.at' : Int),dL (strD (notesU r.l))]
theorem str_rep {Γ : Gh} {w : World} {base : Nat} {v : Value} {l : List ByteArray} (ho : w.ownsRow base 9 1 v l.length (it.strs l)) (hm : l.length ≤ maxLen) (hi : ∀ g i,base ≤ g → g < w.heap.size → Γ.imm g i) : RepC Γ w v (dL (strD l)):=by
  refine own_rep ho (by simp [strD]) hm (fun e he=>?_) hi fun i e j d he hd=>?_
  · obtain ⟨t,_,rfl⟩:=List.mem_map.1 he
    exact ⟨rfl,rfl⟩
  · unfold strD at he
    rw [List.getElem?_map] at he
    obtain ⟨t,ht,rfl⟩:=Option.map_eq_some_iff.1 he
    match j,hd with
    | 0,hd =>
      cases hd
      refine ⟨.string t,?_,.v _ rfl⟩
      unfold it.strs
      rw [Nat.mul_one,Nat.add_zero,List.getElem?_map,ht];rfl
    | j + 1,hd=>cases hd
theorem ok_items (l : List Lx.Tok) (hs : sizeT (l.map asTk) ≤ 65536) (hl : (l.map asTk).length ≤ 65536) : Ok Try.prog 19 [dL (tokD l)] [dL (strD (notesU ((l.map asTk).take (aheadU (l.map asTk))))),dL ((runsU (l.map asTk)).map runD)]:=by
  refine ⟨fun _ _=>by kernel_rfl,fun imm w vs himm hsz hargs=>?_⟩
  have hsz : vs.size = 1:=hsz
  have h0:=hargs 0 vs[0] _ (Array.getElem?_eq_getElem (by omega)) rfl
  have hv : vs = #[vs[0]]:=by
    apply Array.ext (by simpa using hsz)
    intro i h1 h2
    have : i = 0:=by simp at h2;omega
    subst this
    rfl
  rw [hv]
  have ht : TksAt w.heap.size w vs[0] (l.map asTk):=by
    generalize vs[0] = y at h0 ⊢
    cases h0 with
    | c h=>exact toks_of h
  refine (it.ritems_big vs[0] (l.map asTk) w ht hs hl).mono ?_
  rintro e w' ⟨lv,ov,nvs,rfl,hlv,hov,hN,hb⟩
  refine ⟨_,Gafter imm w w',rfl,ret_after himm hb (fun d e=>by cases e) rfl rfl fun i x d hx hd=>?_⟩
  have hi : ∀ g i,w.heap.size ≤ g → g < w'.heap.size → (Gafter imm w w').imm g i:=fun g i h1 h2=>⟨fun h=>absurd h1 (by omega),h2⟩
  match i,hx,hd with
  | 0,hx,hd =>
    cases hx;cases hd
    refine .c (str_rep hlv ?_ hi)
    have h1:=it.notesU_len ((l.map asTk).take (aheadU (l.map asTk)))
    rw [List.length_take] at h1
    unfold maxLen
    omega
  | 1,hx,hd =>
    cases hx;cases hd
    have hrl : (runsU (l.map asTk)).length ≤ 65536:=by
      have:=items_len l 0
      rw [items_of,List.length_map] at this
      rw [List.length_map] at hl
      omega
    refine .c (own_rep hov (by simp) (by unfold maxLen;omega) (fun e he=>?_) hi fun i e j d he hd=>?_)
    · obtain ⟨t,_,rfl⟩:=List.mem_map.1 he
      exact ⟨rfl,rfl⟩
    · rw [List.getElem?_map] at he
      obtain ⟨r,hr,rfl⟩:=Option.map_eq_some_iff.1 he
      obtain ⟨ao,cap,rfl,_⟩:=it.own_len hov
      obtain ⟨g,nv,_,_,hnv,_,_,_,_,hrow⟩:=it.item_get (n:=0) hov hN i r hr
      obtain ⟨c0,c1,c2,c3⟩:=it.itemCells_at _ nvs i r nv hr hnv
      match j,hd with
      | 0,hd=>cases hd;exact ⟨_,c0,.v _ rfl⟩
      | 1,hd=>cases hd;exact ⟨_,c1,.v _ rfl⟩
      | 2,hd=>cases hd;exact ⟨_,c2,.v _ rfl⟩
      | 3,hd =>
        cases hd
        refine ⟨_,c3,str_rep hrow ?_ hi⟩
        have h1:=it.notesU_len r.l
        have h2:=it.run_len (l.map asTk) r (List.mem_of_getElem? hr)
        unfold maxLen
        omega
      | j + 4,hd=>cases hd
  | i + 2,hx,hd=>cases hd
theorem at0 {l : List pa.Tk} (h : (parse l).2.1 = 0) : (parse l).2.2 = 0:=by
  revert h
  unfold parse
  split
  · intro h;cases h
  · split
    · intro _;rfl
    · intro h;cases h
    · intro h;cases h
theorem src_err {s : List UInt8} {chk er at' : Int} {l : List Lx.Tok} (h : tokensF s chk = (l,er,at')) (he : er ≠ 0) : ∃ k : Nat,at' = (k : Int) ∧ sourceP s chk = (none0,er,k):=by
  unfold tokensF at h
  unfold sourceP
  by_cases h1 : 65536 < s.length
  · rw [if_pos h1] at h ⊢;cases h;exact ⟨0,rfl,rfl⟩
  · rw [if_neg h1] at h ⊢
    by_cases h2 : 0 ≤ chk
    · rw [if_pos h2] at h ⊢;cases h;exact ⟨chk.toNat,by omega,rfl⟩
    · rw [if_neg h2] at h ⊢
      by_cases h3 : (Lx.lexA Lx.start s).2 = 0
      · rw [if_pos h3] at h;cases h;exact absurd rfl he
      · rw [if_neg h3] at h ⊢;cases h;exact ⟨_,rfl,rfl⟩
theorem src_ok {s : List UInt8} {chk at' : Int} {l : List Lx.Tok} (h : tokensF s chk = (l,0,at')) : s.length ≤ 65536 ∧ l = (Lx.lexA Lx.start s).1 ∧ sourceP s chk = itemsR (itemsP 0 l) s.length:=by
  unfold tokensF at h
  unfold sourceP
  by_cases h1 : 65536 < s.length
  · rw [if_pos h1] at h;cases h
  · rw [if_neg h1] at h ⊢
    by_cases h2 : 0 ≤ chk
    · rw [if_pos h2] at h;cases h
    · rw [if_neg h2] at h ⊢
      by_cases h3 : (Lx.lexA Lx.start s).2 = 0
      · rw [if_pos h3] at h ⊢;cases h;exact ⟨by omega,rfl,rfl⟩
      · rw [if_neg h3] at h;exact absurd (Prod.mk.inj (Prod.mk.inj h).2).1 h3
theorem lexA_len (x : Lx.Lex) (l : List UInt8) : (Lx.lexA x l).1.length ≤ l.length:=by
  generalize hn : l.length = n
  induction n using Nat.strongRecOn generalizing l x with
  | ind n ih =>
    subst hn
    by_cases h0 : l = []
    · subst h0;rw [Lx.lexA_nil];exact Nat.le_refl _
    · cases hx : Lx.next x l with
      | error e=>rw [Lx.lexA_err hx h0];exact Nat.zero_le _
      | ok p =>
        obtain ⟨k,n,y⟩:=p
        have hl:=Lx.next_le hx
        obtain ⟨f,_,_,hn0⟩:=find_some (Lx.next_find hx).1
        have:=ih (l.drop n).length (by rw [List.length_drop];omega) y (l.drop n) rfl
        rw [Lx.lexA_ok hx h0,List.length_cons]
        rw [List.length_drop] at this
        omega
theorem sum_size (l : List Lx.Tok) : sizeT (l.map asTk) = Lx.size l:=by
  induction l with
  | nil=>rfl
  | cons t r ih =>
    have e : sizeT ((t :: r).map asTk) = (asTk t).2.size + sizeT (r.map asTk):=by
      show (((t :: r).map asTk).map (·.2.size)).sum = _
      rw [List.map_cons,List.map_cons,List.sum_cons];rfl
    have e2 : Lx.size (t :: r) = t.2.length + Lx.size r:=by
      show ((t :: r).map (·.2.length)).sum = _
      rw [List.map_cons,List.sum_cons];rfl
    rw [e,e2,ih]
    have : (asTk t).2.size = t.2.length:=by show t.2.toArray.size = _;rw [List.size_toArray]
    omega
theorem its_of {l : List Lx.Tok} {s : List UInt8} (hs : s.length ≤ 65536) (hl : l = (Lx.lexA Lx.start s).1) : Its ((runsU (l.map asTk)).map runD) ((itemsP 0 l).map (·.1)):=by
  have e:=items_of l
  have hfit:=items_fit s hs
  rw [← hl] at hfit
  have hlen:=lexA_len Lx.start s
  rw [← hl] at hlen
  have hil:=items_len l 0
  refine ⟨by rw [e];simp,fun i t ht=>?_,by rw [List.length_map];omega,fun t ht=>(hfit t ht).size,fun t ht hk=>?_⟩
  · rw [e,List.map_map,List.getElem?_map] at ht
    obtain ⟨r,hr,rfl⟩:=Option.map_eq_some_iff.1 ht
    exact ⟨_,_,by rw [List.getElem?_map,hr];rfl⟩
  · have hp : ∃ c,Lib.hasPrefix t.2.data.toList [c] = true:=by
      rcases hk with hk | hk
      · exact ⟨_,(hfit t ht).field hk⟩
      · exact ⟨_,(hfit t ht).var hk⟩
    obtain ⟨c,hc⟩:=hp
    rcases Nat.eq_zero_or_pos t.2.size with h0 | h0
    · exfalso
      have : t.2.data.toList = []:=List.eq_nil_of_length_eq_zero (by rw [Array.length_toList];exact h0)
      rw [this] at hc
      cases hc
    · exact h0
theorem Source_ok (s : ByteArray) : Ok Try.prog 9 [dS s] [ndD (sourceP s.data.toList (utf.checkF s)).1,dI (sourceP s.data.toList (utf.checkF s)).2.1,dI ((sourceP s.data.toList (utf.checkF s)).2.2 : Int)]:=by
  obtain ⟨⟨l,er,at'⟩,hT⟩ : ∃ p,tokensF s.data.toList (utf.checkF s) = p:=⟨_,rfl⟩
  have hss : s.data.toList.length = s.size:=by rw [Array.length_toList];rfl
  by_cases he : er = 0
  · subst he
    obtain ⟨hlen,hl,hsrc⟩:=src_ok hT
    have hll:=lexA_len Lx.start s.data.toList
    have hsz:=Lx.size_le Lx.start s.data.toList
    rw [← hl] at hll hsz
    have hI:=its_of hlen hl
    rw [hsrc]
    refine ok_eq (o_Source ⟨_,_,_,ok_tokens s hT (by unfold maxLen;omega),bcond_f rfl ⟨_,_,ok_items l (by rw [sum_size];omega) (by rw [List.length_map];omega),_,_,_,_,_,Program_ok ext_ok hI,?_⟩⟩)
    have hLn : ((runsU (l.map asTk)).map runD).length = (itemsP 0 l).length:=by rw [items_of];simp
    unfold itemsR
    cases hz : (parse ((itemsP 0 l).map (·.1))).2.1 == 0
    · have hz':=beq_eq_false_iff_ne.1 hz
      rw [if_neg hz']
      refine bcond_f rfl ?_
      by_cases hk : (parse ((itemsP 0 l).map (·.1))).2.2 < (itemsP 0 l).length
      · have hg : (itemsP 0 l)[(parse ((itemsP 0 l).map (·.1))).2.2]? = some (itemsP 0 l)[(parse ((itemsP 0 l).map (·.1))).2.2]:=List.getElem?_eq_getElem hk
        obtain ⟨r,hr,hre⟩ : ∃ r,(runsU (l.map asTk))[(parse ((itemsP 0 l).map (·.1))).2.2]? = some r ∧ itemOf r = (itemsP 0 l)[(parse ((itemsP 0 l).map (·.1))).2.2]:=by
          have hg':=hg
          rw [show (itemsP 0 l)[(parse ((itemsP 0 l).map (·.1))).2.2]? = ((runsU (l.map asTk)).map itemOf)[(parse ((itemsP 0 l).map (·.1))).2.2]? by rw [← items_of],List.getElem?_map] at hg'
          exact Option.map_eq_some_iff.1 hg'
        refine bcond_f (decide_eq_false (by rw [hLn];simp only [Int.ofNat_eq_natCast];omega)) ⟨by omega,_,_,_,_,by rw [Int.toNat_natCast,List.getElem?_map,hr];rfl,?_⟩
        rw [hg]
        show _ = [ndD none0,dI _,dI (((itemsP 0 l)[(parse ((itemsP 0 l).map (·.1))).2.2]).2 : Int)]
        rw [← hre]
        rfl
      · refine bcond_t (decide_eq_true (by rw [hLn];simp only [Int.ofNat_eq_natCast];omega)) ?_
        rw [List.getElem?_eq_none (by omega),hss]
        rfl
    · have hz':=eq_of_beq hz
      rw [if_pos hz']
      refine bcond_t rfl ?_
      rw [at0 hz',hz']
      rfl
  · obtain ⟨k,rfl,hsrc⟩:=src_err hT he
    rw [hsrc]
    refine ok_eq (o_Source ⟨_,_,_,ok_tokens s hT ?_,bcond_t (by rw [bne,beq_eq_false_iff_ne.2 he];rfl) rfl⟩)
    rw [lx.err_nil hT he]
    exact Nat.zero_le _
end Go.Proofs.Ythadnhpkeljdoaa.pv
namespace Go.Proofs.Ythadnhpkeljdoaa.pv
open Go.RowKit nd
abbrev intD (l : List Int) : List (List D):=l.map fun z=>[dI z]
theorem rep_ints {S : Nat → Prop} {Γ : Gh} {w : World} (himm : ∀ g i,S g → g < w.heap.size → Γ.imm g i) {v : Value} {l : List Int} (h : IntsAt S w v l) : RepC Γ w v (dL (intD l)):=by
 obtain ⟨ao,cap,rfl,hm,hlc,hr⟩:=h
 have hl : l.length = (intD l).length:=by simp
 rw [hl]
 by_cases hf : l = []
 ·subst hf
  exact .sl ao cap .no [] 0 0 1 (fun _ _=>undef) (fun h=>absurd rfl h) (fun i e j d h=>by cases h) (fun i e j d h=>by cases h) (fun e h=>by cases h) ⟨Nat.zero_le _,Nat.zero_le _⟩ trivial
 ·obtain ⟨g,o,rfl,hsg,hc⟩:=hr hf
  have hcell : ∀ (i : Nat) (e : List D) (j : Nat) (d : D),(intD l)[i]? = some e → e[j]? = some d → ∃ u,w.cell? ⟨g,o + (i * 1 + j),none⟩ = some u ∧ RepC Γ w u d:=by
   intro i e j d he hd
   rw [List.getElem?_map] at he
   obtain ⟨z,hz,rfl⟩:=Option.map_eq_some_iff.1 he
   match j,hd with
   | 0,hd=>cases hd;exact ⟨_,by rw [show o + (i * 1 + 0) = o + i by omega];exact hc i z hz,.v _ rfl⟩
   | j + 1,hd=>cases hd
  refine .sl _ cap .no _ g o 1 (fun i j=>(w.cell? ⟨g,o + (i * 1 + j),none⟩).getD undef) (fun _=>rfl) (fun i e j d he hd=>?_) (fun i e j d he hd=>?_) (fun e he=>?_) ⟨by rw [← hl];exact hm,by rw [← hl];exact hlc⟩ trivial
  ·obtain ⟨u,hu,_⟩:=hcell i e j d he hd
   exact ⟨by rw [hu];rfl,himm _ _ hsg (World.block_lt_of_cell? w _ hu)⟩
  ·obtain ⟨u,hu,hr⟩:=hcell i e j d he hd
   show RepC Γ w ((w.cell? ⟨g,o + (i * 1 + j),none⟩).getD undef) d
   rw [hu];exact hr
  ·obtain ⟨z,_,rfl⟩:=List.mem_map.1 he
   exact ⟨rfl,rfl⟩
end Go.Proofs.Ythadnhpkeljdoaa.pv
namespace Go.Proofs.Ythadnhpkeljdoaa.pv
open Go.RowKit nd pa
theorem walkB_len (x : Nd) : (x.walkB []).length ≤ x.count:=by
  have h:=List.length_filter_le (fun (t : nd.Told)=>t.2.isBr) (x.walk [])
  rw [Nd.walk_len] at h
  exact h
theorem Brackets_ok (x : Nd) (hct : x.count ≤ 1000000) : Ok Try.prog 6 [ndv x] [dL (List.replicate (x.walkB []).length [D.junk])]:=by
  refine ⟨fun _ _=>by kernel_rfl,fun imm w vs himm hsz hargs=>?_⟩
  have hsz : vs.size = 1:=hsz
  have h0:=nd_of (hargs 0 vs[0] _ (Array.getElem?_eq_getElem (by omega)) rfl)
  have hv : vs = #[vs[0]]:=by
    apply Array.ext (by simpa using hsz)
    intro i h1 h2
    have : i = 0:=by simp at h2;omega
    subst this
    rfl
  rw [hv]
  refine (brackets_calls x hct w vs[0] h0).mono ?_
  rintro e w' ⟨v,L,rfl,ho,hL,hb⟩
  have hlen:=walkB_len x
  refine ⟨v,Gafter imm w w',rfl,hb,fun g i h=>⟨fun _=>h,Nat.lt_of_lt_of_le (himm g i h) hb.size⟩,fun g i h e=>e.1 h,fun g i h=>h.2,.v (.c ?_),(fun T e=>by cases e),fun k e sz es hm=>?_⟩
  · refine own_rep ho (by simp) (by unfold maxLen;omega) (fun e he=>?_) (fun g i h1 h2=>⟨fun h=>absurd h1 (by omega),h2⟩) fun i e j d he hd=>?_
    · rw [List.eq_of_mem_replicate he]
      exact ⟨rfl,rfl⟩
    · have hi:=(List.getElem?_eq_some_iff.1 he).1
      rw [List.length_replicate] at hi
      have hee : e = [D.junk]:=List.eq_of_mem_replicate (List.mem_of_getElem? he)
      subst hee
      cases j with
      | succ j=>cases hd
      | zero =>
        cases hd
        obtain ⟨cv,h1,ao,cap,rfl,_⟩:=hL.2 i _ (by rw [List.getElem?_map,List.getElem?_eq_getElem hi];rfl)
        exact ⟨_,by rw [Nat.mul_one,Nat.add_zero];exact h1,.junk _ rfl⟩
  · rcases List.mem_cons.1 hm with h | h
    · cases h
    · cases h
def b1 : ByteArray:=⟨#[40,40,49,41,41]⟩
def b2 : ByteArray:=⟨#[49]⟩
abbrev n1 : Nd:=(sourceP b1.data.toList (utf.checkF b1)).1
abbrev n2 : Nd:=(sourceP b2.data.toList (utf.checkF b2)).1
theorem k_facts : n1.weight ≤ 1000000 ∧ n2.weight ≤ 1000000 ∧ n1.count ≤ 1000000 ∧ n1.bare.same n2 = true ∧ n1.bare.same n2.bare = true ∧ (n1.walkB []).length = 2:=by decide +kernel
theorem known_ok : Ok Try.prog 8 [] [dB true]:=by
  obtain ⟨h1,h2,h3,h4,h5,h6⟩:=k_facts
  refine ok_eq (o_known ⟨_,_,_,_,_,Source_ok b1,_,_,_,_,_,Source_ok b2,_,_,_,Bare_ok n1 h1,_,rsame_okP n1.bare n2,bcond_t h4 ⟨_,Same_ok n1 n2 h1 h2,bcond_t h5 ⟨_,Brackets_ok n1 h3,?_⟩⟩⟩)
  rw [h6]
  rfl
end Go.Proofs.Ythadnhpkeljdoaa.pv
namespace Go.Proofs.Ythadnhpkeljdoaa.pv
open Go.RowKit nd
theorem ints_of {Γ : Gh} {w : World} {v : Value} {l : List Int} (h : RepC Γ w v (dL (intD l))) : IntsAt (Lt w.heap.size) w v l:=by
  generalize he : intD l = es at h
  cases h with
  | sl a cap k es g o sz xs ha hc hr hl hm hk =>
    subst he
    have hlen : (intD l).length = l.length:=by simp
    rw [hlen] at hm ⊢
    refine ⟨a,cap,rfl,hm.1,hm.2,fun hne=>?_⟩
    have hes : intD l ≠ []:=fun e=>hne (by cases l;rfl;cases e)
    have hsz : sz = 1:=by
      cases l with
      | nil=>exact absurd rfl hne
      | cons z r=>exact (hl _ (List.mem_cons_self)).1.symm
    subst hsz
    have hall : ∀ (j : Nat) (z : Int),l[j]? = some z → w.cell? ⟨g,o + j,none⟩ = some (.int .i64 z):=fun j z hz=>by
      have hg : (intD l)[j]? = some [dI z]:=by rw [List.getElem?_map,hz];rfl
      have c0:=(hc j _ 0 (dI z) hg rfl).1
      rw [repC_eq (hr j _ 0 (dI z) hg rfl)] at c0
      rw [show o + j = o + (j * 1 + 0) by omega]
      exact c0
    refine ⟨g,o,ha hes,?_,hall⟩
    cases l with
    | nil=>exact absurd rfl hne
    | cons z r=>exact World.block_lt_of_cell? w _ (hall 0 z rfl)
abbrev byD (bs : List Int) : List (List D):=bs.map fun z=>[D.v (.int .u8 z)]
theorem bytes_of {Γ : Gh} {w : World} {v : Value} {bs : List Int} (hb : ∀ z ∈ bs,0 ≤ z ∧ z ≤ 255) (h : RepC Γ w v (dL (byD bs))) : law.BytesAt w v bs:=by
  generalize he : byD bs = es at h
  cases h with
  | sl a cap k es g o sz xs ha hc hr hl hm hk =>
    subst he
    have hlen : (byD bs).length = bs.length:=by simp
    rw [hlen] at hm ⊢
    by_cases hne : bs = []
    · subst hne
      exact .inr (.inl ⟨a,cap,rfl,rfl⟩)
    · have hes : byD bs ≠ []:=fun e=>hne (by cases bs;rfl;cases e)
      have hsz : sz = 1:=by
        cases bs with
        | nil=>exact absurd rfl hne
        | cons z r=>exact (hl _ (List.mem_cons_self)).1.symm
      subst hsz
      rw [ha hes]
      refine .inr (.inr ⟨g,o,cap,rfl,hm.1,fun j hj=>?_⟩)
      have hz : bs[j]? = some (bs.getD j 0):=by rw [List.getD,List.getElem?_eq_getElem hj];rfl
      have hg : (byD bs)[j]? = some [D.v (.int .u8 (bs.getD j 0))]:=by rw [List.getElem?_map,hz];rfl
      have c0:=(hc j _ 0 _ hg rfl).1
      rw [repC_eq (hr j _ 0 _ hg rfl)] at c0
      refine ⟨?_,hb _ (List.mem_of_getElem? hz)⟩
      rw [show o + j = o + (j * 1 + 0) by omega]
      exact c0
theorem repV_sl {Γ : Gh} {w : World} {v : Value} {k : Tk} {es : List (List D)} (h : RepV Γ w v (.sl k es)) : RepC Γ w v (.sl k es):=by
  cases h with
  | c h=>exact h
theorem vs_one {vs : Array Value} (h : vs.size = 1) : vs = #[vs[0]]:=by
  apply Array.ext (by simpa using h)
  intro i h1 h2
  have : i = 0:=by simp at h2;omega
  subst this
  rfl
theorem vs_two {vs : Array Value} (h : vs.size = 2) : vs = #[vs[0],vs[1]]:=by
  apply Array.ext (by simpa using h)
  intro i h1 h2
  have : i = 0 ∨ i = 1:=by simp at h2;omega
  rcases this with rfl | rfl <;> rfl
theorem ret_one {I : Nat → Nat → Prop} {w w' : World} {v : Value} {d : D} (hI : ∀ g i,I g i → g < w.heap.size) (hb : Below w.heap.size w w') (hn : noOwn d = true) (hm : mkRes [d] = d) (hr : RepV (Gafter I w w') w' v d) : RetOk I w (Gafter I w w') w' v [d]:=by
  refine ⟨hb,fun g i h=>⟨fun _=>h,Nat.lt_of_lt_of_le (hI g i h) hb.size⟩,fun g i h e=>e.1 h,fun g i h=>h.2,by rw [hm];exact .v hr,(fun T e=>by cases e),fun k e sz es hm=>?_⟩
  rcases List.mem_cons.1 hm with h | h
  · rw [← h] at hn;cases hn
  · cases h
abbrev rowD (ls : List (List Int)) : List (List D):=ls.map fun l=>[dL (intD l)]
theorem fresh_imm {I : Nat → Nat → Prop} {w w' : World} : ∀ g i,Frsh w.heap.size w'.heap.size g → g < w'.heap.size → (Gafter I w w').imm g i:=fun g i h1 h2=>⟨fun h=>absurd h1.1 (by omega),h2⟩
theorem ok_rows {f : FuncId} {x : Nd} {ls : List (List Int)} (hen : ∀ (args : Array Value) (w : World),(callFunc f args).run Try.prog w = .ok (.enter f args) w) (hm : ls.length ≤ 1000000)
    (h : ∀ (w : World) (v : Value),NdAt (Lt w.heap.size) w x v → Calls Try.prog f #[v] w fun e w'=>∃ v' L,e = .returned v' ∧ w'.ownsRow w.heap.size 31 1 v' ls.length L ∧ ListsAt (Frsh w.heap.size w'.heap.size) w' L ls ∧ Below w.heap.size w w') : Ok Try.prog f [ndv x] [dL (rowD ls)]:=by
  refine ⟨hen,fun imm w vs himm hsz hargs=>?_⟩
  have hsz : vs.size = 1:=hsz
  have h0:=nd_of (hargs 0 vs[0] _ (Array.getElem?_eq_getElem (by omega)) rfl)
  rw [vs_one hsz]
  refine (h w vs[0] h0).mono ?_
  rintro e w' ⟨v,L,rfl,ho,hL,hb⟩
  refine ⟨v,Gafter imm w w',rfl,ret_one himm hb rfl rfl (.c (own_rep ho (by simp) (by unfold maxLen;omega) (fun e he=>?_) (fun g i h1 h2=>⟨fun h=>absurd h1 (by omega),h2⟩) fun i e j d he hd=>?_))⟩
  · obtain ⟨q,_,rfl⟩:=List.mem_map.1 he
    exact ⟨rfl,rfl⟩
  · rw [List.getElem?_map] at he
    obtain ⟨q,hq,rfl⟩:=Option.map_eq_some_iff.1 he
    cases j with
    | succ j=>cases hd
    | zero =>
      cases hd
      obtain ⟨cv,h1,hi⟩:=hL.2 i q hq
      exact ⟨cv,by rw [Nat.mul_one,Nat.add_zero];exact h1,rep_ints fresh_imm hi⟩
abbrev brP (x : Nd) : List (List Int):=(x.walkB []).map fun y=>ints y.1
theorem walkB_le (x : Nd) : (x.walkB []).length ≤ x.count:=by
  have h:=List.length_filter_le (fun (t : nd.Told)=>t.2.isBr) (x.walk [])
  rw [Nd.walk_len] at h
  exact h
theorem Brackets_rows (x : Nd) (hct : x.count ≤ 1000000) : Ok Try.prog 6 [ndv x] [dL (rowD (brP x))]:=by
  refine ok_rows (fun _ _=>by kernel_rfl) (by have:=walkB_le x;simp;omega) fun w v hu=>?_
  have:=brackets_calls x hct w v hu
  rw [show (x.walkB []).length = (brP x).length by simp] at this
  exact this
theorem Paths_ok (x : Nd) (hct : x.count ≤ 1000000) : Ok Try.prog 5 [ndv x] [dL (rowD (x.paths.map ints))]:=by
  refine ok_rows (fun _ _=>by kernel_rfl) (by rw [List.length_map,Nd.paths_len];exact hct) fun w v hu=>?_
  have:=rpaths_ok x hct w v hu
  rw [show x.count = (x.paths.map ints).length by rw [List.length_map,Nd.paths_len]] at this
  exact this
end Go.Proofs.Ythadnhpkeljdoaa.pv
namespace Go.Proofs.Ythadnhpkeljdoaa.pv
open Go.RowKit nd Go.ChangeShapes Go.WideShapes Go.ChangeAt Go.ChangeMaps
abbrev GL (W : World) : Gh:=G0 W fun g _=>g < W.heap.size
theorem arg_choices {H : Type} {enc : TypeId × Value → H} {W : World} {base : Nat} {v : Value} {d : DataW H} {p : List MemPlace} (hok : Value.okWide Try.prog W .any base 22 v)
    (h : DataW.Trod enc Try.prog W 0 (fun _=>true) true 22 v d p) : ∃ bs : List Int,(∀ z ∈ bs,0 ≤ z ∧ z ≤ 255) ∧ RepV (GL W) W v (dL (byD bs)):=by
  obtain ⟨a0,len,cap,rfl⟩:=okWide_slice Try.underlying22 hok
  obtain ⟨fuel,hf⟩:=h
  rcases open_ints Try.underlying22 Try.underlying5 law.cells5 hf with ⟨hcs,hx⟩ | ⟨a,len',cap',zs,hcs,_,hl,hm,hz,hx,hcell,hwz⟩
  · simp [Value.cells] at hcs
    obtain ⟨rfl,rfl,rfl⟩:=hcs
    exact ⟨[],(fun z h=>by cases h),.c (.sl none 0 .no [] 0 0 1 (fun _ _=>undef) (fun h=>absurd rfl h) (fun i e j d h=>by cases h) (fun i e j d h=>by cases h) (fun e h=>by cases h) ⟨Nat.zero_le _,Nat.zero_le _⟩ trivial)⟩
  · simp [Value.cells] at hcs
    obtain ⟨rfl,rfl,rfl⟩:=hcs
    simp only [if_true] at hz
    have hlen : (zs.take len).length = len:=by rw [List.length_take];omega
    refine ⟨zs.take len,fun z hz'=>law.u8_wf (hwz z (List.mem_of_mem_take hz')),.c ?_⟩
    have hbl : len = (byD (zs.take len)).length:=by rw [List.length_map,hlen]
    have hget : ∀ (i : Nat) (e : List D) (j : Nat) (d : D),(byD (zs.take len))[i]? = some e → e[j]? = some d → j = 0 ∧ i < len ∧ d = .v (.int .u8 (zs.getD i 0)):=fun i e j d he hd=>by
      have hi:=(List.getElem?_eq_some_iff.1 he).1
      rw [← hbl] at hi
      rw [List.getElem?_map] at he
      obtain ⟨z,hz2,rfl⟩:=Option.map_eq_some_iff.1 he
      cases j with
      | succ j=>cases hd
      | zero =>
        cases hd
        rw [List.getElem?_take_of_lt hi] at hz2
        exact ⟨rfl,hi,by simp [List.getD,hz2]⟩
    by_cases h0 : len = 0
    · have e0 : byD (zs.take len) = []:=by rw [h0];rfl
      rw [e0,h0]
      exact .sl _ cap .no [] 0 0 1 (fun _ _=>undef) (fun h=>absurd rfl h) (fun i e j d h=>by cases h) (fun i e j d h=>by cases h) (fun e h=>by cases h) ⟨Nat.zero_le _,Nat.zero_le _⟩ trivial
    · obtain ⟨b,off,spot⟩:=a
      have hspot : spot = none:=by simpa [Addr.add] using World.cell?_spot (hcell 0 (by omega))
      subst hspot
      conv=>enter [3];rw [hbl]
      refine .sl _ cap .no _ b off 1 (fun i _=>.int .u8 (zs.getD i 0)) (fun _=>rfl) (fun i e j d he hd=>?_) (fun i e j d he hd=>?_) (fun e he=>?_) ⟨by rw [← hbl];omega,by rw [← hbl];exact hl⟩ trivial
      · obtain ⟨rfl,hi,_⟩:=hget i e j d he hd
        have:=hcell i (by omega)
        rw [add_plain] at this
        rw [show off + (i * 1 + 0) = off + i by omega]
        exact ⟨this,World.block_lt_of_cell? W _ this⟩
      · obtain ⟨rfl,hi,rfl⟩:=hget i e j d he hd
        exact .v _ rfl
      · obtain ⟨z,_,rfl⟩:=List.mem_map.1 he
        exact ⟨rfl,rfl⟩
theorem law_true {f : FuncId} {ds : List D} (h : Ok Try.prog f ds [dB true]) (w : World) (vs : Array Value) (hs : vs.size = ds.length) (ha : ∀ (i : Nat) (x : Value) (d : D),vs[i]? = some x → ds[i]? = some d → RepV (GL w) w x d) :
    Calls Try.prog f vs w fun e w'=>e = .returned (.bool true) ∧ Below w.heap.size w w':=by
  refine (h.2 (fun g _=>g < w.heap.size) w vs (fun _ _ h=>h) hs ha).mono ?_
  rintro e w' ⟨v,G,rfl,R⟩
  have h : Rep G w' v (.v (.bool true)):=R.rep
  exact ⟨by rw [(rep_v h).1],R.below⟩
end Go.Proofs.Ythadnhpkeljdoaa.pv
namespace Go.Proofs.Ythadnhpkeljdoaa.pv
open Go.RowKit nd pa
theorem wrap_small {z : Int} (h : -9223372036854775808 ≤ z ∧ z ≤ 9223372036854775807) : IntKind.i64.wrap z = z:=(IntWalk.i64_left _).trans (IntWalk.wrap64_in _ h)
theorem rowD_len (ls : List (List Int)) : (rowD ls).length = ls.length:=by simp
theorem byD_len (bs : List Int) : (byD bs).length = bs.length:=by simp
theorem Short_ok (bs : List Int) : Ok Try.prog 11 [dL (byD bs)] [dL (byD (bs.take 60))]:=by
  have e : (if (60 : Int) < (Int.ofNat (byD bs).length) then (60 : Int) else (Int.ofNat (byD bs).length)).toNat = min 60 bs.length:=by
    rw [byD_len]
    split
    · rename_i h;have h : (60 : Int) < (bs.length : Int):=h;show 60 = _;omega
    · rename_i h;have h : ¬ (60 : Int) < (bs.length : Int):=h;show ((bs.length : Int)).toNat = _;omega
  refine ok_eq (o_Short ⟨⟨⟨?_,?_⟩,fun c hc=>?_⟩,?_⟩)
  · split
    · decide
    · exact Int.natCast_nonneg _
  · split
    · rename_i h;exact Int.le_of_lt h
    · exact Int.le_refl _
  · obtain ⟨z,_,rfl⟩:=List.mem_map.1 hc;rfl
  · rw [e]
    have e2 : (byD bs).take (min 60 bs.length) = byD (bs.take 60):=by
      rw [← List.map_take]
      congr 1
      rcases Nat.le_total 60 bs.length with h | h
      · rw [Nat.min_eq_left h]
      · rw [Nat.min_eq_right h,List.take_of_length_le (Nat.le_refl _),List.take_of_length_le h]
    rw [e2]
noncomputable def srcT (bs : List Int) (h : bs.length ≤ 60) : ByteArray:=Classical.choose (gn.source_ex bs h)
theorem Source8_ok (bs : List Int) (h : bs.length ≤ 60) (hb : ∀ z ∈ bs,0 ≤ z ∧ z ≤ 255) : Ok Try.prog 10 [dL (byD bs)] [dS (srcT bs h)]:=by
  refine ⟨fun _ _=>by kernel_rfl,fun imm w vs himm hsz hargs=>?_⟩
  have hsz : vs.size = 1:=hsz
  have h0:=bytes_of hb (repV_sl (hargs 0 vs[0] _ (Array.getElem?_eq_getElem (by omega)) rfl))
  rw [vs_one hsz]
  refine ((Classical.choose_spec (gn.source_ex bs h)).2 w vs[0] h0).mono ?_
  rintro e w' ⟨rfl,hbl⟩
  exact ⟨_,Gafter imm w w',rfl,ret_one himm hbl rfl rfl (.c (.v _ rfl))⟩
theorem take_le (bs : List Int) : (bs.take 60).length ≤ 60:=by rw [List.length_take];omega
noncomputable def parsedT (bs : List Int) : Nd × Int × Nat:=sourceP (srcT (bs.take 60) (take_le bs)).data.toList (utf.checkF (srcT (bs.take 60) (take_le bs)))
theorem take_all {bs : List Int} (hb : ∀ z ∈ bs,0 ≤ z ∧ z ≤ 255) : ∀ z ∈ bs.take 60,0 ≤ z ∧ z ≤ 255:=fun z hz=>hb z (List.mem_of_mem_take hz)
theorem Parsed_ok (bs : List Int) (hb : ∀ z ∈ bs,0 ≤ z ∧ z ≤ 255) : Ok Try.prog 4 [dL (byD bs)] [ndv (parsedT bs).1,dB ((parsedT bs).2.1 == 0)] :=
  ok_eq (o_Parsed ⟨_,Short_ok bs,_,Source8_ok _ (take_le bs) (take_all hb),_,_,_,_,_,Source_ok _,rfl⟩)
theorem C_items : ∀ (l : List Lx.Tok) (p : Nat),C ((itemsP p l).map (·.1)) ≤ 6 * l.length + Lx.size l
  | [],p=>Nat.zero_le _
  | t :: r,p=>by
    have ih:=C_items r (p + t.2.length)
    have e : Lx.size (t :: r) = t.2.length + Lx.size r:=by
      show ((t :: r).map (·.2.length)).sum = _
      rw [List.map_cons,List.sum_cons];rfl
    rw [itemsP,e,List.length_cons]
    split
    · omega
    · rw [List.map_cons]
      show 6 + t.2.toArray.size + C _ ≤ _
      rw [List.size_toArray]
      omega
theorem source_weight (s : List UInt8) (chk : Int) : (sourceP s chk).1.weight ≤ 460000:=by
  unfold sourceP
  split
  · rw [w_none];omega
  · rename_i h1
    split
    · rw [w_none];omega
    · split
      · have h2:=lexA_len Lx.start s
        have h3:=Lx.size_le Lx.start s
        have h4:=C_items (Lx.lexA Lx.start s).1 0
        have h5:=parse_weight ((itemsP 0 (Lx.lexA Lx.start s).1).map (·.1))
        unfold itemsR
        split
        · omega
        · rw [w_none];omega
      · rw [w_none];omega
theorem parsed_weight (bs : List Int) : (parsedT bs).1.weight ≤ 460000:=source_weight _ _
end Go.Proofs.Ythadnhpkeljdoaa.pv
namespace Go.Proofs.Ythadnhpkeljdoaa.pv
open Go.Lib (hid)
open Go.RowKit sx ed nd
def RowsAt (W : World) (v : Value) (A : List (List Int)) : Prop:=∃ ao cap,v = .slice ao A.length cap ∧ A.length ≤ maxLen ∧ ∀ i q,A[i]? = some q → ∃ g o qo qc,ao = some ⟨g,o,none⟩ ∧ g < W.heap.size ∧ W.cell? ⟨g,o + i,none⟩ = some (.slice qo q.length qc) ∧ IntsAt (Lt W.heap.size) W (.slice qo q.length qc) q
theorem RowsAt.below {W W' : World} {v : Value} {A : List (List Int)} (h : RowsAt W v A) (hb : Below W.heap.size W W') : RowsAt W' v A:=by
  obtain ⟨ao,cap,e,hm,hr⟩:=h
  refine ⟨ao,cap,e,hm,fun i q hq=>?_⟩
  obtain ⟨g,o,qo,qc,h1,h2,h3,h4⟩:=hr i q hq
  exact ⟨g,o,qo,qc,h1,Nat.lt_of_lt_of_le h2 hb.size,(hb.cell (p:=⟨g,o + i,none⟩) h2).trans h3,h4.keep (fun k hk=>Nat.lt_of_lt_of_le hk hb.size) (fun k hk=>hb.block k hk)⟩
theorem rowsAt_of {Γ : Gh} {w : World} {v : Value} {A : List (List Int)} (h : RepC Γ w v (dL (rowD A))) : RowsAt w v A:=by
  generalize he : rowD A = es at h
  cases h with
  | sl a cap k es g o sz xs ha hc hr hl hm hk =>
    subst he
    have hlen : (rowD A).length = A.length:=by simp
    rw [hlen] at hm ⊢
    refine ⟨a,cap,rfl,hm.1,fun i q hq=>?_⟩
    have hg : (rowD A)[i]? = some [dL (intD q)]:=by rw [List.getElem?_map,hq];rfl
    have hsz : sz = 1:=(hl _ (List.mem_of_getElem? hg)).1.symm
    subst hsz
    have c0:=(hc i _ 0 _ hg rfl).1
    have r0:=ints_of (hr i _ 0 _ hg rfl)
    rw [show o + (i * 1 + 0) = o + i by omega] at c0
    obtain ⟨qo,qc,e,h1⟩:=id r0
    rw [e] at c0 r0
    exact ⟨g,o,qo,qc,ha (by intro e';rw [e'] at hg;cases hg),World.block_lt_of_cell? w _ c0,c0,r0⟩
theorem paths_calls (A B : List (List Int)) (h6 : ∀ q ∈ A,q.length ≤ 1000000) (hA6 : A.length ≤ 1000000) (w : World) (u v : Value) (hu : RowsAt w u A) (hv : RowsAt w v B) (b : Bool) (hbb : decide (A = B) = b) :
    Calls Try.prog 7 #[u,v] w fun e w'=>e = .returned (.bool b) ∧ Below w.heap.size w w':=by
  have hAA : ∀ W,Below w.heap.size w W → RowsAt W u A:=fun W hb=>hu.below hb
  have hBB : ∀ W,Below w.heap.size w W → RowsAt W v B:=fun W hb=>hv.below hb
  obtain ⟨ua,uc,rfl,hm1,_⟩:=hu
  obtain ⟨va,vc,rfl,hm2,_⟩:=hv
  obtain ⟨n,hn⟩ : ∃ n,A.length = n:=⟨_,rfl⟩
  obtain ⟨m,hmn⟩ : ∃ m,B.length = m:=⟨_,rfl⟩
  rw [hn] at hAA hA6;rw [hmn] at hBB
  have HA:=hid hAA;have HB:=hid hBB;have HN:=hid hn;have HM:=hid hmn;have HBB:=hid hbb;have H6:=hid h6
  rw [hn,hmn]
  clear hAA hBB hm1 hm2 hbb h6
  by_cases hnm : n = m
  · subst hnm
    have h1 : ((n : Int) != (n : Int)) = false:=by simp
    have h2 : decide ((n : Int) = (n : Int)) = true:=by simp
    clear hn hmn
    go_enter Try.func7,Try.ntmps7
    go_wp2_with fail
    go_loopw [5] (fun i wr=>∃ k : Nat,k ≤ n ∧ i = .int .i64 (k : Int) ∧ A.take k = B.take k ∧ Below w.heap.size w wr) (fun i _=>n - (intOf i).toNat)
    case atStart=>exact ⟨0,Nat.zero_le _,rfl,by simp,Below.refl _ _⟩
    case round =>
      obtain ⟨k,hk,rfl,htk,hbw⟩:=hrel
      clear h1 h2
      by_cases hlt : k < n
      · have hlt1 : (k : Int) < (n : Int):=by omega
        have hk0 : (0 : Int) ≤ (k : Int):=by omega
        obtain ⟨q,hq⟩ : ∃ q,A[k]? = some q:=⟨_,List.getElem?_eq_getElem (by rw [HN.out];exact hlt)⟩
        obtain ⟨p,hp⟩ : ∃ p,B[k]? = some p:=⟨_,List.getElem?_eq_getElem (by rw [HM.out];exact hlt)⟩
        have hq6:=H6.out q (List.mem_of_getElem? hq)
        obtain ⟨ua',uc',eu,_,hra⟩:=HA.out wr hbw
        obtain ⟨va',vc',ev,_,hrb⟩:=HB.out wr hbw
        injection eu with eu1 eu2 eu3
        injection ev with ev1 ev2 ev3
        subst eu1;subst eu3;subst ev1;subst ev3
        clear eu2 ev2
        obtain ⟨ga,oa,qo,qc,rfl,hga,ha,hqi⟩:=hra k q hq
        obtain ⟨gb,ob,po,pc,rfl,hgb,hb,hpi⟩:=hrb k p hp
        obtain ⟨x,hx⟩ : ∃ x,q.length = x:=⟨_,rfl⟩
        obtain ⟨y,hy⟩ : ∃ y,p.length = y:=⟨_,rfl⟩
        rw [hx] at ha hqi hq6;rw [hy] at hb hpi
        have HQ:=hid hqi;have HP:=hid hpi;have HX:=hid hx;have HY:=hid hy;have HBW:=hid hbw;have CA:=hid ha;have CB:=hid hb;have HTK:=hid htk;have HAQ:=hid hq;have HBP:=hid hp
        clear hqi hpi hx hy hbw htk hq hp hra hrb
        by_cases hxy : x = y
        · subst hxy
          have h1 : ((x : Int) != (x : Int)) = false:=by simp
          have h2 : decide ((x : Int) = (x : Int)) = true:=by simp
          go_wp2_with fail
          go_region
          go_wp2_with fail
          clear h1 h2 ha hb
          go_loopw [6] (fun i wl=>∃ j : Nat,j ≤ x ∧ i = .int .i64 (j : Int) ∧ q.take j = p.take j ∧ Below wr.heap.size wr wl) (fun i _=>x - (intOf i).toNat)
          case atStart=>exact ⟨0,Nat.zero_le _,rfl,by simp,(Below.refl _ _).drew⟩
          case round =>
            obtain ⟨j,hj,rfl,heq,hbl⟩:=hrel
            have ha:=(hbl.cell (p:=⟨ga,oa + k,none⟩) hga).trans CA.out
            have hb:=(hbl.cell (p:=⟨gb,ob + k,none⟩) hgb).trans CB.out
            by_cases hjx : j < x
            · have hj1 : (j : Int) < (x : Int):=by omega
              have hj0 : (0 : Int) ≤ (j : Int):=by omega
              obtain ⟨c,hc⟩ : ∃ c,q[j]? = some c:=⟨_,List.getElem?_eq_getElem (by rw [HX.out];exact hjx)⟩
              obtain ⟨d,hd⟩ : ∃ d,p[j]? = some d:=⟨_,List.getElem?_eq_getElem (by rw [HY.out];exact hjx)⟩
              obtain ⟨g1,o1,ea,s1,c1⟩:=(HQ.out.below hbl (Nat.le_refl _)).get hc
              obtain ⟨g2,o2,eb,s2,c2⟩:=(HP.out.below hbl (Nat.le_refl _)).get hd
              subst ea;subst eb
              have hnx : c = d → q.take (j + 1) = p.take (j + 1):=fun e=>by rw [List.take_add_one,List.take_add_one,heq,hc,hd,e]
              have hno : c ≠ d → A ≠ B:=fun e h=>by
                have h1:=HAQ.out
                rw [h,HBP.out] at h1
                cases h1
                rw [hd] at hc
                exact e (Option.some.inj hc).symm
              have HB2:=hid (HBW.out.trans (hbl.mono HBW.out.size));have HBL:=hid hbl;have HNX:=hid hnx;have HNO:=hid hno
              clear hc hd hbl hnx hno heq
              by_cases hcd : c = d
              · have h1 : decide (c = d) = true:=decide_eq_true hcd
                subst hcd
                have h3 : (c != c) = false:=by simp
                go_wp2_with fail
                go_region
                go_wp2_with fail
                exact ⟨⟨j + 1,hjx,by go_num,HNX.out trivial,HBL.out.drew⟩,by simp [intOf];omega⟩
              · have h1 : decide (c = d) = false:=decide_eq_false hcd
                have h3 : (c != d) = true:=by rw [bne_iff_ne];exact hcd
                have hbf : b = false:=by rw [← HBB.out];exact decide_eq_false (HNO.out hcd)
                subst hbf
                go_wp2_with fail
                go_region
                go_wp2_with fail
                go_ret
                exact ⟨rfl,HB2.out.drew⟩
            · obtain rfl : j = x:=by omega
              have hqp : A.take (k + 1) = B.take (k + 1):=by
                have h1:=heq
                rw [List.take_of_length_le (by rw [HX.out];exact Nat.le_refl _),List.take_of_length_le (by rw [HY.out];exact Nat.le_refl _)] at h1
                rw [List.take_add_one,List.take_add_one,HTK.out,HAQ.out,HBP.out,h1]
              have hge : decide ((j : Int) < (j : Int)) = false:=by simp
              have HB2:=hid (HBW.out.trans (hbl.mono HBW.out.size));have HE:=hid hqp
              clear hbl hqp heq
              go_wp2_with fail
              exact ⟨⟨k + 1,hlt,by go_num,HE.out,HB2.out⟩,by simp [intOf];omega⟩
        · have h1 : ((x : Int) != (y : Int)) = true:=by rw [bne_iff_ne];omega
          have h2 : decide ((x : Int) = (y : Int)) = false:=decide_eq_false (by omega)
          have h3 : decide (x = y) = false:=decide_eq_false hxy
          have hbf : b = false:=by
            rw [← HBB.out]
            refine decide_eq_false fun h=>hxy ?_
            have e:=HAQ.out
            rw [h,HBP.out] at e
            cases e
            exact HX.out.symm.trans HY.out
          subst hbf
          go_wp2_with fail
          go_region
          go_wp2_with fail
          go_ret
          exact ⟨rfl,HBW.out.drew⟩
      · obtain rfl : k = n:=by omega
        have hge : decide ((k : Int) < (k : Int)) = false:=by simp
        have hbt : b = true:=by
          rw [← HBB.out]
          refine decide_eq_true ?_
          rw [List.take_of_length_le (by rw [HN.out];exact Nat.le_refl _),List.take_of_length_le (by rw [HM.out];exact Nat.le_refl _)] at htk
          exact htk
        subst hbt
        have HB2:=hid hbw
        clear hbw htk
        go_wp2_with fail
        go_ret
        exact ⟨rfl,HB2.out⟩
  · have h1 : ((n : Int) != (m : Int)) = true:=by rw [bne_iff_ne];omega
    have h2 : decide ((n : Int) = (m : Int)) = false:=decide_eq_false (by omega)
    have h3 : decide (n = m) = false:=decide_eq_false hnm
    have hbf : b = false:=by
      rw [← HBB.out]
      exact decide_eq_false fun h=>hnm (by rw [← hn,← hmn,h])
    subst hbf
    clear hn hmn
    go_enter Try.func7,Try.ntmps7
    go_wp2_with fail
    go_ret
    exact ⟨rfl,Below.refl _ _⟩
theorem paths_ok (A B : List (List Int)) (h6 : ∀ q ∈ A,q.length ≤ 1000000) (hA6 : A.length ≤ 1000000) : Ok Try.prog 7 [dL (rowD A),dL (rowD B)] [dB (decide (A = B))]:=by
  refine ⟨fun _ _=>by kernel_rfl,fun imm w vs himm hsz hargs=>?_⟩
  have hsz : vs.size = 2:=hsz
  have h0:=rowsAt_of (repV_sl (hargs 0 vs[0] _ (Array.getElem?_eq_getElem (by omega)) rfl))
  have h1:=rowsAt_of (repV_sl (hargs 1 vs[1] _ (Array.getElem?_eq_getElem (by omega)) rfl))
  rw [vs_two hsz]
  refine (paths_calls A B h6 hA6 w vs[0] vs[1] h0 h1 _ rfl).mono ?_
  rintro e w' ⟨rfl,hb⟩
  exact ⟨_,Gafter imm w w',rfl,ret_one himm hb rfl rfl (.c (.v _ rfl))⟩
end Go.Proofs.Ythadnhpkeljdoaa.pv
namespace Go.Proofs.Ythadnhpkeljdoaa.pv
open Go.RowKit nd pa
theorem path_lenO {x : Nd} {p : List Nat} (h : p ∈ x.paths) : p.length ≤ x.count:=by
  rw [← Nd.walk_paths] at h
  obtain ⟨y,hy,rfl⟩:=List.mem_map.1 h
  have h1:=Nd.walk_short x hy
  have h2:=Nd.deep_le x
  simp at h1
  omega
theorem BareOrder_ok (bs : List Int) (hb : ∀ z ∈ bs,0 ≤ z ∧ z ≤ 255) : Ok Try.prog 3 [dL (byD bs)] [dB true]:=by
  obtain ⟨x,hx⟩ : ∃ x,(parsedT bs).1 = x:=⟨_,rfl⟩
  have hw:=parsed_weight bs
  have hP:=Parsed_ok bs hb
  rw [hx] at hw hP
  have hc : x.count ≤ 460000:=Nat.le_trans (Nd.count_le x) hw
  obtain ⟨al,hal⟩ : ∃ al,x.paths.map ints = al:=⟨_,rfl⟩
  obtain ⟨l,hl⟩ : ∃ l,brP x = l:=⟨_,rfl⟩
  have hsub:=brackets_sub x
  have hlen : ∀ q ∈ al,q.length ≤ 1000000:=fun q hq=>by
    rw [← hal] at hq
    obtain ⟨p,hp,rfl⟩:=List.mem_map.1 hq
    have:=path_lenO hp
    simp [ints]
    omega
  have ha6 : al.length ≤ 1000000:=by rw [← hal,List.length_map,Nd.paths_len];omega
  have hPa:=Paths_ok x (by omega)
  have hBr:=Brackets_rows x (by omega)
  rw [hal] at hsub hPa
  rw [hl] at hBr
  have hsub : l.Sublist al:=by rw [← hl];exact hsub
  have hl6 : l.length ≤ 1000000:=Nat.le_trans hsub.length_le ha6
  have fin : ∀ k : Nat,k = l.length → ∃ b,Ok Try.prog 8 [] [(dB b)] ∧ bcond b ([(dB (bif true then (k : Int) == (Int.ofNat (rowD l).length) else false))] = [dB true]) ([(dB false)] = [dB true]):=fun k hk=>by
    refine ⟨_,known_ok,bcond_t rfl ?_⟩
    rw [rowD_len,hk]
    simp
  have key : ∀ (d i k : Nat),al.length - i = d → i ≤ al.length → k ≤ l.length → (l.drop k).Sublist (al.drop i) → ∃ fu,L_BareOrder_6_17 (byD bs) (· = [dB true]) fu [dL (rowD al),dL (rowD l),dI (k : Int),dI (i : Int)]:=by
    intro d
    induction d with
    | zero =>
      intro i k hd hi hk hs
      refine ⟨0 + 1,?_⟩
      rw [l_BareOrder_6_17]
      refine bcond_f (decide_eq_false (by rw [rowD_len];simp only [Int.ofNat_eq_natCast];omega)) (fin k ?_)
      rw [List.drop_eq_nil_of_le (show al.length ≤ i by omega)] at hs
      have h1:=congrArg List.length (List.sublist_nil.1 hs)
      rw [List.length_drop] at h1
      simp at h1
      omega
    | succ d ih =>
      intro i k hd hi hk hs
      have hlt : i < al.length:=by omega
      have ew : IntKind.i64.wrap ((i : Int) + 1) = ((i + 1 : Nat) : Int):=by rw [wrap_small (by omega)];omega
      by_cases hkl : k < l.length
      · obtain ⟨q,hq⟩ : ∃ q,al[i]? = some q:=⟨_,List.getElem?_eq_getElem hlt⟩
        obtain ⟨p,hp⟩ : ∃ p,l[k]? = some p:=⟨_,List.getElem?_eq_getElem hkl⟩
        have e1 : al.drop i = q :: al.drop (i + 1):=by rw [List.drop_eq_getElem_cons hlt];rw [List.getElem?_eq_getElem hlt] at hq;cases hq;rfl
        have e2 : l.drop k = p :: l.drop (k + 1):=by rw [List.drop_eq_getElem_cons hkl];rw [List.getElem?_eq_getElem hkl] at hp;cases hp;rfl
        rw [e1,e2] at hs
        obtain ⟨s1,s2⟩:=sub_step hs
        have hg1 : (rowD al)[((i : Int)).toNat]? = some [dL (intD q)]:=by rw [Int.toNat_natCast,List.getElem?_map,hq];rfl
        have hg2 : (rowD l)[((k : Int)).toNat]? = some [dL (intD p)]:=by rw [Int.toNat_natCast,List.getElem?_map,hp];rfl
        have hpk:=paths_ok [q] [p] (fun r hr=>by rw [List.mem_singleton.1 hr];exact hlen q (List.mem_of_getElem? hq)) (by simp)
        have ew2 : IntKind.i64.wrap ((k : Int) + 1) = ((k + 1 : Nat) : Int):=by rw [wrap_small (by omega)];omega
        have ht : decide ((i : Int) < (Int.ofNat (rowD al).length)) = true:=decide_eq_true (by rw [rowD_len];simp only [Int.ofNat_eq_natCast];omega)
        have ht2 : (bif true then decide ((k : Int) < (Int.ofNat (rowD l).length)) else false) = true:=decide_eq_true (by rw [rowD_len];simp only [Int.ofNat_eq_natCast];omega)
        by_cases hqp : q = p
        · obtain ⟨fu,hfu⟩:=ih (i + 1) (k + 1) (by omega) (by omega) (by omega) (s1 hqp)
          refine ⟨fu + 1,?_⟩
          rw [l_BareOrder_6_17,ew,ew2]
          exact bcond_t ht (bcond_t ht2 ⟨by omega,_,hg1,by omega,_,hg2,_,hpk,bcond_t (decide_eq_true (by rw [hqp])) hfu⟩)
        · obtain ⟨fu,hfu⟩:=ih (i + 1) k (by omega) (by omega) hk (by rw [e2];exact s2 hqp)
          refine ⟨fu + 1,?_⟩
          rw [l_BareOrder_6_17,ew]
          exact bcond_t ht (bcond_t ht2 ⟨by omega,_,hg1,by omega,_,hg2,_,hpk,bcond_f (decide_eq_false (fun e=>hqp (by cases e;rfl))) hfu⟩)
      · refine ⟨0 + 1,?_⟩
        rw [l_BareOrder_6_17]
        have ht : decide ((i : Int) < (Int.ofNat (rowD al).length)) = true:=decide_eq_true (by rw [rowD_len];simp only [Int.ofNat_eq_natCast];omega)
        have ht2 : (bif true then decide ((k : Int) < (Int.ofNat (rowD l).length)) else false) = false:=decide_eq_false (by rw [rowD_len];simp only [Int.ofNat_eq_natCast];omega)
        exact bcond_t ht (bcond_f ht2 (fin k (by omega)))
  obtain ⟨fu,hfu⟩:=key _ 0 0 rfl (Nat.zero_le _) (Nat.zero_le _) hsub
  exact ok_eq (o_BareOrder ⟨_,_,_,_,hP,_,hPa,_,hBr,fu,hfu⟩)
end Go.Proofs.Ythadnhpkeljdoaa.pv
