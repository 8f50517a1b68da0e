/- Ground of the law: PvBb, PvB2, BaKnown. -/
import Derived.Test.YtaecmhlglnmimaaQf28
import Derived.Test.YtaecmhlglnmimaaQf32
import Derived.Test.YtaecmhlglnmimaaQf03
import Derived.Test.YtaecmhlglnmimaaQf15
import Derived.Test.YtaecmhlglnmimaaQf05
import Derived.Test.YtaecmhlglnmimaaQf08
import Derived.Test.YtaecmhlglnmimaaQf12
import Derived.Test.YtaecmhlglnmimaaQf10
import Derived.Test.YtaecmhlglnmimaaQf21
import Derived.Test.YtaecmhlglnmimaaQf25
import Derived.Test.YtaecmhlglnmimaaQf24
import Derived.Test.YtaecmhlglnmimaaQf19
set_option maxRecDepth 100000
set_option maxHeartbeats 8000000
set_option linter.unusedVariables false
set_option linter.unusedSimpArgs false
namespace Go.Proofs.Ytaecmhlglnmimaa.pv
open Go.RowKit nd
abbrev ndv (x : Nd) : D:=.agg [dI x.k,dS x.t,dL (foD x.kids)]
theorem isBr_ok (x : Nd) : Ok Try.prog 14 [ndv x] [dB x.isBr]:=by
  refine ok_eq (o_isBracket ?_)
  have hl:=foD_len' x.kids
  unfold Nd.isBr
  cases c : x.k == 12
  · exact bcond_f c rfl
  · refine bcond_t c ?_
    show [dB ((Int.ofNat (foD x.kids).length) == (1 : Int))] = [dB (x.kids.len == 1)]
    rw [hl]
    congr 2
    cases e : x.kids.len == 1
    · rw [beq_eq_false_iff_ne] at e
      rw [beq_eq_false_iff_ne.2 (by simp only [Int.ofNat_eq_natCast];omega)]
    · rw [eq_of_beq e];rfl
theorem fo_one {f : Fo} (h : f.len = 1) : ∃ y,f.get? 0 = some y:=by
  cases f with
  | nil=>cases h
  | cons k t kids r=>exact ⟨_,rfl⟩
theorem strip_ok (x : Nd) : ∃ y,Ok Try.prog 33 [ndv x] [ndv y] ∧ y.isBr = false ∧ y.bare = x.bare ∧ y.weight ≤ x.weight ∧ SizeOf.sizeOf y.kids ≤ SizeOf.sizeOf x.kids:=by
  have key : ∀ (n : Nat) (x0 x : Nd),SizeOf.sizeOf x.kids ≤ n → ∃ y k,L_Bare1_1_2 x0.k x0.t (foD x0.kids) (· = [ndv y]) k [.ptr 0 0,.ptr 1 0,dI x.k,dS x.t,dL (foD x.kids),dI 0,dS ⟨#[]⟩,.sl .nil []] ∧ y.isBr = false ∧ y.bare = x.bare ∧ y.weight ≤ x.weight ∧ SizeOf.sizeOf y.kids ≤ SizeOf.sizeOf x.kids:=by
    intro n
    induction n with
    | zero =>
      intro x0 x h
      exfalso
      have : 0 < SizeOf.sizeOf x.kids:=by cases x.kids <;> simp <;> omega
      omega
    | succ n ih =>
      intro x0 x h
      cases hb : x.isBr
      · refine ⟨x,0 + 1,?_,hb,rfl,Nat.le_refl _,Nat.le_refl _⟩
        rw [l_Bare1_1_2]
        exact ⟨_,isBr_ok x,bcond_f hb rfl⟩
      · have hb':=hb
        unfold Nd.isBr at hb'
        rw [Bool.and_eq_true] at hb'
        obtain ⟨y,hy⟩:=fo_one (eq_of_beq hb'.2)
        have hsz:=get_size hy
        obtain ⟨z,k,hk,h1,h2,h3,h4⟩:=ih x0 y (by omega)
        have hw:=Fo.weight_get hy
        refine ⟨z,k + 1,?_,h1,h2.trans (Nd.bare_br hb hy).symm,?_,by omega⟩
        · rw [l_Bare1_1_2]
          exact ⟨_,isBr_ok x,bcond_t hb ⟨by omega,_,_,_,foD_get hy,hk⟩⟩
        · unfold Nd.weight at h3 hw ⊢
          omega
  obtain ⟨y,k,hk,h1,h2,h3,h4⟩:=key _ x x (Nat.le_refl _)
  exact ⟨y,ok_eq (o_Bare1 ⟨k,hk⟩),h1,h2,h3,h4⟩
theorem clone_ok (t : ByteArray) (ht : t.size ≤ 1000000) : Ok Try.prog 39 [dS t] [dS t] :=
  ok_of_calls (fun _ _=>by kernel_rfl) rfl (fun Γ w vs h1 h2=>args_one h1 h2) (fun w=>clone_calls t (by omega) w)
theorem grow_ok (m : Nat) (hm : m ≤ 1000000) : Ok Try.prog 46 [.sl .nil [],dI (m : Int)] [.sl (.own 0 25 3) []]:=by
  refine ⟨fun _ _=>by kernel_rfl,fun imm w vs himm hsz hargs=>?_⟩
  have hsz : vs.size = 2:=hsz
  have h0:=hargs 0 vs[0] (.sl .nil []) (Array.getElem?_eq_getElem (by omega)) rfl
  have h1:=repV_v (hargs 1 vs[1] (dI (m : Int)) (Array.getElem?_eq_getElem (by omega)) rfl)
  have hv : vs = #[.slice none 0 0,.int .i64 (m : Int)]:=by
    have e0 : vs[0] = .slice none 0 0:=by
      generalize vs[0] = y at h0 ⊢
      cases h0 with
      | c h =>
        generalize he : ([] : List (List D)) = es at h
        cases h with
        | sl a cap k es g o sz xs ha hc hr hl hm hk =>
          subst he
          obtain ⟨_,rfl,rfl⟩:=hk
          rfl
    apply Array.ext (by simpa using hsz)
    intro i h2 h3
    have : i = 0 ∨ i = 1:=by simp at h3;omega
    rcases this with rfl | rfl
    · simpa using e0
    · simpa using h1
  rw [hv]
  refine (growN_calls m (by omega) w).mono ?_
  rintro e w' ⟨v,rfl,ho,hb⟩
  refine ⟨v,⟨w.heap.size,imm,fun _=>none,fun t=>if t = 0 then some ⟨v,25,3,0,[]⟩ else none⟩,rfl,hb,fun _ _ h=>h,fun _ _ _ h=>h,fun g i h=>Nat.lt_of_lt_of_le (himm g i h) hb.size,?_,?_,?_⟩
  · refine .v (.c ?_)
    have hk : ∀ (a : Option Addr) (cap : Nat),v = .slice a 0 cap → TkOk ⟨w.heap.size,imm,fun _=>none,fun t=>if t = 0 then some ⟨v,25,3,0,[]⟩ else none⟩ a cap 0 3 (.own 0 25 3):=fun a cap e=>⟨rfl,_,rfl,rfl,rfl,Nat.le_refl _,fun _=>e.symm⟩
    rcases ho.2 with ⟨rfl,_⟩ | ⟨g,cap,cur,rfl,h2,h3,h4⟩
    · exact .sl none 0 _ [] 0 0 3 (fun _ _=>undef) (fun h=>absurd rfl h) (fun i e j d h=>by cases h) (fun i e j d h=>by cases h) (fun e h=>by cases h) ⟨Nat.zero_le _,Nat.le_refl _,fun _=>rfl⟩ (hk _ _ rfl)
    · exact .sl (some ⟨g,0,none⟩) cap _ [] g 0 3 (fun _ _=>undef) (fun h=>rfl) (fun i e j d h=>by cases h) (fun i e j d h=>by cases h) (fun e h=>by cases h) ⟨Nat.zero_le _,Nat.zero_le _,fun e=>by cases e⟩ (hk _ _ rfl)
  · intro T hT
    cases hT
    refine ⟨Nat.zero_lt_succ 2,ho,fun g hg i hi=>by simp at hi,fun g i hg hi=>?_⟩
    have:=(ho.lt g hg).1
    have:=himm g i hi
    omega
  · intro k e sz es hmem
    rcases List.mem_cons.1 hmem with h | h
    · cases h
      exact ⟨rfl,_,rfl,rfl⟩
    · cases h
theorem foD_take {f : Fo} {i : Nat} {x : Nd} (h : f.get? i = some x) : foD (f.take (i + 1)) = foD (f.take i) ++ [[dI x.k,dS x.t,dL (foD x.kids)]]:=by
  induction f generalizing i with
  | nil=>cases h
  | cons k t kids r _ ih =>
    cases i with
    | zero=>cases h;cases r <;> rfl
    | succ i =>
      have:=ih (i:=i) h
      show [dI k,dS t,dL (foD kids)] :: foD (r.take (i + 1)) = _
      rw [this];rfl
theorem turned_ok (x : Nd) (hw : x.weight ≤ 1000000) : Ok Try.prog 32 [ndv x,.v (.func (.func 33) #[] #[])] [ndv x.bare]:=by
  generalize hn : SizeOf.sizeOf x.kids = n
  induction n using Nat.strongRecOn generalizing x with
  | ind n ih =>
    subst hn
    obtain ⟨y,hy,hb,hbb,hwy,hsy⟩:=strip_ok x
    have hyw : y.weight ≤ 1000000:=by omega
    have hwy':=hyw
    unfold Nd.weight at hyw
    have hcl:=clone_ok y.t (by omega)
    have hfl : y.kids.len ≤ 1000000:=by have:=Fo.len_le y.kids;have:=Fo.count_le y.kids;omega
    have hg:=grow_ok (foD y.kids).length (by rw [foD_len'];exact hfl)
    have key : ∀ (d j : Nat),y.kids.len - j = d → j ≤ y.kids.len → ∃ k,L_turned_4_22 x.k x.t (foD x.kids) (· = [ndv x.bare]) k [.v (.func (.func 33) #[] #[]),.ptr 1 0,.ptr 16 0,dL (foD y.kids),dI (Int.ofNat (foD y.kids).length),dI (j : Int),dI 0,dS ⟨#[]⟩,.sl .nil [],dI y.k,dS y.t,dL (foD (y.kids.bare.take j))]:=by
      intro d
      induction d with
      | zero =>
        intro j hd hj
        refine ⟨0 + 1,?_⟩
        rw [l_turned_4_22]
        refine bcond_f (decide_eq_false (by rw [foD_len'];simp only [Int.ofNat_eq_natCast];omega)) ?_
        rw [Fo.take_all (by rw [Fo.bare_len];omega),← hbb,Nd.bare_no hb]
      | succ d ihd =>
        intro j hd hj
        have hlt : j < y.kids.len:=by omega
        obtain ⟨z,hz⟩:=Fo.get_of_lt hlt
        have hzs:=get_size hz
        have hzw:=Fo.weight_get hz
        have hc:=ih (SizeOf.sizeOf z.kids) (by omega) z (by omega) rfl
        obtain ⟨k,hk⟩:=ihd (j + 1) (by omega) hlt
        rw [foD_take (Fo.bare_get hz)] at hk
        refine ⟨k + 1,?_⟩
        rw [l_turned_4_22]
        have hl : (foD (y.kids.bare.take j)).length = j:=by rw [foD_len',Fo.take_len (by rw [Fo.bare_len];omega)]
        refine bcond_t (decide_eq_true (by rw [foD_len'];simp only [Int.ofNat_eq_natCast];omega)) ⟨by omega,_,_,_,by rw [Int.toNat_natCast];exact foD_get hz,_,_,_,hc,⟨rfl,by simp,by rw [hl];omega⟩,by simp,?_⟩
        rw [show ((j : Int) + (1 : Int)) = ((j + 1 : Nat) : Int) by omega,Lib.wrap_i64_small _ (by omega)]
        exact hk
    obtain ⟨k,hk⟩:=key y.kids.len 0 (by omega) (Nat.zero_le _)
    have e0 : foD (y.kids.bare.take 0) = []:=by cases y.kids.bare <;> rfl
    rw [e0] at hk
    exact ok_eq (o_turned ⟨_,_,_,hy,_,hcl,_,hg,k,rfl,hk⟩)
theorem Bare_ok (x : Nd) (hw : x.weight ≤ 1000000) : Ok Try.prog 20 [ndv x] [ndv x.bare]:=ok_eq (o_Bare ⟨_,_,_,turned_ok x hw,rfl⟩)
theorem nd_of {Γ : Gh} {w : World} {v : Value} {x : Nd} (h : RepV Γ w v (ndv x)) : NdAt (Lt w.heap.size) w x v:=by
  generalize hd : ndv x = d at h
  cases h with
  | c h=>cases hd;cases h
  | agg zs l hz hq =>
    cases hd
    have hz : zs.size = 3:=hz
    have a0:=repC_eq (hq 0 zs[0] (dI x.k) (Array.getElem?_eq_getElem (by omega)) rfl)
    have a1:=repC_eq (hq 1 zs[1] (dS x.t) (Array.getElem?_eq_getElem (by omega)) rfl)
    have a2:=hq 2 zs[2] (dL (foD x.kids)) (Array.getElem?_eq_getElem (by omega)) rfl
    refine ⟨zs[2],?_,kids_of _ x.kids _ (Nat.le_refl _) a2⟩
    congr 1
    apply Array.ext (by simpa using hz)
    intro i h1 h2
    have : i = 0 ∨ i = 1 ∨ i = 2:=by omega
    rcases this with rfl | rfl | rfl
    · simpa using a0
    · simpa using a1
    · simp
theorem ok_two {P : Program} {f : FuncId} {x y : Nd} {b : Bool} (hen : ∀ (args : Array Value) (w : World),(callFunc f args).run P w = .ok (.enter f args) w)
    (h : ∀ (w : World) (u v : Value),NdAt (Lt w.heap.size) w x u → NdAt (Lt w.heap.size) w y v → Calls P f #[u,v] w fun e w'=>e = .returned (.bool b) ∧ Below w.heap.size w w') : Ok P f [ndv x,ndv y] [dB b]:=by
  refine ⟨hen,fun imm w vs himm hsz hargs=>?_⟩
  have hsz : vs.size = 2:=hsz
  have h0:=nd_of (hargs 0 vs[0] _ (Array.getElem?_eq_getElem (by omega)) rfl)
  have h1:=nd_of (hargs 1 vs[1] _ (Array.getElem?_eq_getElem (by omega)) rfl)
  have hv : vs = #[vs[0],vs[1]]:=by
    apply Array.ext (by simpa using hsz)
    intro i h2 h3
    have : i = 0 ∨ i = 1:=by simp at h3;omega
    rcases this with rfl | rfl <;> simp
  rw [hv]
  refine (h w _ _ h0 h1).mono ?_
  rintro e w' ⟨rfl,hb⟩
  exact ⟨_,⟨w.heap.size,imm,fun _=>none,fun _=>none⟩,rfl,⟨hb,fun _ _ h=>h,fun _ _ _ h=>h,fun g i h=>Nat.lt_of_lt_of_le (himm g i h) hb.size,.v (.c (.v _ rfl)),fun T e=>(by cases e),fun k e sz es hm=>by cases hm;rename_i hm;cases hm⟩⟩
theorem same_okP (x y : Nd) : Ok Try.prog 34 [ndv x,ndv y] [dB (x.same y)]:=ok_two (fun _ _=>by kernel_rfl) fun w u v hu hv=>same_ok x y w u v hu hv
theorem rsame_okP (x y : Nd) : Ok Try.prog 19 [ndv x,ndv y] [dB (x.same y)]:=ok_two (fun _ _=>by kernel_rfl) fun w u v hu hv=>rsame_ok x y w u v hu hv
theorem Same_ok (x y : Nd) (hx : x.weight ≤ 1000000) (hy : y.weight ≤ 1000000) : Ok Try.prog 21 [ndv x,ndv y] [dB (x.bare.same y.bare)]:=ok_eq (o_Same ⟨_,_,_,Bare_ok x hx,_,_,_,Bare_ok y hy,_,same_okP _ _,rfl⟩)
end Go.Proofs.Ytaecmhlglnmimaa.pv
namespace Go.Proofs.Ytaecmhlglnmimaa.pv
open Go.RowKit nd pa pr
open lx (asTk sizeT tokensF tokCells TksAt)
open it (runsU aheadU notesU itemCells NotesAt)
theorem ext_ok : ExtO where
  plain s hs:=ok_of_calls (fun _ _=>by kernel_rfl) rfl (fun Γ w vs h1 h2=>args_one h1 h2) (fun w=>sg.rplain_calls s (by omega) w)
  key s:=ok_of_calls (fun _ _=>by kernel_rfl) rfl (fun Γ w vs h1 h2=>args_one h1 h2) (fun w=>sg.rkey_calls s w)
  level s:=ok_of_calls (fun _ _=>by kernel_rfl) rfl (fun Γ w vs h1 h2=>args_one h1 h2) (fun w=>rlevel_calls s w)
  side s:=ok_of_calls (fun _ _=>by kernel_rfl) rfl (fun Γ w vs h1 h2=>args_one h1 h2) (fun w=>rside_calls s w)
  right s:=ok_of_calls (fun _ _=>by kernel_rfl) rfl (fun Γ w vs h1 h2=>args_one h1 h2) (fun w=>rright_calls s w)
  of t:=by
    refine ok_of_calls (vs0:=#[.agg #[.int .i64 t.1,.string t.2]]) (fun _ _=>by kernel_rfl) rfl (fun Γ w vs h1 h2=>?_) (fun w=>rof_calls t.1 t.2 w)
    have h1 : vs.size = 1:=h1
    have h0:=h2 0 vs[0] _ (Array.getElem?_eq_getElem (by omega)) rfl
    generalize hd : (D.agg [dI t.1,dS t.2]) = d at h0
    generalize hy : vs[0] = y at h0
    cases h0 with
    | c h=>cases hd;cases h
    | agg zs l hz hq =>
      cases hd
      have hz : zs.size = 2:=hz
      have a0:=repC_eq (hq 0 zs[0] (dI t.1) (Array.getElem?_eq_getElem (by omega)) rfl)
      have a1:=repC_eq (hq 1 zs[1] (dS t.2) (Array.getElem?_eq_getElem (by omega)) rfl)
      have ez : zs = #[.int .i64 t.1,.string t.2]:=by
        apply Array.ext (by simpa using hz)
        intro i h3 h4
        have : i = 0 ∨ i = 1:=by omega
        rcases this with rfl | rfl
        · simpa using a0
        · simpa using a1
      apply Array.ext (by simpa using h1)
      intro i h3 h4
      have : i = 0:=by simp at h4;omega
      subst this
      rw [hy,ez]
      rfl
theorem own_rep {Γ : Gh} {w : World} {base e sz n : Nat} {v : Value} {xs : List Value} {es : List (List D)} (ho : w.ownsRow base e sz v n xs) (hn : es.length = n) (hm : n ≤ maxLen) (hl : ∀ e ∈ es,e.length = sz ∧ e.all noOwn = true)
    (hi : ∀ g i,base ≤ g → g < w.heap.size → Γ.imm g i)
    (h : ∀ (i : Nat) (e : List D) (j : Nat) (d : D),es[i]? = some e → e[j]? = some d → ∃ u,xs[i * sz + j]? = some u ∧ RepC Γ w u d) : RepC Γ w v (dL es):=by
  subst hn
  have ho':=ho
  rcases ho.2 with ⟨rfl,h0⟩ | ⟨g,cap,cur,rfl,h2,h3,h4⟩
  · have hes : es = []:=List.eq_nil_of_length_eq_zero h0
    subst hes
    exact .sl none 0 .no [] 0 0 sz (fun _ _=>.bool true) (fun h=>absurd rfl h) (fun i e j d h=>by cases h) (fun i e j d h=>by cases h) (fun e h=>by cases h) ⟨Nat.zero_le _,Nat.le_refl _,fun _=>rfl⟩ trivial
  · refine .sl (some ⟨g,0,none⟩) cap .no es g 0 sz (fun i j=>xs.getD (i * sz + j) (.bool true)) (fun _=>rfl) (fun i e j d he hd=>?_) (fun i e j d he hd=>?_) hl ⟨hm,h4.1,fun e=>by cases e⟩ trivial
    · obtain ⟨u,hu,hr⟩:=h i e j d he hd
      obtain ⟨g',hg',hb,hlt,hc⟩:=it.own_at ho' hu
      cases hg'
      refine ⟨?_,hi g _ hb hlt⟩
      rw [Nat.zero_add,hc,List.getD,hu];rfl
    · obtain ⟨u,hu,hr⟩:=h i e j d he hd
      show RepC Γ w (xs.getD (i * sz + j) (.bool true)) d
      rw [List.getD,hu]
      exact hr
def Gafter (I : Nat → Nat → Prop) (w w' : World) : Gh:=⟨w.heap.size,fun g i=>(g < w.heap.size → I g i) ∧ g < w'.heap.size,fun _=>none,fun _=>none⟩
theorem ret_after {I : Nat → Nat → Prop} {w w' : World} {vs : Array Value} {l : List D} (hI : ∀ g i,I g i → g < w.heap.size) (hb : Below w.heap.size w w') (hl : ∀ d,l ≠ [d]) (hn : l.all noOwn = true) (hs : vs.size = l.length)
    (hr : ∀ (i : Nat) (x : Value) (d : D),vs[i]? = some x → l[i]? = some d → RepV (Gafter I w w') w' x d) : RetOk I w (Gafter I w w') w' (.tuple vs) l:=by
  refine ⟨hb,fun g i h=>⟨fun _=>h,Nat.lt_of_lt_of_le (hI g i h) hb.size⟩,fun g i h e=>e.1 h,fun g i h=>h.2,?_,(fun T e=>by cases e),fun k e sz es hm=>?_⟩
  · have e : mkRes l = .tup l:=by
      match l,hl with
      | [],_=>rfl
      | [d],hl=>exact absurd rfl (hl d)
      | _ :: _ :: _,_=>rfl
    rw [e]
    exact .tup vs l hs hr
  · have:=List.all_eq_true.1 hn _ hm
    cases this
def tokD (l : List Lx.Tok) : List (List D):=l.map fun t=>[dI t.1,dS ⟨t.2.toArray⟩]
theorem tokCells_get : ∀ (l : List Lx.Tok) (i : Nat) (t : Lx.Tok),l[i]? = some t → (tokCells l)[i * 2]? = some (.int .i64 t.1) ∧ (tokCells l)[i * 2 + 1]? = some (.string ⟨t.2.toArray⟩)
  | [],_,_,h=>by cases h
  | t :: r,0,_,h=>by cases h;exact ⟨rfl,rfl⟩
  | t :: r,i + 1,u,h=>by
    have:=tokCells_get r i u h
    rw [show (i + 1) * 2 = i * 2 + 2 by omega]
    exact this
theorem ok_tokens (s : ByteArray) (hs : s.size ≤ 1000) {l : List Lx.Tok} {er at' : Int} (h : tokensF s.data.toList (utf.checkF s) = (l,er,at')) (hm : l.length ≤ maxLen) : Ok Try.prog 29 [dS s] [dL (tokD l),dI er,dI at']:=by
  refine ⟨fun _ _=>by kernel_rfl,fun imm w vs himm hsz hargs=>?_⟩
  rw [args_one hsz hargs]
  refine (lx.rtokens_as s hs w l er at' h).mono ?_
  rintro e w' ⟨v,rfl,ho,hb⟩
  refine ⟨_,Gafter imm w w',rfl,ret_after himm hb (fun d e=>by cases e) rfl rfl fun i x d hx hd=>?_⟩
  match i,hx,hd with
  | 0,hx,hd =>
    cases hx;cases hd
    refine .c (own_rep ho (by simp [tokD]) hm (fun e he=>?_) (fun g i h1 h2=>⟨fun h=>absurd h1 (by omega),h2⟩) fun i e j d he hd=>?_)
    · obtain ⟨t,_,rfl⟩:=List.mem_map.1 he
      exact ⟨rfl,rfl⟩
    · unfold tokD at he
      rw [List.getElem?_map] at he
      obtain ⟨t,ht,rfl⟩:=Option.map_eq_some_iff.1 he
      obtain ⟨c0,c1⟩:=tokCells_get l i t ht
      match j,hd with
      | 0,hd=>cases hd;exact ⟨_,c0,.v _ rfl⟩
      | 1,hd=>cases hd;exact ⟨_,c1,.v _ rfl⟩
      | j + 2,hd=>cases hd
  | 1,hx,hd=>cases hx;cases hd;exact .c (.v _ rfl)
  | 2,hx,hd=>cases hx;cases hd;exact .c (.v _ rfl)
  | i + 3,hx,hd=>cases hd
theorem toks_of {Γ : Gh} {w : World} {v : Value} {l : List Lx.Tok} (h : RepC Γ w v (dL (tokD l))) : TksAt w.heap.size w v (l.map asTk):=by
  generalize he : tokD l = es at h
  cases h with
  | sl a cap k es g o sz xs ha hc hr hl hm hk =>
    subst he
    have hlen : (tokD l).length = (l.map asTk).length:=by simp [tokD]
    refine ⟨a,cap,by rw [hlen],by rw [← hlen];exact hm.1,fun j t ht=>?_⟩
    rw [List.getElem?_map] at ht
    obtain ⟨u,hu,rfl⟩:=Option.map_eq_some_iff.1 ht
    have hg : (tokD l)[j]? = some [dI u.1,dS ⟨u.2.toArray⟩]:=by unfold tokD;rw [List.getElem?_map,hu];rfl
    have hsz : sz = 2:=(hl _ (List.mem_of_getElem? hg)).1.symm
    subst hsz
    have c0:=hc j _ 0 (dI u.1) hg rfl
    have c1:=hc j _ 1 (dS ⟨u.2.toArray⟩) hg rfl
    have r0:=repC_eq (hr j _ 0 (dI u.1) hg rfl)
    have r1:=repC_eq (hr j _ 1 (dS ⟨u.2.toArray⟩) hg rfl)
    rw [r0] at c0
    rw [r1] at c1
    exact ⟨g,o,ha (by intro e;rw [e] at hg;cases hg),World.block_lt_of_cell? w _ c0.1,c0.1,c1.1⟩
def strD (l : List ByteArray) : List (List D):=l.map fun s=>[dS s]
def runD (r : it.Run) : List D:=[dI (r.l.headD (0,⟨#[]⟩)).1,dS (r.l.headD (0,⟨#[]⟩)).2,dI (r.at' : Int),dL (strD (notesU r.l))]
theorem str_rep {Γ : Gh} {w : World} {base : Nat} {v : Value} {l : List ByteArray} (ho : w.ownsRow base 9 1 v l.length (it.strs l)) (hm : l.length ≤ maxLen) (hi : ∀ g i,base ≤ g → g < w.heap.size → Γ.imm g i) : RepC Γ w v (dL (strD l)):=by
  refine own_rep ho (by simp [strD]) hm (fun e he=>?_) hi fun i e j d he hd=>?_
  · obtain ⟨t,_,rfl⟩:=List.mem_map.1 he
    exact ⟨rfl,rfl⟩
  · unfold strD at he
    rw [List.getElem?_map] at he
    obtain ⟨t,ht,rfl⟩:=Option.map_eq_some_iff.1 he
    match j,hd with
    | 0,hd =>
      cases hd
      refine ⟨.string t,?_,.v _ rfl⟩
      unfold it.strs
      rw [Nat.mul_one,Nat.add_zero,List.getElem?_map,ht];rfl
    | j + 1,hd=>cases hd
theorem ok_items (l : List Lx.Tok) (hs : sizeT (l.map asTk) ≤ 300) (hl : (l.map asTk).length ≤ 300) : Ok Try.prog 30 [dL (tokD l)] [dL (strD (notesU ((l.map asTk).take (aheadU (l.map asTk))))),dL ((runsU (l.map asTk)).map runD)]:=by
  refine ⟨fun _ _=>by kernel_rfl,fun imm w vs himm hsz hargs=>?_⟩
  have hsz : vs.size = 1:=hsz
  have h0:=hargs 0 vs[0] _ (Array.getElem?_eq_getElem (by omega)) rfl
  have hv : vs = #[vs[0]]:=by
    apply Array.ext (by simpa using hsz)
    intro i h1 h2
    have : i = 0:=by simp at h2;omega
    subst this
    rfl
  rw [hv]
  have ht : TksAt w.heap.size w vs[0] (l.map asTk):=by
    generalize vs[0] = y at h0 ⊢
    cases h0 with
    | c h=>exact toks_of h
  refine (it.ritems_calls vs[0] (l.map asTk) w ht hs hl).mono ?_
  rintro e w' ⟨lv,ov,nvs,rfl,hlv,hov,hN,hb⟩
  refine ⟨_,Gafter imm w w',rfl,ret_after himm hb (fun d e=>by cases e) rfl rfl fun i x d hx hd=>?_⟩
  have hi : ∀ g i,w.heap.size ≤ g → g < w'.heap.size → (Gafter imm w w').imm g i:=fun g i h1 h2=>⟨fun h=>absurd h1 (by omega),h2⟩
  match i,hx,hd with
  | 0,hx,hd =>
    cases hx;cases hd
    refine .c (str_rep hlv ?_ hi)
    have h1:=it.notesU_len ((l.map asTk).take (aheadU (l.map asTk)))
    rw [List.length_take] at h1
    unfold maxLen
    omega
  | 1,hx,hd =>
    cases hx;cases hd
    have hrl : (runsU (l.map asTk)).length ≤ 300:=by
      have:=items_len l 0
      rw [items_of,List.length_map] at this
      rw [List.length_map] at hl
      omega
    refine .c (own_rep hov (by simp) (by unfold maxLen;omega) (fun e he=>?_) hi fun i e j d he hd=>?_)
    · obtain ⟨t,_,rfl⟩:=List.mem_map.1 he
      exact ⟨rfl,rfl⟩
    · rw [List.getElem?_map] at he
      obtain ⟨r,hr,rfl⟩:=Option.map_eq_some_iff.1 he
      obtain ⟨ao,cap,rfl,_⟩:=it.own_len hov
      obtain ⟨g,nv,_,_,hnv,_,_,_,_,hrow⟩:=it.item_get (n:=0) hov hN i r hr
      obtain ⟨c0,c1,c2,c3⟩:=it.itemCells_at _ nvs i r nv hr hnv
      match j,hd with
      | 0,hd=>cases hd;exact ⟨_,c0,.v _ rfl⟩
      | 1,hd=>cases hd;exact ⟨_,c1,.v _ rfl⟩
      | 2,hd=>cases hd;exact ⟨_,c2,.v _ rfl⟩
      | 3,hd =>
        cases hd
        refine ⟨_,c3,str_rep hrow ?_ hi⟩
        have h1:=it.notesU_len r.l
        have h2:=it.run_len (l.map asTk) r (List.mem_of_getElem? hr)
        unfold maxLen
        omega
      | j + 4,hd=>cases hd
  | i + 2,hx,hd=>cases hd
theorem at0 {l : List pa.Tk} (h : (parse l).2.1 = 0) : (parse l).2.2 = 0:=by
  revert h
  unfold parse
  split
  · intro h;cases h
  · split
    · intro _;rfl
    · intro h;cases h
    · intro h;cases h
theorem src_err {s : List UInt8} {chk er at' : Int} {l : List Lx.Tok} (h : tokensF s chk = (l,er,at')) (he : er ≠ 0) : ∃ k : Nat,at' = (k : Int) ∧ sourceP s chk = (none0,er,k):=by
  unfold tokensF at h
  unfold sourceP
  by_cases h1 : 65536 < s.length
  · rw [if_pos h1] at h ⊢;cases h;exact ⟨0,rfl,rfl⟩
  · rw [if_neg h1] at h ⊢
    by_cases h2 : 0 ≤ chk
    · rw [if_pos h2] at h ⊢;cases h;exact ⟨chk.toNat,by omega,rfl⟩
    · rw [if_neg h2] at h ⊢
      by_cases h3 : (Lx.lexA Lx.start s).2 = 0
      · rw [if_pos h3] at h;cases h;exact absurd rfl he
      · rw [if_neg h3] at h ⊢;cases h;exact ⟨_,rfl,rfl⟩
theorem src_ok {s : List UInt8} {chk at' : Int} {l : List Lx.Tok} (h : tokensF s chk = (l,0,at')) : s.length ≤ 65536 ∧ l = (Lx.lexA Lx.start s).1 ∧ sourceP s chk = itemsR (itemsP 0 l) s.length:=by
  unfold tokensF at h
  unfold sourceP
  by_cases h1 : 65536 < s.length
  · rw [if_pos h1] at h;cases h
  · rw [if_neg h1] at h ⊢
    by_cases h2 : 0 ≤ chk
    · rw [if_pos h2] at h;cases h
    · rw [if_neg h2] at h ⊢
      by_cases h3 : (Lx.lexA Lx.start s).2 = 0
      · rw [if_pos h3] at h ⊢;cases h;exact ⟨by omega,rfl,rfl⟩
      · rw [if_neg h3] at h;exact absurd (Prod.mk.inj (Prod.mk.inj h).2).1 h3
theorem lexA_len (x : Lx.Lex) (l : List UInt8) : (Lx.lexA x l).1.length ≤ l.length:=by
  generalize hn : l.length = n
  induction n using Nat.strongRecOn generalizing l x with
  | ind n ih =>
    subst hn
    by_cases h0 : l = []
    · subst h0;rw [Lx.lexA_nil];exact Nat.le_refl _
    · cases hx : Lx.next x l with
      | error e=>rw [Lx.lexA_err hx h0];exact Nat.zero_le _
      | ok p =>
        obtain ⟨k,n,y⟩:=p
        have hl:=Lx.next_le hx
        obtain ⟨f,_,_,hn0⟩:=find_some (Lx.next_find hx).1
        have:=ih (l.drop n).length (by rw [List.length_drop];omega) y (l.drop n) rfl
        rw [Lx.lexA_ok hx h0,List.length_cons]
        rw [List.length_drop] at this
        omega
theorem sum_size (l : List Lx.Tok) : sizeT (l.map asTk) = Lx.size l:=by
  induction l with
  | nil=>rfl
  | cons t r ih =>
    have e : sizeT ((t :: r).map asTk) = (asTk t).2.size + sizeT (r.map asTk):=by
      show (((t :: r).map asTk).map (·.2.size)).sum = _
      rw [List.map_cons,List.map_cons,List.sum_cons];rfl
    have e2 : Lx.size (t :: r) = t.2.length + Lx.size r:=by
      show ((t :: r).map (·.2.length)).sum = _
      rw [List.map_cons,List.sum_cons];rfl
    rw [e,e2,ih]
    have : (asTk t).2.size = t.2.length:=by show t.2.toArray.size = _;rw [List.size_toArray]
    omega
theorem its_of {l : List Lx.Tok} {s : List UInt8} (hs : s.length ≤ 65536) (hl : l = (Lx.lexA Lx.start s).1) : Its ((runsU (l.map asTk)).map runD) ((itemsP 0 l).map (·.1)):=by
  have e:=items_of l
  have hfit:=items_fit s hs
  rw [← hl] at hfit
  have hlen:=lexA_len Lx.start s
  rw [← hl] at hlen
  have hil:=items_len l 0
  refine ⟨by rw [e];simp,fun i t ht=>?_,by rw [List.length_map];omega,fun t ht=>(hfit t ht).size,fun t ht hk=>?_⟩
  · rw [e,List.map_map,List.getElem?_map] at ht
    obtain ⟨r,hr,rfl⟩:=Option.map_eq_some_iff.1 ht
    exact ⟨_,_,by rw [List.getElem?_map,hr];rfl⟩
  · have hp : ∃ c,Lib.hasPrefix t.2.data.toList [c] = true:=by
      rcases hk with hk | hk
      · exact ⟨_,(hfit t ht).field hk⟩
      · exact ⟨_,(hfit t ht).var hk⟩
    obtain ⟨c,hc⟩:=hp
    rcases Nat.eq_zero_or_pos t.2.size with h0 | h0
    · exfalso
      have : t.2.data.toList = []:=List.eq_nil_of_length_eq_zero (by rw [Array.length_toList];exact h0)
      rw [this] at hc
      cases hc
    · exact h0
theorem Source_ok (s : ByteArray) (hs : s.size ≤ 300) : Ok Try.prog 18 [dS s] [ndD (sourceP s.data.toList (utf.checkF s)).1,dI (sourceP s.data.toList (utf.checkF s)).2.1,dI ((sourceP s.data.toList (utf.checkF s)).2.2 : Int)]:=by
  obtain ⟨⟨l,er,at'⟩,hT⟩ : ∃ p,tokensF s.data.toList (utf.checkF s) = p:=⟨_,rfl⟩
  have hss : s.data.toList.length = s.size:=by rw [Array.length_toList];rfl
  by_cases he : er = 0
  · subst he
    obtain ⟨hlen,hl,hsrc⟩:=src_ok hT
    have hll:=lexA_len Lx.start s.data.toList
    have hsz:=Lx.size_le Lx.start s.data.toList
    rw [← hl] at hll hsz
    have hI:=its_of hlen hl
    rw [hsrc]
    refine ok_eq (o_Source ⟨_,_,_,ok_tokens s (by omega) hT (by unfold maxLen;omega),bcond_f rfl ⟨_,_,ok_items l (by rw [sum_size];omega) (by rw [List.length_map];omega),_,_,_,_,_,Program_ok ext_ok hI,?_⟩⟩)
    have hLn : ((runsU (l.map asTk)).map runD).length = (itemsP 0 l).length:=by rw [items_of];simp
    unfold itemsR
    cases hz : (parse ((itemsP 0 l).map (·.1))).2.1 == 0
    · have hz':=beq_eq_false_iff_ne.1 hz
      rw [if_neg hz']
      refine bcond_f rfl ?_
      by_cases hk : (parse ((itemsP 0 l).map (·.1))).2.2 < (itemsP 0 l).length
      · have hg : (itemsP 0 l)[(parse ((itemsP 0 l).map (·.1))).2.2]? = some (itemsP 0 l)[(parse ((itemsP 0 l).map (·.1))).2.2]:=List.getElem?_eq_getElem hk
        obtain ⟨r,hr,hre⟩ : ∃ r,(runsU (l.map asTk))[(parse ((itemsP 0 l).map (·.1))).2.2]? = some r ∧ itemOf r = (itemsP 0 l)[(parse ((itemsP 0 l).map (·.1))).2.2]:=by
          have hg':=hg
          rw [show (itemsP 0 l)[(parse ((itemsP 0 l).map (·.1))).2.2]? = ((runsU (l.map asTk)).map itemOf)[(parse ((itemsP 0 l).map (·.1))).2.2]? by rw [← items_of],List.getElem?_map] at hg'
          exact Option.map_eq_some_iff.1 hg'
        refine bcond_f (decide_eq_false (by rw [hLn];simp only [Int.ofNat_eq_natCast];omega)) ⟨by omega,_,_,_,_,by rw [Int.toNat_natCast,List.getElem?_map,hr];rfl,?_⟩
        rw [hg]
        show _ = [ndD none0,dI _,dI (((itemsP 0 l)[(parse ((itemsP 0 l).map (·.1))).2.2]).2 : Int)]
        rw [← hre]
        rfl
      · refine bcond_t (decide_eq_true (by rw [hLn];simp only [Int.ofNat_eq_natCast];omega)) ?_
        rw [List.getElem?_eq_none (by omega),hss]
        rfl
    · have hz':=eq_of_beq hz
      rw [if_pos hz']
      refine bcond_t rfl ?_
      rw [at0 hz',hz']
      rfl
  · obtain ⟨k,rfl,hsrc⟩:=src_err hT he
    rw [hsrc]
    refine ok_eq (o_Source ⟨_,_,_,ok_tokens s (by omega) hT ?_,bcond_t (by rw [bne,beq_eq_false_iff_ne.2 he];rfl) rfl⟩)
    rw [lx.err_nil hT he]
    exact Nat.zero_le _
end Go.Proofs.Ytaecmhlglnmimaa.pv
namespace Go.Proofs.Ytaecmhlglnmimaa.pv
open Go.RowKit nd pa
theorem walkB_len (x : Nd) : (x.walkB []).length ≤ x.count:=by
  have h:=List.length_filter_le (fun (t : nd.Told)=>t.2.isBr) (x.walk [])
  rw [Nd.walk_len] at h
  exact h
theorem Brackets_ok (x : Nd) (hct : x.count ≤ 1000000) : Ok Try.prog 9 [ndv x] [dL (List.replicate (x.walkB []).length [D.junk])]:=by
  refine ⟨fun _ _=>by kernel_rfl,fun imm w vs himm hsz hargs=>?_⟩
  have hsz : vs.size = 1:=hsz
  have h0:=nd_of (hargs 0 vs[0] _ (Array.getElem?_eq_getElem (by omega)) rfl)
  have hv : vs = #[vs[0]]:=by
    apply Array.ext (by simpa using hsz)
    intro i h1 h2
    have : i = 0:=by simp at h2;omega
    subst this
    rfl
  rw [hv]
  refine (brackets_calls x hct w vs[0] h0).mono ?_
  rintro e w' ⟨v,L,rfl,ho,hL,hb⟩
  have hlen:=walkB_len x
  refine ⟨v,Gafter imm w w',rfl,hb,fun g i h=>⟨fun _=>h,Nat.lt_of_lt_of_le (himm g i h) hb.size⟩,fun g i h e=>e.1 h,fun g i h=>h.2,.v (.c ?_),(fun T e=>by cases e),fun k e sz es hm=>?_⟩
  · refine own_rep ho (by simp) (by unfold maxLen;omega) (fun e he=>?_) (fun g i h1 h2=>⟨fun h=>absurd h1 (by omega),h2⟩) fun i e j d he hd=>?_
    · rw [List.eq_of_mem_replicate he]
      exact ⟨rfl,rfl⟩
    · have hi:=(List.getElem?_eq_some_iff.1 he).1
      rw [List.length_replicate] at hi
      have hee : e = [D.junk]:=List.eq_of_mem_replicate (List.mem_of_getElem? he)
      subst hee
      cases j with
      | succ j=>cases hd
      | zero =>
        cases hd
        obtain ⟨cv,h1,ao,cap,rfl,_⟩:=hL.2 i _ (by rw [List.getElem?_map,List.getElem?_eq_getElem hi];rfl)
        exact ⟨_,by rw [Nat.mul_one,Nat.add_zero];exact h1,.junk _ rfl⟩
  · rcases List.mem_cons.1 hm with h | h
    · cases h
    · cases h
def b1 : ByteArray:=⟨#[40,40,49,41,41]⟩
def b2 : ByteArray:=⟨#[49]⟩
abbrev n1 : Nd:=(sourceP b1.data.toList (utf.checkF b1)).1
abbrev n2 : Nd:=(sourceP b2.data.toList (utf.checkF b2)).1
theorem k_facts : n1.weight ≤ 1000000 ∧ n2.weight ≤ 1000000 ∧ n1.count ≤ 1000000 ∧ n1.bare.same n2 = true ∧ n1.bare.same n2.bare = true ∧ (n1.walkB []).length = 2:=by decide +kernel
theorem known_ok : Ok Try.prog 11 [] [dB true]:=by
  obtain ⟨h1,h2,h3,h4,h5,h6⟩:=k_facts
  refine ok_eq (o_known ⟨_,_,_,_,_,Source_ok b1 (by decide),_,_,_,_,_,Source_ok b2 (by decide),_,_,_,Bare_ok n1 h1,_,rsame_okP n1.bare n2,bcond_t h4 ⟨_,Same_ok n1 n2 h1 h2,bcond_t h5 ⟨_,Brackets_ok n1 h3,?_⟩⟩⟩)
  rw [h6]
  rfl
theorem known_calls (w : World) : Calls Try.prog 11 #[] w fun e w'=>e = .returned (.bool true) ∧ Below w.heap.size w w':=by
  refine (known_ok.2 (fun g _=>g < w.heap.size) w #[] (fun _ _ h=>h) rfl (fun i x d h=>by cases h)).mono ?_
  rintro e w' ⟨v,G,rfl,R⟩
  have h : Rep G w' v (.v (.bool true)):=R.rep
  exact ⟨by rw [(rep_v h).1],R.below⟩
end Go.Proofs.Ytaecmhlglnmimaa.pv
