/- Ground of the law: PvL, Gx3. -/
import Derived.Test.YthadnhpkeljdoaaQh15
import Derived.LoopN
set_option maxRecDepth 100000
set_option maxHeartbeats 8000000
set_option linter.unusedVariables false
set_option linter.unusedSimpArgs false
namespace Go.Proofs.Ythadnhpkeljdoaa.pv
open Go.RowKit
def opP (E : Env) (id : Nat) (o : Oper) (m : Mem) (K : D → Mem → Prop) : Prop :=
  match dop E.ty m id o with
  | .bad=>False
  | .val d=>K d []
  | .put d ws=>K d ws
  | .eff p d ws=>p ∧ K d ws
  | .idx es i cs=>0 ≤ i ∧ exC cs fun l=>es[i.toNat]? = some l ∧ K (.el l 0) []
  | .call f args=>exS (E.sh f) fun l=>E.ok f args l ∧ K (mkRes (reown id l).1) (reown id l).2
def opS (E : Env) (id : Nat) (r : R) (d : D) (ws : Mem) : Prop :=
  match r with
  | .bad=>False
  | .val d'=>d = d' ∧ ws = []
  | .put d' ws'=>d = d' ∧ ws = ws'
  | .eff p d' ws'=>p ∧ d = d' ∧ ws = ws'
  | .idx es i cs=>0 ≤ i ∧ ∃ l,l.length = cs.length ∧ es[i.toNat]? = some l ∧ d = .el l 0 ∧ ws = []
  | .call f args=>∃ l,(∀ d ∈ l,argD d = true) ∧ E.ok f args l ∧ d = mkRes (reown id l).1 ∧ ws = (reown id l).2
theorem exC_out : ∀ {cs : List CT} {K : List D → Prop},exC cs K → ∃ l,l.length = cs.length ∧ (∀ d ∈ l,cellD d = true) ∧ K l
  | [],K,h=>⟨[],rfl,(fun d h=>by cases h),h⟩
  | .b :: r,K,⟨x,h⟩=>by obtain ⟨l,h1,h2,h3⟩:=exC_out h;exact ⟨_,by simp [h1],by simpa [cellD] using h2,h3⟩
  | .s :: r,K,⟨x,h⟩=>by obtain ⟨l,h1,h2,h3⟩:=exC_out h;exact ⟨_,by simp [h1],by simpa [cellD] using h2,h3⟩
  | .i k :: r,K,⟨x,h⟩=>by obtain ⟨l,h1,h2,h3⟩:=exC_out h;exact ⟨_,by simp [h1],by simpa [cellD] using h2,h3⟩
  | .l :: r,K,⟨x,h⟩=>by obtain ⟨l,h1,h2,h3⟩:=exC_out h;exact ⟨_,by simp [h1],by simpa [cellD] using h2,h3⟩
  | .f e sz :: r,K,⟨x,h⟩=>by obtain ⟨l,h1,h2,h3⟩:=exC_out h;exact ⟨_,by simp [h1],by simpa [cellD] using h2,h3⟩
def shOk : Sh → Bool
  | []=>true
  | (true,_) :: r=>shOk r
  | (false,cs) :: r=>!cs.isEmpty && shOk r
theorem arg_of_cell {d : D} (h : cellD d = true) : argD d = true:=by
  unfold cellD at h
  unfold argD
  split at h <;> first | rfl | cases h
theorem exS_out : ∀ {sh : Sh} {K : List D → Prop},shOk sh = true → exS sh K → ∃ l,(∀ d ∈ l,argD d = true) ∧ K l
  | [],K,_,h=>⟨[],(fun d h=>by cases h),h⟩
  | (true,cs) :: r,K,hs,h=>by
    obtain ⟨l,h1,h2,h3⟩:=exC_out (show exC cs _ from h)
    obtain ⟨q,h4,h5⟩:=exS_out (sh:=r) hs h3
    refine ⟨_,fun d hd=>?_,h5⟩
    rcases List.mem_cons.1 hd with rfl | hd
    · exact List.all_eq_true.2 h2
    · exact h4 d hd
  | (false,cs) :: r,K,hs,h=>by
    simp only [shOk,Bool.and_eq_true,Bool.not_eq_true'] at hs
    obtain ⟨l,h1,h2,h3⟩:=exC_out (show exC cs _ from h)
    obtain ⟨q,h4,h5⟩:=exS_out (sh:=r) hs.2 h3
    refine ⟨_,fun d hd=>?_,h5⟩
    rcases List.mem_cons.1 hd with rfl | hd
    · cases l with
      | nil=>cases cs <;> simp at h1 hs
      | cons c l=>exact arg_of_cell (h2 c (List.mem_cons_self ..))
    · exact h4 d hd
structure EnvOk (P : Program) (E : Env) : Prop where
  ty : TysOk P E.ty
  sh : ∀ f,shOk (E.sh f) = true
  ok : ∀ f ds l,E.ok f ds l → Ok P f ds l
section
variable {P : Program} {E : Env} {G : Gh} {m : Mem} {a : Act} {w : World} {o : Oper} {id : Nat}
theorem opP_out (hE : EnvOk P E) {K : D → Mem → Prop} (h : opP E id o m K) : ∃ d ws,opS E id (dop E.ty m id o) d ws ∧ K d ws:=by
  unfold opP at h
  unfold opS
  split at h
  · exact h.elim
  · exact ⟨_,_,⟨rfl,rfl⟩,h⟩
  · exact ⟨_,_,⟨rfl,rfl⟩,h⟩
  · exact ⟨_,_,⟨h.1,rfl,rfl⟩,h.2⟩
  · obtain ⟨h0,h1⟩:=h
    obtain ⟨l,e1,e2,e3,e4⟩:=exC_out h1
    exact ⟨_,_,⟨h0,l,e1,e3,rfl,rfl⟩,e4⟩
  · obtain ⟨l,e1,e2,e3⟩:=exS_out (hE.sh _) h
    exact ⟨_,_,⟨l,e1,e2,rfl,rfl⟩,e3⟩
def simple : R → Prop
  | .val _=>True
  | .bad=>True
  | _=>False
def plain : R → Prop
  | .val _=>True
  | .bad=>True
  | .eff _ _ ws=>ws = []
  | _=>False
def effs : R → Prop
  | .bad=>True
  | .eff _ _ _=>True
  | _=>False
theorem simple_if {b : Bool} {x y : R} (hx : simple x) (hy : simple y) : simple (bif b then x else y):=by cases b <;> assumption
theorem effs_if {b : Bool} {x y : R} (hx : effs x) (hy : effs y) : effs (bif b then x else y):=by cases b <;> assumption
theorem plain_if {b : Bool} {x y : R} (hx : plain x) (hy : plain y) : plain (bif b then x else y):=by cases b <;> assumption
theorem dLoad_simple (m : Mem) (y : Ty) (x : D) : simple (dLoad m y x):=by
  unfold dLoad
  split
  · split
    · exact simple_if trivial trivial
    · trivial
    · exact simple_if trivial trivial
  · split
    · split <;> trivial
    · trivial
    · split <;> trivial
  · trivial
theorem dPick_simple (a b c : D) : simple (dPick a b c):=by unfold dPick;split <;> trivial
theorem dFieldAddr_simple (ty : Tys) (y : Ty) (f : Nat) (x : D) : simple (dFieldAddr ty y f x):=by
  unfold dFieldAddr
  split
  · split
    · refine simple_if trivial ?_
      split <;> trivial
    · trivial
  · trivial
theorem dField_simple (ty : Tys) (y : Ty) (f : Nat) (x : D) : simple (dField ty y f x):=by
  unfold dField
  split
  · split
    · split
      · split <;> trivial
      · trivial
      · split <;> trivial
    · trivial
  · trivial
theorem dBin_plain (op : BinOp) (x y : D) : plain (dBin op x y):=by
  unfold dBin
  split
  · refine plain_if ?_ trivial
    split <;> first | trivial | rfl
  · split <;> first | trivial | rfl
  · trivial
def puts : R → Prop
  | .bad=>True
  | .put _ _=>True
  | _=>False
theorem puts_if {b : Bool} {x y : R} (hx : puts x) (hy : puts y) : puts (bif b then x else y):=by cases b <;> assumption
theorem dStore_puts (m : Mem) (y : Ty) (x p : D) : puts (dStore m y x p):=by
  unfold dStore
  split
  · split
    · exact puts_if trivial trivial
    · trivial
  · trivial
theorem of_puts {E : Env} {id : Nat} {r : R} {d : D} {ws : Mem} (hr : puts r) (h : opS E id r d ws) : r = .put d ws:=by
  cases r with
  | put d' ws'=>obtain ⟨rfl,rfl⟩:=h;rfl
  | bad=>exact h.elim
  | _=>exact hr.elim
theorem dSlice_effs (b : Bool) (sz : Nat) (x : D) (lo hi : Option D) : effs (dSlice b sz x lo hi):=by unfold dSlice;split <;> trivial
theorem dAppend_effs (m : Mem) (id : Nat) (e : TypeId) (y : Ty) (s x : D) : effs (dAppend m id e y s x):=by
  unfold dAppend
  split
  · trivial
  · split
    · exact effs_if trivial trivial
    · trivial
  · trivial
theorem of_simple {E : Env} {id : Nat} {r : R} {d : D} {ws : Mem} (hr : simple r) (h : opS E id r d ws) : r = .val d ∧ ws = []:=by
  cases r with
  | val d'=>obtain ⟨rfl,rfl⟩:=h;exact ⟨rfl,rfl⟩
  | bad=>exact h.elim
  | _=>exact hr.elim
theorem of_plain {E : Env} {id : Nat} {r : R} {d : D} {ws : Mem} (hr : plain r) (h : opS E id r d ws) : (r = .val d ∨ ∃ p : Prop,r = .eff p d [] ∧ p) ∧ ws = []:=by
  cases r with
  | val d'=>obtain ⟨rfl,rfl⟩:=h;exact ⟨.inl rfl,rfl⟩
  | bad=>exact h.elim
  | eff p d' ws'=>obtain ⟨hp,rfl,rfl⟩:=h;obtain rfl:=(show ws = [] from hr);exact ⟨.inr ⟨p,rfl,hp⟩,rfl⟩
  | _=>exact hr.elim
theorem of_effs {E : Env} {id : Nat} {r : R} {d : D} {ws : Mem} (hr : effs r) (h : opS E id r d ws) : ∃ p : Prop,r = .eff p d ws ∧ p:=by
  cases r with
  | eff p d' ws'=>obtain ⟨hp,rfl,rfl⟩:=h;exact ⟨p,rfl,hp⟩
  | bad=>exact h.elim
  | _=>exact hr.elim
theorem op_sound (hE : EnvOk P E) (h : Sim E.n G m a w) (hb : G.box id = none) (ht : G.tok id = none) {d : D} {ws : Mem} (hs : opS E id (dop E.ty m id o) d ws) : OpOk P o G a w id d ws:=by
  have hT:=hE.ty
  unfold dop at hs
  split at hs
  · rename_i x e;obtain ⟨rfl,rfl⟩:=hs;exact ok_move h (.inl e)
  · rename_i x e;obtain ⟨rfl,rfl⟩:=hs;exact ok_move h (.inr e)
  · rename_i c x y e
    obtain ⟨hr,rfl⟩:=of_simple (dPick_simple _ _ _) hs
    exact ok_pick h e hr
  · rename_i t e
    split at hs
    · rename_i y hy
      obtain ⟨rfl,rfl⟩:=hs
      exact ok_alloc h (hT t y hy) hb e
    · exact hs.elim
  · rename_i t x e
    split at hs
    · rename_i l hl
      obtain ⟨rfl,rfl⟩:=hs
      exact ok_box h hb e hl
    · exact hs.elim
  · rename_i t ps e
    split at hs
    · rename_i y hy
      split at hs
      · rename_i fs hk
        cases hall : (fs.all fun f=>(tyOf E.ty f.2).isSome) with
        | false=>rw [hall] at hs;exact hs.elim
        | true =>
          rw [hall] at hs
          simp only [cond_true] at hs
          split at hs
          · rename_i l hl
            obtain ⟨rfl,rfl⟩:=hs
            exact ok_build hT h (hT t y hy) hk e hall hl
          · exact hs.elim
      · exact hs.elim
    · exact hs.elim
  · rename_i t k ps e
    split at hs
    · rename_i y hy
      split at hs
      · rename_i el hk
        split at hs
        · rename_i z hz
          cases hc : (z.size.beq 0 || !(k * z.size).ble 16777216) with
          | true=>rw [hc] at hs;exact hs.elim
          | false =>
            rw [hc] at hs
            simp only [cond_false] at hs
            rw [Bool.or_eq_false_iff] at hc
            split at hs
            · rename_i es hes
              obtain ⟨rfl,rfl⟩:=hs
              refine ok_buildSlice h (hT t y hy) hk (hT el z hz) ht e (Nat.pos_of_ne_zero fun e=>by rw [e] at hc;exact absurd hc.1 (by decide)) (Nat.le_of_ble_eq_true (by simpa using hc.2)) hes
            · exact hs.elim
        · exact hs.elim
      · exact hs.elim
    · exact hs.elim
  · rename_i t x e
    split at hs
    · rename_i y hy
      obtain ⟨hr,rfl⟩:=of_simple (dLoad_simple _ _ _) hs
      exact ok_load h (hT t y hy) e hr
    · exact hs.elim
  · rename_i t p x e
    split at hs
    · rename_i y hy
      exact ok_store h (hT t y hy) e (of_puts (dStore_puts _ _ _ _) hs)
    · exact hs.elim
  · rename_i x e
    split at hs
    · rename_i b off e1
      obtain ⟨rfl,rfl⟩:=hs
      exact ok_nil h e (.inl ⟨b,off,e1,rfl⟩)
    · rename_i l off e1
      obtain ⟨rfl,rfl⟩:=hs
      exact ok_nil h e (.inr ⟨l,off,e1,rfl⟩)
    · exact hs.elim
  · rename_i op t x y yt e
    obtain ⟨hr,rfl⟩:=of_plain (dBin_plain _ _ _) hs
    exact ok_bin h e hr
  · rename_i t x e
    split at hs
    · rename_i k i e1
      obtain ⟨rfl,rfl⟩:=hs
      exact ok_neg h e e1
    · exact hs.elim
  · rename_i t x e
    split at hs
    · rename_i b e1
      obtain ⟨rfl,rfl⟩:=hs
      exact ok_not h e e1
    · exact hs.elim
  · rename_i s t x e
    split at hs
    · rename_i z y k i hz hy e1
      split at hs
      · rename_i k1 k2 h1 h2
        obtain ⟨rfl,rfl⟩:=hs
        have hkz:=(hT s z hz).kd
        rw [h1] at hkz
        exact ok_convert h (hT t y hy) e h2 e1 ⟨_,hkz⟩
      · exact hs.elim
    · exact hs.elim
  · rename_i t x f e
    split at hs
    · rename_i y hy
      obtain ⟨hr,rfl⟩:=of_simple (dFieldAddr_simple _ _ _ _) hs
      exact ok_fieldAddr hT h (hT t y hy) e hr
    · exact hs.elim
  · rename_i t x f e
    split at hs
    · rename_i y hy
      obtain ⟨hr,rfl⟩:=of_simple (dField_simple _ _ _ _) hs
      exact ok_field hT h (hT t y hy) e hr
    · exact hs.elim
  · rename_i t x i e
    split at hs
    · rename_i y k es kd j hy e1 e2
      split at hs
      · rename_i el hk
        split at hs
        · rename_i cs hcs
          cases hc : szIs (tyOf E.ty el) cs.length with
          | false=>rw [hc] at hs;exact hs.elim
          | true =>
            rw [hc] at hs
            obtain ⟨h0,l,h1,h2,rfl,rfl⟩:=hs
            cases hz : tyOf E.ty el with
            | none=>rw [hz] at hc;cases hc
            | some z =>
              rw [hz] at hc
              exact ok_idx h (hT t y hy) (hT el z hz) hk e e1 e2 h0 h2 (by rw [h1];exact (Nat.eq_of_beq_eq_true hc).symm)
        · exact hs.elim
      · exact hs.elim
    · exact hs.elim
  · rename_i t x i e
    split at hs
    · rename_i y s kd j hy e1 e2
      split at hs
      · rename_i hk
        obtain ⟨hp,rfl,rfl⟩:=hs
        exact ok_index h (hT t y hy) e hk e1 e2 hp
      · exact hs.elim
    · exact hs.elim
  · rename_i t x lo hi e
    split at hs
    · rename_i y hy
      split at hs
      · rename_i hk
        obtain ⟨p,hr,hp⟩:=of_effs (dSlice_effs _ _ _ _ _) hs
        exact ok_slice_s h (hT t y hy) hk e hr hp
      · rename_i el hk
        split at hs
        · rename_i z hz
          obtain ⟨p,hr,hp⟩:=of_effs (dSlice_effs _ _ _ _ _) hs
          exact ok_slice_l h (hT t y hy) hk (hT el z hz) e hr hp
        · exact hs.elim
      · exact hs.elim
    · exact hs.elim
  · rename_i x i e
    split at hs
    · rename_i l e1
      split at hs
      · rename_i d' e2
        obtain ⟨rfl,rfl⟩:=hs
        exact ok_extract h e e1 e2
      · exact hs.elim
    · exact hs.elim
  · rename_i f args ats e
    cases hc : (args.toList.map (ev m)).all argD with
    | false=>rw [hc] at hs;exact hs.elim
    | true =>
      rw [hc] at hs
      obtain ⟨l,h1,h2,rfl,rfl⟩:=hs
      exact ok_call h hb ht e rfl rfl hc (hE.ok _ _ _ h2) h1
  · rename_i t args ats e
    split at hs
    · rename_i f ca cb e1
      cases hq : ca.size.beq 0 && cb.size.beq 0 && (args.toList.map (ev m)).all argD with
      | false=>rw [hq] at hs;exact hs.elim
      | true =>
        rw [hq] at hs
        obtain ⟨l,h1,h2,rfl,rfl⟩:=hs
        rw [Bool.and_eq_true,Bool.and_eq_true] at hq
        have hca : ca = #[]:=Array.eq_empty_of_size_eq_zero (Nat.eq_of_beq_eq_true hq.1.1)
        have hcb : cb = #[]:=Array.eq_empty_of_size_eq_zero (Nat.eq_of_beq_eq_true hq.1.2)
        have hx:=h.ev (.tmp t)
        have hx' : Rep G w (a.eval (.tmp t)) (.v (.func (.func f) ca cb)):=by
          rw [← e1];exact hx
        exact ok_call h hb ht e rfl (by rw [(rep_v hx').1,hca,hcb]) hq.2 (hE.ok _ _ _ h2) h1
    · exact hs.elim
  · rename_i args ats e
    split at hs
    · rename_i x t e1 e2
      split at hs
      · rename_i y s hy e3
        split at hs
        · rename_i hk
          obtain ⟨rfl,rfl⟩:=hs
          exact ok_len_s h (hT t y hy) hk e rfl e1 e2 e3
        · exact hs.elim
      · rename_i y k es hy e3
        split at hs
        · rename_i el hk
          obtain ⟨rfl,rfl⟩:=hs
          exact ok_len_l h (hT t y hy) hk e rfl e1 e2 e3
        · exact hs.elim
      · exact hs.elim
    · exact hs.elim
  · rename_i args ats e
    split at hs
    · rename_i s x t u e1 e2
      split at hs
      · rename_i y hy
        split at hs
        · rename_i el hk
          split at hs
          · rename_i z hz
            cases hc : (t.beq u && !z.size.beq 0 && z.bytes.ble 1048576) with
            | false=>rw [hc] at hs;exact hs.elim
            | true =>
              rw [hc] at hs
              rw [Bool.and_eq_true,Bool.and_eq_true] at hc
              obtain rfl:=Nat.eq_of_beq_eq_true hc.1.1
              obtain ⟨p,hr,hp⟩:=of_effs (dAppend_effs _ _ _ _ _ _) hs
              refine ok_append h (hT t y hy) hk (hT el z hz) (Nat.pos_of_ne_zero fun e=>by rw [e] at hc;exact absurd hc.1.2 (by decide)) (Nat.le_of_ble_eq_true hc.2) ht e rfl e1 e2 hr hp
          · exact hs.elim
        · exact hs.elim
      · exact hs.elim
    · exact hs.elim
  · rename_i args ats e
    split at hs
    · rename_i x y e1
      split at hs
      · rename_i k i k' j e2 e3
        obtain ⟨rfl,rfl⟩:=hs
        exact ok_min h e rfl e1 e2 e3
      · exact hs.elim
    · exact hs.elim
  · rename_i args ats e
    split at hs
    · rename_i x y e1
      split at hs
      · rename_i k i k' j e2 e3
        obtain ⟨rfl,rfl⟩:=hs
        exact ok_max h e rfl e1 e2 e3
      · exact hs.elim
    · exact hs.elim
  · exact hs.elim
end
end Go.Proofs.Ythadnhpkeljdoaa.pv
namespace Go.Proofs.Ythadnhpkeljdoaa.gn
open Go.Lib (hid)
open Go.RowKit Go.Shelf sx ed
abbrev obW : Array Value:=#[.string ⟨#[97]⟩,.string ⟨#[36,120]⟩,.string ⟨#[34,107,34]⟩,.string ⟨#[36,121,58,32,49]⟩,.string ⟨#[105,102,58,32,50]⟩,.string ⟨#[36,120,58,32,45,51]⟩]
inductive Rd (bs : List Int) (d : Int) (u : ByteArray) (K : Nat) : ByteArray → Nat → Prop
  | no (s1 : ByteArray) (K1 K2 : Nat) (z : Int) : TellsOf bs obW 6 K s1 K1 → Tells1 bs 21 (.int .i64 3) K1 (.int .i64 z) K2 → 0 ≤ z → z < 3 → z ≠ 1 → Rd bs d u K (u ++ s1) K2
  | yes (s1 p q : ByteArray) (K1 K2 K3 K4 : Nat) : TellsOf bs obW 6 K s1 K1 → Tells1 bs 21 (.int .i64 3) K1 (.int .i64 1) K2 → Tells1 bs 22 (.int .i64 d) K2 (.string p) K3 → Tells1 bs 35 (.int .i64 d) K3 (.string q) K4 →
      Rd bs d u K (u ++ s1 ++ ⟨#[44,32,40]⟩ ++ p ++ ⟨#[41,58,32]⟩ ++ q) K4
section
variable {bs : List Int} {m : Int} {X : Nat}
theorem rd_ex {d : Int} (hs : Gs bs m X) (hd : d ≤ m) (hd0 : -100 ≤ d) (u : ByteArray) (K : Nat) : ∃ u' K',u'.size ≤ u.size + (2 * X + 12) ∧ Rd bs d u K u' K':=by
  obtain ⟨s1,K1,⟨hs1,T1⟩⟩:=of_ex (bs:=bs) K obW 6 6 (by decide) (by decide) rfl rfl
  obtain ⟨z,K2,⟨hz0,hz1⟩,H2⟩:=next_ex (bs:=bs) K1 3 (3 : Int) rfl (by decide) (by decide)
  have T2:=H2.out
  by_cases hz : z = 1
  · subst hz
    obtain ⟨p,K3,⟨hp,T3⟩⟩:=hs.pipe d hd hd0 K2
    obtain ⟨q,K4,⟨hq,T4⟩⟩:=hs.post d hd hd0 K3
    refine ⟨_,_,?_,.yes s1 p q K1 K2 K3 K4 T1 T2 T3 T4⟩
    simp only [ByteArray.size_append,show (⟨#[44,32,40]⟩ : ByteArray).size = 3 from rfl,show (⟨#[41,58,32]⟩ : ByteArray).size = 3 from rfl]
    omega
  · refine ⟨_,_,?_,.no s1 K1 K2 z T1 T2 hz0 hz1 hz⟩
    rw [ByteArray.size_append]
    omega
def sep (j : Nat) (u : ByteArray) : ByteArray:=if 0 < j then u ++ ⟨#[44,32]⟩ else u
theorem sep_size (j : Nat) (u : ByteArray) : (sep j u).size ≤ u.size + 2:=by
  unfold sep
  split
  · rw [ByteArray.size_append];exact Nat.le_refl _
  · omega
theorem seq_ex {d : Int} (hs : Gs bs m X) (hd : d ≤ m) (hd0 : -100 ≤ d) (u0 : ByteArray) (K0 : Nat) (n : Nat) : ∃ (U : Nat → ByteArray) (KK : Nat → Nat),U 0 = u0 ∧ KK 0 = K0 ∧ ∀ j,j < n → Rd bs d (sep j (U j)) (KK j) (U (j + 1)) (KK (j + 1)) ∧ (U (j + 1)).size ≤ (U j).size + (2 * X + 20):=by
  induction n with
  | zero=>exact ⟨fun _=>u0,fun _=>K0,rfl,rfl,fun j h=>by omega⟩
  | succ n ih =>
    obtain ⟨U,KK,h0,h1,h2⟩:=ih
    obtain ⟨u',K',h3,h4⟩:=rd_ex hs hd hd0 (sep n (U n)) (KK n)
    have h5:=sep_size n (U n)
    refine ⟨fun i=>if i ≤ n then U i else u',fun i=>if i ≤ n then KK i else K',by simpa using h0,by simpa using h1,fun j hj=>?_⟩
    by_cases hjn : j = n
    · subst hjn
      simp only [Nat.le_refl,if_true,show ¬ (j + 1 ≤ j) by omega,if_false]
      exact ⟨h4,by omega⟩
    · have:=h2 j (by omega)
      simp only [show j ≤ n by omega,show j + 1 ≤ n by omega,if_true]
      exact this
theorem object_ex (hs : Gs bs m X) (hX : X ≤ 100000000000000) {d : Int} (hd : d ≤ m) (hd0 : -90 ≤ d) (hd9 : d ≤ 1000) (K : Nat) : Ex1 bs (6 * X + 100) 51 d K:=by
  obtain ⟨z1,K1,⟨hz0,hz1⟩,H1⟩:=next_ex (bs:=bs) K 3 (3 : Int) rfl (by decide) (by decide)
  obtain ⟨r,rfl⟩ : ∃ r : Nat,z1 = (r : Int):=⟨z1.toNat,by omega⟩
  obtain ⟨U,KK,hU0,hK0,hst⟩:=seq_ex hs hd (by omega) ⟨#[123]⟩ K1 3
  have hsz : ∀ j,j ≤ 3 → (U j).size ≤ 1 + j * (2 * X + 20):=by
    intro j
    induction j with
    | zero=>intro _;rw [hU0];exact Nat.le_add_right 1 _
    | succ j ih=>intro h;have:=(hst j (by omega)).2;have:=ih (by omega);rw [Nat.add_mul,Nat.one_mul];omega
  have hUb : ∀ j,j ≤ 3 → (U j).size ≤ 6 * X + 61:=fun j hj=>by
    have h:=hsz j hj
    have : j * (2 * X + 20) ≤ 3 * (2 * X + 20):=Nat.mul_le_mul_right _ hj
    omega
  obtain ⟨s9,c9,Z9,q9⟩:=catR (U (r + 1)) ⟨#[125]⟩ 1 (hUb _ (by omega)) rfl (by omega)
  refine ⟨s9,KK (r + 1),hid ⟨by have:=Z9.out;omega,fun B ao cap W h=>?_⟩⟩
  have HST:=hid hst;have HUB:=hid hUb;have HX:=hid hX;have C9:=hid c9;have Q9:=hid q9;have HU0:=hid hU0;have HK00:=hid hK0
  have hr3 : r < 3:=by omega
  have G0:=st0 h
  clear hst hUb hsz hX c9 q9 Z9 hU0 hK0 h hs hd hd0 hd9 hz0 hz1
  go_enter Try.func51,Try.ntmps51
  go_wp2_with fail
  (with_reducible refine (tN H1 G0).mono ?_);rintro e w1 ⟨rfl,GA⟩
  clear G0
  go_wp2_with fail
  go_loopw [5,7] (fun s i wr=>∃ j : Nat,j ≤ r + 1 ∧ i = .int .i64 (j : Int) ∧ s = .string (U j) ∧ SttH bs B ao cap W (KK j) wr) (fun _ i _=>r + 1 - (intOf i).toNat)
  case atStart=>exact ⟨0,Nat.zero_le _,rfl,by rw [HU0.out],by rw [HK00.out];exact GA⟩
  case round =>
    obtain ⟨j,hj,rfl,rfl,G0⟩:=hrel
    have hUj:=HUB.out j (by omega)
    obtain ⟨u,hu⟩ : ∃ u,U j = u:=⟨_,rfl⟩
    obtain ⟨Kj,hKj⟩ : ∃ Kj,KK j = Kj:=⟨_,rfl⟩
    rw [hKj] at G0
    rw [hu] at hUj ⊢
    have Z0:=hid hUj
    clear hUj
    by_cases hjr : j ≤ r
    · have t1 : decide ((j : Int) ≤ (r : Int)) = true:=decide_eq_true (by omega)
      have t2 : decide (j ≤ r) = true:=decide_eq_true hjr
      obtain ⟨hrd,_⟩:=HST.out j (by omega)
      have hU1:=HUB.out (j + 1) (by omega)
      obtain ⟨u',hu'⟩ : ∃ u',U (j + 1) = u':=⟨_,rfl⟩
      obtain ⟨K',hK'⟩ : ∃ K',KK (j + 1) = K':=⟨_,rfl⟩
      rw [hu'] at hU1
      rw [hu,hKj,hu',hK'] at hrd
      clear hu hKj
      by_cases hj0 : 0 < j
      · have t3 : decide (0 < (j : Int)) = true:=decide_eq_true (by omega)
        have t4 : decide (0 < j) = true:=decide_eq_true (by omega)
        rw [show sep j u = u ++ ⟨#[44,32]⟩ from if_pos hj0] at hrd
        obtain ⟨s2,c2,Z2,q2⟩:=catR u ⟨#[44,32]⟩ 2 Z0.out rfl (by have:=HX.out;omega)
        rw [c2] at hrd
        cases hrd with
        | no s1 K1 K2 z T1 T2 g1 g2 g3 =>
          simp only [ByteArray.size_append,show (⟨#[44,32,40]⟩ : ByteArray).size = 3 from rfl,show (⟨#[41,58,32]⟩ : ByteArray).size = 3 from rfl] at hU1
          have HU1:=hid hU1;have HX:=hid (And.intro HX.out hU1);clear hU1
          have H1:=hid (And.intro trivial T1);have H2:=hid T2;clear T1 T2
          have g4 : (z == 1) = false:=by rw [beq_eq_false_iff_ne];exact g3
          obtain ⟨v4,c4,Z4,q4⟩:=cat s2 s1 Z2.out (Nat.le_refl _) (by have:=HX.out;omega)
          rw [c4] at hu'
          have HU':=hid hu';have HK':=hid hK';clear hu' hK'
          go_wp2_with fail
          (with_reducible refine (tO H1 G0).mono ?_);rintro e w1 ⟨rfl,G1⟩
          go_wp2_with fail
          (with_reducible refine (tN H2 G1).mono ?_);rintro e w2 ⟨rfl,G2⟩
          go_wp2_with fail
          exact ⟨⟨j + 1,by omega,by simp,by rw [HU'.out],by rw [HK'.out];exact G2⟩,by simp [intOf];omega⟩
        | yes s1 p q K1 K2 K3 K4 T1 T2 T3 T4 =>
          simp only [ByteArray.size_append,show (⟨#[44,32,40]⟩ : ByteArray).size = 3 from rfl,show (⟨#[41,58,32]⟩ : ByteArray).size = 3 from rfl] at hU1
          have HU1:=hid hU1;have HX:=hid (And.intro HX.out hU1);clear hU1
          have H1:=hid (And.intro trivial T1);have H2:=hid T2;clear T1 T2
          have H3:=hid (And.intro trivial T3);have H4:=hid (And.intro trivial T4);clear T3 T4
          obtain ⟨v4,c4,Z4,q4⟩:=cat s2 s1 Z2.out (Nat.le_refl _) (by have:=HX.out;omega)
          obtain ⟨v5,c5,Z5,q5⟩:=catR v4 ⟨#[44,32,40]⟩ 3 Z4.out rfl (by have:=HX.out;omega)
          obtain ⟨v6,c6,Z6,q6⟩:=cat v5 p Z5.out (Nat.le_refl _) (by have:=HX.out;omega)
          obtain ⟨v7,c7,Z7,q7⟩:=catR v6 ⟨#[41,58,32]⟩ 3 Z6.out rfl (by have:=HX.out;omega)
          obtain ⟨v8,c8,Z8,q8⟩:=cat v7 q Z7.out (Nat.le_refl _) (by have:=HX.out;omega)
          rw [c4,c5,c6,c7,c8] at hu'
          have HU':=hid hu';have HK':=hid hK';clear hu' hK'
          go_wp2_with fail
          (with_reducible refine (tO H1 G0).mono ?_);rintro e w1 ⟨rfl,G1⟩
          go_wp2_with fail
          (with_reducible refine (tN H2 G1).mono ?_);rintro e w2 ⟨rfl,G2⟩
          go_wp2_with fail
          (with_reducible refine (tA H3 G2).mono ?_);rintro e w3 ⟨rfl,G3⟩
          go_wp2_with fail
          (with_reducible refine (tA H4 G3).mono ?_);rintro e w4 ⟨rfl,G4⟩
          go_wp2_with fail
          exact ⟨⟨j + 1,by omega,by simp,by rw [HU'.out],by rw [HK'.out];exact G4⟩,by simp [intOf];omega⟩
      · have t3 : decide (0 < (j : Int)) = false:=decide_eq_false (by omega)
        have t4 : decide (0 < j) = false:=decide_eq_false (by omega)
        rw [show sep j u = u from if_neg hj0] at hrd
        cases hrd with
        | no s1 K1 K2 z T1 T2 g1 g2 g3 =>
          simp only [ByteArray.size_append,show (⟨#[44,32,40]⟩ : ByteArray).size = 3 from rfl,show (⟨#[41,58,32]⟩ : ByteArray).size = 3 from rfl] at hU1
          have HU1:=hid hU1;have HX:=hid (And.intro HX.out hU1);clear hU1
          have H1:=hid (And.intro trivial T1);have H2:=hid T2;clear T1 T2
          have g4 : (z == 1) = false:=by rw [beq_eq_false_iff_ne];exact g3
          obtain ⟨v4,c4,Z4,q4⟩:=cat u s1 Z0.out (Nat.le_refl _) (by have:=HX.out;omega)
          rw [c4] at hu'
          have HU':=hid hu';have HK':=hid hK';clear hu' hK'
          go_wp2_with fail
          (with_reducible refine (tO H1 G0).mono ?_);rintro e w1 ⟨rfl,G1⟩
          go_wp2_with fail
          (with_reducible refine (tN H2 G1).mono ?_);rintro e w2 ⟨rfl,G2⟩
          go_wp2_with fail
          exact ⟨⟨j + 1,by omega,by simp,by rw [HU'.out],by rw [HK'.out];exact G2⟩,by simp [intOf];omega⟩
        | yes s1 p q K1 K2 K3 K4 T1 T2 T3 T4 =>
          simp only [ByteArray.size_append,show (⟨#[44,32,40]⟩ : ByteArray).size = 3 from rfl,show (⟨#[41,58,32]⟩ : ByteArray).size = 3 from rfl] at hU1
          have HU1:=hid hU1;have HX:=hid (And.intro HX.out hU1);clear hU1
          have H1:=hid (And.intro trivial T1);have H2:=hid T2;clear T1 T2
          have H3:=hid (And.intro trivial T3);have H4:=hid (And.intro trivial T4);clear T3 T4
          obtain ⟨v4,c4,Z4,q4⟩:=cat u s1 Z0.out (Nat.le_refl _) (by have:=HX.out;omega)
          obtain ⟨v5,c5,Z5,q5⟩:=catR v4 ⟨#[44,32,40]⟩ 3 Z4.out rfl (by have:=HX.out;omega)
          obtain ⟨v6,c6,Z6,q6⟩:=cat v5 p Z5.out (Nat.le_refl _) (by have:=HX.out;omega)
          obtain ⟨v7,c7,Z7,q7⟩:=catR v6 ⟨#[41,58,32]⟩ 3 Z6.out rfl (by have:=HX.out;omega)
          obtain ⟨v8,c8,Z8,q8⟩:=cat v7 q Z7.out (Nat.le_refl _) (by have:=HX.out;omega)
          rw [c4,c5,c6,c7,c8] at hu'
          have HU':=hid hu';have HK':=hid hK';clear hu' hK'
          go_wp2_with fail
          (with_reducible refine (tO H1 G0).mono ?_);rintro e w1 ⟨rfl,G1⟩
          go_wp2_with fail
          (with_reducible refine (tN H2 G1).mono ?_);rintro e w2 ⟨rfl,G2⟩
          go_wp2_with fail
          (with_reducible refine (tA H3 G2).mono ?_);rintro e w3 ⟨rfl,G3⟩
          go_wp2_with fail
          (with_reducible refine (tA H4 G3).mono ?_);rintro e w4 ⟨rfl,G4⟩
          go_wp2_with fail
          exact ⟨⟨j + 1,by omega,by simp,by rw [HU'.out],by rw [HK'.out];exact G4⟩,by simp [intOf];omega⟩
    · obtain rfl : j = r + 1:=by omega
      have t1 : decide ((r : Int) + 1 ≤ (r : Int)) = false:=decide_eq_false (by omega)
      have t2 : decide (r + 1 ≤ r) = false:=decide_eq_false (by omega)
      have t5 : ¬ ((r : Int) + 1 ≤ (r : Int)):=by omega
      have c9:=C9.out
      have q9:=Q9.out
      rw [hu] at c9 q9
      rw [← hKj] at G0
      clear hu hKj
      go_wp2_with fail
      go_ret
      exact ⟨rfl,G0.out.g,G0.out.k⟩
end
end Go.Proofs.Ythadnhpkeljdoaa.gn
