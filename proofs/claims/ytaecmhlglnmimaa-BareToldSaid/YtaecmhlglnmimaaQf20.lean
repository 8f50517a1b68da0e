/- Ground of the law: PvL, NdTree. -/
import Derived.Test.YtaecmhlglnmimaaQf18
import Derived.LoopN
import Derived.Test.YtaecmhlglnmimaaQf01
import Derived.Deep.RegionHeld3
import Derived.StillTailTactics
set_option maxRecDepth 100000
set_option maxHeartbeats 8000000
set_option linter.unusedVariables false
set_option linter.unusedSimpArgs false
namespace Go.Proofs.Ytaecmhlglnmimaa.pv
open Go.RowKit
def opP (E : Env) (id : Nat) (o : Oper) (m : Mem) (K : D → Mem → Prop) : Prop :=
  match dop E.ty m id o with
  | .bad=>False
  | .val d=>K d []
  | .put d ws=>K d ws
  | .eff p d ws=>p ∧ K d ws
  | .idx es i cs=>0 ≤ i ∧ exC cs fun l=>es[i.toNat]? = some l ∧ K (.el l 0) []
  | .call f args=>exS (E.sh f) fun l=>E.ok f args l ∧ K (mkRes (reown id l).1) (reown id l).2
def opS (E : Env) (id : Nat) (r : R) (d : D) (ws : Mem) : Prop :=
  match r with
  | .bad=>False
  | .val d'=>d = d' ∧ ws = []
  | .put d' ws'=>d = d' ∧ ws = ws'
  | .eff p d' ws'=>p ∧ d = d' ∧ ws = ws'
  | .idx es i cs=>0 ≤ i ∧ ∃ l,l.length = cs.length ∧ es[i.toNat]? = some l ∧ d = .el l 0 ∧ ws = []
  | .call f args=>∃ l,(∀ d ∈ l,argD d = true) ∧ E.ok f args l ∧ d = mkRes (reown id l).1 ∧ ws = (reown id l).2
theorem exC_out : ∀ {cs : List CT} {K : List D → Prop},exC cs K → ∃ l,l.length = cs.length ∧ (∀ d ∈ l,cellD d = true) ∧ K l
  | [],K,h=>⟨[],rfl,(fun d h=>by cases h),h⟩
  | .b :: r,K,⟨x,h⟩=>by obtain ⟨l,h1,h2,h3⟩:=exC_out h;exact ⟨_,by simp [h1],by simpa [cellD] using h2,h3⟩
  | .s :: r,K,⟨x,h⟩=>by obtain ⟨l,h1,h2,h3⟩:=exC_out h;exact ⟨_,by simp [h1],by simpa [cellD] using h2,h3⟩
  | .i k :: r,K,⟨x,h⟩=>by obtain ⟨l,h1,h2,h3⟩:=exC_out h;exact ⟨_,by simp [h1],by simpa [cellD] using h2,h3⟩
  | .l :: r,K,⟨x,h⟩=>by obtain ⟨l,h1,h2,h3⟩:=exC_out h;exact ⟨_,by simp [h1],by simpa [cellD] using h2,h3⟩
  | .f e sz :: r,K,⟨x,h⟩=>by obtain ⟨l,h1,h2,h3⟩:=exC_out h;exact ⟨_,by simp [h1],by simpa [cellD] using h2,h3⟩
def shOk : Sh → Bool
  | []=>true
  | (true,_) :: r=>shOk r
  | (false,cs) :: r=>!cs.isEmpty && shOk r
theorem arg_of_cell {d : D} (h : cellD d = true) : argD d = true:=by
  unfold cellD at h
  unfold argD
  split at h <;> first | rfl | cases h
theorem exS_out : ∀ {sh : Sh} {K : List D → Prop},shOk sh = true → exS sh K → ∃ l,(∀ d ∈ l,argD d = true) ∧ K l
  | [],K,_,h=>⟨[],(fun d h=>by cases h),h⟩
  | (true,cs) :: r,K,hs,h=>by
    obtain ⟨l,h1,h2,h3⟩:=exC_out (show exC cs _ from h)
    obtain ⟨q,h4,h5⟩:=exS_out (sh:=r) hs h3
    refine ⟨_,fun d hd=>?_,h5⟩
    rcases List.mem_cons.1 hd with rfl | hd
    · exact List.all_eq_true.2 h2
    · exact h4 d hd
  | (false,cs) :: r,K,hs,h=>by
    simp only [shOk,Bool.and_eq_true,Bool.not_eq_true'] at hs
    obtain ⟨l,h1,h2,h3⟩:=exC_out (show exC cs _ from h)
    obtain ⟨q,h4,h5⟩:=exS_out (sh:=r) hs.2 h3
    refine ⟨_,fun d hd=>?_,h5⟩
    rcases List.mem_cons.1 hd with rfl | hd
    · cases l with
      | nil=>cases cs <;> simp at h1 hs
      | cons c l=>exact arg_of_cell (h2 c (List.mem_cons_self ..))
    · exact h4 d hd
structure EnvOk (P : Program) (E : Env) : Prop where
  ty : TysOk P E.ty
  sh : ∀ f,shOk (E.sh f) = true
  ok : ∀ f ds l,E.ok f ds l → Ok P f ds l
section
variable {P : Program} {E : Env} {G : Gh} {m : Mem} {a : Act} {w : World} {o : Oper} {id : Nat}
theorem opP_out (hE : EnvOk P E) {K : D → Mem → Prop} (h : opP E id o m K) : ∃ d ws,opS E id (dop E.ty m id o) d ws ∧ K d ws:=by
  unfold opP at h
  unfold opS
  split at h
  · exact h.elim
  · exact ⟨_,_,⟨rfl,rfl⟩,h⟩
  · exact ⟨_,_,⟨rfl,rfl⟩,h⟩
  · exact ⟨_,_,⟨h.1,rfl,rfl⟩,h.2⟩
  · obtain ⟨h0,h1⟩:=h
    obtain ⟨l,e1,e2,e3,e4⟩:=exC_out h1
    exact ⟨_,_,⟨h0,l,e1,e3,rfl,rfl⟩,e4⟩
  · obtain ⟨l,e1,e2,e3⟩:=exS_out (hE.sh _) h
    exact ⟨_,_,⟨l,e1,e2,rfl,rfl⟩,e3⟩
def simple : R → Prop
  | .val _=>True
  | .bad=>True
  | _=>False
def plain : R → Prop
  | .val _=>True
  | .bad=>True
  | .eff _ _ ws=>ws = []
  | _=>False
def effs : R → Prop
  | .bad=>True
  | .eff _ _ _=>True
  | _=>False
theorem simple_if {b : Bool} {x y : R} (hx : simple x) (hy : simple y) : simple (bif b then x else y):=by cases b <;> assumption
theorem effs_if {b : Bool} {x y : R} (hx : effs x) (hy : effs y) : effs (bif b then x else y):=by cases b <;> assumption
theorem plain_if {b : Bool} {x y : R} (hx : plain x) (hy : plain y) : plain (bif b then x else y):=by cases b <;> assumption
theorem dLoad_simple (m : Mem) (y : Ty) (x : D) : simple (dLoad m y x):=by
  unfold dLoad
  split
  · split
    · exact simple_if trivial trivial
    · trivial
    · exact simple_if trivial trivial
  · split
    · split <;> trivial
    · trivial
    · split <;> trivial
  · trivial
theorem dPick_simple (a b c : D) : simple (dPick a b c):=by unfold dPick;split <;> trivial
theorem dFieldAddr_simple (ty : Tys) (y : Ty) (f : Nat) (x : D) : simple (dFieldAddr ty y f x):=by
  unfold dFieldAddr
  split
  · split
    · refine simple_if trivial ?_
      split <;> trivial
    · trivial
  · trivial
theorem dField_simple (ty : Tys) (y : Ty) (f : Nat) (x : D) : simple (dField ty y f x):=by
  unfold dField
  split
  · split
    · split
      · split <;> trivial
      · trivial
      · split <;> trivial
    · trivial
  · trivial
theorem dBin_plain (op : BinOp) (x y : D) : plain (dBin op x y):=by
  unfold dBin
  split
  · refine plain_if ?_ trivial
    split <;> first | trivial | rfl
  · split <;> first | trivial | rfl
  · trivial
def puts : R → Prop
  | .bad=>True
  | .put _ _=>True
  | _=>False
theorem puts_if {b : Bool} {x y : R} (hx : puts x) (hy : puts y) : puts (bif b then x else y):=by cases b <;> assumption
theorem dStore_puts (m : Mem) (y : Ty) (x p : D) : puts (dStore m y x p):=by
  unfold dStore
  split
  · split
    · exact puts_if trivial trivial
    · trivial
  · trivial
theorem of_puts {E : Env} {id : Nat} {r : R} {d : D} {ws : Mem} (hr : puts r) (h : opS E id r d ws) : r = .put d ws:=by
  cases r with
  | put d' ws'=>obtain ⟨rfl,rfl⟩:=h;rfl
  | bad=>exact h.elim
  | _=>exact hr.elim
theorem dSlice_effs (b : Bool) (sz : Nat) (x : D) (lo hi : Option D) : effs (dSlice b sz x lo hi):=by unfold dSlice;split <;> trivial
theorem dAppend_effs (m : Mem) (id : Nat) (e : TypeId) (y : Ty) (s x : D) : effs (dAppend m id e y s x):=by
  unfold dAppend
  split
  · trivial
  · split
    · exact effs_if trivial trivial
    · trivial
  · trivial
theorem of_simple {E : Env} {id : Nat} {r : R} {d : D} {ws : Mem} (hr : simple r) (h : opS E id r d ws) : r = .val d ∧ ws = []:=by
  cases r with
  | val d'=>obtain ⟨rfl,rfl⟩:=h;exact ⟨rfl,rfl⟩
  | bad=>exact h.elim
  | _=>exact hr.elim
theorem of_plain {E : Env} {id : Nat} {r : R} {d : D} {ws : Mem} (hr : plain r) (h : opS E id r d ws) : (r = .val d ∨ ∃ p : Prop,r = .eff p d [] ∧ p) ∧ ws = []:=by
  cases r with
  | val d'=>obtain ⟨rfl,rfl⟩:=h;exact ⟨.inl rfl,rfl⟩
  | bad=>exact h.elim
  | eff p d' ws'=>obtain ⟨hp,rfl,rfl⟩:=h;obtain rfl:=(show ws = [] from hr);exact ⟨.inr ⟨p,rfl,hp⟩,rfl⟩
  | _=>exact hr.elim
theorem of_effs {E : Env} {id : Nat} {r : R} {d : D} {ws : Mem} (hr : effs r) (h : opS E id r d ws) : ∃ p : Prop,r = .eff p d ws ∧ p:=by
  cases r with
  | eff p d' ws'=>obtain ⟨hp,rfl,rfl⟩:=h;exact ⟨p,rfl,hp⟩
  | bad=>exact h.elim
  | _=>exact hr.elim
theorem op_sound (hE : EnvOk P E) (h : Sim E.n G m a w) (hb : G.box id = none) (ht : G.tok id = none) {d : D} {ws : Mem} (hs : opS E id (dop E.ty m id o) d ws) : OpOk P o G a w id d ws:=by
  have hT:=hE.ty
  unfold dop at hs
  split at hs
  · rename_i x e;obtain ⟨rfl,rfl⟩:=hs;exact ok_move h (.inl e)
  · rename_i x e;obtain ⟨rfl,rfl⟩:=hs;exact ok_move h (.inr e)
  · rename_i c x y e
    obtain ⟨hr,rfl⟩:=of_simple (dPick_simple _ _ _) hs
    exact ok_pick h e hr
  · rename_i t e
    split at hs
    · rename_i y hy
      obtain ⟨rfl,rfl⟩:=hs
      exact ok_alloc h (hT t y hy) hb e
    · exact hs.elim
  · rename_i t x e
    split at hs
    · rename_i l hl
      obtain ⟨rfl,rfl⟩:=hs
      exact ok_box h hb e hl
    · exact hs.elim
  · rename_i t ps e
    split at hs
    · rename_i y hy
      split at hs
      · rename_i fs hk
        cases hall : (fs.all fun f=>(tyOf E.ty f.2).isSome) with
        | false=>rw [hall] at hs;exact hs.elim
        | true =>
          rw [hall] at hs
          simp only [cond_true] at hs
          split at hs
          · rename_i l hl
            obtain ⟨rfl,rfl⟩:=hs
            exact ok_build hT h (hT t y hy) hk e hall hl
          · exact hs.elim
      · exact hs.elim
    · exact hs.elim
  · rename_i t k ps e
    split at hs
    · rename_i y hy
      split at hs
      · rename_i el hk
        split at hs
        · rename_i z hz
          cases hc : (z.size.beq 0 || !(k * z.size).ble 16777216) with
          | true=>rw [hc] at hs;exact hs.elim
          | false =>
            rw [hc] at hs
            simp only [cond_false] at hs
            rw [Bool.or_eq_false_iff] at hc
            split at hs
            · rename_i es hes
              obtain ⟨rfl,rfl⟩:=hs
              refine ok_buildSlice h (hT t y hy) hk (hT el z hz) ht e (Nat.pos_of_ne_zero fun e=>by rw [e] at hc;exact absurd hc.1 (by decide)) (Nat.le_of_ble_eq_true (by simpa using hc.2)) hes
            · exact hs.elim
        · exact hs.elim
      · exact hs.elim
    · exact hs.elim
  · rename_i t x e
    split at hs
    · rename_i y hy
      obtain ⟨hr,rfl⟩:=of_simple (dLoad_simple _ _ _) hs
      exact ok_load h (hT t y hy) e hr
    · exact hs.elim
  · rename_i t p x e
    split at hs
    · rename_i y hy
      exact ok_store h (hT t y hy) e (of_puts (dStore_puts _ _ _ _) hs)
    · exact hs.elim
  · rename_i x e
    split at hs
    · rename_i b off e1
      obtain ⟨rfl,rfl⟩:=hs
      exact ok_nil h e (.inl ⟨b,off,e1,rfl⟩)
    · rename_i l off e1
      obtain ⟨rfl,rfl⟩:=hs
      exact ok_nil h e (.inr ⟨l,off,e1,rfl⟩)
    · exact hs.elim
  · rename_i op t x y yt e
    obtain ⟨hr,rfl⟩:=of_plain (dBin_plain _ _ _) hs
    exact ok_bin h e hr
  · rename_i t x e
    split at hs
    · rename_i k i e1
      obtain ⟨rfl,rfl⟩:=hs
      exact ok_neg h e e1
    · exact hs.elim
  · rename_i t x e
    split at hs
    · rename_i b e1
      obtain ⟨rfl,rfl⟩:=hs
      exact ok_not h e e1
    · exact hs.elim
  · rename_i s t x e
    split at hs
    · rename_i z y k i hz hy e1
      split at hs
      · rename_i k1 k2 h1 h2
        obtain ⟨rfl,rfl⟩:=hs
        have hkz:=(hT s z hz).kd
        rw [h1] at hkz
        exact ok_convert h (hT t y hy) e h2 e1 ⟨_,hkz⟩
      · exact hs.elim
    · exact hs.elim
  · rename_i t x f e
    split at hs
    · rename_i y hy
      obtain ⟨hr,rfl⟩:=of_simple (dFieldAddr_simple _ _ _ _) hs
      exact ok_fieldAddr hT h (hT t y hy) e hr
    · exact hs.elim
  · rename_i t x f e
    split at hs
    · rename_i y hy
      obtain ⟨hr,rfl⟩:=of_simple (dField_simple _ _ _ _) hs
      exact ok_field hT h (hT t y hy) e hr
    · exact hs.elim
  · rename_i t x i e
    split at hs
    · rename_i y k es kd j hy e1 e2
      split at hs
      · rename_i el hk
        split at hs
        · rename_i cs hcs
          cases hc : szIs (tyOf E.ty el) cs.length with
          | false=>rw [hc] at hs;exact hs.elim
          | true =>
            rw [hc] at hs
            obtain ⟨h0,l,h1,h2,rfl,rfl⟩:=hs
            cases hz : tyOf E.ty el with
            | none=>rw [hz] at hc;cases hc
            | some z =>
              rw [hz] at hc
              exact ok_idx h (hT t y hy) (hT el z hz) hk e e1 e2 h0 h2 (by rw [h1];exact (Nat.eq_of_beq_eq_true hc).symm)
        · exact hs.elim
      · exact hs.elim
    · exact hs.elim
  · rename_i t x i e
    split at hs
    · rename_i y s kd j hy e1 e2
      split at hs
      · rename_i hk
        obtain ⟨hp,rfl,rfl⟩:=hs
        exact ok_index h (hT t y hy) e hk e1 e2 hp
      · exact hs.elim
    · exact hs.elim
  · rename_i t x lo hi e
    split at hs
    · rename_i y hy
      split at hs
      · rename_i hk
        obtain ⟨p,hr,hp⟩:=of_effs (dSlice_effs _ _ _ _ _) hs
        exact ok_slice_s h (hT t y hy) hk e hr hp
      · rename_i el hk
        split at hs
        · rename_i z hz
          obtain ⟨p,hr,hp⟩:=of_effs (dSlice_effs _ _ _ _ _) hs
          exact ok_slice_l h (hT t y hy) hk (hT el z hz) e hr hp
        · exact hs.elim
      · exact hs.elim
    · exact hs.elim
  · rename_i x i e
    split at hs
    · rename_i l e1
      split at hs
      · rename_i d' e2
        obtain ⟨rfl,rfl⟩:=hs
        exact ok_extract h e e1 e2
      · exact hs.elim
    · exact hs.elim
  · rename_i f args ats e
    cases hc : (args.toList.map (ev m)).all argD with
    | false=>rw [hc] at hs;exact hs.elim
    | true =>
      rw [hc] at hs
      obtain ⟨l,h1,h2,rfl,rfl⟩:=hs
      exact ok_call h hb ht e rfl rfl hc (hE.ok _ _ _ h2) h1
  · rename_i t args ats e
    split at hs
    · rename_i f ca cb e1
      cases hq : ca.size.beq 0 && cb.size.beq 0 && (args.toList.map (ev m)).all argD with
      | false=>rw [hq] at hs;exact hs.elim
      | true =>
        rw [hq] at hs
        obtain ⟨l,h1,h2,rfl,rfl⟩:=hs
        rw [Bool.and_eq_true,Bool.and_eq_true] at hq
        have hca : ca = #[]:=Array.eq_empty_of_size_eq_zero (Nat.eq_of_beq_eq_true hq.1.1)
        have hcb : cb = #[]:=Array.eq_empty_of_size_eq_zero (Nat.eq_of_beq_eq_true hq.1.2)
        have hx:=h.ev (.tmp t)
        have hx' : Rep G w (a.eval (.tmp t)) (.v (.func (.func f) ca cb)):=by
          rw [← e1];exact hx
        exact ok_call h hb ht e rfl (by rw [(rep_v hx').1,hca,hcb]) hq.2 (hE.ok _ _ _ h2) h1
    · exact hs.elim
  · rename_i args ats e
    split at hs
    · rename_i x t e1 e2
      split at hs
      · rename_i y s hy e3
        split at hs
        · rename_i hk
          obtain ⟨rfl,rfl⟩:=hs
          exact ok_len_s h (hT t y hy) hk e rfl e1 e2 e3
        · exact hs.elim
      · rename_i y k es hy e3
        split at hs
        · rename_i el hk
          obtain ⟨rfl,rfl⟩:=hs
          exact ok_len_l h (hT t y hy) hk e rfl e1 e2 e3
        · exact hs.elim
      · exact hs.elim
    · exact hs.elim
  · rename_i args ats e
    split at hs
    · rename_i s x t u e1 e2
      split at hs
      · rename_i y hy
        split at hs
        · rename_i el hk
          split at hs
          · rename_i z hz
            cases hc : (t.beq u && !z.size.beq 0 && z.bytes.ble 1048576) with
            | false=>rw [hc] at hs;exact hs.elim
            | true =>
              rw [hc] at hs
              rw [Bool.and_eq_true,Bool.and_eq_true] at hc
              obtain rfl:=Nat.eq_of_beq_eq_true hc.1.1
              obtain ⟨p,hr,hp⟩:=of_effs (dAppend_effs _ _ _ _ _ _) hs
              refine ok_append h (hT t y hy) hk (hT el z hz) (Nat.pos_of_ne_zero fun e=>by rw [e] at hc;exact absurd hc.1.2 (by decide)) (Nat.le_of_ble_eq_true hc.2) ht e rfl e1 e2 hr hp
          · exact hs.elim
        · exact hs.elim
      · exact hs.elim
    · exact hs.elim
  · rename_i args ats e
    split at hs
    · rename_i x y e1
      split at hs
      · rename_i k i k' j e2 e3
        obtain ⟨rfl,rfl⟩:=hs
        exact ok_min h e rfl e1 e2 e3
      · exact hs.elim
    · exact hs.elim
  · rename_i args ats e
    split at hs
    · rename_i x y e1
      split at hs
      · rename_i k i k' j e2 e3
        obtain ⟨rfl,rfl⟩:=hs
        exact ok_max h e rfl e1 e2 e3
      · exact hs.elim
    · exact hs.elim
  · exact hs.elim
end
end Go.Proofs.Ytaecmhlglnmimaa.pv
namespace Go.Proofs.Ytaecmhlglnmimaa.nd
open Go.Lib (hid)
open Go.RowKit sx ed law
abbrev txtCells : Array Value:=#[.string ⟨#[]⟩,.string ⟨#[97]⟩,.string ⟨#[124]⟩,.string ⟨#[36,120]⟩,.string ⟨#[46]⟩,.string ⟨#[101,108,115,101]⟩,.string ⟨#[98,48]⟩,.string ⟨#[10]⟩]
structure TI (w : World) (l : Fo) (v : Value) (wr : World) : Prop where
 row : Building (w.heap.size + 1) wr l v
 res : Blk wr w.heap.size 25 #[.int .i64 0,.string ⟨#[]⟩,.slice none 0 0]
 txt : Blk wr (w.heap.size + 1 + 1) 9 txtCells
 below : Below w.heap.size w wr
theorem own_one' (w : World) (e : TypeId) (a b c : Value) : (w.alloc (.cells #[a,b,c] e)).ownsRow w.heap.size e 3 (.slice (some ⟨w.heap.size,0,none⟩) 1 1) 1 [a,b,c] :=
 ⟨rfl,.inr ⟨w.heap.size,1,#[a,b,c],rfl,Nat.le_refl _,heap_alloc_new w _,Nat.le_refl _,by unfold maxLen;omega,rfl,rfl⟩⟩
theorem tree_calls (bs : List Int) (w : World) (u : Value) (hu : BytesAt w u bs) :
  Calls Try.prog 5 #[u] w fun e w'=>∃ s,e = .returned (.agg #[.int .i64 10,.string ⟨#[]⟩,s]) ∧ Building w.heap.size w' (treeN bs).kids s ∧ Below w.heap.size w w':=by
 obtain ⟨uo,uc,rfl⟩ : ∃ uo uc,u = .slice uo bs.length uc:=by
  rcases hu with ⟨rfl,rfl⟩ | ⟨a,cap,rfl,rfl⟩ | ⟨b,off,cap,rfl,_⟩ <;> exact ⟨_,_,rfl⟩
 have HU:=hid hu
 clear hu
 go_enter Try.func5,Try.ntmps5
 go_wp2_with fail
 go_loopw [3,5] (fun v i wr=>∃ j : Nat,j ≤ rounds bs.length ∧ i = .int .i64 ((2 * j : Nat) : Int) ∧ TI w (stF bs j) v wr) (fun _ i _=>60 - (intOf i).toNat)
 case atStart =>
  refine ⟨0,Nat.zero_le _,rfl,?_,?_,?_,?_⟩
  ·refine ⟨[.int .i64 1,.string ⟨#[]⟩,.slice none 0 0],?_,_,_,rfl,kids_nil _ _ _ _,rfl⟩
   have h:=own_one' (w.alloc (.cells #[.int .i64 0,.string ⟨#[]⟩,.slice none 0 0] 25)) 25 (.int .i64 1) (.string ⟨#[]⟩) (.slice none 0 0)
   rw [World.size_alloc] at h
   exact own_step h ((Below.refl _ _).alloc (Nat.le_refl _) _)
  ·have:=((Blk.new w 25 #[.int .i64 0,.string ⟨#[]⟩,.slice none 0 0]).alloc (.cells #[.int .i64 1,.string ⟨#[]⟩,.slice none 0 0] 25)).alloc (.cells txtCells 9)
   exact this
  ·have:=Blk.new ((w.alloc (.cells #[.int .i64 0,.string ⟨#[]⟩,.slice none 0 0] 25)).alloc (.cells #[.int .i64 1,.string ⟨#[]⟩,.slice none 0 0] 25)) 9 txtCells
   simpa using this
  ·exact (((Below.refl _ w).alloc (Nat.le_refl _) _).alloc (by simp) _).alloc (by simp;omega) _
 case round =>
  obtain ⟨j,hj,rfl,h⟩:=hrel
  obtain ⟨ao,cap,hv⟩:=h.row.slice
  subst hv
  obtain ⟨p,hp⟩ : ∃ p,2 * j = p:=⟨_,rfl⟩
  rw [hp]
  obtain ⟨m,hm⟩ : ∃ m,(stF bs j).len = m:=⟨_,rfl⟩
  rw [hm]
  by_cases hlt : p + 1 < bs.length ∧ p < 60
  ·have h1 : (p : Int) + 1 < (bs.length : Int):=by omega
   have h2 : (p : Int) < 60:=by omega
   obtain ⟨b,off,A,B,hb,hA,hB,rfl,hA255,hB255,ca,cb⟩ : ∃ (b off A B : Nat),b < w.heap.size ∧ (bs.getD p 0).toNat = A ∧ (bs.getD (p + 1) 0).toNat = B ∧ uo = some ⟨b,off,none⟩ ∧ A ≤ 255 ∧ B ≤ 255 ∧ w.cell? ⟨b,off + p,none⟩ = some (.int .u8 (A : Int)) ∧ w.cell? ⟨b,off + (p + 1),none⟩ = some (.int .u8 (B : Int)):=by
    rcases HU.out with ⟨_,e⟩ | ⟨_,_,_,e⟩ | ⟨b,off,cap,e,hml,hc⟩
    ·rw [e] at hlt;simp at hlt
    ·rw [e] at hlt;simp at hlt
    ·cases e
     obtain ⟨c1,c2,c3⟩:=hc p (by omega)
     obtain ⟨d1,d2,d3⟩:=hc (p + 1) (by omega)
     refine ⟨b,off,_,_,World.block_lt_of_cell? w _ c1,rfl,rfl,rfl,by omega,by omega,?_,?_⟩
     ·rw [c1,Int.toNat_of_nonneg c2]
     ·rw [d1,Int.toNat_of_nonneg d2]
   have ca':=(h.below.cell (p:=⟨b,_,none⟩) hb).trans ca
   have cb':=(h.below.cell (p:=⟨b,_,none⟩) hb).trans cb
   have ct : wr.cell? ⟨w.heap.size + 1 + 1,B % 8,none⟩ = some (.string (txtB (B % 8))):=by
    have h8 : B % 8 < 8:=Nat.mod_lt _ (by omega)
    rw [h.txt.cell]
    match B % 8,h8 with
    | 0,_=>rfl
    | 1,_=>rfl
    | 2,_=>rfl
    | 3,_=>rfl
    | 4,_=>rfl
    | 5,_=>rfl
    | 6,_=>rfl
    | 7,_=>rfl
    | n + 8,h=>exact absurd h (by omega)
   have hal : Below wr.heap.size wr (wr.alloc (.cells #[.int .i64 0,.string ⟨#[]⟩,.slice none 0 0] 25)):=(Below.refl _ wr).alloc (Nat.le_refl _) _
   have ca2:=(hal.cell (World.block_lt_of_cell? wr _ ca')).trans ca'
   have cb2:=(hal.cell (World.block_lt_of_cell? wr _ cb')).trans cb'
   have ct2:=(hal.cell (World.block_lt_of_cell? wr _ ct)).trans ct
   have m8 : ((B : Int).tmod 8) = ((B % 8 : Nat) : Int):=by rw [Int.tmod_eq_emod_of_nonneg (by omega)];omega
   have m40 : ((A : Int).tmod 40) = ((A % 40 : Nat) : Int):=by rw [Int.tmod_eq_emod_of_nonneg (by omega)];omega
   have H:=hid h
   clear h ca cb hal
   go_wp2_with fail
   go_region
   obtain ⟨K,hK⟩ : ∃ K : Int,(A : Int) % 40 = K:=⟨_,rfl⟩
   rw [hK]
   obtain ⟨W1,hW1⟩ : ∃ W1,(wr.alloc (.cells #[.int .i64 K,.string (txtB (B % 8)),.slice none 0 0] 25)).drew = W1:=⟨_,rfl⟩
   rw [hW1]
   have hb1 : Below wr.heap.size wr W1:=by rw [← hW1];exact ((Below.refl _ wr).alloc (Nat.le_refl _) _).drew
   have hs1 : W1.heap.size = wr.heap.size + 1:=by rw [← hW1];simp
   have hk1 : Blk W1 wr.heap.size 25 #[.int .i64 K,.string (txtB (B % 8)),.slice none 0 0]:=by rw [← hW1];exact Blk.new wr _ _
   have cb3:=(hb1.cell (World.block_lt_of_cell? wr _ cb')).trans cb'
   have HB1:=hid hb1;have HS1:=hid hs1;have HK1:=hid hk1
   obtain ⟨k,hkk⟩ : ∃ k,kidsN B m = k:=⟨_,rfl⟩
   have hkm : k ≤ m:=by rw [← hkk];exact kidsN_le _ _
   have hmin : min ((B : Int) / 8 % 4) (m : Int) = (k : Int):=by rw [← hkk];unfold kidsN;omega
   obtain ⟨q,hq⟩ : ∃ q,m - k = q:=⟨_,rfl⟩
   have hsub : (m : Int) - (k : Int) = (q : Int):=by omega
   have hqm : q ≤ m:=by omega
   have hmm:=stF_len bs j
   rw [hm] at hmm
   obtain ⟨g,hg,hmcap⟩ : ∃ g,ao = some ⟨g,0,none⟩ ∧ m ≤ cap:=by
    obtain ⟨L,hown,_⟩:=H.out.row
    rw [hm] at hown
    rcases hown.2 with ⟨e,h0⟩ | ⟨g,cap',cur,e,h2,h3,h4,_⟩
    ·omega
    ·cases e;exact ⟨g,rfl,h4⟩
   subst hg
   have hk0:=hk1.cell 2
   have hf0:=hk1.frozen 2
   clear ca' cb' ct ca2 cb2 ct2 hW1 hb1 hs1 hk1
   go_wp2_with fail
   have hwq : IntKind.i64.wrap (q : Int) = (q : Int):=by
    have : (q : Int) ≤ 100:=by have:=hj;unfold rounds at this;omega
    simp [IntKind.wrap,IntKind.bits,IntKind.signed];omega
   have hq2 : (q : Int) ≤ (m : Int):=by omega
   obtain ⟨oq,hif,hoq⟩ : ∃ oq,(if cap = q then some (⟨g,0,none⟩ : Addr) else some ⟨g,q * 3,none⟩) = some ⟨g,oq,none⟩ ∧ (q < m → oq = q * 3):=by
    by_cases h : cap = q
    ·exact ⟨0,by rw [if_pos h],fun _=>by omega⟩
    ·exact ⟨q * 3,by rw [if_neg h],fun _=>rfl⟩
   have hmq : m - q = k:=by omega
   refine wp_region_still_tail 8 (by kernel_rfl) (by kernel_rfl) ?_
   simp only [List.take_succ_cons,List.take_zero,List.drop_succ_cons,List.drop_zero]
   still_step
   still_step
   still_step
   still_step
   still_step
   still_step
   still_step
   still_step
   refine wpStill_nil ?_
   change wpList _ _ _ _ _ W1.drew
   have hb2 : Below wr.heap.size wr W1.drew:=HB1.out.drew
   have hs2 : W1.drew.heap.size = wr.heap.size + 1:=HS1.out
   have hk2 : Blk W1.drew wr.heap.size 25 #[.int .i64 K,.string (txtB (B % 8)),.slice none 0 0]:=HK1.out
   obtain ⟨W2,hW2⟩ : ∃ W2,W1.drew = W2:=⟨_,rfl⟩
   rw [hW2] at hb2 hs2 hk2 ⊢
   obtain ⟨L,hown,hL⟩:=id H.out.row
   rw [hm] at hown
   have hLl:=hown.1
   have hgl:=(hown.lt g rfl).2
   have hnews : ∀ i u,(L.drop (q * 3))[i]? = some u → W2.cell? ((⟨g,oq,none⟩ : Addr).add i) = some u:=fun i u hi=>by
    have hqlt : q < m:=by
     rcases Nat.lt_or_ge q m with h | h
     ·exact h
     ·rw [List.drop_eq_nil_of_le (by omega)] at hi;simp at hi
    rw [addr_add,hoq hqlt]
    rw [List.getElem?_drop] at hi
    have:=hown.cells (g:=g) rfl _ u hi
    rw [addr_add,Nat.zero_add] at this
    exact (hb2.cell (p:=⟨g,_,none⟩) hgl).trans this
   have hone : ∀ u ∈ L.drop (q * 3),u.oneCell' = true:=fun u hu=>hL.one u (List.mem_of_mem_drop hu)
   have hN : w.heap.size + 1 ≤ wr.heap.size:=by have:=H.out.res.lt;omega
   have hm31 : m ≤ 40:=by have:=hj;unfold rounds at this;omega
   obtain ⟨i0,hi,hz0,hz1,hz2⟩:=info_parts infoN
   have HOWN:=hid hown;have HL:=hid hL;have HNEWS:=hid hnews
   clear hown hL hnews hW2 hk0 hf0
   refine wpList_append_own_at _ rfl _ _ 23 rfl W2.heap.size 25 i0 _ 3 48 Try.underlying23 hi hz0 hz1 hz2 rfl (by decide) _ _ _ rfl (World.ownsRow_nil _ _ _ _) ⟨g,oq,none⟩ k (cap - q) (L.drop (q * 3)) rfl (by rw [List.length_drop,hLl];omega) HNEWS.out hone (by unfold maxLen;omega) (by omega) (Nat.le_refl _) ?_
   intro v' Wa hown' hgrow _ hat
   rw [List.nil_append,Nat.zero_add] at hown'
   have hba : Below W2.heap.size W2 Wa:=(Below.refl _ W2).grown hgrow (Nat.le_refl _) (fun j e=>by cases e)
   obtain ⟨a7,c7,rfl,hc7⟩:=own_len' hown'
   obtain ⟨hm1,hm2,hm3,hm4⟩:=tree_mid HOWN.out HL.out hm hqm (by omega) hN hb2 hs2 hown' hba
   have hka : Blk Wa wr.heap.size 25 #[.int .i64 K,.string (txtB (B % 8)),.slice none 0 0]:=(hba.block _ (by omega)).trans hk2
   have ha2:=hka.cell 2
   have hf2:=hka.frozen 2
   have hk3:=hka.set (o:=2) (.slice a7 k c7)
   have HM1:=hid hm1;have HM2:=hid hm2;have HM3:=hid hm3;have HM4:=hid hm4;have HK3:=hid hk3
   have e0:=hk3.cell 0;have e1:=hk3.cell 1;have e2:=hk3.cell 2
   obtain ⟨W3,hW3⟩ : ∃ W3,Wa.setCell ⟨wr.heap.size,2,none⟩ (.slice a7 k c7) = W3:=⟨_,rfl⟩
   rw [hW3] at HM1 HM2 HM3 HM4 HK3 e0 e1 e2
   have hs3:=HM4.out.size
   clear hown' hgrow hat hba hm1 hm2 hm3 hm4 hk3 hka
   go_upto_region 9 with fail
   clear hW3 ha2 hf2
   go_wp2_with (at_builtin;refine wpList_append_own_at _ rfl _ _ 23 rfl (w.heap.size + 1) 25 i0 _ 3 48 Try.underlying23 hi hz0 hz1 hz2 rfl (by decide) _ _ _ rfl (HM1.out.alloc _) ⟨W3.heap.size,0,none⟩ 1 1 [.int .i64 K,.string (txtB (B % 8)),.slice a7 k c7] rfl rfl (World.news_of_block (cs:=#[.int .i64 K,.string (txtB (B % 8)),.slice a7 k c7]) (t:=25) (fr:=(0,0)) (heap_alloc_new W3 _)) (by intro u hu;simp at hu;rcases hu with rfl | rfl | rfl <;> rfl) (by unfold maxLen;omega) (by omega) (by simp;omega) ?_;intro v5 W5 hown5 hgrow5 _ hat5;obtain ⟨a8,c8,rfl,hc8⟩:=own_len' hown5)
   have hql : ((stF bs j).take q).len = q:=Fo.take_len (by omega)
   have hbd:=building_push (x:=⟨K,txtB (B % 8),(stF bs j).drop q⟩) HM2.out HM3.out (by rw [hql];exact hown5) hgrow5 hat5
   have hlt5:=HM1.out.lt
   have hb5 : Below w.heap.size w W5:=((H.out.below.trans (HM4.out.mono H.out.below.size)).alloc (by have:=H.out.below.size;omega) _).grown hgrow5 (by have:=H.out.below.size;simp;omega) (fun i e=>by have:=(hlt5 i e).1;omega)
   have hres : Blk W5 w.heap.size 25 #[.int .i64 0,.string ⟨#[]⟩,.slice none 0 0] :=
    (hgrow5.block _ (by have:=H.out.res.lt;simp;omega) (fun e=>by have:=(hlt5 _ e.symm).1;omega)).trans ((Below.heap_alloc _ _ _ (by have:=H.out.res.lt;omega)).trans ((HM4.out.block _ H.out.res.lt).trans H.out.res))
   have htxt : Blk W5 (w.heap.size + 1 + 1) 9 txtCells:=by
    have hno:=own_no HOWN.out H.out.txt (by decide)
    exact (hgrow5.block _ (by have:=H.out.txt.lt;simp;omega) (fun e=>hno e.symm)).trans ((Below.heap_alloc _ _ _ (by have:=H.out.txt.lt;omega)).trans ((HM4.out.block _ H.out.txt.lt).trans H.out.txt))
   have hstep : ((stF bs j).take q).app (.cons K (txtB (B % 8)) ((stF bs j).drop q) .nil) = stF bs (j + 1):=by
    simp only [stF,stepF]
    rw [hp,hA,hB,hm,hkk,hq,← hK]
    congr 2
   rw [hstep] at hbd
   have hpj : (p : Int) + 2 = ((2 * (j + 1) : Nat) : Int):=by omega
   refine ⟨⟨j + 1,by unfold rounds;omega,by rw [← hpj],⟨hbd,hres,htxt,hb5⟩⟩,?_⟩
   simp [intOf]
   omega
  ·have hjr : j = rounds bs.length:=by unfold rounds at hj ⊢;omega
   have hw3 : ∀ (x y z : Value),Blk (((wr.setCell ⟨w.heap.size,0,none⟩ x).setCell ⟨w.heap.size,1,none⟩ y).setCell ⟨w.heap.size,2,none⟩ z) w.heap.size 25 #[x,y,z]:=fun x y z=>set3_blk h.res x y z
   have f0:=h.res.frozen 0;have f1:=h.res.frozen 1;have f2:=h.res.frozen 2
   have e0:=h.res.cell 0;have e1:=h.res.cell 1;have e2:=h.res.cell 2
   have hcell:=hw3 (.int .i64 10) (.string ⟨#[]⟩) (.slice ao m cap)
   have g0:=hcell.cell 0;have g1:=hcell.cell 1;have g2:=hcell.cell 2
   have hfin : Building w.heap.size (((wr.setCell ⟨w.heap.size,0,none⟩ (.int .i64 10)).setCell ⟨w.heap.size,1,none⟩ (.string ⟨#[]⟩)).setCell ⟨w.heap.size,2,none⟩ (.slice ao m cap)) (treeN bs).kids (.slice ao m cap):=by
    have hb:=h.row
    rw [hm] at hb
    have e : (treeN bs).kids = stF bs j:=by rw [hjr];rfl
    rw [e]
    exact (hb.set3 (Nat.lt_succ_self _) _ _ _).less (Nat.le_succ _)
   have H:=hid h;have HF:=hid hfin
   clear h hcell hw3 hfin
   by_cases hA : p + 1 < bs.length
   ·have h1 : (p : Int) + 1 < (bs.length : Int):=by omega
    have hp60 : (p : Int) ≤ 60:=by unfold rounds at hj;omega
    have hw : wrap64 ((p : Int) + 1) = (p : Int) + 1:=IntWalk.wrap64_in _ (by omega)
    have h2 : decide ((p : Int) < 60) = false:=decide_eq_false (by omega)
    have h3 : decide ((p : Int) + 1 < (bs.length : Int)) = true:=decide_eq_true h1
    go_wp2_with fail
    all_goals exact bodyPost_ret (v:=.agg #[.int .i64 10,.string ⟨#[]⟩,.slice ao m cap]) (by simp [results,Try.results5,go_sem,g0,g1,g2]) rfl ⟨_,rfl,HF.out,H.out.below.trans (set3_below _ _ _ (Nat.le_refl _))⟩
   ·have h1 : decide ((p : Int) + 1 < (bs.length : Int)) = false:=by simp;omega
    have hp60 : (p : Int) ≤ 60:=by unfold rounds at hj;omega
    have hw : wrap64 ((p : Int) + 1) = (p : Int) + 1:=IntWalk.wrap64_in _ (by omega)
    go_wp2_with fail
    all_goals exact bodyPost_ret (v:=.agg #[.int .i64 10,.string ⟨#[]⟩,.slice ao m cap]) (by simp [results,Try.results5,go_sem,g0,g1,g2]) rfl ⟨_,rfl,HF.out,H.out.below.trans (set3_below _ _ _ (Nat.le_refl _))⟩
end Go.Proofs.Ytaecmhlglnmimaa.nd
