/- Ground of the law: Gx1, PvJ, NdPaths, BaIter2, LxTokens, PaP4, NdTree0. -/
import Derived.Test.YthadnhpkeljdoaaQh13
import Derived.Test.YthadnhpkeljdoaaQh01
import Derived.Deep.RegionHeld3
import Derived.Deep.Cut
import Derived.WalkKit
import Derived.Test.YthadnhpkeljdoaaQh02
import Derived.Maps.AppendAt
import Derived.Test.YthadnhpkeljdoaaQh00
import Derived.Test.YthadnhpkeljdoaaQh04
import Derived.Laws.EntriesVeiled
import Derived.RegionIn
import Derived.LoopNIn
import Derived.LoopIn
import Derived.Shelf.RegionOpen
import Derived.RegionTactic
import Derived.Test.YthadnhpkeljdoaaQh08
set_option maxRecDepth 100000
set_option maxHeartbeats 8000000
set_option linter.unusedVariables false
set_option linter.unusedSimpArgs false
namespace Go.Proofs.Ythadnhpkeljdoaa.gn
open Go.Lib (hid)
open Go.RowKit Go.Shelf sx ed
structure GAt (bs : List Int) (B : Nat) (ao : Option Addr) (cap K : Nat) (W : World) : Prop where
 box : Blk W B 59 #[.slice ao bs.length cap,.int .i64 (K : Int)]
 le : K ≤ bs.length
 n6 : bs.length ≤ 60
 byte : ∀ j,j < bs.length → ∃ b off,ao = some ⟨b,off,none⟩ ∧ b ≠ B ∧ b < W.heap.size ∧ (0 ≤ bs.getD j 0 ∧ bs.getD j 0 ≤ 255) ∧ W.cell? ⟨b,off + j,none⟩ = some (.int .u8 (bs.getD j 0))
abbrev GK (B : Nat) (W W' : World) : Prop:=But W.heap.size (fun k=>k = B) W W'
theorem GAt.keep {bs : List Int} {B : Nat} {ao : Option Addr} {cap K : Nat} {W W' : World} (h : GAt bs B ao cap K W) (hk : GK B W W') (hb : W'.heap[B]? = W.heap[B]?) : GAt bs B ao cap K W' :=
 ⟨hb.trans h.box,h.le,h.n6,fun j hj=>by
  obtain ⟨b,off,e,h1,h2,h3,h4⟩:=h.byte j hj
  refine ⟨b,off,e,h1,Nat.lt_of_lt_of_le h2 hk.size,h3,?_⟩
  have : W'.heap[b]? = W.heap[b]?:=hk.block b h2 h1
  simpa [World.cell?,this] using h4⟩
theorem GAt.below {bs : List Int} {B : Nat} {ao : Option Addr} {cap K : Nat} {W W' : World} (h : GAt bs B ao cap K W) (hb : Below W.heap.size W W') : GAt bs B ao cap K W':=h.keep (But.of_below hb) (hb.block B h.box.lt)
theorem GK.trans {B : Nat} {a b c : World} (h : GK B a b) (k : GK B b c) : GK B a c:=But.trans h (But.mono k h.size (fun _ _ e=>e))
theorem GK.of_below {B : Nat} {a b : World} (h : Below a.heap.size a b) : GK B a b:=But.of_below h
def GTo (bs : List Int) (B : Nat) (ao : Option Addr) (cap K : Nat) (v : Value) (W : World) (e : Ending) (W' : World) : Prop:=e = .returned v ∧ GAt bs B ao cap K W' ∧ GK B W W'
abbrev Tells0 (bs : List Int) (f : FuncId) (K : Nat) (v : Value) (K' : Nat) : Prop:=∀ B ao cap W,GAt bs B ao cap K W → Calls Try.prog f #[.pointer (some ⟨B,0,none⟩)] W (GTo bs B ao cap K' v W)
abbrev Tells1 (bs : List Int) (f : FuncId) (x : Value) (K : Nat) (v : Value) (K' : Nat) : Prop:=∀ B ao cap W,GAt bs B ao cap K W → Calls Try.prog f #[.pointer (some ⟨B,0,none⟩),x] W (GTo bs B ao cap K' v W)
theorem wrap_n (k : Nat) (h : k ≤ 1000) : wrap64 (k : Int) = (k : Int) ∧ IntKind.i64.wrap (k : Int) = (k : Int):=by
 have h1 : wrap64 (k : Int) = (k : Int):=IntWalk.wrap64_in _ (by omega)
 exact ⟨h1,(IntWalk.i64_left _).trans h1⟩
theorem wraps_k (K n : Nat) (h : K < n) (h6 : n ≤ 60) : wrap64 ((K : Int) + 1) = (K : Int) + 1 ∧ IntKind.i64.wrap ((K : Int) + 1) = (K : Int) + 1 ∧ wrap64 ((K : Int) + 1 - 1) = (K : Int) ∧ IntKind.i64.wrap ((K : Int) + 1 - 1) = (K : Int) ∧ wrap64 (K : Int) = (K : Int) ∧ IntKind.i64.wrap (K : Int) = (K : Int):=by
 have w1 : wrap64 ((K : Int) + 1) = (K : Int) + 1:=IntWalk.wrap64_in _ (by omega)
 have w3 : wrap64 ((K : Int) + 1 - 1) = (K : Int):=by rw [show (K : Int) + 1 - 1 = (K : Int) by omega];exact (wrap_n K (by omega)).1
 exact ⟨w1,(IntWalk.i64_left _).trans w1,w3,(IntWalk.i64_left _).trans w3,wrap_n K (by omega)⟩
section
variable {bs : List Int}
theorem next_ex (K m : Nat) (z0 : Int) (hz0 : (m : Int) = z0) (hm : 1 ≤ m) (hm2 : m ≤ 255) : ∃ (z : Int) (K' : Nat),(0 ≤ z ∧ z < m) ∧ RowKit.Hid (Tells1 bs 21 (.int .i64 z0) K (.int .i64 z) K'):=by
 subst hz0
 have hm1 : decide ((m : Int) < 1) = false:=decide_eq_false (by omega)
 have hm3 : ¬ ((m : Int) < 1):=by omega
 by_cases hK : K < bs.length
 ·obtain ⟨z,hz⟩ : ∃ z : Nat,(bs.getD K 0).toNat = z:=⟨_,rfl⟩
  obtain ⟨q,hq⟩ : ∃ q,z % m = q:=⟨_,rfl⟩
  have hr : q < m:=by rw [← hq];exact Nat.mod_lt _ hm
  refine ⟨(q : Int),K + 1,⟨by omega,by omega⟩,hid (fun B ao cap W h=>?_)⟩
  have b0:=h.box.cell 0;have b1:=h.box.cell 1;have f1:=h.box.frozen 1
  have HG:=hid h
  obtain ⟨b,off,rfl,hbB,hbl,hzz,hc⟩:=h.byte K hK
  have ez : bs.getD K 0 = (z : Int):=by omega
  rw [ez] at hc
  have hz255 : z ≤ 255:=by omega
  have hn6:=h.n6
  obtain ⟨n,hn⟩ : ∃ n,bs.length = n:=⟨_,rfl⟩
  rw [hn] at hK hn6 b0
  have t1 : decide ((n : Int) ≤ (K : Int)) = false:=decide_eq_false (by omega)
  have t2 : decide (n ≤ K) = false:=decide_eq_false (by omega)
  have hcast : ((K + 1 : Nat) : Int) = (K : Int) + 1:=by omega
  have hrem : ((z : Int).tmod (m : Int)) = (q : Int):=by rw [Int.tmod_eq_emod_of_nonneg (by omega),← hq];exact (Int.natCast_emod z m).symm
  have hrem2 : ((z : Int) % (m : Int)) = (q : Int):=by rw [← hq];exact (Int.natCast_emod z m).symm
  have hzm : q ≤ 255:=by rw [← hq];exact Nat.le_trans (Nat.mod_le _ _) hz255
  have hm0 : ((m : Int) == 0) = false:=by rw [beq_eq_false_iff_ne];omega
  have hm00 : (m : Int) ≠ 0:=by omega
  have hK0 : (0 : Int) ≤ (K : Int):=by omega
  have hKn : (K : Int) < (n : Int):=by omega
  have hKK : K + 1 ≤ bs.length:=by rw [hn];exact hK
  obtain ⟨w1,w2,w3,w4,w5,w6⟩:=wraps_k K n hK hn6
  obtain ⟨W1,hW1⟩ : ∃ W1,W.setCell ⟨B,1,none⟩ (.int .i64 ((K : Int) + 1)) = W1:=⟨_,rfl⟩
  have hk1 : GK B W W1:=by rw [← hW1];exact (But.refl W.heap.size (fun k=>k = B) W).setCell (p:=⟨B,1,none⟩) (fun _=>rfl) _
  have hbx : Blk W1 B 59 #[.slice (some ⟨b,off,none⟩) n cap,.int .i64 ((K : Int) + 1)]:=by
   rw [← hW1,← hn]
   exact Blk.set (W:=W) (o:=1) h.box (.int .i64 ((K : Int) + 1))
  have hg1 : GAt bs B (some ⟨b,off,none⟩) cap (K + 1) W1:=⟨by rw [hcast,hn];exact hbx,hKK,h.n6,fun j hj=>by
   obtain ⟨b',off',e,h1,h2,h3,h4⟩:=h.byte j hj
   refine ⟨b',off',e,h1,Nat.lt_of_lt_of_le h2 hk1.size,h3,?_⟩
   have : W1.heap[b']? = W.heap[b']?:=hk1.block b' h2 h1
   simpa [World.cell?,this] using h4⟩
  have d0:=hbx.cell 0;have d1:=hbx.cell 1
  have hc1 : W1.cell? ⟨b,off + K,none⟩ = some (.int .u8 (z : Int)):=by
   have : W1.heap[b]? = W.heap[b]?:=hk1.block b hbl hbB
   simpa [World.cell?,this] using hc
  have HZ5:=hid (wrap_n z (by omega));have HQ5:=hid (wrap_n q (by omega))
  have HW5:=hid (And.intro w5 w6)
  clear w5 w6
  have HW:=hid hW1;have HG1:=hid hg1;have HK1:=hid hk1;have HR:=hid hr
  clear hW1 hg1 hk1 hr h hc hbl hbB hq hz ez hzz hn hKK
  go_enter Try.func21,Try.ntmps21
  go_wp2_with fail
  go_region
  go_wp2_with fail
  rw [HW.out]
  have w5:=HW5.out.1;have w6:=HW5.out.2
  obtain ⟨z1,z2⟩:=HZ5.out
  obtain ⟨z3,z4⟩:=HQ5.out
  clear w1 w2 w3 w4 hcast
  go_region
  go_wp2_with fail
  go_ret
  exact ⟨rfl,HG1.out.below ((Below.refl _ _).drew.drew),HK1.out.drew.drew⟩
 ·refine ⟨0,K,⟨by omega,by omega⟩,hid (fun B ao cap W h=>?_)⟩
  have b0:=h.box.cell 0;have b1:=h.box.cell 1
  obtain ⟨n,hn⟩ : ∃ n,bs.length = n:=⟨_,rfl⟩
  rw [hn] at hK b0
  have t1 : decide ((n : Int) ≤ (K : Int)) = true:=decide_eq_true (by omega)
  have t2 : decide (n ≤ K) = true:=decide_eq_true (by omega)
  have HG:=hid h
  clear h hn
  go_enter Try.func21,Try.ntmps21
  go_wp2_with fail
  go_region
  go_wp2_with fail
  go_ret
  exact ⟨rfl,HG.out.below (Below.refl _ _).drew,(But.drew (But.refl _ _ _))⟩
def strsOk (mx : Nat) (vs : Array Value) : Bool:=vs.toList.all fun v=>match v with | .string s=>decide (s.size ≤ mx) | _=>false
theorem strs_at {mx : Nat} {vs : Array Value} (h : strsOk mx vs = true) (j : Nat) (hj : j < vs.size) : ∃ s : ByteArray,s.size ≤ mx ∧ vs[j]? = some (.string s):=by
 have h1 : vs[j]? = some vs[j]:=Array.getElem?_eq_getElem hj
 have h2:=List.all_eq_true.1 h vs[j] (Array.getElem_mem_toList hj)
 rw [h1]
 revert h2
 generalize vs[j] = v
 intro h2
 cases v <;> first | (exact ⟨_,of_decide_eq_true h2,rfl⟩) | cases h2
abbrev TellsOf (bs : List Int) (vs : Array Value) (cnt K : Nat) (s : ByteArray) (K' : Nat) : Prop:=∀ B ao cap W t,GAt bs B ao cap K W → Calls Try.prog 34 #[.pointer (some ⟨B,0,none⟩),.slice (some ⟨W.heap.size,0,none⟩) cnt cnt] (W.alloc (.cells vs t)) (GTo bs B ao cap K' (.string s) W)
theorem of_ex (K : Nat) (vs : Array Value) (cnt mx : Nat) (h1 : 1 ≤ cnt) (h2 : cnt ≤ 255) (hc : vs.size = cnt) (hv : strsOk mx vs = true) : ∃ s K',RowKit.Hid (s.size ≤ mx ∧ TellsOf bs vs cnt K s K'):=by
 obtain ⟨z,K',⟨hz0,hz1⟩,hT⟩:=next_ex (bs:=bs) K cnt _ rfl h1 h2
 obtain ⟨r,rfl⟩ : ∃ r : Nat,z = (r : Int):=⟨z.toNat,by omega⟩
 obtain ⟨s,hs,hsv⟩:=strs_at hv r (by omega)
 refine ⟨s,K',hid ⟨hs,fun B ao cap W t h=>?_⟩⟩
 have hb : Below W.heap.size W (W.alloc (.cells vs t)):=(Below.refl _ W).alloc (Nat.le_refl _) _
 have hcell : (W.alloc (.cells vs t)).cell? ⟨W.heap.size,r,none⟩ = some (.string s):=((Blk.new W t vs).cell r).trans hsv
 have hne : W.heap.size ≠ B:=by have:=h.box.lt;omega
 have hlt : W.heap.size < (W.alloc (.cells vs t)).heap.size:=by simp
 obtain ⟨bl,hbl⟩ : ∃ bl,W.heap.size = bl:=⟨_,rfl⟩
 rw [hbl] at hcell hne hlt ⊢
 obtain ⟨W1,hW1⟩ : ∃ W1,W.alloc (.cells vs t) = W1:=⟨_,rfl⟩
 have hn:=hT.out B ao cap W1 (hW1 ▸ h.below hb)
 have hb1 : GK B W W1:=GK.of_below (hW1 ▸ hb)
 rw [hW1] at hcell hlt ⊢
 have HN:=hid hn;have HB:=hid hb1;have HC:=hid hcell;have HNE:=hid hne;have HLT:=hid hlt
 have hr1 : (r : Int) < (cnt : Int):=by omega
 clear hn h hb hb1 hcell hne hlt hW1 hbl hT hsv hv hs
 go_enter Try.func34,Try.ntmps34
 go_wp2_with fail
 ((with_reducible refine HN.out.mono ?_);rintro e w1 ⟨rfl,hg,hk⟩)
 have hc1 : w1.cell? ⟨bl,r,none⟩ = some (.string s):=by
  have e1 : w1.heap[bl]? = W1.heap[bl]?:=hk.block bl HLT.out HNE.out
  have e2:=HC.out
  simpa [World.cell?,e1] using e2
 have hr0 : (0 : Int) ≤ (r : Int):=by omega
 have HG:=hid hg;have HK:=hid (GK.trans HB.out hk)
 clear hg hk
 go_wp2_with fail
 go_ret
 exact ⟨rfl,HG.out,HK.out⟩
theorem cat (a b : ByteArray) {x y : Nat} (ha : a.size ≤ x) (hb : b.size ≤ y) (h : x + y ≤ 4611686018427387904) : ∃ c,a ++ b = c ∧ RowKit.Hid (c.size ≤ x + y) ∧ ¬ (9223372036854775807 < a.size + b.size) :=
 ⟨_,rfl,hid (by rw [ByteArray.size_append];omega),by omega⟩
theorem catR (a b : ByteArray) (n : Nat) {x : Nat} (ha : a.size ≤ x) (hb : b.size = n) (h : x + n ≤ 4611686018427387904) : ∃ c,a ++ b = c ∧ RowKit.Hid (c.size ≤ x + n) ∧ ¬ (9223372036854775807 < a.size + n) :=
 ⟨_,rfl,hid (by rw [ByteArray.size_append];omega),by omega⟩
theorem catL (a b : ByteArray) (n : Nat) {y : Nat} (hb : b.size ≤ y) (ha : a.size = n) (h : n + y ≤ 4611686018427387904) : ∃ c,a ++ b = c ∧ RowKit.Hid (c.size ≤ n + y) ∧ ¬ (9223372036854775807 < n + b.size) :=
 ⟨_,rfl,hid (by rw [ByteArray.size_append];omega),by omega⟩
structure Stt (bs : List Int) (B : Nat) (ao : Option Addr) (cap : Nat) (W0 : World) (K : Nat) (W : World) : Prop where
 g : GAt bs B ao cap K W
 k : GK B W0 W
abbrev SttH (bs : List Int) (B : Nat) (ao : Option Addr) (cap : Nat) (W0 : World) (K : Nat) (W : World) : Prop:=RowKit.Hid (Stt bs B ao cap W0 K W)
theorem st0 {B : Nat} {ao : Option Addr} {cap K : Nat} {W : World} (h : GAt bs B ao cap K W) : SttH bs B ao cap W K W:=hid ⟨h,But.refl _ _ _⟩
theorem stD {B : Nat} {ao : Option Addr} {cap K : Nat} {W : World} (h : GAt bs B ao cap K W) : SttH bs B ao cap W K W.drew:=hid ⟨h.below (Below.refl _ W).drew,(But.refl W.heap.size (fun k=>k = B) W : GK B W W).drew⟩
section
variable {B : Nat} {ao : Option Addr} {cap K K' : Nat} {W0 W : World} {v : Value} {f : FuncId}
theorem go_on (G : SttH bs B ao cap W0 K W) {e : Ending} {W' : World} (h : GTo bs B ao cap K' v W e W') : e = .returned v ∧ SttH bs B ao cap W0 K' W':=⟨h.1,hid ⟨h.2.1,GK.trans G.out.k h.2.2⟩⟩
theorem tB {p : Prop} (H : RowKit.Hid (p ∧ Tells0 bs f K v K')) (G : SttH bs B ao cap W0 K W) : Calls Try.prog f #[.pointer (some ⟨B,0,none⟩)] W fun e W'=>e = .returned v ∧ SttH bs B ao cap W0 K' W':=(H.out.2 _ _ _ _ G.out.g).mono fun _ _ h=>go_on G h
theorem tA {p : Prop} {x : Value} (H : RowKit.Hid (p ∧ Tells1 bs f x K v K')) (G : SttH bs B ao cap W0 K W) : Calls Try.prog f #[.pointer (some ⟨B,0,none⟩),x] W fun e W'=>e = .returned v ∧ SttH bs B ao cap W0 K' W':=(H.out.2 _ _ _ _ G.out.g).mono fun _ _ h=>go_on G h
theorem tN {x : Value} (H : RowKit.Hid (Tells1 bs f x K v K')) (G : SttH bs B ao cap W0 K W) : Calls Try.prog f #[.pointer (some ⟨B,0,none⟩),x] W fun e W'=>e = .returned v ∧ SttH bs B ao cap W0 K' W':=(H.out _ _ _ _ G.out.g).mono fun _ _ h=>go_on G h
theorem tO {p : Prop} {vs : Array Value} {cnt : Nat} {s : ByteArray} {t : TypeId} (H : RowKit.Hid (p ∧ TellsOf bs vs cnt K s K')) (G : SttH bs B ao cap W0 K W) : Calls Try.prog 34 #[.pointer (some ⟨B,0,none⟩),.slice (some ⟨W.heap.size,0,none⟩) cnt cnt] (W.alloc (.cells vs t)) fun e W'=>e = .returned (.string s) ∧ SttH bs B ao cap W0 K' W':=(H.out.2 _ _ _ _ _ G.out.g).mono fun _ _ h=>go_on G h
end
abbrev Ex0 (bs : List Int) (X : Nat) (f : FuncId) (K : Nat) : Prop:=∃ (s : ByteArray) (K' : Nat),RowKit.Hid (s.size ≤ X ∧ Tells0 bs f K (.string s) K')
abbrev Ex1 (bs : List Int) (X : Nat) (f : FuncId) (d : Int) (K : Nat) : Prop:=∃ (s : ByteArray) (K' : Nat),RowKit.Hid (s.size ≤ X ∧ Tells1 bs f (.int .i64 d) K (.string s) K')
structure Gs (bs : List Int) (m : Int) (X : Nat) : Prop where
 pipe : ∀ d : Int,d ≤ m → -100 ≤ d → ∀ K : Nat,Ex1 bs X 22 d K
 post : ∀ d : Int,d ≤ m → -100 ≤ d → ∀ K : Nat,Ex1 bs X 35 d K
end
end Go.Proofs.Ythadnhpkeljdoaa.gn
namespace Go.Proofs.Ythadnhpkeljdoaa.pv
open Go.RowKit
section
variable {P : Program} {ty : Tys} {n : Nat} {G : Gh} {m : Mem} {a : Act} {w : World} {o : Oper} {id : Nat}
structure Appended (base : Nat) (w : World) (e sz : Nat) (v : Value) (k : Nat) (all : List Value) (v' : Value) (w' : World) : Prop where
  own : w'.ownsRow base e sz v' k all
  grow : w.grownBy w' v.ownBlock
  old : ∀ g i x,w.cell? ⟨g,i,none⟩ = some x → (v.ownBlock = some g → i < all.length ∧ all[i]? = some x) → w'.cell? ⟨g,i,none⟩ = some x
  new : ∀ g,v'.ownBlock = some g → v.ownBlock = some g ∨ w.heap.size ≤ g
theorem run_append_owned_none' (base : Nat) (t ty e : TypeId) (i : TypeInfo) (size : Nat) (ht : P.underlying t = some (.slice e)) (hi : P.info? e = some i)
    (v : Value) (n : Nat) (xs : List Value) (hown : w.ownsRow base e size v n xs) (c : Nat) :
    (Builtin.append_ #[t,t] ty #[v,.slice none 0 c]).run P w = .ok v w:=by
  rcases hown.2 with ⟨rfl,rfl⟩ | ⟨g,cap,cur,rfl,_,_,hnc,_⟩
  · simp [Builtin.append_,run_underlying ht,sizeOf,typeInfo,hi,Builtin.lenOf,Builtin.firstCells]
  · simp [Builtin.append_,run_underlying ht,sizeOf,typeInfo,hi,Builtin.lenOf,Builtin.firstCells,hnc,storeCells]
theorem append_run {base : Nat} {t e : TypeId} {y : Ty} {z : Ty} (hy : P.underlying t = some (.slice e)) (hz : TyOk P e z) (hsz : 0 < z.size) (hby : z.bytes ≤ 1048576) {v : Value} {k : Nat} {xs : List Value} (hown : w.ownsRow base e z.size v k xs)
    {b : Option Addr} {c q : Nat} {news : List Value} (hl : news.length = q * z.size) (hb : q ≠ 0 → ∃ ad,b = some ad) (hnews : ∀ ad,b = some ad → ∀ (j : Nat) (u : Value),news[j]? = some u → w.cell? (ad.add j) = some u) (h1 : ∀ u ∈ news,u.oneCell' = true)
    (hlim : k + q ≤ 16777216) (hbase : base ≤ w.heap.size) (tt : TypeId) :
    ∃ v' w',(Builtin.append_ #[t,t] tt #[v,.slice b q c]).run P w = .ok v' w' ∧ Appended base w e z.size v (k + q) (xs ++ news) v' w' ∧ (q = 0 → v' = v):=by
  obtain ⟨i,zv,i1,i2,i3,i4,i5,i6,i7⟩:=hz.info
  have hzc : zv.cells.size = z.size:=by rw [← i7,← i5];simp
  clear hz
  obtain ⟨S,hS⟩ : ∃ S,z.size = S:=⟨_,rfl⟩
  rw [hS] at hsz hown hl i2 i7 hzc ⊢
  clear hS
  cases b with
  | none =>
    have hq : q = 0:=Nat.eq_zero_of_not_pos fun h=>by obtain ⟨ad,h'⟩:=hb (by omega);cases h'
    subst hq
    have hn : news = []:=List.eq_nil_of_length_eq_zero (by simpa using hl)
    subst hn
    exact ⟨v,w,run_append_owned_none' (P:=P) (w:=w) base t tt e i S hy i1 v k xs hown c,⟨(by simpa using hown),⟨rfl,rfl,rfl,Nat.le_refl _,fun _ _ _=>rfl⟩,(fun _ _ _ h _=>h),(fun g h=>.inl h)⟩,fun _=>rfl⟩
  | some ad =>
    have hm : k + q ≤ maxLen:=by unfold maxLen;omega
    have hbytes : (k + q) * z.bytes ≤ 140737488355328:=Nat.le_trans (Nat.mul_le_mul hlim hby) (by omega)
    obtain ⟨v',w',r1,r2,r3,r4⟩:=run_append_own (P:=P) w base t tt e i zv S z.bytes hy i1 i4 i2 i3 hzc hsz v k xs hown ad q c news hl (hnews ad rfl) h1 hm hbytes hbase
    subst i2
    rcases hown.2 with ⟨rfl,rfl⟩ | ⟨g0,cap,cur,rfl,hbg,hg,hnc,hcm,hcs,htake⟩
    · refine ⟨v',w',r1,⟨r2,r3,fun g j x hx _=>?_,fun g hg=>?_⟩,fun hq=>r4.2 ⟨rfl,hq⟩⟩
      · exact (World.cell?_of_block (a:=⟨g,j,none⟩) (r3.block g (lt_of_cell hx) (by simp [Value.ownBlock]))).trans hx
      · by_cases hq : q = 0
        · rw [r4.2 ⟨rfl,hq⟩] at hg;cases hg
        · have hr:=run_append_nil (P:=P) w t tt e i zv hy i1 i4 ad q c news hl (hnews ad rfl) (by omega) (by omega) (by rw [i3];simp only [Nat.zero_add] at hbytes;omega)
          rw [hr] at r1
          cases r1
          simp only [Value.ownBlock,Option.some.injEq] at hg
          exact .inr (by omega)
    · by_cases hroom : k + q ≤ cap
      · have hfit : k * i.size + news.length ≤ cur.size:=by rw [hl,hcs,← Nat.add_mul];exact Nat.mul_le_mul_right _ hroom
        have hr:=run_append_room (P:=P) w t tt e i hy i1 g0 k cap cur hg ad q c news hl (hnews ad rfl) h1 hroom hfit
        rw [hr] at r1
        cases r1
        refine ⟨_,_,hr,⟨r2,r3,fun g j x hx ho=>?_,fun g hg=>.inl hg⟩,fun hq=>by rw [hq,Nat.add_zero]⟩
        by_cases he : g = g0
        · subst he
          obtain ⟨o1,o2⟩:=ho rfl
          rw [cell_setRow_same w g j cur _ e (0,0) hg,List.getElem?_toArray,List.append_assoc,← List.append_assoc,htake,List.getElem?_append_left o1]
          exact o2
        · rw [cell_setRow_other w g0 _ ⟨g,j,none⟩ he];exact hx
      · have holds : ∀ j u,xs[j]? = some u → w.cell? ((⟨g0,0,none⟩ : Addr).add j) = some u:=hown.cells (g:=g0) rfl
        have hr:=run_append_grow (P:=P) w t tt e i zv hy i1 i4 ⟨g0,0,none⟩ k cap xs hown.1 holds ad q c news hl (hnews ad rfl) (by omega) (by omega) (growslice_fits (by omega) (by rw [i3];exact hbytes))
        rw [hr] at r1
        cases r1
        refine ⟨_,_,hr,⟨r2,r3,fun g j x hx _=>?_,fun g hg=>?_⟩,fun hq=>by omega⟩
        · rw [World.cell?_alloc_lt _ _ _ (by simpa using lt_of_cell hx)]
          exact hx
        · simp only [Value.ownBlock,Option.some.injEq] at hg
          exact .inr (by omega)
theorem rows_of {b : Option Addr} {cap : Nat} {k : Tk} {es : List (List D)} {s : Nat} (h : RepC G w (.slice b es.length cap) (.sl k es)) (hs : ∀ c ∈ es,c.length = s) :
    ∃ news,Rows G w s es news ∧ (es.length ≠ 0 → ∃ ad,b = some ad) ∧ (∀ ad,b = some ad → ∀ (j : Nat) (u : Value),news[j]? = some u → w.cell? (ad.add j) = some u ∧ G.imm ad.block (ad.off + j)):=by
  obtain ⟨_,g,q,sz,xs,ha,hc,hr,hl,hm,hk⟩:=repC_sl h
  by_cases hn : es = []
  · subst hn
    exact ⟨[],⟨by simp,(fun c hc=>by cases hc),(fun i c j d h=>by cases h)⟩,fun h=>absurd rfl h,fun ad h j u hu=>by cases hu⟩
  · have hb:=ha hn
    have hsz : s = sz:=by
      cases es with
      | nil=>exact absurd rfl hn
      | cons c r=>rw [← hs c (List.mem_cons_self ..)];exact (hl c (List.mem_cons_self ..)).1
    subst hsz
    have hcell : ∀ p,p < es.length * s → ∃ (c : List D) (d : D),es[p / s]? = some c ∧ c[p % s]? = some d:=fun p hp=>by
      have h0 : 0 < s:=Nat.pos_of_ne_zero fun e=>by rw [e] at hp;simp at hp
      have hi : p / s < es.length:=by rw [Nat.div_lt_iff_lt_mul h0];exact hp
      have hcl:=(hl _ (List.getElem_mem hi)).1
      exact ⟨_,_,List.getElem?_eq_getElem hi,List.getElem?_eq_getElem (by rw [hcl];exact Nat.mod_lt _ h0)⟩
    refine ⟨(List.range (es.length * s)).map fun p=>xs (p / s) (p % s),⟨by simp,hl,fun i c j d h1 h2=>⟨xs i j,?_,hr i c j d h1 h2⟩⟩,fun _=>⟨_,hb⟩,fun ad had j u hu=>?_⟩
    · have hi:=(List.getElem?_eq_some_iff.1 h1).1
      have hj:=(List.getElem?_eq_some_iff.1 h2).1
      rw [(hl c (List.mem_of_getElem? h1)).1] at hj
      have hlt : i * s + j < es.length * s:=by
        have : (i + 1) * s ≤ es.length * s:=Nat.mul_le_mul_right _ (by omega)
        rw [Nat.add_mul] at this;omega
      rw [List.getElem?_map,List.getElem?_range hlt,Option.map_some,Nat.mul_add_mod_self_right,Nat.mod_eq_of_lt hj,Nat.mul_comm i s,Nat.mul_add_div (by omega),Nat.div_eq_of_lt hj,Nat.add_zero]
    · rw [List.getElem?_map] at hu
      obtain ⟨p,hp,rfl⟩:=Option.map_eq_some_iff.1 hu
      have hlt:=(List.getElem?_eq_some_iff.1 hp).1
      rw [List.length_range] at hlt
      rw [List.getElem?_range hlt] at hp
      cases hp
      obtain ⟨c,d,e1,e2⟩:=hcell j hlt
      have:=hc _ _ _ _ e1 e2
      rw [Nat.div_add_mod' j s] at this
      rw [hb] at had
      cases had
      rw [Addr.add_lit]
      exact this
theorem ok_append {t e : TypeId} {y z : Ty} {s x : Operand} {c : Call} (h : Sim n G m a w) (hy : TyOk P t y) (hk : y.kd = .sl e) (hz : TyOk P e z) (hsz : 0 < z.size) (hby : z.bytes ≤ 1048576) (hid : G.tok id = none) (ho : o.op = .call c) (hc : c.callee = .builtin .append) (hargs : c.args.toList = [s,x]) (htys : c.argTypes.toList = [t,t])
    {p : Prop} {d : D} {ws : Mem} (hd : dAppend m id e z (ev m s) (ev m x) = .eff p d ws) (hp : p) : OpOk P o G a w id d ws:=by
  have hu:=hy.kd
  rw [hk] at hu
  have hu : P.underlying t = some (.slice e):=hu
  have hs:=h.ev s;have hx:=h.ev x
  have ha' : c.args = #[s,x]:=by rw [← Array.toArray_toList (xs:=c.args),hargs]
  have ht' : c.argTypes = #[t,t]:=by rw [← Array.toArray_toList (xs:=c.argTypes),htys]
  have run : ∀ {v' w'},(Builtin.append_ #[t,t] o.type #[a.eval s,a.eval x]).run P w = .ok v' w' → (execOp a.eval o).run P w = .ok (.value v') w':=fun hr=>by
    simp [execOp,ho,resolve,hc,ha',ht',invoke,builtin,hr]
  unfold dAppend at hd
  split at hd
  · rename_i k news e1 e2
    cases hd
    obtain ⟨hp1,hp2⟩:=hp
    rw [e1] at hs;rw [e2] at hx
    obtain ⟨b0,cap0,e3,hr0⟩:=rep_sl hs
    obtain ⟨_,g,q,sz,xs,_,_,_,_,_,hk0⟩:=repC_sl hr0
    obtain ⟨_,rfl,rfl⟩:=hk0
    obtain ⟨b,cap,e4,hr⟩:=rep_sl hx
    obtain ⟨vs,hrows,hb,hcells⟩:=rows_of hr hp1
    obtain ⟨v',w',r1,A,_⟩:=append_run (P:=P) (w:=w) (base:=G.base) (t:=t) (e:=e) hu (y:=y) hz hsz hby (World.ownsRow_nil w G.base e z.size) hrows.size hb (fun ad had j u hu=>(hcells ad had j u hu).1) hrows.one (by omega) h.ok.base o.type
    rw [Nat.zero_add,List.nil_append] at A
    obtain ⟨G',ha,hG1,hG2⟩:=after_tok (id:=id) (t:=id) (row:=none) h.ok hsz (.inl rfl) A.own A.grow (fun g i hi=>World.cell?_of_block (a:=⟨g,i,none⟩) (A.grow.block g (h.ok.imm g i hi) (by simp [Value.ownBlock]))) (.inl ⟨hid,rfl⟩) (fun g hg=>(A.new g hg).imp (fun e=>by cases e) (fun e=>e))
    have hr':=hrows.mono ha.step
    exact .of_run (run (by rw [e3,e4];exact r1)) ha (.v (.c (repC_own A.own hG1 hG2 rfl hr'.len hr'.rep)))
  · rename_i t' e' sz' es k news e1 e2
    split at hd
    · rename_i n' en
      cases hb : (sz'.beq z.size && e'.beq e) with
      | false=>rw [hb] at hd;cases hd
      | true =>
        rw [hb] at hd
        rw [Bool.and_eq_true] at hb
        have b1:=Nat.eq_of_beq_eq_true hb.1
        have b2:=Nat.eq_of_beq_eq_true hb.2
        subst b1;subst b2
        cases hd
        obtain ⟨rfl,hp1,hp2⟩:=hp
        rw [e1] at hs;rw [e2] at hx
        obtain ⟨b0,cap0,e3,hr0⟩:=rep_sl hs
        obtain ⟨_,g,q,sz,xs,ha0,hc0,hr0',hl0,hm0,hk0⟩:=repC_sl hr0
        obtain ⟨rfl,T,t1,t2,t3,t4,t5⟩:=hk0
        obtain ⟨T',t6,t7⟩:=h.toks t' _ en
        rw [t1] at t6;cases t6
        have hv:=t5 t7.symm
        obtain ⟨_,hown,himm⟩:=h.ok.tok t' T t1
        rw [t2,t3] at hown
        obtain ⟨b,cap,e4,hr⟩:=rep_sl hx
        obtain ⟨vs,hrows,hb,hcells⟩:=rows_of hr hp1
        have hold : Rows G w z.size es T.xs:=by
          refine ⟨by rw [hown.1,t7],hl0,fun i c j d h1 h2=>?_⟩
          have hi:=(List.getElem?_eq_some_iff.1 h1).1
          have hj:=(List.getElem?_eq_some_iff.1 h2).1
          rw [(hl0 c (List.mem_of_getElem? h1)).1] at hj
          have hlt : i * z.size + j < T.xs.length:=by
            have : (i + 1) * z.size ≤ es.length * z.size:=Nat.mul_le_mul_right _ (by omega)
            rw [Nat.add_mul] at this;rw [hown.1,t7];omega
          have hne : es ≠ []:=fun e=>by rw [e] at hi;simp at hi
          have hb0:=ha0 hne
          rw [hb0] at hv
          have hu:=hown.cells (g:=g) (by rw [← hv];rfl) _ _ (List.getElem?_eq_getElem hlt)
          have hq : q = 0:=by
            rcases hown.2 with ⟨e,_⟩ | ⟨g',cap',cur',e,_⟩
            · rw [e] at hv;cases hv
            · rw [e] at hv
              have:=congrArg (fun v=>match v with | Value.slice (some a) _ _=>a.off | _=>0) hv
              simpa using this
          subst hq
          have hcc:=(hc0 i c j d h1 h2).1
          rw [Addr.add_lit,hcc] at hu
          have hu':=Option.some.inj hu
          exact ⟨_,List.getElem?_eq_getElem hlt,by rw [← hu'];exact hr0' i c j d h1 h2⟩
        obtain ⟨v',w',r1,A,hsame⟩:=append_run (P:=P) (w:=w) (base:=G.base) (t:=t) (e:=e') hu (y:=y) hz hsz hby hown hrows.size hb (fun ad had j u hu=>(hcells ad had j u hu).1) hrows.one (by omega) h.ok.base o.type
        have hcell : ∀ g i,G.imm g i → w'.cell? ⟨g,i,none⟩ = w.cell? ⟨g,i,none⟩:=fun g i hi=>by
          by_cases ho : T.v.ownBlock = some g
          · have hlt:=h.ok.tokImm t' T g i t1 ho hi
            rw [t3,← hown.1] at hlt
            have hu:=hown.cells (g:=g) ho _ _ (List.getElem?_eq_getElem hlt)
            rw [Addr.add_lit,Nat.zero_add] at hu
            rw [hu]
            exact A.old g i _ hu (fun _=>⟨by rw [List.length_append];omega,by rw [List.getElem?_append_left hlt];exact List.getElem?_eq_getElem hlt⟩)
          · exact World.cell?_of_block (a:=⟨g,i,none⟩) (A.grow.block g (h.ok.imm g i hi) (fun e=>ho e.symm))
        obtain ⟨G',ha,hG1,hG2⟩:=after_tok (id:=id) (t:=t') (row:=T.v.ownBlock) h.ok hsz (.inr ⟨T,t1⟩) A.own A.grow hcell (.inr ⟨T,t1,rfl,t2,t3,Nat.le_add_right _ _,fun e=>hsame (by omega)⟩) A.new
        have hr':=(hold.app hrows).mono ha.step
        rw [t7] at ha hG1 hG2 A
        refine .of_run (run (by rw [e3,e4,hv];exact r1)) ha (.v (.c (repC_own A.own hG1 hG2 (by rw [List.length_append]) hr'.len hr'.rep)))
    · cases hd
  · cases hd
end
end Go.Proofs.Ythadnhpkeljdoaa.pv
namespace Go.Proofs.Ythadnhpkeljdoaa.nd
open Go.RowKit Go.Shelf sx ed
attribute [local go_sem] Oper.semAt_some
def ints (l : List Nat) : List Int:=l.map fun (n : Nat)=>(n : Int)
def Frsh (a b : Nat) (k : Nat) : Prop:=a ≤ k ∧ k < b
theorem cloneI_calls (S : Nat → Prop) (l : List Int) (hl : l.length ≤ 1000000) (w : World) (u : Value) (hu : IntsAt S w u l) :
    Calls Try.prog 14 #[u] w fun e w'=>∃ ao cap,e = .returned (.slice ao l.length cap) ∧ IntsAt (Frsh w.heap.size w'.heap.size) w' (.slice ao l.length cap) l ∧ Below w.heap.size w w':=by
  obtain ⟨ao,cap,rfl,hm,hlc,hr⟩:=hu
  by_cases hn : l = []
  · subst hn
    cases ao with
    | none =>
      refine (Try.slices_Clone_int_nil 0 cap w).mono ?_
      rintro e w' ⟨rfl,rfl⟩
      exact ⟨none,0,rfl,⟨none,0,rfl,Nat.zero_le _,Nat.le_refl _,fun h=>absurd rfl h⟩,Below.refl _ _⟩
    | some a =>
      refine (Try.slices_Clone_int_zero a cap w).mono ?_
      rintro e w' ⟨v,rfl,ho,_,hb⟩
      obtain ⟨ao,c,rfl,_⟩:=own_len' ho
      exact ⟨ao,c,rfl,⟨ao,c,rfl,Nat.zero_le _,Nat.zero_le _,fun h=>absurd rfl h⟩,hb⟩
  · obtain ⟨g,o,rfl,_,hc⟩:=hr hn
    refine (Try.slices_Clone_int g o l.length cap l w (Nat.le_refl _) (by omega) (fun j hj=>hc j _ (by rw [List.getD_eq_getElem?_getD,List.getElem?_eq_getElem hj];rfl))).mono ?_
    rintro e w' ⟨v,rfl,ho,_,hb⟩
    obtain ⟨ao,c,rfl,hcc⟩:=own_len' ho
    refine ⟨ao,c,rfl,⟨ao,c,rfl,hm,hcc,fun _=>?_⟩,hb⟩
    rcases ho.2 with ⟨_,h0⟩ | ⟨g',cap',cur,e,h2,h3,h4⟩
    · exact absurd (List.length_eq_zero_iff.1 h0) hn
    · cases e
      refine ⟨g',0,rfl,ho.lt g' rfl,fun j z hj=>?_⟩
      have:=ho.cells (g:=g') rfl j (.int .i64 z) (by rw [List.take_length];simp [hj])
      rw [addr_add] at this
      exact this
theorem infoP : (Try.prog.info? 31).map (fun i=>(i.zero,i.size,i.bytes)) = some (some (.slice none 0 0),1,24):=by kernel_rfl
def ListsAt (S : Nat → Prop) (W : World) (L : List Value) (ps : List (List Int)) : Prop:=L.length = ps.length ∧ ∀ (i : Nat) (q : List Int),ps[i]? = some q → ∃ cv,L[i]? = some cv ∧ IntsAt S W cv q
theorem ListsAt.keep {S S' : Nat → Prop} {W W' : World} {L : List Value} {ps : List (List Int)} (h : ListsAt S W L ps) (hS : ∀ k,S k → S' k) (hk : ∀ k,S k → W'.heap[k]? = W.heap[k]?) : ListsAt S' W' L ps :=
  ⟨h.1,fun i q hq=>by obtain ⟨cv,h1,h2⟩:=h.2 i q hq;exact ⟨cv,h1,h2.keep hS hk⟩⟩
theorem ListsAt.snoc {S : Nat → Prop} {W : World} {L : List Value} {ps : List (List Int)} {cv : Value} {q : List Int} (h : ListsAt S W L ps) (hq : IntsAt S W cv q) : ListsAt S W (L ++ [cv]) (ps ++ [q]):=by
  refine ⟨by simp [h.1],fun i q' hq'=>?_⟩
  by_cases hi : i < ps.length
  · rw [List.getElem?_append_left hi] at hq'
    obtain ⟨c,h1,h2⟩:=h.2 i q' hq'
    exact ⟨c,by rw [List.getElem?_append_left (by rw [h.1];exact hi)];exact h1,h2⟩
  · rw [List.getElem?_append_right (by omega)] at hq'
    have hi0 : i - ps.length = 0:=by
      rcases Nat.eq_zero_or_pos (i - ps.length) with h | h
      · exact h
      · rw [List.getElem?_eq_none (by simp;omega)] at hq';cases hq'
    rw [hi0] at hq'
    cases hq'
    exact ⟨cv,by rw [List.getElem?_append_right (by rw [h.1];omega),h.1,hi0];rfl,hq⟩
def SP (G : Nat) (D : Nat → Prop) (v : Value) (W : World) (k : Nat) : Prop:=G ≤ k ∧ k < W.heap.size ∧ ¬ D k ∧ v.ownBlock ≠ some k
def PI (w : World) (N G : Nat) (pre : List Told) (D : Nat → Prop) (W : World) : Prop :=
  (∃ v L,BX N 28 v D W ∧ W.ownsRow G 31 1 v pre.length L ∧ (∀ k,v.ownBlock = some k → ¬ D k) ∧ ListsAt (SP G D v W) W L (pre.map fun x=>ints x.1) ∧ G ≤ W.heap.size) ∧ IB w D W
theorem PI.ab (w : World) (N G : Nat) : AbD (PI w N G):=fun s D D' A B ⟨⟨v,L,h1,h2,h3,h4,h6⟩,h5⟩ hb hD=>by
  refine ⟨⟨v,L,h1.ab hb hD,own_keep h2 (fun k e=>hb.block k (h2.lt k e).2 (h3 k e)),fun k e hd=>?_,h4.keep (fun k hk=>⟨hk.1,Nat.lt_of_lt_of_le hk.2.1 hb.size,fun hd=>?_,hk.2.2.2⟩) (fun k hk=>hb.block k hk.2.1 hk.2.2.1),Nat.le_trans h6 hb.size⟩,h5.ab hb hD⟩
  · rcases hD k hd with h | h
    · exact h3 k e h
    · have:=(h2.lt k e).2;omega
  · rcases hD k hd with h | h
    · exact hk.2.2.1 h
    · have:=hk.2.1;omega
theorem ints_own {S : Nat → Prop} {X Y : World} {row : Option Nat} {v : Value} {l : List Int} (h : IntsAt S X v l) (hg : X.grownBy Y row) (hr : ∀ r,row = some r → ∃ o : Obj,X.heap[r]? = some o ∧ o.isCells = false) : IntsAt S Y v l:=by
  obtain ⟨ao,cap,e,hm,hlc,hx⟩:=h
  refine ⟨ao,cap,e,hm,hlc,fun hn=>?_⟩
  obtain ⟨g,o,e',hs,hc⟩:=hx hn
  exact ⟨g,o,e',hs,fun j z hj=>cell_kept (hc j z hj) hg hr⟩
theorem PI.own (w : World) (N G B : Nat) (hB : w.heap.size ≤ B) (D : Nat → Prop) : OwnFrom B (fun s W=>PI w N G s D W):=fun s X Y row ⟨⟨v,L,h1,h2,h3,h4,h6⟩,h5⟩ hg hr =>
  ⟨⟨v,L,h1.own hg (fun r e=>(hr r e).2),row_own G 31 1 (fun (_ : Unit)=>v) (fun _=>s.length) (fun _=>L) () X Y row h2 hg (fun r e=>(hr r e).2),h3,⟨h4.1,fun i q hq=>by
    obtain ⟨cv,e1,e2⟩:=h4.2 i q hq
    exact ⟨cv,e1,ints_own (e2.keep (fun k hk=>⟨hk.1,Nat.lt_of_lt_of_le hk.2.1 hg.size,hk.2.2⟩) (fun _ _=>rfl)) hg (fun r e=>(hr r e).2)⟩⟩,Nat.le_trans h6 hg.size⟩,h5.own hB hg (fun r e=>(hr r e).1)⟩
end Go.Proofs.Ythadnhpkeljdoaa.nd
namespace Go.Proofs.Ythadnhpkeljdoaa.nd
open Go.Lib (hid)
open Go.RowKit sx ed
attribute [local go_sem] Oper.semAt_some
theorem sought_all (x : Nd) (hct : x.count ≤ 1000000) (n n0 Bn : Nat) (w : World) (hn0 : n0 ≤ w.heap.size) (ao : Option Addr) (cap : Nat) (Bi : Nat) (hb : Blk w Bn 25 #[.int .i64 x.k,.string x.t,.slice ao x.kids.len cap]) (hk : KidsAt (Lt n0) w x.kids (.slice ao x.kids.len cap)) :
  SeqE Fence.wide n Try.prog 23 #[.pointer (some ⟨Bi,0,none⟩),.pointer (some ⟨Bn,0,none⟩)] (TellsB n0) n0 (fun W=>Blk W Bi 41 #[.func (.func 13) #[] #[]]) (x.walkB []) w:=fun l J W hW hJ hCk hY h0=>by
 have hws:=hW.size
 obtain ⟨Wf,hWf⟩ : ∃ Wf,((W.alloc (.cells #[.func (.yield l) #[] #[]] 62)).alloc (.cells #[.slice none 0 0] 31)).alloc (.cells #[.func (.func 24) #[] #[.pointer (some ⟨Bi,0,none⟩),.pointer (some ⟨W.heap.size,0,none⟩),.pointer (some ⟨W.heap.size + 1,0,none⟩),.pointer (some ⟨W.heap.size + 1 + 1,0,none⟩)]] 41) = Wf:=⟨_,rfl⟩
 have hbf : Below W.heap.size W Wf:=by rw [← hWf];exact (((Below.refl _ W).alloc (Nat.le_refl _) _).alloc (by simp) _).alloc (by simp;omega) _
 have hsz : Wf.heap.size = W.heap.size + 3:=by rw [← hWf];simp
 have k1 : Blk Wf W.heap.size 62 #[.func (.yield l) #[] #[]]:=by rw [← hWf];exact ((Blk.new W _ _).alloc _).alloc _
 have k2 : Blk Wf (W.heap.size + 1) 31 #[.slice none 0 0]:=by
  rw [← hWf]
  simpa using (Blk.new (W.alloc (.cells #[.func (.yield l) #[] #[]] 62)) 31 #[.slice none 0 0]).alloc (.cells #[.func (.func 24) #[] #[.pointer (some ⟨Bi,0,none⟩),.pointer (some ⟨W.heap.size,0,none⟩),.pointer (some ⟨W.heap.size + 1,0,none⟩),.pointer (some ⟨W.heap.size + 1 + 1,0,none⟩)]] 41)
 have k3 : Blk Wf (W.heap.size + 1 + 1) 41 #[.func (.func 24) #[] #[.pointer (some ⟨Bi,0,none⟩),.pointer (some ⟨W.heap.size,0,none⟩),.pointer (some ⟨W.heap.size + 1,0,none⟩),.pointer (some ⟨W.heap.size + 1 + 1,0,none⟩)]]:=by
  rw [← hWf]
  simpa using Blk.new ((W.alloc (.cells #[.func (.yield l) #[] #[]] 62)).alloc (.cells #[.slice none 0 0] 31)) 41 #[.func (.func 24) #[] #[.pointer (some ⟨Bi,0,none⟩),.pointer (some ⟨W.heap.size,0,none⟩),.pointer (some ⟨W.heap.size + 1,0,none⟩),.pointer (some ⟨W.heap.size + 1 + 1,0,none⟩)]]
 have hInv : InvB n0 W.heap.size Bi W.heap.size (W.heap.size + 1) (W.heap.size + 1 + 1) l J [] [] (fun k=>W.heap.size ≤ k ∧ k < Wf.heap.size) (.slice none 0 0) Wf :=
  ⟨hJ _ _ _ W _ h0 (But.of_below hbf) (fun k hk=>.inr hk.1),fun k hk=>hk,⟨Nat.le_refl _,by omega⟩,⟨by omega,by omega⟩,⟨by omega,by omega⟩,k1,k2,k3,World.ownsRow_nil _ _ _ _,fun k hk=>by cases hk⟩
 have hbw:=(hW.trans (hbf.mono hW.size))
 have hnd : NdAt (Lt n0) Wf x (.agg #[.int .i64 x.k,.string x.t,.slice ao x.kids.len cap]):=NdAt.mk (hk.below hbw hn0)
 have hbx:=hb.own hbw
 have b0:=hbx.cell 0;have b1:=hbx.cell 1;have b2:=hbx.cell 2
 have dd:=k3.cell 0
 have hdn:=downB_ok x n0 W.heap.size Bi W.heap.size (W.heap.size + 1) (W.heap.size + 1 + 1) l J hJ (by omega) hCk (x.walkB [])
  (fun m pre y rest D W1 vs h1 h2 h3 h4=>YieldAt.anyDepth rfl m (hY pre y rest D W1 vs h1 h2 h3 h4)) (n - 1) [] [] [] _ _ Wf _ (by simpa using hct) hInv hnd (by simp)
 have HD:=hid hdn
 clear hdn hInv hnd hbx hbw hY h0 k1 k2 k3 hbf hb hk
 refine callsIn_of_wp Try.func23 rfl trivial ?_ rfl
 simp only [Try.ntmps23,List.size_toArray,List.length_cons,List.length_nil,Nat.reduceAdd,Nat.reduceSub,Array.replicate_succ,Array.replicate_zero,List.push_toArray,List.append_toArray,List.nil_append,List.cons_append]
 gi_wp2_with fail
 refine ⟨trivial,fun h=>(by cases h),?_⟩
 refine HD.out.mono ?_
 rintro e V' ⟨rfl,D',v',hI,hF⟩
 have HI:=hid hI.j
 clear hI hF
 gi_wp2_with fail
 refine bodyPost_end (results_none rfl _ _ _) rfl ?_
 exact ⟨⟨_,rfl⟩,D',HI.out⟩
theorem sought_calls (x : Nd) (w : World) (ao : Option Addr) (cap : Nat) (n : Nat) :
  CallsIn Fence.wide n Try.prog 12 #[.agg #[.int .i64 x.k,.string x.t,.slice ao x.kids.len cap],.func (.func 13) #[] #[]] w fun e w' =>
   e = .returned (.func (.func 23) #[] #[.pointer (some ⟨w.heap.size + 1,0,none⟩),.pointer (some ⟨w.heap.size,0,none⟩)]) ∧ w' = (w.alloc (.cells #[.int .i64 x.k,.string x.t,.slice ao x.kids.len cap] 25)).alloc (.cells #[.func (.func 13) #[] #[]] 41):=by
 refine callsIn_of_wp Try.func12 rfl trivial ?_ rfl
 simp only [Try.ntmps12,List.size_toArray,List.length_cons,List.length_nil,Nat.reduceAdd,Nat.reduceSub,Array.replicate_succ,Array.replicate_zero,List.push_toArray,List.append_toArray,List.nil_append,List.cons_append]
 gi_wp2_with fail
 go_ret
 exact ⟨rfl,rfl⟩
end Go.Proofs.Ythadnhpkeljdoaa.nd
namespace Go.Proofs.Ythadnhpkeljdoaa.lx
open Go.RowKit Go.Shelf
open sg (lst_len extract_drop ext_size)
open sx
attribute [local go_sem] Oper.semAt_some
theorem infoTok : (Try.prog.info? 54).map (fun i=>(i.zero,i.size,i.bytes)) = some (some (.agg #[.int .i64 0,.string ⟨#[]⟩]),2,24):=by kernel_rfl
def tokCells (l : List Lx.Tok) : List Value:=l.flatMap fun t=>[.int .i64 t.1,.string ⟨t.2.toArray⟩]
theorem tokCells_snoc (l : List Lx.Tok) (t : Lx.Tok) : tokCells (l ++ [t]) = tokCells l ++ [.int .i64 t.1,.string ⟨t.2.toArray⟩]:=by simp [tokCells]
def tokensF (l : List UInt8) (chk : Int) : List Lx.Tok × Int × Int :=
 if 65536 < l.length then ([],3,0) else if 0 ≤ chk then ([],10,chk)
 else if (Lx.lexA Lx.start l).2 = 0 then ((Lx.lexA Lx.start l).1,0,0) else ([],(Lx.lexA Lx.start l).2,(Lx.size (Lx.lexA Lx.start l).1 : Int))
theorem own_slice {W : World} {base size n : Nat} {e : TypeId} {v : Value} {xs : List Value} (h : W.ownsRow base e size v n xs) : ∃ ao len cap,v = .slice ao len cap:=by
 rcases h.2 with ⟨rfl,_⟩ | ⟨g,cap,cur,rfl,_⟩
 ·exact ⟨_,_,_,rfl⟩
 ·exact ⟨_,_,_,rfl⟩
theorem own_base {W : World} {base base' size n : Nat} {e : TypeId} {v : Value} {xs : List Value} (h : W.ownsRow base e size v n xs) (hb : base' ≤ base) : W.ownsRow base' e size v n xs:=by
 refine ⟨h.1,?_⟩
 rcases h.2 with hn | ⟨g,cap,cur,h1,h2,h3⟩
 ·exact .inl hn
 ·exact .inr ⟨g,cap,cur,h1,Nat.le_trans hb h2,h3⟩
theorem ownsRow_below {W z : World} {base : Nat} {e : TypeId} {size : Nat} {v : Value} {k : Nat} {xs : List Value} (h : W.ownsRow base e size v k xs) (hz : Below W.heap.size W z) : z.ownsRow base e size v k xs:=by
 refine ⟨h.1,?_⟩
 rcases h.2 with hn | ⟨g,cap,cur,h1,h2,h3,h4⟩
 ·exact .inl hn
 ·exact .inr ⟨g,cap,cur,h1,h2,(hz.block g (Array.getElem?_eq_some_iff.1 h3).1).trans h3,h4⟩
theorem keeps_below {W z : World} (hz : Below W.heap.size W z) : KeepsOthers W z:=⟨hz.size,fun k o hk _=>(hz.block k (Array.getElem?_eq_some_iff.1 hk).1).trans hk⟩
theorem appended {W1 z u : World} {B3 k size : Nat} {e : TypeId} {v : Value} {xs : List Value} {tmp : Obj} (hz : Below W1.heap.size W1 z) (hrow : W1.ownsRow B3 e size v k xs) (hgrow : (z.alloc tmp).grownBy u v.ownBlock) (h3 : B3 ≤ W1.heap.size) :
  (∀ b t y,Boxed W1 b t y → b < B3 → Boxed u b t y) ∧ KeepsOthers W1 u ∧ Below B3 W1 u ∧ (∀ b t vs,t ≠ e → Blk W1 b t vs → Blk u b t vs):=by
 have hzs:=hz.size
 have hge : ∀ j,v.ownBlock = some j → B3 ≤ j:=fun j hj=>(hrow.lt j hj).1
 have hty : ∀ j,v.ownBlock = some j → ∃ cur,W1.heap[j]? = some (.cells cur e (0,0)):=by
  intro j hj
  rcases hrow.2 with ⟨rfl,_⟩ | ⟨g,cap,cur,rfl,_,hgb,_⟩
  ·simp [Value.ownBlock] at hj
  ·obtain rfl : g = j:=by simpa [Value.ownBlock] using hj
   exact ⟨cur,hgb⟩
 refine ⟨fun b t y hb hlt=>?_,?_,?_,?_⟩
 ·have hb1 : Boxed z b t y:=(hz.block b hb.lt).trans hb
  exact (hb1.alloc tmp).kept hgrow (fun e'=>by have:=hge b e'.symm;omega)
 ·refine ((keeps_below hz).trans (KeepsOthers.alloc z tmp)).trans (KeepsOthers.of_grownBy hgrow fun j o ej hj=>?_)
  obtain ⟨cur,hgb⟩:=hty j ej
  have hl:=(Array.getElem?_eq_some_iff.1 hgb).1
  have e1 : (z.alloc tmp).heap[j]? = some (.cells cur e (0,0)):=(Below.heap_alloc z tmp j (by omega)).trans ((hz.block j hl).trans hgb)
  rw [e1] at hj;cases hj;rfl
 ·exact ((hz.mono h3).alloc (by omega) tmp).grown hgrow (by simp;omega) hge
 ·intro b t vs ht hb
  refine ((hb.own hz).alloc tmp).kept hgrow (fun e'=>?_)
  obtain ⟨cur,hgb⟩:=hty b e'.symm
  rw [show W1.heap[b]? = _ from hb] at hgb
  injection hgb with hgb;injection hgb with _ h2 _
  exact ht h2
theorem cell_two_new (w : World) (a b : Value) (t : TypeId) : ∀ j u,[a,b][j]? = some u → (w.alloc (.cells #[a,b] t)).cell? ((⟨w.heap.size,0,none⟩ : Addr).add j) = some u:=by
 intro j u hu
 have hb:=(Blk.new w t #[a,b]).cell j
 match j,hu with
 | 0,hu=>cases hu;exact hb
 | 1,hu=>cases hu;exact hb
 | n + 2,hu=>simp at hu
end Go.Proofs.Ythadnhpkeljdoaa.lx
namespace Go.Proofs.Ythadnhpkeljdoaa.pa
open Go.RowKit nd pr sx ed
theorem tok_lt {E : Env} {i : Nat} {t : Tk} (h : tk E i = t) (hk : t.1 ≠ 0) : i < E.l.length:=tk_lt h (fun e=>hk (by rw [e];rfl))
end Go.Proofs.Ythadnhpkeljdoaa.pa
namespace Go.Proofs.Ythadnhpkeljdoaa.nd
open Go.RowKit sx ed
def rounds (n : Nat) : Nat:=min (n / 2) 30
end Go.Proofs.Ythadnhpkeljdoaa.nd
