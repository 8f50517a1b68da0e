/- Ground of the law: PrLaw, LxFns, PaMap, PaKind, LxIndex, PaEnv. -/
import Derived.Test.YtlklhkkjcfmefaaGreatDoorQe09
import Derived.ProofKit
import Derived.LaidMore
import Derived.Lay
import Derived.Stop.Joined
import Derived.Deep.Slices
import Derived.Test.YtlklhkkjcfmefaaGreatDoorQe03
import Derived.Test.YtlklhkkjcfmefaaGreatDoorQe01
import Derived.RangeFuncBox
import Derived.Deep.QuietTactic
import Derived.BigQuiet
import Derived.Test.YtlklhkkjcfmefaaGreatDoorQe10
import Derived.DeepKeys4
import Derived.Maps.Own
import Derived.Maps.OwnIn
import Derived.Test.YtlklhkkjcfmefaaGreatDoorProg
import Derived.Test.YtlklhkkjcfmefaaGreatDoorQe05
import Derived.Laws.Runes
import Derived.Deep.LoopGhost
import Derived.WalkMore
import Derived.Test.YtlklhkkjcfmefaaGreatDoorQe06
set_option maxRecDepth 100000
set_option maxHeartbeats 8000000
set_option linter.unusedVariables false
set_option linter.unusedSimpArgs false
namespace Go.Proofs.YtlklhkkjcfmefaaGreatDoor.pr
open Go.RowKit Go.ChangeShapes Go.WideShapes Go.ChangeAt Go.Deep Go.Shelf sx
def laid : List (String × DataW Unit):=[("subeditor/prec.levels",Rows.laid_subeditor_prec_levels)]
def litRow (m : Nat) : DataW Unit:=.agg [.lit (.int .i64 (sideM m)),.slice ((List.range (cnt m)).map fun k=>.lit (.string (txt (strt m + k)).data.toList)) []]
theorem laid_list : (Rows.laid_subeditor_prec_levels : DataW Unit) = .agg ((List.range 9).map litRow):=by kernel_rfl
theorem two_of {l : List Value} {i : Nat} (h : i + 1 < l.length) : (l.drop i).take 2 = [l[i],l[i + 1]]:=by
 rw [List.drop_eq_getElem_cons (by omega),List.drop_eq_getElem_cons h];rfl
theorem cellsI : Tryz.prog.cellsOf 3 = 1:=by kernel_rfl
theorem cellsS : Tryz.prog.cellsOf 9 = 1:=by kernel_rfl
theorem cellsL : Tryz.prog.cellsOf 42 = 1:=by kernel_rfl
theorem cellsR : Tryz.prog.cellsOf 216 = 2:=by kernel_rfl
theorem lv_of_laid {W : World} (h : laidMetH Tryz.prog laid W) : LvAt W:=by
 rw [MakeChecks.laidMetH_plain _ _ _ (by kernel_rfl)] at h
 obtain ⟨ps,⟨g,t,cs,fuel,p,q,hg,ht,hv,hd,_,_⟩,_,_⟩:=h
 obtain rfl:=Option.some.inj ((show Tryz.prog.globalNamed "subeditor/prec.levels" = some 2 by kernel_rfl).symm.trans hg)
 obtain rfl:=Option.some.inj ((show (Tryz.prog.globals[2]?).map (·.type) = some 217 by kernel_rfl).symm.trans ht)
 obtain ⟨xs,n,_,ex,hcl,hl,hel⟩:=DataW.trod_array Tryz.underlying217 hd
 rw [show Tryz.prog.cellsOf 217 = 18 by kernel_rfl] at hcl
 have hcell : ∀ j v,cs.toList[j]? = some v → W.cell? ⟨2,j,none⟩ = some v:=by
  intro j v hj
  rw [World.var?_cell hg hv j]
  simpa using hj
 have key : ∀ m,m < 9 → LevAt W cs.toList m:=by
  intro m hm
  have hE:=hel m hm
  rw [cellsR,List.getElem?_eq_getElem (by omega : m < xs.length),two_of (by omega)] at hE
  have hxm : (xs[m]'(by omega)).1 = litRow m:=by
   rw [laid_list] at ex
   have e3 : (xs.map (·.1)) = (List.range 9).map litRow:=(DataW.agg.inj (Prod.mk.inj ex).1).symm
   have e4 : (xs.map (·.1))[m]? = ((List.range 9).map litRow)[m]?:=by rw [e3]
   rw [List.getElem?_map,List.getElem?_map,List.getElem?_eq_getElem (by omega : m < xs.length),List.getElem?_eq_getElem (by simpa using hm)] at e4
   simpa using e4
  obtain ⟨a,ha⟩ : ∃ a,cs.toList[m * 2]'(by omega) = a:=⟨_,rfl⟩
  obtain ⟨b,hb⟩ : ∃ b,cs.toList[m * 2 + 1]'(by omega) = b:=⟨_,rfl⟩
  have ha' : cs.toList[m * 2]? = some a:=by rw [← ha];exact List.getElem?_eq_getElem _
  have hb' : cs.toList[m * 2 + 1]? = some b:=by rw [← hb];exact List.getElem?_eq_getElem _
  rw [ha,hb] at hE
  obtain ⟨ys,k,_,hxy,_,hyl,hfl⟩:=DataW.trod_struct Tryz.underlying216 hE
  match ys,hyl with
  | [y0,y1],_ =>
   have q0:=hfl 0 _ rfl
   have q1:=hfl 1 _ rfl
   simp [cellsI,cellsL] at q0 q1
   obtain ⟨n0,e0,r0,_⟩:=DataW.trod_int Tryz.underlying3 q0
   rw [hxy] at hxm
   unfold litRow at hxm
   simp only [List.map_cons,List.map_nil,DataW.agg.injEq,List.cons.injEq,and_true] at hxm
   obtain ⟨h1,h2⟩:=hxm
   rw [r0] at h1
   simp only [DataW.lit.injEq,Lit.int.injEq,true_and] at h1
   rcases open_slice1 Tryz.underlying42 cellsS q1 with ⟨hcs,hx⟩ | ⟨a',len,cap,mm,n',V,D,Pl,hcs,_,hle,hmx,hmm,hx,hall⟩
   ·rw [hx] at h2;simp at h2
   ·rw [hx] at h2
    simp only [DataW.slice.injEq] at h2
    have hlen : len = cnt m:=by have:=congrArg List.length h2.1;simpa using this
    subst hlen
    have hlm : cnt m ≤ mm:=by rw [hmm];split <;> omega
    have hD : ∀ k,k < cnt m → W.cell? (a'.add k) = some (.string (txt (strt m + k))):=by
     intro k hk
     obtain ⟨hc,ht⟩:=hall k (by omega)
     obtain ⟨z,e1,e2,_⟩:=DataW.trod_string Tryz.underlying9 ht
     have e3 : D k = .lit (.string (txt (strt m + k)).data.toList):=by
      have:=congrArg (fun l=>l[k]?) h2.1
      simpa [hk] using this
     have e4 : z.data.toList = (txt (strt m + k)).data.toList:=by
      have:=(Prod.mk.inj e2).1
      rw [e3] at this
      simpa using this.symm
     have e5 : z = txt (strt m + k):=ByteArray.ext (Array.ext' e4)
     rw [hc,List.cons.inj e1 |>.1,e5]
    have hc1:=(cnt_le m hm).2
    obtain ⟨g,o,spot⟩:=a'
    have hspot : spot = none:=by simpa [Addr.add] using World.cell?_spot (hD 0 (by omega))
    subst hspot
    refine ⟨?_,g,o,cap,?_,?_,fun k hk=>?_⟩
    ·rw [ha',(List.cons.inj e0).1,h1]
    ·rw [hb',(List.cons.inj hcs).1]
    ·have:=hD 0 (by omega)
     rw [add_plain] at this
     exact World.block_lt_of_cell? W _ this
    ·rw [← add_plain];exact hD k hk
 have hlt : 2 < W.heap.size:=World.block_lt_of_cell? W _ (hcell _ _ (key 0 (by omega)).side)
 exact ⟨hlt,cs.toList,hcl,fun j v hj=>by rw [Nat.zero_add];exact hcell j v hj,key⟩
theorem laid_met (os : Os) (args : Array Value) : laidMetH Tryz.prog laid ((World.laidAll Tryz.prog os laid).forCall (fun _ _=>0) ⟨#[],args,[]⟩).memory:=by
 rw [MakeChecks.laidMetH_plain _ _ _ (by kernel_rfl)];exact laidMet_laidAll _ (by kernel_rfl) (by kernel_rfl)
end Go.Proofs.YtlklhkkjcfmefaaGreatDoor.pr
namespace Go.Proofs.YtlklhkkjcfmefaaGreatDoor.lx
open Go.Lib (hid)
open Go.RowKit Go.Shelf
open sg (lst_len extract_drop ext_size)
open sx
theorem just_calls (t : ByteArray) (w : World) : Calls Tryz.prog 144 #[.string t] w fun e w'=>e = .returned (.func (.func 180) #[] #[.pointer (some ⟨w.heap.size,0,none⟩)]) ∧ w' = w.alloc (.cells #[.string t] 9):=by
 go_enter Tryz.func144,Tryz.ntmps144
 go_wp2
 go_ret
 exact ⟨rfl,rfl⟩
theorem row_calls (v : Value) (w : World) (g : Nat) (hv : v = .func (.func g) #[] #[]) : Calls Tryz.prog 171 #[v] w fun e w'=>e = .returned (.func (.func 197) #[] #[.pointer (some ⟨w.heap.size,0,none⟩)]) ∧ w' = w.alloc (.cells #[v] 53):=by
 subst hv
 go_enter Tryz.func171,Tryz.ntmps171
 go_wp2
 go_ret
 exact ⟨rfl,rfl⟩
theorem marked_calls (t : ByteArray) (v : Value) (w : World) (g : Nat) (lb : Array Value) (hv : v = .func (.func g) #[] lb) : Calls Tryz.prog 175 #[.string t,v] w fun e w'=>e = .returned (.func (.func 202) #[] #[.pointer (some ⟨w.heap.size,0,none⟩),.pointer (some ⟨w.heap.size + 1,0,none⟩)]) ∧ w' = (w.alloc (.cells #[.string t] 9)).alloc (.cells #[v] 70):=by
 subst hv
 go_enter Tryz.func175,Tryz.ntmps175
 go_wp2
 go_ret
 exact ⟨rfl,rfl⟩
theorem just1_calls (t : ByteArray) (ht : t.size ≤ 100) (B : Nat) (s : ByteArray) (w : World) (hc : w.cell? ⟨B,0,none⟩ = some (.string t)) :
  Calls Tryz.prog 180 #[.string s,.pointer (some ⟨B,0,none⟩)] w fun e w'=>e = .returned (.int .i64 (Lx.just t.data.toList s.data.toList : Nat)) ∧ w = w':=by
 have hp:=Tryz.strings_HasPrefix s t w
 have HJ:=hid (show Lx.just t.data.toList s.data.toList = if Lib.hasPrefix s.data.toList t.data.toList then t.data.toList.length else 0 from rfl)
 cases h : Lib.hasPrefix s.data.toList t.data.toList with
 | true =>
  rw [h] at hp HJ
  clear h
  go_enter Tryz.func180,Tryz.ntmps180
  go_wp2_with fail
  ((with_reducible refine hp.mono ?_);rintro e w1 ⟨rfl,rfl⟩)
  go_wp2_with fail
  go_ret
  exact ⟨by rw [HJ.out];simp,rfl⟩
 | false =>
  rw [h] at hp HJ
  clear h
  go_enter Tryz.func180,Tryz.ntmps180
  go_wp2_with fail
  ((with_reducible refine hp.mono ?_);rintro e w1 ⟨rfl,rfl⟩)
  go_wp2_with fail
  go_ret
  exact ⟨by rw [HJ.out];rfl,rfl⟩
theorem run_next (p : Int → Bool) (s : ByteArray) (m : Nat) (hm : m < s.size) (hr : Sg.run p (s.data.toList.take m) = m) :
  (p ((s[m]'hm).toNat : Int) = true → Sg.run p (s.data.toList.take (m + 1)) = m + 1) ∧ (p ((s[m]'hm).toNat : Int) = false → Sg.run p s.data.toList = m):=by
 have e : s.data.toList.getD m 0 = s[m]'hm:=by
  have e2 : s.data.toList.getD m 0 = s.data.toList[m]'(by rw [lst_len];exact hm):=by simp [List.getD,hm]
  rw [e2];rfl
 refine ⟨fun h=>Sg.run_snoc (by rw [lst_len];exact hm) hr (by rw [e];exact h),fun h=>Sg.run_eq hr ?_⟩
 rw [Sg.drop_head (by rw [lst_len];exact hm),e]
 exact Sg.stop_cons h _
theorem run_stop_end (p : Int → Bool) (s : ByteArray) (m : Nat) (hm : s.size ≤ m) (hr : Sg.run p (s.data.toList.take m) = m) : Sg.run p s.data.toList = m:=by
 refine Sg.run_eq hr ?_
 rw [List.drop_eq_nil_of_le (by rw [lst_len];exact hm)]
 exact Sg.stop_nil p
theorem row1_calls (g : Nat) (p : Int → Bool) (B : Nat) (s : ByteArray) (hs : s.size ≤ 140737488351232) (w : World) (hc : w.cell? ⟨B,0,none⟩ = some (.func (.func g) #[] #[]))
  (hen : ∀ args w,(callFunc g args).run Tryz.prog w = .ok (.enter g args) w)
  (hg : ∀ c : Int,0 ≤ c → c ≤ 255 → ∀ w,Calls Tryz.prog g #[.int .u8 c] w fun e w'=>e = .returned (.bool (p c)) ∧ w' = w) :
  Calls Tryz.prog 197 #[.string s,.pointer (some ⟨B,0,none⟩)] w fun e w'=>e = .returned (.int .i64 (Sg.run p s.data.toList : Nat)) ∧ Below w.heap.size w w':=by
 have hlt:=World.block_lt_of_cell? w _ hc
 go_enter Tryz.func197,Tryz.ntmps197
 go_wp2
 go_loopw [4] (fun k wr=>∃ m : Nat,k = .int .i64 (m : Int) ∧ m ≤ s.size ∧ Sg.run p (s.data.toList.take m) = m ∧ Below w.heap.size w wr) (fun k _=>s.size - (intOf k).toNat)
 case atStart=>exact ⟨0,rfl,Nat.zero_le _,rfl,Below.refl _ _⟩
 case round =>
  obtain ⟨m,rfl,hm,hr,hb⟩:=hrel
  have hc1:=(hb.cell (p:=⟨B,0,none⟩) hlt).trans hc
  clear hc
  by_cases hl : m < s.size
  ·have hli : (m : Int) < (s.size : Int):=by omega
   have hn:=run_next p s m hl hr
   have hb8 : (s[m]'hl).toNat < 256:=(s[m]'hl).toNat_lt
   have hg1:=hg ((s[m]'hl).toNat : Int) (by omega) (by omega)
   cases hv : p ((s[m]'hl).toNat : Int) with
   | true =>
    rw [hv] at hg1
    have HR:=hid (hn.1 hv)
    have HG:=hid hg1
    clear hn hv hg1 hr hg
    go_wp2
    go_quiet (exact Calls.quiet_of_same (HG.out _))
    go_wp2
    go_roundw
    case rel=>exact ⟨m + 1,by go_num,by omega,HR.out,hb.trans ⟨rfl,rfl,rfl,Nat.le_refl _,fun _ _=>rfl⟩⟩
    case measure=>simp [intOf];omega
   | false =>
    rw [hv] at hg1
    have HF:=hid (hn.2 hv)
    have HG:=hid hg1
    clear hn hv hg1 hr hg
    go_wp2
    go_quiet (exact Calls.quiet_of_same (HG.out _))
    go_wp2
    go_ret
    exact ⟨by rw [HF.out];rfl,hb.trans ⟨rfl,rfl,rfl,Nat.le_refl _,fun _ _=>rfl⟩⟩
  ·have hli : decide ((m : Int) < (s.size : Int)) = false:=decide_eq_false (by omega)
   have HF:=hid (run_stop_end p s m (by omega) hr)
   clear hr hg
   go_wp2
   go_quiet (fail)
   go_wp2
   go_ret
   exact ⟨by rw [HF.out];rfl,hb.trans ⟨rfl,rfl,rfl,Nat.le_refl _,fun _ _=>rfl⟩⟩
theorem letterOrDigit_calls (c : Int) (w : World) : Calls Tryz.prog 177 #[.int .u8 c] w fun e w'=>e = .returned (.bool (Sg.cW c)) ∧ w' = w:=by
 go_enter Tryz.func177,Tryz.ntmps177
 cases hl : Sg.cL c with
 | true =>
  go_wp2_with fail
  ((with_reducible refine (sg.letter_calls c _).mono ?_);rintro e w1 ⟨rfl,rfl⟩)
  go_wp2_with fail
  go_ret
  exact ⟨by simp [Sg.cW,hl],rfl⟩
 | false =>
  go_wp2_with fail
  ((with_reducible refine (sg.letter_calls c _).mono ?_);rintro e w1 ⟨rfl,rfl⟩)
  go_wp2_with fail
  ((with_reducible refine (sg.digit_calls c _).mono ?_);rintro e w1 ⟨rfl,rfl⟩)
  go_wp2_with fail
  go_ret
  exact ⟨by simp [Sg.cW,hl],rfl⟩
def SzOn (bl : List (Nat × TypeId × Array Value)) (v : Value) (f : List UInt8 → Nat) : Prop :=
 ∃ g lb,v = .func (.func g) #[] lb ∧ (∀ args w,(callFunc g args).run Tryz.prog w = .ok (.enter g args) w) ∧
  ∀ W,sg.OpsAt W → (∀ b ∈ bl,Blk W b.1 b.2.1 b.2.2) → ∀ s : ByteArray,s.size ≤ 65536 → Calls Tryz.prog g (#[.string s] ++ lb) W fun e w'=>e = .returned (.int .i64 (f s.data.toList : Nat)) ∧ Below W.heap.size W w'
theorem SzOn.mono {bl bl' : List (Nat × TypeId × Array Value)} {v : Value} {f : List UInt8 → Nat} (h : SzOn bl v f) (hs : ∀ b ∈ bl,b ∈ bl') : SzOn bl' v f:=by
 obtain ⟨g,lb,hv,he,hc⟩:=h
 exact ⟨g,lb,hv,he,fun W ho hb s hz=>hc W ho (fun b hm=>hb b (hs b hm)) s hz⟩
theorem trim_data (l p : List UInt8) (h : Lib.hasPrefix l p = true) : (⟨(Lib.trimPrefix l p).toArray⟩ : ByteArray).data.toList = l.drop p.length:=by
 rw [sg.trim_true h]
theorem marked1_calls (t : ByteArray) (ht : t.size ≤ 100) (B1 B2 : Nat) (s : ByteArray) (hs : s.size ≤ 65536) (f : List UInt8 → Nat) (g : Nat) (lb : Array Value) (w : World) (hc1 : w.cell? ⟨B1,0,none⟩ = some (.string t)) (hc2 : w.cell? ⟨B2,0,none⟩ = some (.func (.func g) #[] lb))
  (hen : ∀ args w,(callFunc g args).run Tryz.prog w = .ok (.enter g args) w) (hf : ∀ l : List UInt8,f l ≤ l.length)
  (hg : ∀ s' : ByteArray,s'.size ≤ 65536 → Calls Tryz.prog g (#[.string s'] ++ lb) w fun e w'=>e = .returned (.int .i64 (f s'.data.toList : Nat)) ∧ Below w.heap.size w w') :
  Calls Tryz.prog 202 #[.string s,.pointer (some ⟨B1,0,none⟩),.pointer (some ⟨B2,0,none⟩)] w fun e w'=>e = .returned (.int .i64 (Lx.marked t.data.toList f s.data.toList : Nat)) ∧ Below w.heap.size w w':=by
 have hp:=Tryz.strings_CutPrefix s t w
 have HM:=hid (show Lx.marked t.data.toList f s.data.toList = if Lib.hasPrefix s.data.toList t.data.toList then (if f (s.data.toList.drop t.data.toList.length) = 0 then 0 else t.data.toList.length + f (s.data.toList.drop t.data.toList.length)) else 0 from rfl)
 have hl1:=World.block_lt_of_cell? w _ hc1
 cases h : Lib.hasPrefix s.data.toList t.data.toList with
 | true =>
  rw [h] at hp HM
  have htd:=trim_data _ _ h
  have hlen:=Sg.pre_length h
  rw [lst_len,lst_len] at hlen
  obtain ⟨s',hs'⟩ : ∃ s',(⟨(Lib.trimPrefix s.data.toList t.data.toList).toArray⟩ : ByteArray) = s':=⟨_,rfl⟩
  rw [hs'] at hp htd
  have hsz : s'.size ≤ 65536:=by rw [← lst_len,htd,List.length_drop,lst_len];omega
  have hg1:=hg s' hsz
  have hfl:=hf s'.data.toList
  rw [lst_len] at hfl
  rw [← htd] at HM
  rw [lst_len] at HM
  obtain ⟨d,hd⟩ : ∃ d,f s'.data.toList = d:=⟨_,rfl⟩
  rw [hd] at hg1 HM hfl
  clear hd htd hs' h hg hf
  have HG:=hid hg1
  clear hg1
  by_cases h0 : d = 0
  ·have HX:=hid (HM.out.trans ((if_pos rfl).trans (if_pos h0)))
   have t0 : ((d : Int) == 0) = true:=by rw [beq_iff_eq];omega
   go_enter Tryz.func202,Tryz.ntmps202
   go_wp2_with fail
   ((with_reducible refine hp.mono ?_);rintro e w1 ⟨rfl,rfl⟩)
   go_wp2_with fail
   ((with_reducible refine HG.out.mono ?_);rintro e w1 ⟨rfl,hb⟩)
   go_wp2_with fail
   go_ret
   exact ⟨by rw [HX.out];rfl,hb⟩
  ·have HX:=hid (HM.out.trans ((if_pos rfl).trans (if_neg h0)))
   have t0 : ((d : Int) == 0) = false:=by rw [beq_eq_false_iff_ne];omega
   have w1 : wrap64 ((t.size : Int) + (d : Int)) = ((t.size + d : Nat) : Int):=by rw [IntWalk.wrap64_in];rfl;omega
   have w2 : IntKind.i64.wrap ((t.size : Int) + (d : Int)) = ((t.size + d : Nat) : Int):=(IntWalk.i64_left _).trans w1
   go_enter Tryz.func202,Tryz.ntmps202
   go_wp2_with fail
   ((with_reducible refine hp.mono ?_);rintro e w1 ⟨rfl,rfl⟩)
   go_wp2_with fail
   ((with_reducible refine HG.out.mono ?_);rintro e w1 ⟨rfl,hb⟩)
   have hc3:=(hb.cell (p:=⟨B1,0,none⟩) hl1).trans hc1
   go_wp2_with fail
   go_ret
   exact ⟨by rw [HX.out];rfl,hb⟩
 | false =>
  rw [h] at hp HM
  clear h
  go_enter Tryz.func202,Tryz.ntmps202
  go_wp2_with fail
  ((with_reducible refine hp.mono ?_);rintro e w1 ⟨rfl,rfl⟩)
  go_wp2_with fail
  go_ret
  exact ⟨by rw [HM.out];rfl,Below.refl _ _⟩
end Go.Proofs.YtlklhkkjcfmefaaGreatDoor.lx
namespace Go.Proofs.YtlklhkkjcfmefaaGreatDoor.pa
open Go.RowKit nd pr sx
open Go.Maps (Keyed)
def tokV (t : Tk) : Value:=.agg #[.int .i64 t.1,.string t.2]
theorem tokV_inj {a b : Tk} (h : tokV a = tokV b) : a = b:=by
 unfold tokV at h
 simp only [Value.agg.injEq,Array.mk.injEq,List.cons.injEq,Value.int.injEq,Value.string.injEq,true_and,and_true] at h
 exact Prod.ext h.1 h.2
def KeyT (t : Tk) : Prop:=-9223372036854775808 ≤ t.1 ∧ t.1 < 9223372036854775808 ∧ t.2.size ≤ maxLen
theorem laidOut : laidOutB Tryz.prog = true:=by kernel_rfl
theorem tok_type : Tryz.prog.keyType 49 = true:=by kernel_rfl
theorem tok_law : WideMaps.KeyLaw Tryz.prog 49:=deep_law_laid laidOut (m:=2) (by omega) (of_decide_eq_true (by kernel_rfl)) (by kernel_rfl) (by kernel_rfl)
theorem tok_keyed : Keyed Tryz.prog 49:=Keyed.of_law tok_law
theorem tok_cells : Tryz.prog.cellsOf 49 = 2:=by kernel_rfl
theorem pair_key {P : Program} {ty ti ts : TypeId} {n1 n2 g1 g2 p1 p2 : String} {e1 e2 : Bool} {b1 b2 : Nat}
  (hu : P.underlying ty = some (.struct #[{ name:=n1,type:=ti,offset:=0,embedded:=e1,tag:=g1,pkgPath:=p1,byteOffset:=b1 },{ name:=n2,type:=ts,offset:=1,embedded:=e2,tag:=g2,pkgPath:=p2,byteOffset:=b2 }]))
  (hn1 : (n1 != "_") = true) (hn2 : (n2 != "_") = true) (hi : P.underlying ti = some (.int .i64)) (hs : P.underlying ts = some .string) (hc : P.cellsOf ty = 2) (hci : P.cellsOf ti = 1) (hcs : P.cellsOf ts = 1) (hk : P.keyType ty = true) (hz : 0 < P.types.size)
  {k : Int} {s : ByteArray} (hw : (Lit.int .i64 k).wf = true) (h3 : s.size ≤ maxLen) : keyOf P ty (.agg #[.int .i64 k,.string s]) = some (.string (keyBytes [.int .i64 k,.string s.data.toList])):=by
 obtain ⟨d,hd⟩ : ∃ d,P.types.size = d + 1:=⟨P.types.size - 1,by omega⟩
 unfold keyOf
 rw [hu]
 simp only [hk,Value.formed,hu,Program.keyLits,Value.cells,hc,hd]
 simp [hn1,hn2,hci,hcs,hi,hs,hw,h3]
theorem tok_key {t : Tk} (h : KeyT t) : ∃ k,keyOf Tryz.prog 49 (tokV t) = some k:=by
 obtain ⟨h1,h2,h3⟩:=h
 have hw : (Lit.int .i64 t.1).wf = true:=by
  have a : IntKind.min .i64 = -9223372036854775808:=by decide
  have b : IntKind.max .i64 = 9223372036854775807:=by decide
  simp only [Lit.wf,a,b,Bool.and_eq_true,decide_eq_true_eq]
  omega
 exact ⟨_,pair_key Tryz.underlying49 (by decide) (by decide) Tryz.underlying3 Tryz.underlying9 tok_cells (by kernel_rfl) (by kernel_rfl) tok_type (of_decide_eq_true (by kernel_rfl)) hw h3⟩
def ent (e : MapEntry) : Value × Value:=(e.key,e.val)
def MapT (W : World) (b : Nat) (l : List (Tk × Value)) : Prop :=
 ∃ es clock,W.heap[b]? = some (.map es clock) ∧ es.toList.map ent = l.map fun p=>(tokV p.1,p.2)
theorem MapT.lt {W : World} {b : Nat} {l : List (Tk × Value)} (h : MapT W b l) : b < W.heap.size:=by
 obtain ⟨es,clock,h1,_⟩:=h
 exact (Array.getElem?_eq_some_iff.1 h1).1
theorem MapT.of_heap {W W' : World} {b : Nat} {l : List (Tk × Value)} (h : MapT W b l) (e : W'.heap[b]? = W.heap[b]?) : MapT W' b l:=by
 obtain ⟨es,clock,h1,h2⟩:=h
 exact ⟨es,clock,e.trans h1,h2⟩
theorem map_new (W : World) : MapT (W.alloc (.map #[] 0)) W.heap.size []:=⟨#[],0,World.alloc_heap_new W _,rfl⟩
theorem mt_mem {es : List MapEntry} {l : List (Tk × Value)} (h : es.map ent = l.map fun p=>(tokV p.1,p.2)) {e : MapEntry} (he : e ∈ es) : ∃ p ∈ l,e.key = tokV p.1 ∧ e.val = p.2:=by
 have h1 : ent e ∈ es.map ent:=List.mem_map.2 ⟨e,he,rfl⟩
 rw [h] at h1
 obtain ⟨o,ho,h2⟩:=List.mem_map.1 h1
 simp only [ent,Prod.mk.injEq] at h2
 exact ⟨o,ho,h2.1.symm,h2.2.symm⟩
theorem mem_mt {es : List MapEntry} {l : List (Tk × Value)} (h : es.map ent = l.map fun p=>(tokV p.1,p.2)) {p : Tk × Value} (hp : p ∈ l) : ∃ e ∈ es,e.key = tokV p.1:=by
 have h1 : (tokV p.1,p.2) ∈ l.map fun p=>(tokV p.1,p.2):=List.mem_map.2 ⟨p,hp,rfl⟩
 rw [← h] at h1
 obtain ⟨e,he,h2⟩:=List.mem_map.1 h1
 simp only [ent,Prod.mk.injEq] at h2
 exact ⟨e,he,h2.1⟩
theorem mt_keys {es : List MapEntry} {l : List (Tk × Value)} (h : es.map ent = l.map fun p=>(tokV p.1,p.2)) (hl : ∀ p ∈ l,KeyT p.1) : ∀ e ∈ es,∃ k,keyOf Tryz.prog 49 e.key = some k:=by
 intro e he
 obtain ⟨p,hp,hk,_⟩:=mt_mem h he
 rw [hk]
 exact tok_key (hl p hp)
theorem MapT.look {W : World} {b : Nat} {l : List (Tk × Value)} (h : MapT W b l) (hl : ∀ p ∈ l,KeyT p.1) {t : Tk} (ht : KeyT t) {ty e : TypeId} (hu : Tryz.prog.underlying ty = some (.map 49 e)) {z : Value} (hz : (zeroValue e).run Tryz.prog W = .ok z W) (ok : Bool) :
  ((∀ p ∈ l,p.1 ≠ t) ∧ (Instr.lookup ty (.map (some b)) (tokV t) ok).run Tryz.prog W = .ok (if ok then .tuple #[z,.bool false] else z) W) ∨
  ∃ p ∈ l,p.1 = t ∧ (Instr.lookup ty (.map (some b)) (tokV t) ok).run Tryz.prog W = .ok (if ok then .tuple #[p.2,.bool true] else p.2) W:=by
 obtain ⟨es,clock,h1,h2⟩:=h
 obtain ⟨k,hk⟩:=tok_key ht
 rcases tok_keyed.find W hk es.toList (mt_keys h2 hl) with ⟨h3,h4⟩ | ⟨j,e0,h3,h4,h5⟩
 ·refine .inl ⟨fun p hp e=>?_,?_⟩
  ·obtain ⟨x,hx,hkx⟩:=mem_mt h2 hp
   exact h4 x hx (by rw [hkx,e])
  ·cases ok <;> simp [Instr.lookup,run_underlying hu,MapKept.run_getObj_map h1,tok_keyed.check W _ hk,h3,Result.andThen,hz]
 ·obtain ⟨p,hp,hk2,hv⟩:=mt_mem h2 (List.mem_of_getElem? h4)
  rw [hk2] at h5
  refine .inr ⟨p,hp,tokV_inj h5,?_⟩
  cases ok <;> simp [Instr.lookup,run_underlying hu,MapKept.run_getObj_map h1,tok_keyed.check W _ hk,h3,hv,Result.andThen]
theorem MapT.put {W : World} {b : Nat} {l : List (Tk × Value)} (h : MapT W b l) (hl : ∀ p ∈ l,KeyT p.1) {t : Tk} (ht : KeyT t) (hne : ∀ p ∈ l,p.1 ≠ t) {ty e : TypeId} (hu : Tryz.prog.underlying ty = some (.map 49 e)) (v : Value) :
  ∃ W',(Instr.mapUpdate ty (.map (some b)) (tokV t) v).run Tryz.prog W = .ok () W' ∧ MapT W' b (l ++ [(t,v)]) ∧ W.grownBy W' (some b):=by
 obtain ⟨es,clock,h1,h2⟩:=h
 obtain ⟨k,hk⟩:=tok_key ht
 have hlt:=(Array.getElem?_eq_some_iff.1 h1).1
 rcases tok_keyed.find W hk es.toList (mt_keys h2 hl) with ⟨h3,h4⟩ | ⟨j,e0,h3,h4,h5⟩
 ·have hrun : (Instr.mapUpdate ty (.map (some b)) (tokV t) v).run Tryz.prog W = .ok () { W with heap:=W.heap.setIfInBounds b (.map (es.push { key:=tokV t,val:=v,born:=clock }) (clock + 1)) }:=by
   simp [Instr.mapUpdate,run_underlying hu,MapKept.run_getObj_map h1,tok_keyed.check W _ hk,h3,MapKept.run_setObj_map _ h1,Result.andThen]
  refine ⟨_,hrun,⟨es.push { key:=tokV t,val:=v,born:=clock },clock + 1,?_,?_⟩,⟨rfl,rfl,rfl,by simp,fun i _ hi=>?_⟩⟩
  ·show (W.heap.setIfInBounds b _)[b]? = _
   rw [Array.getElem?_setIfInBounds_self_of_lt hlt]
  ·rw [Array.toList_push,List.map_append,List.map_append,h2];rfl
  ·show (W.heap.setIfInBounds b _)[i]? = _
   rw [Array.getElem?_setIfInBounds_ne (fun e=>hi (by rw [e]))]
 ·obtain ⟨x,hx,hk2,_⟩:=mt_mem h2 (List.mem_of_getElem? h4)
  rw [hk2] at h5
  exact absurd (tokV_inj h5) (hne x hx)
end Go.Proofs.YtlklhkkjcfmefaaGreatDoor.pa
namespace Go.Proofs.YtlklhkkjcfmefaaGreatDoor.pa
open Go.RowKit nd pr
def Gives {α : Type} (P : α → Prop) (p : Pa α) : Prop:=∀ r r' x,p.run r = some (.ok r' x) → P x
theorem gives_ret {α : Type} {P : α → Prop} {x : α} (h : P x) : Gives P (.ret x):=fun r r' y e=>by cases e;exact h
theorem gives_bad {α : Type} {P : α → Prop} : Gives P (.bad : Pa α):=fun r r' y e=>by cases e
theorem gives_out {α : Type} {P : α → Prop} : Gives P (.out : Pa α):=fun r r' y e=>by cases e
theorem gives_look {α : Type} {P : α → Prop} {k : Tk → Pa α} (h : ∀ t,Gives P (k t)) : Gives P (.look k):=fun r r' y e=>h (tok r) r r' y e
theorem gives_peek {α : Type} {P : α → Prop} {k : Tk → Pa α} (h : ∀ t,Gives P (k t)) : Gives P (.peek k):=fun r r' y e=>h (tok r.tail) r r' y e
theorem gives_ended {α : Type} {P : α → Prop} {k : Bool → Pa α} (h : ∀ t,Gives P (k t)) : Gives P (.ended k):=fun r r' y e=>h r.isEmpty r r' y e
theorem gives_move {α : Type} {P : α → Prop} {p : Pa α} (h : Gives P p) : Gives P (.move p):=fun r r' y e=>h r.tail r' y e
theorem gives_ite {α : Type} {P : α → Prop} {c : Prop} [Decidable c] {p q : Pa α} (h : Gives P p) (h' : Gives P q) : Gives P (if c then p else q):=by split;exact h;exact h'
theorem gives_bind {α β : Type} {P : α → Prop} {Q : β → Prop} {p : Pa α} {f : α → Pa β} (h : Gives P p) (hf : ∀ x,P x → Gives Q (f x)) : Gives Q (p.bind f):=fun r r' y e=>by
 obtain ⟨o1,h1,h2⟩:=bind_run e
 cases o1 with
 | bad r1=>cases h2
 | ok r1 x=>exact hf x (h _ _ _ h1) _ _ _ h2
theorem gives_any {α β : Type} {Q : β → Prop} {p : Pa α} {f : α → Pa β} (hf : ∀ x,Gives Q (f x)) : Gives Q (p.bind f):=gives_bind (P:=fun _=>True) (fun _ _ _ _=>trivial) (fun x _=>hf x)
theorem gives_need {α : Type} {P : α → Prop} {s : ByteArray} {k : Pa α} (h : Gives P k) : Gives P (need s k):=gives_look fun _=>gives_ite (gives_move h) gives_bad
theorem gives_one {α : Type} {P : α → Prop} {s : Int} {k : Pa α} (h : Gives P k) : Gives P (one s k):=gives_look fun _=>gives_ite (gives_move h) gives_bad
theorem gives_text {α : Type} {P : α → Prop} {s : Int} {k : ByteArray → Pa α} (h : ∀ s,Gives P (k s)) : Gives P (text s k):=gives_look fun _=>gives_ite (gives_move (h _)) gives_bad
theorem gives_name {α : Type} {P : α → Prop} {k : ByteArray → Pa α} (h : ∀ s,Gives P (k s)) : Gives P (name k):=gives_look fun _=>gives_ite (gives_move (h _)) gives_bad
def KFn : (f : Fn) → Res f → Prop
 | .exp _=>fun (x : Nd)=>x.k ≠ 0
 | .expL _ y _=>fun (x : Nd)=>y.k ≠ 0 → x.k ≠ 0
 | .operand=>fun (x : Nd)=>x.k ≠ 0
 | .deff _=>fun (x : Nd)=>x.k ≠ 0
 | .within _ _=>fun (x : Nd)=>x.k ≠ 0
 | .slice _ _ _=>fun (x : Nd)=>x.k ≠ 0
 | .post=>fun (x : Nd)=>x.k ≠ 0
 | .postL y=>fun (x : Nd)=>y.k ≠ 0 → x.k ≠ 0
 | .str=>fun (x : Nd)=>x.k ≠ 0
 | .strF _=>fun (x : Nd)=>x.k ≠ 0
 | .term=>fun (x : Nd)=>x.k ≠ 0
 | .bracket=>fun (x : Nd)=>x.k ≠ 0
 | .worded=>fun (x : Nd)=>x.k ≠ 0
 | .fold kd _=>fun (x : Nd)=>kd ≠ 0 → x.k ≠ 0
 | _=>fun _=>True
theorem imp_gives {α : Type} {P : α → Prop} {c : Prop} {p : Pa α} (h : c → Gives P p) : Gives (fun x=>c → P x) p:=fun r r' x e hc=>h hc r r' x e
theorem gives_imp {α : Type} {P : α → Prop} {c : Prop} {p : Pa α} (h : Gives (fun x=>c → P x) p) (hc : c) : Gives P p:=fun r r' x e=>h r r' x e hc
theorem mk_ne (k : Int) (t : ByteArray) (l : List Nd) (h : k ≠ 0) : (mk k t l).k ≠ 0:=h
theorem step_kind {rec : (f : Fn) → Pa (Res f)} (ih : ∀ f,Gives (KFn f) (rec f)) : ∀ f,Gives (KFn f) (step rec f):=by
 have h_exp : ∀ l,Gives (fun (x : Nd)=>x.k ≠ 0) (rec (.exp l)):=fun l=>ih (.exp l)
 have h_expL : ∀ l (y : Nd) b,y.k ≠ 0 → Gives (fun (x : Nd)=>x.k ≠ 0) (rec (.expL l y b)):=fun l y b h=>gives_imp (ih (.expL l y b)) h
 have h_operand : Gives (fun (x : Nd)=>x.k ≠ 0) (rec .operand):=ih .operand
 have h_deff : ∀ b,Gives (fun (x : Nd)=>x.k ≠ 0) (rec (.deff b)):=fun b=>ih (.deff b)
 have h_within : ∀ x d,Gives (fun (x : Nd)=>x.k ≠ 0) (rec (.within x d)):=fun x d=>ih (.within x d)
 have h_slice : ∀ x y d,Gives (fun (x : Nd)=>x.k ≠ 0) (rec (.slice x y d)):=fun x y d=>ih (.slice x y d)
 have h_post : Gives (fun (x : Nd)=>x.k ≠ 0) (rec .post):=ih .post
 have h_postL : ∀ (y : Nd),y.k ≠ 0 → Gives (fun (x : Nd)=>x.k ≠ 0) (rec (.postL y)):=fun y h=>gives_imp (ih (.postL y)) h
 have h_str : Gives (fun (x : Nd)=>x.k ≠ 0) (rec .str):=ih .str
 have h_strF : ∀ f,Gives (fun (x : Nd)=>x.k ≠ 0) (rec (.strF f)):=fun f=>ih (.strF f)
 have h_term : Gives (fun (x : Nd)=>x.k ≠ 0) (rec .term):=ih .term
 have h_bracket : Gives (fun (x : Nd)=>x.k ≠ 0) (rec .bracket):=ih .bracket
 have h_worded : Gives (fun (x : Nd)=>x.k ≠ 0) (rec .worded):=ih .worded
 have h_fold : ∀ kd b,kd ≠ 0 → Gives (fun (x : Nd)=>x.k ≠ 0) (rec (.fold kd b)):=fun kd b h=>gives_imp (ih (.fold kd b)) h
 intro f
 cases f
 case exp=>exact gives_bind h_operand (fun x hx=>h_expL _ _ _ hx)
 case expL l y b=>exact imp_gives fun hy=>gives_look fun t=>gives_ite gives_bad (gives_ite (gives_ret hy) (gives_move (gives_any fun z=>h_expL _ _ _ (show (24 : Int) ≠ 0 by decide))))
 case post=>exact gives_bind h_term (fun x hx=>h_postL _ hx)
 case postL y =>
  refine imp_gives fun hy=>gives_look fun t=>gives_ite (gives_move (h_postL _ (show (21 : Int) ≠ 0 by decide))) (gives_ite (gives_move (h_postL _ (show (23 : Int) ≠ 0 by decide))) (gives_ite (gives_bind (h_within _ _) fun z hz=>h_postL _ hz) (gives_ite (gives_move (gives_look fun u=>gives_ite (gives_bind (h_within _ _) fun z hz=>h_postL _ hz) (gives_any fun z=>h_postL _ (show (22 : Int) ≠ 0 by decide)))) (gives_ret hy))))
 case fold kd b =>
  refine imp_gives fun hk=>?_
  unfold step
  repeat' first | exact gives_ret hk | exact gives_bad | refine gives_any fun _=>?_ | refine gives_need ?_ | refine gives_look fun _=>?_ | refine gives_ite ?_ ?_ | refine gives_move ?_
 all_goals first
  | exact fun _ _ _ _=>trivial
  | (show Gives (fun (x : Nd)=>x.k ≠ 0) _;unfold step;repeat' first | exact gives_bad | exact h_exp _ | exact h_post | exact h_deff _ | exact h_slice _ _ _ | exact h_strF _ | exact h_str | exact h_bracket | exact h_worded | exact h_fold _ _ (by decide) | exact gives_ret (mk_ne _ _ _ (by decide)) | refine gives_bind (P:=fun (x : Nd)=>x.k ≠ 0) h_post (fun x hx=>?_) | refine gives_any fun _=>?_ | refine gives_need ?_ | refine gives_one ?_ | refine gives_text fun _=>?_ | refine gives_name fun _=>?_ | refine gives_look fun _=>?_ | refine gives_peek fun _=>?_ | refine gives_ended fun _=>?_ | refine gives_ite ?_ ?_ | refine gives_move ?_ | exact gives_ret (by assumption))
theorem go_kind : ∀ n f,Gives (KFn f) (go n f)
 | 0,_=>gives_out
 | n + 1,f=>step_kind (go_kind n) f
end Go.Proofs.YtlklhkkjcfmefaaGreatDoor.pa
namespace Go.Proofs.YtlklhkkjcfmefaaGreatDoor.lx
open Go.Lib (hid)
open Go.RowKit Go.Shelf
open sg (lst_len extract_drop ext_size)
open sx
open Lx (cN)
theorem oneN_high (n b0 b1 b2 b3 : Nat) : (1 < utf.oneN n b0 b1 b2 b3 → 128 ≤ b1) ∧ (2 < utf.oneN n b0 b1 b2 b3 → 128 ≤ b2) ∧ (3 < utf.oneN n b0 b1 b2 b3 → 128 ≤ b3):=by
 unfold utf.oneN
 repeat' split
 all_goals (refine ⟨?_,?_,?_⟩ <;> omega)
theorem width_high (s : ByteArray) (pos : Nat) (h : pos < s.size) (j : Nat) (h1 : 1 ≤ j) (h2 : j < (Utf8.decode s pos).2) (b : UInt8) (hb : s.data.toList[pos + j]? = some b) : 128 ≤ b.toNat:=by
 have hw:=(utf.bad_one s pos h).2
 split at hw
 ·omega
 ·rename_i h0
  rw [hw] at h2
  have hne : s.data.toList.drop pos ≠ []:=fun e=>by
   have:=congrArg List.length e
   rw [List.length_drop,lst_len] at this
   simp at this;omega
  have hg : b = (s.data.toList.drop pos).getD j 0:=by
   rw [List.getD,List.getElem?_drop,hb];rfl
  rw [hg]
  have hl:=utf.oneL_le _ hne
  unfold utf.oneL at h2
  rw [if_neg hne] at h2
  obtain ⟨a1,a2,a3⟩:=oneN_high (s.data.toList.drop pos).length ((s.data.toList.drop pos).getD 0 0).toNat ((s.data.toList.drop pos).getD 1 0).toNat ((s.data.toList.drop pos).getD 2 0).toNat ((s.data.toList.drop pos).getD 3 0).toNat
  have h4 : utf.oneN (s.data.toList.drop pos).length ((s.data.toList.drop pos).getD 0 0).toNat ((s.data.toList.drop pos).getD 1 0).toNat ((s.data.toList.drop pos).getD 2 0).toNat ((s.data.toList.drop pos).getD 3 0).toNat ≤ 4 :=
   (utf.oneN_le _ _ _ _ _ (by cases hq : s.data.toList.drop pos with | nil=>exact absurd hq hne | cons a r=>simp)).2
  have : j = 1 ∨ j = 2 ∨ j = 3:=by omega
  rcases this with rfl | rfl | rfl
  ·exact a1 h2
  ·exact a2 h2
  ·exact a3 h2
theorem indexRune_none (r : Int) (h0 : 128 ≤ r) (w : World) :
  Calls Tryz.prog 251 #[.string ⟨#[34,92]⟩,.int .i32 r] w fun e w'=>e = .returned (.int .i64 (-1)) ∧ Below w.heap.size w w':=by
 have a1 : decide (r < 128) = false:=decide_eq_false (by omega)
 have a0 : (0 : Int) ≤ r:=by omega
 by_cases h1 : r = 65533
 ·subst h1
  go_enter Tryz.func251,Tryz.ntmps251
  go_wp2
  go_loopg [5,6] 2 (fun g _ _ wx=>∃ i : Nat,i + g = 2 ∧ wx = w.iter ⟨#[34,92]⟩ i)
  case atStart=>exact ⟨0,rfl,rfl⟩
  case round =>
   obtain ⟨i,hig,rfl⟩:=hrel
   cases gk with
   | zero =>
    obtain rfl : i = 2:=by omega
    have hnx:=run_next_end (P:=Tryz.prog) w ⟨#[34,92]⟩ 2
    have hnx2:=fun ty=>hnx ty (by decide)
    clear hnx
    go_wp2
    go_ret
    exact ⟨rfl,utf.below_iter w _ _⟩
   | succ g =>
    have hi : i = 0 ∨ i = 1:=by omega
    rcases hi with rfl | rfl
    ·have hnx:=fun ty=>run_next_ascii (P:=Tryz.prog) w ⟨#[34,92]⟩ 0 ty (by decide) (by decide)
     go_wp2
     go_roundg g
     case measure=>omega
     case rel=>exact ⟨1,by omega,rfl⟩
    ·have hnx:=fun ty=>run_next_ascii (P:=Tryz.prog) w ⟨#[34,92]⟩ 1 ty (by decide) (by decide)
     go_wp2
     go_roundg g
     case measure=>omega
     case rel=>exact ⟨2,by omega,rfl⟩
 ·have a2 : (r == 65533) = false:=by rw [beq_eq_false_iff_ne];exact h1
  have hvr:=Tryz.utf8_ValidRune r w
  cases hv : Lib.validRune r with
  | false =>
   rw [hv] at hvr
   clear hv
   go_enter Tryz.func251,Tryz.ntmps251
   go_wp2_with fail
   ((with_reducible refine hvr.mono ?_);rintro e w1 ⟨rfl,rfl⟩)
   go_wp2_with fail
   go_ret
   exact ⟨rfl,Below.refl _ _⟩
  | true =>
   rw [hv] at hvr
   have hv2 : Utf8.valid r = true:=by rw [← hv];unfold Utf8.valid Lib.validRune;first | rfl | (rw [Bool.eq_iff_iff];simp;omega)
   obtain ⟨E,hE,f1,f3⟩ : ∃ E,Utf8.encode r = E ∧ 2 ≤ E.size ∧ ∀ h : E.size - 1 < E.size,128 ≤ (E[E.size - 1]'h).toNat:=⟨_,rfl,(encode_facts r hv2 h0).1,(encode_facts r hv2 h0).2.2⟩
   have hcv:=fun w=>run_convert_int_string (P:=Tryz.prog) w 21 9 .i32 r (by kernel_rfl) Tryz.underlying9
   have hE4:=(encode_facts r hv2 h0).2.1
   rw [hE] at hE4
   simp only [hE] at hcv
   clear hE hv hv2
   have w1 : wrap64 ((E.size : Int) - 1) = ((E.size - 1 : Nat) : Int):=by rw [IntWalk.wrap64_in _ (by omega)];omega
   have w2 : IntKind.i64.wrap ((E.size : Int) - 1) = ((E.size - 1 : Nat) : Int):=(IntWalk.i64_left _).trans w1
   by_cases h2 : E.size = 2
   ·obtain ⟨a,b,rfl,hb⟩ : ∃ a b,E = ⟨#[a,b]⟩ ∧ 128 ≤ b.toNat:=by
     obtain ⟨⟨l⟩⟩:=E
     match l,h2,f3 with
     | [a,b],_,f3=>exact ⟨a,b,rfl,f3 (by show 2 - 1 < 2;omega)⟩
    clear f3 w1 w2 f1 hE4 h2
    have h22 : IntKind.i64.wrap 2 = 2:=by decide +kernel
    have hsz2 : ((⟨#[34,92]⟩ : ByteArray).size : Int) = 2:=rfl
    have hib : ∀ w,Calls Tryz.prog 198 #[.string ByteArray.empty,.int .u8 (b.toNat : Int)] w fun e w'=>e = .returned (.int .i64 (-1)) ∧ w' = w:=fun w=>Tryz.strings_IndexByte ByteArray.empty (b.toNat : Int) w
    have hbn : ((((⟨#[34,92]⟩ : ByteArray)[1]'(by decide)).toNat : Int) != (((⟨#[a,b]⟩ : ByteArray)[1]'(by show 1 < 2;omega)).toNat : Int)) = true:=by
     show ((92 : Int) != (b.toNat : Int)) = true
     rw [bne_iff_ne];omega
    go_enter Tryz.func251,Tryz.ntmps251
    go_wp2_with fail
    ((with_reducible refine hvr.mono ?_);rintro e w1 ⟨rfl,rfl⟩)
    go_wp2_with fail
    go_step3
    go_wp2_with fail
    go_loopw [9] (fun i wr=>i = .int .i64 1 ∧ wr = w1) (fun _ _=>0)
    case atStart=>exact ⟨rfl,rfl⟩
    case round =>
     obtain ⟨rfl,rfl⟩:=hrel
     go_wp2
     go_step3
     go_wp2
     go_quiet (fail)
     rename_i nq
     obtain ⟨wq,hwq,hbq⟩ : ∃ wq,wr.drewN nq = wq ∧ Below wr.heap.size wr wq:=⟨_,rfl,⟨rfl,rfl,rfl,Nat.le_refl _,fun _ _=>rfl⟩⟩
     rw [hwq]
     clear hwq
     go_wp2
     go_quiet ((go_at_call 198;exact Calls.quiet_of_same (hib _)))
     go_wp2
     simp +zetaDelta only [Exit.inBlock,Exit.noGoto,Exit.then]
     go_ret
     exact ⟨rfl,hbq.trans ⟨rfl,rfl,rfl,Nat.le_refl _,fun _ _=>rfl⟩⟩
   ·go_enter Tryz.func251,Tryz.ntmps251
    have hge : decide (((E.size - 1 : Nat) : Int) < 2) = false:=decide_eq_false (by omega)
    go_wp2_with fail
    ((with_reducible refine hvr.mono ?_);rintro e w1 ⟨rfl,rfl⟩)
    go_wp2_with fail
    go_step3
    go_wp2_with fail
    go_loopw [9] (fun i wr=>i = .int .i64 ((E.size - 1 : Nat) : Int) ∧ wr = w1) (fun _ _=>0)
    case atStart=>exact ⟨rfl,rfl⟩
    case round =>
     obtain ⟨rfl,rfl⟩:=hrel
     go_wp2
     rw [Exit.noGoto_ret]
     go_ret
     exact ⟨rfl,Below.refl _ _⟩
theorem run_next_at {P : Program} (u : World) (B : Nat) (s : ByteArray) (pos : Nat) (ty : TypeId) (hB : u.heap[B]? = some (.stringIter s pos)) (h : pos < s.size) :
  (Instr.next (.pointer (some ⟨B,0,none⟩)) true ty).run P u = .ok (.tuple #[.bool true,.int .i64 pos,.int .i32 (Utf8.decode s pos).1]) (u.putObj B (.stringIter s (pos + (Utf8.decode s pos).2))):=by
 simp only [Instr.next,getObj,setObj,Sem.run_bind,Sem.run,hB,Result.andThen,h,if_true]
 simp [goInt,World.putObj]
theorem run_next_out {P : Program} (u : World) (B : Nat) (s : ByteArray) (pos : Nat) (ty : TypeId) (hB : u.heap[B]? = some (.stringIter s pos)) (h : ¬ pos < s.size) :
  (Instr.next (.pointer (some ⟨B,0,none⟩)) true ty).run P u = .ok (.tuple #[.bool false]) u:=by
 simp [Instr.next,getObj,Sem.run,hB,h]
theorem contains_qb (x : UInt8) : [34,92].contains x = !(cN (x.toNat : Int)):=by
 have h1 : (x == 34) = ((x.toNat : Int) == 34):=by
  rw [Bool.eq_iff_iff,beq_iff_eq,beq_iff_eq]
  constructor
  ·rintro rfl;rfl
  ·intro h;apply UInt8.toNat_inj.1;show x.toNat = 34;omega
 have h2 : (x == 92) = ((x.toNat : Int) == 92):=by
  rw [Bool.eq_iff_iff,beq_iff_eq,beq_iff_eq]
  constructor
  ·rintro rfl;rfl
  ·intro h;apply UInt8.toNat_inj.1;show x.toNat = 92;omega
 simp only [List.contains_cons,List.contains_nil,Bool.or_false,cN,Bool.not_not,h1,h2]
theorem noAny_jump (s : ByteArray) (i : Nat) (hi : i < s.size) (h : Lib.NoAny s.data.toList [34,92] i) (hr : 128 ≤ (s[i]'hi).toNat) : Lib.NoAny s.data.toList [34,92] (i + (Utf8.decode s i).2):=by
 intro j b hj hb
 rw [contains_qb]
 have : 128 ≤ b.toNat ∨ j < i:=by
  rcases Nat.lt_or_ge j i with h1 | h1
  ·exact .inr h1
  ·refine .inl ?_
   rcases Nat.eq_or_lt_of_le h1 with h2 | h2
   ·subst h2
    rw [Lib.data_getElem? s i hi] at hb
    cases hb;exact hr
   ·exact width_high s i hi (j - i) (by omega) (by omega) b (by rw [show i + (j - i) = j from by omega];exact hb)
 rcases this with h3 | h3
 ·unfold cN
  have a : ((b.toNat : Int) == 34) = false:=by rw [beq_eq_false_iff_ne];omega
  have c : ((b.toNat : Int) == 92) = false:=by rw [beq_eq_false_iff_ne];omega
  rw [a,c];rfl
 ·rw [← contains_qb];exact h j b h3 hb
theorem ascii_of_low (s : ByteArray) (i : Nat) (hi : i < s.size) (h : (s[i]'hi).toNat < 128) : Utf8.decode s i = ((s[i]'hi).toNat,1):=decode_ascii s i hi h
def AnyAt (w : World) (s : ByteArray) (i : Nat) (wx : World) : Prop:=Below w.heap.size w wx ∧ wx.heap[w.heap.size]? = some (.stringIter s i)
theorem AnyAt.pos {w wx : World} {s : ByteArray} {i : Nat} (h : AnyAt w s i wx) : wx.iterPos w.heap.size = i:=by simp [World.iterPos,h.2]
theorem AnyAt.put {w wx : World} {s : ByteArray} {i : Nat} (h : AnyAt w s i wx) (j : Nat) : AnyAt w s j (wx.putObj w.heap.size (.stringIter s j)) :=
 ⟨h.1.grown (grownBy_putObj' wx _ _) h.1.size (fun k e=>by cases e;omega),World.putObj_heap_same (Array.getElem?_eq_some_iff.1 h.2).1⟩
theorem AnyAt.next {w wx wy : World} {s : ByteArray} {i : Nat} (h : AnyAt w s i wx) (hb : Below wx.heap.size wx wy) : AnyAt w s i wy :=
 ⟨h.1.trans (hb.mono h.1.size),(hb.block _ (Array.getElem?_eq_some_iff.1 h.2).1).trans h.2⟩
theorem indexAny_short (s : ByteArray) (h8 : s.size ≤ 8) (w : World) :
  Calls Tryz.prog 234 #[.string s,.string ⟨#[34,92]⟩] w fun e w'=>e = .returned (.int .i64 (Lib.indexAny s.data.toList [34,92])) ∧ Below w.heap.size w w':=by
 have h8z : decide ((8 : Int) < (s.size : Int)) = false:=decide_eq_false (by omega)
 go_enter Tryz.func234,Tryz.ntmps234
 go_wp2_with (go_at_call 252;refine (Tryz.strings_shouldUseASCIISet _ _).mono ?_;rintro e w' ⟨rfl,hw⟩;rw [hw,h8z])
 go_loopw [9,10] (fun _ _ wx=>∃ i : Nat,i ≤ s.size ∧ AnyAt w s i wx ∧ Lib.NoAny s.data.toList [34,92] i) (fun _ _ wx=>s.size - wx.iterPos w.heap.size)
 case atStart=>exact ⟨0,Nat.zero_le _,⟨utf.below_iter w s 0,World.iter_heap w s 0⟩,Lib.NoAny.zero _ _⟩
 case round =>
  obtain ⟨i,his,hat,hno⟩:=hrel
  have HN:=hid hno
  have HA:=hid hat
  have hit:=hat.2
  have HP:=hid hat.pos
  clear hno hat
  by_cases hi : i < s.size
  ·have hnx:=fun ty=>run_next_at (P:=Tryz.prog) wr w.heap.size s i ty hit hi
   have hwd:=Lib.decode_width_pos s i hi
   have hap:=HA.out.put (i + (Utf8.decode s i).2)
   obtain ⟨wn,hwn⟩ : ∃ wn,wr.putObj w.heap.size (.stringIter s (i + (Utf8.decode s i).2)) = wn:=⟨_,rfl⟩
   rw [hwn] at hap
   simp only [hwn] at hnx
   clear hwn
   have HQ:=hid hap
   clear hap hit
   by_cases ha : (s[i]'hi).toNat < 128
   ·have hdec:=ascii_of_low s i hi ha
    rw [hdec] at hnx HQ
    simp only at hnx HQ
    have hxl:=Lib.data_getElem? s i hi
    obtain ⟨x,hx⟩ : ∃ x : UInt8,s[i]'hi = x:=⟨_,rfl⟩
    rw [hx] at hxl hnx ha
    have hcon:=Lib.contains_iff_indexByte [34,92] x
    have hback : ((x.toNat : Int)).toNat.toUInt8 = x:=by simp
    have hir:=fun w=>Tryz.strings_IndexRune_ascii ⟨#[34,92]⟩ (x.toNat : Int) w (by omega) (by omega)
    rw [hback] at hir
    change ∀ w,Calls _ _ _ _ (fun e w'=>e = .returned (.int .i64 (Lib.indexByte [34,92] x)) ∧ w' = w) at hir
    obtain ⟨r,hr⟩ : ∃ r,Lib.indexByte [34,92] x = r:=⟨_,rfl⟩
    rw [hr] at hcon
    simp only [hr] at hir
    have HX:=hid hxl
    clear hx hdec hback hxl hr
    cases hin : [34,92].contains x with
    | false =>
     rw [hin] at hcon
     have hlt : decide ((0 : Int) ≤ r) = false:=hcon.symm
     have HI:=hid (HN.out.succ HX.out hin)
     have HC:=hid hin
     clear hcon hin
     go_wp2_with fail
     ((with_reducible refine (hir _).mono ?_);rintro e w1 ⟨rfl,rfl⟩)
     go_wp2_with fail
     go_roundw
     case rel=>exact ⟨i + 1,by omega,HQ.out,HI.out⟩
     case measure=>rw [HQ.out.pos,HP.out];omega
    | true =>
     rw [hin] at hcon
     have hlt : decide ((0 : Int) ≤ r) = true:=hcon.symm
     have HI:=hid (Lib.indexAny_hit HN.out HX.out hin)
     have HC:=hid hin
     clear hcon hin
     go_wp2_with fail
     ((with_reducible refine (hir _).mono ?_);rintro e w1 ⟨rfl,rfl⟩)
     go_wp2_with fail
     go_ret
     exact ⟨by rw [HI.out];rfl,HQ.out.1⟩
   ·have hhi:=(decode_high s i hi (by omega)).1
    have HJ:=hid (noAny_jump s i hi HN.out (by omega))
    have hir:=fun w=>indexRune_none ((Utf8.decode s i).1 : Int) (by omega) w
    have hle : i + (Utf8.decode s i).2 ≤ s.size:=by
     have:=(utf.bad_one s i hi).2
     split at this
     ·omega
     ·rw [this]
      have:=utf.oneL_le (s.data.toList.drop i) (fun e=>by have:=congrArg List.length e;rw [List.length_drop,lst_len] at this;simp at this;omega)
      rw [List.length_drop,lst_len] at this
      omega
    obtain ⟨d,hd⟩ : ∃ d,Utf8.decode s i = d:=⟨_,rfl⟩
    rw [hd] at hnx HQ hhi HJ hwd hle
    simp only [hd] at hir
    clear hd
    go_wp2_with fail
    ((with_reducible refine (hir _).mono ?_);rintro e w1 ⟨rfl,hb1⟩)
    go_wp2_with fail
    go_roundw
    case rel=>exact ⟨i + d.2,hle,HQ.out.next hb1,HJ.out⟩
    case measure=>rw [(HQ.out.next hb1).pos,HP.out];omega
  ·obtain rfl : i = s.size:=by omega
   have hnx:=fun ty=>run_next_out (P:=Tryz.prog) wr w.heap.size s s.size ty hit hi
   have HI:=hid (Lib.indexAny_none (by rw [← Lib.size_eq];exact HN.out))
   go_wp2_with fail
   go_ret
   exact ⟨by rw [HI.out];rfl,HA.out.1⟩
theorem hz256 : (Tryz.prog.info? 193).map (fun i=>(i.zero,i.size)) = some (some (.agg (Array.replicate 256 (.bool false))),256):=by kernel_rfl
theorem indexAny_calls (s : ByteArray) (hs : s.size ≤ 65536) (w : World) :
  Calls Tryz.prog 234 #[.string s,.string ⟨#[34,92]⟩] w fun e w'=>e = .returned (.int .i64 (Lib.indexAny s.data.toList [34,92])) ∧ Below w.heap.size w w':=by
 by_cases h8 : s.size ≤ 8
 ·exact indexAny_short s h8 w
 ·refine (Tryz.strings_IndexAny_long (zero_of_info hz256).1 s ⟨#[34,92]⟩ w (by decide) (by omega) (by omega) (by decide) ?_).mono fun e w' ⟨h1,h2⟩=>⟨h1,?_⟩
  ·intro j b hb
   match j,hb with
   | 0,hb=>cases hb;decide
   | 1,hb=>cases hb;decide
   | n + 2,hb=>cases hb
  ·rw [h2]
   exact ((Below.refl _ _).alloc (Nat.le_refl _) _).alloc (by simp) _
end Go.Proofs.YtlklhkkjcfmefaaGreatDoor.lx
namespace Go.Proofs.YtlklhkkjcfmefaaGreatDoor.pa
open Go.RowKit nd pr sx ed
structure Env where
 B : Nat
 O : Nat
 T : Nat
 tl : List (Tk × Value)
 l : List Tk
 lv : Value
 W0 : World
structure FitT (t : Tk) : Prop where
 kind : 0 ≤ t.1 ∧ t.1 ≤ 13
 size : t.2.size ≤ 1000000
 field : t.1 = 4 → Lib.hasPrefix t.2.data.toList [46] = true
 var : t.1 = 5 → Lib.hasPrefix t.2.data.toList [36] = true
 word : t.1 = 3 → t.2 ∉ [minus,semi,colon,bar,lpar,rpar,lbr,rbr,lbrace,rbrace,comma,dot,dots,quest]
 oper : t.1 = 13 → t.2 ∉ [wdef,wlabel,wtry,wcatch,was,wif,wthen,welif,welse,wend,wreduce,wforeach,wbreak,wimport,winclude]
def barredOf (s : ByteArray) : Int:=if sideOf s = 0 then levelOf s else 0
def operV (s : ByteArray) : Value:=if s.size = 0 then .agg #[.int .i64 0,.int .i64 0,.int .i64 0] else .agg #[.int .i64 (levelOf s),.int .i64 (besideOf s 2),.int .i64 (barredOf s)]
def methV (f : FuncId) (B : Nat) : Value:=.func (.func f) #[.pointer (some ⟨B,0,none⟩)] #[]
def termsL (B : Nat) : List (Tk × Value) :=
 [((13,dot),methV 64 B),((13,dots),methV 65 B),((13,lbr),methV 66 B),((13,lpar),methV 67 B),((13,lbrace),methV 68 B),
  ((3,wif),methV 70 B),((3,wreduce),methV 71 B),((3,wforeach),methV 72 B),((3,wbreak),methV 73 B),((3,eB),methV 74 B),
  ((4,eB),methV 75 B),((5,eB),methV 76 B),((6,eB),methV 77 B),((12,eB),methV 78 B),((7,eB),methV 79 B)]
def TermsAt (W : World) (E : Env) : Prop:=MapT W E.T E.tl
def OpersAt (W : World) (O : Nat) : Prop:=∃ l : List (Tk × Value),MapT W O l ∧ ∀ p ∈ l,p.2 = operV (textOf p.1.1 p.1.2) ∧ KeyT p.1
structure EnvOk (E : Env) : Prop where
 b : E.W0.heap.size ≤ E.B
 o : E.W0.heap.size ≤ E.O
 t : E.W0.heap.size ≤ E.T
 ot : E.T ≠ E.O
 tm : ∀ p,p ∈ E.tl ↔ p ∈ termsL E.B
 fit : ∀ t ∈ E.l,FitT t
 len : E.l.length ≤ 1000000
 lev : LvAt E.W0
 items : ItemsAt (Lt E.W0.heap.size) E.W0 E.lv E.l
structure Ps (E : Env) (W : World) (i : Nat) : Prop where
 blk : Blk W E.B 100 #[E.lv,.int .i64 (i : Int),.map (some E.T),.map (some E.O)]
 le : i ≤ E.l.length
 old : Below E.W0.heap.size E.W0 W
 terms : TermsAt W E
 opers : OpersAt W E.O
def Pm (E : Env) (k : Nat) : Prop:=k = E.B ∨ k = E.O
abbrev Kp (E : Env) (W W' : World) : Prop:=But W.heap.size (Pm E) W W'
def New (W W' : World) (k : Nat) : Prop:=W.heap.size ≤ k ∧ k < W'.heap.size
def Post {α : Type} (E : Env) (R : α → Value → World → World → Prop) (W : World) (o : Out α) (e : Ending) (W' : World) : Prop :=
 Kp E W W' ∧ match o with
  | .ok r x=>∃ v j,e = .returned v ∧ Ps E W' j ∧ r = E.l.drop j ∧ R x v W W'
  | .bad r=>∃ j : Nat,j ≤ E.l.length ∧ r = E.l.drop j ∧ e = .panicked [{ v:=.iface 79 (.int .i64 (j : Int)),recovered:=false }]
def Tl {α : Type} (E : Env) (q : Pa α) (R : α → Value → World → World → Prop) (g : FuncId) (args : Array Value) : Prop :=
 ∀ W i o,Ps E W i → q.run (E.l.drop i) = some o → Calls Tryz.prog g args W (Post E R W o)
abbrev RN (x : Nd) (v : Value) (W W' : World) : Prop:=NdAt (New W W') W' x v
abbrev RS (x : ByteArray) (v : Value) (W W' : World) : Prop:=v = .string x
abbrev pB (E : Env) : Value:=.pointer (some ⟨E.B,0,none⟩)
theorem Tl.at {α : Type} {E : Env} {q : Pa α} {R : α → Value → World → World → Prop} {g : FuncId} {args : Array Value} (h : Tl E q R g args) {W : World} {i : Nat} {o : Out α} (hp : Ps E W i) (hr : q.run (E.l.drop i) = some o) : Calls Tryz.prog g args W (Post E R W o):=h W i o hp hr
theorem Ps.next {E : Env} {W W' : World} {i : Nat} (h : Ps E W i) (hb : Below W.heap.size W W') : Ps E W' i :=
 ⟨h.blk.own hb,h.le,h.old.trans (hb.mono h.old.size),MapT.of_heap h.terms (hb.block _ h.terms.lt),by
  obtain ⟨l,h1,h2⟩:=h.opers
  exact ⟨l,MapT.of_heap h1 (hb.block _ h1.lt),h2⟩⟩
theorem Ps.lt {E : Env} {W : World} {i : Nat} (h : Ps E W i) : E.B < W.heap.size:=h.blk.lt
theorem Ps.tb {E : Env} {W : World} {i : Nat} (h : Ps E W i) : E.T ≠ E.B:=fun e=>by
 obtain ⟨es,clock,h1,_⟩:=h.terms
 rw [e,show W.heap[E.B]? = _ from h.blk] at h1
 cases h1
theorem Ps.olt {E : Env} {W : World} {i : Nat} (h : Ps E W i) : E.O < W.heap.size:=by
 obtain ⟨l,h1,h2⟩:=h.opers
 exact h1.lt
theorem Kp.refl (E : Env) (W : World) : Kp E W W:=But.refl _ _ _
theorem Kp.of_below {E : Env} {W W' : World} (h : Below W.heap.size W W') : Kp E W W':=But.of_below h
theorem Kp.trans {E : Env} {A B C : World} (h : Kp E A B) (k : Kp E B C) : Kp E A C:=But.trans h (k.mono h.size (fun _ _ e=>e))
theorem Ps.not_pm {E : Env} {W : World} {i b : Nat} (h : Ps E W i) (hb : W.heap.size ≤ b) : ¬ Pm E b:=fun e=>by
 rcases e with e | e
 ·have:=h.lt;omega
 ·have:=h.olt;omega
end Go.Proofs.YtlklhkkjcfmefaaGreatDoor.pa
