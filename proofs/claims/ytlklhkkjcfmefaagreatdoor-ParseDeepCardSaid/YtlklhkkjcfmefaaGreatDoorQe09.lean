/- Ground of the law: SgOper, PaNest, PrFns, SgKey, PaSrc, PrOpers. -/
import Derived.Test.YtlklhkkjcfmefaaGreatDoorQe08
import Derived.RangeFuncNested
import Derived.RangeFuncBound
import Derived.RangeFuncCalls
import Derived.RangeFuncLeaves
import Derived.RangeFuncBox
import Derived.RegionTactic
import Derived.OwnWalkIn
import Derived.TacticsInMore
import Derived.LoopNIn
import Derived.LoopIn
import Derived.ChangeAlike
import Derived.Deep.MidRow
import Derived.Test.YtlklhkkjcfmefaaGreatDoorQe03
import Derived.Maps.OwnSet
import Derived.StringKeys
import Derived.RegionIn
set_option maxRecDepth 100000
set_option maxHeartbeats 8000000
set_option linter.unusedVariables false
set_option linter.unusedSimpArgs false
namespace Go.Proofs.YtlklhkkjcfmefaaGreatDoor.sg
open Go.Lib (hid)
open Go.RowKit Go.Shelf
attribute [local go_sem] Oper.semAt_some
def opsL : List Value:=Sg.opers.map fun l=>Value.string ⟨l.toArray⟩
def OpsAt (W : World) : Prop:=0 < W.heap.size ∧ W.rangeAt 0 0 opsL
theorem OpsAt.below {n : Nat} {W W' : World} (h : OpsAt W) (hb : Below n W W') (hn : 0 < n) : OpsAt W':=⟨by have:=hb.size;have:=h.1;omega,fun j v hj=>(hb.cell (p:=⟨0,0 + j,none⟩) hn).trans (h.2 j v hj)⟩
theorem OpsAt.own {W W' : World} (h : OpsAt W) (hb : Below W.heap.size W W') : OpsAt W':=h.below hb h.1
theorem OpsAt.load {W : World} (h : OpsAt W) : (Instr.loadAt 184 (.pointer (some ⟨0,0,none⟩))).run Tryz.prog W = .ok (.agg opsL.toArray) W :=
 run_loadAt_mid W 0 0 184 opsL (.array 34 9) h.2 Tryz.underlying184 rfl (by kernel_rfl)
theorem opsL_at {m : Nat} (h : m < 34) : opsL.toArray[m]? = some (.string ⟨(Sg.opers.getD m []).toArray⟩):=by
 have hl : Sg.opers.length = 34:=rfl
 simp [opsL,List.getD,h,hl]
theorem opsL_size : opsL.toArray.size = 34:=by simp [opsL];rfl
theorem wpListIn_load_val {F : Fence} {n : Nat} {P : Program} {w : World} {ops : Array Oper} {rest : List Oper} {o : Oper} {a : Act} {Q : Exit → Act → World → Prop}
  (hg : o.guard = none) (ty : TypeId) (x : Operand) (hop : o.op = Op.load ty x) (pv : Value) (hx : a.eval x = pv) (v : Value) (hld : (Instr.loadAt ty pv).run P w = .ok v w)
  (hK : wpListIn F n P ops Q rest (a.put o.dst v) w) : wpListIn F n P ops Q (o :: rest) a w:=by
 refine wpListIn_plain hg fun K' hK'=>?_
 unfold Oper.wpIn
 refine ⟨by simp [Oper.about,hop],?_⟩
 rw [Oper.semAt_plain F _ _ (by rw [hop];intro c hc';cases hc')]
 simp [execOp,hop,hx,hld,Result.andThen]
 exact hK' _ _ hK
theorem run_ops {T : Array Value} {m : Nat} (hm : m < 34) {v : Value} (h : T[m]? = some v) (w : World) :
  (Instr.index 184 (.agg T) (.int .i64 (m : Int))).run Tryz.prog w = .ok v w:=by
 simp [Instr.index,run_underlying Tryz.underlying184,asIntOf,part,go_sem,h]
 omega
abbrev encS (x : List UInt8) : Array Value:=#[.string ⟨x.toArray⟩]
theorem opers_in (n : Nat) (w : World) :
  CallsIn Fence.wide n Tryz.prog 209 #[] w fun e w'=>e = .returned (.func (.func 233) #[] #[]) ∧ w' = w:=by
 refine callsIn_of_wp Tryz.func209 rfl trivial ?_ rfl
 simp only [Tryz.ntmps209,List.size_toArray,List.length_nil,Nat.reduceSub,Array.replicate_succ,Array.replicate_zero,List.push_toArray,List.append_toArray,List.nil_append]
 gi_wp2
 go_ret
 exact ⟨rfl,rfl⟩
theorem opers1_in (n : Nat) (hn : 1 ≤ n) (l : Nat) (J Jx : List (List UInt8) → World → Prop)
  (hY : ∀ pre x W,J pre W → pre.length < 34 → YieldAt Fence.wide (n - 1) Tryz.prog l (encS x) W fun e W' =>
   (e = .returned (.bool true) ∧ J (pre ++ [x]) W' ∧ True) ∨ (e = .returned (.bool false) ∧ Jx (pre ++ [x]) W'))
  (W : World) (hW : OpsAt W) (h0 : J [] W) :
  CallsIn Fence.wide n Tryz.prog 233 #[.func (.yield l) #[] #[]] W fun e W'=>(∃ v,e = .returned v) ∧
   ((∃ ys,ys = Sg.opers ∧ J ys W') ∨ (∃ pre,pre <+: Sg.opers ∧ Jx pre W')):=by
 have hld:=hW.load
 have hsz:=opsL_size
 obtain ⟨T,hT⟩ : ∃ T,opsL.toArray = T:=⟨_,rfl⟩
 rw [hT] at hld hsz
 refine callsIn_of_wp Tryz.func233 rfl trivial ?_ rfl
 simp only [Tryz.ntmps233,List.size_toArray,List.length_cons,List.length_nil,Nat.reduceAdd,Nat.reduceSub,Array.replicate_succ,Array.replicate_zero,List.push_toArray,List.append_toArray,List.nil_append,List.cons_append]
 gi_wp2_with (refine wpListIn_load_val rfl _ _ rfl _ rfl _ hld ?_)
 gi_loopw [3,5] (fun o k wr=>∃ m : Nat,k = .int .i64 (m : Int) ∧ m ≤ 34 ∧ J (Sg.opers.take m) wr) (fun _ k _=>34 - (intOf k).toNat)
 case atStart=>exact ⟨0,rfl,Nat.zero_le _,h0⟩
 case round =>
  obtain ⟨m,rfl,hm,hJ⟩:=hrel
  by_cases h : m < 34
  ·have hix:=opsL_at h
   rw [hT] at hix
   have hx : Sg.opers.take (m + 1) = Sg.opers.take m ++ [Sg.opers.getD m []]:=by
    have hl : m < Sg.opers.length:=h
    rw [List.take_succ_eq_append_getElem hl]
    simp [List.getD,hl]
   obtain ⟨fn,tmps,assign,body,hy,hR⟩:=hY (Sg.opers.take m) (Sg.opers.getD m []) wr hJ (by rw [List.length_take];omega)
   rw [← hx] at hR
   obtain ⟨x,hxx⟩ : ∃ x,Sg.opers.getD m [] = x:=⟨_,rfl⟩
   rw [hxx] at hix hy
   have HX:=hid hix
   clear hxx hx hix
   dsimp only [encS] at hy
   gi_wp2
   rw [run_ops h HX.out]
   gi_wp2
   refine hR.mono ?_
   rintro e W3 (⟨rfl,hJ3,_⟩ | ⟨rfl,hJx3⟩)
   ·gi_wp2
    go_roundw
    case rel=>exact ⟨m + 1,by go_num,by omega,hJ3⟩
    case measure=>simp [intOf];omega
   ·gi_wp2
    refine bodyPost_ret (results_none rfl _ _ _) rfl ?_
    exact ⟨⟨_,rfl⟩,.inr ⟨_,List.take_prefix _ _,hJx3⟩⟩
  ·have hd : m = 34:=by omega
   subst hd
   gi_wp2
   refine bodyPost_end (results_none rfl _ _ _) rfl ?_
   exact ⟨⟨_,rfl⟩,.inl ⟨_,rfl,hJ⟩⟩
theorem opers_stops (n : Nat) (hn : 1 ≤ n) (w : World) (hw : OpsAt w) :
  SeqStopsK Fence.wide n Tryz.prog 233 #[] encS (fun _ _=>True) (fun ys=>ys = Sg.opers) (fun pre=>pre <+: Sg.opers) 34 w:=fun l J Jx W hW _ _ hY h0=>by
 exact opers1_in n hn l J Jx (fun pre x W1 hJ hl=>hY pre x W1 hJ hl) W (hw.own hW) h0
def OI (w : World) (s : ByteArray) (pre : List (List UInt8)) (W : World) : Prop :=
 ((Boxed W w.heap.size 9 (.string s) ∧ Boxed W (w.heap.size + 1) 3 (.int .i64 0)) ∧ (∀ x ∈ pre,Lib.hasPrefix s.data.toList x = false)) ∧ Below w.heap.size w W
def OX (w : World) (s : ByteArray) (c : Code) (pre : List (List UInt8)) (W : World) : Prop :=
 (c = .ret ∧ ∃ ini last,pre = ini ++ [last] ∧ (∀ x ∈ ini,Lib.hasPrefix s.data.toList x = false) ∧ Lib.hasPrefix s.data.toList last = true ∧ Boxed W (w.heap.size + 1) 3 (.int .i64 (last.length : Int))) ∧ Below w.heap.size w W
def OA (w : World) (s : ByteArray) (x : List UInt8) (a' : Act) (W : World) : Prop :=
 a' = { tmps:=#[.string s,.pointer (some ⟨w.heap.size,0,none⟩),.pointer (some ⟨w.heap.size + 1,0,none⟩),.string ⟨x.toArray⟩,.func (.func 233) #[] #[],.string ⟨x.toArray⟩,undef,undef,undef,undef,undef],defers:=[] }
theorem OI_own (w : World) (s : ByteArray) (B : Nat) (hB : w.heap.size ≤ B) : OwnFrom B (OI w s) :=
 OwnFrom.and (OwnFrom.and (OwnFrom.and (Own.from (boxed_own _ _ _) _) (Own.from (boxed_own _ _ _) _)) (ownFrom_pure _ _)) (ownFrom_below (Nat.le_refl _) hB)
theorem OX_own (w : World) (s : ByteArray) (c : Code) (B : Nat) (hB : w.heap.size ≤ B) : OwnFrom B (OX w s c) :=
 OwnFrom.and (fun pre X Y row hs hg hr=>by
   obtain ⟨hc,ini,last,e1,e2,e3,c1⟩:=hs
   exact ⟨hc,ini,last,e1,e2,e3,boxed_own _ _ (fun (_ : Unit)=>_) () X Y row c1 hg (fun r e=>(hr r e).2)⟩) (ownFrom_below (Nat.le_refl _) hB)
theorem OI_go {w W : World} {s : ByteArray} {pre : List (List UInt8)} {x : List UInt8} (h : OI w s pre W) (hle : Lib.hasPrefix s.data.toList x = false) : OI w s (pre ++ [x]) W:=by
 obtain ⟨⟨hb,hp⟩,hB⟩:=h
 exact ⟨⟨hb,fun y hy=>(List.mem_append.1 hy).elim (hp y) (fun e=>by simp at e;subst e;exact hle)⟩,hB⟩
theorem OX_fin {w W : World} {s : ByteArray} {pre : List (List UInt8)} {x : List UInt8} (h : OI w s pre W) (hle : Lib.hasPrefix s.data.toList x = true) :
  KeepsOthers W (W.setCell ⟨w.heap.size + 1,0,none⟩ (.int .i64 (x.length : Int))) ∧ OX w s .ret (pre ++ [x]) (W.setCell ⟨w.heap.size + 1,0,none⟩ (.int .i64 (x.length : Int))):=by
 obtain ⟨⟨⟨b0,b1⟩,hp⟩,hB⟩:=h
 exact ⟨KeepsOthers.setCell _ _ _,⟨rfl,pre,x,rfl,hp,hle,b1.set _⟩,hB.setCell (p:=⟨w.heap.size + 1,0,none⟩) (by simp) _⟩
theorem oper_find {l : List UInt8} {ini : List (List UInt8)} {x : List UInt8} (hpre : ini ++ [x] <+: Sg.opers) (hno : ∀ y ∈ ini,Lib.hasPrefix l y = false) (hle : Lib.hasPrefix l x = true) : Sg.oper l = x.length:=by
 obtain ⟨rest,hr⟩:=hpre
 unfold Sg.oper
 rw [← hr,List.append_assoc,List.find?_append,List.find?_eq_none.2 (fun y hy=>by rw [hno y hy];simp)]
 have e : ([x] ++ rest).find? (fun o=>Lib.hasPrefix l o) = some x:=by simp [hle]
 rw [e];rfl
theorem oper_none {l : List UInt8} (hno : ∀ y ∈ Sg.opers,Lib.hasPrefix l y = false) : Sg.oper l = 0:=by
 unfold Sg.oper
 rw [List.find?_eq_none.2 (fun y hy=>by rw [hno y hy];simp)]
theorem pre_in (m : Nat) (s : ByteArray) (x : List UInt8) (r : Bool) (h : Lib.hasPrefix s.data.toList x = r) (w : World) :
  CallsIn Fence.wide m Tryz.prog 94 #[.string s,.string ⟨x.toArray⟩] w fun e w'=>e = .returned (.bool r) ∧ w = w':=by
 refine (callsIn_wide.2 (Tryz.strings_HasPrefix s ⟨x.toArray⟩ w)).mono ?_
 rintro e w' ⟨rfl,rfl⟩
 exact ⟨by rw [← h],rfl⟩
theorem size_mk (x : List UInt8) : ((⟨x.toArray⟩ : ByteArray).size : Int) = (x.length : Int):=by
 show ((x.toArray.size : Nat) : Int) = _
 simp
theorem oper_in (n : Nat) (hn : 3 ≤ n) (s : ByteArray) (w : World) (hw : OpsAt w) :
  CallsIn Fence.wide n Tryz.prog 179 #[.string s] w fun e W'=>e = .returned (.int .i64 (Sg.oper s.data.toList : Nat)) ∧ Below w.heap.size w W':=by
 have h1 : 1 ≤ n:=by omega
 have hf : Fence.wide.fn 209:=trivial
 refine callsIn_of_wp_marks Tryz.func179 rfl trivial ?_ rfl
 simp only [Tryz.ntmps179,List.size_toArray,List.length_cons,List.length_nil,Nat.reduceAdd,Nat.reduceSub,Array.replicate_succ,Array.replicate_zero,List.push_toArray,List.append_toArray,List.nil_append,List.cons_append]
 gi_wp2_with (gi_at_call 209;refine (opers_in (n - 1) _).mono ?_;rintro e w' ⟨rfl,rfl⟩)
 have b0:=(Boxed.new w 9 (.string s)).alloc (.cells #[.int .i64 0] 3)
 have b1:=Boxed.new (w.alloc (.cells #[.string s] 9)) 3 (.int .i64 0)
 simp only [World.size_alloc] at b1
 have hB0 : Below w.heap.size w ((w.alloc (.cells #[.string s] 9)).alloc (.cells #[.int .i64 0] 3)):=((Below.refl _ w).alloc (Nat.le_refl _) _).alloc (by simp) _
 have hsz : ((w.alloc (.cells #[.string s] 9)).alloc (.cells #[.int .i64 0] 3)).heap.size = w.heap.size + 2:=by simp
 obtain ⟨W0,hW0⟩ : ∃ W0,(w.alloc (.cells #[.string s] 9)).alloc (.cells #[.int .i64 0] 3) = W0:=⟨_,rfl⟩
 rw [hW0] at b0 b1 hB0 hsz ⊢
 clear hW0
 refine wpIn_rangeFunc_ownH (F:=Fence.wide) rfl h1 (gf:=233) (lb:=#[]) rfl trivial (enters_of Tryz.func233 (by kernel_rfl) rfl)
  (opers_stops (n - 1) (by omega) W0 (hw.own hB0)) (fun _ _=>trivial) (fun _ _ _ _ _ _ _ _=>trivial) (Below.refl _ _) (fun _=>rfl)
  (OI w s) (OX w s)
  (OI_own w s _ (by omega)) (fun c=>OX_own w s c _ (by omega))
  ⟨⟨⟨b0,b1⟩,by simp⟩,hB0⟩
  (OA w s) (fun x a' _ _ _ _ hs _ _=>hs)
  ?assign ?body ?done ?stop
 case assign =>
  rintro l pre x W K hI hK
  gi_wp2
  exact hK _ _ (KeepsFrom.refl _ _) trivial hI rfl
 case body =>
  rintro l pre x a' W hl ⟨r,hr⟩ hI rfl hlt
  obtain ⟨⟨⟨b0,b1⟩,hp⟩,hB⟩:=id hI
  clear hp
  have c0:=b0.cell
  have c1:=b1.cell
  have f1:=b1.frozen
  have hdep : 1 ≤ n - 1 - 1:=by omega
  have hf24 : Fence.wide.fn 94:=trivial
  cases hle : Lib.hasPrefix s.data.toList x with
  | true =>
   have hfin:=OX_fin hI hle
   have hsz:=size_mk x
   have HF:=hid hfin
   clear hfin
   gi_wp2_with (gi_at_call 94;refine (CallsIn.inRound l (pre_in _ s x true hle _)).mono ?_;rintro e w' ⟨rfl,rfl⟩)
   exact ⟨HF.out.1.from _,HF.out.2⟩
  | false =>
   gi_wp2_with (gi_at_call 94;refine (CallsIn.inRound l (pre_in _ s x false hle _)).mono ?_;rintro e w' ⟨rfl,rfl⟩)
   exact ⟨KeepsFrom.refl _ _,trivial,OI_go hI hle⟩
 case done =>
  rintro D ys W hD rfl hI hK
  obtain ⟨⟨⟨b0,b1⟩,hp⟩,hB⟩:=hI
  have HP:=hid (oper_none hp)
  have f1:=b1.frozen
  have c1:=b1.cell
  clear hp
  gi_wp2
  have hk3 : KeepsOthers W (W.setCell ⟨w.heap.size + 1,0,none⟩ (.int .i64 0)):=KeepsOthers.setCell _ _ _
  have hK':=hk3.same D _ hK rfl
  have d1:=(b1.set (.int .i64 0)).cell
  have hB3:=hB.setCell (p:=⟨w.heap.size + 1,0,none⟩) (by simp) (.int .i64 0)
  refine ⟨by simp,.inl ⟨_,_,rfl,run_takeDeferred hK',?_⟩⟩
  have e1:=cell_kept d1 (grownBy_putObj' _ D (.deferred none)) (fun r e=>by cases e;exact ⟨_,hK',rfl⟩)
  refine ⟨.int .i64 0,?_,by rw [HP.out];rfl,hB3.trans (belowK_b (w:=w) (Nat.le_refl _) _ D _ _ (by omega) hK' rfl rfl)⟩
  simp [results,Tryz.f179,go_sem,e1]
 case stop =>
  rintro D c pre W hD hpre hX hK
  obtain ⟨⟨rfl,ini,last,rfl,hno,hle,c1⟩,hB⟩:=hX
  have HP:=hid (oper_find hpre hno hle)
  clear hno hle hpre
  gi_wp2
  refine ⟨by simp,.inl ⟨_,_,rfl,run_takeDeferred hK,?_⟩⟩
  have e1:=cell_kept c1.cell (grownBy_putObj' _ D (.deferred none)) (fun r e=>by cases e;exact ⟨_,hK,rfl⟩)
  refine ⟨.int .i64 (last.length : Int),?_,by rw [HP.out],hB.trans (belowK_b (w:=w) (Nat.le_refl _) _ D _ _ (by omega) hK rfl rfl)⟩
  simp [results,Tryz.f179,go_sem,e1]
theorem oper_calls (s : ByteArray) (w : World) (hw : OpsAt w) :
  Calls Tryz.prog 179 #[.string s] w fun e W'=>e = .returned (.int .i64 (Sg.oper s.data.toList : Nat)) ∧ Below w.heap.size w W' :=
 callsIn_wide.1 (oper_in 3 (Nat.le_refl _) s w hw)
end Go.Proofs.YtlklhkkjcfmefaaGreatDoor.sg
namespace Go.Proofs.YtlklhkkjcfmefaaGreatDoor.pa
open Go.RowKit nd pr
def Makes (f : Fn) (r r' : List Tk) (x : Res f) : Prop:=∃ n,(go n f).run r = some (.ok r' x)
theorem Makes.at {f : Fn} {r r' : List Tk} {x : Res f} (h : Makes f r r' x) : ∃ n,∀ m,n ≤ m → (go m f).run r = some (.ok r' x):=by
 obtain ⟨n,h⟩:=h
 exact ⟨n,fun m hm=>(go_le hm f).run h⟩
def Stops (t : Tk) : Prop:=(t.1 == 4) = false ∧ op quest t = false ∧ op lbr t = false ∧ op dot t = false ∧ word was t = false ∧ op bar t = false ∧ levelOf (textOf t.1 t.2) = 0
def Begins (t : Tk) : Prop:=op minus t = false ∧ word wdef t = false ∧ word wlabel t = false ∧ word wtry t = false ∧ op rbr t = false ∧ op rbrace t = false
instance (t : Tk) : Decidable (Stops t):=by unfold Stops;infer_instance
instance (t : Tk) : Decidable (Begins t):=by unfold Begins;infer_instance
theorem tok_cons (t : Tk) (r : List Tk) : tok (t :: r) = t:=rfl
theorem n_run_look {α : Type} (k : Tk → Pa α) (r : List Tk) : (Pa.look k).run r = (k (tok r)).run r:=rfl
theorem n_run_ended {α : Type} (k : Bool → Pa α) (r : List Tk) : (Pa.ended k).run r = (k r.isEmpty).run r:=rfl
theorem run_need {α : Type} {s : ByteArray} {t : Tk} (k : Pa α) (r : List Tk) (h : op s t = true) : (need s k).run (t :: r) = k.run r:=by
 unfold need
 rw [n_run_look]
 show (if (op s t || word s t) = true then Pa.move k else Pa.bad).run _ = _
 rw [h];rfl
theorem post_of {r r' : List Tk} {x : Nd} (h : Makes .term r r' x) (hs : Stops (tok r')) : Makes .post r r' x:=by
 obtain ⟨n,h⟩:=h.at
 obtain ⟨h1,h2,h3,h4,_⟩:=hs
 refine ⟨n + 2,?_⟩
 show ((go (n + 1) .term).bind fun (x : Nd)=>go (n + 1) (.postL x)).run r = _
 rw [Pa.run_bind,h (n + 1) (by omega)]
 show (step (go n) (.postL x)).run r' = _
 simp only [step]
 rw [n_run_look]
 simp only [h1,h2,h3,h4,Bool.false_eq_true,if_false]
 rfl
theorem exp_of {t : Tk} {r r' : List Tk} {x : Nd} (ht : Begins t) (h : Makes .post (t :: r) r' x) (hs : Stops (tok r')) (least : Int) : Makes (.exp least) (t :: r) r' x:=by
 obtain ⟨n,h⟩:=h.at
 obtain ⟨_,_,_,_,h5,_,h7⟩:=hs
 obtain ⟨b1,b2,b3,b4,_⟩:=ht
 refine ⟨n + 3,?_⟩
 have e1 : (go (n + 2) .operand).run (t :: r) = some (.ok r' x):=by
  show (step (go (n + 1)) .operand).run (t :: r) = _
  simp only [step]
  rw [n_run_look,tok_cons]
  simp only [b1,b2,b3,b4,Bool.false_eq_true,if_false]
  rw [Pa.run_bind,h (n + 1) (by omega)]
  show (Pa.look _).run r' = _
  rw [n_run_look]
  simp only [h5,Bool.false_eq_true,if_false]
  rfl
 show (step (go (n + 2)) (.exp least)).run (t :: r) = _
 simp only [step]
 rw [Pa.run_bind,e1]
 show (step (go (n + 1)) (.expL least x 0)).run r' = _
 simp only [step]
 rw [n_run_look]
 simp only [h7]
 rfl
theorem value_of {t : Tk} {r r' : List Tk} {x : Nd} (ht : Begins t) (h : Makes .post (t :: r) r' x) (hs : Stops (tok r')) : Makes .value (t :: r) r' x:=by
 obtain ⟨n,h⟩:=h.at
 obtain ⟨_,_,_,_,_,h6,_⟩:=hs
 obtain ⟨b1,_⟩:=ht
 refine ⟨n + 2,?_⟩
 have e1 : (go (n + 1) .unit).run (t :: r) = some (.ok r' x):=by
  show (step (go n) .unit).run (t :: r) = _
  simp only [step]
  rw [n_run_look,tok_cons]
  simp only [b1,Bool.false_eq_true,if_false]
  exact h n (Nat.le_refl _)
 show (step (go (n + 1)) .value).run (t :: r) = _
 simp only [step]
 rw [Pa.run_bind,e1]
 show (Pa.look _).run r' = _
 rw [n_run_look]
 simp only [h6,Bool.false_eq_true,if_false]
 rfl
abbrev tOne : Tk:=(6,⟨#[49]⟩)
def frontT : Nat → List Tk
 | 0=>[(13,lpar)]
 | 1=>[(13,lbr)]
 | 2=>[(13,lbrace),(3,⟨#[97]⟩),(13,colon)]
 | _=>[(7,⟨#[34]⟩),(9,⟨#[92,40]⟩)]
def backT : Nat → List Tk
 | 0=>[(13,rpar)]
 | 1=>[(13,rbr)]
 | 2=>[(13,rbrace)]
 | _=>[(10,rpar),(11,⟨#[34]⟩)]
def nest : List Nat → List Tk
 | []=>[tOne]
 | k :: l=>frontT k ++ (nest l ++ backT k)
theorem nest_begins : ∀ l,∃ t r,nest l = t :: r ∧ Begins t
 | []=>⟨_,_,rfl,by decide +kernel⟩
 | 0 :: l=>⟨_,_,rfl,by decide +kernel⟩
 | 1 :: l=>⟨_,_,rfl,by decide +kernel⟩
 | 2 :: l=>⟨_,_,rfl,by decide +kernel⟩
 | (k + 3) :: l=>⟨_,_,rfl,by decide +kernel⟩
theorem back_stops (k : Nat) (r : List Tk) : Stops (tok (backT k ++ r)):=by
 match k with
 | 0=>show Stops (13,rpar);decide +kernel
 | 1=>show Stops (13,rbr);decide +kernel
 | 2=>show Stops (13,rbrace);decide +kernel
 | k + 3=>show Stops (10,rpar);decide +kernel
theorem term_nest : ∀ (l : List Nat) (r : List Tk),∃ x,Makes .term (nest l ++ r) r x:=by
 intro l
 induction l with
 | nil=>intro r;exact ⟨_,1,rfl⟩
 | cons k l ih =>
  intro r
  obtain ⟨x,hx⟩:=ih (backT k ++ r)
  have hs:=back_stops k r
  have hp:=post_of hx hs
  obtain ⟨t,q,hq,hb⟩:=nest_begins l
  have hp':=hp
  rw [hq] at hp'
  have he:=exp_of hb hp' hs 1
  obtain ⟨n,he⟩:=he.at
  obtain ⟨m,hm⟩:=hp'.at
  obtain ⟨_,_,_,_,hb5,hb6⟩:=id hb
  have hap : ∀ b : List Tk,(nest l ++ b) ++ r = t :: (q ++ (b ++ r)):=fun b=>by rw [List.append_assoc,hq];rfl
  match k with
  | 0 =>
   refine ⟨mk 12 eB [x],n + 2,?_⟩
   show (step (step (go n)) .term).run ((13,lpar) :: ((nest l ++ backT 0) ++ r)) = _
   rw [hap]
   show ((go n (.exp 1)).bind _).run (t :: (q ++ (backT 0 ++ r))) = _
   have e:=he n (Nat.le_refl _)
   change (go n (.exp 1)).run (t :: (q ++ (_ ++ r))) = _ at e
   rw [Pa.run_bind,e]
   exact run_need _ _ rfl
  | 1 =>
   refine ⟨mk 9 eB [x],n + 2,?_⟩
   show (step (step (go n)) .term).run ((13,lbr) :: ((nest l ++ backT 1) ++ r)) = _
   rw [hap]
   show (if op rbr t = true then _ else (go n (.exp 1)).bind _ : Pa Nd).run (t :: (q ++ (backT 1 ++ r))) = _
   rw [hb5]
   show ((go n (.exp 1)).bind _).run (t :: (q ++ (backT 1 ++ r))) = _
   have e:=he n (Nat.le_refl _)
   change (go n (.exp 1)).run (t :: (q ++ (_ ++ r))) = _ at e
   rw [Pa.run_bind,e]
   exact run_need _ _ rfl
  | 2 =>
   obtain ⟨v,hv⟩:=(value_of ⟨hb.1,hb.2.1,hb.2.2.1,hb.2.2.2.1,hb5,hb6⟩ hp' hs).at
   refine ⟨mk 10 eB [mk 11 eB [mk 31 ⟨#[97]⟩ [],x]],v + 6,?_⟩
   have e1 : (go (v + 3) .pair).run ((3,⟨#[97]⟩) :: (13,colon) :: (t :: (q ++ (backT 2 ++ r)))) = some (.ok (backT 2 ++ r) (mk 11 eB [mk 31 ⟨#[97]⟩ [],x])):=by
    show (step (go (v + 2)) .pair).run _ = _
    simp only [step]
    have ek : (go (v + 2) (.key false)).run ((3,⟨#[97]⟩) :: (13,colon) :: (t :: (q ++ (backT 2 ++ r)))) = some (.ok ((13,colon) :: (t :: (q ++ (backT 2 ++ r)))) (mk 31 ⟨#[97]⟩ [],false)):=rfl
    rw [Pa.run_bind,ek]
    show (need colon ((go (v + 2) .value).bind _)).run _ = _
    rw [run_need _ _ rfl,Pa.run_bind]
    have e:=hv (v + 2) (by omega)
    change (go (v + 2) .value).run (t :: (q ++ (_ ++ r))) = _ at e
    rw [e]
    rfl
   show (step (step (go (v + 4))) .term).run ((13,lbrace) :: (3,⟨#[97]⟩) :: (13,colon) :: ((nest l ++ backT 2) ++ r)) = _
   rw [hap]
   show ((go (v + 4) .pairs).bind _).run ((3,⟨#[97]⟩) :: (13,colon) :: (t :: (q ++ (backT 2 ++ r)))) = _
   have e2 : (go (v + 4) .pairs).run ((3,⟨#[97]⟩) :: (13,colon) :: (t :: (q ++ (backT 2 ++ r)))) = some (.ok r [mk 11 eB [mk 31 ⟨#[97]⟩ [],x]]):=by
    show (step (go (v + 3)) .pairs).run _ = _
    simp only [step]
    rw [Pa.run_bind,e1]
    exact run_need _ _ rfl
   rw [Pa.run_bind,e2]
   rfl
  | k + 3 =>
   refine ⟨mk 6 eB [x],n + 6,?_⟩
   show (step (step (step (step (go (n + 2))))) .term).run ((7,⟨#[34]⟩) :: (9,⟨#[92,40]⟩) :: ((nest l ++ backT (k + 3)) ++ r)) = _
   rw [hap]
   show ((step (go (n + 2)) .strL).bind _).run ((9,⟨#[92,40]⟩) :: (t :: (q ++ (backT (k + 3) ++ r)))) = _
   have e2 : (step (go (n + 2)) .strL).run ((9,⟨#[92,40]⟩) :: (t :: (q ++ (backT (k + 3) ++ r)))) = some (.ok ((11,⟨#[34]⟩) :: r) [x]):=by
    show ((go (n + 2) (.exp 1)).bind _).run (t :: (q ++ (backT (k + 3) ++ r))) = _
    have e:=he (n + 2) (by omega)
    change (go (n + 2) (.exp 1)).run (t :: (q ++ (_ ++ r))) = _ at e
    rw [Pa.run_bind,e]
    rfl
   rw [Pa.run_bind,e2]
   rfl
theorem deepAt_step (t : Tk) (r : List Tk) (n i : Nat) : deepAt n i (t :: r) = if 256 < (if opens t = true then n + 1 else if closes t = true then n - 1 else n) then some i else deepAt (if opens t = true then n + 1 else if closes t = true then n - 1 else n) (i + 1) r:=rfl
theorem deep_open {t : Tk} {r : List Tk} {n i : Nat} (h : opens t = true) (hn : n + 1 ≤ 256) : deepAt n i (t :: r) = deepAt (n + 1) (i + 1) r:=by
 rw [deepAt_step,if_pos h,if_neg (by omega)]
theorem deep_close {t : Tk} {r : List Tk} {n i : Nat} (h : opens t = false) (h' : closes t = true) (hn : n ≤ 257) : deepAt n i (t :: r) = deepAt (n - 1) (i + 1) r:=by
 rw [deepAt_step,h,h'];simp;omega
theorem deep_else {t : Tk} {r : List Tk} {n i : Nat} (h : opens t = false) (h' : closes t = false) (hn : n ≤ 256) : deepAt n i (t :: r) = deepAt n (i + 1) r:=by
 rw [deepAt_step,h,h'];simp;omega
theorem deep_nest : ∀ (l : List Nat) (n i : Nat) (r : List Tk),n + l.length ≤ 256 → ∃ j,deepAt n i (nest l ++ r) = deepAt n j r
 | [],n,i,r,h=>⟨_,deep_else rfl rfl (by simpa using h)⟩
 | k :: l,n,i,r,h=>by
  simp only [List.length_cons] at h
  have key : ∀ (i : Nat),∃ j,deepAt (n + 1) i (nest l ++ (backT k ++ r)) = deepAt n j r:=fun i=>by
   obtain ⟨j,hj⟩:=deep_nest l (n + 1) i (backT k ++ r) (by omega)
   rw [hj]
   match k with
   | 0=>exact ⟨_,deep_close (n:=n + 1) rfl rfl (by omega)⟩
   | 1=>exact ⟨_,deep_close (n:=n + 1) rfl rfl (by omega)⟩
   | 2=>exact ⟨_,deep_close (n:=n + 1) rfl rfl (by omega)⟩
   | k + 3=>exact ⟨_,(deep_close (n:=n + 1) (t:=(10,rpar)) rfl rfl (by omega)).trans (deep_else rfl rfl (by omega))⟩
  have e : nest (k :: l) ++ r = frontT k ++ (nest l ++ (backT k ++ r)):=by simp [nest]
  rw [e]
  match k with
  | 0=>obtain ⟨j,hj⟩:=key (i + 1);exact ⟨j,(deep_open rfl (by omega)).trans hj⟩
  | 1=>obtain ⟨j,hj⟩:=key (i + 1);exact ⟨j,(deep_open rfl (by omega)).trans hj⟩
  | 2 =>
   obtain ⟨j,hj⟩:=key (i + 1 + 1 + 1)
   exact ⟨j,(deep_open (t:=(13,lbrace)) rfl (by omega)).trans ((deep_else (t:=(3,⟨#[97]⟩)) rfl rfl (by omega)).trans ((deep_else (t:=(13,colon)) rfl rfl (by omega)).trans hj))⟩
  | k + 3 =>
   obtain ⟨j,hj⟩:=key (i + 1 + 1)
   exact ⟨j,(deep_else (t:=(7,⟨#[34]⟩)) rfl rfl (by omega)).trans ((deep_open (t:=(9,⟨#[92,40]⟩)) rfl (by omega)).trans hj)⟩
theorem deep_over : ∀ (l : List Nat) (n i : Nat) (r : List Tk),n ≤ 256 → 256 < n + l.length → ∃ j,deepAt n i (nest l ++ r) = some j
 | [],n,i,r,h,h'=>by simp at h';omega
 | k :: l,n,i,r,h,h'=>by
  simp only [List.length_cons] at h'
  have e : nest (k :: l) ++ r = frontT k ++ (nest l ++ (backT k ++ r)):=by simp [nest]
  rw [e]
  by_cases hn : n = 256
  ·subst hn
   match k with
   | 0=>exact ⟨_,by show deepAt 256 i ((13,lpar) :: _) = _;rw [deepAt_step];rfl⟩
   | 1=>exact ⟨_,by show deepAt 256 i ((13,lbr) :: _) = _;rw [deepAt_step];rfl⟩
   | 2=>exact ⟨_,by show deepAt 256 i ((13,lbrace) :: _) = _;rw [deepAt_step];rfl⟩
   | k + 3 =>
    refine ⟨i + 1,?_⟩
    show deepAt 256 i ((7,⟨#[34]⟩) :: (9,⟨#[92,40]⟩) :: _) = _
    rw [deep_else rfl rfl (by omega),deepAt_step];rfl
  ·have key:=fun i=>deep_over l (n + 1) i (backT k ++ r) (by omega) (by omega)
   match k with
   | 0=>obtain ⟨j,hj⟩:=key (i + 1);exact ⟨j,(deep_open rfl (by omega)).trans hj⟩
   | 1=>obtain ⟨j,hj⟩:=key (i + 1);exact ⟨j,(deep_open rfl (by omega)).trans hj⟩
   | 2 =>
    obtain ⟨j,hj⟩:=key (i + 1 + 1 + 1)
    exact ⟨j,(deep_open (t:=(13,lbrace)) rfl (by omega)).trans ((deep_else (t:=(3,⟨#[97]⟩)) rfl rfl (by omega)).trans ((deep_else (t:=(13,colon)) rfl rfl (by omega)).trans hj))⟩
   | k + 3 =>
    obtain ⟨j,hj⟩:=key (i + 1 + 1)
    exact ⟨j,(deep_else (t:=(7,⟨#[34]⟩)) rfl rfl (by omega)).trans ((deep_open (t:=(9,⟨#[92,40]⟩)) rfl (by omega)).trans hj)⟩
theorem parse_nest (l : List Nat) : (parse (nest l)).2.1 = if l.length ≤ 256 then 0 else 21:=by
 by_cases h : l.length ≤ 256
 ·rw [if_pos h]
  obtain ⟨j,hj⟩:=deep_nest l 0 0 [] (by omega)
  rw [List.append_nil] at hj
  have hd : deepAt 0 0 (nest l) = none:=hj
  obtain ⟨x,hx⟩:=term_nest l []
  have hs : Stops (tok ([] : List Tk)):=by decide +kernel
  have hp:=post_of hx hs
  obtain ⟨t,q,hq,hb⟩:=nest_begins l
  rw [List.append_nil,hq] at hp
  obtain ⟨n,he⟩:=(exp_of hb hp hs 1).at
  have hw : (word wimport t || word winclude t) = false ∧ word wdef t = false:=by
   refine ⟨?_,hb.2.1⟩
   have hk : t.1 = 3 → False:=fun e=>by
    cases l with
    | nil=>cases hq;cases e
    | cons k l =>
     match k with
     | 0=>cases hq;cases e
     | 1=>cases hq;cases e
     | 2=>cases hq;cases e
     | k + 3=>cases hq;cases e
   have : (t.1 == 3) = false:=beq_eq_false_iff_ne.2 (fun e=>hk e)
   simp [word,this]
  have hrun : (go (n + 2) .program).run (nest l) = some (.ok [] x):=by
   rw [hq]
   show (step (go (n + 1)) .program).run (t :: q) = _
   simp only [step]
   have e1 : (go (n + 1) .brings).run (t :: q) = some (.ok (t :: q) ([] : List Nd)):=by
    show (step (go n) .brings).run (t :: q) = _
    simp only [step]
    rw [n_run_look,tok_cons,hw.1]
    rfl
   rw [Pa.run_bind,e1]
   dsimp only
   rw [n_run_ended]
   simp only [List.isEmpty_cons,List.isEmpty_nil,Bool.not_true,Bool.false_and,Bool.false_eq_true,if_false]
   rw [Pa.run_bind,n_run_look,tok_cons,hw.2]
   simp only [Bool.false_eq_true,if_false]
   rw [he (n + 1) (by omega)]
   rfl
  rw [parse_of hd hrun]
 ·rw [if_neg h]
  obtain ⟨j,hj⟩:=deep_over l 0 0 [] (by omega) (by omega)
  rw [List.append_nil] at hj
  unfold parse
  rw [hj]
end Go.Proofs.YtlklhkkjcfmefaaGreatDoor.pa
namespace Go.Proofs.YtlklhkkjcfmefaaGreatDoor.pr
open Go.Lib (hid)
open Go.RowKit Go.Shelf sx
theorem table_calls (w : World) (hL : LvAt w) :
  Calls Tryz.prog 254 #[] w fun e W'=>e = .returned (.map (some w.heap.size)) ∧ TabAt W' w.heap.size opsP ∧ Below w.heap.size w W' :=
 callsIn_wide.1 (table_in 3 (Nat.le_refl _) w hL)
theorem Below.next {B : Nat} {w a b : World} (h : Below B w a) (k : Below a.heap.size a b) (hB : B ≤ w.heap.size) : Below B w b:=h.trans (k.mono (Nat.le_trans hB h.size))
theorem field0 (a b : Int) (w : World) : (Instr.field 201 (.agg #[.int .i64 a,.int .i64 b]) 0).run Tryz.prog w = .ok (.int .i64 a) w:=by kernel_rfl
theorem field1 (a b : Int) (w : World) : (Instr.field 201 (.agg #[.int .i64 a,.int .i64 b]) 1).run Tryz.prog w = .ok (.int .i64 b) w:=by kernel_rfl
theorem look1 {W : World} {b : Nat} (h : TabAt W b opsP) {s : ByteArray} (hs : s.size ≤ maxLen) :
  (Instr.lookup 202 (.map (some b)) (.string s) false).run Tryz.prog W = .ok (.agg #[.int .i64 (levelOf s),.int .i64 (sideOf s)]) W:=h.look hs false
theorem look2 {W : World} {b : Nat} (h : TabAt W b opsP) {s : ByteArray} (hs : s.size ≤ maxLen) :
  (Instr.lookup 202 (.map (some b)) (.string s) true).run Tryz.prog W = .ok (.tuple #[.agg #[.int .i64 (levelOf s),.int .i64 (sideOf s)],.bool (isOp s)]) W:=h.look hs true
theorem level_calls (s : ByteArray) (hs : s.size ≤ maxLen) (w : World) (hL : LvAt w) :
  Calls Tryz.prog 236 #[.string s] w fun e w'=>e = .returned (.int .i64 (levelOf s)) ∧ Below w.heap.size w w':=by
 go_enter Tryz.func236,Tryz.ntmps236
 go_wp2_with fail
 ((with_reducible refine (table_calls w hL).mono ?_);rintro e w1 ⟨rfl,hT,hb1⟩)
 have hlk:=look1 hT hs
 clear hT hL
 go_wp2_with fail
 rw [field0]
 go_wp2_with fail
 go_ret
 exact ⟨rfl,hb1⟩
theorem side_calls (s : ByteArray) (hs : s.size ≤ maxLen) (w : World) (hL : LvAt w) :
  Calls Tryz.prog 238 #[.string s] w fun e w'=>e = .returned (.int .i64 (sideOf s)) ∧ Below w.heap.size w w':=by
 go_enter Tryz.func238,Tryz.ntmps238
 go_wp2_with fail
 ((with_reducible refine (table_calls w hL).mono ?_);rintro e w1 ⟨rfl,hT,hb1⟩)
 have hlk:=look1 hT hs
 clear hT hL
 go_wp2_with fail
 rw [field1]
 go_wp2_with fail
 go_ret
 exact ⟨rfl,hb1⟩
theorem beside_calls (s : ByteArray) (hs : s.size ≤ maxLen) (d : Int) (w : World) (hL : LvAt w) :
  Calls Tryz.prog 255 #[.string s,.int .i64 d] w fun e w'=>e = .returned (.int .i64 (besideOf s d)) ∧ Below w.heap.size w w':=by
 have hbd:=level_bounds s
 have hv : besideOf s d = if isOp s = true ∧ sideOf s ≠ d then levelOf s + 1 else levelOf s:=rfl
 have HC:=hid (fun w hL=>table_calls w hL)
 have HK:=hid (fun W b (h : TabAt W b opsP)=>look2 h hs)
 obtain ⟨a,ha⟩ : ∃ a,levelOf s = a:=⟨_,rfl⟩
 obtain ⟨b,hb⟩ : ∃ b,sideOf s = b:=⟨_,rfl⟩
 obtain ⟨c,hc⟩ : ∃ c,isOp s = c:=⟨_,rfl⟩
 rw [ha] at hbd
 rw [ha,hb,hc] at hv HK
 have HV:=hid hv
 clear hv ha hb hc
 have hw1 : wrap64 (a + 1) = a + 1:=by rw [IntWalk.wrap64_in];omega
 have HW:=hid hL
 clear hL
 cases c with
 | false =>
  go_enter Tryz.func255,Tryz.ntmps255
  go_wp2_with fail
  ((with_reducible refine (HC.out w HW.out).mono ?_);rintro e w1 ⟨rfl,hT,hb1⟩)
  have hlk:=HK.out _ _ hT
  clear hT
  go_wp2_with fail
  go_ret
  exact ⟨by rw [HV.out];simp,hb1.alloc hb1.size _⟩
 | true =>
  by_cases hd : b = d
  ·have q1 : (b == d) = true:=by rw [beq_iff_eq];exact hd
   have q2 : (b != d) = false:=by unfold bne;rw [q1];rfl
   have q3 : decide (b = d) = true:=decide_eq_true hd
   have HQ:=hid hd
   clear hd
   go_enter Tryz.func255,Tryz.ntmps255
   go_wp2_with fail
   ((with_reducible refine (HC.out w HW.out).mono ?_);rintro e w1 ⟨rfl,hT,hb1⟩)
   have hlk:=HK.out _ _ hT
   clear hT
   go_wp2_with fail
   go_ret
   exact ⟨by rw [HV.out,HQ.out];simp,hb1.alloc hb1.size _⟩
  ·have q1 : (b == d) = false:=by rw [beq_eq_false_iff_ne];exact hd
   have q2 : (b != d) = true:=by unfold bne;rw [q1];rfl
   have q3 : decide (b = d) = false:=decide_eq_false hd
   have HQ:=hid hd
   clear hd
   go_enter Tryz.func255,Tryz.ntmps255
   go_wp2_with fail
   ((with_reducible refine (HC.out w HW.out).mono ?_);rintro e w1 ⟨rfl,hT,hb1⟩)
   have hlk:=HK.out _ _ hT
   clear hT
   go_wp2_with fail
   go_ret
   exact ⟨by rw [HV.out];simp [HQ.out],hb1.alloc hb1.size _⟩
theorem right_calls (s : ByteArray) (hs : s.size ≤ maxLen) (w : World) (hL : LvAt w) :
  Calls Tryz.prog 237 #[.string s] w fun e w'=>e = .returned (.int .i64 (besideOf s 2)) ∧ Below w.heap.size w w':=by
 have HB:=hid (beside_calls s hs 2 w hL)
 clear hL
 go_enter Tryz.func237,Tryz.ntmps237
 go_wp2_with fail
 ((with_reducible refine HB.out.mono ?_);rintro e w1 ⟨rfl,hb1⟩)
 go_wp2_with fail
 go_ret
 exact ⟨rfl,hb1⟩
theorem of_calls (k : Int) (s : ByteArray) (hs : s.size ≤ 140737488351232) (w : World) (hL : LvAt w) :
  Calls Tryz.prog 217 #[.agg #[.int .i64 k,.string s]] w fun e w'=>e = .returned (.string (textOf k s)) ∧ Below w.heap.size w w':=by
 have hv : textOf k s = if isKind k = true ∧ levelOf s ≠ 0 then s else ⟨#[]⟩:=rfl
 have hk : isKind k = (decide (k = 13) || decide (k = 3)):=rfl
 have HC:=hid (fun W (hb : Below w.heap.size w W)=>level_calls s (by unfold maxLen;omega) W (hL.own hb))
 have HO:=hid (fun W=>clone_calls s hs W)
 obtain ⟨a,ha⟩ : ∃ a,levelOf s = a:=⟨_,rfl⟩
 rw [ha] at hv HC
 rw [hk] at hv
 have HV:=hid hv
 clear hv ha hk hL
 have hb0 : Below w.heap.size w (w.alloc (.cells #[.int .i64 k,.string s] 49)):=(Below.refl _ w).alloc (Nat.le_refl _) _
 have HB0:=hid hb0
 clear hb0
 by_cases h13 : k = 13
 ·subst h13
  by_cases h0 : a = 0
  ·subst h0
   go_enter Tryz.func217,Tryz.ntmps217
   go_wp2_with fail
   ((with_reducible refine (HC.out _ HB0.out).mono ?_);rintro e w1 ⟨rfl,hb1⟩)
   go_wp2_with fail
   go_ret
   exact ⟨by rw [HV.out];simp,Below.next HB0.out hb1 (by simp)⟩
  ·have q1 : (a == 0) = false:=by rw [beq_eq_false_iff_ne];exact h0
   have q3 : decide (a = 0) = false:=decide_eq_false h0
   have HQ:=hid h0
   clear h0
   go_enter Tryz.func217,Tryz.ntmps217
   go_wp2_with fail
   ((with_reducible refine (HC.out _ HB0.out).mono ?_);rintro e w1 ⟨rfl,hb1⟩)
   have hc1 : w1.cell? ⟨w.heap.size,1,none⟩ = some (.string s):=(hb1.cell (p:=⟨w.heap.size,1,none⟩) (by simp)).trans ((Blk.new w 49 #[.int .i64 13,.string s]).cell 1)
   go_wp2_with fail
   ((with_reducible refine (HO.out _).mono ?_);rintro e w2 ⟨rfl,hb2⟩)
   go_wp2_with fail
   go_ret
   exact ⟨by rw [HV.out];simp [HQ.out],Below.next (Below.next HB0.out hb1 (by simp)) hb2 (Nat.le_refl _)⟩
 ·have p1 : (k == 13) = false:=by rw [beq_eq_false_iff_ne];exact h13
  have p3 : decide (k = 13) = false:=decide_eq_false h13
  have HP:=hid h13
  clear h13
  by_cases h3 : k = 3
  ·subst h3
   by_cases h0 : a = 0
   ·subst h0
    go_enter Tryz.func217,Tryz.ntmps217
    go_wp2_with fail
    ((with_reducible refine (HC.out _ HB0.out).mono ?_);rintro e w1 ⟨rfl,hb1⟩)
    go_wp2_with fail
    go_ret
    exact ⟨by rw [HV.out];simp,Below.next HB0.out hb1 (by simp)⟩
   ·have q1 : (a == 0) = false:=by rw [beq_eq_false_iff_ne];exact h0
    have q3 : decide (a = 0) = false:=decide_eq_false h0
    have HQ:=hid h0
    clear h0
    go_enter Tryz.func217,Tryz.ntmps217
    go_wp2_with fail
    ((with_reducible refine (HC.out _ HB0.out).mono ?_);rintro e w1 ⟨rfl,hb1⟩)
    have hc1 : w1.cell? ⟨w.heap.size,1,none⟩ = some (.string s):=(hb1.cell (p:=⟨w.heap.size,1,none⟩) (by simp)).trans ((Blk.new w 49 #[.int .i64 3,.string s]).cell 1)
    go_wp2_with fail
    ((with_reducible refine (HO.out _).mono ?_);rintro e w2 ⟨rfl,hb2⟩)
    go_wp2_with fail
    go_ret
    exact ⟨by rw [HV.out];simp [HQ.out],Below.next (Below.next HB0.out hb1 (by simp)) hb2 (Nat.le_refl _)⟩
  ·have r1 : (k == 3) = false:=by rw [beq_eq_false_iff_ne];exact h3
   have r3 : decide (k = 3) = false:=decide_eq_false h3
   have HR:=hid h3
   clear h3
   go_enter Tryz.func217,Tryz.ntmps217
   go_wp2_with fail
   go_ret
   exact ⟨by rw [HV.out];simp [HP.out,HR.out],HB0.out⟩
end Go.Proofs.YtlklhkkjcfmefaaGreatDoor.pr
namespace Go.Proofs.YtlklhkkjcfmefaaGreatDoor.sg
open Go.Lib (hid)
open Go.RowKit Go.Shelf Go.Maps Go.ChangeMaps Go.WideShapes Go.WideMaps
theorem klaw : Keyed Tryz.prog 9:=string_keyed Tryz.underlying9
theorem kzero (w : World) : (zeroValue 186).run Tryz.prog w = .ok (.agg #[]) w:=by kernel_rfl
def SetAt (w0 : World) (acc : List Lit) (n : Nat) (w : World) : Prop :=
 w.ownsMap Tryz.prog 9 (unitElem (H:=Unit)) w0.heap.size n (setOf (.agg []) acc) ∧ Below w0.heap.size w0 w
theorem SetAt.start (w : World) : SetAt w [] 0 (w.alloc (.map #[] 0)):=⟨World.ownsMap_made _ _ _ _,(Below.refl _ w).alloc (Nat.le_refl _) _⟩
theorem wpList_insert_set (w0 w : World) {ops : Array Oper} {rest : List Oper} {o : Oper} {a : Act} {Q : Exit → Act → World → Prop} (acc : List Lit) (n : Nat)
  (hg : o.guard = none) (m x v : Operand) (hop : o.op = Op.insert 188 m x v) (hm : a.eval m = .map (some w0.heap.size)) (h : SetAt w0 acc n w) (hn : n < 1000) (s : ByteArray) (hs : s.size ≤ maxLen)
  (hx : a.eval x = .string s) (hv : a.eval v = .agg #[])
  (hK : ∀ w',SetAt w0 (acc ++ [.string s.data.toList]) (n + 1) w' → wpList Tryz.prog ops Q rest (a.put o.dst undef) w') :
  wpList Tryz.prog ops Q (o :: rest) a w:=by
 refine wpList_plain hg fun K' hK'=>?_
 obtain ⟨w',hrun,r1,r2⟩:=h.1.update klaw Tryz.underlying188 (by unfold maxLen;omega) (keyOf_string_mk Tryz.underlying9 hs) (unitElem_mk (H:=Unit))
 unfold Oper.wp
 simp [execOp,hop,hm,hx,hv,hrun,Result.andThen]
 refine hK' _ _ (hK w' ⟨?_,h.2.grown r2 h.2.size (fun j hj=>by cases hj;exact Nat.le_refl _)⟩)
 rw [setOf_snoc];exact r1
def keyLits : List Lit:=Sg.keys.map (fun k=>Lit.string k)
theorem keys_calls (w : World) : Calls Tryz.prog 239 #[] w fun e w'=>e = .returned (.map (some w.heap.size)) ∧ SetAt w keyLits 18 w':=by
 have hst:=SetAt.start w
 have hmm:=@run_makeMap Tryz.prog
 go_enter Tryz.func239,Tryz.ntmps239
 go_wp2_with (refine wpList_insert_set w _ _ _ rfl _ _ _ rfl rfl (by assumption) (by decide) _ (by decide) rfl rfl ?_;intro w1 hown1)
 go_ret
 exact ⟨rfl,by assumption⟩
theorem sameKey_string (a b : List UInt8) : (Lit.string a).sameKey (.string b) = decide (a = b):=by
 rw [Bool.eq_iff_iff];simp [Lit.sameKey]
theorem has_keys (l : List UInt8) : has (setOf (H:=Unit) (.agg []) keyLits) (.string l) = Sg.key l:=by
 rw [has_setOf _ _ _ (by intro x hx;obtain ⟨k,_,rfl⟩:=List.mem_map.1 hx;trivial)]
 unfold keyLits Sg.key
 rw [List.any_map]
 rw [Bool.eq_iff_iff,List.any_eq_true,List.contains_iff_mem]
 constructor
 ·rintro ⟨x,hx,h⟩
  simp only [Function.comp,sameKey_string,decide_eq_true_eq] at h
  subst h;exact hx
 ·intro h
  exact ⟨l,h,by simp only [Function.comp,sameKey_string,decide_true]⟩
theorem key_calls (s : ByteArray) (hs : s.size ≤ 140737488351232) (w : World) :
  Calls Tryz.prog 219 #[.string s] w fun e w'=>e = .returned (.bool (Sg.key s.data.toList)) ∧ Below w.heap.size w w':=by
 have hk:=has_keys s.data.toList
 have HK:=hid hk
 clear hk
 go_enter Tryz.func219,Tryz.ntmps219
 go_wp2_with fail
 ((with_reducible refine (keys_calls _).mono ?_);rintro e w1 ⟨rfl,hset⟩)
 go_wp2_with (first | (at_lookup;refine wpList_lookup_own_unit _ rfl _ _ 188 rfl 9 186 klaw Tryz.underlying188 (kzero _) w.heap.size 18 _ rfl hset.1 _ _ rfl (keyOf_string_mk Tryz.underlying9 (by unfold maxLen;omega)) ?_) | fail)
 go_ret
 exact ⟨by rw [← HK.out];rfl,hset.2.alloc hset.2.size _⟩
theorem isEmpty_data (s : ByteArray) : s.toList.isEmpty = s.data.toList.isEmpty:=by rw [Lib.toList_data]
theorem plain_calls (s : ByteArray) (hs : s.size ≤ 140737488351232) (w : World) :
  Calls Tryz.prog 193 #[.string s] w fun e w'=>e = .returned (.bool (Sg.plain s.data.toList)) ∧ Below w.heap.size w w':=by
 rcases Nat.eq_zero_or_pos s.size with h0 | h0
 ·obtain rfl : s = ⟨#[]⟩:=by
   have hl : s.data.toList = []:=List.length_eq_zero_iff.1 (by rw [lst_len];exact h0)
   cases s;simp at hl;subst hl;rfl
  go_enter Tryz.func193,Tryz.ntmps193
  go_wp2_with fail
  go_ret
  exact ⟨rfl,Below.refl _ _⟩
 ·have hne : s.toList.isEmpty = false:=by
   rw [isEmpty_data]
   cases hl : s.data.toList with
   | nil=>rw [← lst_len,hl] at h0;exact absurd h0 (by decide)
   | cons a r=>rfl
  have hsm:=simple_calls s hs
  have hk:=key_calls s hs
  have HP:=hid (show Sg.plain s.data.toList = (decide (Sg.simple s.data.toList = s.size) && !Sg.key s.data.toList) from by
   unfold Sg.plain;rw [← isEmpty_data,hne,lst_len];rfl)
  obtain ⟨k,hk0⟩ : ∃ k,Sg.simple s.data.toList = k:=⟨_,rfl⟩
  obtain ⟨q,hq⟩ : ∃ q,Sg.key s.data.toList = q:=⟨_,rfl⟩
  simp only [hk0] at hsm
  simp only [hq] at hk
  rw [hk0,hq] at HP
  clear hk0 hq
  by_cases he : k = s.size
  ·have HX:=hid (show Sg.plain s.data.toList = !q from by rw [HP.out,decide_eq_true he];rfl)
   have t1 : ((k : Int) == (s.size : Int)) = true:=by rw [beq_iff_eq];omega
   clear HP
   go_enter Tryz.func193,Tryz.ntmps193
   go_wp2_with fail
   ((with_reducible refine (hsm _).mono ?_);rintro e w1 ⟨rfl,rfl⟩)
   go_wp2_with fail
   ((with_reducible refine (hk _).mono ?_);rintro e w1 ⟨rfl,hb⟩)
   go_wp2_with fail
   go_ret
   exact ⟨by rw [HX.out];rfl,hb⟩
  ·have HX:=hid (show Sg.plain s.data.toList = false from by rw [HP.out,decide_eq_false he];rfl)
   have t1 : ((k : Int) == (s.size : Int)) = false:=by rw [beq_eq_false_iff_ne];omega
   clear HP
   go_enter Tryz.func193,Tryz.ntmps193
   go_wp2_with fail
   ((with_reducible refine (hsm _).mono ?_);rintro e w1 ⟨rfl,rfl⟩)
   go_wp2_with fail
   go_ret
   exact ⟨by rw [HX.out];rfl,Below.refl _ _⟩
end Go.Proofs.YtlklhkkjcfmefaaGreatDoor.sg
namespace Go.Proofs.YtlklhkkjcfmefaaGreatDoor.pa
open Go.RowKit nd pr
def itemsP : Nat → List Lx.Tok → List (Tk × Nat)
 | _,[]=>[]
 | p,t :: r=>if t.1 == 1 || t.1 == 2 then itemsP (p + t.2.length) r else ((t.1,⟨t.2.toArray⟩),p) :: itemsP (p + t.2.length) r
def itemsR (l : List (Tk × Nat)) (z : Nat) : Nd × Int × Nat :=
 if (parse (l.map (·.1))).2.1 = 0 then parse (l.map (·.1))
 else (none0,(parse (l.map (·.1))).2.1,match l[(parse (l.map (·.1))).2.2]? with | some x=>x.2 | none=>z)
def sourceP (s : List UInt8) (chk : Int) : Nd × Int × Nat :=
 if 65536 < s.length then (none0,3,0) else if 0 ≤ chk then (none0,10,chk.toNat)
 else if (Lx.lexA Lx.start s).2 = 0 then itemsR (itemsP 0 (Lx.lexA Lx.start s).1) s.length
 else (none0,(Lx.lexA Lx.start s).2,Lx.size (Lx.lexA Lx.start s).1)
def opW : List (List UInt8):=[[124],[44],[47,47],[61],[111,114],[97,110,100],[61,61],[43],[42]]
def oW (a : Nat) : List UInt8:=opW.getD a []
def opersS (a b : Nat) : List UInt8:=[49,32] ++ oW a ++ [32,50,32] ++ oW b ++ [32,51]
def kid (x : Nd) (i : Nat) : Nd:=(x.kids.get? i).getD none0
def opersOk (a b : Nat) : Bool :=
 let r:=sourceP (opersS a b) (-1)
 if a = b ∧ (a = 3 ∨ a = 6) then r.2.1 == 22
 else
  let left:=decide (b < a) || (a == b && a != 0 && a != 2)
  r.2.1 == 0 && r.1.k == 24 && r.1.kids.len == 2 && decide (r.1.t = ⟨(oW (if left then b else a)).toArray⟩) &&
   (let x:=kid r.1 (if left then 0 else 1);x.k == 24 && x.kids.len == 2)
theorem opers_all : ∀ a,a < 9 → ∀ b,b < 9 → opersOk a b = true:=by decide +kernel
def fronts : List (List UInt8):=[[46,32,97,115,32,36,120,32,124,32],[100,101,102,32,102,58,32,49,59,32],[108,97,98,101,108,32,36,120,32,124,32]]
def greedyS (k j : Nat) : List UInt8:=[48,32,43,32] ++ fronts.getD k [] ++ [49,32] ++ oW j ++ [32,50]
def greedyOk (k j : Nat) : Bool :=
 let r:=sourceP (greedyS k j) (-1)
 let x:=kid r.1 1
 let y:=kid x (x.kids.len - 1)
 r.2.1 == 0 && r.1.k == 24 && decide (r.1.t = ⟨#[43]⟩) && r.1.kids.len == 2 && decide (1 ≤ x.kids.len) && y.k == 24 && decide (y.t = ⟨(oW j).toArray⟩)
theorem greedy_all : ∀ k,k < 3 → ∀ j,j < 9 → greedyOk k j = true:=by decide +kernel
theorem known_two : (sourceP [49,32,61,61,32,50,32,61,61,32,51] (-1)).2 = (22,7):=by decide +kernel
end Go.Proofs.YtlklhkkjcfmefaaGreatDoor.pa
namespace Go.Proofs.YtlklhkkjcfmefaaGreatDoor.pr
open Go.RowKit Go.Shelf sx
attribute [local go_sem] Oper.semAt_some
def names (l : List Op) : List ByteArray:=l.map (·.1)
theorem made (w : World) : ∃ w',(Instr.makeSlice 42 (.int .i64 0) (.int .i64 24)).run Tryz.prog w = .ok (.slice (some ⟨w.heap.size,0,none⟩) 0 24) w' ∧
   w'.ownsRow w.heap.size 9 1 (.slice (some ⟨w.heap.size,0,none⟩) 0 24) 0 [] ∧ w.grownBy w' none ∧ w'.heap.size = w.heap.size + 1:=by
 obtain ⟨i0,hi,hz0,hz1,hz2⟩:=info_parts infoStr
 have hr:=run_make (P:=Tryz.prog) w 42 9 i0 (.string ⟨#[]⟩) Tryz.underlying42 hi hz0 .i64 .i64 0 24 (by decide) (by decide) (by rw [hz2];decide) (by decide)
 refine ⟨_,hr,World.ownsRow_made w _ 24 (Nat.le_refl _) (by decide) (by rw [size_madeCells,hz1];rfl),World.grownBy_alloc w _ none,by simp⟩
end Go.Proofs.YtlklhkkjcfmefaaGreatDoor.pr
