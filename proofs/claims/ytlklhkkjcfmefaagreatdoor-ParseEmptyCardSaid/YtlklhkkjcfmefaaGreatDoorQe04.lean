/- Ground of the law: RegionOp, SgClass, NdMem. -/
import Derived.Test.YtlklhkkjcfmefaaGreatDoorQe01
import Derived.WalkKit
import Derived.Lib.Hide
import Derived.Shelf.Abstract
import Derived.Test.YtlklhkkjcfmefaaGreatDoorChecked
set_option maxRecDepth 100000
set_option maxHeartbeats 8000000
set_option linter.unusedVariables false
set_option linter.unusedSimpArgs false
namespace Go.Proofs.YtlklhkkjcfmefaaGreatDoor.rinv
section
variable {n : Nat} {P : Program} {ops : Array Oper} {Q : Exit → Act → World → Prop} {md : Region.Mode}
theorem op_val {i : Nat} {o : Oper} {K : Act → World → Prop} {a : Act} {w w' : World} {v : Value} (ho : ops[i]? = some o) (hg : o.guard = none) (hr : (execOp a.eval o).run P w = .ok (.value v) w') (hk : K (a.put o.dst v) w') : wpOpIn Fence.wide n P ops Q i K a w:=by
 unfold wpOpIn
 rw [ho]
 simp only [Region.wanted,hg,if_true]
 refine ⟨fun _ _=>trivial,?_⟩
 show Oper.uponIn Fence.wide n P o a K Q ((execOp a.eval o).run P w)
 rw [hr]
 exact hk
theorem op_skip {i : Nat} {o : Oper} {K : Act → World → Prop} {a : Act} {w w' : World} (ho : ops[i]? = some o) (hg : o.guard = none) (hr : (execOp a.eval o).run P w = .ok .skip w') (hk : K (a.put o.dst undef) w') : wpOpIn Fence.wide n P ops Q i K a w:=by
 unfold wpOpIn
 rw [ho]
 simp only [Region.wanted,hg,if_true]
 refine ⟨fun _ _=>trivial,?_⟩
 show Oper.uponIn Fence.wide n P o a K Q ((execOp a.eval o).run P w)
 rw [hr]
 exact hk
theorem op_call {i : Nat} {o : Oper} {K : Act → World → Prop} {a : Act} {w w' : World} {f : FuncId} {args : Array Value} (ho : ops[i]? = some o) (hg : o.guard = none) (hr : (execOp a.eval o).run P w = .ok (.enter f args) w')
  (hc : Calls P f args w' fun e w''=>∃ v,e = .returned v ∧ K (a.put o.dst v) w'') : wpOpIn Fence.wide n P ops Q i K a w:=by
 unfold wpOpIn
 rw [ho]
 simp only [Region.wanted,hg,if_true]
 refine ⟨fun _ _=>trivial,?_⟩
 show Oper.uponIn Fence.wide n P o a K Q ((execOp a.eval o).run P w)
 rw [hr]
 refine ⟨fun h=>(by cases h),(callsIn_wide.2 hc).mono ?_⟩
 rintro e w'' ⟨v,rfl,h⟩
 exact h
theorem op_move {i : Nat} {o : Oper} {K : Act → World → Prop} {a : Act} {w : World} {x : Operand} (ho : ops[i]? = some o) (hop : o.op = .move x) (hg : o.guard = none) (hk : K (a.put o.dst (a.eval x)) w) : wpOpIn Fence.wide n P ops Q i K a w :=
 op_val ho hg (by simp only [execOp,hop];rfl) hk
theorem op_makeFunc {i : Nat} {o : Oper} {K : Act → World → Prop} {a : Act} {w : World} {fn : Fn} {x : Operand} (ho : ops[i]? = some o) (hop : o.op = .makeFunc fn #[x] #[]) (hg : o.guard = none) (hk : K (a.put o.dst (.func fn #[a.eval x] #[])) w) : wpOpIn Fence.wide n P ops Q i K a w :=
 op_val ho hg (by simp only [execOp,hop];simp only [List.map_toArray,List.map_cons,List.map_nil];rfl) hk
theorem op_makeMap {i : Nat} {o : Oper} {K : Act → World → Prop} {a : Act} {w : World} {t : TypeId} (ho : ops[i]? = some o) (hop : o.op = .makeMap t none) (hg : o.guard = none) (hk : K (a.put o.dst (.map (some w.heap.size))) (w.alloc (.map #[] 0))) : wpOpIn Fence.wide n P ops Q i K a w :=
 op_val ho hg (by simp only [execOp,hop];rfl) hk
theorem op_insert {i : Nat} {o : Oper} {K : Act → World → Prop} {a : Act} {w w' : World} {t : TypeId} {m k x : Operand} (ho : ops[i]? = some o) (hop : o.op = .insert t m k x) (hg : o.guard = none) (hr : (Instr.mapUpdate t (a.eval m) (a.eval k) (a.eval x)).run P w = .ok () w') (hk : K (a.put o.dst undef) w') : wpOpIn Fence.wide n P ops Q i K a w :=
 op_skip ho hg (by simp only [execOp,hop];rw [Sem.run_bind,hr];rfl) hk
theorem op_store {i : Nat} {o : Oper} {K : Act → World → Prop} {a : Act} {w w' : World} {t : TypeId} {m x : Operand} (ho : ops[i]? = some o) (hop : o.op = .store t m x) (hg : o.guard = none) (hr : (Instr.storeAt t (a.eval m) (a.eval x)).run P w = .ok () w') (hk : K (a.put o.dst undef) w') : wpOpIn Fence.wide n P ops Q i K a w :=
 op_skip ho hg (by simp only [execOp,hop];rw [Sem.run_bind,hr];rfl) hk
theorem op_field {i : Nat} {o : Oper} {K : Act → World → Prop} {a : Act} {w w' : World} {t : TypeId} {x : Operand} {f : Nat} {v : Value} (ho : ops[i]? = some o) (hop : o.op = .fieldAddr t x f) (hg : o.guard = none) (hr : (Instr.fieldAt t (a.eval x) f).run P w = .ok v w') (hk : K (a.put o.dst v) w') : wpOpIn Fence.wide n P ops Q i K a w :=
 op_val ho hg (by simp only [execOp,hop];rw [Sem.run_bind,hr];rfl) hk
theorem op_nil {i : Nat} {o : Oper} {K : Act → World → Prop} {a : Act} {w : World} {x : Operand} {p : Addr} (ho : ops[i]? = some o) (hop : o.op = .nilCheck x) (hg : o.guard = none) (he : a.eval x = .pointer (some p)) (hk : K (a.put o.dst (.pointer (some p))) w) : wpOpIn Fence.wide n P ops Q i K a w :=
 op_val ho hg (by simp only [execOp,hop,he];rfl) hk
theorem op_call1 {i : Nat} {o : Oper} {K : Act → World → Prop} {a : Act} {w : World} {f : FuncId} {v : Value} {ats : Array TypeId} (ho : ops[i]? = some o) (hop : o.op = .call { callee:=.value (.func f),args:=#[.const v],argTypes:=ats }) (hg : o.guard = none) (hen : (callFunc f #[v]).run P w = .ok (.enter f #[v]) w)
  (hc : Calls P f #[v] w fun e w''=>∃ v,e = .returned v ∧ K (a.put o.dst v) w'') : wpOpIn Fence.wide n P ops Q i K a w :=
 op_call ho hg (by simp only [execOp,hop];simpa [go_sem,Act.eval] using hen) hc
theorem after_done {listed : Array Bool} {i : Nat} {o : Oper} (haft : ((ops[i]?).map (·.after.all fun e=>!Region.binds md e || done listed e.on)).getD false = true) (ho : ops[i]? = some o) (j : Nat) (hj : (o.after.any fun e=>Region.binds md e && e.on == j) = true) : done listed j = true:=by
 rw [ho] at haft
 have h1 : (o.after.all fun e=>!Region.binds md e || done listed e.on) = true:=haft
 rw [Array.any_eq_true] at hj
 rw [Array.all_eq_true] at h1
 obtain ⟨k,hk,h2⟩:=hj
 have h3:=h1 k hk
 rw [Bool.and_eq_true] at h2
 rw [h2.1] at h3
 rw [← eq_of_beq h2.2]
 simpa using h3
theorem after_all {listed : Array Bool} {i : Nat} {o : Oper} (haft : ((ops[i]?).map (·.after.all fun e=>!Region.binds md e || done listed e.on)).getD false = true) (ho : ops[i]? = some o) (m : Nat) (hj : ((List.range m).all fun j=>o.after.any fun e=>Region.binds md e && e.on == j) = true) : ∀ j,j < m → done listed j = true :=
 fun j h=>after_done haft ho j (List.all_eq_true.1 hj j (List.mem_range.2 h))
theorem done_none (k i : Nat) : done (Array.replicate k false) i = false:=by
 unfold done
 rw [Array.getD_eq_getD_getElem?]
 cases h : (Array.replicate k false)[i]? with
 | none=>rfl
 | some b =>
  have:=Array.mem_of_getElem? h
  have:=Array.eq_of_mem_replicate this
  rw [this];rfl
theorem all_done {listed : Array Bool} (hre : Region.ready md ops listed = []) (hs : listed.size = ops.size) (hord : ((List.range ops.size).all fun i=>((ops[i]?).map fun o=>o.after.all fun e=>decide (e.on < i)).getD false) = true) : ∀ i,i < ops.size → done listed i = true:=by
 intro i
 induction i using Nat.strongRecOn with
 | ind i ih =>
  intro hi
  cases hq : done listed i with
  | true=>rfl
  | false =>
   exfalso
   have hm : i ∈ Region.ready md ops listed:=by
    refine ready_of hi hs hq ?_
    have h1:=List.all_eq_true.1 hord i (List.mem_range.2 hi)
    cases ho : ops[i]? with
    | none=>rw [ho] at h1;cases h1
    | some o =>
     rw [ho] at h1
     have h1 : (o.after.all fun e=>decide (e.on < i)) = true:=h1
     show (o.after.all fun e=>!Region.binds md e || done listed e.on) = true
     rw [Array.all_eq_true] at h1 ⊢
     intro k hk
     have h2 : o.after[k].on < i:=of_decide_eq_true (h1 k hk)
     rw [ih _ h2 (by omega),Bool.or_true]
   rw [hre] at hm
   cases hm
end
end Go.Proofs.YtlklhkkjcfmefaaGreatDoor.rinv
namespace Go.Proofs.YtlklhkkjcfmefaaGreatDoor.sg
open Go.Lib (hid)
open Go.RowKit Go.Shelf
theorem letter_calls (c : Int) (w : World) : Calls Tryz.prog 205 #[.int .u8 c] w fun e w'=>e = .returned (.bool (Sg.cL c)) ∧ w = w':=by
 go_enter Tryz.func205,Tryz.ntmps205
 go_wp2
 all_goals go_ret
 all_goals refine ⟨congrArg (fun b=>Ending.returned (Value.bool b)) (?_ : _ = Sg.cL c),rfl⟩
 all_goals rw [Bool.eq_iff_iff]
 all_goals simp [Sg.cL]
 all_goals omega
theorem digit_calls (c : Int) (w : World) : Calls Tryz.prog 206 #[.int .u8 c] w fun e w'=>e = .returned (.bool (Sg.cD c)) ∧ w = w':=by
 go_enter Tryz.func206,Tryz.ntmps206
 go_wp2
 all_goals go_ret
 all_goals refine ⟨congrArg (fun b=>Ending.returned (Value.bool b)) (?_ : _ = Sg.cD c),rfl⟩
 all_goals rw [Bool.eq_iff_iff]
 all_goals simp [Sg.cD]
 all_goals omega
theorem blank_calls (c : Int) (w : World) : Calls Tryz.prog 172 #[.int .u8 c] w fun e w'=>e = .returned (.bool (Sg.cB c)) ∧ w = w':=by
 go_enter Tryz.func172,Tryz.ntmps172
 go_wp2
 all_goals go_ret
 all_goals refine ⟨congrArg (fun b=>Ending.returned (Value.bool b)) (?_ : _ = Sg.cB c),rfl⟩
 all_goals rw [Bool.eq_iff_iff]
 all_goals simp [Sg.cB]
 all_goals omega
theorem inName_calls (c : Int) (w : World) : Calls Tryz.prog 228 #[.int .u8 c] w fun e w'=>e = .returned (.bool (Sg.cW c)) ∧ w = w':=by
 go_enter Tryz.func228,Tryz.ntmps228
 cases hl : Sg.cL c with
 | true =>
  go_wp2_with fail
  ((with_reducible refine (letter_calls c _).mono ?_);rintro e w1 ⟨rfl,rfl⟩)
  go_wp2_with fail
  go_ret
  exact ⟨by simp [Sg.cW,hl],rfl⟩
 | false =>
  go_wp2_with fail
  ((with_reducible refine (letter_calls c _).mono ?_);rintro e w1 ⟨rfl,rfl⟩)
  go_wp2_with fail
  ((with_reducible refine (digit_calls c _).mono ?_);rintro e w1 ⟨rfl,rfl⟩)
  go_wp2_with fail
  go_ret
  exact ⟨by simp [Sg.cW,hl],rfl⟩
theorem lst_len (s : ByteArray) : s.data.toList.length = s.size:=by rw [Array.length_toList];rfl
theorem at_calls (g : Nat) (lb : Array Value) (p : Int → Bool) (s : ByteArray) (k : Int) (h0 : 0 ≤ k) (w : World)
  (hen : ∀ args w,(callFunc g args).run Tryz.prog w = .ok (.enter g args) w)
  (hg : ∀ c : Int,0 ≤ c → c ≤ 255 → Calls Tryz.prog g (#[.int .u8 c] ++ lb) w fun e w'=>e = .returned (.bool (p c)) ∧ w = w') :
  Calls Tryz.prog 227 #[.func (.func g) #[] lb,.string s,.int .i64 k] w fun e w'=>e = .returned (.bool (Sg.at' p s.data.toList k.toNat)) ∧ w = w':=by
 go_enter Tryz.func227,Tryz.ntmps227
 by_cases hk : k < (s.size : Int)
 ·have hlt : k.toNat < s.size:=by omega
  have hb : (s[k.toNat]'hlt).toNat < 256:=(s[k.toNat]'hlt).toNat_lt
  have hv : Sg.at' p s.data.toList k.toNat = p ((s[k.toNat]'hlt).toNat : Int):=by
   have e : s.data.toList.getD k.toNat 0 = s[k.toNat]'hlt:=by
    have e2 : s.data.toList.getD k.toNat 0 = s.data.toList[k.toNat]'(by rw [lst_len];exact hlt):=by simp [List.getD,hlt]
    rw [e2];rfl
   unfold Sg.at'
   rw [e,lst_len,decide_eq_true hlt,Bool.true_and]
  have HV:=hid hv
  have hc:=hg ((s[k.toNat]'hlt).toNat : Int) (by omega) (by omega)
  clear hv
  go_wp2
  refine hc.mono ?_
  rintro e w' ⟨rfl,rfl⟩
  go_wp2
  go_ret
  exact ⟨by rw [HV.out];rfl,rfl⟩
 ·have hge : (s.size : Int) ≤ k:=by omega
  have hv : Sg.at' p s.data.toList k.toNat = false:=by
   unfold Sg.at'
   rw [lst_len,decide_eq_false (by omega),Bool.false_and]
  have HV:=hid hv
  clear hv
  go_wp2
  go_ret
  exact ⟨by rw [HV.out];rfl,rfl⟩
theorem run_calls (g : Nat) (lb : Array Value) (p : Int → Bool) (s : ByteArray) (hs : s.size ≤ 140737488351232) (w : World)
  (hen : ∀ args w,(callFunc g args).run Tryz.prog w = .ok (.enter g args) w)
  (hg : ∀ c : Int,0 ≤ c → c ≤ 255 → Calls Tryz.prog g (#[.int .u8 c] ++ lb) w fun e w'=>e = .returned (.bool (p c)) ∧ w = w') :
  Calls Tryz.prog 229 #[.func (.func g) #[] lb,.string s] w fun e w'=>e = .returned (.int .i64 (Sg.run p s.data.toList : Nat)) ∧ w = w':=by
 go_enter Tryz.func229,Tryz.ntmps229
 go_wp2_with fail
 go_loopw [5] (fun k wr=>∃ m : Nat,k = .int .i64 (m : Int) ∧ m ≤ s.size ∧ Sg.run p (s.data.toList.take m) = m ∧ wr = w) (fun k _=>s.size - (intOf k).toNat)
 case atStart=>exact ⟨0,rfl,Nat.zero_le _,rfl,rfl⟩
 case round =>
  obtain ⟨m,rfl,hm,hr,rfl⟩:=hrel
  have hat:=at_calls g lb p s (m : Int) (by omega) wr hen hg
  cases hv : Sg.at' p s.data.toList (m : Int).toNat with
  | true =>
   rw [hv] at hat
   have hv2 : Sg.at' p s.data.toList m = true:=hv
   have hlt : m < s.size:=by unfold Sg.at' at hv2;rw [Bool.and_eq_true,decide_eq_true_eq,lst_len] at hv2;exact hv2.1
   have hr2 : Sg.run p (s.data.toList.take (m + 1)) = m + 1:=Sg.run_snoc (by rw [lst_len];exact hlt) hr (by unfold Sg.at' at hv2;rw [Bool.and_eq_true] at hv2;exact hv2.2)
   have HR:=hid hr2
   clear hv hv2 hr hr2
   go_wp2_with fail
   ((with_reducible refine hat.mono ?_);rintro e w1 ⟨rfl,rfl⟩)
   go_wp2_with fail
   go_roundw
   case rel=>exact ⟨m + 1,by go_num,by omega,HR.out,trivial⟩
   case measure=>simp [intOf];omega
  | false =>
   rw [hv] at hat
   have hv2 : Sg.at' p s.data.toList m = false:=hv
   have hf : Sg.run p s.data.toList = m:=by
    refine Sg.run_eq hr ?_
    rcases Nat.lt_or_ge m s.size with h | h
    ·rw [Sg.drop_head (by rw [lst_len];exact h)]
     refine Sg.stop_cons ?_ _
     unfold Sg.at' at hv2
     rw [lst_len,decide_eq_true h,Bool.true_and] at hv2
     exact hv2
    ·rw [List.drop_eq_nil_of_le (by rw [lst_len];exact h)]
     exact Sg.stop_nil p
   have HF:=hid hf
   clear hv hv2 hr hf
   go_wp2_with fail
   ((with_reducible refine hat.mono ?_);rintro e w1 ⟨rfl,rfl⟩)
   go_wp2_with fail
   go_ret
   exact ⟨by rw [HF.out];rfl,rfl⟩
theorem enL : ∀ args w,(callFunc 205 args).run Tryz.prog w = .ok (.enter 205 args) w:=enters_of Tryz.func205 (by kernel_rfl) rfl
theorem enD : ∀ args w,(callFunc 206 args).run Tryz.prog w = .ok (.enter 206 args) w:=enters_of Tryz.func206 (by kernel_rfl) rfl
theorem enW : ∀ args w,(callFunc 228 args).run Tryz.prog w = .ok (.enter 228 args) w:=enters_of Tryz.func228 (by kernel_rfl) rfl
theorem enOf : ∀ args w,(callFunc 250 args).run Tryz.prog w = .ok (.enter 250 args) w:=enters_of Tryz.func250 (by kernel_rfl) rfl
end Go.Proofs.YtlklhkkjcfmefaaGreatDoor.sg
namespace Go.Proofs.YtlklhkkjcfmefaaGreatDoor.nd
open Go.RowKit sx
def RowAt (S : Nat → Prop) (W : World) (g : Nat) : Nat → Fo → Prop
 | _,.nil=>True
 | o,.cons k t kids r=>W.cell? ⟨g,o,none⟩ = some (.int .i64 k) ∧ W.cell? ⟨g,o + 1,none⟩ = some (.string t) ∧
   (∃ ao cap,W.cell? ⟨g,o + 2,none⟩ = some (.slice ao kids.len cap) ∧ kids.len ≤ maxLen ∧ (kids ≠ .nil → ∃ g' o',ao = some ⟨g',o',none⟩ ∧ S g' ∧ RowAt S W g' o' kids)) ∧ RowAt S W g (o + 3) r
def KidsAt (S : Nat → Prop) (W : World) (f : Fo) (v : Value) : Prop :=
 ∃ ao cap,v = .slice ao f.len cap ∧ f.len ≤ maxLen ∧ (f ≠ .nil → ∃ g o,ao = some ⟨g,o,none⟩ ∧ S g ∧ RowAt S W g o f)
def NdAt (S : Nat → Prop) (W : World) (x : Nd) (v : Value) : Prop:=∃ s,v = .agg #[.int .i64 x.k,.string x.t,s] ∧ KidsAt S W x.kids s
theorem RowAt.keep {S S' : Nat → Prop} {W W' : World} (hS : ∀ k,S k → S' k) (h : ∀ k,S k → W'.heap[k]? = W.heap[k]?) : ∀ {f : Fo} {g o : Nat},RowAt S W g o f → W'.heap[g]? = W.heap[g]? → RowAt S' W' g o f
 | .nil,_,_,_,_=>trivial
 | .cons k t kids r,g,o,⟨h0,h1,⟨ao,cap,h2,hm,h3⟩,h4⟩,hg=>by
  have hc : ∀ j,W'.cell? ⟨g,j,none⟩ = W.cell? ⟨g,j,none⟩:=fun j=>by simp [World.cell?,hg]
  exact ⟨(hc _).trans h0,(hc _).trans h1,⟨ao,cap,(hc _).trans h2,hm,fun hn=>by
   obtain ⟨g',o',e,hs,hr⟩:=h3 hn
   exact ⟨g',o',e,hS _ hs,hr.keep hS h (h _ hs)⟩⟩,RowAt.keep hS h h4 hg⟩
theorem KidsAt.keep {S S' : Nat → Prop} {W W' : World} {f : Fo} {v : Value} (hk : KidsAt S W f v) (hS : ∀ k,S k → S' k) (h : ∀ k,S k → W'.heap[k]? = W.heap[k]?) : KidsAt S' W' f v:=by
 obtain ⟨ao,cap,e,hm,hr⟩:=hk
 exact ⟨ao,cap,e,hm,fun hn=>by
  obtain ⟨g,o,e',hs,hr'⟩:=hr hn
  exact ⟨g,o,e',hS _ hs,hr'.keep hS h (h _ hs)⟩⟩
theorem NdAt.keep {S S' : Nat → Prop} {W W' : World} {x : Nd} {v : Value} (hk : NdAt S W x v) (hS : ∀ k,S k → S' k) (h : ∀ k,S k → W'.heap[k]? = W.heap[k]?) : NdAt S' W' x v:=by
 obtain ⟨s,e,hs⟩:=hk
 exact ⟨s,e,hs.keep hS h⟩
abbrev Lt (n : Nat) (k : Nat) : Prop:=k < n
theorem KidsAt.below {n m : Nat} {W W' : World} {f : Fo} {v : Value} (h : KidsAt (Lt n) W f v) (hb : Below m W W') (hm : n ≤ m) : KidsAt (Lt n) W' f v:=h.keep (fun _ e=>e) (fun k hk=>hb.block k (Nat.lt_of_lt_of_le hk hm))
theorem RowAt.lt {S : Nat → Prop} {W : World} {g o : Nat} {f : Fo} (h : RowAt S W g o f) (hn : f ≠ .nil) : g < W.heap.size:=by
 cases f with
 | nil=>exact absurd rfl hn
 | cons k t kids r=>exact World.block_lt_of_cell? W _ h.1
theorem RowAt.toLt {S : Nat → Prop} {W : World} : ∀ {f : Fo} {g o : Nat},RowAt S W g o f → RowAt (Lt W.heap.size) W g o f
 | .nil,_,_,_=>trivial
 | .cons k t kids r,g,o,⟨h0,h1,⟨ao,cap,h2,hm,h3⟩,h4⟩=>⟨h0,h1,⟨ao,cap,h2,hm,fun hn=>by
   obtain ⟨g',o',e,hs,hr⟩:=h3 hn
   exact ⟨g',o',e,hr.lt hn,hr.toLt⟩⟩,h4.toLt⟩
theorem KidsAt.toLt {S : Nat → Prop} {W : World} {f : Fo} {v : Value} (h : KidsAt S W f v) : KidsAt (Lt W.heap.size) W f v:=by
 obtain ⟨ao,cap,e,hm,hr⟩:=h
 exact ⟨ao,cap,e,hm,fun hn=>by
  obtain ⟨g,o,e',hs,hr'⟩:=hr hn
  exact ⟨g,o,e',hr'.lt hn,hr'.toLt⟩⟩
theorem NdAt.mono {n m : Nat} {W : World} {x : Nd} {v : Value} (h : NdAt (Lt n) W x v) (hm : n ≤ m) : NdAt (Lt m) W x v:=h.keep (fun _ e=>Nat.lt_of_lt_of_le e hm) (fun _ _=>rfl)
theorem RowAt.get {S : Nat → Prop} {W : World} {g : Nat} : ∀ {f : Fo} {o i : Nat} {x : Nd},RowAt S W g o f → f.get? i = some x →
  ∃ s,W.cell? ⟨g,o + i * 3,none⟩ = some (.int .i64 x.k) ∧ W.cell? ⟨g,o + i * 3 + 1,none⟩ = some (.string x.t) ∧ W.cell? ⟨g,o + i * 3 + 2,none⟩ = some s ∧ KidsAt S W x.kids s
 | .nil,_,_,_,_,h=>by cases h
 | .cons k t kids r,o,0,_,⟨h0,h1,⟨ao,cap,h2,hm,h3⟩,_⟩,h=>by
  cases h
  exact ⟨_,by simpa using h0,by simpa using h1,by simpa using h2,ao,cap,rfl,hm,h3⟩
 | .cons k t kids r,o,i + 1,x,⟨_,_,_,h4⟩,h=>by
  obtain ⟨s,a,b,c,d⟩:=RowAt.get (i:=i) (x:=x) h4 h
  have e : o + 3 + i * 3 = o + (i + 1) * 3:=by omega
  rw [e] at a b c
  exact ⟨s,a,b,c,d⟩
theorem KidsAt.get {S : Nat → Prop} {W : World} {f : Fo} {ao : Option Addr} {len cap i : Nat} {x : Nd} (h : KidsAt S W f (.slice ao len cap)) (hx : f.get? i = some x) :
  ∃ g o ao' cap',ao = some ⟨g,o,none⟩ ∧ S g ∧ g < W.heap.size ∧ W.cell? ⟨g,o + i * 3,none⟩ = some (.int .i64 x.k) ∧ W.cell? ⟨g,o + i * 3 + 1,none⟩ = some (.string x.t) ∧ W.cell? ⟨g,o + i * 3 + 2,none⟩ = some (.slice ao' x.kids.len cap') ∧ KidsAt S W x.kids (.slice ao' x.kids.len cap'):=by
 obtain ⟨ao',cap',e,hm,hr⟩:=h
 cases e
 obtain ⟨g,o,e,hs,hr⟩:=hr (fun e=>by rw [e] at hx;cases hx)
 obtain ⟨s,a,b,c,d⟩:=hr.get hx
 obtain ⟨ao',cap',rfl,_⟩:=id d
 exact ⟨g,o,ao',cap',e,hs,World.block_lt_of_cell? W _ a,a,b,c,d⟩
theorem KidsAt.slice {S : Nat → Prop} {W : World} {f : Fo} {v : Value} (h : KidsAt S W f v) : ∃ ao cap,v = .slice ao f.len cap ∧ f.len ≤ maxLen:=by
 obtain ⟨ao,cap,e,hm,_⟩:=h
 exact ⟨ao,cap,e,hm⟩
theorem NdAt.mk {S : Nat → Prop} {W : World} {k : Int} {t : ByteArray} {f : Fo} {s : Value} (h : KidsAt S W f s) : NdAt S W ⟨k,t,f⟩ (.agg #[.int .i64 k,.string t,s]):=⟨s,rfl,h⟩
theorem kids_nil (S : Nat → Prop) (W : World) (ao : Option Addr) (cap : Nat) : KidsAt S W .nil (.slice ao 0 cap):=⟨ao,cap,rfl,Nat.zero_le _,fun h=>absurd rfl h⟩
end Go.Proofs.YtlklhkkjcfmefaaGreatDoor.nd
