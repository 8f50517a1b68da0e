/- Ground of the law: PvC, SgRef1, NdSame, UtfRef1, SeqE, PrFns. -/
import Derived.Test.YthadnhpkeljdoaaQh02
import Derived.Laws.Cells
import Derived.Laws.Slices
import Derived.Laws.Strings
import Derived.Test.YthadnhpkeljdoaaQh01
import Derived.Lib.Hide
import Derived.Laws.StructEq
import Derived.Test.YthadnhpkeljdoaaQh03
import Derived.Carry
import Derived.LoopNIn
import Derived.LoopIn
import Derived.RegionTactic
import Derived.Test.YthadnhpkeljdoaaQh00
import Derived.Deep.MidRow
import Derived.Maps.Own
import Derived.Maps.OwnIn
import Derived.StringKeys
set_option maxRecDepth 100000
set_option maxHeartbeats 8000000
set_option linter.unusedVariables false
set_option linter.unusedSimpArgs false
namespace Go.Proofs.Ythadnhpkeljdoaa.pv
open Go.RowKit
section
variable {G : Gh} {w : World}
theorem RepC.one {x : Value} {d : D} (h : RepC G w x d) : x.oneCell' = true:=by cases h <;> first | assumption | rfl
theorem rep_c {x : Value} {d : D} (hc : cellD d = true) (h : Rep G w x d) : RepC G w x d:=by
  cases h with
  | v h=>cases h with
    | c h=>exact h
    | agg vs l hs hr=>cases hc
  | any=>cases hc
  | und=>cases hc
  | tup=>cases hc
  | ptr=>cases hc
  | el=>cases hc
theorem rep_v {x y : Value} (h : Rep G w x (.v y)) : x = y ∧ x.oneCell' = true:=by
  cases h with
  | v h=>cases h with
    | c h=>cases h with
      | v _ h=>exact ⟨rfl,h⟩
theorem rep_agg {x : Value} {l : List D} (h : Rep G w x (.agg l)) : ∃ vs,x = .agg vs ∧ vs.size = l.length ∧ ∀ (i : Nat) (x : Value) (d : D),vs[i]? = some x → l[i]? = some d → RepC G w x d:=by
  cases h with
  | v h=>cases h with
    | c h=>cases h
    | agg vs l hs hr=>exact ⟨vs,rfl,hs,hr⟩
theorem rep_tup {x : Value} {l : List D} (h : Rep G w x (.tup l)) : ∃ vs,x = .tuple vs ∧ vs.size = l.length ∧ ∀ (i : Nat) (x : Value) (d : D),vs[i]? = some x → l[i]? = some d → RepV G w x d:=by
  cases h with
  | v h=>cases h with
    | c h=>cases h
  | tup vs l hs hr=>exact ⟨vs,rfl,hs,hr⟩
theorem rep_sl {x : Value} {k : Tk} {es : List (List D)} (h : Rep G w x (.sl k es)) : ∃ a cap,x = .slice a es.length cap ∧ RepC G w (.slice a es.length cap) (.sl k es):=by
  have h:=rep_c rfl h
  cases h with
  | sl a cap k es g o sz xs ha hc hr hl hm hk=>exact ⟨a,cap,rfl,.sl a cap k es g o sz xs ha hc hr hl hm hk⟩
theorem rep_ptr {x : Value} {b off : Nat} (h : Rep G w x (.ptr b off)) : ∃ g n ty,x = .pointer (some ⟨g,off,none⟩) ∧ G.box b = some (g,ty,n):=by
  cases h with
  | v h=>cases h with
    | c h=>cases h
  | ptr b off g n ty hb=>exact ⟨g,n,ty,rfl,hb⟩
theorem rep_el {x : Value} {l : List D} {off : Nat} (h : Rep G w x (.el l off)) : ∃ (g o : Nat) (xs : Nat → Value),x = .pointer (some ⟨g,o + off,none⟩) ∧ (∀ (j : Nat) (d : D),l[j]? = some d → w.cell? ⟨g,o + j,none⟩ = some (xs j) ∧ G.imm g (o + j)) ∧ ∀ (j : Nat) (d : D),l[j]? = some d → RepC G w (xs j) d:=by
  cases h with
  | v h=>cases h with
    | c h=>cases h
  | el g o l off xs hc hr=>exact ⟨g,o,xs,rfl,hc,hr⟩
theorem rep_cells {x : Value} {d : D} {l : List D} (h : Rep G w x d) (hl : cellsOf d = some l) : x.cells.size = l.length ∧ ∀ (i : Nat) (v : Value) (e : D),x.cells[i]? = some v → l[i]? = some e → RepC G w v e:=by
  have one : ∀ {d : D},cellD d = true → (bif cellD d then some [d] else none) = some l → Rep G w x d → x.cells.size = l.length ∧ ∀ (i : Nat) (v : Value) (e : D),x.cells[i]? = some v → l[i]? = some e → RepC G w v e:=by
    intro d hd he hx
    rw [hd] at he
    cases he
    have hc:=rep_c hd hx
    have ho:=hc.one
    have hcs : x.cells = #[x]:=by cases x <;> first | rfl | cases ho
    rw [hcs]
    refine ⟨rfl,fun i v e h1 h2=>?_⟩
    cases i with
    | zero=>cases h1;cases h2;exact hc
    | succ i=>cases h2
  unfold cellsOf at hl
  split at hl
  · cases hl
    obtain ⟨vs,rfl,hs,hr⟩:=rep_agg h
    exact ⟨hs,hr⟩
  · rename_i d1 _
    cases hd : cellD d with
    | false=>rw [hd] at hl;cases hl
    | true=>exact one hd hl h
theorem repC_const {v : Value} (h : goodC (constC v) = true) : RepC G w v (constC v):=by
  unfold constC at h ⊢
  split
  · exact .v _ rfl
  · exact .v _ rfl
  · exact .v _ rfl
  · exact .sl none 0 .nil [] 0 0 0 (fun _ _=>undef) (fun e=>absurd rfl e) (fun i e j d hi=>by cases hi) (fun i e j d hi=>by cases hi) (fun e he=>by cases he) ⟨Nat.zero_le _,Nat.le_refl _⟩ ⟨rfl,rfl,rfl⟩
  · rename_i h1 h2 h3 h4
    exfalso
    revert h
    split <;> simp_all [goodC]
theorem rep_const (v : Value) : Rep G w v (constD v):=by
  unfold constD
  split
  · rename_i vs
    cases ha : (vs.toList.map constC).all goodC with
    | false=>exact .any _
    | true =>
      refine .v (.agg vs _ (by simp) fun i x d hi hj=>?_)
      rw [List.getElem?_map,Array.getElem?_toList,hi] at hj
      cases hj
      refine repC_const ?_
      rw [List.all_eq_true] at ha
      exact ha _ (List.mem_map.2 ⟨x,by rw [Array.mem_toList_iff];exact Array.mem_of_getElem? hi,rfl⟩)
  · split
    · exact .any _
    · rename_i h
      refine .v (.c (repC_const ?_))
      unfold goodC
      split
      · rename_i h';exact absurd h' h
      · rfl
end
structure Sim (n : Nat) (G : Gh) (m : Mem) (a : Act) (w : World) : Prop where
  tm : a.tmps.size = n
  df : a.defers = []
  slot : ∀ t,Rep G w (a.tmps.getD t undef) (look m 0 t)
  cells : Cells G w m
  toks : Toks G m
  ok : GOk G w
section
variable {n : Nat} {G : Gh} {m : Mem} {a : Act} {w : World}
theorem Sim.ev (h : Sim n G m a w) (x : Operand) : Rep G w (a.eval x) (ev m x):=by
  cases x with
  | tmp t=>exact h.slot t
  | const v=>exact rep_const v
  | global g=>exact .any _
  | func f=>exact .v (.c (.v _ rfl))
end
def KdOk (P : Program) (t : TypeId) : Kd → Prop
  | .bool=>P.underlying t = some .bool
  | .str=>P.underlying t = some .string
  | .no=>True
  | .int k=>P.underlying t = some (.int k)
  | .sl e=>P.underlying t = some (.slice e)
  | .st fs=>∃ a : Array Field,P.underlying t = some (.struct a) ∧ a.toList.map (fun f=>(f.offset,f.type)) = fs
structure TyOk (P : Program) (t : TypeId) (y : Ty) : Prop where
  kd : KdOk P t y.kd
  info : ∃ i z,P.info? t = some i ∧ i.size = y.size ∧ i.bytes = y.bytes ∧ i.zero = some z ∧ z.cells.toList.map constC = y.zero ∧ y.zero.all goodC = true ∧ y.zero.length = y.size
  one : (∃ fs,y.kd = .st fs) ∨ y.size = 1
def TysOk (P : Program) (ty : Tys) : Prop:=∀ t y,tyOf ty t = some y → TyOk P t y
section
variable {P : Program} {t : TypeId} {y : Ty}
theorem TyOk.size (h : TyOk P t y) (w : World) : (sizeOf t).run P w = .ok y.size w:=by
  obtain ⟨i,z,h1,h2,_⟩:=h.info
  simp [sizeOf,typeInfo,h1,h2]
theorem TyOk.isAgg_st (h : TyOk P t y) {fs : List (Nat × TypeId)} (hk : y.kd = .st fs) (w : World) : (isAgg t).run P w = .ok true w:=by
  have:=h.kd
  rw [hk] at this
  obtain ⟨a,ha,_⟩:=this
  simp [isAgg,run_underlying ha]
theorem TyOk.isAgg_one (h : TyOk P t y) (hn : y.kd ≠ .no) (hk : ∀ fs,y.kd ≠ .st fs) (w : World) : (isAgg t).run P w = .ok false w:=by
  have:=h.kd
  unfold KdOk at this
  split at this
  · simp [isAgg,run_underlying this]
  · simp [isAgg,run_underlying this]
  · rename_i e;exact absurd e hn
  · simp [isAgg,run_underlying this]
  · simp [isAgg,run_underlying this]
  · rename_i e;exact absurd e (hk _)
theorem part_spec : ∀ {l : List D} {o n : Nat} {r : List D},part l o n = some r → r.length = n ∧ ∀ i,i < n → r[i]? = l[o + i]? ∧ (l[o + i]?).isSome
  | l,o,0,r,h=>by cases h;exact ⟨rfl,fun i hi=>by omega⟩
  | l,o,n + 1,r,h=>by
    unfold part at h
    split at h
    · rename_i d r' h1 h2
      cases h
      obtain ⟨e1,e2⟩:=part_spec h2
      refine ⟨by simp [e1],fun i hi=>?_⟩
      cases i with
      | zero=>simp [h1]
      | succ i=>have:=e2 i (by omega);rw [show o + 1 + i = o + (i + 1) by omega] at this;simpa using this
    · cases h
theorem cr_spec (m : Mem) (b : Nat) : ∀ (o n : Nat),(cr m b o n).length = n ∧ ∀ i,i < n → (cr m b o n)[i]? = some (look m (b + 2) (o + i))
  | o,0=>⟨rfl,fun i hi=>by omega⟩
  | o,n + 1=>by
    obtain ⟨e1,e2⟩:=cr_spec m b (o + 1) n
    refine ⟨by simp [cr,e1],fun i hi=>?_⟩
    cases i with
    | zero=>simp [cr]
    | succ i=>have:=e2 i (by omega);rw [show o + 1 + i = o + (i + 1) by omega] at this;simpa [cr] using this
end
section
variable {P : Program} {ty : Tys} {n : Nat} {G : Gh} {m : Mem} {a : Act} {w : World} {o : Oper} {id : Nat}
theorem ok_move {x : Operand} (h : Sim n G m a w) (ho : o.op = .move x ∨ o.op = .assign x) : OpOk P o G a w id (ev m x) [] :=
  .pure h.ok (v:=a.eval x) (by rcases ho with ho | ho <;> simp [execOp,ho]) (h.ev x)
theorem ok_pick {c x y : Operand} (h : Sim n G m a w) (ho : o.op = .pick c x y) {d : D} (hd : dPick (ev m c) (ev m x) (ev m y) = .val d) : OpOk P o G a w id d []:=by
  have hc:=h.ev c;have hx:=h.ev x;have hy:=h.ev y
  have run : ∀ b,a.eval c = .bool b → (execOp a.eval o).run P w = .ok (.value (if b then a.eval x else a.eval y)) w:=fun b e=>by
    cases b <;> simp [execOp,ho,e,asBool]
  unfold dPick at hd
  split at hd
  · rename_i c' x' y' e1 e2 e3
    cases hd
    rw [e1] at hc;rw [e2] at hx;rw [e3] at hy
    obtain ⟨e4,_⟩:=rep_v hc;obtain ⟨e5,_⟩:=rep_v hx;obtain ⟨e6,_⟩:=rep_v hy
    refine .pure h.ok (run _ e4) ?_
    rw [e5,e6]
    cases c' <;> exact .v (.c (.v _ rfl))
  · have e1 : ev m c = .v (.bool true):=by assumption
    cases hd
    rw [e1] at hc
    obtain ⟨e4,_⟩:=rep_v hc
    exact .pure h.ok (run _ e4) hx
  · have e1 : ev m c = .v (.bool false):=by assumption
    cases hd
    rw [e1] at hc
    obtain ⟨e4,_⟩:=rep_v hc
    exact .pure h.ok (run _ e4) hy
  · cases hd
theorem ok_nil {x : Operand} (h : Sim n G m a w) (ho : o.op = .nilCheck x) {d : D} (hd : (∃ b off,ev m x = .ptr b off ∧ d = .ptr b off) ∨ ∃ l off,ev m x = .el l off ∧ d = .el l off) : OpOk P o G a w id d []:=by
  have hx:=h.ev x
  rcases hd with ⟨b,off,e,rfl⟩ | ⟨l,off,e,rfl⟩
  · rw [e] at hx
    obtain ⟨g,k,t,e1,_⟩:=rep_ptr hx
    exact .pure h.ok (v:=a.eval x) (by simp [execOp,ho,e1]) hx
  · rw [e] at hx
    obtain ⟨g,k,t,e1,_⟩:=rep_el hx
    exact .pure h.ok (v:=a.eval x) (by simp [execOp,ho,e1]) hx
theorem run_binOp {op : BinOp} {t yt : TypeId} {x y : Operand} {u v r : Value} (ho : o.op = .binOp op t x y yt) (hx : a.eval x = u) (hy : a.eval y = v) (hg : eqGuard op t x y u v = pure ()) (hr : (binOp op t u v).run P w = .ok r w) :
    (execOp a.eval o).run P w = .ok (.value r) w:=by
  simp [execOp,ho,hx,hy,hg,hr]
theorem ok_bin {op : BinOp} {t yt : TypeId} {x y : Operand} (h : Sim n G m a w) (ho : o.op = .binOp op t x y yt) {d : D} (hd : dBin op (ev m x) (ev m y) = .val d ∨ ∃ p : Prop,dBin op (ev m x) (ev m y) = .eff p d [] ∧ p) : OpOk P o G a w id d []:=by
  have hx:=h.ev x;have hy:=h.ev y
  unfold dBin at hd
  split at hd
  · rename_i k i k' j e1 e2
    rw [e1] at hx;rw [e2] at hy
    obtain ⟨e3,_⟩:=rep_v hx;obtain ⟨e4,_⟩:=rep_v hy
    by_cases hk : k = k'
    · subst hk
      simp only [decide_true,cond_true] at hd
      have fin : ∀ r,(binOp op t (.int k i) (.int k j)).run P w = .ok r w → r.oneCell' = true → OpOk P o G a w id (.v r) []:=fun r hr h1 =>
        .pure h.ok (run_binOp ho e3 e4 (eqGuard_at_int ..) hr) (.v (.c (.v _ h1)))
      cases op <;> simp only [reduceCtorEq,false_and,exists_false,or_false,false_or,R.val.injEq,R.eff.injEq,and_true] at hd
      case rem =>
        obtain ⟨p,⟨rfl,rfl⟩,hp⟩:=hd
        refine fin _ ?_ rfl
        simp [binOp,Op.intDiv,hp]
      all_goals
        subst hd
        refine fin _ ?_ rfl
        simp [binOp,Op.intArith,Op.intCmp]
    · simp only [decide_eq_false hk,cond_false,reduceCtorEq,false_and,exists_false,or_false] at hd
  · rename_i s s' e1 e2
    rw [e1] at hx;rw [e2] at hy
    obtain ⟨e3,_⟩:=rep_v hx;obtain ⟨e4,_⟩:=rep_v hy
    have fin : ∀ r,(binOp op t (.string s) (.string s')).run P w = .ok r w → r.oneCell' = true → OpOk P o G a w id (.v r) []:=fun r hr h1 =>
      .pure h.ok (run_binOp ho e3 e4 (eqGuard_at_string ..) hr) (.v (.c (.v _ h1)))
    cases op <;> simp only [reduceCtorEq,false_and,exists_false,or_false,false_or,R.val.injEq,R.eff.injEq,and_true] at hd
    case add =>
      obtain ⟨p,⟨rfl,rfl⟩,hp⟩:=hd
      refine fin _ ?_ rfl
      have : ¬ (9223372036854775807 : Int) < (s.size : Int) + (s'.size : Int):=by omega
      simp [binOp,Op.stringOp,this]
    all_goals
      subst hd
      refine fin _ ?_ rfl
      simp [binOp,Op.stringOp]
  · simp at hd
end
end Go.Proofs.Ythadnhpkeljdoaa.pv
namespace Go.Proofs.Ythadnhpkeljdoaa.sg
open Go.Lib (hid)
open Go.RowKit Go.Shelf
theorem rletter_calls (c : Int) (w : World) : Calls Try.prog 60 #[.int .u8 c] w fun e w'=>e = .returned (.bool (Sg.cL c)) ∧ w = w':=by
  go_enter Try.func60,Try.ntmps60
  go_wp2
  all_goals go_ret
  all_goals refine ⟨congrArg (fun b=>Ending.returned (Value.bool b)) (?_ : _ = Sg.cL c),rfl⟩
  all_goals rw [Bool.eq_iff_iff]
  all_goals simp [Sg.cL]
  all_goals omega
theorem rdigit_calls (c : Int) (w : World) : Calls Try.prog 74 #[.int .u8 c] w fun e w'=>e = .returned (.bool (Sg.cD c)) ∧ w = w':=by
  go_enter Try.func74,Try.ntmps74
  go_wp2
  all_goals go_ret
  all_goals refine ⟨congrArg (fun b=>Ending.returned (Value.bool b)) (?_ : _ = Sg.cD c),rfl⟩
  all_goals rw [Bool.eq_iff_iff]
  all_goals simp [Sg.cD]
  all_goals omega
theorem rblank_calls (c : Int) (w : World) : Calls Try.prog 56 #[.int .u8 c] w fun e w'=>e = .returned (.bool (Sg.cB c)) ∧ w = w':=by
  go_enter Try.func56,Try.ntmps56
  go_wp2
  all_goals go_ret
  all_goals refine ⟨congrArg (fun b=>Ending.returned (Value.bool b)) (?_ : _ = Sg.cB c),rfl⟩
  all_goals rw [Bool.eq_iff_iff]
  all_goals simp [Sg.cB]
  all_goals omega
theorem hex_calls (c : Int) (w : World) : Calls Try.prog 72 #[.int .u8 c] w fun e w'=>e = .returned (.bool (Sg.cH c)) ∧ w = w':=by
  go_enter Try.func72,Try.ntmps72
  cases hd : Sg.cD c with
  | true =>
    go_wp2_with fail
    ((with_reducible refine (rdigit_calls c _).mono ?_);rintro e w1 ⟨rfl,rfl⟩)
    go_wp2_with fail
    go_ret
    exact ⟨by simp [Sg.cH,hd],rfl⟩
  | false =>
    go_wp2_with fail
    ((with_reducible refine (rdigit_calls c _).mono ?_);rintro e w1 ⟨rfl,rfl⟩)
    go_wp2_with fail
    all_goals go_ret
    all_goals refine ⟨congrArg (fun b=>Ending.returned (Value.bool b)) (?_ : _ = Sg.cH c),rfl⟩
    all_goals rw [Bool.eq_iff_iff]
    all_goals simp [Sg.cH,hd]
    all_goals omega
theorem at_get (p : Int → Bool) (s : ByteArray) {m : Nat} (h : m < s.size) : Sg.at' p s.data.toList m = p ((s[m]'h).toNat : Int):=by
  have e : s.data.toList.getD m 0 = s[m]'h:=by
    have e2 : s.data.toList.getD m 0 = s.data.toList[m]'(by rw [lst_len];exact h):=by simp [List.getD,h]
    rw [e2];rfl
  unfold Sg.at'
  rw [e,lst_len,decide_eq_true h,Bool.true_and]
theorem at_none (p : Int → Bool) (s : ByteArray) {m : Nat} (h : ¬ m < s.size) : Sg.at' p s.data.toList m = false:=by
  unfold Sg.at'
  rw [lst_len,decide_eq_false h,Bool.false_and]
theorem run_more {p : Int → Bool} {s : ByteArray} {m : Nat} (h : m < s.size) (hr : Sg.run p (s.data.toList.take m) = m) (hp : p ((s[m]'h).toNat : Int) = true) : Sg.run p (s.data.toList.take (m + 1)) = m + 1:=by
  have hv:=at_get p s h
  rw [hp] at hv
  unfold Sg.at' at hv
  rw [Bool.and_eq_true] at hv
  exact Sg.run_snoc (by rw [lst_len];exact h) hr hv.2
theorem run_less {p : Int → Bool} {s : ByteArray} {m : Nat} (hr : Sg.run p (s.data.toList.take m) = m) (hp : ∀ h : m < s.size,p ((s[m]'h).toNat : Int) = false) : Sg.run p s.data.toList = m:=by
  refine Sg.run_eq hr ?_
  rcases Nat.lt_or_ge m s.size with h | h
  · rw [Sg.drop_head (by rw [lst_len];exact h)]
    refine Sg.stop_cons ?_ _
    have hv:=at_get p s h
    rw [hp h] at hv
    unfold Sg.at' at hv
    rw [lst_len,decide_eq_true h,Bool.true_and] at hv
    exact hv
  · rw [List.drop_eq_nil_of_le (by rw [lst_len];exact h)]
    exact Sg.stop_nil p
theorem empty_eq (s : ByteArray) (h : s.size = 0) : s = ⟨#[]⟩:=by
  have hl : s.data.toList = []:=List.length_eq_zero_iff.1 (by rw [lst_len];exact h)
  cases s;simp at hl;subst hl;rfl
theorem ne_empty (s : ByteArray) (h : 0 < s.size) : s.toList.isEmpty = false:=by
  rw [Lib.toList_data]
  cases hl : s.data.toList with
  | nil=>rw [← lst_len,hl] at h;exact absurd h (by decide)
  | cons a r=>rfl
theorem digits_calls (s : ByteArray) (hs : s.size ≤ 140737488351232) (w : World) :
    Calls Try.prog 75 #[.string s] w fun e w'=>e = .returned (.int .i64 (Sg.run Sg.cD s.data.toList : Nat)) ∧ w = w':=by
  go_enter Try.func75,Try.ntmps75
  go_wp2_with fail
  go_loopw [3] (fun k wr=>∃ m : Nat,k = .int .i64 (m : Int) ∧ m ≤ s.size ∧ Sg.run Sg.cD (s.data.toList.take m) = m ∧ wr = w) (fun k _=>s.size - (intOf k).toNat)
  case atStart=>exact ⟨0,rfl,Nat.zero_le _,rfl,rfl⟩
  case round =>
    obtain ⟨m,rfl,hm,hr,rfl⟩:=hrel
    by_cases h : m < s.size
    · cases hd : Sg.cD ((s[m]'h).toNat : Int) with
      | true =>
        have HR:=hid (run_more h hr hd)
        have hc:=rdigit_calls ((s[m]'h).toNat : Int) wr
        rw [hd] at hc
        clear hr hd
        go_wp2_with fail
        ((with_reducible refine hc.mono ?_);rintro e w1 ⟨rfl,rfl⟩)
        go_wp2_with fail
        go_roundw
        case rel=>exact ⟨m + 1,by go_num,by omega,HR.out,trivial⟩
        case measure=>simp [intOf];omega
      | false =>
        have HF:=hid (run_less hr (fun _=>hd))
        have hc:=rdigit_calls ((s[m]'h).toNat : Int) wr
        rw [hd] at hc
        clear hr hd
        go_wp2_with fail
        ((with_reducible refine hc.mono ?_);rintro e w1 ⟨rfl,rfl⟩)
        go_wp2_with fail
        go_ret
        exact ⟨by rw [HF.out];rfl,rfl⟩
    · have HF:=hid (run_less hr (fun h'=>absurd h' h))
      clear hr
      go_wp2_with fail
      go_ret
      exact ⟨by rw [HF.out];rfl,rfl⟩
theorem rsimple_calls (s : ByteArray) (hs : s.size ≤ 140737488351232) (w : World) :
    Calls Try.prog 73 #[.string s] w fun e w'=>e = .returned (.int .i64 (Sg.simple s.data.toList : Nat)) ∧ w = w':=by
  rcases Nat.eq_zero_or_pos s.size with h0 | h0
  · obtain rfl:=empty_eq s h0
    go_enter Try.func73,Try.ntmps73
    go_wp2_with fail
    go_ret
    exact ⟨rfl,rfl⟩
  · have hne:=ne_empty s h0
    have hc:=rletter_calls ((s[0]'h0).toNat : Int) w
    cases hd : Sg.cL ((s[0]'h0).toNat : Int) with
    | false =>
      rw [hd] at hc
      have hv : Sg.simple s.data.toList = 0:=by unfold Sg.simple;rw [at_get _ s h0,hd];rfl
      have HV:=hid hv
      clear hv hd
      go_enter Try.func73,Try.ntmps73
      go_wp2_with fail
      ((with_reducible refine hc.mono ?_);rintro e w1 ⟨rfl,rfl⟩)
      go_wp2_with fail
      go_ret
      exact ⟨by rw [HV.out];rfl,rfl⟩
    | true =>
      rw [hd] at hc
      have hv : Sg.simple s.data.toList = Sg.run Sg.cW s.data.toList:=by unfold Sg.simple;rw [at_get _ s h0,hd];rfl
      have HV:=hid hv
      have h1 : Sg.run Sg.cW (s.data.toList.take 1) = 1:=run_more h0 rfl (Sg.LW0 _ hd)
      clear hv hd
      go_enter Try.func73,Try.ntmps73
      go_wp2_with fail
      ((with_reducible refine hc.mono ?_);rintro e w1 ⟨rfl,rfl⟩)
      go_wp2_with fail
      go_loopw [3] (fun k wr=>∃ m : Nat,k = .int .i64 (m : Int) ∧ m ≤ s.size ∧ Sg.run Sg.cW (s.data.toList.take m) = m ∧ wr = w) (fun k _=>s.size - (intOf k).toNat)
      case atStart=>exact ⟨1,rfl,h0,h1,rfl⟩
      case round =>
        obtain ⟨m,rfl,hm,hr,rfl⟩:=hrel
        by_cases h : m < s.size
        · have hl:=rletter_calls ((s[m]'h).toNat : Int) wr
          have hg:=rdigit_calls ((s[m]'h).toNat : Int) wr
          cases hL : Sg.cL ((s[m]'h).toNat : Int) with
          | true =>
            rw [hL] at hl
            have HR:=hid (run_more (p:=Sg.cW) h hr (by simp [Sg.cW,hL]))
            clear hr hL
            go_wp2_with fail
            ((with_reducible refine hl.mono ?_);rintro e w1 ⟨rfl,rfl⟩)
            go_wp2_with fail
            go_roundw
            case rel=>exact ⟨m + 1,by go_num,by omega,HR.out,trivial⟩
            case measure=>simp [intOf];omega
          | false =>
            rw [hL] at hl
            cases hD : Sg.cD ((s[m]'h).toNat : Int) with
            | true =>
              rw [hD] at hg
              have HR:=hid (run_more (p:=Sg.cW) h hr (by simp [Sg.cW,hD]))
              clear hr hL hD
              go_wp2_with fail
              ((with_reducible refine hl.mono ?_);rintro e w1 ⟨rfl,rfl⟩)
              go_wp2_with fail
              ((with_reducible refine hg.mono ?_);rintro e w1 ⟨rfl,rfl⟩)
              go_wp2_with fail
              go_roundw
              case rel=>exact ⟨m + 1,by go_num,by omega,HR.out,trivial⟩
              case measure=>simp [intOf];omega
            | false =>
              rw [hD] at hg
              have HF:=hid (run_less (p:=Sg.cW) hr (fun _=>by simp [Sg.cW,hL,hD]))
              clear hr hL hD
              go_wp2_with fail
              ((with_reducible refine hl.mono ?_);rintro e w1 ⟨rfl,rfl⟩)
              go_wp2_with fail
              ((with_reducible refine hg.mono ?_);rintro e w1 ⟨rfl,rfl⟩)
              go_wp2_with fail
              go_ret
              exact ⟨by rw [HV.out,HF.out];rfl,rfl⟩
        · have HF:=hid (run_less hr (fun h'=>absurd h' h))
          clear hr
          go_wp2_with fail
          go_ret
          exact ⟨by rw [HV.out,HF.out];rfl,rfl⟩
end Go.Proofs.Ythadnhpkeljdoaa.sg
namespace Go.Proofs.Ythadnhpkeljdoaa.nd
open Go.Lib (hid)
open Go.RowKit sx
def SameOk (x : Nd) : Prop:=∀ (y : Nd) (w : World) (u v : Value),NdAt (Lt w.heap.size) w x u → NdAt (Lt w.heap.size) w y v →
  Calls Try.prog 27 #[u,v] w fun e w'=>e = .returned (.bool (x.same y)) ∧ Below w.heap.size w w'
theorem not_same {f g : Fo} {i : Nat} {x y : Nd} (hx : f.get? i = some x) (hy : g.get? i = some y) (h : x.same y = false) : f.same g = false:=by
  cases hs : f.same g with
  | false=>rfl
  | true =>
    rw [Fo.same_iff.1 hs,hy] at hx
    cases hx
    rw [Nd.same_self] at h
    cases h
theorem not_same_len {f g : Fo} (h : f.len ≠ g.len) : f.same g = false:=by
  cases hs : f.same g with
  | false=>rfl
  | true=>exact absurd (by rw [Fo.same_iff.1 hs]) h
theorem same_of {f g : Fo} (hl : f.len = g.len) (h : ∀ i x y,f.get? i = some x → g.get? i = some y → x.same y = true) : f.same g = true:=by
  refine Fo.same_iff.2 (Fo.ext hl fun i hi=>?_)
  obtain ⟨x,hx⟩:=Fo.get_of_lt hi
  obtain ⟨y,hy⟩:=Fo.get_of_lt (f:=g) (i:=i) (by omega)
  rw [hx,hy,Nd.same_iff.1 (h i x y hx hy)]
theorem equalF_calls (f g : Fo) (hp : f.All SameOk) (w : World) (u v : Value) (hf : KidsAt (Lt w.heap.size) w f u) (hg : KidsAt (Lt w.heap.size) w g v) :
    Calls Try.prog 41 #[u,v,.func (.func 27) #[] #[]] w fun e w'=>e = .returned (.bool (f.same g)) ∧ Below w.heap.size w w':=by
  obtain ⟨ao,cap,rfl,hm⟩:=hf.slice
  obtain ⟨bo,cap2,rfl,hm2⟩:=hg.slice
  unfold maxLen at hm hm2
  obtain ⟨b,hb⟩ : ∃ b,f.same g = b:=⟨_,rfl⟩
  rw [hb]
  by_cases hl : f.len = g.len
  · obtain ⟨m,hmm⟩ : ∃ m,g.len = m:=⟨_,rfl⟩
    have hmx:=hl.trans hmm
    rw [hmm] at hm2 hg ⊢
    rw [hmx] at hm hf ⊢
    have HF:=hid hf;have HG:=hid hg;have HL:=hid hmx;have HL2:=hid hmm;have HB:=hid hb;have HP:=hid hp
    clear hf hg hl hmm hmx hb hp
    go_enter Try.func41,Try.ntmps41
    go_wp2_with fail
    go_loopw [17] (fun i wr=>∃ k : Nat,k ≤ m ∧ i = .int .i64 (k : Int) ∧ (∀ j x y,j < k → f.get? j = some x → g.get? j = some y → x.same y = true) ∧ Below w.heap.size w wr) (fun i _=>m - (intOf i).toNat)
    case atStart=>exact ⟨0,Nat.zero_le _,rfl,fun j x y h=>absurd h (Nat.not_lt_zero _),Below.refl _ _⟩
    case round =>
      obtain ⟨k,hk,rfl,heq,hbw⟩:=hrel
      have HEQ:=hid heq
      clear heq
      by_cases hlt : k < m
      · obtain ⟨x,hx⟩:=Fo.get_of_lt (f:=f) (i:=k) (by rw [HL.out];exact hlt)
        obtain ⟨y,hy⟩:=Fo.get_of_lt (f:=g) (i:=k) (by rw [HL2.out];exact hlt)
        obtain ⟨g1,o1,ao1,cap1,rfl,_,hg1,a0,a1,a2,a3⟩:=HF.out.get hx
        obtain ⟨g2,o2,ao2,cap2,rfl,_,hg2,b0,b1,b2,b3⟩:=HG.out.get hy
        have d0:=(hbw.cell (p:=⟨g1,_,none⟩) hg1).trans a0
        have d1:=(hbw.cell (p:=⟨g1,_,none⟩) hg1).trans a1
        have d2:=(hbw.cell (p:=⟨g1,_,none⟩) hg1).trans a2
        have e0:=(hbw.cell (p:=⟨g2,_,none⟩) hg2).trans b0
        have e1:=(hbw.cell (p:=⟨g2,_,none⟩) hg2).trans b1
        have e2:=(hbw.cell (p:=⟨g2,_,none⟩) hg2).trans b2
        have hlt1 : (k : Int) < (m : Int):=by omega
        have hw1 : g1 < wr.heap.size:=Nat.lt_of_lt_of_le hg1 hbw.size
        have hw2 : g2 < wr.heap.size:=Nat.lt_of_lt_of_le hg2 hbw.size
        have hcall : ∀ W,Below w.heap.size w W → Calls Try.prog 27 #[.agg #[.int .i64 x.k,.string x.t,.slice ao1 x.kids.len cap1],.agg #[.int .i64 y.k,.string y.t,.slice ao2 y.kids.len cap2]] W fun e w'=>e = .returned (.bool (x.same y)) ∧ Below W.heap.size W w':=fun W hW =>
          HP.out.get hx y W _ _ ((NdAt.mk (a3.below hW (Nat.le_refl _))).mono hW.size) ((NdAt.mk (b3.below hW (Nat.le_refl _))).mono hW.size)
        obtain ⟨c,hc⟩ : ∃ c,x.same y = c:=⟨_,rfl⟩
        rw [hc] at hcall
        have HC:=hid hcall;have HS:=hid hc;have HX:=hid hx;have HY:=hid hy
        have HW:=hid hbw
        clear hcall hc hx hy a0 a1 a2 a3 b0 b1 b2 b3 hbw
        have hbo : ∀ (o o' : Obj),Below w.heap.size w ((wr.alloc o).alloc o'):=fun o o'=>(HW.out.alloc HW.out.size _).alloc (by have:=HW.out.size;simp;omega) _
        have HBO:=hid hbo
        clear hbo
        cases c with
        | true =>
          go_wp2_with fail
          ((with_reducible refine (HC.out _ (HBO.out _ _)).mono ?_);rintro e w1 ⟨rfl,hb1⟩)
          have hb2:=(HBO.out _ _).trans (hb1.mono (HBO.out _ _).size)
          have HB2:=hid hb2
          clear hb1 hb2
          go_wp2_with fail
          exact ⟨⟨k + 1,by omega,rfl,fun j x' y' hj h1 h2=>by
            by_cases hjk : j < k
            · exact HEQ.out j x' y' hjk h1 h2
            · obtain rfl : j = k:=by omega
              rw [HX.out] at h1;rw [HY.out] at h2
              cases h1;cases h2;exact HS.out,HB2.out⟩,by simp [intOf];omega⟩
        | false =>
          obtain rfl : b = false:=by rw [← HB.out];exact not_same HX.out HY.out HS.out
          go_wp2_with fail
          ((with_reducible refine (HC.out _ (HBO.out _ _)).mono ?_);rintro e w1 ⟨rfl,hb1⟩)
          have hb2:=(HBO.out _ _).trans (hb1.mono (HBO.out _ _).size)
          have HB2:=hid hb2
          clear hb1 hb2
          go_wp2_with fail
          go_ret
          exact ⟨rfl,HB2.out⟩
      · obtain rfl : k = m:=by omega
        have hge : decide ((k : Int) < (k : Int)) = false:=by simp
        obtain rfl : b = true:=by
          rw [← HB.out]
          exact same_of (by rw [HL.out,HL2.out]) fun i x y h1 h2=>HEQ.out i x y (by have:=Fo.get_lt h1;rw [HL.out] at this;exact this) h1 h2
        go_wp2_with fail
        go_ret
        exact ⟨rfl,hbw⟩
  · have hl1 : ((f.len : Int) == (g.len : Int)) = false:=beq_eq_false_iff_ne.2 (by omega)
    have hl2 : ((f.len : Int) != (g.len : Int)) = true:=by rw [bne,hl1];rfl
    obtain rfl : b = false:=by rw [← hb];exact not_same_len hl
    clear hb hf hg
    go_enter Try.func41,Try.ntmps41
    go_wp2_with fail
    go_ret
    exact ⟨rfl,Below.refl _ _⟩
theorem same_ok (x : Nd) : SameOk x:=by
  refine Nd.induct (p:=SameOk) (fun x hp y w u v hu hv=>?_) x
  obtain ⟨s,rfl,hs⟩:=hu
  obtain ⟨s2,rfl,hs2⟩:=hv
  obtain ⟨ao,cap,rfl,_⟩:=hs.slice
  obtain ⟨ao2,cap2,rfl,_⟩:=hs2.slice
  obtain ⟨k,t,f⟩:=x
  obtain ⟨k2,t2,g⟩:=y
  have hq : Nd.same ⟨k,t,f⟩ ⟨k2,t2,g⟩ = (k == k2 && (t.toList == t2.toList) && f.same g):=rfl
  have hcall:=fun W (hW : Below w.heap.size w W)=>equalF_calls f g hp W _ _ ((hs.below hW (Nat.le_refl _)).mono hW.size) ((hs2.below hW (Nat.le_refl _)).mono hW.size)
  have hb0 : Below w.heap.size w ((w.alloc (.cells #[.int .i64 k,.string t,.slice ao f.len cap] 25)).alloc (.cells #[.int .i64 k2,.string t2,.slice ao2 g.len cap2] 25)):=((Below.refl _ w).alloc (Nat.le_refl _) _).alloc (by simp) _
  obtain ⟨c,hc⟩ : ∃ c,f.same g = c:=⟨_,rfl⟩
  rw [hc] at hcall hq
  obtain ⟨b,hb⟩ : ∃ b,Nd.same ⟨k,t,f⟩ ⟨k2,t2,g⟩ = b:=⟨_,rfl⟩
  rw [hb] at hq ⊢
  have HQ:=hid hq;have HC:=hid hcall;have HB:=hid hb0
  clear hq hcall hb0 hb hc hs hs2 hp
  by_cases h1 : k = k2
  · subst h1
    by_cases h2 : t = t2
    · subst h2
      obtain rfl : b = c:=by rw [HQ.out];simp
      go_enter Try.func27,Try.ntmps27
      go_wp2_with fail
      ((with_reducible refine (HC.out _ HB.out).mono ?_);rintro e w1 ⟨rfl,hb1⟩)
      have hb2:=HB.out.trans (hb1.mono HB.out.size)
      have HB2:=hid hb2
      clear hb1 hb2
      go_wp2_with fail
      go_ret
      exact ⟨rfl,HB2.out⟩
    · have hf : (t.toList == t2.toList) = false:=beq_eq_false_iff_ne.2 (fun e=>h2 (bytes_inj e))
      obtain rfl : b = false:=by rw [HQ.out,hf];simp
      clear h2
      go_enter Try.func27,Try.ntmps27
      go_wp2_with fail
      go_ret
      exact ⟨rfl,HB.out⟩
  · have hf : (k == k2) = false:=beq_eq_false_iff_ne.2 h1
    obtain rfl : b = false:=by rw [HQ.out,hf];simp
    clear h1
    go_enter Try.func27,Try.ntmps27
    go_wp2_with fail
    go_ret
    exact ⟨rfl,HB.out⟩
end Go.Proofs.Ythadnhpkeljdoaa.nd
namespace Go.Proofs.Ythadnhpkeljdoaa.utf
open Go.RowKit
theorem more_0 (c : Int) (h : c < 128) (w : World) : Calls Try.prog 54 #[.int .u8 c] w fun e w'=>e = .returned (.int .i64 (0)) ∧ w = w':=by
 have t0 : decide (c < 128) = true:=decide_eq_true (by omega)
 go_enter Try.func54,Try.ntmps54
 go_wp2_with fail
 go_ret
 exact ⟨rfl,rfl⟩
theorem more_1 (c : Int) (h : 128 ≤ c ∧ c < 194) (w : World) : Calls Try.prog 54 #[.int .u8 c] w fun e w'=>e = .returned (.int .i64 (-1)) ∧ w = w':=by
 have t0 : decide (c < 128) = false:=decide_eq_false (by omega)
 have t1 : decide (194 ≤ c) = false:=decide_eq_false (by omega)
 have t2 : decide (224 ≤ c) = false:=decide_eq_false (by omega)
 have t3 : decide (240 ≤ c) = false:=decide_eq_false (by omega)
 go_enter Try.func54,Try.ntmps54
 go_wp2_with fail
 go_ret
 exact ⟨rfl,rfl⟩
theorem more_2 (c : Int) (h : 194 ≤ c ∧ c ≤ 223) (w : World) : Calls Try.prog 54 #[.int .u8 c] w fun e w'=>e = .returned (.int .i64 (1)) ∧ w = w':=by
 have t0 : decide (c < 128) = false:=decide_eq_false (by omega)
 have t1 : decide (194 ≤ c) = true:=decide_eq_true (by omega)
 have t2 : decide (c ≤ 223) = true:=decide_eq_true (by omega)
 go_enter Try.func54,Try.ntmps54
 go_wp2_with fail
 go_ret
 exact ⟨rfl,rfl⟩
theorem more_3 (c : Int) (h : 224 ≤ c ∧ c ≤ 239) (w : World) : Calls Try.prog 54 #[.int .u8 c] w fun e w'=>e = .returned (.int .i64 (2)) ∧ w = w':=by
 have t0 : decide (c < 128) = false:=decide_eq_false (by omega)
 have t1 : decide (194 ≤ c) = true:=decide_eq_true (by omega)
 have t2 : decide (c ≤ 223) = false:=decide_eq_false (by omega)
 have t3 : decide (224 ≤ c) = true:=decide_eq_true (by omega)
 have t4 : decide (c ≤ 239) = true:=decide_eq_true (by omega)
 go_enter Try.func54,Try.ntmps54
 go_wp2_with fail
 go_ret
 exact ⟨rfl,rfl⟩
theorem more_4 (c : Int) (h : 240 ≤ c ∧ c ≤ 244) (w : World) : Calls Try.prog 54 #[.int .u8 c] w fun e w'=>e = .returned (.int .i64 (3)) ∧ w = w':=by
 have t0 : decide (c < 128) = false:=decide_eq_false (by omega)
 have t1 : decide (194 ≤ c) = true:=decide_eq_true (by omega)
 have t2 : decide (c ≤ 223) = false:=decide_eq_false (by omega)
 have t3 : decide (224 ≤ c) = true:=decide_eq_true (by omega)
 have t4 : decide (c ≤ 239) = false:=decide_eq_false (by omega)
 have t5 : decide (240 ≤ c) = true:=decide_eq_true (by omega)
 have t6 : decide (c ≤ 244) = true:=decide_eq_true (by omega)
 go_enter Try.func54,Try.ntmps54
 go_wp2_with fail
 go_ret
 exact ⟨rfl,rfl⟩
theorem more_5 (c : Int) (h : 245 ≤ c ∧ c ≤ 255) (w : World) : Calls Try.prog 54 #[.int .u8 c] w fun e w'=>e = .returned (.int .i64 (-1)) ∧ w = w':=by
 have t0 : decide (c < 128) = false:=decide_eq_false (by omega)
 have t1 : decide (194 ≤ c) = true:=decide_eq_true (by omega)
 have t2 : decide (c ≤ 223) = false:=decide_eq_false (by omega)
 have t3 : decide (224 ≤ c) = true:=decide_eq_true (by omega)
 have t4 : decide (c ≤ 239) = false:=decide_eq_false (by omega)
 have t5 : decide (240 ≤ c) = true:=decide_eq_true (by omega)
 have t6 : decide (c ≤ 244) = false:=decide_eq_false (by omega)
 go_enter Try.func54,Try.ntmps54
 go_wp2_with fail
 go_ret
 exact ⟨rfl,rfl⟩
def bN (s : ByteArray) (j : Nat) : Nat:=(s.data.toList.getD j 0).toNat
theorem bN_lt (s : ByteArray) (j : Nat) : bN s j < 256:=lt256 _
theorem bN_at (s : ByteArray) (j : Nat) (h : j < s.size) : (s[j]'h).toNat = bN s j:=by
 unfold bN
 have e : s.data.toList.getD j 0 = s.data.toList[j]'(by rw [size_toList];exact h):=by simp [List.getD,h]
 rw [e]
 rfl
theorem oneL_bN (s : ByteArray) (h : 1 ≤ s.size) : oneL s.data.toList = oneN s.size (bN s 0) (bN s 1) (bN s 2) (bN s 3):=by
 have hne : s.data.toList ≠ []:=fun e=>by
  have:=congrArg List.length e
  rw [size_toList,List.length_nil] at this
  omega
 unfold oneL
 rw [if_neg hne,size_toList]
 rfl
def RI (s : ByteArray) (r1 : Int) : Nat → Int
 | 0=>r1
 | 1=>r1
 | i + 2=>64 * RI s r1 (i + 1) + (bN s (i + 1) : Int) % 64
theorem RI_succ (s : ByteArray) (r1 : Int) (i : Nat) (h : 1 ≤ i) : RI s r1 (i + 1) = 64 * RI s r1 i + (bN s i : Int) % 64:=by
 obtain ⟨j,rfl⟩ : ∃ j,i = j + 1:=⟨i - 1,by omega⟩
 rfl
theorem RI_bd (s : ByteArray) (r1 : Int) (h0 : 0 ≤ r1) (h1 : r1 ≤ 63) (i : Nat) (hi : i ≤ 4) : 0 ≤ RI s r1 i ∧ RI s r1 i ≤ 16777215:=by
 have : i = 0 ∨ i = 1 ∨ i = 2 ∨ i = 3 ∨ i = 4:=by omega
 rcases this with rfl | rfl | rfl | rfl | rfl <;> simp only [RI] <;> omega
theorem no_more (n b0 b1 b2 b3 : Nat) (h : (128 ≤ b0 ∧ b0 < 194) ∨ (245 ≤ b0 ∧ b0 < 256)) (h1 : b1 < 256) : oneN n b0 b1 b2 b3 = 0:=by
 unfold oneN
 repeat' split
 all_goals omega
theorem short1 (n b0 b1 b2 b3 : Nat) (h : 194 ≤ b0 ∧ b0 ≤ 223) (hn : n ≤ 1) : oneN n b0 b1 b2 b3 = 0:=by
 unfold oneN
 repeat' split
 all_goals omega
theorem short2 (n b0 b1 b2 b3 : Nat) (h : 224 ≤ b0 ∧ b0 ≤ 239) (hn : n ≤ 2) : oneN n b0 b1 b2 b3 = 0:=by
 unfold oneN
 repeat' split
 all_goals omega
theorem short3 (n b0 b1 b2 b3 : Nat) (h : 240 ≤ b0 ∧ b0 ≤ 244) (hn : n ≤ 3) : oneN n b0 b1 b2 b3 = 0:=by
 unfold oneN
 repeat' split
 all_goals omega
theorem cont1 (n b0 b1 b2 b3 : Nat) (h : 194 ≤ b0 ∧ b0 ≤ 223) (hb : b1 < 128 ∨ 191 < b1) (l1 : b1 < 256) : oneN n b0 b1 b2 b3 = 0:=by
 unfold oneN
 repeat' split
 all_goals omega
theorem cont2 (n b0 b1 b2 b3 : Nat) (h : 224 ≤ b0 ∧ b0 ≤ 239) (hb : (b1 < 128 ∨ 191 < b1) ∨ (b2 < 128 ∨ 191 < b2)) (l1 : b1 < 256) (l2 : b2 < 256) : oneN n b0 b1 b2 b3 = 0:=by
 unfold oneN
 repeat' split
 all_goals omega
theorem cont3 (n b0 b1 b2 b3 : Nat) (h : 240 ≤ b0 ∧ b0 ≤ 244) (hb : (b1 < 128 ∨ 191 < b1) ∨ (b2 < 128 ∨ 191 < b2) ∨ (b3 < 128 ∨ 191 < b3)) (l1 : b1 < 256) (l2 : b2 < 256) (l3 : b3 < 256) : oneN n b0 b1 b2 b3 = 0:=by
 unfold oneN
 repeat' split
 all_goals omega
def Far (least r : Int) : Prop:=r < least ∨ (55296 ≤ r ∧ r ≤ 57343) ∨ 1114111 < r
theorem fin1 (n b0 b1 b2 b3 : Nat) (h : 194 ≤ b0 ∧ b0 ≤ 223) (hn : 1 < n) (c1 : 128 ≤ b1 ∧ b1 ≤ 191) (r : Int) (hr : r = 64 * ((b0 : Int) % 32) + (b1 : Int) % 64) :
  (Far 128 r → oneN n b0 b1 b2 b3 = 0) ∧ (¬ Far 128 r → oneN n b0 b1 b2 b3 = 2):=by
 unfold Far oneN
 subst hr
 repeat' split
 all_goals (constructor <;> intro _ <;> omega)
theorem fin2 (n b0 b1 b2 b3 : Nat) (h : 224 ≤ b0 ∧ b0 ≤ 239) (hn : 2 < n) (c1 : 128 ≤ b1 ∧ b1 ≤ 191) (c2 : 128 ≤ b2 ∧ b2 ≤ 191) (r : Int) (hr : r = 64 * (64 * ((b0 : Int) % 16) + (b1 : Int) % 64) + (b2 : Int) % 64) :
  (Far 2048 r → oneN n b0 b1 b2 b3 = 0) ∧ (¬ Far 2048 r → oneN n b0 b1 b2 b3 = 3):=by
 unfold Far oneN
 subst hr
 repeat' split
 all_goals (constructor <;> intro _ <;> omega)
theorem fin3 (n b0 b1 b2 b3 : Nat) (h : 240 ≤ b0 ∧ b0 ≤ 244) (hn : 3 < n) (c1 : 128 ≤ b1 ∧ b1 ≤ 191) (c2 : 128 ≤ b2 ∧ b2 ≤ 191) (c3 : 128 ≤ b3 ∧ b3 ≤ 191) (r : Int) (hr : r = 64 * (64 * (64 * ((b0 : Int) % 8) + (b1 : Int) % 64) + (b2 : Int) % 64) + (b3 : Int) % 64) :
  (Far 65536 r → oneN n b0 b1 b2 b3 = 0) ∧ (¬ Far 65536 r → oneN n b0 b1 b2 b3 = 4):=by
 unfold Far oneN
 subst hr
 repeat' split
 all_goals (constructor <;> intro _ <;> omega)
end Go.Proofs.Ythadnhpkeljdoaa.utf
namespace Go.Proofs.Ythadnhpkeljdoaa.sx
open Go.RowKit
def SeqE {α : Type} (F : Fence) (n : Nat) (P : Program) (g : Nat) (lb : Array Value) (Tells : α → (Nat → Prop) → World → Array Value → Prop) (n0 : Nat) (Ck : World → Prop) (ys : List α) (w : World) : Prop :=
 ∀ (l : Nat) (J : List α → (Nat → Prop) → World → Prop) (W : World),Below w.heap.size w W → AbD J → (∀ pre D W1,J pre D W1 → Ck W1) →
  (∀ pre x rest D W1 vs,ys = pre ++ x :: rest → J pre D W1 → (∀ k,D k → W.heap.size ≤ k ∧ k < W1.heap.size) → Tells x D W1 vs →
   YieldAt F (n - 1) P l vs W1 fun e W'=>e = .returned (.bool true) ∧ J (pre ++ [x]) D W' ∧ KD n0 D W1 W') →
  J [] (fun _=>False) W → CallsIn F n P g (#[.func (.yield l) #[] #[]] ++ lb) W fun e W'=>(∃ v,e = .returned v) ∧ ∃ D,J ys D W'
section
variable {F : Fence} {n : Nat} {P : Program} {w : World}
theorem wpIn_rangeFunc_E {α : Type} {g : Operand} {ps : Array Tmp} {assign body : Code} {Q : Exit → Act → World → Prop} {a : Act}
  (hro : F.round = none) (h1 : 1 ≤ n) {gf : Nat} {lb : Array Value} (hg : a.eval g = .func (.func gf) #[] lb) (hFg : F.fn gf) (eg : ∀ args w,(callFunc gf args).run P w = .ok (.enter gf args) w)
  {Tells : α → (Nat → Prop) → World → Array Value → Prop} {n0 : Nat} {ys : List α} {w0 : World} {Ck : World → Prop} (hseq : SeqE F (n - 1) P gf lb Tells n0 Ck ys w0)
  (hn0 : n0 ≤ w.heap.size) (hb0 : Below w0.heap.size w0 w) (hps : ∀ x D W vs,Tells x D W vs → vs.size = ps.size)
  (I : List α → (Nat → Prop) → World → Prop) (hI : AbD I) (hCk : ∀ pre D W,I pre D W → Ck W) (hIo : ∀ D,OwnFrom w.heap.size (fun s W=>I s D W)) (h0 : I [] (fun _=>False) w)
  (Ax : α → (Nat → Prop) → Array Value → Act → World → Prop) (hAx : ∀ x D vs a',OwnFrom w.heap.size (fun (_ : Unit) W=>Ax x D vs a' W))
  (hassign : ∀ (l : Nat) (pre : List α) (x : α) (D : Nat → Prop) (W : World) (vs : Array Value) (K : Act → World → Prop),I pre D W → (∀ k,D k → w.heap.size ≤ k ∧ k < W.heap.size) → Tells x D W vs →
   (∀ a' W',KeepsFrom w.heap.size W W' → KD n0 D W W' → I pre D W' → Ax x D vs a' W' → K a' W') →
   assign.wpIn (F.inRound l) (n - 1 - 1) P (Exit.then K (fun _ _ _=>False)) { tmps:=(ps.zip vs).foldl (fun t (p,v)=>t.setIfInBounds p v) a.tmps,defers:=[] } W)
  (hbody : ∀ (l : Nat) (pre : List α) (x : α) (rest : List α) (D : Nat → Prop) (vs : Array Value) (a' : Act) (W : World),ys = pre ++ x :: rest → w.heap.size ≤ l → I pre D W → (∀ k,D k → w.heap.size ≤ k ∧ k < W.heap.size) → Ax x D vs a' W →
   body.wpIn (F.inRound l) (n - 1 - 1) P (fun e _ W3=>e = .normal ∧ KeepsFrom w.heap.size W W3 ∧ KD n0 D W W3 ∧ I (pre ++ [x]) D W3) a' W)
  (hdone : ∀ (D : Nat) (D1 : Nat → Prop) (W : World),w.heap.size ≤ D → I ys D1 W → W.heap[D]? = some (.deferred (some [])) → Q .normal { a with defers:={ target:=.collected D,args:=#[] } :: a.defers } W) :
  (Code.rangeFunc g ps assign body).wpIn F n P Q a w:=by
 refine wpIn_rangeFunc fun fn hfn=>?_
 rw [hro]
 let L : LoopState → Loop:=fun st=>{ state:=st,pending:=none,fn,tmps:=a.tmps,params:=ps,assign,body,defers:=w.heap.size }
 let W1:=(w.alloc (.deferred (some []))).alloc (.loop (L .ready))
 have hL1 : W1.heap[w.heap.size + 1]? = some (.loop (L .ready)):=by
  have:=World.alloc_heap_new (w.alloc (.deferred (some []))) (.loop (L .ready));rwa [World.size_alloc] at this
 have hD1 : W1.heap[w.heap.size]? = some (.deferred (some [])):=(Below.heap_alloc _ _ _ (by simp)).trans (World.alloc_heap_new w _)
 have hb1 : Below w0.heap.size w0 W1:=hb0.trans ((((Below.refl _ w).alloc (Nat.le_refl _) _).alloc (by simp) _).mono hb0.size)
 have hs1 : W1.heap.size = w.heap.size + 2:=by simp [W1]
 refine ⟨w.heap.size + 1,[{ target:=.collected w.heap.size,args:=#[] }],W1,{ target:=.fn (.func gf) lb,args:=#[.func (.yield (w.heap.size + 1)) #[] #[]] },W1,gf,
  #[.func (.yield (w.heap.size + 1)) #[] #[]] ++ lb,W1,run_enterLoop_outer _ _ _ _ _,?_,?_,?_,fun _=>h1,?_⟩
 ·simp only [resolve,hg]
  simp [go_sem]
 ·intro f' hf';simp [Target.leads] at hf';subst hf';exact hFg
 ·simp [invoke,go_sem,eg]
 ·refine (hseq (w.heap.size + 1) (fun pre D W=>I pre D W ∧ W.heap[w.heap.size + 1]? = some (.loop (L .ready)) ∧ W.heap[w.heap.size]? = some (.deferred (some [])) ∧ ¬ D (w.heap.size + 1) ∧ ¬ D w.heap.size) W1 hb1 ?_ (fun pre D W h=>hCk pre D W h.1) ?_ ⟨(hIo _).alloc _ ((hIo _).alloc _ h0),hL1,hD1,id,id⟩).mono ?_
  ·rintro s D D' A B ⟨hi,hl,hk,hd1,hd2⟩ hbt hD'
   have hl1:=(Array.getElem?_eq_some_iff.1 hl).1
   have hl2:=(Array.getElem?_eq_some_iff.1 hk).1
   refine ⟨hI s D D' A B hi hbt hD',(hbt.block _ hl1 hd1).trans hl,(hbt.block _ hl2 hd2).trans hk,fun h=>?_,fun h=>?_⟩
   ·rcases hD' _ h with h | h
    ·exact hd1 h
    ·omega
   ·rcases hD' _ h with h | h
    ·exact hd2 h
    ·omega
  ·rintro pre x rest D W vs hys ⟨hi,hl,hk,hd1,hd2⟩ hDl hT
   have hDl' : ∀ k,D k → w.heap.size ≤ k ∧ k < W.heap.size:=fun k hk=>⟨by have:=(hDl k hk).1;omega,(hDl k hk).2⟩
   have hy:=run_yield (P:=P) (args:=vs) hl (hps x D W vs hT)
   refine ⟨fn,_,assign,body,hy,roundIn_of_wpIn hfn (hassign _ pre x D W vs _ hi hDl' hT ?_)⟩
   intro a' V hkf hkp hiV hax
   have hlV:=hkf.same _ _ (by omega) hl rfl
   have hkV:=hkf.same _ _ (Nat.le_refl _) hk rfl
   have hltV : w.heap.size + 1 < V.heap.size:=(Array.getElem?_eq_some_iff.1 hlV).1
   refine ⟨_,run_beginRound hlV rfl,?_⟩
   have hl2 : (V.putObj (w.heap.size + 1) (.loop (L .busy))).heap[w.heap.size + 1]? = some (.loop (L .busy)):=World.putObj_heap_same hltV
   have hk2 : (V.putObj (w.heap.size + 1) (.loop (L .busy))).heap[w.heap.size]? = some (.deferred (some [])):=(World.putObj_heap_other (by omega)).trans hkV
   have hDv : ∀ k,D k → w.heap.size ≤ k ∧ k < (V.putObj (w.heap.size + 1) (.loop (L .busy))).heap.size:=fun k hk=>⟨(hDl' k hk).1,by
    have h1:=(hDl' k hk).2
    have h2:=hkp.1.size
    have h3:=(grownBy_putObj' V (w.heap.size + 1) (.loop (L .busy))).size
    omega⟩
   refine wpIn_mono (hbody _ pre x rest D vs a' _ hys (by omega) ((hIo D).putObj _ hiV (by omega) hlV rfl) hDv ((hAx x D vs a').putObj (s:=()) _ hax (by omega) hlV rfl)) ?_
   rintro e a3 W3 ⟨rfl,hk3,hkp3,hi3⟩
   have hl3:=hk3.same _ _ (by omega) hl2 rfl
   have hd3:=hk3.same _ _ (Nat.le_refl _) hk2 rfl
   refine ⟨_,_,run_endRound (P:=P) none hl3,rfl,⟨(hIo D).putObj _ hi3 (by omega) hl3 rfl,World.putObj_heap_same (Array.getElem?_eq_some_iff.1 hl3).1,(World.putObj_heap_other (by omega)).trans hd3,hd1,hd2⟩,
    hkp.trans (((KD.put _ _ (by omega) hd1 hlV).trans hkp3).trans (KD.put _ _ (by omega) hd1 hl3))⟩
  ·rintro e W2 ⟨⟨v,rfl⟩,D,hi,hl,hk,_⟩
   exact ⟨none,_,run_endLoop (P:=P) hl (by simp [L]),hdone _ D _ (Nat.le_refl _) ((hIo D).putObj _ hi (by omega) hl rfl) ((World.putObj_heap_other (by omega)).trans hk)⟩
end
end Go.Proofs.Ythadnhpkeljdoaa.sx
namespace Go.Proofs.Ythadnhpkeljdoaa.pr
open Go.RowKit Go.Shelf sx
theorem Below.next {B : Nat} {w a b : World} (h : Below B w a) (k : Below a.heap.size a b) (hB : B ≤ w.heap.size) : Below B w b:=h.trans (k.mono (Nat.le_trans hB h.size))
end Go.Proofs.Ythadnhpkeljdoaa.pr
