/- Ground of the law: PvE, NdRef1, PrRef, LxCut, NdRows. -/
import Derived.Test.YthadnhpkeljdoaaQh04
import Derived.Test.YthadnhpkeljdoaaQh01
import Derived.IntWalk
import Derived.Test.YthadnhpkeljdoaaQh05
import Derived.Lib.AppendZeros
import Derived.Lib.SliceRun
import Derived.Laws.AppendOwnNone
import Derived.Maps.AppendAt
set_option maxRecDepth 100000
set_option maxHeartbeats 8000000
set_option linter.unusedVariables false
set_option linter.unusedSimpArgs false
namespace Go.Proofs.Ythadnhpkeljdoaa.pv
open Go.RowKit
section
variable {P : Program} {ty : Tys} {n : Nat} {G : Gh} {m : Mem} {a : Act} {w : World} {o : Oper} {id : Nat}
theorem Sim.box (h : Sim n G m a w) {b g k i : Nat} {t : TypeId} (hb : G.box b = some (g,t,k)) (hl : there (look m (b + 2) i) = true) : i < k ∧ ∃ x,w.cell? ⟨g,i,none⟩ = some x ∧ RepC G w x (look m (b + 2) i):=by
  obtain ⟨_,vs,hv,hs⟩:=h.ok.box b g t k hb
  have hi : i < k:=Nat.lt_of_not_le fun hle=>by rw [h.cells.out b i (fun g' t' k' e=>by rw [hb] at e;cases e;exact hle)] at hl;cases hl
  have hc : w.cell? ⟨g,i,none⟩ = some (vs[i]'(by omega)):=by rw [hv.cell];exact Array.getElem?_eq_getElem (by omega)
  exact ⟨hi,_,hc,h.cells.val b g t k hb i _ hc⟩
theorem run_cells {g off k : Nat} {l : List D} (hl : l.length = k) (hc : ∀ i d,l[i]? = some d → ∃ x,w.cell? ⟨g,off + i,none⟩ = some x ∧ RepC G w x d) :
    ∃ vs : Array Value,(loadCells ⟨g,off,none⟩ k).run P w = .ok vs w ∧ vs.size = l.length ∧ ∀ (i : Nat) (x : Value) (d : D),vs[i]? = some x → l[i]? = some d → RepC G w x d:=by
  have ex : ∀ i : Fin l.length,∃ x,w.cell? ⟨g,off + i,none⟩ = some x ∧ RepC G w x (l[i.1]'i.2):=fun i=>hc i _ (List.getElem?_eq_getElem i.2)
  have hf : ∃ f : Nat → Value,∀ (i : Nat) (hi : i < l.length),w.cell? ⟨g,off + i,none⟩ = some (f i) ∧ RepC G w (f i) (l[i]'hi) :=
    ⟨fun i=>if hi : i < l.length then Classical.choose (ex ⟨i,hi⟩) else undef,fun i hi=>by
      simp only [dif_pos hi]
      exact Classical.choose_spec (ex ⟨i,hi⟩)⟩
  obtain ⟨f,hf⟩:=hf
  refine ⟨((List.range k).map f).toArray,run_loadCells w ⟨g,off,none⟩ k f (fun j hj=>by rw [Addr.add_lit];exact (hf j (by omega)).1),by simp [hl],fun i x d hi hd=>?_⟩
  have hk : i < k:=by
    have:=(Array.getElem?_eq_some_iff.1 hi).1
    simpa using this
  have e : x = f i:=by
    rw [List.getElem?_toArray,List.getElem?_map,List.getElem?_range hk] at hi
    simpa using hi.symm
  have e2 : d = l[i]'(by omega):=by
    rw [List.getElem?_eq_getElem (by omega)] at hd
    simpa using hd.symm
  rw [e,e2]
  exact (hf i (by omega)).2
theorem run_loadVar_agg {t : TypeId} {y : Ty} {ad : Addr} {vs : Array Value} (hy : TyOk P t y) {fs : List (Nat × TypeId)} (hk : y.kd = .st fs) (hr : (loadCells ad y.size).run P w = .ok vs w) : (loadVar t ad).run P w = .ok (.agg vs) w:=by
  simp [loadVar,hy.isAgg_st hk,hy.size,hr]
theorem run_loadVar_one {t : TypeId} {y : Ty} {ad : Addr} {v : Value} (hy : TyOk P t y) (hn : y.kd ≠ .no) (hk : ∀ fs,y.kd ≠ .st fs) (hc : w.cell? ad = some v) : (loadVar t ad).run P w = .ok v w:=by
  simp [loadVar,hy.isAgg_one hn hk,hc]
theorem run_load_op {t : TypeId} {x : Operand} {ad : Addr} {v : Value} (ho : o.op = .load t x) (hx : a.eval x = .pointer (some ad)) (hr : (loadVar t ad).run P w = .ok v w) : (execOp a.eval o).run P w = .ok (.value v) w:=by
  simp [execOp,ho,hx,Instr.loadAt,Instr.sureAddr,hr]
theorem load_run {t : TypeId} {y : Ty} {u : Value} {q : D} (h : Sim n G m a w) (hy : TyOk P t y) (hx : Rep G w u q) {d : D} (hd : dLoad m y q = .val d) : ∃ ad v,u = .pointer (some ad) ∧ (loadVar t ad).run P w = .ok v w ∧ Rep G w v d:=by
  unfold dLoad at hd
  split at hd
  · rename_i b off
    obtain ⟨g,k,ty,e1,hb⟩:=rep_ptr hx
    split at hd
    · rename_i fs hk
      cases ht : (cr m b off y.size).all there with
      | false=>rw [ht] at hd;cases hd
      | true =>
        rw [ht] at hd
        cases hd
        obtain ⟨c1,c2⟩:=cr_spec m b off y.size
        obtain ⟨vs,r1,r2,r3⟩:=run_cells (P:=P) (G:=G) (w:=w) (g:=g) (off:=off) c1 (fun i d hi=>by
          have hi' : i < y.size:=by have:=(List.getElem?_eq_some_iff.1 hi).1;omega
          rw [c2 i hi'] at hi
          cases hi
          have hm : look m (b + 2) (off + i) ∈ cr m b off y.size:=List.mem_of_getElem? (c2 i hi')
          obtain ⟨_,x,h1,h2⟩:=h.box hb (i:=off + i) (List.all_eq_true.1 ht _ hm)
          exact ⟨x,h1,h2⟩)
        exact ⟨_,_,e1,(run_loadVar_agg hy hk r1),(.v (.agg _ _ r2 r3))⟩
    · cases hd
    · rename_i h1 h2
      cases ht : there (look m (b + 2) off) with
      | false=>rw [ht] at hd;cases hd
      | true =>
        rw [ht] at hd
        cases hd
        obtain ⟨_,v,h3,h4⟩:=h.box hb ht
        exact ⟨_,_,e1,(run_loadVar_one hy (fun e=>h2 e) (fun fs e=>h1 fs e) h3),(.v (.c h4))⟩
  · rename_i l off
    obtain ⟨g,q,xs,e1,hc,hr⟩:=rep_el hx
    split at hd
    · rename_i fs hk
      split at hd
      · rename_i r hp
        cases hd
        obtain ⟨c1,c2⟩:=part_spec hp
        obtain ⟨vs,r1,r2,r3⟩:=run_cells (P:=P) (G:=G) (w:=w) (g:=g) (off:=q + off) c1 (fun i d hi=>by
          have hi' : i < y.size:=by have:=(List.getElem?_eq_some_iff.1 hi).1;omega
          rw [(c2 i hi').1] at hi
          exact ⟨xs (off + i),by rw [Nat.add_assoc];exact (hc _ _ hi).1,hr _ _ hi⟩)
        exact ⟨_,_,e1,(run_loadVar_agg hy hk r1),(.v (.agg _ _ r2 r3))⟩
      · cases hd
    · cases hd
    · rename_i h1 h2
      split at hd
      · rename_i d' hp
        cases hd
        exact ⟨_,_,e1,(run_loadVar_one hy (fun e=>h2 e) (fun fs e=>h1 fs e) (hc _ _ hp).1),(.v (.c (hr _ _ hp)))⟩
      · cases hd
  · cases hd
theorem ok_load {t : TypeId} {x : Operand} {y : Ty} (h : Sim n G m a w) (hy : TyOk P t y) (ho : o.op = .load t x) {d : D} (hd : dLoad m y (ev m x) = .val d) : OpOk P o G a w id d []:=by
  obtain ⟨ad,v,h1,h2,h3⟩:=load_run h hy (h.ev x) hd
  exact .pure h.ok (run_load_op ho h1 h2) h3
theorem fieldOf_spec (hT : TysOk P ty) : ∀ {fs : List (Nat × TypeId)} {f q : Nat} {z : Ty},fieldOf ty fs f = some (q,z) → ∃ t,fs[f]? = some (q,t) ∧ TyOk P t z
  | (o,t) :: r,0,q,z,h=>by
    unfold fieldOf at h
    split at h
    · rename_i y hy
      cases h
      exact ⟨t,rfl,hT t _ hy⟩
    · cases h
  | (o,t) :: r,f + 1,q,z,h=>by
    obtain ⟨t',h1,h2⟩:=fieldOf_spec hT (fs:=r) (f:=f) (by simpa [fieldOf] using h)
    exact ⟨t',by simpa using h1,h2⟩
theorem field_get {t : TypeId} {fs : List (Nat × TypeId)} (hk : KdOk P t (.st fs)) {f q : Nat} {u : TypeId} (hf : fs[f]? = some (q,u)) : ∃ (A : Array Field) (F : Field),P.underlying t = some (.struct A) ∧ A[f]? = some F ∧ F.offset = q ∧ F.type = u:=by
  obtain ⟨A,h1,rfl⟩:=hk
  rw [List.getElem?_map,Array.getElem?_toList] at hf
  cases hA : A[f]? with
  | none=>rw [hA] at hf;cases hf
  | some F=>rw [hA] at hf;cases hf;exact ⟨A,F,h1,hA,rfl,rfl⟩
theorem ok_fieldAddr (hT : TysOk P ty) {t : TypeId} {x : Operand} {y : Ty} {f : Nat} (h : Sim n G m a w) (hy : TyOk P t y) (ho : o.op = .fieldAddr t x f) {d : D} (hd : dFieldAddr ty y f (ev m x) = .val d) : OpOk P o G a w id d []:=by
  have hx:=h.ev x
  unfold dFieldAddr at hd
  split at hd
  · rename_i fs hk
    split at hd
    · rename_i q z hf
      obtain ⟨u,hu,hz⟩:=fieldOf_spec hT hf
      obtain ⟨A,F,k1,k2,k3,k4⟩:=field_get (hk ▸ hy.kd) hu
      cases hs : z.size.beq 0 with
      | true=>rw [hs] at hd;cases hd
      | false =>
        rw [hs] at hd
        have hs' : z.size ≠ 0:=fun e=>by rw [e] at hs;cases hs
        have run : ∀ (g off : Nat),a.eval x = .pointer (some ⟨g,off,none⟩) → (execOp a.eval o).run P w = .ok (.value (.pointer (some ⟨g,off + q,none⟩))) w:=fun g off e=>by
          have hz':=hz.size w
          rw [← k4] at hz'
          simp [execOp,ho,e,Instr.fieldAt,run_underlying k1,k2,Instr.sureAddr,fieldPlace,hz',hs',Addr.add_lit,k3]
        simp only [cond_false] at hd
        split at hd
        · rename_i b off e
          cases hd
          rw [e] at hx
          obtain ⟨g,k,ty',e1,hb⟩:=rep_ptr hx
          exact .pure h.ok (run g off e1) (.ptr b (off + q) g k ty' hb)
        · rename_i l off e
          cases hd
          rw [e] at hx
          obtain ⟨g,q',xs,e1,hc,hr⟩:=rep_el hx
          exact .pure h.ok (run g _ e1) (by rw [Nat.add_assoc];exact .el g q' l (off + q) xs hc hr)
        · cases hd
    · cases hd
  · cases hd
theorem ok_field (hT : TysOk P ty) {t : TypeId} {x : Operand} {y : Ty} {f : Nat} (h : Sim n G m a w) (hy : TyOk P t y) (ho : o.op = .field t x f) {d : D} (hd : dField ty y f (ev m x) = .val d) : OpOk P o G a w id d []:=by
  have hx:=h.ev x
  unfold dField at hd
  split at hd
  · rename_i fs l hk e
    rw [e] at hx
    obtain ⟨vs,e1,hs,hr⟩:=rep_agg hx
    split at hd
    · rename_i q z hf
      obtain ⟨u,hu,hz⟩:=fieldOf_spec hT hf
      obtain ⟨A,F,k1,k2,k3,k4⟩:=field_get (hk ▸ hy.kd) hu
      have hz':=hz.size w
      rw [← k4] at hz'
      rw [← k4] at hz
      split at hd
      · rename_i fs' hk'
        split at hd
        · rename_i r hp
          cases hd
          obtain ⟨c1,c2⟩:=part_spec hp
          have ha:=hz.isAgg_st hk' w
          refine .pure h.ok (v:=.agg (vs.extract q (q + z.size))) (by simp [execOp,ho,e1,Instr.field,run_underlying k1,k2,asAgg,Go.part,ha,hz',k3]) (.v (.agg _ _ ?_ fun i x d hi hd=>?_))
          · rw [c1,Array.size_extract]
            by_cases h0 : z.size = 0
            · omega
            · have:=(c2 (z.size - 1) (by omega)).2
              obtain ⟨d,hd⟩:=Option.isSome_iff_exists.1 this
              have:=(List.getElem?_eq_some_iff.1 hd).1
              omega
          · have hi' : i < z.size:=by have:=(List.getElem?_eq_some_iff.1 hd).1;omega
            rw [(c2 i hi').1] at hd
            refine hr (q + i) x d ?_ hd
            rw [← hi,Array.getElem?_extract]
            have:=(List.getElem?_eq_some_iff.1 hd).1
            rw [if_pos (by omega)]
        · cases hd
      · cases hd
      · rename_i h1 h2
        split at hd
        · rename_i d' hp
          cases hd
          have ha:=hz.isAgg_one (fun e=>h2 e) (fun fs e=>h1 fs e) w
          have hlt:=(List.getElem?_eq_some_iff.1 hp).1
          have hv : vs[q]? = some (vs[q]'(by omega)):=Array.getElem?_eq_getElem (by omega)
          refine .pure h.ok (v:=vs[q]'(by omega)) (by simp [execOp,ho,e1,Instr.field,run_underlying k1,k2,asAgg,Go.part,ha,k3,hv]) (.v (.c (hr q _ _ hv hp)))
        · cases hd
    · cases hd
  · cases hd
theorem ok_extract {x : Operand} {i : Nat} {l : List D} (h : Sim n G m a w) (ho : o.op = .extract x i) (he : ev m x = .tup l) {d : D} (hd : l[i]? = some d) : OpOk P o G a w id d []:=by
  have hx:=h.ev x
  rw [he] at hx
  obtain ⟨vs,e1,hs,hr⟩:=rep_tup hx
  have hlt:=(List.getElem?_eq_some_iff.1 hd).1
  have hv : vs[i]? = some (vs[i]'(by omega)):=Array.getElem?_eq_getElem (by omega)
  exact .pure h.ok (v:=vs[i]'(by omega)) (by simp [execOp,ho,e1,Instr.extract,hv]) (.v (hr i _ _ hv hd))
theorem ok_v {v : Value} (h : Sim n G m a w) (h1 : v.oneCell' = true) (hr : (execOp a.eval o).run P w = .ok (.value v) w) : OpOk P o G a w id (.v v) []:=.pure h.ok hr (.v (.c (.v _ h1)))
theorem ok_neg {x : Operand} {t : TypeId} {k : IntKind} {i : Int} (h : Sim n G m a w) (ho : o.op = .unOp .neg t x) (he : ev m x = .v (.int k i)) : OpOk P o G a w id (.v (.int k (k.wrap (0 - i)))) []:=by
  have hx:=h.ev x
  rw [he] at hx
  obtain ⟨e,_⟩:=rep_v hx
  exact ok_v h rfl (by simp [execOp,ho,e,Op.unary,Op.intArith])
theorem ok_not {x : Operand} {t : TypeId} {b : Bool} (h : Sim n G m a w) (ho : o.op = .unOp .not t x) (he : ev m x = .v (.bool b)) : OpOk P o G a w id (.v (.bool (!b))) []:=by
  have hx:=h.ev x
  rw [he] at hx
  obtain ⟨e,_⟩:=rep_v hx
  exact ok_v h rfl (by simp [execOp,ho,e,Op.unary])
theorem ok_convert {x : Operand} {s t : TypeId} {y : Ty} {k k' : IntKind} {i : Int} (h : Sim n G m a w) (hy : TyOk P t y) (ho : o.op = .convert s t x) (hk : y.kd = .int k) (he : ev m x = .v (.int k' i)) (hs : ∃ d,P.underlying s = some d) : OpOk P o G a w id (.v (.int k (k.wrap i))) []:=by
  have hx:=h.ev x
  rw [he] at hx
  obtain ⟨e,_⟩:=rep_v hx
  have hu:=hy.kd
  rw [hk] at hu
  obtain ⟨d,hs⟩:=hs
  exact ok_v h rfl (by simp [execOp,ho,e,convert,run_underlying hs,run_underlying (show P.underlying t = some (.int k) from hu),Conv.intToInt])
theorem ok_index {x i : Operand} {t : TypeId} {y : Ty} {s : ByteArray} {k : IntKind} {j : Int} (h : Sim n G m a w) (hy : TyOk P t y) (ho : o.op = .index t x i) (hk : y.kd = .str) (he : ev m x = .v (.string s)) (hi : ev m i = .v (.int k j)) (hp : 0 ≤ j ∧ j < s.size) : OpOk P o G a w id (.v (.int .u8 ((s.data.toList.getD j.toNat 0).toNat : Int))) []:=by
  have hx:=h.ev x;have hj:=h.ev i
  rw [he] at hx;rw [hi] at hj
  obtain ⟨e,_⟩:=rep_v hx;obtain ⟨e2,_⟩:=rep_v hj
  have hu:=hy.kd
  rw [hk] at hu
  have hlt : j.toNat < s.size:=by omega
  have hg : s[j.toNat]? = some (s[j.toNat]'hlt):=getElem?_pos s j.toNat hlt
  have hd : s.data.toList.getD j.toNat 0 = s[j.toNat]'hlt:=by
    rw [List.getD_eq_getElem?_getD,Array.getElem?_toList,Array.getElem?_eq_getElem (by simpa using hlt)];rfl
  refine ok_v h rfl ?_
  rw [hd]
  simp [execOp,ho,e,e2,Instr.index,run_underlying (show P.underlying t = some .string from hu),asIntOf,hp.1,hg]
theorem ok_len_s {x : Operand} {t : TypeId} {y : Ty} {s : ByteArray} {c : Call} (h : Sim n G m a w) (hy : TyOk P t y) (hk : y.kd = .str) (ho : o.op = .call c) (hc : c.callee = .builtin .len) (ha : c.args.toList = [x]) (ht : c.argTypes.toList = [t]) (he : ev m x = .v (.string s)) : OpOk P o G a w id (.v (.int .i64 s.size)) []:=by
  have hx:=h.ev x
  rw [he] at hx
  obtain ⟨e,_⟩:=rep_v hx
  have hu:=hy.kd
  rw [hk] at hu
  have ha' : c.args = #[x]:=by rw [← Array.toArray_toList (xs:=c.args),ha]
  have ht' : c.argTypes = #[t]:=by rw [← Array.toArray_toList (xs:=c.argTypes),ht]
  exact ok_v h rfl (by simp [execOp,ho,resolve,hc,ha',ht',invoke,builtin,Builtin.len_,e,run_underlying (show P.underlying t = some .string from hu),goInt])
theorem ok_len_l {x : Operand} {t e : TypeId} {y : Ty} {k : Tk} {es : List (List D)} {c : Call} (h : Sim n G m a w) (hy : TyOk P t y) (hk : y.kd = .sl e) (ho : o.op = .call c) (hc : c.callee = .builtin .len) (ha : c.args.toList = [x]) (ht : c.argTypes.toList = [t]) (he : ev m x = .sl k es) : OpOk P o G a w id (.v (.int .i64 es.length)) []:=by
  have hx:=h.ev x
  rw [he] at hx
  obtain ⟨b,cap,e',_⟩:=rep_sl hx
  have hu:=hy.kd
  rw [hk] at hu
  have ha' : c.args = #[x]:=by rw [← Array.toArray_toList (xs:=c.args),ha]
  have ht' : c.argTypes = #[t]:=by rw [← Array.toArray_toList (xs:=c.argTypes),ht]
  exact ok_v h rfl (by simp [execOp,ho,resolve,hc,ha',ht',invoke,builtin,Builtin.len_,e',run_underlying (show P.underlying t = some (.slice e) from hu),goInt])
theorem ok_min {x z : Operand} {k k' : IntKind} {i j : Int} {c : Call} (h : Sim n G m a w) (ho : o.op = .call c) (hc : c.callee = .builtin .min) (ha : c.args.toList = [x,z]) (he : ev m x = .v (.int k i)) (hf : ev m z = .v (.int k' j)) : OpOk P o G a w id (.v (.int k (if j < i then j else i))) []:=by
  have hx:=h.ev x;have hz:=h.ev z
  rw [he] at hx;rw [hf] at hz
  obtain ⟨e,_⟩:=rep_v hx;obtain ⟨e2,_⟩:=rep_v hz
  have ha' : c.args = #[x,z]:=by rw [← Array.toArray_toList (xs:=c.args),ha]
  exact ok_v h rfl (by simp [execOp,ho,resolve,hc,ha',invoke,builtin,Builtin.min_,e,e2,List.foldlM,Builtin.min2])
theorem ok_max {x z : Operand} {k k' : IntKind} {i j : Int} {c : Call} (h : Sim n G m a w) (ho : o.op = .call c) (hc : c.callee = .builtin .max) (ha : c.args.toList = [x,z]) (he : ev m x = .v (.int k i)) (hf : ev m z = .v (.int k' j)) : OpOk P o G a w id (.v (.int k (if i < j then j else i))) []:=by
  have hx:=h.ev x;have hz:=h.ev z
  rw [he] at hx;rw [hf] at hz
  obtain ⟨e,_⟩:=rep_v hx;obtain ⟨e2,_⟩:=rep_v hz
  have ha' : c.args = #[x,z]:=by rw [← Array.toArray_toList (xs:=c.args),ha]
  exact ok_v h rfl (by simp [execOp,ho,resolve,hc,ha',invoke,builtin,Builtin.max_,e,e2,List.foldlM,Builtin.max2])
end
end Go.Proofs.Ythadnhpkeljdoaa.pv
namespace Go.Proofs.Ythadnhpkeljdoaa.nd
open Go.Lib (hid)
open Go.RowKit sx ed
def RSameOk (x : Nd) : Prop:=∀ (y : Nd) (w : World) (u v : Value),NdAt (Lt w.heap.size) w x u → NdAt (Lt w.heap.size) w y v →
  Calls Try.prog 15 #[u,v] w fun e w'=>e = .returned (.bool (x.same y)) ∧ Below w.heap.size w w'
theorem rsame_ok (x : Nd) : RSameOk x:=by
  refine Nd.induct (p:=RSameOk) (fun x hp y w u v hu hv=>?_) x
  obtain ⟨s,rfl,hs⟩:=hu
  obtain ⟨s2,rfl,hs2⟩:=hv
  obtain ⟨ao,cap,rfl,hm⟩:=hs.slice
  obtain ⟨ao2,cap2,rfl,hm2⟩:=hs2.slice
  obtain ⟨k,t,f⟩:=x
  obtain ⟨k2,t2,g⟩:=y
  dsimp only at hs hs2 hm hm2 hp ⊢
  unfold maxLen at hm hm2
  have hq : Nd.same ⟨k,t,f⟩ ⟨k2,t2,g⟩ = (k == k2 && (t.toList == t2.toList) && f.same g):=rfl
  obtain ⟨W0,hW0⟩ : ∃ W0,((w.alloc (.cells #[.int .i64 k,.string t,.slice ao f.len cap] 25)).alloc (.cells #[.int .i64 k2,.string t2,.slice ao2 g.len cap2] 25)) = W0:=⟨_,rfl⟩
  have hb0 : Below w.heap.size w W0:=by rw [← hW0];exact ((Below.refl _ w).alloc (Nat.le_refl _) _).alloc (by simp) _
  have hk1 : Blk W0 w.heap.size 25 #[.int .i64 k,.string t,.slice ao f.len cap]:=by rw [← hW0];exact (Blk.new w _ _).alloc _
  have hk2 : Blk W0 (w.heap.size + 1) 25 #[.int .i64 k2,.string t2,.slice ao2 g.len cap2]:=by
    rw [← hW0]
    have:=Blk.new (w.alloc (.cells #[.int .i64 k,.string t,.slice ao f.len cap] 25)) 25 #[.int .i64 k2,.string t2,.slice ao2 g.len cap2]
    simpa using this
  have hsz : W0.heap.size = w.heap.size + 2:=by rw [← hW0];simp
  obtain ⟨b,hb⟩ : ∃ b,Nd.same ⟨k,t,f⟩ ⟨k2,t2,g⟩ = b:=⟨_,rfl⟩
  rw [hb] at hq ⊢
  have a0:=hk1.cell 0;have a1:=hk1.cell 1;have a2:=hk1.cell 2
  have b0:=hk2.cell 0;have b1:=hk2.cell 1;have b2:=hk2.cell 2
  by_cases h1 : k = k2
  · subst h1
    by_cases h2 : t = t2
    · subst h2
      by_cases hl : f.len = g.len
      · obtain ⟨m,hmm⟩ : ∃ m,g.len = m:=⟨_,rfl⟩
        have hmx:=hl.trans hmm
        have hqq : b = f.same g:=by rw [hq];simp
        rw [hmm] at hm2 hs2 hW0 hk2 b2 ⊢
        rw [hmx] at hm hs hW0 hk1 a2 ⊢
        have HF:=hid (hs.below hb0 (Nat.le_refl _));have HG:=hid (hs2.below hb0 (Nat.le_refl _));have HL:=hid hmx;have HL2:=hid hmm;have HB:=hid hqq;have HP:=hid hp;have HB0:=hid hb0
        have HSZ:=hid hsz;have HK1:=hid hk1;have HK2:=hid hk2
        have HW0:=hid hW0
        clear hs hs2 hq hb hl hmm hmx hqq hp hb0 hk1 hk2 a0 a1 a2 b0 b1 b2 hsz hW0
        go_enter Try.func15,Try.ntmps15
        go_wp2_with fail
        rw [HW0.out]
        go_loopw [5] (fun i wr=>∃ k : Nat,k ≤ m ∧ i = .int .i64 (k : Int) ∧ (∀ j x y,j < k → f.get? j = some x → g.get? j = some y → x.same y = true) ∧ Below W0.heap.size W0 wr) (fun i _=>m - (intOf i).toNat)
        case atStart=>exact ⟨0,Nat.zero_le _,rfl,fun j x y h=>absurd h (Nat.not_lt_zero _),Below.refl _ _⟩
        case round =>
          obtain ⟨j,hj,rfl,heq,hbw⟩:=hrel
          have a2:=(HK1.out.own hbw).cell 2
          have b2:=(HK2.out.own hbw).cell 2
          have HEQ:=hid heq
          clear heq
          by_cases hlt : j < m
          · obtain ⟨x,hx⟩:=Fo.get_of_lt (f:=f) (i:=j) (by rw [HL.out];exact hlt)
            obtain ⟨y,hy⟩:=Fo.get_of_lt (f:=g) (i:=j) (by rw [HL2.out];exact hlt)
            have hFw:=HF.out.toLt.below hbw (Nat.le_refl _)
            have hGw:=HG.out.toLt.below hbw (Nat.le_refl _)
            obtain ⟨g1,o1,ao1,cap1,rfl,_,hg1,d0,d1,d2,d3⟩:=hFw.get hx
            obtain ⟨g2,o2,ao2,cap2,rfl,_,hg2,e0,e1,e2,e3⟩:=hGw.get hy
            have hlt1 : (j : Int) < (m : Int):=by omega
            have hcall : ∀ W,Below wr.heap.size wr W → Calls Try.prog 15 #[.agg #[.int .i64 x.k,.string x.t,.slice ao1 x.kids.len cap1],.agg #[.int .i64 y.k,.string y.t,.slice ao2 y.kids.len cap2]] W fun e w'=>e = .returned (.bool (x.same y)) ∧ Below W.heap.size W w':=fun W hW =>
              HP.out.get hx y W _ _ ((NdAt.mk (d3.toLt.below hW (Nat.le_refl _))).mono hW.size) ((NdAt.mk (e3.toLt.below hW (Nat.le_refl _))).mono hW.size)
            obtain ⟨c,hc⟩ : ∃ c,x.same y = c:=⟨_,rfl⟩
            rw [hc] at hcall
            have HC:=hid hcall;have HS:=hid hc;have HX:=hid hx;have HY:=hid hy
            have HW:=hid hbw
            have i0:=fun y : In wr=>In.cell d0 y
            have i1:=fun y : In wr=>In.cell d1 y
            have i2:=fun y : In wr=>In.cell d2 y
            have i3:=fun y : In wr=>In.cell e0 y
            have i4:=fun y : In wr=>In.cell e1 y
            have i5:=fun y : In wr=>In.cell e2 y
            have i6:=fun y : In wr=>In.cell a2 y
            have i7:=fun y : In wr=>In.cell b2 y
            clear hcall hc hx hy d3 e3 hbw hFw hGw d0 d1 d2 e0 e1 e2
            cases c with
            | true =>
              go_wp2_with fail
              refine ed.wp_region_in (by kernel_rfl) (by kernel_rfl) ?_
              repeat (go_big_quiet_step (first | (go_at_call 15;refine ed.Calls.in_of (HC.out _ (In.h _)))))
              with_reducible refine wpQuiet_nil ?_
              rintro _ ⟨yy,rfl⟩
              go_wp2_with fail
              exact ⟨⟨j + 1,by omega,rfl,fun i x' y' hi h1 h2=>by
                by_cases hjk : i < j
                · exact HEQ.out i x' y' hjk h1 h2
                · obtain rfl : i = j:=by omega
                  rw [HX.out] at h1;rw [HY.out] at h2
                  cases h1;cases h2;exact HS.out,HW.out.trans (yy.h.mono HW.out.size)⟩,by simp [intOf];omega⟩
            | false =>
              obtain rfl : b = false:=by rw [HB.out];exact not_same HX.out HY.out HS.out
              go_wp2_with fail
              refine ed.wp_region_in (by kernel_rfl) (by kernel_rfl) ?_
              repeat (go_big_quiet_step (first | (go_at_call 15;refine ed.Calls.in_of (HC.out _ (In.h _)))))
              with_reducible refine wpQuiet_nil ?_
              rintro _ ⟨yy,rfl⟩
              go_wp2_with fail
              go_ret
              exact ⟨rfl,HB0.out.trans ((HW.out.trans (yy.h.mono HW.out.size)).mono HB0.out.size)⟩
          · obtain rfl : j = m:=by omega
            have hge : decide ((j : Int) < (j : Int)) = false:=by simp
            obtain rfl : b = true:=by
              rw [HB.out]
              exact same_of (by rw [HL.out,HL2.out]) fun i x y h1 h2=>HEQ.out i x y (by have:=Fo.get_lt h1;rw [HL.out] at this;exact this) h1 h2
            go_wp2_with fail
            go_ret
            exact ⟨rfl,HB0.out.trans (hbw.mono HB0.out.size)⟩
      · have hl1 : ((f.len : Int) == (g.len : Int)) = false:=beq_eq_false_iff_ne.2 (by omega)
        have hl2 : ((f.len : Int) != (g.len : Int)) = true:=by rw [bne,hl1];rfl
        obtain rfl : b = false:=by rw [hq,not_same_len hl];simp
        have HB:=hid hb0
        rw [← hW0] at HB
        clear hq hb hs hs2 hp hb0 hk1 hk2 a0 a1 a2 b0 b1 b2 hW0 hsz
        go_enter Try.func15,Try.ntmps15
        go_wp2_with fail
        go_ret
        exact ⟨rfl,HB.out⟩
    · have hf : (t.toList == t2.toList) = false:=beq_eq_false_iff_ne.2 (fun e=>h2 (bytes_inj e))
      have hf2 : (t.toList != t2.toList) = true:=by rw [bne,hf];rfl
      obtain rfl : b = false:=by rw [hq,hf];simp
      have HB:=hid hb0
      rw [← hW0] at HB
      clear hq hb hs hs2 hp hb0 hk1 hk2 a0 a1 a2 b0 b1 b2 hW0 h2 hsz
      go_enter Try.func15,Try.ntmps15
      go_wp2_with fail
      go_ret
      exact ⟨rfl,HB.out⟩
  · have hf : (k == k2) = false:=beq_eq_false_iff_ne.2 h1
    have hf2 : (k != k2) = true:=by rw [bne,hf];rfl
    obtain rfl : b = false:=by rw [hq,hf];simp
    have HB:=hid hb0
    rw [← hW0] at HB
    clear hq hb hs hs2 hp hb0 hk1 hk2 a0 a1 a2 b0 b1 b2 hW0 h1 hsz
    go_enter Try.func15,Try.ntmps15
    go_wp2_with fail
    go_ret
    exact ⟨rfl,HB.out⟩
end Go.Proofs.Ythadnhpkeljdoaa.nd
namespace Go.Proofs.Ythadnhpkeljdoaa.pr
open Go.Lib (hid)
open Go.RowKit Go.Shelf sx
def rowT (m : Nat) : List ByteArray:=(names opsP).drop (strt m) |>.take (cnt m)
theorem rowT_all : ∀ m,m < 9 → ∀ k,k < cnt m → (rowT m)[k]? = some (txt (strt m + k)):=by decide +kernel
theorem rowT_at {m k : Nat} (hm : m < 9) (hk : k < cnt m) : (rowT m)[k]? = some (txt (strt m + k)):=rowT_all m hm k hk
def rowV (N m : Nat) : Value:=.slice (some ⟨N + m,0,none⟩) (cnt m) (cnt m)
structure RowsAt (W : World) (N : Nat) : Prop where
  lt : N + 9 < W.heap.size
  top : Blk W (N + 9) 48 ((List.range 9).map (rowV N)).toArray
  row : ∀ m,m < 9 → Blk W (N + m) 9 (strs (rowT m)).toArray
theorem RowsAt.cell1 {W : World} {N m : Nat} (h : RowsAt W N) (hm : m < 9) : W.cell? ⟨N + 9,m,none⟩ = some (.slice (some ⟨N + m,0,none⟩) (cnt m) (cnt m)):=by
  rw [h.top.cell m]
  simp [hm,rowV]
theorem RowsAt.cell2 {W : World} {N m k : Nat} (h : RowsAt W N) (hm : m < 9) (hk : k < cnt m) : W.cell? ⟨N + m,k,none⟩ = some (.string (txt (strt m + k))):=by
  rw [(h.row m hm).cell k]
  have h1:=rowT_at hm hk
  simp only [strs,List.getElem?_toArray,List.getElem?_map,h1,Option.map_some]
def allocs (w : World) (os : List Obj) : World:=os.foldl World.alloc w
theorem allocs_at (w : World) (os : List Obj) : Below w.heap.size w (allocs w os) ∧ (allocs w os).heap.size = w.heap.size + os.length ∧ ∀ i,i < os.length → (allocs w os).heap[w.heap.size + i]? = os[i]?:=by
  induction os generalizing w with
  | nil=>exact ⟨Below.refl _ _,rfl,fun i hi=>absurd hi (by simp)⟩
  | cons o r ih =>
    obtain ⟨h1,h2,h3⟩:=ih (w.alloc o)
    have hs : (w.alloc o).heap.size = w.heap.size + 1:=by simp
    have hn : Below w.heap.size w (w.alloc o):=(Below.refl _ w).alloc (Nat.le_refl _) _
    refine ⟨hn.trans (h1.mono (by omega)),by show (allocs (w.alloc o) r).heap.size = _;rw [h2,hs];simp;omega,fun i hi=>?_⟩
    show (allocs (w.alloc o) r).heap[_]? = _
    cases i with
    | zero=>rw [h1.block _ (by omega)];simpa using World.alloc_heap_new w o
    | succ i =>
      have:=h3 i (by simpa using hi)
      rw [hs,Nat.add_right_comm,Nat.add_assoc] at this
      simpa using this
def rowsO (N : Nat) : List Obj:=((List.range 9).map fun m=>Obj.cells (strs (rowT m)).toArray 9) ++ [.cells ((List.range 9).map (rowV N)).toArray 48]
theorem rows_new (w : World) : RowsAt (allocs w (rowsO w.heap.size)) w.heap.size:=by
  obtain ⟨_,h2,h3⟩:=allocs_at w (rowsO w.heap.size)
  have hl : (rowsO w.heap.size).length = 10:=rfl
  refine ⟨by omega,(h3 9 (by omega)).trans rfl,fun m hm=>(h3 m (by omega)).trans ?_⟩
  unfold rowsO
  rw [List.getElem?_append_left (by simp;omega)]
  simp [hm]
theorem rows_calls (w : World) :
    Calls Try.prog 89 #[] w fun e w'=>e = .returned (.slice (some ⟨w.heap.size + 9,0,none⟩) 9 9) ∧ RowsAt w' w.heap.size ∧ Below w.heap.size w w':=by
  go_enter Try.func89,Try.ntmps89
  go_wp2_with fail
  go_ret
  refine ⟨rfl,?_⟩
  have h1:=rows_new w
  have h2:=(allocs_at w (rowsO w.heap.size)).1
  exact ⟨h1,h2⟩
theorem eq_list (a b : ByteArray) : (a.toList == b.toList) = decide (a = b):=by
  by_cases h : a = b
  · subst h;simp
  · rw [decide_eq_false h,beq_eq_false_iff_ne,Lib.toList_data,Lib.toList_data]
    intro e;exact h (ByteArray.ext (Array.ext' e))
theorem level_yes {m k : Nat} {s : ByteArray} (hm : m < 9) (hk : k < cnt m) (h : txt (strt m + k) = s) : levelOf s = (m : Int) + 1:=by
  have h1:=grade_of (List.mem_of_getElem? (ops_at hm hk))
  simp only [h] at h1
  unfold levelOf
  rw [h1];rfl
theorem txt_all : ∀ j,j < 24 → (opsP[j]?).map (·.1) = some (txt j):=ops_txt
theorem level_no {s : ByteArray} (h : ∀ j,j < 24 → txt j ≠ s) : levelOf s = 0:=by
  unfold levelOf
  cases hg : gradeOf s with
  | none=>rfl
  | some p =>
    exfalso
    obtain ⟨j,hj,e⟩:=List.mem_iff_getElem.1 (grade_mem hg)
    have h1:=txt_all j (by rw [← ops_len];exact hj)
    rw [List.getElem?_eq_getElem hj,e] at h1
    simp only [Option.map_some,Option.some.injEq] at h1
    exact h j (by rw [← ops_len];exact hj) h1.symm
theorem rlevel_calls (s : ByteArray) (w : World) :
    Calls Try.prog 81 #[.string s] w fun e w'=>e = .returned (.int .i64 (levelOf s)) ∧ Below w.heap.size w w':=by
  have HR:=hid (rows_calls w)
  go_enter Try.func81,Try.ntmps81
  go_wp2_with fail
  ((with_reducible refine HR.out.mono ?_);rintro e w1 ⟨rfl,hR,hb1⟩)
  obtain ⟨N,hN⟩ : ∃ N,w.heap.size = N:=⟨_,rfl⟩
  have HB:=hid hb1
  have HW:=hid hR
  rw [hN] at HW
  rw [hN]
  clear hb1 hR hN HR
  go_wp2_with fail
  go_loopw [4] (fun i wr=>∃ m : Nat,m ≤ 9 ∧ i = .int .i64 (m : Int) ∧ (∀ j,j < strt m → txt j ≠ s) ∧ wr = w1) (fun i _=>9 - (intOf i).toNat)
  case atStart=>exact ⟨0,Nat.zero_le _,rfl,fun j hj=>absurd hj (by simp [strt]),rfl⟩
  case round =>
    obtain ⟨m,hm,rfl,hno,rfl⟩:=hrel
    by_cases hlt : m < 9
    · have hlt1 : (m : Int) < 9:=by omega
      have c1:=HW.out.cell1 hlt
      have hcc:=cnt_le m hlt
      obtain ⟨c,hc⟩ : ∃ c,cnt m = c:=⟨_,rfl⟩
      rw [hc] at c1 hcc
      have HC:=hid hc;have HL:=hid hlt;have HNO:=hid hno
      clear hc hlt hno hm
      go_wp2_with fail
      go_loopw [5] (fun i wx=>∃ k : Nat,k ≤ c ∧ i = .int .i64 (k : Int) ∧ (∀ j,j < strt m + k → txt j ≠ s) ∧ wx = wr) (fun i _=>c - (intOf i).toNat)
      case atStart=>exact ⟨0,Nat.zero_le _,rfl,HNO.out,rfl⟩
      case round =>
        obtain ⟨k,hk,rfl,hno,rfl⟩:=hrel
        by_cases hlt : k < c
        · have hlt2 : (k : Int) < (c : Int):=by omega
          have c2:=HW.out.cell2 HL.out (k:=k) (by rw [HC.out];exact hlt)
          have hy:=fun h=>level_yes (s:=s) HL.out (k:=k) (by rw [HC.out];exact hlt) h
          have hq:=eq_list (txt (strt m + k)) s
          obtain ⟨t,ht⟩ : ∃ t,txt (strt m + k) = t:=⟨_,rfl⟩
          rw [ht] at c2 hy hq
          have HNK:=hid hno;have HT:=hid ht;have HLK:=hid hlt
          clear hno ht hlt
          by_cases he : t = s
          · rw [decide_eq_true he] at hq
            have HY:=hid (hy he)
            clear hy he
            have hw1 : wrap64 ((m : Int) + 1) = (m : Int) + 1:=by rw [IntWalk.wrap64_in];omega
            go_wp2_with fail
            go_ret
            exact ⟨by rw [HY.out];rfl,HB.out⟩
          · rw [decide_eq_false he] at hq
            have HE:=hid he
            clear hy he
            go_wp2_with fail
            go_roundw
            case rel =>
              have:=HLK.out
              refine ⟨k + 1,by omega,by go_num,fun j hj=>?_,trivial⟩
              by_cases hjk : j = strt m + k
              · subst hjk;rw [HT.out];exact HE.out
              · exact HNK.out j (by omega)
            case measure=>have:=HLK.out;simp [intOf];omega
        · obtain rfl : k = c:=by omega
          have hge : decide ((k : Int) < (k : Int)) = false:=by simp
          have HNK:=hid hno
          clear hno
          go_wp2_with fail
          have hL:=HL.out
          refine ⟨⟨m + 1,by omega,by go_num,fun j hj=>HNK.out j (by rw [← HC.out];rw [strt_next m hL];exact hj),trivial⟩,by simp [intOf];omega⟩
    · obtain rfl : m = 9:=by omega
      have HY:=hid (level_no (s:=s) (fun j hj=>hno j (by simpa [strt] using hj)))
      clear hno
      go_wp2_with fail
      go_ret
      exact ⟨by rw [HY.out];rfl,HB.out⟩
end Go.Proofs.Ythadnhpkeljdoaa.pr
namespace Go.Proofs.Ythadnhpkeljdoaa.Lx
open Go.RowKit (wrap64)
open Sg (run cB cW cD cL cH at')
theorem pre_take (l o : List UInt8) (m : Nat) : Lib.hasPrefix (l.take m) o = (decide (o.length ≤ m) && Lib.hasPrefix l o):=by
  rw [Bool.eq_iff_iff,Bool.and_eq_true,decide_eq_true_eq]
  unfold Lib.hasPrefix
  rw [List.isPrefixOf_iff_prefix,List.isPrefixOf_iff_prefix]
  constructor
  · intro h
    have h1:=h.length_le
    rw [List.length_take] at h1
    exact ⟨by omega,h.trans (List.take_prefix m l)⟩
  · rintro ⟨h1,h2⟩
    exact List.prefix_take_iff.2 ⟨h2,h1⟩
theorem piece_cons (b : UInt8) (r : List UInt8) : piece (b :: r) = if b = 34 then 0 else if b = 92 then (if Sg.escape (b :: r) = 0 then 0 else Sg.escape (b :: r) + piece ((b :: r).drop (Sg.escape (b :: r)))) else 1 + piece r:=by
  by_cases h1 : b = 34
  · subst h1;rw [if_pos rfl];exact piece_quote r
  · rw [if_neg h1]
    by_cases h2 : b = 92
    · subst h2
      rw [if_pos rfl]
      by_cases h3 : Sg.escape (92 :: r) = 0
      · rw [if_pos h3];exact piece_none r h3
      · rw [if_neg h3];exact piece_esc r h3
    · rw [if_neg h2]
      refine piece_one b r ?_
      cases h : cN (b.toNat : Int) with
      | true=>rfl
      | false=>rcases (cN_not b).1 h with rfl | rfl <;> simp at h1 h2
theorem size_le (x : Lex) (l : List UInt8) : size (lexA x l).1 ≤ l.length:=by
  generalize hn : l.length = n
  induction n using Nat.strongRecOn generalizing l x with
  | ind n ih =>
    subst hn
    by_cases h0 : l = []
    · subst h0;rw [lexA_nil];exact Nat.le_refl _
    · cases hx : next x l with
      | error e=>rw [lexA_err hx h0];exact Nat.zero_le _
      | ok p =>
        obtain ⟨k,n,y⟩:=p
        have hl:=next_le hx
        have:=ih (l.drop n).length (by rw [List.length_drop];omega) y (l.drop n) rfl
        rw [lexA_ok hx h0]
        simp only [size,List.map_cons,List.sum_cons,List.length_take]
        rw [List.length_drop] at this
        unfold size at this
        omega
theorem at_get {p : Int → Bool} {l : List UInt8} {k : Nat} (h : at' p l k = true) : p ((l.getD k 0).toNat : Int) = true:=by
  unfold at' at h;rw [Bool.and_eq_true] at h;exact h.2
theorem next_find {x y : Lex} {l : List UInt8} {k : Int} {n : Nat} (h : next x l = .ok (k,n,y)) : find (tried x) l = some (k,n) ∧ turn x k (l.take n) = .ok y:=by
  unfold next at h
  cases hf : find (tried x) l with
  | none=>rw [hf] at h;cases h
  | some p =>
    obtain ⟨k',n'⟩:=p
    rw [hf] at h
    simp only at h
    cases ht : turn x k' (l.take n') with
    | error e=>rw [ht] at h;cases h
    | ok z=>rw [ht] at h;cases h;exact ⟨rfl,ht⟩
end Go.Proofs.Ythadnhpkeljdoaa.Lx
namespace Go.Proofs.Ythadnhpkeljdoaa.nd
open Go.Lib (hid)
open Go.RowKit sx
theorem growN_calls (m : Nat) (hm : m * 48 ≤ 140737488355328) (w : World) :
  Calls Try.prog 40 #[.slice none 0 0,.int .i64 (m : Int)] w fun e w'=>∃ v,e = .returned v ∧ w'.ownsRow w.heap.size 25 3 v 0 [] ∧ Below w.heap.size w w':=by
 by_cases h0 : m = 0
 ·subst h0
  go_enter Try.func40,Try.ntmps40
  go_wp2_with fail
  go_ret
  exact ⟨_,rfl,World.ownsRow_nil _ _ _ _,Below.refl _ _⟩
 ·obtain ⟨i0,hi,hz0,hz1,hz2⟩:=info_parts infoN
  have hm1 : 0 < m:=by omega
  have hp : (0 : Int) < (m : Int):=by omega
  have hn : ¬ ((m : Int) < 0):=by omega
  have hr:=Lib.run_append_nil_zeros (P:=Try.prog) w 23 3 23 25 i0 _ .i64 .i64 Try.underlying23 Try.underlying3 hi hz0 m hm1 (by rw [hz1];omega) (by omega) (by rw [hz2];omega)
  have hge:=grownCap_ge w m 0 25
  have hle:=grownCap_le_maxLen w m 0 25 (by unfold maxLen;omega)
  obtain ⟨c,hc⟩ : ∃ c,grownCap w m 0 25 = c:=⟨_,rfl⟩
  rw [hc] at hr hge hle
  have HR:=hid hr;have HLE:=hid hle
  clear hr hle hc h0
  go_enter Try.func40,Try.ntmps40
  go_wp2_with (at_builtin;refine Lib.wpList_append_run _ rfl _ _ 23 3 rfl _ _ rfl rfl _ _ HR.out ?_)
  go_ret
  refine ⟨_,rfl,?_,((Below.refl _ w).drew).alloc (by simp) _⟩
  refine ⟨rfl,.inr ⟨w.heap.size,c,_,rfl,Nat.le_refl _,heap_alloc_new w.drew _,Nat.zero_le _,HLE.out,?_,rfl⟩⟩
  simp [size_zeroCells]
  omega
end Go.Proofs.Ythadnhpkeljdoaa.nd
