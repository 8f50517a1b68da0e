/- Ground of the law: PvH. -/
import Derived.Test.YthadnhpkeljdoaaGreatQg12
set_option maxRecDepth 100000
set_option maxHeartbeats 8000000
set_option linter.unusedVariables false
set_option linter.unusedSimpArgs false
namespace Go.Proofs.YthadnhpkeljdoaaGreat.pv
open Go.RowKit
section
variable {P : Program} {ty : Tys} {n : Nat} {G : Gh} {m : Mem} {a : Act} {w : World} {o : Oper} {id : Nat}
theorem repC_piece {b : Option Addr} {cap : Nat} {k : Tk} {es : List (List D)} (h : RepC G w (.slice b es.length cap) (.sl k es)) {l e s : Nat} (h1 : l ≤ e) (h2 : e ≤ es.length) (hs : ∀ c ∈ es,c.length = s) :
    RepC G w (Go.sliced b l e cap s) (.sl .no ((es.take e).drop l)):=by
  obtain ⟨_,g,q,sz,xs,ha,hc,hr,hl,hm,hk⟩:=repC_sl h
  have hlen : ((es.take e).drop l).length = e - l:=by rw [List.length_drop,List.length_take];omega
  have hget : ∀ i c,((es.take e).drop l)[i]? = some c → es[l + i]? = some c:=fun i c h=>by
    rw [List.getElem?_drop] at h
    have hlt:=(List.getElem?_eq_some_iff.1 h).1
    rw [List.length_take] at hlt
    rw [List.getElem?_take_of_lt (by omega)] at h
    exact h
  unfold Go.sliced
  by_cases h0 : e - l = 0
  · have hn : (es.take e).drop l = []:=List.eq_nil_of_length_eq_zero (by omega)
    rw [hn,h0]
    exact .sl _ _ .no [] 0 0 0 (fun _ _=>undef) (fun e=>absurd rfl e) (fun i c j d h=>by cases h) (fun i c j d h=>by cases h) (fun c hc=>by cases hc) ⟨Nat.zero_le _,Nat.zero_le _⟩ trivial
  · have hne : es ≠ []:=fun e'=>by rw [e'] at h2;simp at h2;omega
    have hb:=ha hne
    have hsz : s = sz:=by
      cases es with
      | nil=>exact absurd rfl hne
      | cons c r=>rw [← hs c (List.mem_cons_self ..)];exact (hl c (List.mem_cons_self ..)).1
    subst hsz
    rw [if_neg (by omega),← hlen,hb]
    simp only [Option.map_some,Addr.add_lit]
    refine .sl _ _ .no _ g (q + l * s) s (fun i j=>xs (l + i) j) (fun _=>rfl) (fun i c j d h1 h2=>?_) (fun i c j d h1 h2=>hr _ _ _ _ (hget i c h1) h2) (fun c hc=>hl c (List.mem_of_mem_take (List.mem_of_mem_drop hc))) ⟨by omega,by omega⟩ trivial
    have:=hc _ _ _ _ (hget i c h1) h2
    rw [show q + l * s + (i * s + j) = q + ((l + i) * s + j) by rw [Nat.add_mul];omega]
    exact this
theorem ok_slice_l {t e : TypeId} {y z : Ty} {x : Operand} {lo hi : Option Operand} (h : Sim n G m a w) (hy : TyOk P t y) (hk : y.kd = .sl e) (hz : TyOk P e z) (ho : o.op = .slice t x lo hi none) {p : Prop} {d : D} {ws : Mem} (hd : dSlice false z.size (ev m x) (optD m lo) (optD m hi) = .eff p d ws) (hp : p) : OpOk P o G a w id d ws:=by
  have hu:=hy.kd
  rw [hk] at hu
  have hu : P.underlying t = some (.slice e):=hu
  have he : P.elem t = e:=by simp [Program.elem,hu]
  have hu' : P.underlying t = some (.slice (P.elem t)):=by rw [he];exact hu
  have hzs:=hz.size w
  have hx:=h.ev x
  unfold dSlice at hd
  have one : ∀ (c : Option Operand) {q : IntKind} {i : Int},optD m c = some (.v (.int q i)) → ∃ c',c = some c' ∧ a.eval c' = .int q i:=fun c q i e=>by
    cases c with
    | none=>cases e
    | some c' =>
      have e' : ev m c' = .v (.int q i):=by simpa [optD] using e
      have:=h.ev c'
      rw [e'] at this
      exact ⟨c',rfl,(rep_v this).1⟩
  have zero : ∀ (c : Option Operand),optD m c = none → c = none:=fun c e=>by cases c <;> first | rfl | cases e
  split at hd
  · rename_i hh _ _ _;cases hh
  · rename_i hh _ _ _;cases hh
  · rename_i hh _ _ _;cases hh
  · rename_i k es q i _ e1 e2 e3
    cases hd
    obtain ⟨hp,hs⟩:=hp
    rw [e1] at hx
    obtain ⟨b,cap,e4,hr⟩:=rep_sl hx
    obtain ⟨c,rfl,e5⟩:=one _ e2
    obtain rfl:=zero _ e3
    have hm:=(repC_sl hr).2
    have hcap : es.length ≤ cap:=by obtain ⟨g,q,sz,xs,ha,hc,hr,hl,hm,hk⟩:=hm;exact hm.2
    have:=repC_piece hr (l:=i.toNat) (e:=es.length) (by omega) (Nat.le_refl _) hs
    rw [List.take_length] at this
    exact .pure h.ok (by simp [execOp,ho,e4,e5,run_sliceAt_slice w t _ _ _ _ hu',run_slice_l w t _ _ _ hu' _ _ hp.1 hp.2,he,hzs]) (.v (.c this))
  · rename_i k es q i _ e1 e2 e3
    cases hd
    obtain ⟨hp,hs⟩:=hp
    rw [e1] at hx
    obtain ⟨b,cap,e4,hr⟩:=rep_sl hx
    obtain ⟨c,rfl,e5⟩:=one _ e3
    obtain rfl:=zero _ e2
    have hm:=(repC_sl hr).2
    have hcap : es.length ≤ cap:=by obtain ⟨g,q,sz,xs,ha,hc,hr,hl,hm,hk⟩:=hm;exact hm.2
    have:=repC_piece hr (l:=0) (e:=i.toNat) (by omega) (by omega) hs
    rw [List.drop_zero] at this
    exact .pure h.ok (by simp [execOp,ho,e4,e5,run_sliceAt_slice w t _ _ _ _ hu',run_slice_h w t _ _ _ hu' _ _ hp.1 (show i ≤ (cap : Int) by omega),he,hzs]) (.v (.c this))
  · rename_i k es q i q' j _ e1 e2 e3
    cases hd
    obtain ⟨hp,hs⟩:=hp
    rw [e1] at hx
    obtain ⟨b,cap,e4,hr⟩:=rep_sl hx
    obtain ⟨c,rfl,e5⟩:=one _ e2
    obtain ⟨c',rfl,e6⟩:=one _ e3
    have hm:=(repC_sl hr).2
    have hcap : es.length ≤ cap:=by obtain ⟨g,q,sz,xs,ha,hc,hr,hl,hm,hk⟩:=hm;exact hm.2
    have:=repC_piece hr (l:=i.toNat) (e:=j.toNat) (by omega) (by omega) hs
    exact .pure h.ok (by simp [execOp,ho,e4,e5,e6,run_sliceAt_slice w t _ _ _ _ hu',run_slice_lh w t _ _ _ hu' _ _ _ _ hp.1 hp.2.1 (show j ≤ (cap : Int) by omega),he,hzs]) (.v (.c this))
  · cases hd
theorem fold_set (off : Nat) : ∀ (l : List Value) (s : Nat) (cs : Array Value),((l.zipIdx s).foldl (fun (cs : Array Value) (p : Value × Nat)=>cs.setIfInBounds (off + p.2) p.1) cs).size = cs.size ∧
    ∀ k,((l.zipIdx s).foldl (fun (cs : Array Value) (p : Value × Nat)=>cs.setIfInBounds (off + p.2) p.1) cs)[k]? = if off + s ≤ k ∧ k < off + s + l.length ∧ k < cs.size then l[k - (off + s)]? else cs[k]?
  | [],s,cs=>⟨rfl,fun k=>by rw [if_neg (by simp;omega)];rfl⟩
  | v :: r,s,cs=>by
    obtain ⟨h1,h2⟩:=fold_set off r (s + 1) (cs.setIfInBounds (off + s) v)
    simp only [List.zipIdx_cons,List.foldl_cons]
    refine ⟨by rw [h1];simp,fun k=>?_⟩
    rw [h2 k]
    simp only [Array.size_setIfInBounds,List.length_cons]
    by_cases hk : off + (s + 1) ≤ k ∧ k < off + (s + 1) + r.length ∧ k < cs.size
    · rw [if_pos hk,if_pos (by omega)]
      rw [show k - (off + s) = (k - (off + (s + 1))) + 1 by omega,List.getElem?_cons_succ]
    · rw [if_neg hk]
      by_cases he : k = off + s
      · subst he
        by_cases hlt : off + s < cs.size
        · rw [if_pos (by omega)]
          simp [hlt]
        · rw [if_neg (by omega)]
          simp [hlt]
      · rw [if_neg (by omega),Array.getElem?_setIfInBounds_ne (Ne.symm he)]
theorem fold_cells (off : Nat) (v : Array Value) (cs : Array Value) : (v.zipIdx.foldl (fun cs (c,j)=>cs.setIfInBounds (off + j) c) cs).size = cs.size ∧
    ∀ k,(v.zipIdx.foldl (fun cs (c,j)=>cs.setIfInBounds (off + j) c) cs)[k]? = if off ≤ k ∧ k < off + v.size ∧ k < cs.size then v[k - off]? else cs[k]?:=by
  have h:=fold_set off v.toList 0 cs
  rw [← Array.foldl_toList,Array.toList_zipIdx]
  simpa using h
theorem fillD_spec : ∀ (l : List D) (z : List D) (o : Nat),(fillD z o l).length = z.length ∧ ∀ k,(fillD z o l)[k]? = if o ≤ k ∧ k < o + l.length ∧ k < z.length then l[k - o]? else z[k]?
  | [],z,o=>⟨rfl,fun k=>by rw [if_neg (by simp;omega)];rfl⟩
  | d :: r,z,o=>by
    obtain ⟨h1,h2⟩:=fillD_spec r (z.set o d) (o + 1)
    simp only [fillD]
    refine ⟨by rw [h1];simp,fun k=>?_⟩
    rw [h2 k]
    simp only [List.length_set,List.length_cons]
    by_cases hk : o + 1 ≤ k ∧ k < o + 1 + r.length ∧ k < z.length
    · rw [if_pos hk,if_pos (by omega),show k - o = (k - (o + 1)) + 1 by omega,List.getElem?_cons_succ]
    · rw [if_neg hk]
      by_cases he : k = o
      · subst he
        by_cases hlt : k < z.length
        · rw [if_pos (by omega)];simp [hlt]
        · rw [if_neg (by omega)];simp [hlt]
      · rw [if_neg (by omega),List.getElem?_set_ne (Ne.symm he)]
theorem fill_build (h : Sim n G m a w) {fs : List (Nat × TypeId)} {place : Nat → Option (Nat × Nat)} (hpl : ∀ i q y,fieldOf ty fs i = some (q,y) → place i = some (q,y.size)) :
    ∀ (ps : List (Nat × Operand)) (z : List D) (cs : Array Value) (l : List D),cs.size = z.length → (∀ (i : Nat) (x : Value) (d : D),cs[i]? = some x → z[i]? = some d → RepC G w x d) → dBuild ty m fs z ps = some l →
      ∃ cs',Instr.fill place cs (ps.map fun p=>(p.1,a.eval p.2)) = some cs' ∧ cs'.size = l.length ∧ ∀ (i : Nat) (x : Value) (d : D),cs'[i]? = some x → l[i]? = some d → RepC G w x d
  | [],z,cs,l,hs,hr,hd=>by cases hd;exact ⟨cs,rfl,hs,hr⟩
  | (i,x) :: r,z,cs,l,hs,hr,hd=>by
    unfold dBuild at hd
    split at hd
    · rename_i q y l' e1 e2
      cases hc : (l'.length.beq y.size && (q + l'.length).ble z.length) with
      | false=>rw [hc] at hd;cases hd
      | true =>
        rw [hc] at hd
        rw [Bool.and_eq_true] at hc
        have c1:=Nat.eq_of_beq_eq_true hc.1
        have c2:=Nat.le_of_ble_eq_true hc.2
        obtain ⟨h1,h2⟩:=rep_cells (h.ev x) e2
        obtain ⟨f1,f2⟩:=fold_cells q (a.eval x).cells cs
        obtain ⟨g1,g2⟩:=fillD_spec l' z q
        obtain ⟨cs',r1,r2,r3⟩:=fill_build h hpl r (fillD z q l') _ l (by rw [f1,g1];exact hs) (fun k v d hv hdv=>by
          rw [f2 k] at hv;rw [g2 k] at hdv
          by_cases hk : q ≤ k ∧ k < q + l'.length ∧ k < z.length
          · rw [if_pos hk] at hdv
            rw [if_pos (by omega)] at hv
            exact h2 _ _ _ hv hdv
          · rw [if_neg hk] at hdv
            rw [if_neg (by omega)] at hv
            exact hr k v d hv hdv) hd
        refine ⟨cs',?_,r2,r3⟩
        simp only [List.map_cons,Instr.fill,hpl i q y e1]
        rw [if_neg (by simp;omega)]
        exact r1
    · cases hd
theorem ok_build (hT : TysOk P ty) {t : TypeId} {y : Ty} {fs : List (Nat × TypeId)} {ps : Array (Nat × Operand)} (h : Sim n G m a w) (hy : TyOk P t y) (hk : y.kd = .st fs) (ho : o.op = .build t ps) (hall : (fs.all fun f=>(tyOf ty f.2).isSome) = true) {l : List D} (hd : dBuild ty m fs y.zero ps.toList = some l) : OpOk P o G a w id (.agg l) []:=by
  have hu:=hy.kd
  rw [hk] at hu
  obtain ⟨A,hA,hfs⟩:=hu
  obtain ⟨i,z,i1,i2,_,i3,i4,i5,i6⟩:=hy.info
  have places : ∀ (B : List Field),(B.map (fun f=>(f.offset,f.type))).all (fun f=>(tyOf ty f.2).isSome) = true → ∃ pl,B.mapM (fun f=>(P.info? f.type).map fun i=>(f.offset,i.size)) = some pl ∧ ∀ i q y,fieldOf ty (B.map (fun f=>(f.offset,f.type))) i = some (q,y) → pl[i]? = some (q,y.size):=by
    intro B
    induction B with
    | nil=>exact fun _=>⟨[],rfl,fun i q y e=>by cases e⟩
    | cons f B ih =>
      intro hB
      simp only [List.map_cons,List.all_cons,Bool.and_eq_true] at hB
      obtain ⟨pl,p1,p2⟩:=ih hB.2
      obtain ⟨yf,hyf⟩:=Option.isSome_iff_exists.1 hB.1
      obtain ⟨j,zz,j1,j2,_⟩:=(hT _ _ hyf).info
      refine ⟨(f.offset,yf.size) :: pl,by simp [List.mapM_cons,j1,p1,j2],fun i q y e=>?_⟩
      cases i with
      | zero =>
        simp only [List.map_cons,fieldOf,hyf,Option.some.injEq,Prod.mk.injEq] at e
        simp [e.1,e.2]
      | succ i =>
        simp only [List.map_cons,fieldOf] at e
        simpa using p2 i q y e
  obtain ⟨pl,p1,p2⟩:=places A.toList (by rw [hfs];exact hall)
  rw [hfs] at p2
  have hzs : z.cells.size = y.zero.length:=by rw [← i4];simp
  obtain ⟨cs,r1,r2,r3⟩:=fill_build (ty:=ty) h (place:=fun i=>pl.toArray[i]?) (fun i q y e=>by simpa using p2 i q y e) ps.toList y.zero z.cells l hzs (fun k v d hv hd=>by
    rw [← i4,List.getElem?_map,Array.getElem?_toList,hv] at hd
    cases hd
    refine repC_const ?_
    rw [← i4,List.all_eq_true] at i5
    exact i5 _ (List.mem_map.2 ⟨v,by rw [Array.mem_toList_iff];exact Array.mem_of_getElem? hv,rfl⟩)) hd
  have hb : P.built t (ps.map fun (p : Nat × Operand)=>(p.1,a.eval p.2)).toList = some cs:=by
    simp only [Program.built,i1,hA,i3,p1,Array.toList_map]
    exact r1
  exact .pure h.ok (v:=.agg cs) (by simp [execOp,ho,run_build w t _ cs hb]) (.v (.agg cs l r2 r3))
end
end Go.Proofs.YthadnhpkeljdoaaGreat.pv
