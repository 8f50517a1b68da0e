/- Ground of the law: PvK, Gx2, NdPaths2, PaFit, LxRight, LxMath2. -/
import Derived.Test.YthadnhpkeljdoaaQh14
import Derived.Test.YthadnhpkeljdoaaQh07
import Derived.Test.YthadnhpkeljdoaaQh01
import Derived.Test.YthadnhpkeljdoaaQh08
import Derived.ProofKit
import Derived.LaidMore
import Derived.Lay
import Derived.Stop.Joined
import Derived.Shelf.Strings.BuilderK
import Derived.WalkKit
import Derived.Test.YthadnhpkeljdoaaQh00
set_option maxRecDepth 100000
set_option maxHeartbeats 8000000
set_option linter.unusedVariables false
set_option linter.unusedSimpArgs false
namespace Go.Proofs.Ythadnhpkeljdoaa.pv
open Go.RowKit
def G0 (w : World) (imm : Nat → Nat → Prop) : Gh:=⟨w.heap.size,imm,fun _=>none,fun _=>none⟩
structure RetOk (I : Nat → Nat → Prop) (w : World) (G : Gh) (w' : World) (v : Value) (l : List D) : Prop where
  below : Below w.heap.size w w'
  imm : ∀ g i,I g i → G.imm g i
  immo : ∀ g i,g < w.heap.size → G.imm g i → I g i
  immlt : ∀ g i,G.imm g i → g < w'.heap.size
  rep : Rep G w' v (mkRes l)
  tok : ∀ T,G.tok 0 = some T → 0 < T.sz ∧ w'.ownsRow w.heap.size T.e T.sz T.v T.n T.xs ∧ (∀ g,T.v.ownBlock = some g → ∀ i,i < T.n * T.sz → G.imm g i) ∧ ∀ g i,T.v.ownBlock = some g → G.imm g i → i < T.n * T.sz
  full : ∀ k e sz es,D.sl (.own k e sz) es ∈ l → k = 0 ∧ ∃ T,G.tok 0 = some T ∧ T.n = es.length
def Ok (P : Program) (f : FuncId) (ds : List D) (l : List D) : Prop :=
  (∀ (args : Array Value) (w : World),(callFunc f args).run P w = .ok (.enter f args) w) ∧
  ∀ (imm : Nat → Nat → Prop) (w : World) (vs : Array Value),(∀ g i,imm g i → g < w.heap.size) → vs.size = ds.length → (∀ (i : Nat) (x : Value) (d : D),vs[i]? = some x → ds[i]? = some d → RepV (G0 w imm) w x d) →
    Calls P f vs w fun e w'=>∃ v G,e = .returned v ∧ RetOk imm w G w' v l
section
variable {P : Program} {ty : Tys} {n : Nat} {G : Gh} {m : Mem} {a : Act} {w : World} {o : Oper} {id : Nat}
theorem repC_move {G1 : Gh} (hi : ∀ g i,G.imm g i → G1.imm g i) {x : Value} {d : D} (h : RepC G w x d) (hn : noOwn d = true) : RepC G1 w x d:=by
  induction h with
  | junk x h=>exact .junk x h
  | v x h=>exact .v x h
  | sl a cap k es g q sz xs ha hc hr hl hm hk ih =>
    refine .sl a cap k es g q sz xs ha (fun i e j d h1 h2=>⟨(hc i e j d h1 h2).1,hi _ _ (hc i e j d h1 h2).2⟩) (fun i e j d h1 h2=>ih i e j d h1 h2 ?_) hl hm ?_
    · have:=(hl e (List.mem_of_getElem? h1)).2
      rw [List.all_eq_true] at this
      exact this d (List.mem_of_getElem? h2)
    · cases k with
      | no=>trivial
      | nil=>exact hk
      | own t e s=>cases hn
theorem noOwn_strip (d : D) : noOwn (strip d) = true:=by cases d <;> rfl
theorem repC_strip {G1 : Gh} (hi : ∀ g i,G.imm g i → G1.imm g i) {x : Value} {d : D} (h : RepC G w x d) : RepC G1 w x (strip d):=repC_move hi (strip_rep h) (noOwn_strip d)
theorem repV_strip {G1 : Gh} (hi : ∀ g i,G.imm g i → G1.imm g i) {x : Value} {d : D} (h : RepV G w x d) : RepV G1 w x (stripV d):=by
  cases h with
  | c h =>
    have e : stripV d = strip d:=by cases h <;> rfl
    rw [e];exact .c (repC_strip hi h)
  | agg vs l hs hr =>
    refine .agg vs _ (by simpa using hs) fun i x d h1 h2=>?_
    rw [List.getElem?_map] at h2
    obtain ⟨d',h3,rfl⟩:=Option.map_eq_some_iff.1 h2
    exact repC_strip hi (hr i x d' h1 h3)
theorem repV_stripA {G1 : Gh} (hi : ∀ g i,G.imm g i → G1.imm g i) {x : Value} {d : D} (h : RepV G w x d) : RepV G1 w x (stripA d):=by
  by_cases hn : ∃ es,d = .sl .nil es
  · obtain ⟨es,rfl⟩:=hn
    cases h with
    | c h=>exact .c (repC_move hi h rfl)
  · have e : stripA d = stripV d:=by
      unfold stripA
      split
      · rename_i es
        exact absurd ⟨es,rfl⟩ hn
      · rfl
    rw [e]
    exact repV_strip hi h
theorem repV_arg {x : Value} {d : D} (h : Rep G w x d) (hd : argD d = true) : RepV G w x d:=by
  cases h with
  | v h=>exact h
  | any=>cases hd
  | und=>cases hd
  | tup=>cases hd
  | ptr=>cases hd
  | el=>cases hd
theorem ownsRow_base {B B' e sz k : Nat} {v : Value} {xs : List Value} (h : w.ownsRow B e sz v k xs) (hB : B' ≤ B) : w.ownsRow B' e sz v k xs:=by
  refine ⟨h.1,?_⟩
  rcases h.2 with h2 | ⟨g,cap,cur,h1,h2,r⟩
  · exact .inl h2
  · exact .inr ⟨g,cap,cur,h1,Nat.le_trans hB h2,r⟩
theorem reown_len : ∀ (l : List D),(reown id l).1.length = l.length
  | []=>rfl
  | .sl (.own _ e sz) es :: r=>by simp [reown]
  | .sl .no es :: r=>by simp [reown,reown_len r]
  | .sl .nil es :: r=>by simp [reown,reown_len r]
  | .junk :: r=>by simp [reown,reown_len r]
  | .und :: r=>by simp [reown,reown_len r]
  | .num _ :: r=>by simp [reown,reown_len r]
  | .v _ :: r=>by simp [reown,reown_len r]
  | .agg _ :: r=>by simp [reown,reown_len r]
  | .tup _ :: r=>by simp [reown,reown_len r]
  | .ptr _ _ :: r=>by simp [reown,reown_len r]
  | .el _ _ :: r=>by simp [reown,reown_len r]
def isOwn : D → Bool
  | .sl (.own _ _ _) _=>true
  | _=>false
theorem reown_cons {d : D} (h : isOwn d = false) (r : List D) : reown id (d :: r) = (stripV d :: (reown id r).1,(reown id r).2):=by
  cases d <;> try rfl
  rename_i k es
  cases k <;> first | rfl | cases h
theorem reown_spec : ∀ (l : List D),((reown id l).2 = [] ∧ (∀ d ∈ l,isOwn d = false) ∧ (reown id l).1 = l.map stripV) ∨
    ∃ p k e sz es r,l = p ++ .sl (.own k e sz) es :: r ∧ (reown id l).1 = p.map stripV ++ .sl (.own id e sz) es :: r.map stripV ∧ (reown id l).2 = [(1,id,.num es.length)]
  | []=>.inl ⟨rfl,(fun d h=>by cases h),rfl⟩
  | d :: r=>by
    cases h : isOwn d with
    | false =>
      rw [reown_cons h]
      rcases reown_spec r with ⟨h1,h2,h3⟩ | ⟨p,k,e,sz,es,r',h1,h2,h3⟩
      · left
        refine ⟨h1,fun d' hd=>?_,by rw [h3];rfl⟩
        rcases List.mem_cons.1 hd with rfl | hd
        · exact h
        · exact h2 d' hd
      · right
        exact ⟨d :: p,k,e,sz,es,r',by rw [h1];rfl,by rw [h2];rfl,h3⟩
    | true =>
      right
      cases d <;> try cases h
      rename_i kk es
      cases kk <;> try cases h
      rename_i t e sz
      exact ⟨[],t,e,sz,es,r,rfl,rfl,rfl⟩
theorem rep_res {v : Value} {l : List D} (h : Rep G w v (mkRes l)) (hl : ∀ d,l = [d] → argD d = true ∨ True) : (∃ d,l = [d] ∧ Rep G w v d) ∨ ((∀ d,l ≠ [d]) ∧ ∃ vs : Array Value,v = .tuple vs ∧ vs.size = l.length ∧ ∀ (i : Nat) (x : Value) (d : D),vs[i]? = some x → l[i]? = some d → RepV G w x d):=by
  match l,h with
  | [],h=>exact .inr ⟨fun d e=>(by cases e),rep_tup h⟩
  | [d],h=>exact .inl ⟨d,rfl,h⟩
  | d :: d' :: r,h=>exact .inr ⟨fun d e=>(by cases e),rep_tup h⟩
theorem ok_call {f : FuncId} {c : Call} {l : List D} (h : Sim n G m a w) (hb : G.box id = none) (hid : G.tok id = none) (ho : o.op = .call c) {cx : Operand} (hc : c.callee = .value cx) (hcx : a.eval cx = .func (.func f) #[] #[]) (hargs : (c.args.toList.map (ev m)).all argD = true)
    (hok : Ok P f (c.args.toList.map fun x=>stripA (ev m x)) l) (hres : ∀ d ∈ l,argD d = true) : OpOk P o G a w id (mkRes (reown id l).1) (reown id l).2:=by
  intro K Q hK
  obtain ⟨hen,hcalls⟩:=hok
  have hrun : (execOp a.eval o).run P w = .ok (.enter f (c.args.map a.eval)) w:=by
    simp [execOp,ho,resolve,hc,hcx,Deferred.ofValue,invoke,hen]
  unfold Oper.wp
  rw [hrun]
  show Calls P f (c.args.map a.eval) w _
  refine (hcalls G.imm w (c.args.map a.eval) h.ok.imm (by simp) (fun i x d h1 h2=>?_)).mono ?_
  · rw [Array.getElem?_map] at h1
    obtain ⟨y,hy,rfl⟩:=Option.map_eq_some_iff.1 h1
    rw [List.getElem?_map,Array.getElem?_toList,hy] at h2
    cases h2
    rw [List.all_eq_true] at hargs
    have hy' : ev m y ∈ c.args.toList.map (ev m):=List.mem_map.2 ⟨y,by rw [Array.mem_toList_iff];exact Array.mem_of_getElem? hy,rfl⟩
    exact repV_stripA (G:=G) (G1:=G0 w G.imm) (fun _ _ h=>h) (repV_arg (h.ev y) (hargs _ hy'))
  · rintro e w' ⟨v,G',rfl,R⟩
    have hbase:=h.ok.base
    have hblk : ∀ g,g < w.heap.size → w'.heap[g]? = w.heap[g]?:=fun g hg=>R.below.block g hg
    have hboxlt : ∀ b g ty n,G.box b = some (g,ty,n) → g < w.heap.size:=fun b g ty n e=>by obtain ⟨_,vs,hv,_⟩:=h.ok.box b g ty n e;exact hv.lt
    have htoklt : ∀ u T g,G.tok u = some T → T.v.ownBlock = some g → g < w.heap.size:=fun u T g h' e=>((h.ok.tok u T h').2.1.lt g e).2
    let own : Prop:=(reown id l).2 ≠ []
    let tk : Option Tok:=if (reown id l).2.isEmpty then none else G'.tok 0
    let G1 : Gh:={ base:=G.base,imm:=fun g i=>G.imm g i ∨ (w.heap.size ≤ g ∧ G'.imm g i),box:=G.box,tok:=fun u=>if u = id then tk else G.tok u }
    have hti : G1.tok id = tk:=if_pos rfl
    have htu : ∀ u,u ≠ id → G1.tok u = G.tok u:=fun u hu=>if_neg hu
    have htk : ∀ T,tk = some T → 0 < T.sz ∧ w'.ownsRow w.heap.size T.e T.sz T.v T.n T.xs ∧ (∀ g,T.v.ownBlock = some g → ∀ i,i < T.n * T.sz → G'.imm g i) ∧ ∀ g i,T.v.ownBlock = some g → G'.imm g i → i < T.n * T.sz:=fun T hT=>by
      have : tk = none ∨ tk = G'.tok 0:=by
        show (if (reown id l).2.isEmpty then none else G'.tok 0) = none ∨ (if (reown id l).2.isEmpty then none else G'.tok 0) = _
        split
        · exact .inl rfl
        · exact .inr rfl
      rcases this with e | e
      · rw [e] at hT;cases hT
      · rw [e] at hT;exact R.tok T hT
    have himm : ∀ g i,G'.imm g i → G1.imm g i:=fun g i hi=>by
      by_cases hg : g < w.heap.size
      · exact .inl (R.immo g i hg hi)
      · exact .inr ⟨by omega,hi⟩
    have hst : Step G w G1 w':=⟨fun g i hi=>.inl hi,fun g i hi=>World.cell?_of_block (a:=⟨g,i,none⟩) (hblk g (h.ok.imm g i hi)),fun _ _ h=>h,fun u T hT=>by
      have : u ≠ id:=fun e=>by rw [e,hid] at hT;cases hT
      exact ⟨T,(htu u this).trans hT,⟨rfl,rfl⟩,Nat.le_refl _,fun _=>rfl⟩⟩
    have hG1 : GOk G1 w':=by
      refine ⟨Nat.le_trans hbase R.below.size,?_,?_,?_,h.ok.boxInj,?_,?_,?_,?_⟩
      · rintro g i (hi | ⟨_,hi⟩)
        · exact Nat.lt_of_lt_of_le (h.ok.imm g i hi) R.below.size
        · exact R.immlt g i hi
      · intro b g ty n eb
        obtain ⟨h1,vs,h2,h3⟩:=h.ok.box b g ty n eb
        exact ⟨h1,vs,(hblk g h2.lt).trans h2,h3⟩
      · rintro b g ty n i eb (hi | ⟨hi,_⟩)
        · exact h.ok.boxImm b g ty n i eb hi
        · have:=hboxlt b g ty n eb;omega
      · intro u T hT
        by_cases hu : u = id
        · subst hu
          rw [hti] at hT
          obtain ⟨q1,q2,q3,q4⟩:=htk T hT
          exact ⟨q1,ownsRow_base q2 hbase,fun g hg i hi=>himm g i (q3 g hg i hi)⟩
        · rw [htu u hu] at hT
          obtain ⟨q1,q2,q3⟩:=h.ok.tok u T hT
          refine ⟨q1,q2.kept (row:=none) ⟨R.below.os,R.below.tape,R.below.output,R.below.size,fun k hk _=>hblk k hk⟩ (by cases T.v.ownBlock <;> simp),fun g hg i hi=>.inl (q3 g hg i hi)⟩
      · intro u T g i hT hg hi
        by_cases hu : u = id
        · subst hu
          rw [hti] at hT
          obtain ⟨q1,q2,q3,q4⟩:=htk T hT
          have:=(q2.lt g hg).1
          rcases hi with hi | ⟨_,hi⟩
          · have:=h.ok.imm g i hi;omega
          · exact q4 g i hg hi
        · rw [htu u hu] at hT
          rcases hi with hi | ⟨hi,_⟩
          · exact h.ok.tokImm u T g i hT hg hi
          · have:=htoklt u T g hT hg;omega
      · intro u u' T T' g hT hT' hg hg'
        by_cases hu : u = id <;> by_cases hu' : u' = id
        · rw [hu,hu']
        · subst hu
          rw [hti] at hT;rw [htu u' hu'] at hT'
          have:=((htk T hT).2.1.lt g hg).1
          have:=htoklt u' T' g hT' hg';omega
        · subst hu'
          rw [hti] at hT';rw [htu u hu] at hT
          have:=((htk T' hT').2.1.lt g hg').1
          have:=htoklt u T g hT hg;omega
        · rw [htu u hu] at hT;rw [htu u' hu'] at hT'
          exact h.ok.tokInj u u' T T' g hT hT' hg hg'
      · intro u T b g ty n hT hg eb
        by_cases hu : u = id
        · subst hu
          rw [hti] at hT
          have:=((htk T hT).2.1.lt g hg).1
          have:=hboxlt b g ty n eb;omega
        · rw [htu u hu] at hT
          exact h.ok.tokBox u T b g ty n hT hg eb
    have hws : (reown id l).2 = [] ∨ ∃ k,(reown id l).2 = [(1,id,.num k)] ∧ ∃ T,tk = some T ∧ T.n = k:=by
      rcases reown_spec (id:=id) l with ⟨h1,_,_⟩ | ⟨p,k,e,sz,es,r,h1,h2,h3⟩
      · exact .inl h1
      · right
        obtain ⟨_,T,hT,hn⟩:=R.full k e sz es (by rw [h1];simp)
        refine ⟨_,h3,T,?_,hn⟩
        show (if (reown id l).2.isEmpty then none else G'.tok 0) = _
        rw [h3];exact hT
    have hlook : ∀ x y,(x ≠ 1 ∨ y ≠ id) → ∀ m,look ((reown id l).2 ++ m) x y = look m x y:=fun x y hxy m=>by
      rcases hws with e | ⟨k,e,_⟩
      · rw [e];rfl
      · rw [e,List.singleton_append,look_cons,if_neg (by omega)]
    have hA : After G w id (reown id l).2 G1 w':=by
      refine ⟨hst,hG1,rfl,R.below.mono hbase,fun m hm=>⟨fun b g ty n eb i x hx=>?_,fun b i hi=>?_⟩,fun m hm u q hq=>?_,fun _ _ h=>.inl h,fun u T hT=>?_,?_,fun m y=>hlook 0 y (.inl (by omega)) m⟩
      · rw [hlook _ _ (.inl (by omega))]
        rw [World.cell?_of_block (a:=⟨g,i,none⟩) (hblk g (hboxlt b g ty n eb))] at hx
        exact (hm.val b g ty n eb i x hx).mono hst
      · rw [hlook _ _ (.inl (by omega))]
        exact hm.out b i hi
      · by_cases hu : u = id
        · subst hu
          rcases hws with e | ⟨k,e,T,hT,hn⟩
          · rw [e] at hq
            obtain ⟨T,h1,h2⟩:=hm u q hq
            rw [hid] at h1;cases h1
          · rw [e,List.singleton_append,look_cons,if_pos ⟨rfl,rfl⟩] at hq
            cases hq
            exact ⟨T,hti.trans hT,hn⟩
        · rw [hlook _ _ (.inr hu)] at hq
          obtain ⟨T,h1,h2⟩:=hm u q hq
          exact ⟨T,(htu u hu).trans h1,h2⟩
      · by_cases hu : u = id
        · exact .inr hu
        · rw [htu u hu] at hT;exact .inl ⟨T,hT⟩
      · rintro g i hg (hi | ⟨hi,_⟩)
        · exact hi
        · omega
    refine hK v G1 w' hA ?_
    have each : ∀ {x : Value} {d : D},argD d = true → RepV G' w' x d → RepV G1 w' x (stripV d):=fun _ hx=>repV_strip himm hx
    have theOwn : ∀ {x : Value} {k e sz : Nat} {es : List (List D)},D.sl (.own k e sz) es ∈ l → (reown id l).2 = [(1,id,.num es.length)] → RepV G' w' x (.sl (.own k e sz) es) → RepV G1 w' x (.sl (.own id e sz) es):=by
      intro x k e sz es hmem hw hx
      obtain ⟨rfl,T,hT,hn⟩:=R.full k e sz es hmem
      cases hx with
      | c hx =>
        cases hx with
        | sl a cap _ _ g q sz' xs ha hc hr hl hm hk =>
          obtain ⟨rfl,T',t1,t2,t3,t4,t5⟩:=hk
          rw [hT] at t1;cases t1
          have htk' : tk = some T:=by
            show (if (reown id l).2.isEmpty then none else G'.tok 0) = _
            rw [hw];exact hT
          refine .c (.sl a cap _ es g q sz xs ha (fun i e j d h1 h2=>⟨(hc i e j d h1 h2).1,himm _ _ (hc i e j d h1 h2).2⟩) (fun i e j d h1 h2=>repC_move himm (hr i e j d h1 h2) ?_) hl hm ⟨rfl,T,hti.trans htk',t2,t3,t4,t5⟩)
          have:=(hl e (List.mem_of_getElem? h1)).2
          rw [List.all_eq_true] at this
          exact this d (List.mem_of_getElem? h2)
    have comp : ∀ (i : Nat) {x : Value} {d d' : D},l[i]? = some d → (reown id l).1[i]? = some d' → RepV G' w' x d → RepV G1 w' x d':=by
      intro i x d d' hi hi' hx
      rcases reown_spec (id:=id) l with ⟨h1,h2,h3⟩ | ⟨p,k,e,sz,es,r,h1,h2,h3⟩
      · rw [h3,List.getElem?_map,hi] at hi'
        cases hi'
        exact each (hres d (List.mem_of_getElem? hi)) hx
      · rw [h2] at hi'
        have hd:=hres d (List.mem_of_getElem? hi)
        have hmem : D.sl (.own k e sz) es ∈ l:=by rw [h1];simp
        have hi0:=hi
        rw [h1] at hi
        rcases Nat.lt_trichotomy i p.length with hlt | heq | hgt
        · rw [List.getElem?_append_left hlt] at hi
          rw [List.getElem?_append_left (by simpa using hlt),List.getElem?_map,hi] at hi'
          cases hi'
          exact each hd hx
        · subst heq
          rw [List.getElem?_append_right (Nat.le_refl _),Nat.sub_self] at hi
          rw [List.getElem?_append_right (by simp)] at hi'
          simp only [List.length_map,Nat.sub_self] at hi'
          cases hi;cases hi'
          exact theOwn hmem h3 hx
        · obtain ⟨j,hj⟩ : ∃ j,i - p.length = j + 1:=⟨i - p.length - 1,by omega⟩
          rw [List.getElem?_append_right (by omega),hj,List.getElem?_cons_succ] at hi
          rw [List.getElem?_append_right (by simp;omega)] at hi'
          simp only [List.length_map,hj,List.getElem?_cons_succ,List.getElem?_map] at hi'
          rw [hi] at hi'
          cases hi'
          exact each hd hx
    rcases rep_res R.rep (fun _ _=>.inr trivial) with ⟨d,rfl,hd⟩ | ⟨hne,vs,rfl,hs,hr⟩
    · have hlen:=reown_len (id:=id) [d]
      have : ∃ d',(reown id [d]).1 = [d']:=by
        match hq : (reown id [d]).1,hlen with
        | [d'],_=>exact ⟨d',rfl⟩
      obtain ⟨d',hd'⟩:=this
      have hv : RepV G' w' v d:=repV_arg hd (hres d (by simp))
      have:=comp 0 (d:=d) (d':=d') rfl (by rw [hd'];rfl) hv
      rw [hd']
      exact .v this
    · have hlen:=reown_len (id:=id) l
      have hmk : mkRes (reown id l).1 = .tup (reown id l).1:=by
        match hq : (reown id l).1 with
        | []=>rfl
        | [d'] =>
          rw [hq] at hlen
          match l,hlen with
          | [d],_=>exact absurd rfl (hne d)
        | _ :: _ :: _=>rfl
      rw [hmk]
      refine .tup vs _ (by rw [hlen];exact hs) fun i x d' hx hd'=>?_
      have hlt:=(Array.getElem?_eq_some_iff.1 hx).1
      have hld : l[i]? = some (l[i]'(by omega)):=List.getElem?_eq_getElem (by omega)
      exact comp i hld hd' (hr i x _ hx hld)
end
end Go.Proofs.Ythadnhpkeljdoaa.pv
namespace Go.Proofs.Ythadnhpkeljdoaa.gn
open Go.Lib (hid)
open Go.RowKit Go.Shelf sx ed
section
variable {bs : List Int} {m : Int} {X : Nat}
theorem name_ex (K : Nat) : Ex0 bs (3) 37 K:=by
 have HX : RowKit.Hid (0 ≤ 0):=hid (Nat.le_refl 0)
 obtain ⟨s1,K1,H1⟩:=of_ex (bs:=bs) K #[.string ⟨#[102]⟩,.string ⟨#[103]⟩,.string ⟨#[120]⟩,.string ⟨#[121]⟩,.string ⟨#[109,97,112]⟩] 5 3 (by decide) (by decide) rfl rfl
 refine ⟨s1,K1,hid ⟨Nat.le_trans H1.out.1 (by have:=HX.out;omega),fun B ao cap W h=>?_⟩⟩
 have G0:=st0 h
 clear h
 go_enter Try.func37,Try.ntmps37
 go_wp2_with fail
 (with_reducible refine (tO H1 G0).mono ?_);rintro e w1 ⟨rfl,G1⟩
 go_wp2_with fail
 go_ret
 exact ⟨rfl,G1.out.g,G1.out.k⟩
theorem params_ex (K : Nat) : Ex0 bs (8) 38 K:=by
 have HX : RowKit.Hid (0 ≤ 0):=hid (Nat.le_refl 0)
 obtain ⟨s1,K1,H1⟩:=of_ex (bs:=bs) K #[.string ⟨#[]⟩,.string ⟨#[]⟩,.string ⟨#[40,120,41]⟩,.string ⟨#[40,102,59,32,36,121,41]⟩,.string ⟨#[40,36,120,41]⟩,.string ⟨#[40,103,59,32,120,41]⟩] 6 7 (by decide) (by decide) rfl rfl
 refine ⟨s1,K1,hid ⟨Nat.le_trans H1.out.1 (by have:=HX.out;omega),fun B ao cap W h=>?_⟩⟩
 have G0:=st0 h
 clear h
 go_enter Try.func38,Try.ntmps38
 go_wp2_with fail
 (with_reducible refine (tO H1 G0).mono ?_);rintro e w1 ⟨rfl,G1⟩
 go_wp2_with fail
 go_ret
 exact ⟨rfl,G1.out.g,G1.out.k⟩
theorem pattern_ex (hs : Gs bs m X) (hX : X ≤ 100000000000000) {d : Int} (hd : d - 1 ≤ m) (hd0 : -90 ≤ d) (hd9 : d ≤ 1000) (K : Nat) : Ex1 bs (X + 30) 36 d K:=by
 obtain ⟨d1,hd1⟩ : ∃ d1,d - 1 = d1:=⟨_,rfl⟩
 have w1 : wrap64 (d - 1) = d1:=by rw [IntWalk.wrap64_in _ (by omega)];exact hd1
 have w2 : IntKind.i64.wrap (d - 1) = d1:=(IntWalk.i64_left _).trans w1
 have hPipe1:=hid (hs.pipe d1 (by omega) (by omega));have hPost1:=hid (hs.post d1 (by omega) (by omega))
 have HX:=hid hX
 clear hs hX hd hd0 hd9 hd1
 obtain ⟨z1,K1,hz1,H1⟩:=next_ex (bs:=bs) K 6 6 rfl (by decide) (by decide)
 have hzz : z1 = 0 ∨ z1 = 1 ∨ z1 = 2 ∨ z1 = 3 ∨ z1 = 4 ∨ z1 = 5:=by omega
 clear hz1
 rcases hzz with rfl | rfl | rfl | rfl | rfl | rfl
 ·skip
  obtain ⟨s2,K2,H2⟩:=name_ex (bs:=bs) K1
  obtain ⟨s3,c3,Z3,q3⟩:=catL ⟨#[91,36]⟩ s2 2 H2.out.1 rfl (by have:=HX.out;omega)
  obtain ⟨s4,c4,Z4,q4⟩:=catR s3 ⟨#[44,32,36]⟩ 3 Z3.out rfl (by have:=HX.out;omega)
  obtain ⟨s5,K5,H5⟩:=name_ex (bs:=bs) K2
  obtain ⟨s6,c6,Z6,q6⟩:=cat s4 s5 Z4.out H5.out.1 (by have:=HX.out;omega)
  obtain ⟨s7,c7,Z7,q7⟩:=catR s6 ⟨#[93]⟩ 1 Z6.out rfl (by have:=HX.out;omega)
  refine ⟨s7,K5,hid ⟨Nat.le_trans Z7.out (by have:=HX.out;omega),fun B ao cap W h=>?_⟩⟩
  have G0:=st0 h
  clear h
  go_enter Try.func36,Try.ntmps36
  go_wp2_with fail
  (with_reducible refine (tN H1 G0).mono ?_);rintro e w1 ⟨rfl,G1⟩
  go_wp2_with fail
  (with_reducible refine (tB H2 G1).mono ?_);rintro e w2 ⟨rfl,G2⟩
  go_wp2_with fail
  (with_reducible refine (tB H5 G2).mono ?_);rintro e w5 ⟨rfl,G5⟩
  go_wp2_with fail
  go_ret
  exact ⟨rfl,G5.out.g,G5.out.k⟩
 ·skip
  obtain ⟨s8,K8,H8⟩:=name_ex (bs:=bs) K1
  obtain ⟨s9,c9,Z9,q9⟩:=catL ⟨#[123,36]⟩ s8 2 H8.out.1 rfl (by have:=HX.out;omega)
  obtain ⟨s10,c10,Z10,q10⟩:=catR s9 ⟨#[44,32,97,58,32,36]⟩ 6 Z9.out rfl (by have:=HX.out;omega)
  obtain ⟨s11,K11,H11⟩:=name_ex (bs:=bs) K8
  obtain ⟨s12,c12,Z12,q12⟩:=cat s10 s11 Z10.out H11.out.1 (by have:=HX.out;omega)
  obtain ⟨s13,c13,Z13,q13⟩:=catR s12 ⟨#[125]⟩ 1 Z12.out rfl (by have:=HX.out;omega)
  refine ⟨s13,K11,hid ⟨Nat.le_trans Z13.out (by have:=HX.out;omega),fun B ao cap W h=>?_⟩⟩
  have G0:=st0 h
  clear h
  go_enter Try.func36,Try.ntmps36
  go_wp2_with fail
  (with_reducible refine (tN H1 G0).mono ?_);rintro e w1 ⟨rfl,G1⟩
  go_wp2_with fail
  (with_reducible refine (tB H8 G1).mono ?_);rintro e w8 ⟨rfl,G8⟩
  go_wp2_with fail
  (with_reducible refine (tB H11 G8).mono ?_);rintro e w11 ⟨rfl,G11⟩
  go_wp2_with fail
  go_ret
  exact ⟨rfl,G11.out.g,G11.out.k⟩
 ·skip
  obtain ⟨s14,K14,H14⟩:=name_ex (bs:=bs) K1
  obtain ⟨s15,c15,Z15,q15⟩:=catL ⟨#[123,36]⟩ s14 2 H14.out.1 rfl (by have:=HX.out;omega)
  obtain ⟨s16,c16,Z16,q16⟩:=catR s15 ⟨#[58,32,91,36]⟩ 4 Z15.out rfl (by have:=HX.out;omega)
  obtain ⟨s17,K17,H17⟩:=name_ex (bs:=bs) K14
  obtain ⟨s18,c18,Z18,q18⟩:=cat s16 s17 Z16.out H17.out.1 (by have:=HX.out;omega)
  obtain ⟨s19,c19,Z19,q19⟩:=catR s18 ⟨#[93,44,32,34,98,34,58,32,36,121,125]⟩ 11 Z18.out rfl (by have:=HX.out;omega)
  refine ⟨s19,K17,hid ⟨Nat.le_trans Z19.out (by have:=HX.out;omega),fun B ao cap W h=>?_⟩⟩
  have G0:=st0 h
  clear h
  go_enter Try.func36,Try.ntmps36
  go_wp2_with fail
  (with_reducible refine (tN H1 G0).mono ?_);rintro e w1 ⟨rfl,G1⟩
  go_wp2_with fail
  (with_reducible refine (tB H14 G1).mono ?_);rintro e w14 ⟨rfl,G14⟩
  go_wp2_with fail
  (with_reducible refine (tB H17 G14).mono ?_);rintro e w17 ⟨rfl,G17⟩
  go_wp2_with fail
  go_ret
  exact ⟨rfl,G17.out.g,G17.out.k⟩
 ·skip
  obtain ⟨s20,K20,H20⟩:=hPipe1.out K1
  obtain ⟨s21,c21,Z21,q21⟩:=catL ⟨#[123,40]⟩ s20 2 H20.out.1 rfl (by have:=HX.out;omega)
  obtain ⟨s22,c22,Z22,q22⟩:=catR s21 ⟨#[41,58,32,36]⟩ 4 Z21.out rfl (by have:=HX.out;omega)
  obtain ⟨s23,K23,H23⟩:=name_ex (bs:=bs) K20
  obtain ⟨s24,c24,Z24,q24⟩:=cat s22 s23 Z22.out H23.out.1 (by have:=HX.out;omega)
  obtain ⟨s25,c25,Z25,q25⟩:=catR s24 ⟨#[125]⟩ 1 Z24.out rfl (by have:=HX.out;omega)
  refine ⟨s25,K23,hid ⟨Nat.le_trans Z25.out (by have:=HX.out;omega),fun B ao cap W h=>?_⟩⟩
  have G0:=st0 h
  clear h
  go_enter Try.func36,Try.ntmps36
  go_wp2_with fail
  (with_reducible refine (tN H1 G0).mono ?_);rintro e w1 ⟨rfl,G1⟩
  go_wp2_with fail
  (with_reducible refine (tA H20 G1).mono ?_);rintro e w20 ⟨rfl,G20⟩
  go_wp2_with fail
  (with_reducible refine (tB H23 G20).mono ?_);rintro e w23 ⟨rfl,G23⟩
  go_wp2_with fail
  go_ret
  exact ⟨rfl,G23.out.g,G23.out.k⟩
 all_goals
  obtain ⟨s26,K26,H26⟩:=name_ex (bs:=bs) K1
  obtain ⟨s27,c27,Z27,q27⟩:=catL ⟨#[36]⟩ s26 1 H26.out.1 rfl (by have:=HX.out;omega)
  refine ⟨s27,K26,hid ⟨Nat.le_trans Z27.out (by have:=HX.out;omega),fun B ao cap W h=>?_⟩⟩
  have G0:=st0 h
  clear h
  go_enter Try.func36,Try.ntmps36
  go_wp2_with fail
  (with_reducible refine (tN H1 G0).mono ?_);rintro e w1 ⟨rfl,G1⟩
  go_wp2_with fail
  (with_reducible refine (tB H26 G1).mono ?_);rintro e w26 ⟨rfl,G26⟩
  go_wp2_with fail
  go_ret
  exact ⟨rfl,G26.out.g,G26.out.k⟩
theorem args_ex (hs : Gs bs m X) (hX : X ≤ 100000000000000) {d : Int} (hd : d ≤ m) (hd0 : -90 ≤ d) (hd9 : d ≤ 1000) (K : Nat) : Ex1 bs (2 * X + 10) 52 d K:=by
 have hPipe0:=hid (hs.pipe d hd (by omega));have hPost0:=hid (hs.post d hd (by omega));have HX:=hid hX
 clear hs hX hd hd0 hd9
 obtain ⟨s1,K1,H1⟩:=hPipe0.out K
 obtain ⟨s2,c2,Z2,q2⟩:=catL ⟨#[40]⟩ s1 1 H1.out.1 rfl (by have:=HX.out;omega)
 obtain ⟨z3,K3,hz3,H3⟩:=next_ex (bs:=bs) K1 2 2 rfl (by decide) (by decide)
 have hzz : z3 = 0 ∨ z3 = 1:=by omega
 clear hz3
 rcases hzz with rfl | rfl
 ·skip
  obtain ⟨s4,c4,Z4,q4⟩:=catR s2 ⟨#[41]⟩ 1 Z2.out rfl (by have:=HX.out;omega)
  refine ⟨s4,K3,hid ⟨Nat.le_trans Z4.out (by have:=HX.out;omega),fun B ao cap W h=>?_⟩⟩
  have G0:=st0 h
  clear h
  go_enter Try.func52,Try.ntmps52
  go_wp2_with fail
  (with_reducible refine (tA H1 G0).mono ?_);rintro e w1 ⟨rfl,G1⟩
  go_wp2_with fail
  (with_reducible refine (tN H3 G1).mono ?_);rintro e w3 ⟨rfl,G3⟩
  go_wp2_with fail
  go_ret
  exact ⟨rfl,G3.out.g,G3.out.k⟩
 ·skip
  obtain ⟨s5,c5,Z5,q5⟩:=catR s2 ⟨#[59,32]⟩ 2 Z2.out rfl (by have:=HX.out;omega)
  obtain ⟨s6,K6,H6⟩:=hPipe0.out K3
  obtain ⟨s7,c7,Z7,q7⟩:=cat s5 s6 Z5.out H6.out.1 (by have:=HX.out;omega)
  obtain ⟨s8,c8,Z8,q8⟩:=catR s7 ⟨#[41]⟩ 1 Z7.out rfl (by have:=HX.out;omega)
  refine ⟨s8,K6,hid ⟨Nat.le_trans Z8.out (by have:=HX.out;omega),fun B ao cap W h=>?_⟩⟩
  have G0:=st0 h
  clear h
  go_enter Try.func52,Try.ntmps52
  go_wp2_with fail
  (with_reducible refine (tA H1 G0).mono ?_);rintro e w1 ⟨rfl,G1⟩
  go_wp2_with fail
  (with_reducible refine (tN H3 G1).mono ?_);rintro e w3 ⟨rfl,G3⟩
  go_wp2_with fail
  (with_reducible refine (tA H6 G3).mono ?_);rintro e w6 ⟨rfl,G6⟩
  go_wp2_with fail
  go_ret
  exact ⟨rfl,G6.out.g,G6.out.k⟩
end
end Go.Proofs.Ythadnhpkeljdoaa.gn
namespace Go.Proofs.Ythadnhpkeljdoaa.nd
open Go.RowKit Go.Shelf sx ed
attribute [local go_sem] Oper.semAt_some
structure PR (G : Nat) (ov pv : Value) (q : List Int) (m k : Nat) (L : List Value) (N : Nat) (W1 : World) (d : Nat → Bool) (v9 v10 v11 v12 v13 : Value) (u : World) : Prop where
  p0 : d 0 = true → v9 = ov
  p1 : d 1 = true → v10 = pv
  q2 : d 2 = true → d 1 = true
  q3 : d 3 = true → d 2 = true
  q4 : d 4 = true → d 0 = true ∧ d 3 = true
  q5 : d 5 = true → d 4 = true
  w1 : d 2 = false → u = W1
  w2 : d 2 = true → d 3 = false → ∃ ao cap,v11 = .slice ao m cap ∧ IntsAt (Frsh W1.heap.size u.heap.size) u (.slice ao m cap) q ∧ Below W1.heap.size W1 u
  w3 : d 3 = true → d 4 = false → ∃ z ao cap,IntsAt (Frsh W1.heap.size z.heap.size) z (.slice ao m cap) q ∧ Below W1.heap.size W1 z ∧ u = z.alloc (.cells #[.slice ao m cap] 31) ∧ v12 = .slice (some ⟨z.heap.size,0,none⟩) 1 1
  w4 : d 4 = true → d 5 = false → ∃ z ao cap,IntsAt (Frsh W1.heap.size z.heap.size) z (.slice ao m cap) q ∧ Below W1.heap.size W1 z ∧ u.ownsRow G 31 1 v13 (k + 1) (L ++ [.slice ao m cap]) ∧ (z.alloc (.cells #[.slice ao m cap] 31)).grownBy u ov.ownBlock ∧ (v13.ownBlock = ov.ownBlock ∨ v13.ownBlock = some (z.heap.size + 1))
  w5 : d 5 = true → ∃ z w2 v' ao cap,IntsAt (Frsh W1.heap.size z.heap.size) z (.slice ao m cap) q ∧ Below W1.heap.size W1 z ∧ w2.ownsRow G 31 1 v' (k + 1) (L ++ [.slice ao m cap]) ∧ (z.alloc (.cells #[.slice ao m cap] 31)).grownBy w2 ov.ownBlock ∧ (v'.ownBlock = ov.ownBlock ∨ v'.ownBlock = some (z.heap.size + 1)) ∧ u = w2.setCell ⟨N,0,none⟩ v'
theorem Fo.walk_short (p : List Nat) : ∀ (f : Fo) (i : Nat) (y : Told),y ∈ f.walk p i → y.1.length ≤ p.length + f.deep
  | .nil,_,_,h=>by simp [Fo.walk] at h
  | .cons k t kids r,i,y,h=>by
    simp only [Fo.walk,List.mem_cons,List.mem_append] at h
    simp only [Fo.deep]
    rcases h with rfl | h | h
    · simp;omega
    · have:=Fo.walk_short (p ++ [i]) kids 0 y h
      simp at this
      omega
    · have:=Fo.walk_short p r (i + 1) y h
      omega
theorem Nd.walk_short (x : Nd) {p : List Nat} {y : Told} (h : y ∈ x.walk p) : y.1.length ≤ p.length + x.deep:=by
  simp only [Nd.walk,List.mem_cons] at h
  rcases h with rfl | h
  · simp
  · have:=Fo.walk_short p x.kids 0 y h
    simp only [Nd.deep];omega
theorem not_of {p q : Bool} (h : p = true → q = true) (hq : q = false) : p = false:=by
  cases p with
  | false=>rfl
  | true=>rw [h rfl] at hq;cases hq
theorem keeps_below {W z : World} (hz : Below W.heap.size W z) : KeepsOthers W z:=⟨hz.size,fun k o hk _=>(hz.block k (Array.getElem?_eq_some_iff.1 hk).1).trans hk⟩
theorem PR.last {w W z w2 : World} {N G m : Nat} {pre : List Told} {y : Told} {D : Nat → Prop} {ov v' : Value} {L : List Value} {ao : Option Addr} {cap : Nat} (hN : N < G) (hwN : w.heap.size ≤ N) (hG : G ≤ W.heap.size) (hnd : ¬ D N)
    (hb : Boxed W N 28 ov) (hrow : W.ownsRow G 31 1 ov pre.length L) (hod : ∀ k,ov.ownBlock = some k → ¬ D k) (hL : ListsAt (SP G D ov W) W L (pre.map fun x=>ints x.1)) (hI : IB w D W) (hDl : ∀ k,D k → k < W.heap.size)
    (hz : Below W.heap.size W z) (hi : IntsAt (Frsh W.heap.size z.heap.size) z (.slice ao m cap) (ints y.1)) (hown : w2.ownsRow G 31 1 v' (pre.length + 1) (L ++ [.slice ao m cap])) (hg : (z.alloc (.cells #[.slice ao m cap] 31)).grownBy w2 ov.ownBlock) (hat : v'.ownBlock = ov.ownBlock ∨ v'.ownBlock = some (z.heap.size + 1)) :
    KeepsOthers W (w2.setCell ⟨N,0,none⟩ v') ∧ KD w.heap.size D W (w2.setCell ⟨N,0,none⟩ v') ∧ PI w N G (pre ++ [y]) D (w2.setCell ⟨N,0,none⟩ v'):=by
  have hzs:=hz.size
  have hgs:=hg.size
  rw [World.size_alloc] at hgs
  have hws:=hI.1.size
  have hlow : ∀ k,k < z.heap.size → ov.ownBlock ≠ some k → w2.heap[k]? = z.heap[k]?:=fun k hk ho=>(hg.block k (by simp;omega) (fun e=>ho e.symm)).trans (Below.heap_alloc _ _ _ hk)
  have hovl : ∀ j,ov.ownBlock = some j → G ≤ j ∧ j < W.heap.size:=fun j hj=>hrow.lt j hj
  have hnN : ov.ownBlock ≠ some N:=fun e=>by have:=(hovl N e).1;omega
  have hbN : Boxed w2 N 28 ov:=(hlow N (by have:=Boxed.lt hb;omega) hnN).trans ((hz.block N (Boxed.lt hb)).trans hb)
  have hvN : v'.ownBlock ≠ some N:=fun e=>by
    have:=(hown.lt N e).1
    omega
  have hset : ∀ k,k ≠ N → (w2.setCell ⟨N,0,none⟩ v').heap[k]? = w2.heap[k]?:=fun k hk=>Below.heap_setCell _ _ _ k (fun e=>hk e)
  have hbw : Below w.heap.size W (w2.setCell ⟨N,0,none⟩ v') :=
    (((hz.mono hws).alloc (by omega) _).grown hg (by simp;omega) (fun k hk=>by have:=(hovl k hk).1;omega)).setCell (p:=⟨N,0,none⟩) hwN _
  have hkD : ∀ k,D k → k < W.heap.size → (w2.setCell ⟨N,0,none⟩ v').heap[k]? = W.heap[k]?:=fun k hk hl=>by
    rw [hset k (fun e=>hnd (e ▸ hk)),hlow k (by omega) (fun e=>hod k e hk),hz.block k hl]
  refine ⟨?_,⟨hbw,hkD⟩,⟨v',_,⟨hbN.set v',hnd⟩,by rw [List.length_append];exact own_keep hown (fun k e=>hset k (fun e'=>hvN (e' ▸ e))),fun k e hd=>?_,?_,by simp;omega⟩,hI.1.trans hbw,hI.2⟩
  · refine (((keeps_below hz).trans (KeepsOthers.alloc z _)).trans (KeepsOthers.of_grownBy hg fun j o ej hj=>?_)).trans (KeepsOthers.setCell _ _ _)
    rcases hrow.2 with ⟨e,_⟩ | ⟨g,cp,cur,e,_,hgb,_⟩
    · rw [e] at ej;simp [Value.ownBlock] at ej
    · rw [e] at ej
      obtain rfl : g = j:=by simpa [Value.ownBlock] using ej
      have hl:=(Array.getElem?_eq_some_iff.1 hgb).1
      have e1 : (z.alloc (.cells #[.slice ao m cap] 31)).heap[g]? = some (.cells cur 31 (0,0)):=(Below.heap_alloc z _ g (by omega)).trans ((hz.block g hl).trans hgb)
      rw [e1] at hj;cases hj;rfl
  · rcases hat with h | h
    · exact hod k (h ▸ e) hd
    · rw [h] at e
      cases e
      have:=hDl _ hd
      omega
  · rw [List.map_append,List.map_cons,List.map_nil]
    have hno : ∀ k,k < z.heap.size → ov.ownBlock ≠ some k → v'.ownBlock ≠ some k:=fun k hk ho e=>by
      rcases hat with h | h
      · exact ho (h ▸ e)
      · rw [h] at e;cases e;omega
    refine ListsAt.snoc (hL.keep (fun k hk=>⟨hk.1,by have:=hk.2.1;simp;omega,hk.2.2.1,hno k (by have:=hk.2.1;omega) hk.2.2.2⟩) (fun k hk=>?_)) (hi.keep (fun k hk=>⟨by have:=hk.1;omega,by have:=hk.2;simp;omega,fun hd=>by have:=hDl k hd;have:=hk.1;omega,hno k hk.2 (fun e=>by have:=(hovl k e).2;have:=hk.1;omega)⟩) (fun k hk=>?_))
    · rw [hset k (fun e=>by have:=hk.1;omega),hlow k (by have:=hk.2.1;omega) hk.2.2.2,hz.block k hk.2.1]
    · rw [hset k (fun e=>by have:=hk.1;omega),hlow k hk.2 (fun e=>by have:=(hovl k e).2;have:=hk.1;omega)]
end Go.Proofs.Ythadnhpkeljdoaa.nd
namespace Go.Proofs.Ythadnhpkeljdoaa.pa
open Go.RowKit nd pr
theorem lex_mem (x : Lx.Lex) (l : List UInt8) : ∀ t ∈ (Lx.lexA x l).1,∃ y m k n,Lx.find (Lx.tried y) m = some (k,n) ∧ t = (k,m.take n) ∧ m.length ≤ l.length:=by
  generalize hn : l.length = n
  induction n using Nat.strongRecOn generalizing l x with
  | ind n ih =>
    subst hn
    by_cases h0 : l = []
    · subst h0;rw [Lx.lexA_nil];intro t ht;cases ht
    · cases hx : Lx.next x l with
      | error e=>rw [Lx.lexA_err hx h0];intro t ht;cases ht
      | ok p =>
        obtain ⟨k,n,y⟩:=p
        have hl:=Lx.next_le hx
        rw [Lx.lexA_ok hx h0]
        intro t ht
        rcases List.mem_cons.1 ht with rfl | ht
        · exact ⟨x,l,k,n,(Lx.next_find hx).1,rfl,Nat.le_refl _⟩
        · obtain ⟨y',m,k',n',h1,h2,h3⟩:=ih (l.drop n).length (by rw [List.length_drop];omega) y (l.drop n) rfl t ht
          exact ⟨y',m,k',n',h1,h2,by rw [List.length_drop] at h3;omega⟩
theorem find_some {l : List UInt8} {k : Int} {n : Nat} : ∀ {sh : List Lx.Kd},Lx.find sh l = some (k,n) → ∃ f,(k,f) ∈ sh ∧ f l = n ∧ n ≠ 0
  | [],h=>by cases h
  | (k',f) :: t,h=>by
    unfold Lx.find at h
    by_cases h0 : f l = 0
    · rw [if_pos h0] at h
      obtain ⟨f',h1,h2⟩:=find_some h
      exact ⟨f',List.mem_cons_of_mem _ h1,h2⟩
    · rw [if_neg h0] at h
      cases h
      exact ⟨f,List.mem_cons_self,rfl,h0⟩
theorem tried_mem {y : Lx.Lex} {h : Lx.Kd} (hm : h ∈ Lx.tried y) : h ∈ Lx.closing ∨ h ∈ Lx.inside:=by
  unfold Lx.tried at hm
  split at hm
  · exact .inr hm
  · split at hm
    · exact .inl hm
    · exact .inl (List.mem_cons_of_mem _ hm)
theorem take_head {l : List UInt8} {n : Nat} (h : n ≠ 0) : (l.take n).getD 0 0 = l.getD 0 0:=by
  cases l with
  | nil=>simp
  | cons b r=>cases n with
    | zero=>exact absurd rfl h
    | succ n=>rfl
theorem marked_pre {c : UInt8} {f : List UInt8 → Nat} {l : List UInt8} (h : Lx.marked [c] f l ≠ 0) : Lib.hasPrefix (l.take (Lx.marked [c] f l)) [c] = true:=by
  rw [Lx.pre_take]
  unfold Lx.marked at h ⊢
  by_cases h1 : Lib.hasPrefix l [c] = true
  · rw [if_pos h1] at h ⊢
    by_cases h2 : f (l.drop ([c] : List UInt8).length) = 0
    · rw [if_pos h2] at h;exact absurd rfl h
    · rw [if_neg h2,h1,Bool.and_true]
      exact decide_eq_true (by omega)
  · rw [if_neg h1] at h;exact absurd rfl h
theorem word_head {l : List UInt8} (h : Sg.word l ≠ 0) : Sg.cL ((l.getD 0 0).toNat : Int) = true:=by
  have hs : Sg.simple l ≠ 0:=fun e=>by unfold Sg.word at h;rw [if_pos e] at h;exact h rfl
  unfold Sg.simple at hs
  by_cases h1 : Sg.at' Sg.cL l 0 = true
  · exact Lx.at_get h1
  · rw [if_neg h1] at hs;exact absurd rfl hs
theorem oper_mem {l : List UInt8} (h : Sg.oper l ≠ 0) : l.take (Sg.oper l) ∈ Sg.opers:=by
  unfold Sg.oper at h ⊢
  cases hf : Sg.opers.find? (fun o=>Lib.hasPrefix l o) with
  | none=>rw [hf] at h;exact absurd rfl h
  | some o =>
    have h1 : Lib.hasPrefix l o = true:=by simpa using List.find?_some hf
    have h2 : o <+: l:=List.isPrefixOf_iff_prefix.1 h1
    rw [show l.take o.length = o from (List.prefix_iff_eq_take.1 h2).symm]
    exact List.mem_of_find?_eq_some hf
theorem signs_head : ∀ s ∈ [minus,semi,colon,bar,lpar,rpar,lbr,rbr,lbrace,rbrace,comma,dot,dots,quest],Sg.cL ((s.data.toList.getD 0 0).toNat : Int) = false:=by decide +kernel
theorem words_no : ∀ s ∈ [wdef,wlabel,wtry,wcatch,was,wif,wthen,welif,welse,wend,wreduce,wforeach,wbreak,wimport,winclude],s.data.toList ∉ Sg.opers:=by decide +kernel
theorem kinds_clo : ∀ k ∈ Lx.closing.map (·.1),0 ≤ k ∧ k ≤ 13:=by decide
theorem kinds_in : ∀ k ∈ Lx.inside.map (·.1),0 ≤ k ∧ k ≤ 13:=by decide
theorem shape_of {y : Lx.Lex} {k : Int} {f : List UInt8 → Nat} (h : (k,f) ∈ Lx.tried y) : (0 ≤ k ∧ k ≤ 13) ∧ (k = 4 → f = Lx.marked [46] Sg.simple) ∧ (k = 5 → f = Lx.marked [36] Sg.word) ∧ (k = 3 → f = Sg.word) ∧ (k = 13 → f = Sg.oper):=by
  rcases tried_mem h with h | h
  · refine ⟨kinds_clo k (List.mem_map.2 ⟨_,h,rfl⟩),?_,?_,?_,?_⟩ <;>
    · intro e
      subst e
      unfold Lx.closing Lx.outside at h
      simp only [List.mem_cons,Prod.mk.injEq,List.not_mem_nil,or_false] at h
      simpa using h
  · refine ⟨kinds_in k (List.mem_map.2 ⟨_,h,rfl⟩),?_,?_,?_,?_⟩ <;>
    · intro e
      subst e
      unfold Lx.inside at h
      simp at h
def asT (t : Lx.Tok) : Tk:=(t.1,⟨t.2.toArray⟩)
theorem lex_fit (x : Lx.Lex) (l : List UInt8) (hl : l.length ≤ 1000000) : ∀ t ∈ (Lx.lexA x l).1,FitT (asT t):=by
  intro t ht
  obtain ⟨y,m,k,n,hf,rfl,hm⟩:=lex_mem x l t ht
  obtain ⟨f,hk,hfl,hn⟩:=find_some hf
  obtain ⟨h0,h4,h5,h3,h13⟩:=shape_of hk
  have hd : ∀ s : ByteArray,(⟨(m.take n).toArray⟩ : ByteArray) = s → m.take n = s.data.toList:=fun s e=>by rw [← e]
  refine ⟨h0,?_,?_,?_,?_,?_⟩
  · show (m.take n).toArray.size ≤ 1000000
    rw [List.size_toArray,List.length_take];omega
  · intro e
    have e : k = 4:=e
    have hf2:=h4 e
    subst hf2
    show Lib.hasPrefix (m.take n) [46] = true
    rw [← hfl]
    exact marked_pre (by rw [hfl];exact hn)
  · intro e
    have e : k = 5:=e
    have hf2:=h5 e
    subst hf2
    show Lib.hasPrefix (m.take n) [36] = true
    rw [← hfl]
    exact marked_pre (by rw [hfl];exact hn)
  · intro e hmem
    have e : k = 3:=e
    have hf2:=h3 e
    subst hf2
    have h1:=signs_head _ hmem
    have h2:=word_head (l:=m) (by rw [hfl];exact hn)
    rw [← take_head (l:=m) hn] at h2
    have h1 : Sg.cL (((m.take n).getD 0 0).toNat : Int) = false:=h1
    rw [h2] at h1
    cases h1
  · intro e hmem
    have e : k = 13:=e
    have hf2:=h13 e
    subst hf2
    have h1:=words_no _ hmem
    refine h1 ?_
    show m.take n ∈ Sg.opers
    rw [← hfl]
    exact oper_mem (by rw [hfl];exact hn)
end Go.Proofs.Ythadnhpkeljdoaa.pa
namespace Go.Proofs.Ythadnhpkeljdoaa.lx
open Go.RowKit Go.ChangeShapes Go.WideShapes Go.ChangeAt Go.ChangeMaps
open sg (lst_len)
abbrev Tk:=Int × ByteArray
def TksAt (n : Nat) (W : World) (v : Value) (ts : List Tk) : Prop :=
 ∃ ao cap,v = .slice ao ts.length cap ∧ ts.length ≤ maxLen ∧ ∀ (j : Nat) t,ts[j]? = some t → ∃ g off,ao = some ⟨g,off,none⟩ ∧ g < n ∧ W.cell? ⟨g,off + j * 2,none⟩ = some (.int .i64 t.1) ∧ W.cell? ⟨g,off + j * 2 + 1,none⟩ = some (.string t.2)
abbrev asTk (t : Lx.Tok) : Tk:=(t.1,⟨t.2.toArray⟩)
def sizeT (ts : List Tk) : Nat:=(ts.map (·.2.size)).sum
theorem take_snoc {α : Type} (l : List α) (k : Nat) (t : α) (h : l[k]? = some t) : l.take (k + 1) = l.take k ++ [t]:=by rw [List.take_add_one,h];rfl
theorem sizeT_take (ts : List Tk) (k : Nat) : sizeT (ts.take k) ≤ sizeT ts:=by
 have h:=congrArg sizeT (List.take_append_drop k ts)
 simp only [sizeT,List.map_append,List.sum_append] at h ⊢
 omega
end Go.Proofs.Ythadnhpkeljdoaa.lx
namespace Go.Proofs.Ythadnhpkeljdoaa.lx
open Go.RowKit
open sg (lst_len)
def Ok (l : List UInt8) : Prop:=utf.chkL l.length l 0 = -1
instance (l : List UInt8) : Decidable (Ok l):=inferInstanceAs (Decidable (_ = _))
end Go.Proofs.Ythadnhpkeljdoaa.lx
