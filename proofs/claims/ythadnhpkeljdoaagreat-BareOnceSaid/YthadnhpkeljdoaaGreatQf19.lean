/- Ground of the law: PvK, NdTree, Gx2, LxRight, LxMath2. -/
import Derived.Test.YthadnhpkeljdoaaGreatQf17
import Derived.Test.YthadnhpkeljdoaaGreatQf01
import Derived.Deep.RegionHeld3
import Derived.StillTailTactics
import Derived.Test.YthadnhpkeljdoaaGreatQf10
import Derived.ProofKit
import Derived.LaidMore
import Derived.Lay
import Derived.Stop.Joined
import Derived.Shelf.Strings.BuilderK
import Derived.WalkKit
import Derived.Test.YthadnhpkeljdoaaGreatQf00
set_option maxRecDepth 100000
set_option maxHeartbeats 8000000
set_option linter.unusedVariables false
set_option linter.unusedSimpArgs false
namespace Go.Proofs.YthadnhpkeljdoaaGreat.pv
open Go.RowKit
def G0 (w : World) (imm : Nat → Nat → Prop) : Gh:=⟨w.heap.size,imm,fun _=>none,fun _=>none⟩
structure RetOk (I : Nat → Nat → Prop) (w : World) (G : Gh) (w' : World) (v : Value) (l : List D) : Prop where
  below : Below w.heap.size w w'
  imm : ∀ g i,I g i → G.imm g i
  immo : ∀ g i,g < w.heap.size → G.imm g i → I g i
  immlt : ∀ g i,G.imm g i → g < w'.heap.size
  rep : Rep G w' v (mkRes l)
  tok : ∀ T,G.tok 0 = some T → 0 < T.sz ∧ w'.ownsRow w.heap.size T.e T.sz T.v T.n T.xs ∧ (∀ g,T.v.ownBlock = some g → ∀ i,i < T.n * T.sz → G.imm g i) ∧ ∀ g i,T.v.ownBlock = some g → G.imm g i → i < T.n * T.sz
  full : ∀ k e sz es,D.sl (.own k e sz) es ∈ l → k = 0 ∧ ∃ T,G.tok 0 = some T ∧ T.n = es.length
def Ok (P : Program) (f : FuncId) (ds : List D) (l : List D) : Prop :=
  (∀ (args : Array Value) (w : World),(callFunc f args).run P w = .ok (.enter f args) w) ∧
  ∀ (imm : Nat → Nat → Prop) (w : World) (vs : Array Value),(∀ g i,imm g i → g < w.heap.size) → vs.size = ds.length → (∀ (i : Nat) (x : Value) (d : D),vs[i]? = some x → ds[i]? = some d → RepV (G0 w imm) w x d) →
    Calls P f vs w fun e w'=>∃ v G,e = .returned v ∧ RetOk imm w G w' v l
section
variable {P : Program} {ty : Tys} {n : Nat} {G : Gh} {m : Mem} {a : Act} {w : World} {o : Oper} {id : Nat}
theorem repC_move {G1 : Gh} (hi : ∀ g i,G.imm g i → G1.imm g i) {x : Value} {d : D} (h : RepC G w x d) (hn : noOwn d = true) : RepC G1 w x d:=by
  induction h with
  | junk x h=>exact .junk x h
  | v x h=>exact .v x h
  | sl a cap k es g q sz xs ha hc hr hl hm hk ih =>
    refine .sl a cap k es g q sz xs ha (fun i e j d h1 h2=>⟨(hc i e j d h1 h2).1,hi _ _ (hc i e j d h1 h2).2⟩) (fun i e j d h1 h2=>ih i e j d h1 h2 ?_) hl hm ?_
    · have:=(hl e (List.mem_of_getElem? h1)).2
      rw [List.all_eq_true] at this
      exact this d (List.mem_of_getElem? h2)
    · cases k with
      | no=>trivial
      | nil=>exact hk
      | own t e s=>cases hn
theorem noOwn_strip (d : D) : noOwn (strip d) = true:=by cases d <;> rfl
theorem repC_strip {G1 : Gh} (hi : ∀ g i,G.imm g i → G1.imm g i) {x : Value} {d : D} (h : RepC G w x d) : RepC G1 w x (strip d):=repC_move hi (strip_rep h) (noOwn_strip d)
theorem repV_strip {G1 : Gh} (hi : ∀ g i,G.imm g i → G1.imm g i) {x : Value} {d : D} (h : RepV G w x d) : RepV G1 w x (stripV d):=by
  cases h with
  | c h =>
    have e : stripV d = strip d:=by cases h <;> rfl
    rw [e];exact .c (repC_strip hi h)
  | agg vs l hs hr =>
    refine .agg vs _ (by simpa using hs) fun i x d h1 h2=>?_
    rw [List.getElem?_map] at h2
    obtain ⟨d',h3,rfl⟩:=Option.map_eq_some_iff.1 h2
    exact repC_strip hi (hr i x d' h1 h3)
theorem repV_stripA {G1 : Gh} (hi : ∀ g i,G.imm g i → G1.imm g i) {x : Value} {d : D} (h : RepV G w x d) : RepV G1 w x (stripA d):=by
  by_cases hn : ∃ es,d = .sl .nil es
  · obtain ⟨es,rfl⟩:=hn
    cases h with
    | c h=>exact .c (repC_move hi h rfl)
  · have e : stripA d = stripV d:=by
      unfold stripA
      split
      · rename_i es
        exact absurd ⟨es,rfl⟩ hn
      · rfl
    rw [e]
    exact repV_strip hi h
theorem repV_arg {x : Value} {d : D} (h : Rep G w x d) (hd : argD d = true) : RepV G w x d:=by
  cases h with
  | v h=>exact h
  | any=>cases hd
  | und=>cases hd
  | tup=>cases hd
  | ptr=>cases hd
  | el=>cases hd
theorem ownsRow_base {B B' e sz k : Nat} {v : Value} {xs : List Value} (h : w.ownsRow B e sz v k xs) (hB : B' ≤ B) : w.ownsRow B' e sz v k xs:=by
  refine ⟨h.1,?_⟩
  rcases h.2 with h2 | ⟨g,cap,cur,h1,h2,r⟩
  · exact .inl h2
  · exact .inr ⟨g,cap,cur,h1,Nat.le_trans hB h2,r⟩
theorem reown_len : ∀ (l : List D),(reown id l).1.length = l.length
  | []=>rfl
  | .sl (.own _ e sz) es :: r=>by simp [reown]
  | .sl .no es :: r=>by simp [reown,reown_len r]
  | .sl .nil es :: r=>by simp [reown,reown_len r]
  | .junk :: r=>by simp [reown,reown_len r]
  | .und :: r=>by simp [reown,reown_len r]
  | .num _ :: r=>by simp [reown,reown_len r]
  | .v _ :: r=>by simp [reown,reown_len r]
  | .agg _ :: r=>by simp [reown,reown_len r]
  | .tup _ :: r=>by simp [reown,reown_len r]
  | .ptr _ _ :: r=>by simp [reown,reown_len r]
  | .el _ _ :: r=>by simp [reown,reown_len r]
def isOwn : D → Bool
  | .sl (.own _ _ _) _=>true
  | _=>false
theorem reown_cons {d : D} (h : isOwn d = false) (r : List D) : reown id (d :: r) = (stripV d :: (reown id r).1,(reown id r).2):=by
  cases d <;> try rfl
  rename_i k es
  cases k <;> first | rfl | cases h
theorem reown_spec : ∀ (l : List D),((reown id l).2 = [] ∧ (∀ d ∈ l,isOwn d = false) ∧ (reown id l).1 = l.map stripV) ∨
    ∃ p k e sz es r,l = p ++ .sl (.own k e sz) es :: r ∧ (reown id l).1 = p.map stripV ++ .sl (.own id e sz) es :: r.map stripV ∧ (reown id l).2 = [(1,id,.num es.length)]
  | []=>.inl ⟨rfl,(fun d h=>by cases h),rfl⟩
  | d :: r=>by
    cases h : isOwn d with
    | false =>
      rw [reown_cons h]
      rcases reown_spec r with ⟨h1,h2,h3⟩ | ⟨p,k,e,sz,es,r',h1,h2,h3⟩
      · left
        refine ⟨h1,fun d' hd=>?_,by rw [h3];rfl⟩
        rcases List.mem_cons.1 hd with rfl | hd
        · exact h
        · exact h2 d' hd
      · right
        exact ⟨d :: p,k,e,sz,es,r',by rw [h1];rfl,by rw [h2];rfl,h3⟩
    | true =>
      right
      cases d <;> try cases h
      rename_i kk es
      cases kk <;> try cases h
      rename_i t e sz
      exact ⟨[],t,e,sz,es,r,rfl,rfl,rfl⟩
theorem rep_res {v : Value} {l : List D} (h : Rep G w v (mkRes l)) (hl : ∀ d,l = [d] → argD d = true ∨ True) : (∃ d,l = [d] ∧ Rep G w v d) ∨ ((∀ d,l ≠ [d]) ∧ ∃ vs : Array Value,v = .tuple vs ∧ vs.size = l.length ∧ ∀ (i : Nat) (x : Value) (d : D),vs[i]? = some x → l[i]? = some d → RepV G w x d):=by
  match l,h with
  | [],h=>exact .inr ⟨fun d e=>(by cases e),rep_tup h⟩
  | [d],h=>exact .inl ⟨d,rfl,h⟩
  | d :: d' :: r,h=>exact .inr ⟨fun d e=>(by cases e),rep_tup h⟩
theorem ok_call {f : FuncId} {c : Call} {l : List D} (h : Sim n G m a w) (hb : G.box id = none) (hid : G.tok id = none) (ho : o.op = .call c) {cx : Operand} (hc : c.callee = .value cx) (hcx : a.eval cx = .func (.func f) #[] #[]) (hargs : (c.args.toList.map (ev m)).all argD = true)
    (hok : Ok P f (c.args.toList.map fun x=>stripA (ev m x)) l) (hres : ∀ d ∈ l,argD d = true) : OpOk P o G a w id (mkRes (reown id l).1) (reown id l).2:=by
  intro K Q hK
  obtain ⟨hen,hcalls⟩:=hok
  have hrun : (execOp a.eval o).run P w = .ok (.enter f (c.args.map a.eval)) w:=by
    simp [execOp,ho,resolve,hc,hcx,Deferred.ofValue,invoke,hen]
  unfold Oper.wp
  rw [hrun]
  show Calls P f (c.args.map a.eval) w _
  refine (hcalls G.imm w (c.args.map a.eval) h.ok.imm (by simp) (fun i x d h1 h2=>?_)).mono ?_
  · rw [Array.getElem?_map] at h1
    obtain ⟨y,hy,rfl⟩:=Option.map_eq_some_iff.1 h1
    rw [List.getElem?_map,Array.getElem?_toList,hy] at h2
    cases h2
    rw [List.all_eq_true] at hargs
    have hy' : ev m y ∈ c.args.toList.map (ev m):=List.mem_map.2 ⟨y,by rw [Array.mem_toList_iff];exact Array.mem_of_getElem? hy,rfl⟩
    exact repV_stripA (G:=G) (G1:=G0 w G.imm) (fun _ _ h=>h) (repV_arg (h.ev y) (hargs _ hy'))
  · rintro e w' ⟨v,G',rfl,R⟩
    have hbase:=h.ok.base
    have hblk : ∀ g,g < w.heap.size → w'.heap[g]? = w.heap[g]?:=fun g hg=>R.below.block g hg
    have hboxlt : ∀ b g ty n,G.box b = some (g,ty,n) → g < w.heap.size:=fun b g ty n e=>by obtain ⟨_,vs,hv,_⟩:=h.ok.box b g ty n e;exact hv.lt
    have htoklt : ∀ u T g,G.tok u = some T → T.v.ownBlock = some g → g < w.heap.size:=fun u T g h' e=>((h.ok.tok u T h').2.1.lt g e).2
    let own : Prop:=(reown id l).2 ≠ []
    let tk : Option Tok:=if (reown id l).2.isEmpty then none else G'.tok 0
    let G1 : Gh:={ base:=G.base,imm:=fun g i=>G.imm g i ∨ (w.heap.size ≤ g ∧ G'.imm g i),box:=G.box,tok:=fun u=>if u = id then tk else G.tok u }
    have hti : G1.tok id = tk:=if_pos rfl
    have htu : ∀ u,u ≠ id → G1.tok u = G.tok u:=fun u hu=>if_neg hu
    have htk : ∀ T,tk = some T → 0 < T.sz ∧ w'.ownsRow w.heap.size T.e T.sz T.v T.n T.xs ∧ (∀ g,T.v.ownBlock = some g → ∀ i,i < T.n * T.sz → G'.imm g i) ∧ ∀ g i,T.v.ownBlock = some g → G'.imm g i → i < T.n * T.sz:=fun T hT=>by
      have : tk = none ∨ tk = G'.tok 0:=by
        show (if (reown id l).2.isEmpty then none else G'.tok 0) = none ∨ (if (reown id l).2.isEmpty then none else G'.tok 0) = _
        split
        · exact .inl rfl
        · exact .inr rfl
      rcases this with e | e
      · rw [e] at hT;cases hT
      · rw [e] at hT;exact R.tok T hT
    have himm : ∀ g i,G'.imm g i → G1.imm g i:=fun g i hi=>by
      by_cases hg : g < w.heap.size
      · exact .inl (R.immo g i hg hi)
      · exact .inr ⟨by omega,hi⟩
    have hst : Step G w G1 w':=⟨fun g i hi=>.inl hi,fun g i hi=>World.cell?_of_block (a:=⟨g,i,none⟩) (hblk g (h.ok.imm g i hi)),fun _ _ h=>h,fun u T hT=>by
      have : u ≠ id:=fun e=>by rw [e,hid] at hT;cases hT
      exact ⟨T,(htu u this).trans hT,⟨rfl,rfl⟩,Nat.le_refl _,fun _=>rfl⟩⟩
    have hG1 : GOk G1 w':=by
      refine ⟨Nat.le_trans hbase R.below.size,?_,?_,?_,h.ok.boxInj,?_,?_,?_,?_⟩
      · rintro g i (hi | ⟨_,hi⟩)
        · exact Nat.lt_of_lt_of_le (h.ok.imm g i hi) R.below.size
        · exact R.immlt g i hi
      · intro b g ty n eb
        obtain ⟨h1,vs,h2,h3⟩:=h.ok.box b g ty n eb
        exact ⟨h1,vs,(hblk g h2.lt).trans h2,h3⟩
      · rintro b g ty n i eb (hi | ⟨hi,_⟩)
        · exact h.ok.boxImm b g ty n i eb hi
        · have:=hboxlt b g ty n eb;omega
      · intro u T hT
        by_cases hu : u = id
        · subst hu
          rw [hti] at hT
          obtain ⟨q1,q2,q3,q4⟩:=htk T hT
          exact ⟨q1,ownsRow_base q2 hbase,fun g hg i hi=>himm g i (q3 g hg i hi)⟩
        · rw [htu u hu] at hT
          obtain ⟨q1,q2,q3⟩:=h.ok.tok u T hT
          refine ⟨q1,q2.kept (row:=none) ⟨R.below.os,R.below.tape,R.below.output,R.below.size,fun k hk _=>hblk k hk⟩ (by cases T.v.ownBlock <;> simp),fun g hg i hi=>.inl (q3 g hg i hi)⟩
      · intro u T g i hT hg hi
        by_cases hu : u = id
        · subst hu
          rw [hti] at hT
          obtain ⟨q1,q2,q3,q4⟩:=htk T hT
          have:=(q2.lt g hg).1
          rcases hi with hi | ⟨_,hi⟩
          · have:=h.ok.imm g i hi;omega
          · exact q4 g i hg hi
        · rw [htu u hu] at hT
          rcases hi with hi | ⟨hi,_⟩
          · exact h.ok.tokImm u T g i hT hg hi
          · have:=htoklt u T g hT hg;omega
      · intro u u' T T' g hT hT' hg hg'
        by_cases hu : u = id <;> by_cases hu' : u' = id
        · rw [hu,hu']
        · subst hu
          rw [hti] at hT;rw [htu u' hu'] at hT'
          have:=((htk T hT).2.1.lt g hg).1
          have:=htoklt u' T' g hT' hg';omega
        · subst hu'
          rw [hti] at hT';rw [htu u hu] at hT
          have:=((htk T' hT').2.1.lt g hg').1
          have:=htoklt u T g hT hg;omega
        · rw [htu u hu] at hT;rw [htu u' hu'] at hT'
          exact h.ok.tokInj u u' T T' g hT hT' hg hg'
      · intro u T b g ty n hT hg eb
        by_cases hu : u = id
        · subst hu
          rw [hti] at hT
          have:=((htk T hT).2.1.lt g hg).1
          have:=hboxlt b g ty n eb;omega
        · rw [htu u hu] at hT
          exact h.ok.tokBox u T b g ty n hT hg eb
    have hws : (reown id l).2 = [] ∨ ∃ k,(reown id l).2 = [(1,id,.num k)] ∧ ∃ T,tk = some T ∧ T.n = k:=by
      rcases reown_spec (id:=id) l with ⟨h1,_,_⟩ | ⟨p,k,e,sz,es,r,h1,h2,h3⟩
      · exact .inl h1
      · right
        obtain ⟨_,T,hT,hn⟩:=R.full k e sz es (by rw [h1];simp)
        refine ⟨_,h3,T,?_,hn⟩
        show (if (reown id l).2.isEmpty then none else G'.tok 0) = _
        rw [h3];exact hT
    have hlook : ∀ x y,(x ≠ 1 ∨ y ≠ id) → ∀ m,look ((reown id l).2 ++ m) x y = look m x y:=fun x y hxy m=>by
      rcases hws with e | ⟨k,e,_⟩
      · rw [e];rfl
      · rw [e,List.singleton_append,look_cons,if_neg (by omega)]
    have hA : After G w id (reown id l).2 G1 w':=by
      refine ⟨hst,hG1,rfl,R.below.mono hbase,fun m hm=>⟨fun b g ty n eb i x hx=>?_,fun b i hi=>?_⟩,fun m hm u q hq=>?_,fun _ _ h=>.inl h,fun u T hT=>?_,?_,fun m y=>hlook 0 y (.inl (by omega)) m⟩
      · rw [hlook _ _ (.inl (by omega))]
        rw [World.cell?_of_block (a:=⟨g,i,none⟩) (hblk g (hboxlt b g ty n eb))] at hx
        exact (hm.val b g ty n eb i x hx).mono hst
      · rw [hlook _ _ (.inl (by omega))]
        exact hm.out b i hi
      · by_cases hu : u = id
        · subst hu
          rcases hws with e | ⟨k,e,T,hT,hn⟩
          · rw [e] at hq
            obtain ⟨T,h1,h2⟩:=hm u q hq
            rw [hid] at h1;cases h1
          · rw [e,List.singleton_append,look_cons,if_pos ⟨rfl,rfl⟩] at hq
            cases hq
            exact ⟨T,hti.trans hT,hn⟩
        · rw [hlook _ _ (.inr hu)] at hq
          obtain ⟨T,h1,h2⟩:=hm u q hq
          exact ⟨T,(htu u hu).trans h1,h2⟩
      · by_cases hu : u = id
        · exact .inr hu
        · rw [htu u hu] at hT;exact .inl ⟨T,hT⟩
      · rintro g i hg (hi | ⟨hi,_⟩)
        · exact hi
        · omega
    refine hK v G1 w' hA ?_
    have each : ∀ {x : Value} {d : D},argD d = true → RepV G' w' x d → RepV G1 w' x (stripV d):=fun _ hx=>repV_strip himm hx
    have theOwn : ∀ {x : Value} {k e sz : Nat} {es : List (List D)},D.sl (.own k e sz) es ∈ l → (reown id l).2 = [(1,id,.num es.length)] → RepV G' w' x (.sl (.own k e sz) es) → RepV G1 w' x (.sl (.own id e sz) es):=by
      intro x k e sz es hmem hw hx
      obtain ⟨rfl,T,hT,hn⟩:=R.full k e sz es hmem
      cases hx with
      | c hx =>
        cases hx with
        | sl a cap _ _ g q sz' xs ha hc hr hl hm hk =>
          obtain ⟨rfl,T',t1,t2,t3,t4,t5⟩:=hk
          rw [hT] at t1;cases t1
          have htk' : tk = some T:=by
            show (if (reown id l).2.isEmpty then none else G'.tok 0) = _
            rw [hw];exact hT
          refine .c (.sl a cap _ es g q sz xs ha (fun i e j d h1 h2=>⟨(hc i e j d h1 h2).1,himm _ _ (hc i e j d h1 h2).2⟩) (fun i e j d h1 h2=>repC_move himm (hr i e j d h1 h2) ?_) hl hm ⟨rfl,T,hti.trans htk',t2,t3,t4,t5⟩)
          have:=(hl e (List.mem_of_getElem? h1)).2
          rw [List.all_eq_true] at this
          exact this d (List.mem_of_getElem? h2)
    have comp : ∀ (i : Nat) {x : Value} {d d' : D},l[i]? = some d → (reown id l).1[i]? = some d' → RepV G' w' x d → RepV G1 w' x d':=by
      intro i x d d' hi hi' hx
      rcases reown_spec (id:=id) l with ⟨h1,h2,h3⟩ | ⟨p,k,e,sz,es,r,h1,h2,h3⟩
      · rw [h3,List.getElem?_map,hi] at hi'
        cases hi'
        exact each (hres d (List.mem_of_getElem? hi)) hx
      · rw [h2] at hi'
        have hd:=hres d (List.mem_of_getElem? hi)
        have hmem : D.sl (.own k e sz) es ∈ l:=by rw [h1];simp
        have hi0:=hi
        rw [h1] at hi
        rcases Nat.lt_trichotomy i p.length with hlt | heq | hgt
        · rw [List.getElem?_append_left hlt] at hi
          rw [List.getElem?_append_left (by simpa using hlt),List.getElem?_map,hi] at hi'
          cases hi'
          exact each hd hx
        · subst heq
          rw [List.getElem?_append_right (Nat.le_refl _),Nat.sub_self] at hi
          rw [List.getElem?_append_right (by simp)] at hi'
          simp only [List.length_map,Nat.sub_self] at hi'
          cases hi;cases hi'
          exact theOwn hmem h3 hx
        · obtain ⟨j,hj⟩ : ∃ j,i - p.length = j + 1:=⟨i - p.length - 1,by omega⟩
          rw [List.getElem?_append_right (by omega),hj,List.getElem?_cons_succ] at hi
          rw [List.getElem?_append_right (by simp;omega)] at hi'
          simp only [List.length_map,hj,List.getElem?_cons_succ,List.getElem?_map] at hi'
          rw [hi] at hi'
          cases hi'
          exact each hd hx
    rcases rep_res R.rep (fun _ _=>.inr trivial) with ⟨d,rfl,hd⟩ | ⟨hne,vs,rfl,hs,hr⟩
    · have hlen:=reown_len (id:=id) [d]
      have : ∃ d',(reown id [d]).1 = [d']:=by
        match hq : (reown id [d]).1,hlen with
        | [d'],_=>exact ⟨d',rfl⟩
      obtain ⟨d',hd'⟩:=this
      have hv : RepV G' w' v d:=repV_arg hd (hres d (by simp))
      have:=comp 0 (d:=d) (d':=d') rfl (by rw [hd'];rfl) hv
      rw [hd']
      exact .v this
    · have hlen:=reown_len (id:=id) l
      have hmk : mkRes (reown id l).1 = .tup (reown id l).1:=by
        match hq : (reown id l).1 with
        | []=>rfl
        | [d'] =>
          rw [hq] at hlen
          match l,hlen with
          | [d],_=>exact absurd rfl (hne d)
        | _ :: _ :: _=>rfl
      rw [hmk]
      refine .tup vs _ (by rw [hlen];exact hs) fun i x d' hx hd'=>?_
      have hlt:=(Array.getElem?_eq_some_iff.1 hx).1
      have hld : l[i]? = some (l[i]'(by omega)):=List.getElem?_eq_getElem (by omega)
      exact comp i hld hd' (hr i x _ hx hld)
end
end Go.Proofs.YthadnhpkeljdoaaGreat.pv
namespace Go.Proofs.YthadnhpkeljdoaaGreat.nd
open Go.Lib (hid)
open Go.RowKit sx ed law
abbrev txtCells : Array Value:=#[.string ⟨#[]⟩,.string ⟨#[97]⟩,.string ⟨#[124]⟩,.string ⟨#[36,120]⟩,.string ⟨#[46]⟩,.string ⟨#[101,108,115,101]⟩,.string ⟨#[98,48]⟩,.string ⟨#[10]⟩]
structure TI (w : World) (l : Fo) (v : Value) (wr : World) : Prop where
 row : Building (w.heap.size + 1) wr l v
 res : Blk wr w.heap.size 27 #[.int .i64 0,.string ⟨#[]⟩,.slice none 0 0]
 txt : Blk wr (w.heap.size + 1 + 1) 9 txtCells
 below : Below w.heap.size w wr
theorem own_one' (w : World) (e : TypeId) (a b c : Value) : (w.alloc (.cells #[a,b,c] e)).ownsRow w.heap.size e 3 (.slice (some ⟨w.heap.size,0,none⟩) 1 1) 1 [a,b,c] :=
 ⟨rfl,.inr ⟨w.heap.size,1,#[a,b,c],rfl,Nat.le_refl _,heap_alloc_new w _,Nat.le_refl _,by unfold maxLen;omega,rfl,rfl⟩⟩
theorem tree_calls (bs : List Int) (w : World) (u : Value) (hu : BytesAt w u bs) :
  Calls Tryz.prog 8 #[u] w fun e w'=>∃ s,e = .returned (.agg #[.int .i64 10,.string ⟨#[]⟩,s]) ∧ Building w.heap.size w' (treeN bs).kids s ∧ Below w.heap.size w w':=by
 obtain ⟨uo,uc,rfl⟩ : ∃ uo uc,u = .slice uo bs.length uc:=by
  rcases hu with ⟨rfl,rfl⟩ | ⟨a,cap,rfl,rfl⟩ | ⟨b,off,cap,rfl,_⟩ <;> exact ⟨_,_,rfl⟩
 have HU:=hid hu
 clear hu
 go_enter Tryz.func8,Tryz.ntmps8
 go_wp2_with fail
 go_loopw [3,5] (fun v i wr=>∃ j : Nat,j ≤ rounds bs.length ∧ i = .int .i64 ((2 * j : Nat) : Int) ∧ TI w (stF bs j) v wr) (fun _ i _=>60 - (intOf i).toNat)
 case atStart =>
  refine ⟨0,Nat.zero_le _,rfl,?_,?_,?_,?_⟩
  ·refine ⟨[.int .i64 1,.string ⟨#[]⟩,.slice none 0 0],?_,_,_,rfl,kids_nil _ _ _ _,rfl⟩
   have h:=own_one' (w.alloc (.cells #[.int .i64 0,.string ⟨#[]⟩,.slice none 0 0] 27)) 27 (.int .i64 1) (.string ⟨#[]⟩) (.slice none 0 0)
   rw [World.size_alloc] at h
   exact own_step h ((Below.refl _ _).alloc (Nat.le_refl _) _)
  ·have:=((Blk.new w 27 #[.int .i64 0,.string ⟨#[]⟩,.slice none 0 0]).alloc (.cells #[.int .i64 1,.string ⟨#[]⟩,.slice none 0 0] 27)).alloc (.cells txtCells 9)
   exact this
  ·have:=Blk.new ((w.alloc (.cells #[.int .i64 0,.string ⟨#[]⟩,.slice none 0 0] 27)).alloc (.cells #[.int .i64 1,.string ⟨#[]⟩,.slice none 0 0] 27)) 9 txtCells
   simpa using this
  ·exact (((Below.refl _ w).alloc (Nat.le_refl _) _).alloc (by simp) _).alloc (by simp;omega) _
 case round =>
  obtain ⟨j,hj,rfl,h⟩:=hrel
  obtain ⟨ao,cap,hv⟩:=h.row.slice
  subst hv
  obtain ⟨p,hp⟩ : ∃ p,2 * j = p:=⟨_,rfl⟩
  rw [hp]
  obtain ⟨m,hm⟩ : ∃ m,(stF bs j).len = m:=⟨_,rfl⟩
  rw [hm]
  by_cases hlt : p + 1 < bs.length ∧ p < 60
  ·have h1 : (p : Int) + 1 < (bs.length : Int):=by omega
   have h2 : (p : Int) < 60:=by omega
   obtain ⟨b,off,A,B,hb,hA,hB,rfl,hA255,hB255,ca,cb⟩ : ∃ (b off A B : Nat),b < w.heap.size ∧ (bs.getD p 0).toNat = A ∧ (bs.getD (p + 1) 0).toNat = B ∧ uo = some ⟨b,off,none⟩ ∧ A ≤ 255 ∧ B ≤ 255 ∧ w.cell? ⟨b,off + p,none⟩ = some (.int .u8 (A : Int)) ∧ w.cell? ⟨b,off + (p + 1),none⟩ = some (.int .u8 (B : Int)):=by
    rcases HU.out with ⟨_,e⟩ | ⟨_,_,_,e⟩ | ⟨b,off,cap,e,hml,hc⟩
    ·rw [e] at hlt;simp at hlt
    ·rw [e] at hlt;simp at hlt
    ·cases e
     obtain ⟨c1,c2,c3⟩:=hc p (by omega)
     obtain ⟨d1,d2,d3⟩:=hc (p + 1) (by omega)
     refine ⟨b,off,_,_,World.block_lt_of_cell? w _ c1,rfl,rfl,rfl,by omega,by omega,?_,?_⟩
     ·rw [c1,Int.toNat_of_nonneg c2]
     ·rw [d1,Int.toNat_of_nonneg d2]
   have ca':=(h.below.cell (p:=⟨b,_,none⟩) hb).trans ca
   have cb':=(h.below.cell (p:=⟨b,_,none⟩) hb).trans cb
   have ct : wr.cell? ⟨w.heap.size + 1 + 1,B % 8,none⟩ = some (.string (txtB (B % 8))):=by
    have h8 : B % 8 < 8:=Nat.mod_lt _ (by omega)
    rw [h.txt.cell]
    match B % 8,h8 with
    | 0,_=>rfl
    | 1,_=>rfl
    | 2,_=>rfl
    | 3,_=>rfl
    | 4,_=>rfl
    | 5,_=>rfl
    | 6,_=>rfl
    | 7,_=>rfl
    | n + 8,h=>exact absurd h (by omega)
   have hal : Below wr.heap.size wr (wr.alloc (.cells #[.int .i64 0,.string ⟨#[]⟩,.slice none 0 0] 27)):=(Below.refl _ wr).alloc (Nat.le_refl _) _
   have ca2:=(hal.cell (World.block_lt_of_cell? wr _ ca')).trans ca'
   have cb2:=(hal.cell (World.block_lt_of_cell? wr _ cb')).trans cb'
   have ct2:=(hal.cell (World.block_lt_of_cell? wr _ ct)).trans ct
   have m8 : ((B : Int).tmod 8) = ((B % 8 : Nat) : Int):=by rw [Int.tmod_eq_emod_of_nonneg (by omega)];omega
   have m40 : ((A : Int).tmod 40) = ((A % 40 : Nat) : Int):=by rw [Int.tmod_eq_emod_of_nonneg (by omega)];omega
   have H:=hid h
   clear h ca cb hal
   go_wp2_with fail
   go_region
   obtain ⟨K,hK⟩ : ∃ K : Int,(A : Int) % 40 = K:=⟨_,rfl⟩
   rw [hK]
   obtain ⟨W1,hW1⟩ : ∃ W1,(wr.alloc (.cells #[.int .i64 K,.string (txtB (B % 8)),.slice none 0 0] 27)).drew = W1:=⟨_,rfl⟩
   rw [hW1]
   have hb1 : Below wr.heap.size wr W1:=by rw [← hW1];exact ((Below.refl _ wr).alloc (Nat.le_refl _) _).drew
   have hs1 : W1.heap.size = wr.heap.size + 1:=by rw [← hW1];simp
   have hk1 : Blk W1 wr.heap.size 27 #[.int .i64 K,.string (txtB (B % 8)),.slice none 0 0]:=by rw [← hW1];exact Blk.new wr _ _
   have cb3:=(hb1.cell (World.block_lt_of_cell? wr _ cb')).trans cb'
   have HB1:=hid hb1;have HS1:=hid hs1;have HK1:=hid hk1
   obtain ⟨k,hkk⟩ : ∃ k,kidsN B m = k:=⟨_,rfl⟩
   have hkm : k ≤ m:=by rw [← hkk];exact kidsN_le _ _
   have hmin : min ((B : Int) / 8 % 4) (m : Int) = (k : Int):=by rw [← hkk];unfold kidsN;omega
   obtain ⟨q,hq⟩ : ∃ q,m - k = q:=⟨_,rfl⟩
   have hsub : (m : Int) - (k : Int) = (q : Int):=by omega
   have hqm : q ≤ m:=by omega
   have hmm:=stF_len bs j
   rw [hm] at hmm
   obtain ⟨g,hg,hmcap⟩ : ∃ g,ao = some ⟨g,0,none⟩ ∧ m ≤ cap:=by
    obtain ⟨L,hown,_⟩:=H.out.row
    rw [hm] at hown
    rcases hown.2 with ⟨e,h0⟩ | ⟨g,cap',cur,e,h2,h3,h4,_⟩
    ·omega
    ·cases e;exact ⟨g,rfl,h4⟩
   subst hg
   have hk0:=hk1.cell 2
   have hf0:=hk1.frozen 2
   clear ca' cb' ct ca2 cb2 ct2 hW1 hb1 hs1 hk1
   go_wp2_with fail
   have hwq : IntKind.i64.wrap (q : Int) = (q : Int):=by
    have : (q : Int) ≤ 100:=by have:=hj;unfold rounds at this;omega
    simp [IntKind.wrap,IntKind.bits,IntKind.signed];omega
   have hq2 : (q : Int) ≤ (m : Int):=by omega
   obtain ⟨oq,hif,hoq⟩ : ∃ oq,(if cap = q then some (⟨g,0,none⟩ : Addr) else some ⟨g,q * 3,none⟩) = some ⟨g,oq,none⟩ ∧ (q < m → oq = q * 3):=by
    by_cases h : cap = q
    ·exact ⟨0,by rw [if_pos h],fun _=>by omega⟩
    ·exact ⟨q * 3,by rw [if_neg h],fun _=>rfl⟩
   have hmq : m - q = k:=by omega
   refine wp_region_still_tail 8 (by kernel_rfl) (by kernel_rfl) ?_
   simp only [List.take_succ_cons,List.take_zero,List.drop_succ_cons,List.drop_zero]
   still_step
   still_step
   still_step
   still_step
   still_step
   still_step
   still_step
   still_step
   refine wpStill_nil ?_
   change wpList _ _ _ _ _ W1.drew
   have hb2 : Below wr.heap.size wr W1.drew:=HB1.out.drew
   have hs2 : W1.drew.heap.size = wr.heap.size + 1:=HS1.out
   have hk2 : Blk W1.drew wr.heap.size 27 #[.int .i64 K,.string (txtB (B % 8)),.slice none 0 0]:=HK1.out
   obtain ⟨W2,hW2⟩ : ∃ W2,W1.drew = W2:=⟨_,rfl⟩
   rw [hW2] at hb2 hs2 hk2 ⊢
   obtain ⟨L,hown,hL⟩:=id H.out.row
   rw [hm] at hown
   have hLl:=hown.1
   have hgl:=(hown.lt g rfl).2
   have hnews : ∀ i u,(L.drop (q * 3))[i]? = some u → W2.cell? ((⟨g,oq,none⟩ : Addr).add i) = some u:=fun i u hi=>by
    have hqlt : q < m:=by
     rcases Nat.lt_or_ge q m with h | h
     ·exact h
     ·rw [List.drop_eq_nil_of_le (by omega)] at hi;simp at hi
    rw [addr_add,hoq hqlt]
    rw [List.getElem?_drop] at hi
    have:=hown.cells (g:=g) rfl _ u hi
    rw [addr_add,Nat.zero_add] at this
    exact (hb2.cell (p:=⟨g,_,none⟩) hgl).trans this
   have hone : ∀ u ∈ L.drop (q * 3),u.oneCell' = true:=fun u hu=>hL.one u (List.mem_of_mem_drop hu)
   have hN : w.heap.size + 1 ≤ wr.heap.size:=by have:=H.out.res.lt;omega
   have hm31 : m ≤ 40:=by have:=hj;unfold rounds at this;omega
   obtain ⟨i0,hi,hz0,hz1,hz2⟩:=info_parts infoN
   have HOWN:=hid hown;have HL:=hid hL;have HNEWS:=hid hnews
   clear hown hL hnews hW2 hk0 hf0
   refine wpList_append_own_at _ rfl _ _ 25 rfl W2.heap.size 27 i0 _ 3 48 Tryz.underlying25 hi hz0 hz1 hz2 rfl (by decide) _ _ _ rfl (World.ownsRow_nil _ _ _ _) ⟨g,oq,none⟩ k (cap - q) (L.drop (q * 3)) rfl (by rw [List.length_drop,hLl];omega) HNEWS.out hone (by unfold maxLen;omega) (by omega) (Nat.le_refl _) ?_
   intro v' Wa hown' hgrow _ hat
   rw [List.nil_append,Nat.zero_add] at hown'
   have hba : Below W2.heap.size W2 Wa:=(Below.refl _ W2).grown hgrow (Nat.le_refl _) (fun j e=>by cases e)
   obtain ⟨a7,c7,rfl,hc7⟩:=own_len' hown'
   obtain ⟨hm1,hm2,hm3,hm4⟩:=tree_mid HOWN.out HL.out hm hqm (by omega) hN hb2 hs2 hown' hba
   have hka : Blk Wa wr.heap.size 27 #[.int .i64 K,.string (txtB (B % 8)),.slice none 0 0]:=(hba.block _ (by omega)).trans hk2
   have ha2:=hka.cell 2
   have hf2:=hka.frozen 2
   have hk3:=hka.set (o:=2) (.slice a7 k c7)
   have HM1:=hid hm1;have HM2:=hid hm2;have HM3:=hid hm3;have HM4:=hid hm4;have HK3:=hid hk3
   have e0:=hk3.cell 0;have e1:=hk3.cell 1;have e2:=hk3.cell 2
   obtain ⟨W3,hW3⟩ : ∃ W3,Wa.setCell ⟨wr.heap.size,2,none⟩ (.slice a7 k c7) = W3:=⟨_,rfl⟩
   rw [hW3] at HM1 HM2 HM3 HM4 HK3 e0 e1 e2
   have hs3:=HM4.out.size
   clear hown' hgrow hat hba hm1 hm2 hm3 hm4 hk3 hka
   go_upto_region 9 with fail
   clear hW3 ha2 hf2
   go_wp2_with (at_builtin;refine wpList_append_own_at _ rfl _ _ 25 rfl (w.heap.size + 1) 27 i0 _ 3 48 Tryz.underlying25 hi hz0 hz1 hz2 rfl (by decide) _ _ _ rfl (HM1.out.alloc _) ⟨W3.heap.size,0,none⟩ 1 1 [.int .i64 K,.string (txtB (B % 8)),.slice a7 k c7] rfl rfl (World.news_of_block (cs:=#[.int .i64 K,.string (txtB (B % 8)),.slice a7 k c7]) (t:=27) (fr:=(0,0)) (heap_alloc_new W3 _)) (by intro u hu;simp at hu;rcases hu with rfl | rfl | rfl <;> rfl) (by unfold maxLen;omega) (by omega) (by simp;omega) ?_;intro v5 W5 hown5 hgrow5 _ hat5;obtain ⟨a8,c8,rfl,hc8⟩:=own_len' hown5)
   have hql : ((stF bs j).take q).len = q:=Fo.take_len (by omega)
   have hbd:=building_push (x:=⟨K,txtB (B % 8),(stF bs j).drop q⟩) HM2.out HM3.out (by rw [hql];exact hown5) hgrow5 hat5
   have hlt5:=HM1.out.lt
   have hb5 : Below w.heap.size w W5:=((H.out.below.trans (HM4.out.mono H.out.below.size)).alloc (by have:=H.out.below.size;omega) _).grown hgrow5 (by have:=H.out.below.size;simp;omega) (fun i e=>by have:=(hlt5 i e).1;omega)
   have hres : Blk W5 w.heap.size 27 #[.int .i64 0,.string ⟨#[]⟩,.slice none 0 0] :=
    (hgrow5.block _ (by have:=H.out.res.lt;simp;omega) (fun e=>by have:=(hlt5 _ e.symm).1;omega)).trans ((Below.heap_alloc _ _ _ (by have:=H.out.res.lt;omega)).trans ((HM4.out.block _ H.out.res.lt).trans H.out.res))
   have htxt : Blk W5 (w.heap.size + 1 + 1) 9 txtCells:=by
    have hno:=own_no HOWN.out H.out.txt (by decide)
    exact (hgrow5.block _ (by have:=H.out.txt.lt;simp;omega) (fun e=>hno e.symm)).trans ((Below.heap_alloc _ _ _ (by have:=H.out.txt.lt;omega)).trans ((HM4.out.block _ H.out.txt.lt).trans H.out.txt))
   have hstep : ((stF bs j).take q).app (.cons K (txtB (B % 8)) ((stF bs j).drop q) .nil) = stF bs (j + 1):=by
    simp only [stF,stepF]
    rw [hp,hA,hB,hm,hkk,hq,← hK]
    congr 2
   rw [hstep] at hbd
   have hpj : (p : Int) + 2 = ((2 * (j + 1) : Nat) : Int):=by omega
   refine ⟨⟨j + 1,by unfold rounds;omega,by rw [← hpj],⟨hbd,hres,htxt,hb5⟩⟩,?_⟩
   simp [intOf]
   omega
  ·have hjr : j = rounds bs.length:=by unfold rounds at hj ⊢;omega
   have hw3 : ∀ (x y z : Value),Blk (((wr.setCell ⟨w.heap.size,0,none⟩ x).setCell ⟨w.heap.size,1,none⟩ y).setCell ⟨w.heap.size,2,none⟩ z) w.heap.size 27 #[x,y,z]:=fun x y z=>set3_blk h.res x y z
   have f0:=h.res.frozen 0;have f1:=h.res.frozen 1;have f2:=h.res.frozen 2
   have e0:=h.res.cell 0;have e1:=h.res.cell 1;have e2:=h.res.cell 2
   have hcell:=hw3 (.int .i64 10) (.string ⟨#[]⟩) (.slice ao m cap)
   have g0:=hcell.cell 0;have g1:=hcell.cell 1;have g2:=hcell.cell 2
   have hfin : Building w.heap.size (((wr.setCell ⟨w.heap.size,0,none⟩ (.int .i64 10)).setCell ⟨w.heap.size,1,none⟩ (.string ⟨#[]⟩)).setCell ⟨w.heap.size,2,none⟩ (.slice ao m cap)) (treeN bs).kids (.slice ao m cap):=by
    have hb:=h.row
    rw [hm] at hb
    have e : (treeN bs).kids = stF bs j:=by rw [hjr];rfl
    rw [e]
    exact (hb.set3 (Nat.lt_succ_self _) _ _ _).less (Nat.le_succ _)
   have H:=hid h;have HF:=hid hfin
   clear h hcell hw3 hfin
   by_cases hA : p + 1 < bs.length
   ·have h1 : (p : Int) + 1 < (bs.length : Int):=by omega
    have hp60 : (p : Int) ≤ 60:=by unfold rounds at hj;omega
    have hw : wrap64 ((p : Int) + 1) = (p : Int) + 1:=IntWalk.wrap64_in _ (by omega)
    have h2 : decide ((p : Int) < 60) = false:=decide_eq_false (by omega)
    have h3 : decide ((p : Int) + 1 < (bs.length : Int)) = true:=decide_eq_true h1
    go_wp2_with fail
    all_goals exact bodyPost_ret (v:=.agg #[.int .i64 10,.string ⟨#[]⟩,.slice ao m cap]) (by simp [results,Tryz.results8,go_sem,g0,g1,g2]) rfl ⟨_,rfl,HF.out,H.out.below.trans (set3_below _ _ _ (Nat.le_refl _))⟩
   ·have h1 : decide ((p : Int) + 1 < (bs.length : Int)) = false:=by simp;omega
    have hp60 : (p : Int) ≤ 60:=by unfold rounds at hj;omega
    have hw : wrap64 ((p : Int) + 1) = (p : Int) + 1:=IntWalk.wrap64_in _ (by omega)
    go_wp2_with fail
    all_goals exact bodyPost_ret (v:=.agg #[.int .i64 10,.string ⟨#[]⟩,.slice ao m cap]) (by simp [results,Tryz.results8,go_sem,g0,g1,g2]) rfl ⟨_,rfl,HF.out,H.out.below.trans (set3_below _ _ _ (Nat.le_refl _))⟩
end Go.Proofs.YthadnhpkeljdoaaGreat.nd
namespace Go.Proofs.YthadnhpkeljdoaaGreat.gn
open Go.Lib (hid)
open Go.RowKit Go.Shelf sx ed
section
variable {bs : List Int} {m : Int} {X : Nat}
theorem name_ex (K : Nat) : Ex0 bs (3) 68 K:=by
 have HX : RowKit.Hid (0 ≤ 0):=hid (Nat.le_refl 0)
 obtain ⟨s1,K1,H1⟩:=of_ex (bs:=bs) K #[.string ⟨#[102]⟩,.string ⟨#[103]⟩,.string ⟨#[120]⟩,.string ⟨#[121]⟩,.string ⟨#[109,97,112]⟩] 5 3 (by decide) (by decide) rfl rfl
 refine ⟨s1,K1,hid ⟨Nat.le_trans H1.out.1 (by have:=HX.out;omega),fun B ao cap W h=>?_⟩⟩
 have G0:=st0 h
 clear h
 go_enter Tryz.func68,Tryz.ntmps68
 go_wp2_with fail
 (with_reducible refine (tO H1 G0).mono ?_);rintro e w1 ⟨rfl,G1⟩
 go_wp2_with fail
 go_ret
 exact ⟨rfl,G1.out.g,G1.out.k⟩
theorem params_ex (K : Nat) : Ex0 bs (8) 69 K:=by
 have HX : RowKit.Hid (0 ≤ 0):=hid (Nat.le_refl 0)
 obtain ⟨s1,K1,H1⟩:=of_ex (bs:=bs) K #[.string ⟨#[]⟩,.string ⟨#[]⟩,.string ⟨#[40,120,41]⟩,.string ⟨#[40,102,59,32,36,121,41]⟩,.string ⟨#[40,36,120,41]⟩,.string ⟨#[40,103,59,32,120,41]⟩] 6 7 (by decide) (by decide) rfl rfl
 refine ⟨s1,K1,hid ⟨Nat.le_trans H1.out.1 (by have:=HX.out;omega),fun B ao cap W h=>?_⟩⟩
 have G0:=st0 h
 clear h
 go_enter Tryz.func69,Tryz.ntmps69
 go_wp2_with fail
 (with_reducible refine (tO H1 G0).mono ?_);rintro e w1 ⟨rfl,G1⟩
 go_wp2_with fail
 go_ret
 exact ⟨rfl,G1.out.g,G1.out.k⟩
theorem pattern_ex (hs : Gs bs m X) (hX : X ≤ 100000000000000) {d : Int} (hd : d - 1 ≤ m) (hd0 : -90 ≤ d) (hd9 : d ≤ 1000) (K : Nat) : Ex1 bs (X + 30) 67 d K:=by
 obtain ⟨d1,hd1⟩ : ∃ d1,d - 1 = d1:=⟨_,rfl⟩
 have w1 : wrap64 (d - 1) = d1:=by rw [IntWalk.wrap64_in _ (by omega)];exact hd1
 have w2 : IntKind.i64.wrap (d - 1) = d1:=(IntWalk.i64_left _).trans w1
 have hPipe1:=hid (hs.pipe d1 (by omega) (by omega));have hPost1:=hid (hs.post d1 (by omega) (by omega))
 have HX:=hid hX
 clear hs hX hd hd0 hd9 hd1
 obtain ⟨z1,K1,hz1,H1⟩:=next_ex (bs:=bs) K 6 6 rfl (by decide) (by decide)
 have hzz : z1 = 0 ∨ z1 = 1 ∨ z1 = 2 ∨ z1 = 3 ∨ z1 = 4 ∨ z1 = 5:=by omega
 clear hz1
 rcases hzz with rfl | rfl | rfl | rfl | rfl | rfl
 ·skip
  obtain ⟨s2,K2,H2⟩:=name_ex (bs:=bs) K1
  obtain ⟨s3,c3,Z3,q3⟩:=catL ⟨#[91,36]⟩ s2 2 H2.out.1 rfl (by have:=HX.out;omega)
  obtain ⟨s4,c4,Z4,q4⟩:=catR s3 ⟨#[44,32,36]⟩ 3 Z3.out rfl (by have:=HX.out;omega)
  obtain ⟨s5,K5,H5⟩:=name_ex (bs:=bs) K2
  obtain ⟨s6,c6,Z6,q6⟩:=cat s4 s5 Z4.out H5.out.1 (by have:=HX.out;omega)
  obtain ⟨s7,c7,Z7,q7⟩:=catR s6 ⟨#[93]⟩ 1 Z6.out rfl (by have:=HX.out;omega)
  refine ⟨s7,K5,hid ⟨Nat.le_trans Z7.out (by have:=HX.out;omega),fun B ao cap W h=>?_⟩⟩
  have G0:=st0 h
  clear h
  go_enter Tryz.func67,Tryz.ntmps67
  go_wp2_with fail
  (with_reducible refine (tN H1 G0).mono ?_);rintro e w1 ⟨rfl,G1⟩
  go_wp2_with fail
  (with_reducible refine (tB H2 G1).mono ?_);rintro e w2 ⟨rfl,G2⟩
  go_wp2_with fail
  (with_reducible refine (tB H5 G2).mono ?_);rintro e w5 ⟨rfl,G5⟩
  go_wp2_with fail
  go_ret
  exact ⟨rfl,G5.out.g,G5.out.k⟩
 ·skip
  obtain ⟨s8,K8,H8⟩:=name_ex (bs:=bs) K1
  obtain ⟨s9,c9,Z9,q9⟩:=catL ⟨#[123,36]⟩ s8 2 H8.out.1 rfl (by have:=HX.out;omega)
  obtain ⟨s10,c10,Z10,q10⟩:=catR s9 ⟨#[44,32,97,58,32,36]⟩ 6 Z9.out rfl (by have:=HX.out;omega)
  obtain ⟨s11,K11,H11⟩:=name_ex (bs:=bs) K8
  obtain ⟨s12,c12,Z12,q12⟩:=cat s10 s11 Z10.out H11.out.1 (by have:=HX.out;omega)
  obtain ⟨s13,c13,Z13,q13⟩:=catR s12 ⟨#[125]⟩ 1 Z12.out rfl (by have:=HX.out;omega)
  refine ⟨s13,K11,hid ⟨Nat.le_trans Z13.out (by have:=HX.out;omega),fun B ao cap W h=>?_⟩⟩
  have G0:=st0 h
  clear h
  go_enter Tryz.func67,Tryz.ntmps67
  go_wp2_with fail
  (with_reducible refine (tN H1 G0).mono ?_);rintro e w1 ⟨rfl,G1⟩
  go_wp2_with fail
  (with_reducible refine (tB H8 G1).mono ?_);rintro e w8 ⟨rfl,G8⟩
  go_wp2_with fail
  (with_reducible refine (tB H11 G8).mono ?_);rintro e w11 ⟨rfl,G11⟩
  go_wp2_with fail
  go_ret
  exact ⟨rfl,G11.out.g,G11.out.k⟩
 ·skip
  obtain ⟨s14,K14,H14⟩:=name_ex (bs:=bs) K1
  obtain ⟨s15,c15,Z15,q15⟩:=catL ⟨#[123,36]⟩ s14 2 H14.out.1 rfl (by have:=HX.out;omega)
  obtain ⟨s16,c16,Z16,q16⟩:=catR s15 ⟨#[58,32,91,36]⟩ 4 Z15.out rfl (by have:=HX.out;omega)
  obtain ⟨s17,K17,H17⟩:=name_ex (bs:=bs) K14
  obtain ⟨s18,c18,Z18,q18⟩:=cat s16 s17 Z16.out H17.out.1 (by have:=HX.out;omega)
  obtain ⟨s19,c19,Z19,q19⟩:=catR s18 ⟨#[93,44,32,34,98,34,58,32,36,121,125]⟩ 11 Z18.out rfl (by have:=HX.out;omega)
  refine ⟨s19,K17,hid ⟨Nat.le_trans Z19.out (by have:=HX.out;omega),fun B ao cap W h=>?_⟩⟩
  have G0:=st0 h
  clear h
  go_enter Tryz.func67,Tryz.ntmps67
  go_wp2_with fail
  (with_reducible refine (tN H1 G0).mono ?_);rintro e w1 ⟨rfl,G1⟩
  go_wp2_with fail
  (with_reducible refine (tB H14 G1).mono ?_);rintro e w14 ⟨rfl,G14⟩
  go_wp2_with fail
  (with_reducible refine (tB H17 G14).mono ?_);rintro e w17 ⟨rfl,G17⟩
  go_wp2_with fail
  go_ret
  exact ⟨rfl,G17.out.g,G17.out.k⟩
 ·skip
  obtain ⟨s20,K20,H20⟩:=hPipe1.out K1
  obtain ⟨s21,c21,Z21,q21⟩:=catL ⟨#[123,40]⟩ s20 2 H20.out.1 rfl (by have:=HX.out;omega)
  obtain ⟨s22,c22,Z22,q22⟩:=catR s21 ⟨#[41,58,32,36]⟩ 4 Z21.out rfl (by have:=HX.out;omega)
  obtain ⟨s23,K23,H23⟩:=name_ex (bs:=bs) K20
  obtain ⟨s24,c24,Z24,q24⟩:=cat s22 s23 Z22.out H23.out.1 (by have:=HX.out;omega)
  obtain ⟨s25,c25,Z25,q25⟩:=catR s24 ⟨#[125]⟩ 1 Z24.out rfl (by have:=HX.out;omega)
  refine ⟨s25,K23,hid ⟨Nat.le_trans Z25.out (by have:=HX.out;omega),fun B ao cap W h=>?_⟩⟩
  have G0:=st0 h
  clear h
  go_enter Tryz.func67,Tryz.ntmps67
  go_wp2_with fail
  (with_reducible refine (tN H1 G0).mono ?_);rintro e w1 ⟨rfl,G1⟩
  go_wp2_with fail
  (with_reducible refine (tA H20 G1).mono ?_);rintro e w20 ⟨rfl,G20⟩
  go_wp2_with fail
  (with_reducible refine (tB H23 G20).mono ?_);rintro e w23 ⟨rfl,G23⟩
  go_wp2_with fail
  go_ret
  exact ⟨rfl,G23.out.g,G23.out.k⟩
 all_goals
  obtain ⟨s26,K26,H26⟩:=name_ex (bs:=bs) K1
  obtain ⟨s27,c27,Z27,q27⟩:=catL ⟨#[36]⟩ s26 1 H26.out.1 rfl (by have:=HX.out;omega)
  refine ⟨s27,K26,hid ⟨Nat.le_trans Z27.out (by have:=HX.out;omega),fun B ao cap W h=>?_⟩⟩
  have G0:=st0 h
  clear h
  go_enter Tryz.func67,Tryz.ntmps67
  go_wp2_with fail
  (with_reducible refine (tN H1 G0).mono ?_);rintro e w1 ⟨rfl,G1⟩
  go_wp2_with fail
  (with_reducible refine (tB H26 G1).mono ?_);rintro e w26 ⟨rfl,G26⟩
  go_wp2_with fail
  go_ret
  exact ⟨rfl,G26.out.g,G26.out.k⟩
theorem args_ex (hs : Gs bs m X) (hX : X ≤ 100000000000000) {d : Int} (hd : d ≤ m) (hd0 : -90 ≤ d) (hd9 : d ≤ 1000) (K : Nat) : Ex1 bs (2 * X + 10) 80 d K:=by
 have hPipe0:=hid (hs.pipe d hd (by omega));have hPost0:=hid (hs.post d hd (by omega));have HX:=hid hX
 clear hs hX hd hd0 hd9
 obtain ⟨s1,K1,H1⟩:=hPipe0.out K
 obtain ⟨s2,c2,Z2,q2⟩:=catL ⟨#[40]⟩ s1 1 H1.out.1 rfl (by have:=HX.out;omega)
 obtain ⟨z3,K3,hz3,H3⟩:=next_ex (bs:=bs) K1 2 2 rfl (by decide) (by decide)
 have hzz : z3 = 0 ∨ z3 = 1:=by omega
 clear hz3
 rcases hzz with rfl | rfl
 ·skip
  obtain ⟨s4,c4,Z4,q4⟩:=catR s2 ⟨#[41]⟩ 1 Z2.out rfl (by have:=HX.out;omega)
  refine ⟨s4,K3,hid ⟨Nat.le_trans Z4.out (by have:=HX.out;omega),fun B ao cap W h=>?_⟩⟩
  have G0:=st0 h
  clear h
  go_enter Tryz.func80,Tryz.ntmps80
  go_wp2_with fail
  (with_reducible refine (tA H1 G0).mono ?_);rintro e w1 ⟨rfl,G1⟩
  go_wp2_with fail
  (with_reducible refine (tN H3 G1).mono ?_);rintro e w3 ⟨rfl,G3⟩
  go_wp2_with fail
  go_ret
  exact ⟨rfl,G3.out.g,G3.out.k⟩
 ·skip
  obtain ⟨s5,c5,Z5,q5⟩:=catR s2 ⟨#[59,32]⟩ 2 Z2.out rfl (by have:=HX.out;omega)
  obtain ⟨s6,K6,H6⟩:=hPipe0.out K3
  obtain ⟨s7,c7,Z7,q7⟩:=cat s5 s6 Z5.out H6.out.1 (by have:=HX.out;omega)
  obtain ⟨s8,c8,Z8,q8⟩:=catR s7 ⟨#[41]⟩ 1 Z7.out rfl (by have:=HX.out;omega)
  refine ⟨s8,K6,hid ⟨Nat.le_trans Z8.out (by have:=HX.out;omega),fun B ao cap W h=>?_⟩⟩
  have G0:=st0 h
  clear h
  go_enter Tryz.func80,Tryz.ntmps80
  go_wp2_with fail
  (with_reducible refine (tA H1 G0).mono ?_);rintro e w1 ⟨rfl,G1⟩
  go_wp2_with fail
  (with_reducible refine (tN H3 G1).mono ?_);rintro e w3 ⟨rfl,G3⟩
  go_wp2_with fail
  (with_reducible refine (tA H6 G3).mono ?_);rintro e w6 ⟨rfl,G6⟩
  go_wp2_with fail
  go_ret
  exact ⟨rfl,G6.out.g,G6.out.k⟩
end
end Go.Proofs.YthadnhpkeljdoaaGreat.gn
namespace Go.Proofs.YthadnhpkeljdoaaGreat.lx
open Go.RowKit Go.ChangeShapes Go.WideShapes Go.ChangeAt Go.ChangeMaps
open sg (lst_len)
abbrev Tk:=Int × ByteArray
def TksAt (n : Nat) (W : World) (v : Value) (ts : List Tk) : Prop :=
 ∃ ao cap,v = .slice ao ts.length cap ∧ ts.length ≤ maxLen ∧ ∀ (j : Nat) t,ts[j]? = some t → ∃ g off,ao = some ⟨g,off,none⟩ ∧ g < n ∧ W.cell? ⟨g,off + j * 2,none⟩ = some (.int .i64 t.1) ∧ W.cell? ⟨g,off + j * 2 + 1,none⟩ = some (.string t.2)
abbrev asTk (t : Lx.Tok) : Tk:=(t.1,⟨t.2.toArray⟩)
def sizeT (ts : List Tk) : Nat:=(ts.map (·.2.size)).sum
theorem take_snoc {α : Type} (l : List α) (k : Nat) (t : α) (h : l[k]? = some t) : l.take (k + 1) = l.take k ++ [t]:=by rw [List.take_add_one,h];rfl
theorem sizeT_take (ts : List Tk) (k : Nat) : sizeT (ts.take k) ≤ sizeT ts:=by
 have h:=congrArg sizeT (List.take_append_drop k ts)
 simp only [sizeT,List.map_append,List.sum_append] at h ⊢
 omega
end Go.Proofs.YthadnhpkeljdoaaGreat.lx
namespace Go.Proofs.YthadnhpkeljdoaaGreat.lx
open Go.RowKit
open sg (lst_len)
def Ok (l : List UInt8) : Prop:=utf.chkL l.length l 0 = -1
instance (l : List UInt8) : Decidable (Ok l):=inferInstanceAs (Decidable (_ = _))
end Go.Proofs.YthadnhpkeljdoaaGreat.lx
