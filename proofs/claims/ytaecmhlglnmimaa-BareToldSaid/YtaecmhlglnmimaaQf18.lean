/- Ground of the law: PvK, NdPaths2, BaPath1, NdTreeM, LxRight, LxMath2. -/
import Derived.Test.YtaecmhlglnmimaaQf17
import Derived.Test.YtaecmhlglnmimaaQf12
import Derived.Deep.RegionHeld3
import Derived.Deep.Cut
import Derived.Test.YtaecmhlglnmimaaQf15
import Derived.Test.YtaecmhlglnmimaaQf04
import Derived.Shelf.Strings.BuilderK
import Derived.WalkKit
import Derived.Test.YtaecmhlglnmimaaQf00
import Derived.Test.YtaecmhlglnmimaaQf01
import Derived.Test.YtaecmhlglnmimaaQf09
import Derived.ProofKit
import Derived.LaidMore
import Derived.Lay
import Derived.Stop.Joined
set_option maxRecDepth 100000
set_option maxHeartbeats 8000000
set_option linter.unusedVariables false
set_option linter.unusedSimpArgs false
namespace Go.Proofs.Ytaecmhlglnmimaa.pv
open Go.RowKit
def G0 (w : World) (imm : Nat → Nat → Prop) : Gh:=⟨w.heap.size,imm,fun _=>none,fun _=>none⟩
structure RetOk (I : Nat → Nat → Prop) (w : World) (G : Gh) (w' : World) (v : Value) (l : List D) : Prop where
  below : Below w.heap.size w w'
  imm : ∀ g i,I g i → G.imm g i
  immo : ∀ g i,g < w.heap.size → G.imm g i → I g i
  immlt : ∀ g i,G.imm g i → g < w'.heap.size
  rep : Rep G w' v (mkRes l)
  tok : ∀ T,G.tok 0 = some T → 0 < T.sz ∧ w'.ownsRow w.heap.size T.e T.sz T.v T.n T.xs ∧ (∀ g,T.v.ownBlock = some g → ∀ i,i < T.n * T.sz → G.imm g i) ∧ ∀ g i,T.v.ownBlock = some g → G.imm g i → i < T.n * T.sz
  full : ∀ k e sz es,D.sl (.own k e sz) es ∈ l → k = 0 ∧ ∃ T,G.tok 0 = some T ∧ T.n = es.length
def Ok (P : Program) (f : FuncId) (ds : List D) (l : List D) : Prop :=
  (∀ (args : Array Value) (w : World),(callFunc f args).run P w = .ok (.enter f args) w) ∧
  ∀ (imm : Nat → Nat → Prop) (w : World) (vs : Array Value),(∀ g i,imm g i → g < w.heap.size) → vs.size = ds.length → (∀ (i : Nat) (x : Value) (d : D),vs[i]? = some x → ds[i]? = some d → RepV (G0 w imm) w x d) →
    Calls P f vs w fun e w'=>∃ v G,e = .returned v ∧ RetOk imm w G w' v l
section
variable {P : Program} {ty : Tys} {n : Nat} {G : Gh} {m : Mem} {a : Act} {w : World} {o : Oper} {id : Nat}
theorem repC_move {G1 : Gh} (hi : ∀ g i,G.imm g i → G1.imm g i) {x : Value} {d : D} (h : RepC G w x d) (hn : noOwn d = true) : RepC G1 w x d:=by
  induction h with
  | junk x h=>exact .junk x h
  | v x h=>exact .v x h
  | sl a cap k es g q sz xs ha hc hr hl hm hk ih =>
    refine .sl a cap k es g q sz xs ha (fun i e j d h1 h2=>⟨(hc i e j d h1 h2).1,hi _ _ (hc i e j d h1 h2).2⟩) (fun i e j d h1 h2=>ih i e j d h1 h2 ?_) hl hm ?_
    · have:=(hl e (List.mem_of_getElem? h1)).2
      rw [List.all_eq_true] at this
      exact this d (List.mem_of_getElem? h2)
    · cases k with
      | no=>trivial
      | nil=>exact hk
      | own t e s=>cases hn
theorem noOwn_strip (d : D) : noOwn (strip d) = true:=by cases d <;> rfl
theorem repC_strip {G1 : Gh} (hi : ∀ g i,G.imm g i → G1.imm g i) {x : Value} {d : D} (h : RepC G w x d) : RepC G1 w x (strip d):=repC_move hi (strip_rep h) (noOwn_strip d)
theorem repV_strip {G1 : Gh} (hi : ∀ g i,G.imm g i → G1.imm g i) {x : Value} {d : D} (h : RepV G w x d) : RepV G1 w x (stripV d):=by
  cases h with
  | c h =>
    have e : stripV d = strip d:=by cases h <;> rfl
    rw [e];exact .c (repC_strip hi h)
  | agg vs l hs hr =>
    refine .agg vs _ (by simpa using hs) fun i x d h1 h2=>?_
    rw [List.getElem?_map] at h2
    obtain ⟨d',h3,rfl⟩:=Option.map_eq_some_iff.1 h2
    exact repC_strip hi (hr i x d' h1 h3)
theorem repV_stripA {G1 : Gh} (hi : ∀ g i,G.imm g i → G1.imm g i) {x : Value} {d : D} (h : RepV G w x d) : RepV G1 w x (stripA d):=by
  by_cases hn : ∃ es,d = .sl .nil es
  · obtain ⟨es,rfl⟩:=hn
    cases h with
    | c h=>exact .c (repC_move hi h rfl)
  · have e : stripA d = stripV d:=by
      unfold stripA
      split
      · rename_i es
        exact absurd ⟨es,rfl⟩ hn
      · rfl
    rw [e]
    exact repV_strip hi h
theorem repV_arg {x : Value} {d : D} (h : Rep G w x d) (hd : argD d = true) : RepV G w x d:=by
  cases h with
  | v h=>exact h
  | any=>cases hd
  | und=>cases hd
  | tup=>cases hd
  | ptr=>cases hd
  | el=>cases hd
theorem ownsRow_base {B B' e sz k : Nat} {v : Value} {xs : List Value} (h : w.ownsRow B e sz v k xs) (hB : B' ≤ B) : w.ownsRow B' e sz v k xs:=by
  refine ⟨h.1,?_⟩
  rcases h.2 with h2 | ⟨g,cap,cur,h1,h2,r⟩
  · exact .inl h2
  · exact .inr ⟨g,cap,cur,h1,Nat.le_trans hB h2,r⟩
theorem reown_len : ∀ (l : List D),(reown id l).1.length = l.length
  | []=>rfl
  | .sl (.own _ e sz) es :: r=>by simp [reown]
  | .sl .no es :: r=>by simp [reown,reown_len r]
  | .sl .nil es :: r=>by simp [reown,reown_len r]
  | .junk :: r=>by simp [reown,reown_len r]
  | .und :: r=>by simp [reown,reown_len r]
  | .num _ :: r=>by simp [reown,reown_len r]
  | .v _ :: r=>by simp [reown,reown_len r]
  | .agg _ :: r=>by simp [reown,reown_len r]
  | .tup _ :: r=>by simp [reown,reown_len r]
  | .ptr _ _ :: r=>by simp [reown,reown_len r]
  | .el _ _ :: r=>by simp [reown,reown_len r]
def isOwn : D → Bool
  | .sl (.own _ _ _) _=>true
  | _=>false
theorem reown_cons {d : D} (h : isOwn d = false) (r : List D) : reown id (d :: r) = (stripV d :: (reown id r).1,(reown id r).2):=by
  cases d <;> try rfl
  rename_i k es
  cases k <;> first | rfl | cases h
theorem reown_spec : ∀ (l : List D),((reown id l).2 = [] ∧ (∀ d ∈ l,isOwn d = false) ∧ (reown id l).1 = l.map stripV) ∨
    ∃ p k e sz es r,l = p ++ .sl (.own k e sz) es :: r ∧ (reown id l).1 = p.map stripV ++ .sl (.own id e sz) es :: r.map stripV ∧ (reown id l).2 = [(1,id,.num es.length)]
  | []=>.inl ⟨rfl,(fun d h=>by cases h),rfl⟩
  | d :: r=>by
    cases h : isOwn d with
    | false =>
      rw [reown_cons h]
      rcases reown_spec r with ⟨h1,h2,h3⟩ | ⟨p,k,e,sz,es,r',h1,h2,h3⟩
      · left
        refine ⟨h1,fun d' hd=>?_,by rw [h3];rfl⟩
        rcases List.mem_cons.1 hd with rfl | hd
        · exact h
        · exact h2 d' hd
      · right
        exact ⟨d :: p,k,e,sz,es,r',by rw [h1];rfl,by rw [h2];rfl,h3⟩
    | true =>
      right
      cases d <;> try cases h
      rename_i kk es
      cases kk <;> try cases h
      rename_i t e sz
      exact ⟨[],t,e,sz,es,r,rfl,rfl,rfl⟩
theorem rep_res {v : Value} {l : List D} (h : Rep G w v (mkRes l)) (hl : ∀ d,l = [d] → argD d = true ∨ True) : (∃ d,l = [d] ∧ Rep G w v d) ∨ ((∀ d,l ≠ [d]) ∧ ∃ vs : Array Value,v = .tuple vs ∧ vs.size = l.length ∧ ∀ (i : Nat) (x : Value) (d : D),vs[i]? = some x → l[i]? = some d → RepV G w x d):=by
  match l,h with
  | [],h=>exact .inr ⟨fun d e=>(by cases e),rep_tup h⟩
  | [d],h=>exact .inl ⟨d,rfl,h⟩
  | d :: d' :: r,h=>exact .inr ⟨fun d e=>(by cases e),rep_tup h⟩
theorem ok_call {f : FuncId} {c : Call} {l : List D} (h : Sim n G m a w) (hb : G.box id = none) (hid : G.tok id = none) (ho : o.op = .call c) {cx : Operand} (hc : c.callee = .value cx) (hcx : a.eval cx = .func (.func f) #[] #[]) (hargs : (c.args.toList.map (ev m)).all argD = true)
    (hok : Ok P f (c.args.toList.map fun x=>stripA (ev m x)) l) (hres : ∀ d ∈ l,argD d = true) : OpOk P o G a w id (mkRes (reown id l).1) (reown id l).2:=by
  intro K Q hK
  obtain ⟨hen,hcalls⟩:=hok
  have hrun : (execOp a.eval o).run P w = .ok (.enter f (c.args.map a.eval)) w:=by
    simp [execOp,ho,resolve,hc,hcx,Deferred.ofValue,invoke,hen]
  unfold Oper.wp
  rw [hrun]
  show Calls P f (c.args.map a.eval) w _
  refine (hcalls G.imm w (c.args.map a.eval) h.ok.imm (by simp) (fun i x d h1 h2=>?_)).mono ?_
  · rw [Array.getElem?_map] at h1
    obtain ⟨y,hy,rfl⟩:=Option.map_eq_some_iff.1 h1
    rw [List.getElem?_map,Array.getElem?_toList,hy] at h2
    cases h2
    rw [List.all_eq_true] at hargs
    have hy' : ev m y ∈ c.args.toList.map (ev m):=List.mem_map.2 ⟨y,by rw [Array.mem_toList_iff];exact Array.mem_of_getElem? hy,rfl⟩
    exact repV_stripA (G:=G) (G1:=G0 w G.imm) (fun _ _ h=>h) (repV_arg (h.ev y) (hargs _ hy'))
  · rintro e w' ⟨v,G',rfl,R⟩
    have hbase:=h.ok.base
    have hblk : ∀ g,g < w.heap.size → w'.heap[g]? = w.heap[g]?:=fun g hg=>R.below.block g hg
    have hboxlt : ∀ b g ty n,G.box b = some (g,ty,n) → g < w.heap.size:=fun b g ty n e=>by obtain ⟨_,vs,hv,_⟩:=h.ok.box b g ty n e;exact hv.lt
    have htoklt : ∀ u T g,G.tok u = some T → T.v.ownBlock = some g → g < w.heap.size:=fun u T g h' e=>((h.ok.tok u T h').2.1.lt g e).2
    let own : Prop:=(reown id l).2 ≠ []
    let tk : Option Tok:=if (reown id l).2.isEmpty then none else G'.tok 0
    let G1 : Gh:={ base:=G.base,imm:=fun g i=>G.imm g i ∨ (w.heap.size ≤ g ∧ G'.imm g i),box:=G.box,tok:=fun u=>if u = id then tk else G.tok u }
    have hti : G1.tok id = tk:=if_pos rfl
    have htu : ∀ u,u ≠ id → G1.tok u = G.tok u:=fun u hu=>if_neg hu
    have htk : ∀ T,tk = some T → 0 < T.sz ∧ w'.ownsRow w.heap.size T.e T.sz T.v T.n T.xs ∧ (∀ g,T.v.ownBlock = some g → ∀ i,i < T.n * T.sz → G'.imm g i) ∧ ∀ g i,T.v.ownBlock = some g → G'.imm g i → i < T.n * T.sz:=fun T hT=>by
      have : tk = none ∨ tk = G'.tok 0:=by
        show (if (reown id l).2.isEmpty then none else G'.tok 0) = none ∨ (if (reown id l).2.isEmpty then none else G'.tok 0) = _
        split
        · exact .inl rfl
        · exact .inr rfl
      rcases this with e | e
      · rw [e] at hT;cases hT
      · rw [e] at hT;exact R.tok T hT
    have himm : ∀ g i,G'.imm g i → G1.imm g i:=fun g i hi=>by
      by_cases hg : g < w.heap.size
      · exact .inl (R.immo g i hg hi)
      · exact .inr ⟨by omega,hi⟩
    have hst : Step G w G1 w':=⟨fun g i hi=>.inl hi,fun g i hi=>World.cell?_of_block (a:=⟨g,i,none⟩) (hblk g (h.ok.imm g i hi)),fun _ _ h=>h,fun u T hT=>by
      have : u ≠ id:=fun e=>by rw [e,hid] at hT;cases hT
      exact ⟨T,(htu u this).trans hT,⟨rfl,rfl⟩,Nat.le_refl _,fun _=>rfl⟩⟩
    have hG1 : GOk G1 w':=by
      refine ⟨Nat.le_trans hbase R.below.size,?_,?_,?_,h.ok.boxInj,?_,?_,?_,?_⟩
      · rintro g i (hi | ⟨_,hi⟩)
        · exact Nat.lt_of_lt_of_le (h.ok.imm g i hi) R.below.size
        · exact R.immlt g i hi
      · intro b g ty n eb
        obtain ⟨h1,vs,h2,h3⟩:=h.ok.box b g ty n eb
        exact ⟨h1,vs,(hblk g h2.lt).trans h2,h3⟩
      · rintro b g ty n i eb (hi | ⟨hi,_⟩)
        · exact h.ok.boxImm b g ty n i eb hi
        · have:=hboxlt b g ty n eb;omega
      · intro u T hT
        by_cases hu : u = id
        · subst hu
          rw [hti] at hT
          obtain ⟨q1,q2,q3,q4⟩:=htk T hT
          exact ⟨q1,ownsRow_base q2 hbase,fun g hg i hi=>himm g i (q3 g hg i hi)⟩
        · rw [htu u hu] at hT
          obtain ⟨q1,q2,q3⟩:=h.ok.tok u T hT
          refine ⟨q1,q2.kept (row:=none) ⟨R.below.os,R.below.tape,R.below.output,R.below.size,fun k hk _=>hblk k hk⟩ (by cases T.v.ownBlock <;> simp),fun g hg i hi=>.inl (q3 g hg i hi)⟩
      · intro u T g i hT hg hi
        by_cases hu : u = id
        · subst hu
          rw [hti] at hT
          obtain ⟨q1,q2,q3,q4⟩:=htk T hT
          have:=(q2.lt g hg).1
          rcases hi with hi | ⟨_,hi⟩
          · have:=h.ok.imm g i hi;omega
          · exact q4 g i hg hi
        · rw [htu u hu] at hT
          rcases hi with hi | ⟨hi,_⟩
          · exact h.ok.tokImm u T g i hT hg hi
          · have:=htoklt u T g hT hg;omega
      · intro u u' T T' g hT hT' hg hg'
        by_cases hu : u = id <;> by_cases hu' : u' = id
        · rw [hu,hu']
        · subst hu
          rw [hti] at hT;rw [htu u' hu'] at hT'
          have:=((htk T hT).2.1.lt g hg).1
          have:=htoklt u' T' g hT' hg';omega
        · subst hu'
          rw [hti] at hT';rw [htu u hu] at hT
          have:=((htk T' hT').2.1.lt g hg').1
          have:=htoklt u T g hT hg;omega
        · rw [htu u hu] at hT;rw [htu u' hu'] at hT'
          exact h.ok.tokInj u u' T T' g hT hT' hg hg'
      · intro u T b g ty n hT hg eb
        by_cases hu : u = id
        · subst hu
          rw [hti] at hT
          have:=((htk T hT).2.1.lt g hg).1
          have:=hboxlt b g ty n eb;omega
        · rw [htu u hu] at hT
          exact h.ok.tokBox u T b g ty n hT hg eb
    have hws : (reown id l).2 = [] ∨ ∃ k,(reown id l).2 = [(1,id,.num k)] ∧ ∃ T,tk = some T ∧ T.n = k:=by
      rcases reown_spec (id:=id) l with ⟨h1,_,_⟩ | ⟨p,k,e,sz,es,r,h1,h2,h3⟩
      · exact .inl h1
      · right
        obtain ⟨_,T,hT,hn⟩:=R.full k e sz es (by rw [h1];simp)
        refine ⟨_,h3,T,?_,hn⟩
        show (if (reown id l).2.isEmpty then none else G'.tok 0) = _
        rw [h3];exact hT
    have hlook : ∀ x y,(x ≠ 1 ∨ y ≠ id) → ∀ m,look ((reown id l).2 ++ m) x y = look m x y:=fun x y hxy m=>by
      rcases hws with e | ⟨k,e,_⟩
      · rw [e];rfl
      · rw [e,List.singleton_append,look_cons,if_neg (by omega)]
    have hA : After G w id (reown id l).2 G1 w':=by
      refine ⟨hst,hG1,rfl,R.below.mono hbase,fun m hm=>⟨fun b g ty n eb i x hx=>?_,fun b i hi=>?_⟩,fun m hm u q hq=>?_,fun _ _ h=>.inl h,fun u T hT=>?_,?_,fun m y=>hlook 0 y (.inl (by omega)) m⟩
      · rw [hlook _ _ (.inl (by omega))]
        rw [World.cell?_of_block (a:=⟨g,i,none⟩) (hblk g (hboxlt b g ty n eb))] at hx
        exact (hm.val b g ty n eb i x hx).mono hst
      · rw [hlook _ _ (.inl (by omega))]
        exact hm.out b i hi
      · by_cases hu : u = id
        · subst hu
          rcases hws with e | ⟨k,e,T,hT,hn⟩
          · rw [e] at hq
            obtain ⟨T,h1,h2⟩:=hm u q hq
            rw [hid] at h1;cases h1
          · rw [e,List.singleton_append,look_cons,if_pos ⟨rfl,rfl⟩] at hq
            cases hq
            exact ⟨T,hti.trans hT,hn⟩
        · rw [hlook _ _ (.inr hu)] at hq
          obtain ⟨T,h1,h2⟩:=hm u q hq
          exact ⟨T,(htu u hu).trans h1,h2⟩
      · by_cases hu : u = id
        · exact .inr hu
        · rw [htu u hu] at hT;exact .inl ⟨T,hT⟩
      · rintro g i hg (hi | ⟨hi,_⟩)
        · exact hi
        · omega
    refine hK v G1 w' hA ?_
    have each : ∀ {x : Value} {d : D},argD d = true → RepV G' w' x d → RepV G1 w' x (stripV d):=fun _ hx=>repV_strip himm hx
    have theOwn : ∀ {x : Value} {k e sz : Nat} {es : List (List D)},D.sl (.own k e sz) es ∈ l → (reown id l).2 = [(1,id,.num es.length)] → RepV G' w' x (.sl (.own k e sz) es) → RepV G1 w' x (.sl (.own id e sz) es):=by
      intro x k e sz es hmem hw hx
      obtain ⟨rfl,T,hT,hn⟩:=R.full k e sz es hmem
      cases hx with
      | c hx =>
        cases hx with
        | sl a cap _ _ g q sz' xs ha hc hr hl hm hk =>
          obtain ⟨rfl,T',t1,t2,t3,t4,t5⟩:=hk
          rw [hT] at t1;cases t1
          have htk' : tk = some T:=by
            show (if (reown id l).2.isEmpty then none else G'.tok 0) = _
            rw [hw];exact hT
          refine .c (.sl a cap _ es g q sz xs ha (fun i e j d h1 h2=>⟨(hc i e j d h1 h2).1,himm _ _ (hc i e j d h1 h2).2⟩) (fun i e j d h1 h2=>repC_move himm (hr i e j d h1 h2) ?_) hl hm ⟨rfl,T,hti.trans htk',t2,t3,t4,t5⟩)
          have:=(hl e (List.mem_of_getElem? h1)).2
          rw [List.all_eq_true] at this
          exact this d (List.mem_of_getElem? h2)
    have comp : ∀ (i : Nat) {x : Value} {d d' : D},l[i]? = some d → (reown id l).1[i]? = some d' → RepV G' w' x d → RepV G1 w' x d':=by
      intro i x d d' hi hi' hx
      rcases reown_spec (id:=id) l with ⟨h1,h2,h3⟩ | ⟨p,k,e,sz,es,r,h1,h2,h3⟩
      · rw [h3,List.getElem?_map,hi] at hi'
        cases hi'
        exact each (hres d (List.mem_of_getElem? hi)) hx
      · rw [h2] at hi'
        have hd:=hres d (List.mem_of_getElem? hi)
        have hmem : D.sl (.own k e sz) es ∈ l:=by rw [h1];simp
        have hi0:=hi
        rw [h1] at hi
        rcases Nat.lt_trichotomy i p.length with hlt | heq | hgt
        · rw [List.getElem?_append_left hlt] at hi
          rw [List.getElem?_append_left (by simpa using hlt),List.getElem?_map,hi] at hi'
          cases hi'
          exact each hd hx
        · subst heq
          rw [List.getElem?_append_right (Nat.le_refl _),Nat.sub_self] at hi
          rw [List.getElem?_append_right (by simp)] at hi'
          simp only [List.length_map,Nat.sub_self] at hi'
          cases hi;cases hi'
          exact theOwn hmem h3 hx
        · obtain ⟨j,hj⟩ : ∃ j,i - p.length = j + 1:=⟨i - p.length - 1,by omega⟩
          rw [List.getElem?_append_right (by omega),hj,List.getElem?_cons_succ] at hi
          rw [List.getElem?_append_right (by simp;omega)] at hi'
          simp only [List.length_map,hj,List.getElem?_cons_succ,List.getElem?_map] at hi'
          rw [hi] at hi'
          cases hi'
          exact each hd hx
    rcases rep_res R.rep (fun _ _=>.inr trivial) with ⟨d,rfl,hd⟩ | ⟨hne,vs,rfl,hs,hr⟩
    · have hlen:=reown_len (id:=id) [d]
      have : ∃ d',(reown id [d]).1 = [d']:=by
        match hq : (reown id [d]).1,hlen with
        | [d'],_=>exact ⟨d',rfl⟩
      obtain ⟨d',hd'⟩:=this
      have hv : RepV G' w' v d:=repV_arg hd (hres d (by simp))
      have:=comp 0 (d:=d) (d':=d') rfl (by rw [hd'];rfl) hv
      rw [hd']
      exact .v this
    · have hlen:=reown_len (id:=id) l
      have hmk : mkRes (reown id l).1 = .tup (reown id l).1:=by
        match hq : (reown id l).1 with
        | []=>rfl
        | [d'] =>
          rw [hq] at hlen
          match l,hlen with
          | [d],_=>exact absurd rfl (hne d)
        | _ :: _ :: _=>rfl
      rw [hmk]
      refine .tup vs _ (by rw [hlen];exact hs) fun i x d' hx hd'=>?_
      have hlt:=(Array.getElem?_eq_some_iff.1 hx).1
      have hld : l[i]? = some (l[i]'(by omega)):=List.getElem?_eq_getElem (by omega)
      exact comp i hld hd' (hr i x _ hx hld)
end
end Go.Proofs.Ytaecmhlglnmimaa.pv
namespace Go.Proofs.Ytaecmhlglnmimaa.nd
open Go.RowKit Go.Shelf sx ed
attribute [local go_sem] Oper.semAt_some
structure PR (G : Nat) (ov pv : Value) (q : List Int) (m k : Nat) (L : List Value) (N : Nat) (W1 : World) (d : Nat → Bool) (v9 v10 v11 v12 v13 : Value) (u : World) : Prop where
  p0 : d 0 = true → v9 = ov
  p1 : d 1 = true → v10 = pv
  q2 : d 2 = true → d 1 = true
  q3 : d 3 = true → d 2 = true
  q4 : d 4 = true → d 0 = true ∧ d 3 = true
  q5 : d 5 = true → d 4 = true
  w1 : d 2 = false → u = W1
  w2 : d 2 = true → d 3 = false → ∃ ao cap,v11 = .slice ao m cap ∧ IntsAt (Frsh W1.heap.size u.heap.size) u (.slice ao m cap) q ∧ Below W1.heap.size W1 u
  w3 : d 3 = true → d 4 = false → ∃ z ao cap,IntsAt (Frsh W1.heap.size z.heap.size) z (.slice ao m cap) q ∧ Below W1.heap.size W1 z ∧ u = z.alloc (.cells #[.slice ao m cap] 29) ∧ v12 = .slice (some ⟨z.heap.size,0,none⟩) 1 1
  w4 : d 4 = true → d 5 = false → ∃ z ao cap,IntsAt (Frsh W1.heap.size z.heap.size) z (.slice ao m cap) q ∧ Below W1.heap.size W1 z ∧ u.ownsRow G 29 1 v13 (k + 1) (L ++ [.slice ao m cap]) ∧ (z.alloc (.cells #[.slice ao m cap] 29)).grownBy u ov.ownBlock ∧ (v13.ownBlock = ov.ownBlock ∨ v13.ownBlock = some (z.heap.size + 1))
  w5 : d 5 = true → ∃ z w2 v' ao cap,IntsAt (Frsh W1.heap.size z.heap.size) z (.slice ao m cap) q ∧ Below W1.heap.size W1 z ∧ w2.ownsRow G 29 1 v' (k + 1) (L ++ [.slice ao m cap]) ∧ (z.alloc (.cells #[.slice ao m cap] 29)).grownBy w2 ov.ownBlock ∧ (v'.ownBlock = ov.ownBlock ∨ v'.ownBlock = some (z.heap.size + 1)) ∧ u = w2.setCell ⟨N,0,none⟩ v'
theorem Fo.walk_short (p : List Nat) : ∀ (f : Fo) (i : Nat) (y : Told),y ∈ f.walk p i → y.1.length ≤ p.length + f.deep
  | .nil,_,_,h=>by simp [Fo.walk] at h
  | .cons k t kids r,i,y,h=>by
    simp only [Fo.walk,List.mem_cons,List.mem_append] at h
    simp only [Fo.deep]
    rcases h with rfl | h | h
    · simp;omega
    · have:=Fo.walk_short (p ++ [i]) kids 0 y h
      simp at this
      omega
    · have:=Fo.walk_short p r (i + 1) y h
      omega
theorem Nd.walk_short (x : Nd) {p : List Nat} {y : Told} (h : y ∈ x.walk p) : y.1.length ≤ p.length + x.deep:=by
  simp only [Nd.walk,List.mem_cons] at h
  rcases h with rfl | h
  · simp
  · have:=Fo.walk_short p x.kids 0 y h
    simp only [Nd.deep];omega
theorem not_of {p q : Bool} (h : p = true → q = true) (hq : q = false) : p = false:=by
  cases p with
  | false=>rfl
  | true=>rw [h rfl] at hq;cases hq
theorem keeps_below {W z : World} (hz : Below W.heap.size W z) : KeepsOthers W z:=⟨hz.size,fun k o hk _=>(hz.block k (Array.getElem?_eq_some_iff.1 hk).1).trans hk⟩
theorem PR.last {w W z w2 : World} {N G m : Nat} {pre : List Told} {y : Told} {D : Nat → Prop} {ov v' : Value} {L : List Value} {ao : Option Addr} {cap : Nat} (hN : N < G) (hwN : w.heap.size ≤ N) (hG : G ≤ W.heap.size) (hnd : ¬ D N)
    (hb : Boxed W N 27 ov) (hrow : W.ownsRow G 29 1 ov pre.length L) (hod : ∀ k,ov.ownBlock = some k → ¬ D k) (hL : ListsAt (SP G D ov W) W L (pre.map fun x=>ints x.1)) (hI : IB w D W) (hDl : ∀ k,D k → k < W.heap.size)
    (hz : Below W.heap.size W z) (hi : IntsAt (Frsh W.heap.size z.heap.size) z (.slice ao m cap) (ints y.1)) (hown : w2.ownsRow G 29 1 v' (pre.length + 1) (L ++ [.slice ao m cap])) (hg : (z.alloc (.cells #[.slice ao m cap] 29)).grownBy w2 ov.ownBlock) (hat : v'.ownBlock = ov.ownBlock ∨ v'.ownBlock = some (z.heap.size + 1)) :
    KeepsOthers W (w2.setCell ⟨N,0,none⟩ v') ∧ KD w.heap.size D W (w2.setCell ⟨N,0,none⟩ v') ∧ PI w N G (pre ++ [y]) D (w2.setCell ⟨N,0,none⟩ v'):=by
  have hzs:=hz.size
  have hgs:=hg.size
  rw [World.size_alloc] at hgs
  have hws:=hI.1.size
  have hlow : ∀ k,k < z.heap.size → ov.ownBlock ≠ some k → w2.heap[k]? = z.heap[k]?:=fun k hk ho=>(hg.block k (by simp;omega) (fun e=>ho e.symm)).trans (Below.heap_alloc _ _ _ hk)
  have hovl : ∀ j,ov.ownBlock = some j → G ≤ j ∧ j < W.heap.size:=fun j hj=>hrow.lt j hj
  have hnN : ov.ownBlock ≠ some N:=fun e=>by have:=(hovl N e).1;omega
  have hbN : Boxed w2 N 27 ov:=(hlow N (by have:=Boxed.lt hb;omega) hnN).trans ((hz.block N (Boxed.lt hb)).trans hb)
  have hvN : v'.ownBlock ≠ some N:=fun e=>by
    have:=(hown.lt N e).1
    omega
  have hset : ∀ k,k ≠ N → (w2.setCell ⟨N,0,none⟩ v').heap[k]? = w2.heap[k]?:=fun k hk=>Below.heap_setCell _ _ _ k (fun e=>hk e)
  have hbw : Below w.heap.size W (w2.setCell ⟨N,0,none⟩ v') :=
    (((hz.mono hws).alloc (by omega) _).grown hg (by simp;omega) (fun k hk=>by have:=(hovl k hk).1;omega)).setCell (p:=⟨N,0,none⟩) hwN _
  have hkD : ∀ k,D k → k < W.heap.size → (w2.setCell ⟨N,0,none⟩ v').heap[k]? = W.heap[k]?:=fun k hk hl=>by
    rw [hset k (fun e=>hnd (e ▸ hk)),hlow k (by omega) (fun e=>hod k e hk),hz.block k hl]
  refine ⟨?_,⟨hbw,hkD⟩,⟨v',_,⟨hbN.set v',hnd⟩,by rw [List.length_append];exact own_keep hown (fun k e=>hset k (fun e'=>hvN (e' ▸ e))),fun k e hd=>?_,?_,by simp;omega⟩,hI.1.trans hbw,hI.2⟩
  · refine (((keeps_below hz).trans (KeepsOthers.alloc z _)).trans (KeepsOthers.of_grownBy hg fun j o ej hj=>?_)).trans (KeepsOthers.setCell _ _ _)
    rcases hrow.2 with ⟨e,_⟩ | ⟨g,cp,cur,e,_,hgb,_⟩
    · rw [e] at ej;simp [Value.ownBlock] at ej
    · rw [e] at ej
      obtain rfl : g = j:=by simpa [Value.ownBlock] using ej
      have hl:=(Array.getElem?_eq_some_iff.1 hgb).1
      have e1 : (z.alloc (.cells #[.slice ao m cap] 29)).heap[g]? = some (.cells cur 29 (0,0)):=(Below.heap_alloc z _ g (by omega)).trans ((hz.block g hl).trans hgb)
      rw [e1] at hj;cases hj;rfl
  · rcases hat with h | h
    · exact hod k (h ▸ e) hd
    · rw [h] at e
      cases e
      have:=hDl _ hd
      omega
  · rw [List.map_append,List.map_cons,List.map_nil]
    have hno : ∀ k,k < z.heap.size → ov.ownBlock ≠ some k → v'.ownBlock ≠ some k:=fun k hk ho e=>by
      rcases hat with h | h
      · exact ho (h ▸ e)
      · rw [h] at e;cases e;omega
    refine ListsAt.snoc (hL.keep (fun k hk=>⟨hk.1,by have:=hk.2.1;simp;omega,hk.2.2.1,hno k (by have:=hk.2.1;omega) hk.2.2.2⟩) (fun k hk=>?_)) (hi.keep (fun k hk=>⟨by have:=hk.1;omega,by have:=hk.2;simp;omega,fun hd=>by have:=hDl k hd;have:=hk.1;omega,hno k hk.2 (fun e=>by have:=(hovl k e).2;have:=hk.1;omega)⟩) (fun k hk=>?_))
    · rw [hset k (fun e=>by have:=hk.1;omega),hlow k (by have:=hk.2.1;omega) hk.2.2.2,hz.block k hk.2.1]
    · rw [hset k (fun e=>by have:=hk.1;omega),hlow k hk.2 (fun e=>by have:=(hovl k e).2;have:=hk.1;omega)]
end Go.Proofs.Ytaecmhlglnmimaa.nd
namespace Go.Proofs.Ytaecmhlglnmimaa.nd
open Go.Lib (hid)
open Go.RowKit sx ed
theorem paths_len (q p : List Int) (hne : q.length ≠ p.length) (w : World) (ga gb ca cb : Nat) (qo po : Option Addr) (qc pc : Nat) (ha : w.cell? ⟨ga,0,none⟩ = some (.slice qo q.length qc)) (hb : w.cell? ⟨gb,0,none⟩ = some (.slice po p.length pc)) :
  Calls Try.prog 10 #[.slice (some ⟨ga,0,none⟩) 1 ca,.slice (some ⟨gb,0,none⟩) 1 cb] w fun e w'=>e = .returned (.bool false) ∧ Below w.heap.size w w':=by
 obtain ⟨n,hn⟩ : ∃ n,q.length = n:=⟨_,rfl⟩
 obtain ⟨m,hm⟩ : ∃ m,p.length = m:=⟨_,rfl⟩
 rw [hn] at ha hne;rw [hm] at hb hne
 clear hn hm
 have h1 : decide ((n : Int) = (m : Int)) = false:=decide_eq_false (by omega)
 have h2 : decide (n = m) = false:=decide_eq_false hne
 have h3 : ((n : Int) != (m : Int)) = true:=by rw [bne_iff_ne];omega
 go_enter Try.func10,Try.ntmps10
 go_wp2_with fail
 go_loopw [5] (fun i wr=>i = .int .i64 0 ∧ wr = w) (fun i _=>1 - (intOf i).toNat)
 case atStart=>exact ⟨rfl,rfl⟩
 case round =>
  obtain ⟨rfl,rfl⟩:=hrel
  go_wp2_with fail
  go_region
  go_wp2_with fail
  go_ret
  exact ⟨rfl,(Below.refl _ _).drew⟩
theorem paths_same (q p : List Int) (n : Nat) (hqn : q.length = n) (hpn : p.length = n) (hn6 : n ≤ 1000000) (w : World) (ga gb ca cb : Nat) (qo po : Option Addr) (qc pc : Nat) (ha : w.cell? ⟨ga,0,none⟩ = some (.slice qo n qc)) (hb : w.cell? ⟨gb,0,none⟩ = some (.slice po n pc))
  (hq : IntsAt (Lt w.heap.size) w (.slice qo n qc) q) (hp : IntsAt (Lt w.heap.size) w (.slice po n pc) p) (b : Bool) (hbb : decide (q = p) = b) :
  Calls Try.prog 10 #[.slice (some ⟨ga,0,none⟩) 1 ca,.slice (some ⟨gb,0,none⟩) 1 cb] w fun e w'=>e = .returned (.bool b) ∧ Below w.heap.size w w':=by
 have HQ:=hid hq;have HP:=hid hp;have HA:=hid hqn;have HB:=hid hpn;have HBB:=hid hbb;have CA:=hid ha;have CB:=hid hb
 have hga:=World.block_lt_of_cell? w _ ha
 have hgb:=World.block_lt_of_cell? w _ hb
 clear hq hp hqn hpn hbb ha hb
 go_enter Try.func10,Try.ntmps10
 go_wp2_with fail
 go_loopw [5] (fun i wr=>((i = .int .i64 0) ∨ (i = .int .i64 1 ∧ q = p)) ∧ Below w.heap.size w wr) (fun i _=>1 - (intOf i).toNat)
 case atStart=>exact ⟨.inl rfl,Below.refl _ _⟩
 case round =>
  obtain ⟨hi,hbw⟩:=hrel
  rcases hi with rfl | ⟨rfl,heq⟩
  ·have ha:=(hbw.cell (p:=⟨ga,0,none⟩) hga).trans CA.out
   have hb:=(hbw.cell (p:=⟨gb,0,none⟩) hgb).trans CB.out
   have HBW:=hid hbw
   clear hbw
   have h1 : ((n : Int) != (n : Int)) = false:=by simp
   have h2 : decide ((n : Int) = (n : Int)) = true:=by simp
   go_wp2_with fail
   go_region
   go_wp2_with fail
   go_loopw [6] (fun i wr=>∃ k : Nat,k ≤ n ∧ i = .int .i64 (k : Int) ∧ q.take k = p.take k ∧ Below w.heap.size w wr) (fun i _=>n - (intOf i).toNat)
   case atStart=>exact ⟨0,Nat.zero_le _,rfl,by simp,HBW.out.drew⟩
   case round =>
    obtain ⟨k,hk,rfl,heq,hbw⟩:=hrel
    have ha:=(hbw.cell (p:=⟨ga,0,none⟩) hga).trans CA.out
    have hb:=(hbw.cell (p:=⟨gb,0,none⟩) hgb).trans CB.out
    by_cases hlt : k < n
    ·have hlt1 : (k : Int) < (n : Int):=by omega
     have hka : q[k]? = some (q[k]'(by rw [HA.out];exact hlt)):=List.getElem?_eq_getElem _
     have hkb : p[k]? = some (p[k]'(by rw [HB.out];exact hlt)):=List.getElem?_eq_getElem _
     obtain ⟨x,hx⟩ : ∃ x,q[k]'(by rw [HA.out];exact hlt) = x:=⟨_,rfl⟩
     obtain ⟨y,hy⟩ : ∃ y,p[k]'(by rw [HB.out];exact hlt) = y:=⟨_,rfl⟩
     rw [hx] at hka
     rw [hy] at hkb
     obtain ⟨g1,o1,ea,s1,c1⟩:=(HQ.out.below hbw (Nat.le_refl _)).get hka
     obtain ⟨g2,o2,eb,s2,c2⟩:=(HP.out.below hbw (Nat.le_refl _)).get hkb
     subst ea;subst eb
     have hnx : x = y → q.take (k + 1) = p.take (k + 1):=fun e=>by
      rw [List.take_add_one,List.take_add_one,heq,hka,hkb,e]
     have hno : x ≠ y → q ≠ p:=fun e h=>by
      rw [h,hkb] at hka
      exact e (Option.some.inj hka).symm
     have HB2:=hid hbw;have HNX:=hid hnx;have HNO:=hid hno
     clear hx hy hka hkb hbw hnx hno heq
     by_cases hxy : x = y
     ·have h1 : decide (x = y) = true:=decide_eq_true hxy
      subst hxy
      go_wp2_with fail
      go_region
      go_wp2_with fail
      exact ⟨⟨k + 1,hlt,by go_num,HNX.out trivial,HB2.out.drew⟩,by simp [intOf];omega⟩
     ·have h1 : decide (x = y) = false:=decide_eq_false hxy
      have hbf : b = false:=by rw [← HBB.out];exact decide_eq_false (HNO.out hxy)
      subst hbf
      go_wp2_with fail
      go_region
      go_wp2_with fail
      go_ret
      exact ⟨rfl,HB2.out.drew⟩
    ·obtain rfl : k = n:=by omega
     have hqp : q = p:=by
      have h1:=heq
      rw [List.take_of_length_le (by rw [HA.out];exact Nat.le_refl _),List.take_of_length_le (by rw [HB.out];exact Nat.le_refl _)] at h1
      exact h1
     have hge : decide ((k : Int) < (k : Int)) = false:=by simp
     have HB2:=hid hbw;have HE:=hid hqp
     clear hbw hqp heq
     go_wp2_with fail
     exact ⟨⟨.inr ⟨rfl,HE.out⟩,HB2.out⟩,by simp [intOf]⟩
  ·have hbt : b = true:=by rw [← HBB.out];exact decide_eq_true heq
   subst hbt
   have HB2:=hid hbw
   clear hbw heq
   go_wp2_with fail
   go_ret
   exact ⟨rfl,HB2.out⟩
theorem paths1_calls (q p : List Int) (hq6 : q.length ≤ 1000000) (w : World) (ga gb ca cb : Nat) (qo po : Option Addr) (qc pc : Nat) (ha : w.cell? ⟨ga,0,none⟩ = some (.slice qo q.length qc)) (hb : w.cell? ⟨gb,0,none⟩ = some (.slice po p.length pc))
  (hq : IntsAt (Lt w.heap.size) w (.slice qo q.length qc) q) (hp : IntsAt (Lt w.heap.size) w (.slice po p.length pc) p) :
  Calls Try.prog 10 #[.slice (some ⟨ga,0,none⟩) 1 ca,.slice (some ⟨gb,0,none⟩) 1 cb] w fun e w'=>e = .returned (.bool (decide (q = p))) ∧ Below w.heap.size w w':=by
 by_cases h : q.length = p.length
 ·rw [← h] at hb hp
  exact paths_same q p q.length rfl h.symm hq6 w ga gb ca cb qo po qc pc ha hb hq hp _ rfl
 ·have e : decide (q = p) = false:=decide_eq_false fun e=>h (by rw [e])
  rw [e]
  exact paths_len q p h w ga gb ca cb qo po qc pc ha hb
end Go.Proofs.Ytaecmhlglnmimaa.nd
namespace Go.Proofs.Ytaecmhlglnmimaa.nd
open Go.RowKit sx ed
theorem CellsOf.take {S : Nat → Prop} {W : World} : ∀ {f : Fo} {L : List Value} (i : Nat),CellsOf S W f L → CellsOf S W (f.take i) (L.take (i * 3))
  | f,L,0,_=>by cases f <;> simp [Fo.take,CellsOf]
  | .nil,L,i + 1,e=>by rw [show L = [] from e];simp [Fo.take,CellsOf]
  | .cons k t kids r,L,i + 1,⟨v,L',e,hk,hr⟩=>by
    subst e
    refine ⟨v,L'.take (i * 3),?_,hk,CellsOf.take i hr⟩
    rw [show (i + 1) * 3 = i * 3 + 1 + 1 + 1 by omega]
    rfl
theorem CellsOf.drop {S : Nat → Prop} {W : World} : ∀ {f : Fo} {L : List Value} (i : Nat),CellsOf S W f L → CellsOf S W (f.drop i) (L.drop (i * 3))
  | f,L,0,h=>by
    rw [Nat.zero_mul,List.drop_zero]
    cases f <;> exact h
  | .nil,L,i + 1,e=>by rw [show L = [] from e];simp [Fo.drop,CellsOf]
  | .cons k t kids r,L,i + 1,⟨v,L',e,hk,hr⟩=>by
    subst e
    rw [show (i + 1) * 3 = i * 3 + 1 + 1 + 1 by omega]
    exact CellsOf.drop i hr
theorem own_take {W : World} {N g m cap q : Nat} {e : TypeId} {L : List Value} (h : W.ownsRow N e 3 (.slice (some ⟨g,0,none⟩) m cap) m L) (hq : q ≤ m) : W.ownsRow N e 3 (.slice (some ⟨g,0,none⟩) q cap) q (L.take (q * 3)):=by
  have hl:=h.1
  refine ⟨by rw [List.length_take];omega,.inr ?_⟩
  rcases h.2 with ⟨e,_⟩ | ⟨g',cap',cur,e,h2,h3,h4,h5,h6,h7⟩
  · cases e
  · cases e
    refine ⟨g,cap,cur,rfl,h2,h3,by omega,h5,h6,?_⟩
    rw [← h7,List.take_take]
    congr 1
    omega
theorem tree_mid {N m k q g cap : Nat} {wr W2 Wa : World} {l : Fo} {L : List Value} {v' : Value}
    (hown : wr.ownsRow N 25 3 (.slice (some ⟨g,0,none⟩) m cap) m L) (hL : CellsOf (Priv N wr (.slice (some ⟨g,0,none⟩) m cap)) wr l L) (hlm : l.len = m) (hq : q ≤ m) (hk : m - q = k) (hN : N ≤ wr.heap.size) (hb2 : Below wr.heap.size wr W2)
    (hs : W2.heap.size = wr.heap.size + 1) (hown' : Wa.ownsRow W2.heap.size 25 3 v' k (L.drop (q * 3))) (hba : Below W2.heap.size W2 Wa) :
    (Wa.setCell ⟨wr.heap.size,2,none⟩ v').ownsRow N 25 3 (.slice (some ⟨g,0,none⟩) q cap) q (L.take (q * 3)) ∧
      CellsOf (Priv N (Wa.setCell ⟨wr.heap.size,2,none⟩ v') (.slice (some ⟨g,0,none⟩) q cap)) (Wa.setCell ⟨wr.heap.size,2,none⟩ v') (l.take q) (L.take (q * 3)) ∧
      KidsAt (Priv N (Wa.setCell ⟨wr.heap.size,2,none⟩ v') (.slice (some ⟨g,0,none⟩) q cap)) (Wa.setCell ⟨wr.heap.size,2,none⟩ v') (l.drop q) v' ∧ Below wr.heap.size wr (Wa.setCell ⟨wr.heap.size,2,none⟩ v'):=by
  have hb : Below wr.heap.size wr (Wa.setCell ⟨wr.heap.size,2,none⟩ v'):=(hb2.trans (hba.mono hb2.size)).setCell (p:=⟨wr.heap.size,2,none⟩) (Nat.le_refl _) _
  have hbs:=hb.size
  have hg:=(hown.lt g rfl).2
  have has:=hba.size
  have hkp : ∀ j,Priv N wr (.slice (some ⟨g,0,none⟩) m cap) j → Priv N (Wa.setCell ⟨wr.heap.size,2,none⟩ v') (.slice (some ⟨g,0,none⟩) q cap) j:=fun j hj=>⟨hj.1,by have:=hj.2.1;omega,hj.2.2⟩
  have hL3:=hL.keep hkp (fun j hj=>hb.block j hj.2.1)
  refine ⟨own_keep (own_take hown hq) (fun j e=>hb.block j (by cases e;exact hg)),hL3.take q,?_,hb⟩
  have hlen : (l.drop q).len = k:=by rw [Fo.drop_len,hlm,hk]
  have ho3 : (Wa.setCell ⟨wr.heap.size,2,none⟩ v').ownsRow W2.heap.size 25 3 v' (l.drop q).len (L.drop (q * 3)):=by
    rw [hlen]
    exact own_keep hown' (fun j e=>Below.heap_setCell _ _ _ j (fun e'=>by have:=(hown'.lt j e).1;have e2 : j = wr.heap.size:=e';omega))
  exact own_kids ho3 (hL3.drop q) (fun _ h=>h) (fun j e=>by
    have h1:=ho3.lt j e
    refine ⟨by omega,h1.2,fun e2=>?_⟩
    have e3 : g = j:=by simpa [Value.ownBlock] using e2
    have h2:=h1.1
    omega)
end Go.Proofs.Ytaecmhlglnmimaa.nd
namespace Go.Proofs.Ytaecmhlglnmimaa.lx
open Go.RowKit Go.ChangeShapes Go.WideShapes Go.ChangeAt Go.ChangeMaps
open sg (lst_len)
abbrev Tk:=Int × ByteArray
def TksAt (n : Nat) (W : World) (v : Value) (ts : List Tk) : Prop :=
 ∃ ao cap,v = .slice ao ts.length cap ∧ ts.length ≤ maxLen ∧ ∀ (j : Nat) t,ts[j]? = some t → ∃ g off,ao = some ⟨g,off,none⟩ ∧ g < n ∧ W.cell? ⟨g,off + j * 2,none⟩ = some (.int .i64 t.1) ∧ W.cell? ⟨g,off + j * 2 + 1,none⟩ = some (.string t.2)
abbrev asTk (t : Lx.Tok) : Tk:=(t.1,⟨t.2.toArray⟩)
def sizeT (ts : List Tk) : Nat:=(ts.map (·.2.size)).sum
theorem take_snoc {α : Type} (l : List α) (k : Nat) (t : α) (h : l[k]? = some t) : l.take (k + 1) = l.take k ++ [t]:=by rw [List.take_add_one,h];rfl
theorem sizeT_take (ts : List Tk) (k : Nat) : sizeT (ts.take k) ≤ sizeT ts:=by
 have h:=congrArg sizeT (List.take_append_drop k ts)
 simp only [sizeT,List.map_append,List.sum_append] at h ⊢
 omega
end Go.Proofs.Ytaecmhlglnmimaa.lx
namespace Go.Proofs.Ytaecmhlglnmimaa.lx
open Go.RowKit
open sg (lst_len)
def Ok (l : List UInt8) : Prop:=utf.chkL l.length l 0 = -1
instance (l : List UInt8) : Decidable (Ok l):=inferInstanceAs (Decidable (_ = _))
end Go.Proofs.Ytaecmhlglnmimaa.lx
