/- Ground of the law: PvN2, ItRefA, ItSame, PaItems, PvP, ItRefL. -/
import Derived.Test.YthadnhpkeljdoaaQh21
import Derived.Laws.AppendOwnNone
import Derived.Test.YthadnhpkeljdoaaQh10
import Derived.Test.YthadnhpkeljdoaaQh15
import Derived.Test.YthadnhpkeljdoaaQh01
import Derived.Laws.StructEq
set_option maxRecDepth 100000
set_option maxHeartbeats 8000000
set_option linter.unusedVariables false
set_option linter.unusedSimpArgs false
namespace Go.Proofs.Ythadnhpkeljdoaa.pv
open Go.RowKit
abbrev Ann:=List (Nat × Nat × Option (Nat × Nat))
def trD (base : Nat) : D → D
  | .v x=>.v x
  | .agg l=>.agg (l.map strip)
  | .sl .nil es=>.sl .nil es
  | .sl _ es=>.sl .no es
  | .ptr b off=>bif (b + 1).ble base then .ptr b off else .junk
  | .und=>.und
  | _=>.junk
def keyOk (base x : Nat) : Bool:=!x.beq 1 && x.ble (base + 1)
def restrD (m : Mem) (base : Nat) : Nat → Ann → List Nat → (Mem → Prop) → Prop
  | _,[],_,K=>K []
  | j,(x,y,none) :: r,us,K=>bif keyOk base x then restrD m base (j + 1) r us fun m'=>K ((x,y,trD base (look m x y)) :: m') else False
  | j,(x,y,some (e,sz)) :: r,us,K=>bif keyOk base x && !sz.beq 0 then (match look m x y with
    | .sl .nil []=>restrD m base (j + 1) r us fun m'=>K ((x,y,.sl (.own (base + j) e sz) []) :: (1,base + j,.num 0) :: m')
    | .sl (.own t e' sz') es=>bif e.beq e' && sz.beq sz' && !inL us t then (match look m 1 t with
      | .num n=>n = es.length ∧ restrD m base (j + 1) r (t :: us) fun m'=>K ((x,y,.sl (.own (base + j) e sz) es) :: (1,base + j,.num es.length) :: m')
      | _=>False) else False
    | _=>False) else False
section
variable {P : Program} {E : Env} {G : Gh} {m : Mem} {a : Act} {w : World} {base : Nat}
def TokHas (G : Gh) (w : World) (T : Tok) : Prop:=0 < T.sz ∧ w.ownsRow G.base T.e T.sz T.v T.n T.xs ∧ (∀ g,T.v.ownBlock = some g → ∀ i,i < T.n * T.sz → G.imm g i) ∧ ∀ g i,T.v.ownBlock = some g → G.imm g i → i < T.n * T.sz
def Gk (G : Gh) (base : Nat) (tk : Nat → Option Tok) : Gh:=⟨G.base,G.imm,fun b=>bif (b + 1).ble base then G.box b else none,tk⟩
structure Kept (G : Gh) (w : World) (m : Mem) (base j n : Nat) (us : List Nat) (m' : Mem) (tk : Nat → Option Tok) : Prop where
  tok : ∀ u T,tk u = some T → (base + j ≤ u ∧ u < base + j + n) ∧ TokHas G w T ∧ ((∃ t,t ∉ us ∧ G.tok t = some T) ∨ T.v.ownBlock = none)
  inj : ∀ u u' T T' g,tk u = some T → tk u' = some T' → T.v.ownBlock = some g → T'.v.ownBlock = some g → u = u'
  rep : ∀ (tk' : Nat → Option Tok),(∀ u T,tk u = some T → tk' u = some T) → ∀ x y v,x ≠ 1 → (look m' x y = .junk ∨ ((Rep G w v (look m x y) → Rep (Gk G base tk') w v (look m' x y)) ∧ (RepC G w v (look m x y) → RepC (Gk G base tk') w v (look m' x y))))
  junk : ∀ x y,x ≠ 1 → look m x y = .junk → look m' x y = .junk
  key : ∀ x y,look m' x y ≠ .junk → x ≤ base + 1
  num : ∀ u k,look m' 1 u = .num k → ∃ T,tk u = some T ∧ T.n = k
theorem gk_c {tk : Nat → Option Tok} {x : Value} {d : D} (h : RepC G w x d) (hn : noOwn d = true) : RepC (Gk G base tk) w x d:=repC_move (G:=G) (G1:=Gk G base tk) (fun _ _ h=>h) h hn
theorem tr_rep {tk : Nat → Option Tok} {v : Value} {d : D} (h : Rep G w v d) : Rep (Gk G base tk) w v (trD base d):=by
  cases h with
  | v h=>cases h with
    | c h=>cases h with
      | junk=>exact .any _
      | v _ h=>exact .v (.c (.v _ h))
      | sl a cap k es g o sz xs ha hc hr hl hm hk =>
        have h0 : RepC (Gk G base tk) w (.slice a es.length cap) (.sl .no es):=gk_c (.sl a cap .no es g o sz xs ha hc hr hl hm trivial) rfl
        cases k with
        | no=>exact .v (.c h0)
        | nil=>exact .v (.c (gk_c (.sl a cap .nil es g o sz xs ha hc hr hl hm hk) rfl))
        | own t e s=>exact .v (.c h0)
    | agg vs l hs hr =>
      refine .v (.agg vs _ (by simpa using hs) fun i x d h1 h2=>?_)
      rw [List.getElem?_map] at h2
      obtain ⟨d',h3,rfl⟩:=Option.map_eq_some_iff.1 h2
      exact gk_c (strip_rep (hr i x d' h1 h3)) (noOwn_strip d')
  | any=>exact .any _
  | und=>exact .und
  | tup=>exact .any _
  | ptr b off g n ty hb =>
    show Rep _ w _ (bif (b + 1).ble base then .ptr b off else .junk)
    cases hc : (b + 1).ble base with
    | false=>exact .any _
    | true =>
      refine .ptr b off g n ty ?_
      show (bif (b + 1).ble base then G.box b else none) = _
      rw [hc];exact hb
  | el=>exact .any _
theorem tr_repC {tk : Nat → Option Tok} {v : Value} {d : D} (h : RepC G w v d) : RepC (Gk G base tk) w v (trD base d):=by
  have h1:=h.one
  have:=tr_rep (base:=base) (tk:=tk) (Rep.v (.c h))
  cases h with
  | junk _ h=>exact .junk _ h
  | v _ h=>exact .v _ h
  | sl a cap k es g o sz xs ha hc hr hl hm hk =>
    cases k <;> exact rep_c rfl this
theorem own_repC {tk : Nat → Option Tok} {v : Value} {t e sz u : Nat} {es : List (List D)} {T : Tok} (h : RepC G w v (.sl (.own t e sz) es)) (hT : G.tok t = some T) (hu : tk u = some T) : RepC (Gk G base tk) w v (.sl (.own u e sz) es):=by
  cases h with
  | sl a cap _ _ g o s xs ha hc hr hl hm hk =>
    obtain ⟨h0,T',t1,t2,t3,t4,t5⟩:=hk
    rw [hT] at t1;cases t1
    refine .sl a cap _ es g o s xs ha hc (fun i c j d h1 h2=>gk_c (hr i c j d h1 h2) ?_) hl hm ⟨h0,T,hu,t2,t3,t4,t5⟩
    have:=(hl c (List.mem_of_getElem? h1)).2
    rw [List.all_eq_true] at this
    exact this d (List.mem_of_getElem? h2)
theorem nil_repC {tk : Nat → Option Tok} {v : Value} {e sz u : Nat} (h : RepC G w v (.sl .nil [])) (hu : tk u = some ⟨.slice none 0 0,e,sz,0,[]⟩) : RepC (Gk G base tk) w v (.sl (.own u e sz) []):=by
  generalize hd : D.sl .nil [] = d at h
  cases h with
  | sl a cap k es g o s xs ha hc hr hl hm hk =>
    cases hd
    obtain ⟨_,rfl,rfl⟩:=hk
    exact .sl none 0 _ [] 0 0 sz (fun _ _=>undef) (fun e=>absurd rfl e) (fun i c j d h=>by cases h) (fun i c j d h=>by cases h) (fun c hc=>by cases hc) ⟨Nat.zero_le _,Nat.le_refl _⟩ ⟨rfl,_,hu,rfl,rfl,Nat.le_refl _,fun _=>rfl⟩
  | _=>cases hd
theorem key_le {x : Nat} (h : keyOk base x = true) : x ≠ 1 ∧ x ≤ base + 1:=by
  unfold keyOk at h
  rw [Bool.and_eq_true,Bool.not_eq_true'] at h
  exact ⟨fun e=>by rw [e] at h;exact absurd h.1 (by decide),Nat.le_of_ble_eq_true h.2⟩
theorem restr_out (h0 : Sim E.n G m a w) : ∀ (L : Ann) (j : Nat) (us : List Nat) (K : Mem → Prop),restrD m base j L us K → ∃ m' tk,K m' ∧ Kept G w m base j L.length us m' tk
  | [],j,us,K,h=>⟨[],fun _=>none,h,(fun u T h=>by cases h),(fun u u' T T' g h=>by cases h),(fun _ _ x y v _=>.inl rfl),(fun _ _ _ _=>rfl),(fun x y h=>absurd rfl h),(fun u k h=>by cases h)⟩
  | (x,y,none) :: r,j,us,K,h=>by
    have h : (bif keyOk base x then restrD m base (j + 1) r us fun m'=>K ((x,y,trD base (look m x y)) :: m') else False):=h
    cases hk : keyOk base x with
    | false=>rw [hk] at h;exact h.elim
    | true =>
      rw [hk] at h
      obtain ⟨hx1,hx2⟩:=key_le hk
      obtain ⟨m',tk,h1,k⟩:=restr_out h0 r (j + 1) us _ h
      refine ⟨_,tk,h1,fun u T hT=>?_,k.inj,fun tk' ht p q v hp=>?_,fun p q hp hl=>?_,fun p q hl=>?_,fun u n hl=>?_⟩
      · obtain ⟨a1,a2⟩:=k.tok u T hT
        exact ⟨by simp only [List.length_cons];omega,a2⟩
      · rw [look_cons]
        by_cases e : x = p ∧ y = q
        · obtain ⟨rfl,rfl⟩:=e
          rw [if_pos ⟨rfl,rfl⟩]
          exact .inr ⟨tr_rep,tr_repC⟩
        · rw [if_neg e];exact k.rep tk' ht p q v hp
      · rw [look_cons]
        by_cases e : x = p ∧ y = q
        · obtain ⟨rfl,rfl⟩:=e
          rw [if_pos ⟨rfl,rfl⟩,hl];rfl
        · rw [if_neg e];exact k.junk p q hp hl
      · rw [look_cons] at hl
        by_cases e : x = p ∧ y = q
        · rw [← e.1];exact hx2
        · rw [if_neg e] at hl;exact k.key p q hl
      · rw [look_cons,if_neg (fun e=>hx1 e.1)] at hl
        exact k.num u n hl
  | (x,y,some (e,sz)) :: r,j,us,K,h=>by
    have h : (bif keyOk base x && !sz.beq 0 then (match look m x y with
      | .sl .nil []=>restrD m base (j + 1) r us fun m'=>K ((x,y,.sl (.own (base + j) e sz) []) :: (1,base + j,.num 0) :: m')
      | .sl (.own t e' sz') es=>bif e.beq e' && sz.beq sz' && !inL us t then (match look m 1 t with
        | .num n=>n = es.length ∧ restrD m base (j + 1) r (t :: us) fun m'=>K ((x,y,.sl (.own (base + j) e sz) es) :: (1,base + j,.num es.length) :: m')
        | _=>False) else False
      | _=>False) else False):=h
    cases hk : (keyOk base x && !sz.beq 0) with
    | false=>rw [hk] at h;exact h.elim
    | true =>
      rw [hk] at h
      rw [Bool.and_eq_true,Bool.not_eq_true'] at hk
      obtain ⟨hx1,hx2⟩:=key_le hk.1
      have hsz : 0 < sz:=Nat.pos_of_ne_zero fun e=>by rw [e] at hk;exact absurd hk.2 (by decide)
      have fin : ∀ (us' : List Nat) (m' : Mem) (tk : Nat → Option Tok) (T : Tok) (es : List (List D)),Kept G w m base (j + 1) r.length us' m' tk → (∀ t,t ∉ us' → t ∉ us) → TokHas G w T → T.n = es.length →
          ((∃ t,t ∉ us ∧ t ∈ us' ∧ G.tok t = some T) ∨ T.v.ownBlock = none) → look m x y ≠ .junk →
          (∀ tk' : Nat → Option Tok,tk' (base + j) = some T → ∀ v,RepC G w v (look m x y) → RepC (Gk G base tk') w v (.sl (.own (base + j) e sz) es)) → cellD (look m x y) = true →
          Kept G w m base j (r.length + 1) us ((x,y,.sl (.own (base + j) e sz) es) :: (1,base + j,.num es.length) :: m') (fun u=>if u = base + j then some T else tk u):=by
        intro us' m' tk T es k hus hT hTn hsrc hnj hrep hcell
        have hlook : ∀ p q,¬ (x = p ∧ y = q) → p ≠ 1 → look ((x,y,.sl (.own (base + j) e sz) es) :: (1,base + j,.num es.length) :: m') p q = look m' p q:=fun p q h1 h2=>by
          rw [look_cons,if_neg h1,look_cons,if_neg (fun e=>h2 e.1.symm)]
        refine ⟨fun u T' hT'=>?_,fun u u' T1 T2 g h1 h2 g1 g2=>?_,fun tk' ht p q v hp=>?_,fun p q hp hl=>?_,fun p q hl=>?_,fun u n hl=>?_⟩
        · by_cases hu : u = base + j
          · simp only [hu,if_true] at hT'
            cases hT'
            exact ⟨by omega,hT,hsrc.imp (fun ⟨t,a,_,b⟩=>⟨t,a,b⟩) (fun h=>h)⟩
          · simp only [hu,if_false] at hT'
            obtain ⟨a1,a2,a3⟩:=k.tok u T' hT'
            exact ⟨by omega,a2,a3.imp (fun ⟨t,a,b⟩=>⟨t,hus t a,b⟩) (fun h=>h)⟩
        · have clash : ∀ {u' T2 g},tk u' = some T2 → T.v.ownBlock = some g → T2.v.ownBlock = some g → False:=fun {u' T2 g} h2 g1 g2=>by
            rcases hsrc with ⟨t,_,b,c⟩ | hn
            · obtain ⟨_,_,a3⟩:=k.tok u' T2 h2
              rcases a3 with ⟨t',b',c'⟩ | hn
              · have:=h0.ok.tokInj t t' T T2 g c c' g1 g2
                rw [this] at b
                exact b' b
              · rw [hn] at g2;cases g2
            · rw [hn] at g1;cases g1
          by_cases hu : u = base + j <;> by_cases hu' : u' = base + j
          · rw [hu,hu']
          · simp only [hu,if_true] at h1;simp only [hu',if_false] at h2
            cases h1
            exact (clash h2 g1 g2).elim
          · simp only [hu,if_false] at h1;simp only [hu',if_true] at h2
            cases h2
            exact (clash h1 g2 g1).elim
          · simp only [hu,if_false] at h1;simp only [hu',if_false] at h2
            exact k.inj u u' T1 T2 g h1 h2 g1 g2
        · by_cases e' : x = p ∧ y = q
          · obtain ⟨rfl,rfl⟩:=e'
            rw [look_cons,if_pos ⟨rfl,rfl⟩]
            have hj:=ht (base + j) T (by simp)
            exact .inr ⟨fun hv=>.v (.c (hrep tk' hj v (rep_c hcell hv))),fun hv=>hrep tk' hj v hv⟩
          · rw [hlook p q e' hp]
            refine k.rep tk' (fun u T' hT'=>ht u T' ?_) p q v hp
            have hne : u ≠ base + j:=by have:=(k.tok u T' hT').1;omega
            simp only [hne,if_false];exact hT'
        · by_cases e' : x = p ∧ y = q
          · obtain ⟨rfl,rfl⟩:=e';exact absurd hl hnj
          · rw [hlook p q e' hp];exact k.junk p q hp hl
        · by_cases e' : x = p ∧ y = q
          · rw [← e'.1];exact hx2
          · by_cases h1 : p = 1
            · omega
            · rw [hlook p q e' h1] at hl;exact k.key p q hl
        · rw [look_cons,if_neg (fun e=>hx1 e.1),look_cons] at hl
          by_cases hu : base + j = u
          · rw [if_pos ⟨rfl,hu⟩] at hl
            cases hl
            exact ⟨T,by simp [hu.symm],hTn⟩
          · rw [if_neg (fun e=>hu e.2)] at hl
            obtain ⟨T',a1,a2⟩:=k.num u n hl
            exact ⟨T',by simp only [Ne.symm hu,if_false];exact a1,a2⟩
      simp only [cond_true] at h
      split at h
      · rename_i hl
        obtain ⟨m',tk,h1,k⟩:=restr_out h0 r (j + 1) us _ h
        exact ⟨_,_,h1,fin us m' tk ⟨.slice none 0 0,e,sz,0,[]⟩ [] k (fun t h=>h) ⟨hsz,World.ownsRow_nil w _ _ _,(fun g hg=>by cases hg),(fun g i hg=>by cases hg)⟩ rfl (.inr rfl) (by rw [hl];simp) (fun tk' ht v hv=>by rw [hl] at hv;exact nil_repC hv ht) (by rw [hl];rfl)⟩
      · rename_i t e' sz' es hl
        cases hb : (e.beq e' && sz.beq sz' && !inL us t) with
        | false=>rw [hb] at h;exact h.elim
        | true =>
          rw [hb] at h
          simp only [cond_true] at h
          rw [Bool.and_eq_true,Bool.and_eq_true,Bool.not_eq_true'] at hb
          obtain rfl:=Nat.eq_of_beq_eq_true hb.1.1
          obtain rfl:=Nat.eq_of_beq_eq_true hb.1.2
          have hus : t ∉ us:=fun hm=>by rw [inL_iff.2 hm] at hb;cases hb.2
          split at h
          · rename_i n hn
            obtain ⟨rfl,h⟩:=h
            obtain ⟨T,t1,t2⟩:=h0.toks t _ hn
            obtain ⟨q1,q2,q3⟩:=h0.ok.tok t T t1
            obtain ⟨m',tk,h1,k⟩:=restr_out h0 r (j + 1) (t :: us) _ h
            exact ⟨_,_,h1,fin (t :: us) m' tk T es k (fun t' h' hm=>h' (List.mem_cons_of_mem _ hm)) ⟨q1,q2,q3,fun g i hg hi=>h0.ok.tokImm t T g i t1 hg hi⟩ t2 (.inl ⟨t,hus,List.mem_cons_self ..,t1⟩) (by rw [hl];simp) (fun tk' ht v hv=>by rw [hl] at hv;exact own_repC hv t1 ht) (by rw [hl];rfl)⟩
          · exact h.elim
      · exact h.elim
theorem restr_run {w0 : World} {I : Nat → Nat → Prop} {fr : Nat → Prop} {L : Ann} {K : Mem → Prop} (hr : Run E w0 I fr G m a w) (h : restrD m base 0 L [] K) : ∃ G' m',K m' ∧ Run E w0 I (fun u=>base + L.length ≤ u) G' m' a w:=by
  obtain ⟨m',tk,hK,k⟩:=restr_out hr.sim L 0 [] K h
  have hbox : ∀ b x,(Gk G base tk).box b = some x → b < base ∧ G.box b = some x:=fun b x hb=>by
    have hb : (bif (b + 1).ble base then G.box b else none) = some x:=hb
    cases hc : (b + 1).ble base with
    | false=>rw [hc] at hb;cases hb
    | true=>rw [hc] at hb;exact ⟨Nat.le_of_ble_eq_true hc,hb⟩
  have hok:=hr.sim.ok
  refine ⟨Gk G base tk,m',hK,⟨hr.sim.tm,hr.sim.df,fun t=>?_,⟨fun b g ty n hb i x hx=>?_,fun b i hi=>?_⟩,fun u n hu=>k.num u n hu,
    ⟨hok.base,hok.imm,fun b g ty n hb=>hok.box b g ty n (hbox b _ hb).2,fun b g ty n i hb=>hok.boxImm b g ty n i (hbox b _ hb).2,fun b b' g ty ty' n n' hb hb'=>hok.boxInj b b' g ty ty' n n' (hbox b _ hb).2 (hbox b' _ hb').2,
      fun t T hT=>?_,fun t T g i hT hg hi=>(k.tok t T hT).2.1.2.2.2 g i hg hi,fun t t' T T' g h1 h2 g1 g2=>k.inj t t' T T' g h1 h2 g1 g2,fun t T b g ty n hT hg hb=>?_⟩⟩,
    hr.base,hr.below,hr.imm,hr.immo,fun u hu=>⟨?_,?_⟩⟩
  · rcases k.rep tk (fun _ _ h=>h) 0 t (a.tmps.getD t undef) (by omega) with h1 | ⟨h1,_⟩
    · rw [h1];exact .any _
    · exact h1 (hr.sim.slot t)
  · have hc:=hr.sim.cells.val b g ty n (hbox b _ hb).2 i x hx
    rcases k.rep tk (fun _ _ h=>h) (b + 2) i x (by omega) with h1 | ⟨_,h1⟩
    · rw [h1];exact .junk _ hc.one
    · exact h1 hc
  · by_cases hb : b < base
    · have hc : (b + 1).ble base = true:=Nat.ble_eq_true_of_le hb
      refine k.junk _ _ (by omega) (hr.sim.cells.out b i fun g ty n hg=>hi g ty n ?_)
      show (bif (b + 1).ble base then G.box b else none) = _
      rw [hc];exact hg
    · refine Classical.byContradiction fun hn=>?_
      have:=k.key _ _ hn
      omega
  · obtain ⟨_,⟨q1,q2,q3,_⟩,_⟩:=k.tok t T hT
    exact ⟨q1,q2,q3⟩
  · obtain ⟨_,_,a3⟩:=k.tok t T hT
    rcases a3 with ⟨t',_,c⟩ | hn
    · exact hok.tokBox t' T b g ty n c hg (hbox b _ hb).2
    · rw [hn] at hg;cases hg
  · cases hb : (Gk G base tk).box u with
    | none=>rfl
    | some x=>have:=(hbox u x hb).1;omega
  · cases ht : (Gk G base tk).tok u with
    | none=>rfl
    | some T=>have:=(k.tok u T ht).1;omega
end
def memOf (base : Nat) : Nat → Ann → List D → Mem
  | j,(x,y,none) :: r,d :: ds=>(x,y,d) :: memOf base (j + 1) r ds
  | j,(x,y,some (e,sz)) :: r,d :: ds=>(match d with
    | .sl _ es=>(x,y,.sl (.own (base + j) e sz) es) :: (1,base + j,.num es.length) :: memOf base (j + 1) r ds
    | _=>[])
  | _,_,_=>[]
def restrV (m : Mem) (base : Nat) : Ann → List Nat → (List D → Prop) → Prop
  | [],_,K=>K []
  | (x,y,none) :: r,us,K=>bif keyOk base x then restrV m base r us fun ds=>K (trD base (look m x y) :: ds) else False
  | (x,y,some (e,sz)) :: r,us,K=>bif keyOk base x && !sz.beq 0 then (match look m x y with
    | .sl .nil []=>restrV m base r us fun ds=>K (.sl .no [] :: ds)
    | .sl (.own t e' sz') es=>bif e.beq e' && sz.beq sz' && !inL us t then (match look m 1 t with
      | .num n=>n = es.length ∧ restrV m base r (t :: us) fun ds=>K (.sl .no es :: ds)
      | _=>False) else False
    | _=>False) else False
theorem cond_mono {b : Bool} {X Y : Prop} (hh : bif b then X else False) (h : X → Y) : bif b then Y else False:=by
  cases b
  · exact hh
  · exact h hh
theorem restrV_mono {m : Mem} {base : Nat} : ∀ (L : Ann) (us : List Nat) (K K' : List D → Prop),(∀ ds,K ds → K' ds) → restrV m base L us K → restrV m base L us K'
  | [],us,K,K',h,hh=>h _ hh
  | (x,y,none) :: r,us,K,K',h,hh=>cond_mono (show bif keyOk base x then _ else False from hh) fun hh=>restrV_mono r _ _ _ (fun ds hd=>h _ hd) hh
  | (x,y,some (e,sz)) :: r,us,K,K',h,hh=>by
    refine cond_mono (show bif keyOk base x && !sz.beq 0 then _ else False from hh) fun hh=>?_
    generalize look m x y = d at hh ⊢
    cases d <;> first | exact hh.elim | skip
    rename_i k es
    cases k <;> first | exact hh.elim | skip
    · cases es with
      | nil=>exact restrV_mono r _ _ _ (fun ds hd=>h _ hd) hh
      | cons _ _=>exact hh.elim
    · rename_i t e' sz'
      refine cond_mono (show bif _ then _ else False from hh) fun hh=>?_
      generalize look m 1 t = d at hh ⊢
      cases d <;> first | exact hh.elim | skip
      exact ⟨hh.1,restrV_mono r _ _ _ (fun ds hd=>h _ hd) hh.2⟩
theorem restrV_D {m : Mem} {base : Nat} : ∀ (L : Ann) (j : Nat) (us : List Nat) (K : List D → Prop) (K' : Mem → Prop),(∀ ds,K ds → K' (memOf base j L ds)) → restrV m base L us K → restrD m base j L us K'
  | [],j,us,K,K',h,hh=>h [] hh
  | (x,y,none) :: r,j,us,K,K',h,hh=>cond_mono (show bif keyOk base x then _ else False from hh) fun hh=>restrV_D r (j + 1) us _ _ (fun ds hd=>h (trD base (look m x y) :: ds) hd) hh
  | (x,y,some (e,sz)) :: r,j,us,K,K',h,hh=>by
    refine cond_mono (show bif keyOk base x && !sz.beq 0 then _ else False from hh) fun hh=>?_
    generalize look m x y = d at hh ⊢
    cases d <;> first | exact hh.elim | skip
    rename_i k es
    cases k <;> first | exact hh.elim | skip
    · cases es with
      | nil=>exact restrV_D r (j + 1) us _ _ (fun ds hd=>h (.sl .no [] :: ds) hd) hh
      | cons _ _=>exact hh.elim
    · rename_i t e' sz'
      refine cond_mono (show bif _ then _ else False from hh) fun hh=>?_
      generalize look m 1 t = d at hh ⊢
      cases d <;> first | exact hh.elim | skip
      exact ⟨hh.1,restrV_D r (j + 1) _ _ _ (fun ds hd=>h (.sl .no es :: ds) hd) hh.2⟩
end Go.Proofs.Ythadnhpkeljdoaa.pv
namespace Go.Proofs.Ythadnhpkeljdoaa.it
open Go.Lib (hid)
open Go.RowKit Go.Shelf
open sg (lst_len)
open lx
theorem rplain_calls (k : Int) (tx : ByteArray) (w : World) : Calls Try.prog 31 #[.agg #[.int .i64 k,.string tx]] w fun e w'=>e = .returned (.bool (!idleB k)) ∧ Below w.heap.size w w':=by
 have hb : Below w.heap.size w (w.alloc (.cells #[.int .i64 k,.string tx] 54)):=(Below.refl _ w).alloc (Nat.le_refl _) _
 have HB:=hid hb
 clear hb
 by_cases h1 : k = 1
 ·subst h1
  go_enter Try.func31,Try.ntmps31
  go_wp2_with fail
  go_ret
  exact ⟨rfl,HB.out⟩
 ·have e1 : (k == 1) = false:=beq_eq_false_iff_ne.2 h1
  have n1 : (k != 1) = true:=bne_iff_ne.2 h1
  by_cases h2 : k = 2
  ·subst h2
   go_enter Try.func31,Try.ntmps31
   go_wp2_with fail
   go_ret
   exact ⟨rfl,HB.out⟩
  ·have e2 : (k == 2) = false:=beq_eq_false_iff_ne.2 h2
   have n2 : (k != 2) = true:=bne_iff_ne.2 h2
   have HX:=hid (show idleB k = false by unfold idleB;rw [e1,e2];rfl)
   go_enter Try.func31,Try.ntmps31
   go_wp2_with fail
   go_ret
   exact ⟨by rw [HX.out];rfl,HB.out⟩
end Go.Proofs.Ythadnhpkeljdoaa.it
namespace Go.Proofs.Ythadnhpkeljdoaa.it
open Go.RowKit Go.Shelf
open sg (lst_len)
open lx sx
theorem wpList_append_rows {P : Program} (w : World) {ops : Array Oper} {rest : List Oper} {o : Oper} {a : Act} {Q : Exit → Act → World → Prop} (hgd : o.guard = none) (s x : Operand) (t : TypeId)
  (ho : o.op = .call { callee:=.builtin .append,args:=#[s,x],argTypes:=#[t,t] })
  (base : Nat) (e : TypeId) (i : TypeInfo) (z : Value) (size bytes : Nat) (ht : P.underlying t = some (.slice e)) (hi : P.info? e = some i) (hz : i.zero = some z)
  (hsize : i.size = size) (hby : i.bytes = bytes) (hzs : z.cells.size = size) (hsz : 0 < size)
  (v : Value) (n : Nat) (xs : List Value) (hs : a.eval s = v) (hown : w.ownsRow base e size v n xs)
  (b2 : Nat) (u : Value) (m : Nat) (news : List Value) (hx : a.eval x = u) (hu : w.ownsRow b2 e size u m news) (h1 : ∀ u ∈ news,u.oneCell' = true)
  (h63 : n + m ≤ maxLen) (hbytes : (n + m) * bytes ≤ 140737488355328) (hbase : base ≤ w.heap.size)
  (h : ∀ v' w',w'.ownsRow base e size v' (n + m) (xs ++ news) → Below base w w' → wpList P ops Q rest (a.put o.dst v') w') : wpList P ops Q (o :: rest) a w:=by
 rcases hu.2 with ⟨rfl,h0⟩ | ⟨g,cap,cur,rfl,h2,h3,h4⟩
 ·have hn:=hu.1
  rw [h0,Nat.zero_mul] at hn
  have hnil : news = []:=List.length_eq_zero_iff.1 hn
  subst hnil
  subst h0
  refine wpList_append_own_none hgd s x t ho base e i size ht hi v n xs hs hown hx (h v w ?_ (Below.refl _ _))
  rw [List.append_nil];exact hown
 ·refine wpList_append_own w hgd s x t ho base e i z size bytes ht hi hz hsize hby hzs hsz v n xs hs hown ⟨g,0,none⟩ m cap news hx hu.1 (fun j u hj=>?_) h1 h63 hbytes hbase fun v' w' k1 k2 _=>h v' w' k1 ((Below.refl base w).grown k2 hbase (fun j ej=>(hown.lt j ej).1))
  obtain ⟨g',hg,_,_,hc⟩:=own_at hu hj
  obtain rfl : g = g':=by simpa using hg
  unfold Addr.add
  by_cases hj0 : j = 0
  ·subst hj0;exact hc
  ·simp [hj0];exact hc
theorem strs_one (l : List ByteArray) : ∀ u ∈ strs l,u.oneCell' = true:=by
 intro u hu
 unfold strs at hu
 obtain ⟨t,_,rfl⟩:=List.mem_map.1 hu
 rfl
end Go.Proofs.Ythadnhpkeljdoaa.it
namespace Go.Proofs.Ythadnhpkeljdoaa.pa
open Go.RowKit nd pr
open lx (asTk sizeT)
open it (idleB aheadU runsFrom runsU aheadU_cons)
def itemOf (x : it.Run) : Tk × Nat:=(x.l.headD (0,⟨#[]⟩),x.at')
theorem items_from (l : List Lx.Tok) : ∀ p k,itemsP p l = (runsFrom (p + sizeT ((l.map asTk).take (aheadU (l.map asTk)))) (k + aheadU (l.map asTk)) ((l.map asTk).drop (aheadU (l.map asTk)))).map itemOf:=by
  induction l with
  | nil=>intro p k;rw [List.map_nil,List.drop_nil,runsFrom];rfl
  | cons t r ih =>
    intro p k
    rw [List.map_cons,aheadU_cons]
    have hsz : (asTk t).2.size = t.2.length:=by show t.2.toArray.size = _;rw [List.size_toArray]
    have hsc : ∀ m : List Tk,sizeT (asTk t :: m) = t.2.length + sizeT m:=fun m=>by
      show ((asTk t :: m).map (·.2.size)).sum = _
      rw [List.map_cons,List.sum_cons,hsz];rfl
    by_cases h : idleB t.1 = true
    · have h2 : idleB (asTk t).1 = true:=h
      have h3 : (t.1 == 1 || t.1 == 2) = true:=h
      rw [h2,if_pos rfl,List.take_succ_cons,List.drop_succ_cons,itemsP,if_pos h3,ih (p + t.2.length) (k + 1)]
      rw [hsc,show p + (t.2.length + sizeT ((r.map asTk).take (aheadU (r.map asTk)))) = p + t.2.length + sizeT ((r.map asTk).take (aheadU (r.map asTk))) by omega,show k + (aheadU (r.map asTk) + 1) = k + 1 + aheadU (r.map asTk) by omega]
    · have h2 : idleB (asTk t).1 = false:=by simpa using h
      have h3 : (t.1 == 1 || t.1 == 2) = false:=h2
      rw [h2,if_neg Bool.false_ne_true,List.take_zero,List.drop_zero,itemsP,h3,if_neg Bool.false_ne_true,runsFrom,List.map_cons,ih (p + t.2.length) (k + 1)]
      simp only [show sizeT ([] : List Tk) = 0 from rfl,Nat.add_zero]
      rw [hsc,show p + (t.2.length + sizeT ((r.map asTk).take (aheadU (r.map asTk)))) = p + t.2.length + sizeT ((r.map asTk).take (aheadU (r.map asTk))) by omega,show k + (1 + aheadU (r.map asTk)) = k + 1 + aheadU (r.map asTk) by omega]
      rfl
theorem items_of (l : List Lx.Tok) : itemsP 0 l = (runsU (l.map asTk)).map itemOf:=by
  rw [items_from l 0 0]
  unfold runsU
  rw [Nat.zero_add,Nat.zero_add]
theorem items_toks (l : List Lx.Tok) : ∀ p,∀ t ∈ (itemsP p l).map (·.1),∃ u ∈ l,t = asT u:=by
  induction l with
  | nil=>intro p t ht;cases ht
  | cons a r ih =>
    intro p t ht
    unfold itemsP at ht
    split at ht
    · obtain ⟨u,hu,e⟩:=ih _ t ht
      exact ⟨u,List.mem_cons_of_mem _ hu,e⟩
    · rw [List.map_cons] at ht
      rcases List.mem_cons.1 ht with rfl | ht
      · exact ⟨a,List.mem_cons_self,rfl⟩
      · obtain ⟨u,hu,e⟩:=ih _ t ht
        exact ⟨u,List.mem_cons_of_mem _ hu,e⟩
theorem items_len (l : List Lx.Tok) : ∀ p,(itemsP p l).length ≤ l.length:=by
  induction l with
  | nil=>intro p;exact Nat.le_refl _
  | cons a r ih =>
    intro p
    unfold itemsP
    split
    · have:=ih (p + a.2.length);rw [List.length_cons];omega
    · have:=ih (p + a.2.length);rw [List.length_cons,List.length_cons];omega
theorem items_fit (l : List UInt8) (hl : l.length ≤ 65536) : ∀ t ∈ (itemsP 0 (Lx.lexA Lx.start l).1).map (·.1),FitT t:=by
  intro t ht
  obtain ⟨u,hu,rfl⟩:=items_toks _ 0 t ht
  exact lex_fit Lx.start l (by omega) u hu
end Go.Proofs.Ythadnhpkeljdoaa.pa
namespace Go.Proofs.Ythadnhpkeljdoaa.pv
open Go.RowKit
def thenD (next : St → Prop) (Q : Exit → St → Prop) : Exit → St → Prop
  | .normal,s=>next s
  | e,s=>Q e s
def blockD (id : Nat) (Q : Exit → St → Prop) : Exit → St → Prop
  | .exit id',s=>bif id'.beq id then Q .normal s else Q (.exit id') s
  | e,s=>Q e s
def litD (c : Operand) (b : Bool) (s : St) : St :=
  match c with
  | .tmp t=>⟨s.nx,(0,t,.v (.bool b)) :: s.m⟩
  | _=>s
def condD (c : Operand) (s : St) (A B : St → Prop) : Prop :=
  match ev s.m c with
  | .v (.bool b)=>(match b with
    | true=>A (litD c true s)
    | false=>B (litD c false s))
  | _=>False
def dloop (body : (Exit → St → Prop) → St → Prop) (Q : Exit → St → Prop) : Nat → St → Prop
  | 0,_=>False
  | k + 1,s=>body (thenD (dloop body Q k) Q) s
def dloopI (body : (Exit → St → Prop) → St → Prop) (Q : Exit → St → Prop) (L : Ann) (base : Nat) : Nat → List D → Prop
  | 0,_=>False
  | k + 1,ds=>body (thenD (fun s=>restrV s.m base L [] (dloopI body Q L base k)) Q) ⟨base + L.length,memOf base 0 L ds⟩
def regId : Code → Nat
  | .region id _ _=>id
  | .seq a _=>regId a
  | .block _ c=>regId c
  | .loop c=>regId c
  | _=>0
def loopP (body : (Exit → St → Prop) → St → Prop) (Q : Exit → St → Prop) (s : St) : Option Ann → Prop
  | none=>∃ k,dloop body Q k s
  | some L=>∃ k,restrV s.m s.nx L [] (dloopI body Q L s.nx k)
def dwp (E : Env) : Code → (Exit → St → Prop) → St → Prop
  | .skip,Q,s=>Q .normal s
  | .region _ ops draw,Q,s=>bif draw then dopsD E ops s.nx ops.toList 0 [] s.m fun m=>Q .normal ⟨s.nx + ops.toList.length,m⟩
      else dops E ops s.nx ops.toList 0 s.m fun m=>Q .normal ⟨s.nx + ops.toList.length,m⟩
  | .seq a b,Q,s=>dwp E a (thenD (dwp E b Q) Q) s
  | .cond c t f,Q,s=>condD c s (dwp E t Q) (dwp E f Q)
  | .block id c,Q,s=>dwp E c (blockD id Q) s
  | .loop c,Q,s=>loopP (dwp E c) Q s (E.lv (regId c))
  | .exit id,Q,s=>Q (.exit id) s
  | .ret,Q,s=>Q .ret s
  | _,_,_=>False
section
variable {P : Program} {E : Env} {w0 : World} {I : Nat → Nat → Prop}
abbrev Told (E : Env) (w0 : World) (I : Nat → Nat → Prop) (Q : Exit → St → Prop) (Q' : Exit → Act → World → Prop) : Prop :=
  ∀ e s G a w,Q e s → Run E w0 I (fun u=>s.nx ≤ u) G s.m a w → Q' e a w
theorem condD_out {c : Operand} {s : St} {A B : St → Prop} {G : Gh} {a : Act} {w : World} (h : condD c s A B) (hr : Run E w0 I (fun u=>s.nx ≤ u) G s.m a w) :
    ∃ b s',a.eval c = .bool b ∧ s'.nx = s.nx ∧ Run E w0 I (fun u=>s.nx ≤ u) G s'.m a w ∧ (if b then A s' else B s'):=by
  unfold condD at h
  split at h
  · rename_i b e
    have hv:=hr.sim.ev c
    rw [e] at hv
    obtain ⟨e1,_⟩:=rep_v hv
    have lit : ∀ b',b' = b → (litD c b' s).nx = s.nx ∧ Run E w0 I (fun u=>s.nx ≤ u) G (litD c b' s).m a w:=fun b' hb=>by
      subst hb
      unfold litD
      split
      · rename_i t
        exact ⟨rfl,hr.leq (leq_lit e)⟩
      · exact ⟨rfl,hr⟩
    cases b
    · exact ⟨false,_,e1,(lit false rfl).1,(lit false rfl).2,h⟩
    · exact ⟨true,_,e1,(lit true rfl).1,(lit true rfl).2,h⟩
  · exact h.elim
theorem dwp_sound (hE : EnvOk P E) (hm : P.follows .mixedOrders = true) : ∀ (c : Code) (Q : Exit → St → Prop) (Q' : Exit → Act → World → Prop) (s : St) (G : Gh) (a : Act) (w : World),
    dwp E c Q s → Run E w0 I (fun u=>s.nx ≤ u) G s.m a w → Told E w0 I Q Q' → c.wp P Q' a w
  | .skip,Q,Q',s,G,a,w,h,hr,hq=>wp_skip (hq _ _ _ _ _ h hr)
  | .region id ops draw,Q,Q',s,G,a,w,h,hr,hq=>by
    have e : ops = ops.toList.toArray:=by simp
    cases draw with
    | true =>
      have h : dopsD E ops s.nx ops.toList 0 [] s.m fun m=>Q .normal ⟨s.nx + ops.toList.length,m⟩:=h
      rw [e] at h ⊢
      exact dopsD_sound hE hm h hr fun G' m' a' w' hk hR=>hq _ _ _ _ _ hk hR
    | false =>
      have h : dops E ops s.nx ops.toList 0 s.m fun m=>Q .normal ⟨s.nx + ops.toList.length,m⟩:=h
      rw [e] at h ⊢
      exact wp_region_lit (dops_sound hE _ 0 _ G a w h hr fun G' m' a' w' hk hR=>hq _ _ _ _ _ hk (by simpa using hR))
  | .seq x y,Q,Q',s,G,a,w,h,hr,hq=>by
    refine wp_seq (dwp_sound hE hm x _ _ s G a w h hr fun e s' G' a' w' hq' hR=>?_)
    cases e with
    | normal=>exact dwp_sound hE hm y Q Q' s' G' a' w' hq' hR hq
    | _=>exact hq _ _ _ _ _ hq' hR
  | .cond c x y,Q,Q',s,G,a,w,h,hr,hq=>by
    obtain ⟨b,s',h1,h2,h3,h4⟩:=condD_out h hr
    refine wp_cond h1 ?_
    rw [← h2] at h3
    cases b with
    | true=>exact dwp_sound hE hm x Q Q' s' G a w h4 h3 hq
    | false=>exact dwp_sound hE hm y Q Q' s' G a w h4 h3 hq
  | .block id c,Q,Q',s,G,a,w,h,hr,hq=>by
    refine wp_block (dwp_sound hE hm c _ _ s G a w h hr fun e s' G' a' w' hq' hR=>?_)
    cases e with
    | exit id' =>
      have hq' : (bif id'.beq id then Q .normal s' else Q (.exit id') s'):=hq'
      show if id' = id then Q' .normal a' w' else Q' (.exit id') a' w'
      cases hb : id'.beq id with
      | true=>rw [hb] at hq';rw [if_pos (Nat.eq_of_beq_eq_true hb)];exact hq _ _ _ _ _ hq' hR
      | false=>rw [hb] at hq';rw [if_neg (fun e=>by rw [e] at hb;simp at hb)];exact hq _ _ _ _ _ hq' hR
    | _=>exact hq _ _ _ _ _ hq' hR
  | .loop c,Q,Q',s,G,a,w,h,hr,hq=>by
    have h : loopP (dwp E c) Q s (E.lv (regId c)):=h
    unfold loopP at h
    split at h
    · obtain ⟨k,h⟩:=h
      refine wp_loop_rounds k ?_
      have key : ∀ k s G a w,dloop (dwp E c) Q k s → Run E w0 I (fun u=>s.nx ≤ u) G s.m a w → Code.rounds P c Q' k a w:=by
        intro k
        induction k with
        | zero=>exact fun s G a w h _=>h.elim
        | succ k ih =>
          intro s G a w h hr
          show c.wp P _ a w
          refine dwp_sound hE hm c _ _ s G a w h hr fun e s' G' a' w' hq' hR=>?_
          cases e with
          | normal=>exact ih s' G' a' w' hq' hR
          | _=>exact hq _ _ _ _ _ hq' hR
      exact key k s G a w h hr
    · rename_i L _
      obtain ⟨k,h⟩:=h
      refine wp_loop_rounds k ?_
      have key : ∀ (base : Nat) k m G a w,restrV m base L [] (dloopI (dwp E c) Q L base k) → (∃ fr,Run E w0 I fr G m a w) → Code.rounds P c Q' k a w:=by
        intro base k
        induction k with
        | zero =>
          rintro m G a w h ⟨fr,hr⟩
          obtain ⟨G1,m1,hK,_⟩:=restr_run hr (restrV_D L 0 [] _ (fun _=>False) (fun ds hd=>hd) h)
          exact hK.elim
        | succ k ih =>
          rintro m G a w h ⟨fr,hr⟩
          show c.wp P _ a w
          obtain ⟨G1,m1,⟨ds,rfl,hd⟩,hR1⟩:=restr_run hr (restrV_D L 0 [] _ (fun m=>∃ ds,m = memOf base 0 L ds ∧ dloopI (dwp E c) Q L base (k + 1) ds) (fun ds hd=>⟨ds,rfl,hd⟩) h)
          refine dwp_sound hE hm c _ _ ⟨base + L.length,memOf base 0 L ds⟩ G1 a w hd hR1 fun e s' G' a' w' hq' hR=>?_
          cases e with
          | normal=>exact ih s'.m G' a' w' hq' ⟨_,hR⟩
          | _=>exact hq _ _ _ _ _ hq' hR
      exact key s.nx k s.m G a w h ⟨_,hr⟩
  | .exit id,Q,Q',s,G,a,w,h,hr,hq=>wp_exit (hq _ _ _ _ _ h hr)
  | .ret,Q,Q',s,G,a,w,h,hr,hq=>wp_ret (hq _ _ _ _ _ h hr)
  | .rangeFunc _ _ _ _,Q,Q',s,G,a,w,h,hr,hq=>h.elim
  | .scope _,Q,Q',s,G,a,w,h,hr,hq=>h.elim
  | .label _,Q,Q',s,G,a,w,h,hr,hq=>h.elim
  | .goto _,Q,Q',s,G,a,w,h,hr,hq=>h.elim
  | .refuse _,Q,Q',s,G,a,w,h,hr,hq=>h.elim
end
def resR (E : Env) (m : Mem) : ResultVar → R
  | .tmp t=>.val (look m 0 t)
  | .cell t y=>match tyOf E.ty y with
    | some z=>dLoad m z (look m 0 t)
    | none=>.bad
def retC (m : Mem) (s : Bool × List CT) (d : D) (K : D → Prop) : Prop :=
  match s with
  | (true,_)=>(match d with
    | .agg l=>K (.agg (l.map strip))
    | _=>False)
  | (false,[.f e sz])=>(match d with
    | .sl .nil []=>bif sz.beq 0 then False else K (.sl (.own 0 e sz) [])
    | .sl (.own t e' sz') es=>bif e.beq e' && sz.beq sz' then (match look m 1 t with
      | .num n=>n = es.length ∧ K (.sl (.own 0 e sz) es)
      | _=>False) else False
    | _=>False)
  | (false,[_])=>bif cellD d then K (strip d) else False
  | _=>False
def dret (E : Env) (m : Mem) : Sh → List ResultVar → (List D → Prop) → Prop
  | [],[],K=>K []
  | s :: r,v :: q,K=>(match resR E m v with
    | .val d=>retC m s d fun d'=>dret E m r q fun l=>K (d' :: l)
    | _=>False)
  | _,_,_=>False
def isF : Bool × List CT → Bool
  | (false,[.f _ _])=>true
  | _=>false
def oneF : Sh → Bool
  | []=>true
  | s :: r=>bif isF s then !r.any isF else oneF r
def argM : Nat → List D → Mem
  | _,[]=>[]
  | i,d :: r=>(0,i,d) :: argM (i + 1) r
section
variable {P : Program} {E : Env} {w0 : World} {I : Nat → Nat → Prop} {G : Gh} {m : Mem} {a : Act} {w : World}
def Gf (G : Gh) (tk : Option Tok) : Gh:=⟨G.base,G.imm,fun _=>none,fun u=>if u = 0 then tk else none⟩
def resV (tmps : Array Value) : ResultVar → Sem Value
  | .tmp t=>pure (tmps.getD t undef)
  | .cell a t=>do loadVar t (← asAddr (tmps.getD a undef))
theorem resR_ok (hE : EnvOk P E) (h : Sim E.n G m a w) {v : ResultVar} {d : D} (hd : resR E m v = .val d) : ∃ x,(resV a.tmps v).run P w = .ok x w ∧ Rep G w x d:=by
  cases v with
  | tmp t=>cases hd;exact ⟨_,rfl,h.slot t⟩
  | cell t y =>
    have hd : (match tyOf E.ty y with
      | some z=>dLoad m z (look m 0 t)
      | none=>R.bad) = .val d:=hd
    split at hd
    · rename_i z hz
      obtain ⟨ad,x,h1,h2,h3⟩:=load_run (P:=P) h (hE.ty y z hz) (h.slot t) hd
      exact ⟨x,by simp [resV,h1,asAddr,h2],h3⟩
    · cases hd
theorem gf_c {tk : Option Tok} {x : Value} {d : D} (h : RepC G w x d) (hn : noOwn d = true) : RepC (Gf G tk) w x d:=repC_move (G:=G) (G1:=Gf G tk) (fun _ _ h=>h) h hn
theorem gf_strip {tk : Option Tok} {x : Value} {d : D} (h : RepC G w x d) : RepC (Gf G tk) w x (strip d):=repC_strip (G:=G) (G1:=Gf G tk) (fun _ _ h=>h) h
def TokIs (G : Gh) (w : World) (T : Tok) : Prop:=0 < T.sz ∧ w.ownsRow G.base T.e T.sz T.v T.n T.xs ∧ (∀ g,T.v.ownBlock = some g → ∀ i,i < T.n * T.sz → G.imm g i) ∧ ∀ g i,T.v.ownBlock = some g → G.imm g i → i < T.n * T.sz
theorem retC_no (hG : GOk G w) {s : Bool × List CT} {x : Value} {d : D} {K : D → Prop} (hs : isF s = false) (hx : Rep G w x d) (h : retC m s d K) : ∃ d',K d' ∧ isOwn d' = false ∧ ∀ tk,RepV (Gf G tk) w x d':=by
  unfold retC at h
  split at h
  · split at h
    · rename_i l
      obtain ⟨vs,rfl,h1,h2⟩:=rep_agg hx
      refine ⟨_,h,rfl,fun tk=>.agg vs _ (by simpa using h1) fun i x d hi hd=>?_⟩
      rw [List.getElem?_map] at hd
      obtain ⟨d',h3,rfl⟩:=Option.map_eq_some_iff.1 hd
      exact gf_strip (h2 i x d' hi h3)
    · exact h.elim
  · cases hs
  · cases hc : cellD d with
    | false=>rw [hc] at h;exact h.elim
    | true =>
      rw [hc] at h
      refine ⟨_,h,?_,fun tk=>.c (gf_strip (rep_c hc hx))⟩
      cases d <;> rfl
  · exact h.elim
theorem retC_f (h0 : Sim E.n G m a w) {s : Bool × List CT} {x : Value} {d : D} {K : D → Prop} (hs : isF s = true) (hx : Rep G w x d) (h : retC m s d K) :
    ∃ e sz es T,K (.sl (.own 0 e sz) es) ∧ TokIs G w T ∧ T.n = es.length ∧ RepV (Gf G (some T)) w x (.sl (.own 0 e sz) es):=by
  unfold retC at h
  split at h
  · cases hs
  · rename_i e sz
    split at h
    · obtain ⟨b,cap,e1,hr⟩:=rep_sl hx
      obtain ⟨_,g,q,sz',xs,ha,hc,hr',hl,hm,hk⟩:=repC_sl hr
      obtain ⟨_,rfl,rfl⟩:=hk
      cases hb : sz.beq 0 with
      | true=>rw [hb] at h;exact h.elim
      | false =>
        rw [hb] at h
        have hsz : 0 < sz:=Nat.pos_of_ne_zero fun e=>by rw [e] at hb;cases hb
        refine ⟨e,sz,[],⟨.slice none 0 0,e,sz,0,[]⟩,h,⟨hsz,World.ownsRow_nil w _ _ _,(fun g hg=>by cases hg),(fun g i hg=>by cases hg)⟩,rfl,?_⟩
        rw [e1]
        exact .c (.sl none 0 _ [] 0 0 sz (fun _ _=>undef) (fun e=>absurd rfl e) (fun i c j d h=>by cases h) (fun i c j d h=>by cases h) (fun c hc=>by cases hc) ⟨Nat.zero_le _,Nat.le_refl _⟩ ⟨rfl,_,rfl,rfl,rfl,Nat.le_refl _,fun _=>rfl⟩)
    · rename_i t e' sz' es
      cases hb : (e.beq e' && sz.beq sz') with
      | false=>rw [hb] at h;exact h.elim
      | true =>
        rw [hb] at h
        rw [Bool.and_eq_true] at hb
        obtain rfl:=Nat.eq_of_beq_eq_true hb.1
        obtain rfl:=Nat.eq_of_beq_eq_true hb.2
        simp only [cond_true] at h
        split at h
        · rename_i k hk
          obtain ⟨rfl,h⟩:=h
          obtain ⟨b,cap,e1,hr⟩:=rep_sl hx
          obtain ⟨_,g,q,sz',xs,ha,hc,hr',hl,hm,hkk⟩:=repC_sl hr
          obtain ⟨rfl,T,t1,t2,t3,t4,t5⟩:=hkk
          obtain ⟨T',t6,t7⟩:=h0.toks t _ hk
          rw [t1] at t6;cases t6
          obtain ⟨q1,q2,q3⟩:=h0.ok.tok t T t1
          refine ⟨e,sz,es,T,h,⟨q1,q2,q3,fun g i hg hi=>h0.ok.tokImm t T g i t1 hg hi⟩,t7,?_⟩
          rw [e1]
          refine .c (.sl b cap _ es g q sz xs ha hc (fun i c j d h1 h2=>gf_c (hr' i c j d h1 h2) ?_) hl hm ⟨rfl,T,rfl,t2,t3,t4,t5⟩)
          have:=(hl c (List.mem_of_getElem? h1)).2
          rw [List.all_eq_true] at this
          exact this d (List.mem_of_getElem? h2)
        · exact h.elim
    · exact h.elim
  · rename_i c hne
    exfalso
    cases c <;> first | exact hne _ _ rfl | cases hs
  · exfalso
    unfold isF at hs
    split at hs
    · simp_all
    · cases hs
structure AllRes (G : Gh) (w : World) (tk : Option Tok) (vs : List Value) (l : List D) : Prop where
  len : vs.length = l.length
  rep : ∀ (i : Nat) (x : Value) (d : D),vs[i]? = some x → l[i]? = some d → RepV (Gf G tk) w x d
theorem AllRes.cons {tk : Option Tok} {vs : List Value} {l : List D} {x : Value} {d : D} (h : AllRes G w tk vs l) (hx : RepV (Gf G tk) w x d) : AllRes G w tk (x :: vs) (d :: l) :=
  ⟨by simp [h.len],fun i y e hi he=>by
    cases i with
    | zero=>cases hi;cases he;exact hx
    | succ i=>exact h.rep i y e (by simpa using hi) (by simpa using he)⟩
theorem dret_no (hE : EnvOk P E) (h0 : Sim E.n G m a w) : ∀ (sh : Sh) (rs : List ResultVar) (K : List D → Prop),sh.any isF = false → dret E m sh rs K → ∃ vs l,(rs.mapM (resV a.tmps)).run P w = .ok vs w ∧ K l ∧ (∀ d ∈ l,isOwn d = false) ∧ ∀ tk,AllRes G w tk vs l
  | [],[],K,_,h=>⟨[],[],by simp,h,(fun d h=>by cases h),fun tk=>⟨rfl,fun i x d h=>by cases h⟩⟩
  | s :: r,v :: q,K,hs,h=>by
    unfold dret at h
    rw [List.any_cons,Bool.or_eq_false_iff] at hs
    split at h
    · rename_i d hd
      obtain ⟨x,h1,h2⟩:=resR_ok hE h0 hd
      obtain ⟨d',h3,h4,h5⟩:=retC_no h0.ok hs.1 h2 h
      obtain ⟨vs,l,q1,q2,q3,q4⟩:=dret_no hE h0 r q _ hs.2 h3
      refine ⟨x :: vs,d' :: l,by simp [List.mapM_cons,h1,q1],q2,fun e he=>?_,fun tk=>(q4 tk).cons (h5 tk)⟩
      rcases List.mem_cons.1 he with rfl | he
      · exact h4
      · exact q3 e he
    · exact h.elim
  | [],_ :: _,K,_,h=>h.elim
  | _ :: _,[],K,_,h=>h.elim
theorem dret_ok (hE : EnvOk P E) (h0 : Sim E.n G m a w) : ∀ (sh : Sh) (rs : List ResultVar) (K : List D → Prop),oneF sh = true → dret E m sh rs K → ∃ vs l tk,(rs.mapM (resV a.tmps)).run P w = .ok vs w ∧ K l ∧ (∀ T,tk = some T → TokIs G w T) ∧ (∀ k e sz es,D.sl (.own k e sz) es ∈ l → k = 0 ∧ ∃ T,tk = some T ∧ T.n = es.length) ∧ AllRes G w tk vs l
  | [],[],K,_,h=>⟨[],[],none,by simp,h,(fun T h=>by cases h),(fun k e sz es h=>by cases h),⟨rfl,fun i x d h=>by cases h⟩⟩
  | s :: r,v :: q,K,hs,h=>by
    unfold dret at h
    split at h
    · rename_i d hd
      obtain ⟨x,h1,h2⟩:=resR_ok hE h0 hd
      cases hf : isF s with
      | true =>
        have hs' : r.any isF = false:=by simpa [oneF,hf] using hs
        obtain ⟨e,sz,es,T,h3,h4,h5,h6⟩:=retC_f h0 hf h2 h
        obtain ⟨vs,l,q1,q2,q3,q4⟩:=dret_no hE h0 r q _ hs' h3
        refine ⟨x :: vs,_ :: l,some T,by simp [List.mapM_cons,h1,q1],q2,fun T' hT=>by cases hT;exact h4,fun k e' sz' es' he=>?_,(q4 _).cons h6⟩
        rcases List.mem_cons.1 he with he | he
        · cases he;exact ⟨rfl,T,rfl,h5⟩
        · have:=q3 _ he;cases this
      | false =>
        have hs' : oneF r = true:=by simpa [oneF,hf] using hs
        obtain ⟨d',h3,h4,h5⟩:=retC_no h0.ok hf h2 h
        obtain ⟨vs,l,tk,q1,q2,q3,q4,q5⟩:=dret_ok hE h0 r q _ hs' h3
        refine ⟨x :: vs,d' :: l,tk,by simp [List.mapM_cons,h1,q1],q2,q3,fun k e' sz' es' he=>?_,q5.cons (h5 tk)⟩
        rcases List.mem_cons.1 he with he | he
        · rw [← he] at h4;cases h4
        · exact q4 k e' sz' es' he
    · exact h.elim
  | [],_ :: _,K,_,h=>h.elim
  | _ :: _,[],K,_,h=>h.elim
theorem look_argM : ∀ (ds : List D) (i t : Nat),look (argM i ds) 0 t = if i ≤ t ∧ t < i + ds.length then ds.getD (t - i) .junk else .junk
  | [],i,t=>by simp [argM,look]
  | d :: r,i,t=>by
    show look ((0,i,d) :: argM (i + 1) r) 0 t = _
    rw [look_cons,look_argM r (i + 1) t]
    by_cases h : i = t
    · subst h;simp
    · rw [if_neg (fun e=>h e.2)]
      by_cases h2 : i + 1 ≤ t ∧ t < i + 1 + r.length
      · rw [if_pos h2,if_pos (by simp;omega),show t - i = (t - (i + 1)) + 1 by omega,List.getD_cons_succ]
      · rw [if_neg h2,if_neg (by simp;omega)]
theorem look_argM' : ∀ (ds : List D) (i x t : Nat),x ≠ 0 → look (argM i ds) x t = .junk
  | [],i,x,t,h=>rfl
  | d :: r,i,x,t,h=>by
    show look ((0,i,d) :: argM (i + 1) r) x t = _
    rw [look_cons,if_neg (fun e=>h e.1.symm)]
    exact look_argM' r (i + 1) x t h
def isRet : Exit → Prop
  | .normal=>True
  | .ret=>True
  | _=>False
theorem fn_ok (hE : EnvOk P E) (hm : P.follows .mixedOrders = true) {f : FuncId} {fn : Func} {c : Code} {ds l : List D} (hf : P.funcs[f]? = some fn) (hb : fn.body = some c) (hn : fn.ntmps = E.n) (hlen : ds.length ≤ E.n) (hone : oneF (E.sh f) = true)
    (hcall : ∀ (args : Array Value) (w : World),(callFunc f args).run P w = .ok (.enter f args) w)
    (hd : dwp E c (fun e s=>isRet e ∧ dret E s.m (E.sh f) fn.results.toList (· = l)) ⟨0,argM 0 ds⟩) : Ok P f ds l:=by
  refine ⟨hcall,fun I w vs hI hs hr=>calls_of_wp hf hb ?_⟩
  have hrun : Run E w I (fun u=>0 ≤ u) (G0 w I) (argM 0 ds) { tmps:=vs ++ Array.replicate (fn.ntmps - vs.size) undef,defers:=[] } w:=by
    refine ⟨⟨by simp;omega,rfl,fun t=>?_,⟨(fun b g ty n h=>by cases h),fun b i _=>look_argM' _ _ _ _ (by omega)⟩,(fun t n h=>by rw [look_argM' _ _ _ _ (by omega)] at h;cases h),
      ⟨Nat.le_refl _,hI,(fun b g ty n h=>by cases h),(fun b g ty n i h=>by cases h),(fun b b' g ty ty' n n' h=>by cases h),(fun t T h=>by cases h),(fun t T g i h=>by cases h),(fun t t' T T' g h=>by cases h),(fun t T b g ty n h=>by cases h)⟩⟩,
      rfl,.refl _ _,fun _ _ h=>h,fun _ _ _ h=>h,fun _ _=>⟨rfl,rfl⟩⟩
    rw [look_argM]
    by_cases ht : t < ds.length
    · rw [if_pos (by omega)]
      have h1 : vs[t]? = some (vs[t]'(by omega)):=Array.getElem?_eq_getElem (by omega)
      have h2 : ds[t]? = some (ds[t]'ht):=List.getElem?_eq_getElem ht
      have e1 : (vs ++ Array.replicate (fn.ntmps - vs.size) undef).getD t undef = vs[t]'(by omega):=by
        rw [Array.getD_eq_getD_getElem?,Array.getElem?_append_left (by omega),h1];rfl
      have e2 : ds.getD (t - 0) .junk = ds[t]'ht:=by rw [Nat.sub_zero,List.getD_eq_getElem?_getD,h2];rfl
      show Rep _ _ ((vs ++ Array.replicate (fn.ntmps - vs.size) undef).getD t undef) _
      rw [e1,e2]
      exact .v (hr t _ _ h1 h2)
    · rw [if_neg (by omega)];exact .any _
  refine dwp_sound hE hm c _ _ ⟨0,argM 0 ds⟩ (G0 w I) _ w hd hrun fun e s G a w' hq hR=>?_
  obtain ⟨he,hq⟩:=hq
  have fin : ∃ v,(results fn a.tmps).run P w' = .ok v w' ∧ ∃ v' G',Ending.returned v = .returned v' ∧ RetOk I w G' w' v' l:=by
    obtain ⟨us,l',tk,r1,rfl,r3,r4,r5⟩:=dret_ok hE hR.sim (E.sh f) fn.results.toList _ hone hq
    have hres : (results fn a.tmps).run P w' = .ok (if h : us.toArray.size = 1 then us.toArray[0] else .tuple us.toArray) w':=by
      have h1 : (fn.results.mapM (resV a.tmps)).run P w' = .ok us.toArray w':=by
        rw [Array.mapM_eq_mapM_toList];simp [r1]
      have h2 : results fn a.tmps = (do
          let vs ← fn.results.mapM (resV a.tmps)
          pure (if h : vs.size = 1 then vs[0] else .tuple vs)):=by
        unfold results
        congr 1
      rw [h2,Sem.run_bind,h1]
      rfl
    refine ⟨_,hres,_,Gf G tk,rfl,hR.below,hR.imm,hR.immo,hR.sim.ok.imm,?_,fun T hT=>?_,r4⟩
    · match us,l',r5 with
      | [],[],_=>exact .tup _ _ rfl (fun i x d h=>by simp at h)
      | [x],[d],r5=>exact .v (r5.rep 0 x d rfl rfl)
      | x :: y :: us,d :: d' :: l',r5 =>
        rw [dif_neg (by simp)]
        exact .tup _ _ (by simpa using r5.len) (fun i x d h1 h2=>r5.rep i x d (by simpa using h1) h2)
      | [],_ :: _,r5=>exact absurd r5.len (by simp)
      | [_],[],r5=>exact absurd r5.len (by simp)
      | [_],_ :: _ :: _,r5=>exact absurd r5.len (by simp)
      | _ :: _ :: _,[],r5=>exact absurd r5.len (by simp)
      | _ :: _ :: _,[_],r5=>exact absurd r5.len (by simp)
    · have hT' : tk = some T:=hT
      obtain ⟨q1,q2,q3,q4⟩:=r3 T hT'
      rw [hR.base] at q2
      exact ⟨q1,q2,q3,q4⟩
  cases e with
  | normal=>exact ⟨hR.sim.df,fin⟩
  | ret=>exact ⟨hR.sim.df,fin⟩
  | _=>exact he.elim
end
end Go.Proofs.Ythadnhpkeljdoaa.pv
namespace Go.Proofs.Ythadnhpkeljdoaa.it
open Go.RowKit Go.Shelf
open sg (lst_len)
open lx
theorem sizeT_take (l : List Tk) (k : Nat) : sizeT (l.take k) ≤ sizeT l:=by
 have h:=congrArg sizeT (List.take_append_drop k l)
 rw [sizeT_both] at h
 omega
theorem wk1 {k : Nat} (h : k ≤ 100000) : wrap64 ((k : Int) + 1) = ((k + 1 : Nat) : Int):=by rw [IntWalk.wrap64_in];rfl;omega
theorem meas0 {k n : Nat} (h : k + 1 ≤ n) : n - (intOf (.int .i64 ((k + 1 : Nat) : Int))).toNat < n - (intOf (.int .i64 (k : Int))).toNat:=by
 show n - (((k + 1 : Nat) : Int)).toNat < n - ((k : Nat) : Int).toNat
 omega
end Go.Proofs.Ythadnhpkeljdoaa.it
