/- Ground of the law: NdPaths2, PaFit. -/
import Derived.Test.YthadnhpkeljdoaaGreatQf17
import Derived.Test.YthadnhpkeljdoaaGreatQf08
import Derived.Test.YthadnhpkeljdoaaGreatQf18
set_option maxRecDepth 100000
set_option maxHeartbeats 8000000
set_option linter.unusedVariables false
set_option linter.unusedSimpArgs false
namespace Go.Proofs.YthadnhpkeljdoaaGreat.nd
open Go.RowKit Go.Shelf sx ed
attribute [local go_sem] Oper.semAt_some
structure PR (G : Nat) (ov pv : Value) (q : List Int) (m k : Nat) (L : List Value) (N : Nat) (W1 : World) (d : Nat → Bool) (v9 v10 v11 v12 v13 : Value) (u : World) : Prop where
  p0 : d 0 = true → v9 = ov
  p1 : d 1 = true → v10 = pv
  q2 : d 2 = true → d 1 = true
  q3 : d 3 = true → d 2 = true
  q4 : d 4 = true → d 0 = true ∧ d 3 = true
  q5 : d 5 = true → d 4 = true
  w1 : d 2 = false → u = W1
  w2 : d 2 = true → d 3 = false → ∃ ao cap,v11 = .slice ao m cap ∧ IntsAt (Frsh W1.heap.size u.heap.size) u (.slice ao m cap) q ∧ Below W1.heap.size W1 u
  w3 : d 3 = true → d 4 = false → ∃ z ao cap,IntsAt (Frsh W1.heap.size z.heap.size) z (.slice ao m cap) q ∧ Below W1.heap.size W1 z ∧ u = z.alloc (.cells #[.slice ao m cap] 39) ∧ v12 = .slice (some ⟨z.heap.size,0,none⟩) 1 1
  w4 : d 4 = true → d 5 = false → ∃ z ao cap,IntsAt (Frsh W1.heap.size z.heap.size) z (.slice ao m cap) q ∧ Below W1.heap.size W1 z ∧ u.ownsRow G 39 1 v13 (k + 1) (L ++ [.slice ao m cap]) ∧ (z.alloc (.cells #[.slice ao m cap] 39)).grownBy u ov.ownBlock ∧ (v13.ownBlock = ov.ownBlock ∨ v13.ownBlock = some (z.heap.size + 1))
  w5 : d 5 = true → ∃ z w2 v' ao cap,IntsAt (Frsh W1.heap.size z.heap.size) z (.slice ao m cap) q ∧ Below W1.heap.size W1 z ∧ w2.ownsRow G 39 1 v' (k + 1) (L ++ [.slice ao m cap]) ∧ (z.alloc (.cells #[.slice ao m cap] 39)).grownBy w2 ov.ownBlock ∧ (v'.ownBlock = ov.ownBlock ∨ v'.ownBlock = some (z.heap.size + 1)) ∧ u = w2.setCell ⟨N,0,none⟩ v'
theorem Fo.walk_short (p : List Nat) : ∀ (f : Fo) (i : Nat) (y : Told),y ∈ f.walk p i → y.1.length ≤ p.length + f.deep
  | .nil,_,_,h=>by simp [Fo.walk] at h
  | .cons k t kids r,i,y,h=>by
    simp only [Fo.walk,List.mem_cons,List.mem_append] at h
    simp only [Fo.deep]
    rcases h with rfl | h | h
    · simp;omega
    · have:=Fo.walk_short (p ++ [i]) kids 0 y h
      simp at this
      omega
    · have:=Fo.walk_short p r (i + 1) y h
      omega
theorem Nd.walk_short (x : Nd) {p : List Nat} {y : Told} (h : y ∈ x.walk p) : y.1.length ≤ p.length + x.deep:=by
  simp only [Nd.walk,List.mem_cons] at h
  rcases h with rfl | h
  · simp
  · have:=Fo.walk_short p x.kids 0 y h
    simp only [Nd.deep];omega
theorem not_of {p q : Bool} (h : p = true → q = true) (hq : q = false) : p = false:=by
  cases p with
  | false=>rfl
  | true=>rw [h rfl] at hq;cases hq
theorem keeps_below {W z : World} (hz : Below W.heap.size W z) : KeepsOthers W z:=⟨hz.size,fun k o hk _=>(hz.block k (Array.getElem?_eq_some_iff.1 hk).1).trans hk⟩
theorem PR.last {w W z w2 : World} {N G m : Nat} {pre : List Told} {y : Told} {D : Nat → Prop} {ov v' : Value} {L : List Value} {ao : Option Addr} {cap : Nat} (hN : N < G) (hwN : w.heap.size ≤ N) (hG : G ≤ W.heap.size) (hnd : ¬ D N)
    (hb : Boxed W N 36 ov) (hrow : W.ownsRow G 39 1 ov pre.length L) (hod : ∀ k,ov.ownBlock = some k → ¬ D k) (hL : ListsAt (SP G D ov W) W L (pre.map fun x=>ints x.1)) (hI : IB w D W) (hDl : ∀ k,D k → k < W.heap.size)
    (hz : Below W.heap.size W z) (hi : IntsAt (Frsh W.heap.size z.heap.size) z (.slice ao m cap) (ints y.1)) (hown : w2.ownsRow G 39 1 v' (pre.length + 1) (L ++ [.slice ao m cap])) (hg : (z.alloc (.cells #[.slice ao m cap] 39)).grownBy w2 ov.ownBlock) (hat : v'.ownBlock = ov.ownBlock ∨ v'.ownBlock = some (z.heap.size + 1)) :
    KeepsOthers W (w2.setCell ⟨N,0,none⟩ v') ∧ KD w.heap.size D W (w2.setCell ⟨N,0,none⟩ v') ∧ PI w N G (pre ++ [y]) D (w2.setCell ⟨N,0,none⟩ v'):=by
  have hzs:=hz.size
  have hgs:=hg.size
  rw [World.size_alloc] at hgs
  have hws:=hI.1.size
  have hlow : ∀ k,k < z.heap.size → ov.ownBlock ≠ some k → w2.heap[k]? = z.heap[k]?:=fun k hk ho=>(hg.block k (by simp;omega) (fun e=>ho e.symm)).trans (Below.heap_alloc _ _ _ hk)
  have hovl : ∀ j,ov.ownBlock = some j → G ≤ j ∧ j < W.heap.size:=fun j hj=>hrow.lt j hj
  have hnN : ov.ownBlock ≠ some N:=fun e=>by have:=(hovl N e).1;omega
  have hbN : Boxed w2 N 36 ov:=(hlow N (by have:=Boxed.lt hb;omega) hnN).trans ((hz.block N (Boxed.lt hb)).trans hb)
  have hvN : v'.ownBlock ≠ some N:=fun e=>by
    have:=(hown.lt N e).1
    omega
  have hset : ∀ k,k ≠ N → (w2.setCell ⟨N,0,none⟩ v').heap[k]? = w2.heap[k]?:=fun k hk=>Below.heap_setCell _ _ _ k (fun e=>hk e)
  have hbw : Below w.heap.size W (w2.setCell ⟨N,0,none⟩ v') :=
    (((hz.mono hws).alloc (by omega) _).grown hg (by simp;omega) (fun k hk=>by have:=(hovl k hk).1;omega)).setCell (p:=⟨N,0,none⟩) hwN _
  have hkD : ∀ k,D k → k < W.heap.size → (w2.setCell ⟨N,0,none⟩ v').heap[k]? = W.heap[k]?:=fun k hk hl=>by
    rw [hset k (fun e=>hnd (e ▸ hk)),hlow k (by omega) (fun e=>hod k e hk),hz.block k hl]
  refine ⟨?_,⟨hbw,hkD⟩,⟨v',_,⟨hbN.set v',hnd⟩,by rw [List.length_append];exact own_keep hown (fun k e=>hset k (fun e'=>hvN (e' ▸ e))),fun k e hd=>?_,?_,by simp;omega⟩,hI.1.trans hbw,hI.2⟩
  · refine (((keeps_below hz).trans (KeepsOthers.alloc z _)).trans (KeepsOthers.of_grownBy hg fun j o ej hj=>?_)).trans (KeepsOthers.setCell _ _ _)
    rcases hrow.2 with ⟨e,_⟩ | ⟨g,cp,cur,e,_,hgb,_⟩
    · rw [e] at ej;simp [Value.ownBlock] at ej
    · rw [e] at ej
      obtain rfl : g = j:=by simpa [Value.ownBlock] using ej
      have hl:=(Array.getElem?_eq_some_iff.1 hgb).1
      have e1 : (z.alloc (.cells #[.slice ao m cap] 39)).heap[g]? = some (.cells cur 39 (0,0)):=(Below.heap_alloc z _ g (by omega)).trans ((hz.block g hl).trans hgb)
      rw [e1] at hj;cases hj;rfl
  · rcases hat with h | h
    · exact hod k (h ▸ e) hd
    · rw [h] at e
      cases e
      have:=hDl _ hd
      omega
  · rw [List.map_append,List.map_cons,List.map_nil]
    have hno : ∀ k,k < z.heap.size → ov.ownBlock ≠ some k → v'.ownBlock ≠ some k:=fun k hk ho e=>by
      rcases hat with h | h
      · exact ho (h ▸ e)
      · rw [h] at e;cases e;omega
    refine ListsAt.snoc (hL.keep (fun k hk=>⟨hk.1,by have:=hk.2.1;simp;omega,hk.2.2.1,hno k (by have:=hk.2.1;omega) hk.2.2.2⟩) (fun k hk=>?_)) (hi.keep (fun k hk=>⟨by have:=hk.1;omega,by have:=hk.2;simp;omega,fun hd=>by have:=hDl k hd;have:=hk.1;omega,hno k hk.2 (fun e=>by have:=(hovl k e).2;have:=hk.1;omega)⟩) (fun k hk=>?_))
    · rw [hset k (fun e=>by have:=hk.1;omega),hlow k (by have:=hk.2.1;omega) hk.2.2.2,hz.block k hk.2.1]
    · rw [hset k (fun e=>by have:=hk.1;omega),hlow k hk.2 (fun e=>by have:=(hovl k e).2;have:=hk.1;omega)]
end Go.Proofs.YthadnhpkeljdoaaGreat.nd
namespace Go.Proofs.YthadnhpkeljdoaaGreat.pa
open Go.RowKit nd pr
theorem lex_mem (x : Lx.Lex) (l : List UInt8) : ∀ t ∈ (Lx.lexA x l).1,∃ y m k n,Lx.find (Lx.tried y) m = some (k,n) ∧ t = (k,m.take n) ∧ m.length ≤ l.length:=by
  generalize hn : l.length = n
  induction n using Nat.strongRecOn generalizing l x with
  | ind n ih =>
    subst hn
    by_cases h0 : l = []
    · subst h0;rw [Lx.lexA_nil];intro t ht;cases ht
    · cases hx : Lx.next x l with
      | error e=>rw [Lx.lexA_err hx h0];intro t ht;cases ht
      | ok p =>
        obtain ⟨k,n,y⟩:=p
        have hl:=Lx.next_le hx
        rw [Lx.lexA_ok hx h0]
        intro t ht
        rcases List.mem_cons.1 ht with rfl | ht
        · exact ⟨x,l,k,n,(Lx.next_find hx).1,rfl,Nat.le_refl _⟩
        · obtain ⟨y',m,k',n',h1,h2,h3⟩:=ih (l.drop n).length (by rw [List.length_drop];omega) y (l.drop n) rfl t ht
          exact ⟨y',m,k',n',h1,h2,by rw [List.length_drop] at h3;omega⟩
theorem find_some {l : List UInt8} {k : Int} {n : Nat} : ∀ {sh : List Lx.Kd},Lx.find sh l = some (k,n) → ∃ f,(k,f) ∈ sh ∧ f l = n ∧ n ≠ 0
  | [],h=>by cases h
  | (k',f) :: t,h=>by
    unfold Lx.find at h
    by_cases h0 : f l = 0
    · rw [if_pos h0] at h
      obtain ⟨f',h1,h2⟩:=find_some h
      exact ⟨f',List.mem_cons_of_mem _ h1,h2⟩
    · rw [if_neg h0] at h
      cases h
      exact ⟨f,List.mem_cons_self,rfl,h0⟩
theorem tried_mem {y : Lx.Lex} {h : Lx.Kd} (hm : h ∈ Lx.tried y) : h ∈ Lx.closing ∨ h ∈ Lx.inside:=by
  unfold Lx.tried at hm
  split at hm
  · exact .inr hm
  · split at hm
    · exact .inl hm
    · exact .inl (List.mem_cons_of_mem _ hm)
theorem take_head {l : List UInt8} {n : Nat} (h : n ≠ 0) : (l.take n).getD 0 0 = l.getD 0 0:=by
  cases l with
  | nil=>simp
  | cons b r=>cases n with
    | zero=>exact absurd rfl h
    | succ n=>rfl
theorem marked_pre {c : UInt8} {f : List UInt8 → Nat} {l : List UInt8} (h : Lx.marked [c] f l ≠ 0) : Lib.hasPrefix (l.take (Lx.marked [c] f l)) [c] = true:=by
  rw [Lx.pre_take]
  unfold Lx.marked at h ⊢
  by_cases h1 : Lib.hasPrefix l [c] = true
  · rw [if_pos h1] at h ⊢
    by_cases h2 : f (l.drop ([c] : List UInt8).length) = 0
    · rw [if_pos h2] at h;exact absurd rfl h
    · rw [if_neg h2,h1,Bool.and_true]
      exact decide_eq_true (by omega)
  · rw [if_neg h1] at h;exact absurd rfl h
theorem word_head {l : List UInt8} (h : Sg.word l ≠ 0) : Sg.cL ((l.getD 0 0).toNat : Int) = true:=by
  have hs : Sg.simple l ≠ 0:=fun e=>by unfold Sg.word at h;rw [if_pos e] at h;exact h rfl
  unfold Sg.simple at hs
  by_cases h1 : Sg.at' Sg.cL l 0 = true
  · exact Lx.at_get h1
  · rw [if_neg h1] at hs;exact absurd rfl hs
theorem oper_mem {l : List UInt8} (h : Sg.oper l ≠ 0) : l.take (Sg.oper l) ∈ Sg.opers:=by
  unfold Sg.oper at h ⊢
  cases hf : Sg.opers.find? (fun o=>Lib.hasPrefix l o) with
  | none=>rw [hf] at h;exact absurd rfl h
  | some o =>
    have h1 : Lib.hasPrefix l o = true:=by simpa using List.find?_some hf
    have h2 : o <+: l:=List.isPrefixOf_iff_prefix.1 h1
    rw [show l.take o.length = o from (List.prefix_iff_eq_take.1 h2).symm]
    exact List.mem_of_find?_eq_some hf
theorem signs_head : ∀ s ∈ [minus,semi,colon,bar,lpar,rpar,lbr,rbr,lbrace,rbrace,comma,dot,dots,quest],Sg.cL ((s.data.toList.getD 0 0).toNat : Int) = false:=by decide +kernel
theorem words_no : ∀ s ∈ [wdef,wlabel,wtry,wcatch,was,wif,wthen,welif,welse,wend,wreduce,wforeach,wbreak,wimport,winclude],s.data.toList ∉ Sg.opers:=by decide +kernel
theorem kinds_clo : ∀ k ∈ Lx.closing.map (·.1),0 ≤ k ∧ k ≤ 13:=by decide
theorem kinds_in : ∀ k ∈ Lx.inside.map (·.1),0 ≤ k ∧ k ≤ 13:=by decide
theorem shape_of {y : Lx.Lex} {k : Int} {f : List UInt8 → Nat} (h : (k,f) ∈ Lx.tried y) : (0 ≤ k ∧ k ≤ 13) ∧ (k = 4 → f = Lx.marked [46] Sg.simple) ∧ (k = 5 → f = Lx.marked [36] Sg.word) ∧ (k = 3 → f = Sg.word) ∧ (k = 13 → f = Sg.oper):=by
  rcases tried_mem h with h | h
  · refine ⟨kinds_clo k (List.mem_map.2 ⟨_,h,rfl⟩),?_,?_,?_,?_⟩ <;>
    · intro e
      subst e
      unfold Lx.closing Lx.outside at h
      simp only [List.mem_cons,Prod.mk.injEq,List.not_mem_nil,or_false] at h
      simpa using h
  · refine ⟨kinds_in k (List.mem_map.2 ⟨_,h,rfl⟩),?_,?_,?_,?_⟩ <;>
    · intro e
      subst e
      unfold Lx.inside at h
      simp at h
def asT (t : Lx.Tok) : Tk:=(t.1,⟨t.2.toArray⟩)
theorem lex_fit (x : Lx.Lex) (l : List UInt8) (hl : l.length ≤ 1000000) : ∀ t ∈ (Lx.lexA x l).1,FitT (asT t):=by
  intro t ht
  obtain ⟨y,m,k,n,hf,rfl,hm⟩:=lex_mem x l t ht
  obtain ⟨f,hk,hfl,hn⟩:=find_some hf
  obtain ⟨h0,h4,h5,h3,h13⟩:=shape_of hk
  have hd : ∀ s : ByteArray,(⟨(m.take n).toArray⟩ : ByteArray) = s → m.take n = s.data.toList:=fun s e=>by rw [← e]
  refine ⟨h0,?_,?_,?_,?_,?_⟩
  · show (m.take n).toArray.size ≤ 1000000
    rw [List.size_toArray,List.length_take];omega
  · intro e
    have e : k = 4:=e
    have hf2:=h4 e
    subst hf2
    show Lib.hasPrefix (m.take n) [46] = true
    rw [← hfl]
    exact marked_pre (by rw [hfl];exact hn)
  · intro e
    have e : k = 5:=e
    have hf2:=h5 e
    subst hf2
    show Lib.hasPrefix (m.take n) [36] = true
    rw [← hfl]
    exact marked_pre (by rw [hfl];exact hn)
  · intro e hmem
    have e : k = 3:=e
    have hf2:=h3 e
    subst hf2
    have h1:=signs_head _ hmem
    have h2:=word_head (l:=m) (by rw [hfl];exact hn)
    rw [← take_head (l:=m) hn] at h2
    have h1 : Sg.cL (((m.take n).getD 0 0).toNat : Int) = false:=h1
    rw [h2] at h1
    cases h1
  · intro e hmem
    have e : k = 13:=e
    have hf2:=h13 e
    subst hf2
    have h1:=words_no _ hmem
    refine h1 ?_
    show m.take n ∈ Sg.opers
    rw [← hfl]
    exact oper_mem (by rw [hfl];exact hn)
end Go.Proofs.YthadnhpkeljdoaaGreat.pa
