/- Ground of the law: LxTokens. -/
import Derived.Test.YtlklhkkjcfmefaaGreatDoorQe21
import Derived.Test.YtlklhkkjcfmefaaGreatDoorQe01
import Derived.RegionIn
set_option maxRecDepth 100000
set_option maxHeartbeats 8000000
set_option linter.unusedVariables false
set_option linter.unusedSimpArgs false
namespace Go.Proofs.YtlklhkkjcfmefaaGreatDoor.lx
open Go.Lib (hid)
open Go.RowKit Go.Shelf
open sg (lst_len extract_drop ext_size)
open sx
attribute [local go_sem] Oper.semAt_some
theorem clone_calls (s : ByteArray) (hs : s.size ≤ 140737488351232) (w : World) :
  Calls Tryz.prog 53 #[.string s] w fun e w'=>e = .returned (.string s) ∧ Below w.heap.size w w':=by
 go_enter Tryz.func53,Tryz.ntmps53
 go_wp2_with (go_at_call 99;refine (Tryz.stringslite_Clone s _ (by omega)).mono ?_;rintro e w' ⟨rfl,hb⟩)
 go_ret
 exact ⟨rfl,hb⟩
theorem infoTok : (Tryz.prog.info? 49).map (fun i=>(i.zero,i.size,i.bytes)) = some (some (.agg #[.int .i64 0,.string ⟨#[]⟩]),2,24):=by kernel_rfl
def tokCells (l : List Lx.Tok) : List Value:=l.flatMap fun t=>[.int .i64 t.1,.string ⟨t.2.toArray⟩]
theorem tokCells_snoc (l : List Lx.Tok) (t : Lx.Tok) : tokCells (l ++ [t]) = tokCells l ++ [.int .i64 t.1,.string ⟨t.2.toArray⟩]:=by simp [tokCells]
def toks (l : List Lx.Told) : List Lx.Tok:=l.map (·.1)
def tokensF (l : List UInt8) (chk : Int) : List Lx.Tok × Int × Int :=
 if 65536 < l.length then ([],3,0) else if 0 ≤ chk then ([],10,chk)
 else if (Lx.lexA Lx.start l).2 = 0 then ((Lx.lexA Lx.start l).1,0,0) else ([],(Lx.lexA Lx.start l).2,(Lx.size (Lx.lexA Lx.start l).1 : Int))
def TokensTo (s : ByteArray) (w : World) (e : Ending) (w' : World) : Prop :=
 ∃ v,e = .returned (.tuple #[v,.int .u16 (tokensF s.data.toList (utf.checkF s)).2.1,.int .i64 (tokensF s.data.toList (utf.checkF s)).2.2]) ∧
  w'.ownsRow w.heap.size 49 2 v (tokensF s.data.toList (utf.checkF s)).1.length (tokCells (tokensF s.data.toList (utf.checkF s)).1) ∧ Below w.heap.size w w'
def TkO (O base : Nat) (pre : List Lx.Told) (W : World) : Prop :=
 ∃ v,Boxed W O 45 v ∧ W.ownsRow base 49 2 v pre.length (tokCells (toks pre)) ∧ True
theorem TkO_own (O base : Nat) : Own (TkO O base):=by
 have h:=holdsRow_own (β:=List Lx.Told) base O 45 49 2 (fun pre=>pre.length) (fun pre=>tokCells (toks pre)) (fun _ _=>True)
 exact h
def TkI (w : World) (R O : Nat) (pre : List Lx.Told) (W : World) : Prop :=
 (((((TkO O (O + 3) pre W ∧ Boxed W (O + 1) 3 (.int .i64 (Lx.size (toks pre) : Int))) ∧ Boxed W R 45 (.slice none 0 0)) ∧ Boxed W (R + 1) 34 (.int .u16 0)) ∧ Boxed W (R + 1 + 1) 3 (.int .i64 0)) ∧ (∀ x ∈ pre,x.2 = 0)) ∧ (Below w.heap.size w W ∧ O + 3 ≤ W.heap.size)
def TkX (w : World) (R : Nat) (c : Code) (pre : List Lx.Told) (W : World) : Prop :=
 (c = .ret ∧ ∃ ini last,pre = ini ++ [last] ∧ last.2 ≠ 0 ∧ Boxed W R 45 (.slice none 0 0) ∧ Boxed W (R + 1) 34 (.int .u16 last.2) ∧ Boxed W (R + 1 + 1) 3 (.int .i64 (Lx.size (toks ini) : Int))) ∧ Below w.heap.size w W
theorem TkI_own (w : World) (R O : Nat) (B : Nat) (hB : w.heap.size ≤ B) : OwnFrom B (TkI w R O) :=
 OwnFrom.and (OwnFrom.and (OwnFrom.and (OwnFrom.and (OwnFrom.and (OwnFrom.and (Own.from (TkO_own O _) _) (Own.from (boxed_own _ _ _) _)) (Own.from (boxed_own _ _ _) _)) (Own.from (boxed_own _ _ _) _)) (Own.from (boxed_own _ _ _) _)) (ownFrom_pure _ _)) (OwnFrom.and (ownFrom_below (Nat.le_refl _) hB) (fun _ X Y row hs hg _=>Nat.le_trans hs hg.size))
theorem TkX_own (w : World) (R : Nat) (c : Code) (B : Nat) (hB : w.heap.size ≤ B) : OwnFrom B (TkX w R c) :=
 OwnFrom.and (fun pre X Y row hs hg hr=>by
   obtain ⟨hc,ini,last,e1,e2,b1,b2,b3⟩:=hs
   exact ⟨hc,ini,last,e1,e2,boxed_own _ _ (fun (_ : Unit)=>_) () X Y row b1 hg (fun r e=>(hr r e).2),boxed_own _ _ (fun (_ : Unit)=>_) () X Y row b2 hg (fun r e=>(hr r e).2),boxed_own _ _ (fun (_ : Unit)=>_) () X Y row b3 hg (fun r e=>(hr r e).2)⟩) (ownFrom_below (Nat.le_refl _) hB)
theorem own_abX {W W' : World} {N base size k : Nat} {T : TypeId} {v : Value} {xs : List Value} {S : Nat → Prop} (h : W.ownsRow base T size v k xs) (hb : But W.heap.size S W W') (hS : ∀ k,S k → Ours N T W k) : W'.ownsRow base T size v k xs:=by
 refine ⟨h.1,?_⟩
 rcases h.2 with hn | ⟨g,cap,cur,h1,h2,h3,h4⟩
 ·exact .inl hn
 ·refine .inr ⟨g,cap,cur,h1,h2,(hb.block g (Array.getElem?_eq_some_iff.1 h3).1 (fun e=>?_)).trans h3,h4⟩
  obtain ⟨_,vs,t,f,h5,h6⟩:=hS g e
  rw [h3] at h5
  cases h5
  exact h6 rfl
theorem TkO_abX (O base N : Nat) (hO : O < N) : AbX N 49 (TkO O base):=by
 rintro pre A B S ⟨v,hv,hr,_⟩ hb hS
 exact ⟨v,abX_boxed hO _ (fun (_ : Unit)=>v) () A B S hv hb hS,own_abX hr hb hS,trivial⟩
theorem TkI_abX (w : World) (R O N : Nat) (hR : R + 2 < N) (hO : O + 1 < N) (hw : w.heap.size ≤ N) : AbX N 49 (TkI w R O) :=
 AbX.and (AbX.and (AbX.and (AbX.and (AbX.and (AbX.and (TkO_abX O _ N (by omega)) (abX_boxed (by omega) _ _)) (abX_boxed (by omega) _ _)) (abX_boxed (by omega) _ _)) (abX_boxed (by omega) _ _)) (abX_pure _ _ _)) (AbX.and (abX_below hw (Nat.le_refl _)) (fun _ A B S hs hb _=>Nat.le_trans hs hb.size))
theorem TkX_abX (w : World) (R N : Nat) (c : Code) (hR : R + 2 < N) (hw : w.heap.size ≤ N) : AbX N 49 (TkX w R c) :=
 AbX.and (fun pre A B S hs hb hS=>by
   obtain ⟨hc,ini,last,e1,e2,b1,b2,b3⟩:=hs
   exact ⟨hc,ini,last,e1,e2,abX_boxed (by omega) _ (fun (_ : Unit)=>_) () A B S b1 hb hS,abX_boxed (by omega) _ (fun (_ : Unit)=>_) () A B S b2 hb hS,abX_boxed (by omega) _ (fun (_ : Unit)=>_) () A B S b3 hb hS⟩) (abX_below hw (Nat.le_refl _))
theorem told_size (x : Lx.Lex) (l : List UInt8) : Lx.size (Lx.lexA x l).1 ≤ l.length:=by
 generalize hn : l.length = n
 induction n using Nat.strongRecOn generalizing x l with
 | ind n ih =>
  subst hn
  by_cases he : l = []
  ·subst he;rw [Lx.lexA_nil];simp [Lx.size]
  ·cases hx : Lx.next x l with
   | error e=>rw [Lx.lexA_err hx he];simp [Lx.size]
   | ok p =>
    obtain ⟨k,n,y⟩:=p
    have hl:=Lx.next_le hx
    have:=ih (l.drop n).length (by rw [List.length_drop];omega) y (l.drop n) rfl
    rw [Lx.lexA_ok hx he]
    simp only [Lx.size,List.map_cons,List.sum_cons,List.length_take] at this ⊢
    rw [List.length_drop] at this
    omega
theorem size_app (a b : List Lx.Tok) : Lx.size (a ++ b) = Lx.size a + Lx.size b:=by simp [Lx.size,List.sum_append]
theorem toks_app (a b : List Lx.Told) : toks (a ++ b) = toks a ++ toks b:=by simp [toks]
theorem toks_told (x : Lx.Lex) (l : List UInt8) : Lx.size (toks (Lx.told x l)) ≤ l.length:=by
 have h:=told_size x l
 unfold Lx.told
 rw [toks_app,size_app]
 have e1 : toks ((Lx.lexA x l).1.map fun t=>(t,(0 : Int))) = (Lx.lexA x l).1:=by simp [toks,List.map_map,Function.comp_def]
 rw [e1]
 split
 ·simpa [toks,Lx.size] using h
 ·simpa [toks,Lx.size] using h
abbrev tkAct (s : ByteArray) (R O : Nat) (chk : Int) (x : Lx.Told) (Bx : Nat) (v22 v23 v24 v25 v26 v27 v28 v29 v30 v31 v32 v33 v34 v35 v36 v37 v38 v39 v40 : Value) : Act :=
 { tmps:=#[.string s,undef,.pointer (some ⟨R,0,none⟩),.pointer (some ⟨R + 1,0,none⟩),.pointer (some ⟨R + 1 + 1,0,none⟩),.int .i64 chk,.pointer (some ⟨O,0,none⟩),.pointer (some ⟨O + 1,0,none⟩),.pointer (some ⟨Bx,0,none⟩),.int .u16 x.2,.string s,.int .i64 (s.size : Int),.bool false,.string s,.int .i64 chk,.int .i64 chk,.bool false,undef,.string s,.func (.func 95) #[] #[.pointer (some ⟨O + 1 + 1,0,none⟩)],.agg #[.int .i64 x.1.1,.string ⟨x.1.2.toArray⟩],.int .u16 x.2,v22,v23,v24,v25,v26,v27,v28,v29,v30,v31,v32,v33,v34,v35,v36,v37,v38,v39,v40],defers:=[] }
def TkA (s : ByteArray) (R O : Nat) (chk : Int) (x : Lx.Told) (a' : Act) (W : World) : Prop :=
 ∃ Bx,O + 1 < Bx ∧ Blk W Bx 49 #[.int .i64 x.1.1,.string ⟨x.1.2.toArray⟩] ∧ (∃ v,Boxed W O 45 v ∧ v.ownBlock ≠ some Bx) ∧ a' = tkAct s R O chk x Bx undef undef undef undef undef undef undef undef undef undef undef undef undef undef undef undef undef undef undef
theorem TkA_own (s : ByteArray) (R O : Nat) (chk : Int) (x : Lx.Told) (a' : Act) (B : Nat) : OwnFrom B (fun (_ : Unit) W=>TkA s R O chk x a' W) :=
 fun _ X Y row hs hg hr=>by obtain ⟨Bx,h1,h2,⟨v,h4,h5⟩,h3⟩:=hs;exact ⟨Bx,h1,blk_own Bx 49 (fun (_ : Unit)=>#[.int .i64 x.1.1,.string ⟨x.1.2.toArray⟩]) () X Y row h2 hg (fun r e=>(hr r e).2),⟨v,boxed_own _ _ (fun (_ : Unit)=>_) () X Y row h4 hg (fun r e=>(hr r e).2),h5⟩,h3⟩
def TkB (R O : Nat) (k : Nat) : Prop:=k = R ∨ k = R + 1 ∨ k = R + 1 + 1 ∨ k = O ∨ k = O + 1
theorem own_slice {W : World} {base size n : Nat} {e : TypeId} {v : Value} {xs : List Value} (h : W.ownsRow base e size v n xs) : ∃ ao len cap,v = .slice ao len cap:=by
 rcases h.2 with ⟨rfl,_⟩ | ⟨g,cap,cur,rfl,_⟩
 ·exact ⟨_,_,_,rfl⟩
 ·exact ⟨_,_,_,rfl⟩
theorem own_base {W : World} {base base' size n : Nat} {e : TypeId} {v : Value} {xs : List Value} (h : W.ownsRow base e size v n xs) (hb : base' ≤ base) : W.ownsRow base' e size v n xs:=by
 refine ⟨h.1,?_⟩
 rcases h.2 with hn | ⟨g,cap,cur,h1,h2,h3⟩
 ·exact .inl hn
 ·exact .inr ⟨g,cap,cur,h1,Nat.le_trans hb h2,h3⟩
theorem own_far {W : World} {base size n B o : Nat} {e : TypeId} {v u : Value} {xs : List Value} (h : W.ownsRow base e size v n xs) (hb : B < base) : (W.setCell ⟨B,o,none⟩ u).ownsRow base e size v n xs :=
 own_set h (fun he=>by have:=(h.lt _ he.symm).1;omega)
theorem KX_set {n : Nat} {X : Nat → Prop} {T : TypeId} {W : World} {B o : Nat} (hX : X B) (hn : n ≤ B) (v : Value) : KX n X T W (W.setCell ⟨B,o,none⟩ v) :=
 ⟨(Below.refl _ W).setCell (p:=⟨B,o,none⟩) hn v,fun k vs t _ hk _ hb=>hb.other (fun e=>hk (by rw [e];exact hX)) v⟩
theorem told_mem {x : Lx.Lex} {l : List UInt8} (h : (Lx.lexA x l).2 ≠ 0) : (((0,[]) : Lx.Tok),(Lx.lexA x l).2) ∈ Lx.told x l:=by
 unfold Lx.told;rw [if_neg h];simp
theorem told_done {x : Lx.Lex} {l : List UInt8} (h : ∀ y ∈ Lx.told x l,y.2 = 0) : (Lx.lexA x l).2 = 0 ∧ toks (Lx.told x l) = (Lx.lexA x l).1:=by
 have h0 : (Lx.lexA x l).2 = 0:=by
  by_cases h0 : (Lx.lexA x l).2 = 0
  ·exact h0
  ·exact absurd (h _ (told_mem h0)) h0
 refine ⟨h0,?_⟩
 unfold Lx.told
 rw [if_pos h0,List.append_nil]
 simp [toks,List.map_map,Function.comp_def]
theorem told_len {x : Lx.Lex} {l : List UInt8} (h : ∀ y ∈ Lx.told x l,y.2 = 0) : (Lx.told x l).length = (Lx.lexA x l).1.length:=by
 have:=congrArg List.length (told_done h).2
 simpa [toks] using this
theorem told_left {x : Lx.Lex} {l : List UInt8} {pre rest : List Lx.Told} {y : Lx.Told} (h : Lx.told x l = pre ++ y :: rest) (hy : y.2 ≠ 0) : (Lx.lexA x l).2 = y.2 ∧ toks pre = (Lx.lexA x l).1:=by
 unfold Lx.told at h
 have hno : y ∉ (Lx.lexA x l).1.map (fun t=>(t,(0 : Int))):=by
  intro hm
  obtain ⟨t,_,e⟩:=List.mem_map.1 hm
  rw [← e] at hy;exact hy rfl
 by_cases h0 : (Lx.lexA x l).2 = 0
 ·rw [if_pos h0,List.append_nil] at h
  exact absurd (by rw [h];simp) hno
 ·rw [if_neg h0] at h
  rcases List.append_eq_append_iff.1 h with ⟨cs,h1,h2⟩ | ⟨bs,h1,h2⟩
  ·cases cs with
   | nil =>
    simp only [List.append_nil,List.nil_append,List.cons.injEq] at h1 h2
    refine ⟨by rw [← h2.1],?_⟩
    rw [h1];simp [toks,List.map_map,Function.comp_def]
   | cons a cs =>
    simp only [List.cons_append,List.cons.injEq] at h2
    have:=congrArg List.length h2.2
    simp at this
  ·cases bs with
   | nil =>
    simp only [List.append_nil,List.nil_append,List.cons.injEq] at h1 h2
    refine ⟨by rw [h2.1],?_⟩
    rw [← h1];simp [toks,List.map_map,Function.comp_def]
   | cons b bs =>
    simp only [List.cons_append,List.cons.injEq] at h2
    exact absurd (by rw [h1,h2.1];simp) hno
theorem bx_drew {W : World} {B : Nat} {t : TypeId} {v : Value} (h : Boxed W B t v) : Boxed W.drew B t v:=h
theorem ownsRow_below {W z : World} {base : Nat} {e : TypeId} {size : Nat} {v : Value} {k : Nat} {xs : List Value} (h : W.ownsRow base e size v k xs) (hz : Below W.heap.size W z) : z.ownsRow base e size v k xs:=by
 refine ⟨h.1,?_⟩
 rcases h.2 with hn | ⟨g,cap,cur,h1,h2,h3,h4⟩
 ·exact .inl hn
 ·exact .inr ⟨g,cap,cur,h1,h2,(hz.block g (Array.getElem?_eq_some_iff.1 h3).1).trans h3,h4⟩
theorem keeps_below {W z : World} (hz : Below W.heap.size W z) : KeepsOthers W z:=⟨hz.size,fun k o hk _=>(hz.block k (Array.getElem?_eq_some_iff.1 hk).1).trans hk⟩
theorem appended {W1 z u : World} {B3 k size : Nat} {e : TypeId} {v : Value} {xs : List Value} {tmp : Obj} (hz : Below W1.heap.size W1 z) (hrow : W1.ownsRow B3 e size v k xs) (hgrow : (z.alloc tmp).grownBy u v.ownBlock) (h3 : B3 ≤ W1.heap.size) :
  (∀ b t y,Boxed W1 b t y → b < B3 → Boxed u b t y) ∧ KeepsOthers W1 u ∧ Below B3 W1 u ∧ (∀ b t vs,t ≠ e → Blk W1 b t vs → Blk u b t vs):=by
 have hzs:=hz.size
 have hge : ∀ j,v.ownBlock = some j → B3 ≤ j:=fun j hj=>(hrow.lt j hj).1
 have hty : ∀ j,v.ownBlock = some j → ∃ cur,W1.heap[j]? = some (.cells cur e (0,0)):=by
  intro j hj
  rcases hrow.2 with ⟨rfl,_⟩ | ⟨g,cap,cur,rfl,_,hgb,_⟩
  ·simp [Value.ownBlock] at hj
  ·obtain rfl : g = j:=by simpa [Value.ownBlock] using hj
   exact ⟨cur,hgb⟩
 refine ⟨fun b t y hb hlt=>?_,?_,?_,?_⟩
 ·have hb1 : Boxed z b t y:=(hz.block b hb.lt).trans hb
  exact (hb1.alloc tmp).kept hgrow (fun e'=>by have:=hge b e'.symm;omega)
 ·refine ((keeps_below hz).trans (KeepsOthers.alloc z tmp)).trans (KeepsOthers.of_grownBy hgrow fun j o ej hj=>?_)
  obtain ⟨cur,hgb⟩:=hty j ej
  have hl:=(Array.getElem?_eq_some_iff.1 hgb).1
  have e1 : (z.alloc tmp).heap[j]? = some (.cells cur e (0,0)):=(Below.heap_alloc z tmp j (by omega)).trans ((hz.block j hl).trans hgb)
  rw [e1] at hj;cases hj;rfl
 ·exact ((hz.mono h3).alloc (by omega) tmp).grown hgrow (by simp;omega) hge
 ·intro b t vs ht hb
  refine ((hb.own hz).alloc tmp).kept hgrow (fun e'=>?_)
  obtain ⟨cur,hgb⟩:=hty b e'.symm
  rw [show W1.heap[b]? = _ from hb] at hgb
  injection hgb with hgb;injection hgb with _ h2 _
  exact ht h2
structure ApR (O base : Nat) (kd : Int) (tb : ByteArray) (Bx : Nat) (out : Value) (k : Nat) (xs : List Value) (W1 : World) (d : Nat → Bool) (v26 v27 v28 v29 v30 v31 v32 v33 v34 : Value) (u : World) : Prop where
 p0 : d 0 = true → v26 = out
 p1 : d 1 = true → v27 = .pointer (some ⟨Bx,0,none⟩)
 p2 : d 2 = true → v28 = .int .i64 kd
 p3 : d 3 = true → v29 = .pointer (some ⟨Bx,1,none⟩)
 p4 : d 4 = true → v30 = .string tb
 p5 : d 5 = true → v31 = .string tb
 p6 : d 6 = true → v32 = .agg #[.int .i64 kd,.string tb]
 q2 : d 2 = true → d 1 = true
 q4 : d 4 = true → d 3 = true
 q5 : d 5 = true → d 4 = true
 q6 : d 6 = true → d 2 = true ∧ d 5 = true
 q7 : d 7 = true → d 6 = true
 q8 : d 8 = true → d 0 = true ∧ d 7 = true
 q9 : d 9 = true → d 8 = true
 w7 : d 7 = false → Below W1.heap.size W1 u
 w8 : d 7 = true → d 8 = false → ∃ z,Below W1.heap.size W1 z ∧ u = z.alloc (.cells #[.int .i64 kd,.string tb] 49) ∧ v33 = .slice (some ⟨z.heap.size,0,none⟩) 1 1
 w9 : d 8 = true → d 9 = false → ∃ z,Below W1.heap.size W1 z ∧ u.ownsRow base 49 2 v34 (k + 1) (xs ++ [.int .i64 kd,.string tb]) ∧ (z.alloc (.cells #[.int .i64 kd,.string tb] 49)).grownBy u out.ownBlock
 w10 : d 9 = true → ∃ z wq v',Below W1.heap.size W1 z ∧ wq.ownsRow base 49 2 v' (k + 1) (xs ++ [.int .i64 kd,.string tb]) ∧ (z.alloc (.cells #[.int .i64 kd,.string tb] 49)).grownBy wq out.ownBlock ∧ u = wq.setCell ⟨O,0,none⟩ v'
def ApV (s : ByteArray) (R O base : Nat) (chk : Int) (x : Lx.Told) (Bx : Nat) (out : Value) (k : Nat) (xs : List Value) (W1 : World) (listed : Array Bool) (a : Act) (u : World) : Prop :=
 listed.size = 10 ∧ ∃ v26 v27 v28 v29 v30 v31 v32 v33 v34,a = tkAct s R O chk x Bx (.int .u16 x.2) (.bool false) undef undef v26 v27 v28 v29 v30 v31 v32 v33 v34 undef undef undef undef undef undef ∧ ApR O base x.1.1 ⟨x.1.2.toArray⟩ Bx out k xs W1 (rinv.done listed) v26 v27 v28 v29 v30 v31 v32 v33 v34 u
theorem ApR.early {O base : Nat} {kd : Int} {tb : ByteArray} {Bx : Nat} {out : Value} {k : Nat} {xs : List Value} {W1 : World} {d : Nat → Bool} {v26 v27 v28 v29 v30 v31 v32 v33 v34 : Value} {u : World}
  (h : ApR O base kd tb Bx out k xs W1 d v26 v27 v28 v29 v30 v31 v32 v33 v34 u) (h8 : d 8 = false) : Below W1.heap.size W1 u:=by
 cases h7 : d 7 with
 | false=>exact h.w7 h7
 | true=>obtain ⟨z,hz,rfl,_⟩:=h.w8 h7 h8;exact hz.alloc hz.size _
theorem cell_two_new (w : World) (a b : Value) (t : TypeId) : ∀ j u,[a,b][j]? = some u → (w.alloc (.cells #[a,b] t)).cell? ((⟨w.heap.size,0,none⟩ : Addr).add j) = some u:=by
 intro j u hu
 have hb:=(Blk.new w t #[a,b]).cell j
 match j,hu with
 | 0,hu=>cases hu;exact hb
 | 1,hu=>cases hu;exact hb
 | n + 2,hu=>simp at hu
structure RgR (R : Nat) (e : Int) (z : Nat) (W1 : World) (d : Nat → Bool) (v24 v25 : Value) (u : World) : Prop where
 p0 : d 0 = true → v24 = .int .u16 e
 p1 : d 1 = true → v25 = .int .i64 (z : Int)
 q3 : d 3 = true → d 0 = true ∧ d 2 = true
 q4 : d 4 = true → d 1 = true ∧ d 3 = true
 w1 : d 2 = false → u = W1
 w2 : d 2 = true → d 3 = false → u = W1.setCell ⟨R,0,none⟩ (.slice none 0 0)
 w3 : d 3 = true → d 4 = false → u = (W1.setCell ⟨R,0,none⟩ (.slice none 0 0)).setCell ⟨R + 1,0,none⟩ (.int .u16 e)
 w4 : d 4 = true → u = ((W1.setCell ⟨R,0,none⟩ (.slice none 0 0)).setCell ⟨R + 1,0,none⟩ (.int .u16 e)).setCell ⟨R + 1 + 1,0,none⟩ (.int .i64 (z : Int))
def RgV (s : ByteArray) (R O : Nat) (chk : Int) (x : Lx.Told) (Bx z : Nat) (W1 : World) (listed : Array Bool) (a : Act) (u : World) : Prop :=
 listed.size = 5 ∧ ∃ v24 v25,a = tkAct s R O chk x Bx (.int .u16 x.2) (.bool true) v24 v25 undef undef undef undef undef undef undef undef undef undef undef undef undef undef undef ∧ RgR R x.2 z W1 (rinv.done listed) v24 v25 u
theorem not_of {p q : Bool} (h : p = true → q = true) (hq : q = false) : p = false:=by
 cases p with
 | false=>rfl
 | true=>rw [h rfl] at hq;cases hq
theorem left_boxes {W1 : World} {R O : Nat} {v0 v1 v2 v : Value} {e : Int} {z : Nat} (b0 : Boxed W1 R 45 v0) (b1 : Boxed W1 (R + 1) 34 v1) (b2 : Boxed W1 (R + 1 + 1) 3 v2) :
  Boxed (((W1.setCell ⟨R,0,none⟩ (.slice none 0 0)).setCell ⟨R + 1,0,none⟩ (.int .u16 e)).setCell ⟨R + 1 + 1,0,none⟩ (.int .i64 (z : Int))) R 45 (.slice none 0 0) ∧
  Boxed (((W1.setCell ⟨R,0,none⟩ (.slice none 0 0)).setCell ⟨R + 1,0,none⟩ (.int .u16 e)).setCell ⟨R + 1 + 1,0,none⟩ (.int .i64 (z : Int))) (R + 1) 34 (.int .u16 e) ∧
  Boxed (((W1.setCell ⟨R,0,none⟩ (.slice none 0 0)).setCell ⟨R + 1,0,none⟩ (.int .u16 e)).setCell ⟨R + 1 + 1,0,none⟩ (.int .i64 (z : Int))) (R + 1 + 1) 3 (.int .i64 (z : Int)) :=
 ⟨((b0.set _).other (by omega) _).other (by omega) _,((b1.other (by omega) _).set _).other (by omega) _,((b2.other (by omega) _).other (by omega) _).set _⟩
theorem tokens_lex (n : Nat) (hn : 3 ≤ n) (s : ByteArray) (hs : s.size ≤ 65536) (hck : utf.checkF s < 0) (w : World) (hops : sg.OpsAt w) :
  CallsIn Fence.wide n Tryz.prog 31 #[.string s] w (TokensTo s w):=by
 have h1 : 1 ≤ n:=by omega
 have hf : Fence.wide.fn 52:=trivial
 have hf2 : Fence.wide.fn 51:=trivial
 obtain ⟨chk,hchk⟩ : ∃ chk,utf.checkF s = chk:=⟨_,rfl⟩
 have hcc:=fun w=>utf.check_calls s (by omega) w
 simp only [hchk] at hcc
 have t0 : decide ((65536 : Int) < (s.size : Int)) = false:=decide_eq_false (by omega)
 have t1 : decide ((0 : Int) ≤ chk) = false:=decide_eq_false (by omega)
 have HCK:=hid hchk;have HOP:=hid hops
 clear hchk hops
 refine callsIn_of_wp_marks Tryz.func31 rfl trivial ?_ rfl
 simp only [Tryz.ntmps31,List.size_toArray,List.length_cons,List.length_nil,Nat.reduceAdd,Nat.reduceSub,Array.replicate_succ,Array.replicate_zero,List.push_toArray,List.append_toArray,List.nil_append,List.cons_append]
 gi_wp2_with (first | (gi_at_call 51;refine (callsIn_wide.2 (hcc _)).mono ?_;rintro e w1 ⟨rfl,hb1⟩) | (gi_at_call 52;refine (tokens_in (n - 1) _ _).mono ?_;rintro e w' ⟨rfl,rfl⟩))
 have HB1:=hid hb1
 obtain ⟨w3,hw3⟩ : ∃ w3,((w.alloc (.cells #[.slice none 0 0] 45)).alloc (.cells #[.int .u16 0] 34)).alloc (.cells #[.int .i64 0] 3) = w3:=⟨_,rfl⟩
 have hs3 : w3.heap.size = w.heap.size + 3:=by rw [← hw3];simp
 have hBw : Below w.heap.size w w3:=by rw [← hw3];exact (((Below.refl _ w).alloc (Nat.le_refl _) _).alloc (by simp) _).alloc (by simp;omega) _
 have r0 : Boxed w3 w.heap.size 45 (.slice none 0 0):=by rw [← hw3];exact ((Boxed.new w 45 (.slice none 0 0)).alloc _).alloc _
 have r1 : Boxed w3 (w.heap.size + 1) 34 (.int .u16 0):=by
  rw [← hw3]
  have:=(Boxed.new (w.alloc (.cells #[.slice none 0 0] 45)) 34 (.int .u16 0)).alloc (.cells #[.int .i64 0] 3)
  rwa [World.size_alloc] at this
 have r2 : Boxed w3 (w.heap.size + 1 + 1) 3 (.int .i64 0):=by
  rw [← hw3]
  have:=Boxed.new ((w.alloc (.cells #[.slice none 0 0] 45)).alloc (.cells #[.int .u16 0] 34)) 3 (.int .i64 0)
  rwa [World.size_alloc,World.size_alloc] at this
 rw [hw3] at hb1
 have hs1:=hb1.size
 have b0:=((Boxed.new w1 45 (.slice none 0 0)).alloc (.cells #[.int .i64 0] 3)).alloc (.cells #[.string s] 9)
 have b1:=(Boxed.new (w1.alloc (.cells #[.slice none 0 0] 45)) 3 (.int .i64 0)).alloc (.cells #[.string s] 9)
 have b2:=Blk.new ((w1.alloc (.cells #[.slice none 0 0] 45)).alloc (.cells #[.int .i64 0] 3)) 9 #[.string s]
 simp only [World.size_alloc] at b1 b2
 have hB0 : Below w1.heap.size w1 (((w1.alloc (.cells #[.slice none 0 0] 45)).alloc (.cells #[.int .i64 0] 3)).alloc (.cells #[.string s] 9)) :=
  (((Below.refl _ w1).alloc (Nat.le_refl _) _).alloc (by simp) _).alloc (by simp;omega) _
 have hsz : (((w1.alloc (.cells #[.slice none 0 0] 45)).alloc (.cells #[.int .i64 0] 3)).alloc (.cells #[.string s] 9)).heap.size = w1.heap.size + 3:=by simp
 obtain ⟨W0,hW0⟩ : ∃ W0,((w1.alloc (.cells #[.slice none 0 0] 45)).alloc (.cells #[.int .i64 0] 3)).alloc (.cells #[.string s] 9) = W0:=⟨_,rfl⟩
 rw [hW0] at b0 b1 b2 hB0 hsz ⊢
 have hB30 : Below w3.heap.size w3 W0:=hb1.trans (hB0.mono hs1)
 have q0 : Boxed W0 w.heap.size 45 (.slice none 0 0):=(hB30.block _ r0.lt).trans r0
 have q1 : Boxed W0 (w.heap.size + 1) 34 (.int .u16 0):=(hB30.block _ r1.lt).trans r1
 have q2 : Boxed W0 (w.heap.size + 1 + 1) 3 (.int .i64 0):=(hB30.block _ r2.lt).trans r2
 have hBW0 : Below w.heap.size w W0:=hBw.trans (hB30.mono (by omega))
 have hOP0:=HOP.out.own hBW0
 have hOPn : 0 < w.heap.size:=HOP.out.1
 clear hW0 r0 r1 r2 hB30 hB0 hBw HB1 hb1 hw3
 have htot:=toks_told Lx.start s.data.toList
 rw [lst_len] at htot
 refine wpIn_rangeFunc_X (F:=Fence.wide) rfl h1 (gf:=95) (lb:=#[.pointer (some ⟨w1.heap.size + 1 + 1,0,none⟩)]) rfl trivial (enters_of Tryz.func95 (by kernel_rfl) rfl)
  (tokens_seq (n - 1) (by omega) (w1.heap.size + 1 + 1) w.heap.size (TkB w.heap.size w1.heap.size) s hs W0 (fun k hk e=>by unfold TkB at e;omega) (by omega) b2 hOP0 hOPn) KX.trans (fun W l o o' hl h hc hw=>KX.put (B:=W0.heap.size) (by omega) W l o o' hl h hc hw) (Below.refl _ _) (fun _=>rfl)
  (TkI w w.heap.size w1.heap.size) (TkX w w.heap.size)
  (TkI_own w _ _ _ (by omega)) (fun c=>TkX_own w _ c _ (by omega)) (TkI_abX w _ _ _ (by omega) (by omega) (by omega)) (fun c=>TkX_abX w _ _ c (by omega) (by omega))
  ⟨⟨⟨⟨⟨⟨⟨_,b0,World.ownsRow_nil _ _ _ _,trivial⟩,b1⟩,q0⟩,q1⟩,q2⟩,by simp⟩,hBW0,by omega⟩
  (TkA s w.heap.size w1.heap.size chk) (fun x a'=>TkA_own s _ _ chk x a' _)
  ?assign ?body ?done ?stop
 case assign =>
  rintro l pre x rest W K hys hI hK
  gi_wp2
  obtain ⟨⟨⟨⟨⟨⟨⟨v,hv,hr,_⟩,c1⟩,c2⟩,c3⟩,c4⟩,hp⟩,hB,hsz3⟩:=hI
  have hWs:=c1.lt
  refine hK _ _ ((KeepsOthers.alloc _ _).from _) (KX.alloc _ _ _ _ (by have:=hB.size;omega)) ⟨⟨⟨⟨⟨⟨⟨v,hv.alloc _,hr.alloc _,trivial⟩,c1.alloc _⟩,c2.alloc _⟩,c3.alloc _⟩,c4.alloc _⟩,hp⟩,hB.alloc hB.size _,by simp;omega⟩ ⟨W.heap.size,hWs,Blk.new W 49 _,⟨v,hv.alloc _,fun e=>by have:=(hr.lt _ e).2;omega⟩,rfl⟩
 case body =>
  rintro l pre x rest a' W hys hl ⟨r,hr⟩ hI ⟨Bx,hBx,bX,⟨vo,hvo,hvn⟩,rfl⟩
  clear hr r
  obtain ⟨⟨⟨⟨⟨⟨hO,c1⟩,c2⟩,c3⟩,c4⟩,hp⟩,hB,hsz3⟩:=id hI
  by_cases hx : x.2 = 0
  ·obtain ⟨v,hv,hrow,_⟩:=hO
   obtain rfl : v = vo:=by have:=hv.cell.symm.trans hvo.cell;simpa using this
   have hmx : Tryz.prog.follows .mixedOrders = true:=by kernel_rfl
   have hdep : 1 ≤ n - 1 - 1:=by omega
   have hfc : Fence.wide.fn 53:=trivial
   have t2 : (x.2 != 0) = false:=by rw [hx];rfl
   obtain ⟨i0,hi,hz0,hz1,hz2⟩:=info_parts infoTok
   have hsum : Lx.size (toks pre) + x.1.2.length ≤ 65536:=by
    have:=congrArg (fun l=>Lx.size (toks l)) hys
    simp only [toks_app,size_app] at this
    have e : Lx.size (toks (x :: rest)) = x.1.2.length + Lx.size (toks rest):=by simp [toks,Lx.size]
    rw [e] at this
    omega
   have hprel : pre.length ≤ 65537:=by
    have:=congrArg List.length hys
    have h2:=Lx.told_length Lx.start s.data.toList
    rw [lst_len] at h2
    rw [List.length_append] at this
    omega
   obtain ⟨z0,hz0'⟩ : ∃ z0,Lx.size (toks pre) = z0:=⟨_,rfl⟩
   rw [hz0'] at c1 hsum
   obtain ⟨tb,htb⟩ : ∃ tb : ByteArray,(⟨x.1.2.toArray⟩ : ByteArray) = tb:=⟨_,rfl⟩
   have htbs : tb.size = x.1.2.length:=by rw [← htb];exact mk_size _
   rw [htb] at bX
   obtain ⟨xs,hxs⟩ : ∃ xs,tokCells (toks pre) = xs:=⟨_,rfl⟩
   rw [hxs] at hrow
   obtain ⟨Wd,hWd,hkd,hbd,hkx⟩ : ∃ Wd,W.drew = Wd ∧ KeepsOthers W Wd ∧ Below w.heap.size w Wd ∧ KX w.heap.size (TkB w.heap.size w1.heap.size) 49 W Wd:=⟨_,rfl,KeepsOthers.drew W,hB.drew,⟨(Below.refl _ W).drew,fun _ _ _ _ _ _ h=>h⟩⟩
   have gO : Boxed Wd w1.heap.size 45 v:=by rw [← hWd];exact hv
   have gA : Boxed Wd (w1.heap.size + 1) 3 (.int .i64 (z0 : Int)):=by rw [← hWd];exact c1
   have g2 : Boxed Wd w.heap.size 45 (.slice none 0 0):=by rw [← hWd];exact c2
   have g3 : Boxed Wd (w.heap.size + 1) 34 (.int .u16 0):=by rw [← hWd];exact c3
   have g4 : Boxed Wd (w.heap.size + 1 + 1) 3 (.int .i64 0):=by rw [← hWd];exact c4
   have gX : Blk Wd Bx 49 #[.int .i64 x.1.1,.string tb]:=by rw [← hWd];exact bX
   have gR : Wd.ownsRow (w1.heap.size + 3) 49 2 v pre.length xs:=by rw [← hWd];exact hrow.drew
   have cO : Wd.cell? ⟨w1.heap.size,0,none⟩ = some v:=gO.cell
   have cK : Wd.cell? ⟨Bx,0,none⟩ = some (.int .i64 x.1.1):=gX.cell 0
   have cT : Wd.cell? ⟨Bx,1,none⟩ = some (.string tb):=gX.cell 1
   have lO:=gO.lt
   have lX:=gX.lt
   have lA:=gA.lt
   have hlw : w1.heap.size + 3 ≤ Wd.heap.size:=by rw [← hWd];exact hsz3
   have HVN:=hid hvn
   have hbx : tb.size ≤ 140737488351232:=by omega
   have HX:=hid hx;have HXS:=hid hxs;have HTB:=hid htb;have HZ:=hid hz0';have HSU:=hid hsum;have HTS:=hid htbs;have HI:=hid hI;have HP:=hid hp
   have HKD:=hid hkd;have HBD:=hid hbd;have HKX:=hid hkx
   clear hx hxs htb hz0' hsum htbs hI hp hkd hbd hkx hv c1 c2 c3 c4 bX hrow hys htot hB hvo hvn hsz3
   unfold tkAct
   rw [HTB.out]
   gi_wp2
   refine wpIn_region_any hmx ?_
   change wpAnyIn _ _ _ _ _ _ _ _ _ W.drew
   rw [hWd]
   clear hWd
   refine rinv.wpAnyIn_inv (ApV s w.heap.size w1.heap.size (w1.heap.size + 3) chk x Bx v pre.length xs Wd) ?stepA ?finA _ _ _ _ (by decide) ?startA
   case startA =>
    refine ⟨rfl,_,_,_,_,_,_,_,_,_,by unfold tkAct;rw [HTB.out],?_⟩
    rw [HTB.out]
    constructor <;> first | exact fun h=>absurd h (by decide) | exact fun _=>Below.refl _ _
   case finA =>
    rintro listed a u ⟨hsl,v26,v27,v28,v29,v30,v31,v32,v33,v34,rfl,h⟩ hre
    rw [HTB.out] at h
    have hno : ∀ i,i ∉ Region.ready _ _ listed:=fun i hi=>by rw [hre] at hi;cases hi
    have mk : ∀ i,i < 10 → _ → rinv.done listed i = true:=fun i hi ha=>by
     cases hq : rinv.done listed i with
     | true=>rfl
     | false=>exact absurd (rinv.ready_of hi hsl hq ha) (hno i)
    have k0:=mk 0 (by omega) (by simp)
    have k1:=mk 1 (by omega) (by simp)
    have k3:=mk 3 (by omega) (by simp)
    have k2:=mk 2 (by omega) (by simp [k1])
    have k4:=mk 4 (by omega) (by simp [k3])
    have k5:=mk 5 (by omega) (by simp [k4])
    have k6:=mk 6 (by omega) (by simp [k2,k5])
    have k7:=mk 7 (by omega) (by simp [k6])
    have k8:=mk 8 (by omega) (by simp [k0,k7,k5])
    have k9:=mk 9 (by omega) (by simp [k0,k1,k2,k3,k4,k5,k6,k7,k8])
    obtain ⟨z,wq,v',hz,hown',hgrow,rfl⟩:=h.w10 k9
    obtain ⟨g',cap',rfl⟩:=ownsRow_succ hown'
    obtain ⟨hbx',hko,hbe,hblk⟩:=appended hz gR hgrow hlw
    have eO:=hbx' _ _ _ gO (by omega)
    have eA:=hbx' _ _ _ gA (by omega)
    have e2:=hbx' _ _ _ g2 (by omega)
    have e3:=hbx' _ _ _ g3 (by omega)
    have e4:=hbx' _ _ _ g4 (by omega)
    have eX : Blk wq Bx 49 #[.int .i64 x.1.1,.string tb]:=((gX.own hz).alloc _).kept hgrow (fun e=>HVN.out e.symm)
    have cA:=eA.cell
    have fA:=eA.frozen
    have cX : wq.cell? ⟨Bx,1,none⟩ = some (.string tb):=eX.cell 1
    obtain ⟨m,hm⟩ : ∃ m,m = z0 + tb.size:=⟨_,rfl⟩
    have hm2 : m = z0 + x.1.2.length:=by rw [hm,HTS.out]
    have HW:=hid (sum64 hm (by have:=HSU.out;omega))
    have hres : TkI w w.heap.size w1.heap.size (pre ++ [x]) ((wq.setCell ⟨w1.heap.size,0,none⟩ (.slice (some ⟨g',0,none⟩) (pre.length + 1) cap')).setCell ⟨w1.heap.size + 1,0,none⟩ (.int .i64 (m : Int))):=by
     refine ⟨⟨⟨⟨⟨⟨⟨_,(eO.set _).other (by omega) _,?_,trivial⟩,?_⟩,(e2.other (by omega) _).other (by omega) _⟩,(e3.other (by omega) _).other (by omega) _⟩,(e4.other (by omega) _).other (by omega) _⟩,?_⟩,?_,?_⟩
     ·rw [toks_app,List.length_append,show toks [x] = [x.1] from rfl,tokCells_snoc,HXS.out,HTB.out]
      exact own_far (own_far hown' (by omega)) (by omega)
     ·rw [toks_app,size_app,HZ.out,show Lx.size (toks [x]) = x.1.2.length by simp [toks,Lx.size],← hm2]
      exact (eA.other (by omega) _).set _
     ·intro y hy
      rcases List.mem_append.1 hy with hy | hy
      ·exact HP.out y hy
      ·simp at hy;subst hy;exact HX.out
     ·exact ((HBD.out.trans (hbe.mono (by omega))).setCell (p:=⟨w1.heap.size,0,none⟩) (by simp;omega) _).setCell (p:=⟨w1.heap.size + 1,0,none⟩) (by simp;omega) _
     ·have:=hbe.size;simp;omega
    have hkf : KeepsOthers W ((wq.setCell ⟨w1.heap.size,0,none⟩ (.slice (some ⟨g',0,none⟩) (pre.length + 1) cap')).setCell ⟨w1.heap.size + 1,0,none⟩ (.int .i64 (m : Int))):=((HKD.out.trans hko).trans (KeepsOthers.setCell _ _ _)).trans (KeepsOthers.setCell _ _ _)
    have hkk : KX w.heap.size (TkB w.heap.size w1.heap.size) 49 W ((wq.setCell ⟨w1.heap.size,0,none⟩ (.slice (some ⟨g',0,none⟩) (pre.length + 1) cap')).setCell ⟨w1.heap.size + 1,0,none⟩ (.int .i64 (m : Int))) :=
     ((HKX.out.trans ⟨hbe.mono (by omega),fun b vs t _ _ ht hb=>hblk b t vs ht hb⟩).trans (KX_set (.inr (.inr (.inr (.inl rfl)))) (by omega) _)).trans (KX_set (.inr (.inr (.inr (.inr rfl)))) (by omega) _)
    have HR:=hid hres;have HF:=hid hkf;have HK:=hid hkk
    clear mk hno k0 k1 k2 k3 k4 k5 k6 k7 k8 k9 hre h hres hkf hkk hm hm2 hbx' hko hbe hblk eO eA e2 e3 e4 eX hgrow hown'
    obtain ⟨hw1,hw2⟩:=HW.out
    unfold tkAct
    rw [HTB.out]
    gi_wp2
    exact ⟨HF.out.from _,HK.out,HR.out⟩
   case stepA =>
    rintro listed a u i ⟨hsl,v26,v27,v28,v29,v30,v31,v32,v33,v34,rfl,h⟩ hi
    rw [HTB.out] at h
    obtain ⟨hlt5,hnot,haft⟩:=rinv.ready_mem hi
    have hd : rinv.done (listed.setIfInBounds i true) = fun k=>(k == i) || rinv.done listed k:=funext (rinv.done_set hnot)
    have hni:=rinv.done_not hnot
    have hsl' : (listed.setIfInBounds i true).size = 10:=by rw [Array.size_setIfInBounds];exact hsl
    have HD:=hid hd;have HS:=hid hsl';have HN:=hid hni;have HA:=hid haft
    have HH:=hid h
    clear hd hsl' hsl hnot hi hni haft h
    unfold ApV
    rw [HTB.out]
    match i,hlt5 with
    | 0,_ =>
     refine rinv.wpOpIn_of_list rfl ?_
     have h8:=not_of (fun e=>(HH.out.q8 e).1) HN.out
     have hc : u.cell? ⟨w1.heap.size,0,none⟩ = some v:=((HH.out.early h8).cell (p:=⟨w1.heap.size,0,none⟩) lO).trans cO
     clear h8 cO cK cT
     gi_wp2
     refine ⟨HS.out,_,_,_,_,_,_,_,_,_,rfl,?_⟩
     rw [HD.out]
     exact { HH.out with
      p0:=fun _=>rfl,q8:=fun e=>⟨rfl,(HH.out.q8 e).2⟩ }
    | 1,_ =>
     refine rinv.wpOpIn_of_list rfl ?_
     clear cO cK cT
     gi_wp2
     refine ⟨HS.out,_,_,_,_,_,_,_,_,_,rfl,?_⟩
     rw [HD.out]
     exact { HH.out with
      p1:=fun _=>rfl,q2:=fun _=>rfl }
    | 2,_ =>
     refine rinv.wpOpIn_of_list rfl ?_
     have h2 : rinv.done listed 1 = true:=by simpa [Region.binds] using HA.out
     have e27:=HH.out.p1 h2
     subst e27
     have h8:=not_of (fun e=>(HH.out.q6 (HH.out.q7 (HH.out.q8 e).2)).1) HN.out
     have hc : u.cell? ⟨Bx,0,none⟩ = some (.int .i64 x.1.1):=((HH.out.early h8).cell (p:=⟨Bx,0,none⟩) lX).trans cK
     have H2:=hid h2
     clear h8 cO cK cT h2
     gi_wp2
     refine ⟨HS.out,_,_,_,_,_,_,_,_,_,rfl,?_⟩
     rw [HD.out]
     exact { HH.out with
      p2:=fun _=>rfl,q2:=fun _=>H2.out,q6:=fun e=>⟨rfl,(HH.out.q6 e).2⟩ }
    | 3,_ =>
     refine rinv.wpOpIn_of_list rfl ?_
     clear cO cK cT
     gi_wp2
     refine ⟨HS.out,_,_,_,_,_,_,_,_,_,rfl,?_⟩
     rw [HD.out]
     exact { HH.out with
      p3:=fun _=>rfl,q4:=fun _=>rfl }
    | 4,_ =>
     refine rinv.wpOpIn_of_list rfl ?_
     have h2 : rinv.done listed 3 = true:=by simpa [Region.binds] using HA.out
     have e29:=HH.out.p3 h2
     subst e29
     have h8:=not_of (fun e=>HH.out.q5 (HH.out.q6 (HH.out.q7 (HH.out.q8 e).2)).2) HN.out
     have hc : u.cell? ⟨Bx,1,none⟩ = some (.string tb):=((HH.out.early h8).cell (p:=⟨Bx,1,none⟩) lX).trans cT
     have H2:=hid h2
     clear h8 cO cK cT h2
     gi_wp2
     refine ⟨HS.out,_,_,_,_,_,_,_,_,_,rfl,?_⟩
     rw [HD.out]
     exact { HH.out with
      p4:=fun _=>rfl,q4:=fun _=>H2.out,q5:=fun _=>rfl }
    | 5,_ =>
     refine rinv.wpOpIn_of_list rfl ?_
     have h2 : rinv.done listed 4 = true:=by simpa [Region.binds] using HA.out
     have e30:=HH.out.p4 h2
     subst e30
     have h7:=not_of (fun e=>(HH.out.q6 (HH.out.q7 e)).2) HN.out
     have h8:=not_of (fun e=>(HH.out.q8 e).2) h7
     have h9:=not_of HH.out.q9 h8
     have hu:=HH.out.w7 h7
     have H2:=hid h2;have H7:=hid h7;have H8:=hid h8;have H9:=hid h9
     clear cO cK cT h2 h7 h8 h9
     gi_wp2_with (gi_at_call 53;refine (CallsIn.inRound l (callsIn_wide.2 (clone_calls _ hbx _))).mono ?_;rintro e w' ⟨rfl,hb⟩)
     refine ⟨HS.out,_,_,_,_,_,_,_,_,_,rfl,?_⟩
     rw [HD.out]
     exact { HH.out with
      p5:=fun _=>rfl,q5:=fun _=>H2.out,q6:=fun e=>⟨(HH.out.q6 e).1,rfl⟩
      w7:=fun _=>hu.trans (hb.mono hu.size)
      w8:=fun e _=>absurd (show rinv.done listed 7 = true from e) (by rw [H7.out];simp)
      w9:=fun e _=>absurd (show rinv.done listed 8 = true from e) (by rw [H8.out];simp)
      w10:=fun e=>absurd (show rinv.done listed 9 = true from e) (by rw [H9.out];simp) }
    | 6,_ =>
     refine rinv.wpOpIn_of_list rfl ?_
     have h2 : rinv.done listed 2 = true ∧ rinv.done listed 5 = true:=by simpa [Region.binds] using HA.out
     have e28:=HH.out.p2 h2.1
     have e31:=HH.out.p5 h2.2
     subst e28 e31
     have H2:=hid h2
     clear cO cK cT h2
     gi_wp2
     refine ⟨HS.out,_,_,_,_,_,_,_,_,_,rfl,?_⟩
     rw [HD.out]
     exact { HH.out with
      p6:=fun _=>rfl,q6:=fun _=>H2.out,q7:=fun _=>rfl }
    | 7,_ =>
     refine rinv.wpOpIn_of_list rfl ?_
     have h2 : rinv.done listed 6 = true:=by simpa [Region.binds] using HA.out
     have e32:=HH.out.p6 h2
     subst e32
     have h8:=not_of (fun e=>(HH.out.q8 e).2) HN.out
     have h9:=not_of HH.out.q9 h8
     have hu:=HH.out.w7 HN.out
     have H2:=hid h2;have H8:=hid h8;have H9:=hid h9
     clear cO cK cT h2 h8 h9
     gi_wp2
     refine ⟨HS.out,_,_,_,_,_,_,_,_,_,rfl,?_⟩
     rw [HD.out]
     exact { HH.out with
      q7:=fun _=>H2.out,q8:=fun e=>⟨(HH.out.q8 e).1,rfl⟩
      w7:=fun e=>by cases e
      w8:=fun _ _=>⟨u,hu,rfl,rfl⟩
      w9:=fun e _=>absurd (show rinv.done listed 8 = true from e) (by rw [H8.out];simp)
      w10:=fun e=>absurd (show rinv.done listed 9 = true from e) (by rw [H9.out];simp) }
    | 8,_ =>
     refine rinv.wpOpIn_of_list rfl ?_
     have h2 : rinv.done listed 0 = true ∧ rinv.done listed 7 = true:=by
      have:=HA.out
      simp [Region.binds] at this
      exact ⟨this.1,this.2.1⟩
     have e26:=HH.out.p0 h2.1
     subst e26
     obtain ⟨z,hz,rfl,e33⟩:=HH.out.w8 h2.2 HN.out
     subst e33
     have H2:=hid h2
     have h9:=not_of HH.out.q9 HN.out
     have H9:=hid h9
     have hrz:=ownsRow_below gR hz
     have hzs:=hz.size
     clear cO cK cT h2 h9
     refine wpListIn_append_own _ rfl _ _ 45 rfl (w1.heap.size + 3) 49 i0 (.agg #[.int .i64 0,.string ⟨#[]⟩]) 2 24 Tryz.underlying45 hi hz0 hz1 hz2 rfl (by decide) _ _ _ rfl (hrz.alloc _) ⟨z.heap.size,0,none⟩ 1 1 [.int .i64 x.1.1,.string tb] rfl rfl (cell_two_new _ _ _ _) (by intro u hu;simp at hu;rcases hu with rfl | rfl <;> rfl) (by unfold maxLen;omega) (by omega) (by simp;omega) ?_
     intro v' wq hown' hgrow _
     gi_wp2
     refine ⟨HS.out,_,_,_,_,_,_,_,_,_,rfl,?_⟩
     rw [HD.out]
     exact { HH.out with
      q8:=fun _=>⟨H2.out.1,H2.out.2⟩,q9:=fun _=>rfl
      w7:=fun e=>absurd (show rinv.done listed 7 = false from e) (by rw [H2.out.2];simp)
      w8:=fun _ e=>by cases e
      w9:=fun _ _=>⟨z,hz,hown',hgrow⟩
      w10:=fun e=>absurd (show rinv.done listed 9 = true from e) (by rw [H9.out];simp) }
    | 9,_ =>
     refine rinv.wpOpIn_of_list rfl ?_
     have h2 : rinv.done listed 8 = true ∧ rinv.done listed 7 = true:=by
      have:=HA.out
      simp [Region.binds] at this
      exact ⟨this.1,(HH.out.q8 this.1).2⟩
     obtain ⟨z,hz,hown',hgrow⟩:=HH.out.w9 h2.1 HN.out
     obtain ⟨g',cap',rfl⟩:=ownsRow_succ hown'
     have H2:=hid h2
     have hap:=(appended hz gR hgrow hlw).1 _ _ _ gO (by omega)
     have hc1:=hap.cell
     have hf1:=hap.frozen
     clear cO cK cT h2
     gi_wp2
     refine ⟨HS.out,_,_,_,_,_,_,_,_,_,rfl,?_⟩
     rw [HD.out]
     exact { HH.out with
      q9:=fun _=>H2.out.1
      w7:=fun e=>absurd (show rinv.done listed 7 = false from e) (by rw [H2.out.2];simp)
      w8:=fun _ e=>absurd (show rinv.done listed 8 = false from e) (by rw [H2.out.1];simp)
      w9:=fun _ e=>by cases e
      w10:=fun _=>⟨z,u,_,hz,hown',hgrow,rfl⟩ }
    | (j + 10),h=>exact absurd h (by simp)
  ·have t2 : (x.2 != 0) = true:=by rw [bne_iff_ne];exact hx
   have hmx : Tryz.prog.follows .mixedOrders = true:=by kernel_rfl
   have hlt : w.heap.size + 1 + 1 < w1.heap.size + 1:=by omega
   obtain ⟨z,hz⟩ : ∃ z,Lx.size (toks pre) = z:=⟨_,rfl⟩
   rw [hz] at c1
   have d1:=bx_drew c1
   have d2:=bx_drew c2
   have d3:=bx_drew c3
   have d4:=bx_drew c4
   have HZ:=hid hz;have HI:=hid hI;have HX:=hid hx;have HB:=hid hB
   clear hz hI hx c1 c2 c3 c4 hp hO hys htot
   gi_wp2
   refine wpIn_region_any hmx ?_
   change wpAnyIn _ _ _ _ _ _ _ _ _ W.drew
   obtain ⟨Wd,hWd,hkd,hbd⟩ : ∃ Wd,W.drew = Wd ∧ KeepsOthers W Wd ∧ Below w.heap.size w Wd:=⟨_,rfl,KeepsOthers.drew W,HB.out.drew⟩
   rw [hWd] at d1 d2 d3 d4 ⊢
   clear hWd
   refine rinv.wpAnyIn_inv (RgV s w.heap.size w1.heap.size chk x Bx z Wd) ?step ?fin _ _ _ _ (by decide) ?start
   case start =>
    refine ⟨rfl,_,_,rfl,?_⟩
    constructor <;> first | exact fun h=>absurd h (by decide) | exact fun _=>rfl
   case fin =>
    rintro listed a u ⟨hsl,v24,v25,rfl,h⟩ hre
    have hno : ∀ i,i ∉ Region.ready _ _ listed:=fun i hi=>by rw [hre] at hi;cases hi
    have mk : ∀ i,i < 5 → _ → rinv.done listed i = true:=fun i hi ha=>by
     cases hq : rinv.done listed i with
     | true=>rfl
     | false=>exact absurd (rinv.ready_of hi hsl hq ha) (hno i)
    have k0:=mk 0 (by omega) (by simp [Region.binds])
    have k1:=mk 1 (by omega) (by simp)
    have k2:=mk 2 (by omega) (by simp [k0,k1,Region.binds])
    have k3:=mk 3 (by omega) (by simp [k0,k1,k2,Region.binds])
    have k4:=mk 4 (by omega) (by simp [k0,k1,k2,k3,Region.binds])
    obtain rfl:=h.w4 k4
    obtain ⟨g0,g1,g2⟩:=left_boxes (O:=0) (v:=undef) (e:=x.2) (z:=z) d2 d3 d4
    have hres : TkX w w.heap.size .ret (pre ++ [x]) (((Wd.setCell ⟨w.heap.size,0,none⟩ (.slice none 0 0)).setCell ⟨w.heap.size + 1,0,none⟩ (.int .u16 x.2)).setCell ⟨w.heap.size + 1 + 1,0,none⟩ (.int .i64 (z : Int))) :=
     ⟨⟨rfl,pre,x,rfl,HX.out,g0,g1,by rw [HZ.out];exact g2⟩,((hbd.setCell (p:=⟨w.heap.size,0,none⟩) (Nat.le_refl _) _).setCell (p:=⟨w.heap.size + 1,0,none⟩) (by simp) _).setCell (p:=⟨w.heap.size + 1 + 1,0,none⟩) (by simp;omega) _⟩
    have hkf : KeepsOthers W (((Wd.setCell ⟨w.heap.size,0,none⟩ (.slice none 0 0)).setCell ⟨w.heap.size + 1,0,none⟩ (.int .u16 x.2)).setCell ⟨w.heap.size + 1 + 1,0,none⟩ (.int .i64 (z : Int))) :=
     ((hkd.trans (KeepsOthers.setCell _ _ _)).trans (KeepsOthers.setCell _ _ _)).trans (KeepsOthers.setCell _ _ _)
    clear mk hno k0 k1 k2 k3 k4 hre h
    gi_wp2
    exact ⟨hkf.from _,hres⟩
   case step =>
    rintro listed a u i ⟨hsl,v24,v25,rfl,h⟩ hi
    obtain ⟨hlt5,hnot,haft⟩:=rinv.ready_mem hi
    have hd : rinv.done (listed.setIfInBounds i true) = fun k=>(k == i) || rinv.done listed k:=funext (rinv.done_set hnot)
    have hni:=rinv.done_not hnot
    have hsl' : (listed.setIfInBounds i true).size = 5:=by rw [Array.size_setIfInBounds];exact hsl
    have HD:=hid hd;have HS:=hid hsl';have HN:=hid hni;have HA:=hid haft
    have HH:=hid h
    clear hd hsl' hsl hnot hi hni haft h
    match i,hlt5 with
    | 0,_ =>
     refine rinv.wpOpIn_of_list rfl ?_
     gi_wp2
     refine ⟨HS.out,_,_,rfl,?_⟩
     rw [HD.out]
     exact { HH.out with p0:=fun _=>rfl,q3:=fun e=>⟨rfl,(HH.out.q3 e).2⟩ }
    | 1,_ =>
     refine rinv.wpOpIn_of_list rfl ?_
     have h4:=not_of (fun e=>(HH.out.q4 e).1) HN.out
     have hc : u.cell? ⟨w1.heap.size + 1,0,none⟩ = some (.int .i64 (z : Int)):=by
      cases h3 : rinv.done listed 3 with
      | true=>rw [HH.out.w3 h3 h4];exact ((d1.other (by omega) _).other (by omega) _).cell
      | false =>
       cases h2 : rinv.done listed 2 with
       | true=>rw [HH.out.w2 h2 h3];exact (d1.other (by omega) _).cell
       | false=>rw [HH.out.w1 h2];exact d1.cell
     clear h4
     gi_wp2
     refine ⟨HS.out,_,_,rfl,?_⟩
     rw [HD.out]
     exact { HH.out with p1:=fun _=>rfl,q4:=fun e=>⟨rfl,(HH.out.q4 e).2⟩ }
    | 2,_ =>
     refine rinv.wpOpIn_of_list rfl ?_
     have h3:=not_of (fun e=>(HH.out.q3 e).2) HN.out
     have h4:=not_of (fun e=>(HH.out.q4 e).2) h3
     obtain rfl:=HH.out.w1 HN.out
     have hc:=d2.cell
     have hf:=d2.frozen
     have H3:=hid h3;have H4:=hid h4
     clear h3 h4
     gi_wp2
     refine ⟨HS.out,_,_,rfl,?_⟩
     rw [HD.out]
     exact { HH.out with
      q3:=fun e=>⟨(HH.out.q3 e).1,rfl⟩
      w1:=fun e=>by cases e
      w2:=fun _ _=>rfl
      w3:=fun e _=>absurd (show rinv.done listed 3 = true from e) (by rw [H3.out];simp)
      w4:=fun e=>absurd (show rinv.done listed 4 = true from e) (by rw [H4.out];simp) }
    | 3,_ =>
     refine rinv.wpOpIn_of_list rfl ?_
     have h2 : rinv.done listed 0 = true ∧ rinv.done listed 2 = true:=by
      have:=HA.out
      simp [Region.binds] at this
      exact ⟨this.1,this.2.1⟩
     have h4:=not_of (fun e=>(HH.out.q4 e).2) HN.out
     obtain rfl:=HH.out.w2 h2.2 HN.out
     have e24:=HH.out.p0 h2.1
     subst e24
     have hc:=d3.cell
     have hf:=d3.frozen
     have H2:=hid h2;have H4:=hid h4
     clear h2 h4
     gi_wp2
     refine ⟨HS.out,_,_,rfl,?_⟩
     rw [HD.out]
     exact { HH.out with
      q3:=fun _=>H2.out,q4:=fun e=>⟨(HH.out.q4 e).1,rfl⟩
      w1:=fun e=>absurd (show rinv.done listed 2 = false from e) (by rw [H2.out.2];simp)
      w2:=fun _ e=>by cases e
      w3:=fun _ _=>rfl
      w4:=fun e=>absurd (show rinv.done listed 4 = true from e) (by rw [H4.out];simp) }
    | 4,_ =>
     refine rinv.wpOpIn_of_list rfl ?_
     have h2 : rinv.done listed 1 = true ∧ rinv.done listed 3 = true:=by
      have:=HA.out
      simp [Region.binds] at this
      exact ⟨this.1,this.2.1⟩
     obtain rfl:=HH.out.w3 h2.2 HN.out
     have e25:=HH.out.p1 h2.1
     subst e25
     have hc:=d4.cell
     have hf:=d4.frozen
     have H2:=hid h2
     have H3:=hid (HH.out.q3 h2.2)
     clear h2
     gi_wp2
     refine ⟨HS.out,_,_,rfl,?_⟩
     rw [HD.out]
     exact { HH.out with
      q4:=fun _=>H2.out
      w1:=fun e=>absurd (show rinv.done listed 2 = false from e) (by rw [H3.out.2];simp)
      w2:=fun _ e=>absurd (show rinv.done listed 3 = false from e) (by rw [H2.out.2];simp)
      w3:=fun _ e=>by cases e
      w4:=fun _=>rfl }
    | (j + 5),h=>exact absurd h (by simp)
 case done =>
  rintro D W hD hI hK
  obtain ⟨⟨⟨⟨⟨⟨⟨v,hv,hr,_⟩,c1⟩,c2⟩,c3⟩,c4⟩,hp⟩,hB,hsz3⟩:=hI
  obtain ⟨e1,e2⟩:=told_done hp
  rw [told_len hp,e2] at hr
  have hch : utf.checkF s = chk:=HCK.out
  have HF:=hid (show tokensF s.data.toList (utf.checkF s) = ((Lx.lexA Lx.start s.data.toList).1,0,0) by unfold tokensF;rw [if_neg (by rw [lst_len];omega),if_neg (by omega),if_pos e1])
  have k0:=hv.cell
  have k2:=c2.cell
  have k3:=c3.cell
  have k4:=c4.cell
  have f2:=c2.frozen
  have f3:=c3.frozen
  have f4:=c4.frozen
  obtain ⟨L,hL⟩ : ∃ L,(Lx.lexA Lx.start s.data.toList).1 = L:=⟨_,rfl⟩
  rw [hL] at hr HF
  have HR:=hid hr
  obtain ⟨ao,ln,cp,rfl⟩:=own_slice hr
  clear hr e1 e2 hp hch hL htot
  gi_wp2
  have hk3 : KeepsOthers W (((W.setCell ⟨w.heap.size,0,none⟩ (.slice ao ln cp)).setCell ⟨w.heap.size + 1,0,none⟩ (.int .u16 0)).setCell ⟨w.heap.size + 1 + 1,0,none⟩ (.int .i64 0)):=((KeepsOthers.setCell _ _ _).trans (KeepsOthers.setCell _ _ _)).trans (KeepsOthers.setCell _ _ _)
  have hK':=hk3.same D _ hK rfl
  have d2:=(((c2.set (.slice ao ln cp)).other (by omega : w.heap.size ≠ w.heap.size + 1) (.int .u16 0)).other (by omega : w.heap.size ≠ w.heap.size + 1 + 1) (.int .i64 0)).cell
  have d3:=(((c3.other (by omega : w.heap.size + 1 ≠ w.heap.size) (.slice ao ln cp)).set (.int .u16 0)).other (by omega : w.heap.size + 1 ≠ w.heap.size + 1 + 1) (.int .i64 0)).cell
  have d4:=(((c4.other (by omega : w.heap.size + 1 + 1 ≠ w.heap.size) (.slice ao ln cp)).other (by omega : w.heap.size + 1 + 1 ≠ w.heap.size + 1) (.int .u16 0)).set (.int .i64 0)).cell
  have hB3:=((hB.setCell (p:=⟨w.heap.size,0,none⟩) (Nat.le_refl _) (.slice ao ln cp)).setCell (p:=⟨w.heap.size + 1,0,none⟩) (by simp) (.int .u16 0)).setCell (p:=⟨w.heap.size + 1 + 1,0,none⟩) (by simp;omega) (.int .i64 0)
  have ho3:=own_far (B:=w.heap.size + 1 + 1) (o:=0) (u:=.int .i64 0) (own_far (B:=w.heap.size + 1) (o:=0) (u:=.int .u16 0) (own_far (B:=w.heap.size) (o:=0) (u:=.slice ao ln cp) HR.out (by omega)) (by omega)) (by omega)
  refine ⟨by simp,.inl ⟨_,_,rfl,run_takeDeferred hK',?_⟩⟩
  have e2:=cell_kept d2 (grownBy_putObj' _ D (.deferred none)) (fun r e=>by cases e;exact ⟨_,hK',rfl⟩)
  have e3:=cell_kept d3 (grownBy_putObj' _ D (.deferred none)) (fun r e=>by cases e;exact ⟨_,hK',rfl⟩)
  have e4:=cell_kept d4 (grownBy_putObj' _ D (.deferred none)) (fun r e=>by cases e;exact ⟨_,hK',rfl⟩)
  refine ⟨.tuple #[.slice ao ln cp,.int .u16 0,.int .i64 0],?_,.slice ao ln cp,by rw [HF.out],by rw [HF.out];exact own_base (ownsRow_putObj ho3 _ hK' rfl) (by omega),hB3.trans (belowK_b (w:=w) (Nat.le_refl _) _ D _ _ (by omega) hK' rfl rfl)⟩
  simp [results,Tryz.f31,go_sem,e2,e3,e4]
 case stop =>
  rintro D c pre x rest W hys hD ⟨⟨rfl,ini,last,hpe,hne,c2,c3,c4⟩,hB⟩ hK
  obtain ⟨rfl,hlast⟩ : pre = ini ∧ x = last:=by
   have:=List.append_inj' hpe rfl
   exact ⟨this.1,by simpa using this.2⟩
  subst hlast
  obtain ⟨e1,e2⟩:=told_left hys hne
  have hch : utf.checkF s = chk:=HCK.out
  have HF:=hid (show tokensF s.data.toList (utf.checkF s) = ([],x.2,(Lx.size (toks pre) : Int)) by unfold tokensF;rw [if_neg (by rw [lst_len];omega),if_neg (by omega),if_neg (by rw [e1];exact hne),e1,e2])
  clear hys hpe e1 e2 hch htot
  gi_wp2
  refine ⟨by simp,.inl ⟨_,_,rfl,run_takeDeferred hK,?_⟩⟩
  have e2:=cell_kept c2.cell (grownBy_putObj' _ D (.deferred none)) (fun r e=>by cases e;exact ⟨_,hK,rfl⟩)
  have e3:=cell_kept c3.cell (grownBy_putObj' _ D (.deferred none)) (fun r e=>by cases e;exact ⟨_,hK,rfl⟩)
  have e4:=cell_kept c4.cell (grownBy_putObj' _ D (.deferred none)) (fun r e=>by cases e;exact ⟨_,hK,rfl⟩)
  refine ⟨.tuple #[.slice none 0 0,.int .u16 x.2,.int .i64 (Lx.size (toks pre) : Int)],?_,.slice none 0 0,by rw [HF.out],by rw [HF.out];exact World.ownsRow_nil _ _ _ _,hB.trans (belowK_b (w:=w) (Nat.le_refl _) _ D _ _ (by omega) hK rfl rfl)⟩
  simp [results,Tryz.f31,go_sem,e2,e3,e4]
end Go.Proofs.YtlklhkkjcfmefaaGreatDoor.lx
