/- Ground of the law: LxKnown. -/
import Derived.Test.YtlklhkkjcfmefaaGreatDoorQe22
set_option maxRecDepth 100000
set_option maxHeartbeats 8000000
set_option linter.unusedVariables false
set_option linter.unusedSimpArgs false
namespace Go.Proofs.YtlklhkkjcfmefaaGreatDoor.lx
open Go.Lib (hid)
open Go.RowKit Go.Shelf
open sg (lst_len extract_drop ext_size)
open sx
attribute [local go_sem] Oper.semAt_some
theorem tokens_long (n : Nat) (s : ByteArray) (hs : 65536 < s.size) (w : World) :
  CallsIn Fence.wide n Tryz.prog 31 #[.string s] w (TokensTo s w):=by
 have t0 : decide ((65536 : Int) < (s.size : Int)) = true:=decide_eq_true (by omega)
 have HF:=hid (show tokensF s.data.toList (utf.checkF s) = ([],3,0) by unfold tokensF;rw [if_pos (by rw [lst_len];omega)])
 refine callsIn_of_wp_marks Tryz.func31 rfl trivial ?_ rfl
 simp only [Tryz.ntmps31,List.size_toArray,List.length_cons,List.length_nil,Nat.reduceAdd,Nat.reduceSub,Array.replicate_succ,Array.replicate_zero,List.push_toArray,List.append_toArray,List.nil_append,List.cons_append]
 gi_wp2
 refine ⟨.tuple #[.slice none 0 0,.int .u16 3,.int .i64 0],?_,.slice none 0 0,by rw [HF.out],by rw [HF.out];exact World.ownsRow_nil _ _ _ _,?_⟩
 ·simp [results,Tryz.f31,go_sem]
 ·exact (((Below.refl _ w).alloc (Nat.le_refl _) _).alloc (by simp) _).alloc (by simp;omega) _
theorem boxed_below {W W' : World} {B : Nat} {t : TypeId} {v : Value} (h : Boxed W B t v) (hb : Below W.heap.size W W') : Boxed W' B t v:=(hb.block B h.lt).trans h
theorem tokens_utf (n : Nat) (hn : 1 ≤ n) (s : ByteArray) (hs : s.size ≤ 65536) (hck : 0 ≤ utf.checkF s) (w : World) :
  CallsIn Fence.wide n Tryz.prog 31 #[.string s] w (TokensTo s w):=by
 have hf2 : Fence.wide.fn 51:=trivial
 have HF:=hid (show tokensF s.data.toList (utf.checkF s) = ([],10,utf.checkF s) by unfold tokensF;rw [if_neg (by rw [lst_len];omega),if_pos hck])
 obtain ⟨chk,hchk⟩ : ∃ chk,utf.checkF s = chk:=⟨_,rfl⟩
 have hcc:=fun w=>utf.check_calls s (by omega) w
 simp only [hchk] at hcc
 rw [hchk] at hck
 have t0 : decide ((65536 : Int) < (s.size : Int)) = false:=decide_eq_false (by omega)
 have t1 : decide ((0 : Int) ≤ chk) = true:=decide_eq_true hck
 have HC:=hid hchk
 clear hchk
 refine callsIn_of_wp_marks Tryz.func31 rfl trivial ?_ rfl
 simp only [Tryz.ntmps31,List.size_toArray,List.length_cons,List.length_nil,Nat.reduceAdd,Nat.reduceSub,Array.replicate_succ,Array.replicate_zero,List.push_toArray,List.append_toArray,List.nil_append,List.cons_append]
 have hBw : Below w.heap.size w (((w.alloc (.cells #[.slice none 0 0] 45)).alloc (.cells #[.int .u16 0] 34)).alloc (.cells #[.int .i64 0] 3)):=(((Below.refl _ w).alloc (Nat.le_refl _) _).alloc (by simp) _).alloc (by simp;omega) _
 have r0 : Boxed (((w.alloc (.cells #[.slice none 0 0] 45)).alloc (.cells #[.int .u16 0] 34)).alloc (.cells #[.int .i64 0] 3)) w.heap.size 45 (.slice none 0 0):=((Boxed.new w 45 (.slice none 0 0)).alloc _).alloc _
 have r1:=(Boxed.new (w.alloc (.cells #[.slice none 0 0] 45)) 34 (.int .u16 0)).alloc (.cells #[.int .i64 0] 3)
 have r2:=Boxed.new ((w.alloc (.cells #[.slice none 0 0] 45)).alloc (.cells #[.int .u16 0] 34)) 3 (.int .i64 0)
 simp only [World.size_alloc] at r1 r2
 have HB:=hid hBw;have R0:=hid r0;have R1:=hid r1;have R2:=hid r2
 clear hBw r0 r1 r2
 gi_wp2_with (gi_at_call 51;refine (callsIn_wide.2 (hcc _)).mono ?_;rintro e w1 ⟨rfl,hb1⟩;have z0:=boxed_below R0.out hb1;have z1:=boxed_below R1.out hb1;have z2:=boxed_below R2.out hb1;have c0:=z0.cell;have c1:=z1.cell;have c2:=z2.cell;have f0:=z0.frozen;have f1:=z1.frozen;have f2:=z2.frozen;clear z0 z1 z2)
 refine ⟨.tuple #[.slice none 0 0,.int .u16 10,.int .i64 chk],?_,.slice none 0 0,by rw [HF.out,HC.out],by rw [HF.out];exact World.ownsRow_nil _ _ _ _,?_⟩
 ·simp [results,Tryz.f31,go_sem,c0,c1,c2]
 ·exact (((HB.out.trans (hb1.mono (by simp;omega))).setCell (p:=⟨w.heap.size,0,none⟩) (Nat.le_refl _) _).setCell (p:=⟨w.heap.size + 1,0,none⟩) (by simp) _).setCell (p:=⟨w.heap.size + 1 + 1,0,none⟩) (by simp;omega) _
theorem tokens_calls (s : ByteArray) (w : World) (hops : sg.OpsAt w) : Calls Tryz.prog 31 #[.string s] w (TokensTo s w):=by
 by_cases h1 : 65536 < s.size
 ·exact callsIn_wide.1 (tokens_long 3 s h1 w)
 ·by_cases h2 : 0 ≤ utf.checkF s
  ·exact callsIn_wide.1 (tokens_utf 3 (by omega) s (by omega) h2 w)
  ·exact callsIn_wide.1 (tokens_lex 3 (Nat.le_refl _) s (by omega) (by omega) w hops)
def ToksAt (W : World) (n : Nat) (v : Value) (l : List Lx.Tok) : Prop :=
 ∃ ao cap,v = .slice ao l.length cap ∧ ∀ (j : Nat) t,l[j]? = some t → ∃ g,ao = some ⟨g,0,none⟩ ∧ g < n ∧ W.cell? ⟨g,j * 2,none⟩ = some (.int .i64 t.1) ∧ W.cell? ⟨g,j * 2 + 1,none⟩ = some (.string ⟨t.2.toArray⟩)
theorem tokCells_at (l : List Lx.Tok) (j : Nat) (t : Lx.Tok) (h : l[j]? = some t) : (tokCells l)[j * 2]? = some (.int .i64 t.1) ∧ (tokCells l)[j * 2 + 1]? = some (.string ⟨t.2.toArray⟩):=by
 induction l generalizing j with
 | nil=>simp at h
 | cons a r ih =>
  cases j with
  | zero=>simp at h;subst h;simp [tokCells]
  | succ j =>
   have:=ih j (by simpa using h)
   have e : tokCells (a :: r) = .int .i64 a.1 :: .string ⟨a.2.toArray⟩ :: tokCells r:=by simp [tokCells]
   rw [e,show (j + 1) * 2 = j * 2 + 2 by omega]
   simpa using this
theorem ownsRow_toks {W : World} {base : Nat} {v : Value} {l : List Lx.Tok} (h : W.ownsRow base 49 2 v l.length (tokCells l)) : ToksAt W W.heap.size v l:=by
 rcases h.2 with ⟨rfl,h0⟩ | ⟨g,cap,cur,rfl,h2,h3,_⟩
 ·exact ⟨none,0,by rw [h0],fun j t ht=>by rw [List.length_eq_zero_iff.1 h0] at ht;simp at ht⟩
 ·refine ⟨some ⟨g,0,none⟩,cap,rfl,fun j t ht=>⟨g,rfl,(Array.getElem?_eq_some_iff.1 h3).1,?_⟩⟩
  have hj : j < l.length:=(List.getElem?_eq_some_iff.1 ht).1
  obtain ⟨c0,c1⟩:=tokCells_at l j t ht
  have hl:=h.1
  exact ⟨by rw [h.cellAt (j * 2) (by omega)];exact c0,by rw [h.cellAt (j * 2 + 1) (by omega)];exact c1⟩
end Go.Proofs.YtlklhkkjcfmefaaGreatDoor.lx
