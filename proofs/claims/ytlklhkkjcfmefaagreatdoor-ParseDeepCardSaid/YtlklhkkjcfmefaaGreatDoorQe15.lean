/- Ground of the law: LxTurn. -/
import Derived.Test.YtlklhkkjcfmefaaGreatDoorQe13
set_option maxRecDepth 100000
set_option maxHeartbeats 8000000
set_option linter.unusedVariables false
set_option linter.unusedSimpArgs false
namespace Go.Proofs.YtlklhkkjcfmefaaGreatDoor.lx
open Go.Lib (hid)
open Go.RowKit Go.Shelf
open sg (lst_len extract_drop ext_size)
open sx
theorem toList_eq (s : ByteArray) : s.toList = s.data.toList:=Lib.toList_data s
theorem bracket_calls (t : ByteArray) (w : World) : Calls Tryz.prog 184 #[.string t] w fun e w'=>e = .returned (.int .i64 (Lx.bracket t.data.toList)) ∧ w' = w:=by
 by_cases h1 : t.data.toList = [40]
 ·have HX:=hid (show Lx.bracket t.data.toList = 1 by unfold Lx.bracket;rw [if_pos h1])
  have e1 : (t.toList == [40]) = true:=by rw [toList_eq,h1];rfl
  clear h1
  go_enter Tryz.func184,Tryz.ntmps184
  go_wp2_with fail
  go_ret
  exact ⟨by rw [HX.out];rfl,rfl⟩
 ·have e1' : (t.toList == [40]) = false:=by rw [toList_eq];simpa using h1
  by_cases h2 : t.data.toList = [41]
  ·have HX:=hid (show Lx.bracket t.data.toList = -1 by unfold Lx.bracket;rw [if_neg h1,if_pos h2])
   have e2' : (t.toList == [41]) = true:=by rw [toList_eq,h2];rfl
   clear h1 h2
   go_enter Tryz.func184,Tryz.ntmps184
   go_wp2_with fail
   go_ret
   exact ⟨by rw [HX.out];rfl,rfl⟩
  ·have HX:=hid (show Lx.bracket t.data.toList = 0 by unfold Lx.bracket;rw [if_neg h1,if_neg h2])
   have e2' : (t.toList == [41]) = false:=by rw [toList_eq];simpa using h2
   clear h1 h2
   go_enter Tryz.func184,Tryz.ntmps184
   go_wp2_with fail
   go_ret
   exact ⟨by rw [HX.out];rfl,rfl⟩
def stCells (l : List Lx.St) : List Value:=l.flatMap fun s=>[.bool s.text,.int .i64 s.br]
theorem stCells_snoc (l : List Lx.St) (s : Lx.St) : stCells (l ++ [s]) = stCells l ++ [.bool s.text,.int .i64 s.br]:=by simp [stCells]
def LexV (W : World) (Lb base : Nat) (rest : ByteArray) (x : Lx.Lex) (vO vC vI bv : Value) : Prop :=
 Blk W Lb 120 (lexCells rest x.top bv vO vC vI) ∧ W.ownsRow base 114 2 bv x.below.length (stCells x.below)
theorem LexV.own {W W' : World} {Lb base : Nat} {rest : ByteArray} {x : Lx.Lex} {vO vC vI bv : Value} (h : LexV W Lb base rest x vO vC vI bv) (hb : Below W.heap.size W W') : LexV W' Lb base rest x vO vC vI bv:=by
 refine ⟨h.1.own hb,h.2.1,?_⟩
 rcases h.2.2 with hn | ⟨g,cap,cur,h1,h2,h3,h4⟩
 ·exact .inl hn
 ·exact .inr ⟨g,cap,cur,h1,h2,(hb.block g (Array.getElem?_eq_some_iff.1 h3).1).trans h3,h4⟩
def Turned (W : World) (Lb base : Nat) (rest : ByteArray) (y : Lx.Lex) (vO vC vI bv : Value) (w' : World) : Prop :=
 ∃ bv',LexV w' Lb base rest y vO vC vI bv' ∧ But W.heap.size (SL Lb bv) W w'
theorem LexV.slice {W : World} {Lb base : Nat} {rest : ByteArray} {x : Lx.Lex} {vO vC vI bv : Value} (h : LexV W Lb base rest x vO vC vI bv) : ∃ ao cap,bv = .slice ao x.below.length cap:=by
 rcases h.2.2 with ⟨rfl,h0⟩ | ⟨g,cap,cur,rfl,_⟩
 ·exact ⟨none,0,by rw [h0]⟩
 ·exact ⟨_,cap,rfl⟩
theorem LexV.slice_some {W : World} {Lb base : Nat} {rest : ByteArray} {x : Lx.Lex} {vO vC vI bv : Value} (h : LexV W Lb base rest x vO vC vI bv) (hn : x.below.length ≠ 0) : ∃ g cap,bv = .slice (some ⟨g,0,none⟩) x.below.length cap:=by
 rcases h.2.2 with ⟨rfl,h0⟩ | ⟨g,cap,cur,rfl,_⟩
 ·exact absurd h0 hn
 ·exact ⟨_,cap,rfl⟩
theorem boxed_tok (W : World) (k : Int) (t : ByteArray) : Below W.heap.size W (W.alloc (.cells #[.int .i64 k,.string t] 49)):=(Below.refl _ W).alloc (Nat.le_refl _) _
theorem turn_none (Lb : Nat) (k : Int) (t : ByteArray) (W : World) (h7 : k ≠ 7) (h11 : k ≠ 11) (h9 : k ≠ 9) (h10 : k ≠ 10) (h13 : k ≠ 13) :
  Calls Tryz.prog 147 #[ptr Lb,.agg #[.int .i64 k,.string t]] W fun e w'=>e = .returned (.int .u16 0) ∧ Below W.heap.size W w':=by
 have e7 : (k == 7) = false:=by rw [beq_eq_false_iff_ne];exact h7
 have e11 : (k == 11) = false:=by rw [beq_eq_false_iff_ne];exact h11
 have e9 : (k == 9) = false:=by rw [beq_eq_false_iff_ne];exact h9
 have e10 : (k == 10) = false:=by rw [beq_eq_false_iff_ne];exact h10
 have e13 : (k == 13) = false:=by rw [beq_eq_false_iff_ne];exact h13
 have hb:=boxed_tok W k t
 go_enter Tryz.func147,Tryz.ntmps147
 go_wp2_with fail
 go_ret
 exact ⟨rfl,hb⟩
theorem turn_text (Lb : Nat) (k : Int) (t : ByteArray) (W : World) (base : Nat) (rest : ByteArray) (x : Lx.Lex) (vO vC vI bv : Value) (h : LexV W Lb base rest x vO vC vI bv) (r : Bool) (hk : k = 7 ∧ r = true ∨ k = 11 ∧ r = false) :
  Calls Tryz.prog 147 #[ptr Lb,.agg #[.int .i64 k,.string t]] W fun e w'=>e = .returned (.int .u16 0) ∧ Turned W Lb base rest { x with top:={ x.top with text:=r } } vO vC vI bv w':=by
 have hb:=boxed_tok W k t
 have h2:=h.own hb
 have hlt:=h.1.lt
 have f1:=h.1.frozen 1
 have c1 : W.cell? ⟨Lb,1,none⟩ = some (.bool x.top.text):=h.1.cell 1
 have hne:=own_ne h.2 h.1 (by decide)
 have H2:=hid h;have HN:=hid hne
 clear h2 hb h hne
 rcases hk with ⟨rfl,rfl⟩ | ⟨rfl,rfl⟩
 ·go_enter Tryz.func147,Tryz.ntmps147
  go_wp2_with fail
  go_ret
  exact ⟨rfl,bv,⟨(H2.out.1.set (o:=1) _).alloc _,(own_set H2.out.2 HN.out).alloc _⟩,((But.refl W.heap.size (SL Lb bv) W).setCell (p:=⟨Lb,1,none⟩) (fun _=>.inl rfl) _).alloc (Nat.le_refl _) _⟩
 ·go_enter Tryz.func147,Tryz.ntmps147
  go_wp2_with fail
  go_ret
  exact ⟨rfl,bv,⟨(H2.out.1.set (o:=1) _).alloc _,(own_set H2.out.2 HN.out).alloc _⟩,((But.refl W.heap.size (SL Lb bv) W).setCell (p:=⟨Lb,1,none⟩) (fun _=>.inl rfl) _).alloc (Nat.le_refl _) _⟩
theorem turn_deep (Lb : Nat) (t : ByteArray) (W : World) (base : Nat) (rest : ByteArray) (x : Lx.Lex) (vO vC vI bv : Value) (h : LexV W Lb base rest x vO vC vI bv) (hd : 256 ≤ x.below.length) :
  Calls Tryz.prog 147 #[ptr Lb,.agg #[.int .i64 9,.string t]] W fun e w'=>e = .returned (.int .u16 21) ∧ Below W.heap.size W w':=by
 have hb:=boxed_tok W 9 t
 have h2:=h.own hb
 obtain ⟨ao,cap,rfl⟩:=h.slice
 have hdc:=depth_calls Lb _ _ _ _ (h2.1.cell 3)
 obtain ⟨d,hdd⟩ : ∃ d,x.below.length = d:=⟨_,rfl⟩
 rw [hdd] at hdc hd
 have t0 : decide ((256 : Int) ≤ (d : Int)) = true:=decide_eq_true (by omega)
 have HB:=hid hb
 clear h2 h hdd hb
 go_enter Tryz.func147,Tryz.ntmps147
 go_wp2_with fail
 ((with_reducible refine hdc.mono ?_);rintro e w1 ⟨rfl,rfl⟩)
 go_wp2_with fail
 go_ret
 exact ⟨rfl,HB.out⟩
theorem turn_open (Lb : Nat) (t : ByteArray) (W : World) (base : Nat) (rest : ByteArray) (x : Lx.Lex) (vO vC vI bv : Value) (h : LexV W Lb base rest x vO vC vI bv) (hd : x.below.length < 256) (hbase : base ≤ W.heap.size) :
  Calls Tryz.prog 147 #[ptr Lb,.agg #[.int .i64 9,.string t]] W fun e w'=>e = .returned (.int .u16 0) ∧ Turned W Lb base rest ⟨⟨false,0⟩,x.below ++ [x.top]⟩ vO vC vI bv w':=by
 have hb:=boxed_tok W 9 t
 have h2:=h.own hb
 have hp:=push_calls Lb rest vO vC vI bv x.top ⟨false,0⟩ base x.below.length (stCells x.below) (by omega) _ h2.1 h2.2 (Nat.le_trans hbase hb.size)
 obtain ⟨ao,cap,hbv⟩:=h.slice
 have hdc:=depth_calls Lb _ _ _ _ ((h2.1.cell 3).trans (congrArg some hbv))
 obtain ⟨d,hdd⟩ : ∃ d,x.below.length = d:=⟨_,rfl⟩
 rw [hdd] at hdc hd
 have t0 : decide ((256 : Int) ≤ (d : Int)) = false:=decide_eq_false (by omega)
 have HB:=hid hb;have HD:=hid hdd
 clear h2 h hdd hb hbv
 go_enter Tryz.func147,Tryz.ntmps147
 go_wp2_with fail
 ((with_reducible refine hdc.mono ?_);rintro e w1 ⟨rfl,rfl⟩)
 go_wp2_with fail
 ((with_reducible refine hp.mono ?_);rintro e w1 ⟨rfl,hpu⟩)
 go_wp2_with fail
 go_ret
 obtain ⟨bv',p1,p2,p3⟩:=hpu
 refine ⟨rfl,bv',⟨p1,?_⟩,(But.of_below HB.out).trans (p3.mono HB.out.size (fun _ _ e=>e))⟩
 rw [show (x.below ++ [x.top]).length = x.below.length + 1 by simp,stCells_snoc]
 exact p2
theorem turn_close (Lb : Nat) (t : ByteArray) (W : World) (base : Nat) (rest : ByteArray) (x : Lx.Lex) (vO vC vI bv : Value) (h : LexV W Lb base rest x vO vC vI bv) (ini : List Lx.St) (last : Lx.St) (hx : x.below = ini ++ [last]) (hd : x.below.length ≤ 256) :
  Calls Tryz.prog 147 #[ptr Lb,.agg #[.int .i64 10,.string t]] W fun e w'=>e = .returned (.int .u16 0) ∧ Turned W Lb base rest ⟨last,ini⟩ vO vC vI bv w':=by
 have hb:=boxed_tok W 10 t
 have h2:=h.own hb
 obtain ⟨g,cap,rfl⟩:=h.slice_some (by rw [hx];simp)
 have hp:=pop_calls Lb rest vO vC vI x.top last base ini.length x.below.length g cap (stCells ini) (by rw [hx];simp) (by rw [hx] at hd;simp at hd;omega) _ h2.1 (by have:=h2.2;rw [hx] at this ⊢;rw [stCells_snoc] at this;exact this)
 have HB:=hid hb
 clear h2 h hb hx
 go_enter Tryz.func147,Tryz.ntmps147
 go_wp2_with fail
 ((with_reducible refine hp.mono ?_);rintro e w1 ⟨rfl,hpu⟩)
 go_wp2_with fail
 go_ret
 obtain ⟨bv',p1,p2,p3⟩:=hpu
 exact ⟨rfl,bv',⟨p1,p2⟩,(But.of_below HB.out).trans (p3.mono HB.out.size (fun _ _ e=>e))⟩
theorem turn_op (Lb : Nat) (t : ByteArray) (W : World) (base : Nat) (rest : ByteArray) (x : Lx.Lex) (vO vC vI bv : Value) (h : LexV W Lb base rest x vO vC vI bv) :
  Calls Tryz.prog 147 #[ptr Lb,.agg #[.int .i64 13,.string t]] W fun e w'=>e = .returned (.int .u16 0) ∧ Turned W Lb base rest { x with top:={ x.top with br:=wrap64 (x.top.br + Lx.bracket t.data.toList) } } vO vC vI bv w':=by
 obtain ⟨W1,hW1⟩ : ∃ W1,W.alloc (.cells #[.int .i64 13,.string t] 49) = W1:=⟨_,rfl⟩
 have hb : Below W.heap.size W W1:=by rw [← hW1];exact boxed_tok W 13 t
 have hnew : Blk W1 W.heap.size 49 #[.int .i64 13,.string t]:=by rw [← hW1];exact Blk.new W _ _
 have h2:=h.own hb
 have hlt:=h2.1.lt
 have f2:=h2.1.frozen 2
 have c2 : W1.cell? ⟨Lb,2,none⟩ = some (.int .i64 x.top.br):=h2.1.cell 2
 have d0 : W1.cell? ⟨W.heap.size,0,none⟩ = some (.int .i64 13):=hnew.cell 0
 have d1 : W1.cell? ⟨W.heap.size,1,none⟩ = some (.string t):=hnew.cell 1
 have hne:=own_ne h2.2 h2.1 (by decide)
 obtain ⟨q,hq⟩ : ∃ q,Lx.bracket t.data.toList = q:=⟨_,rfl⟩
 have hbc:=fun w=>bracket_calls t w
 simp only [hq] at hbc
 rw [hq]
 obtain ⟨br,hbr⟩ : ∃ br,x.top.br = br:=⟨_,rfl⟩
 rw [hbr] at c2 ⊢
 obtain ⟨r,hr⟩ : ∃ r,wrap64 (br + q) = r:=⟨_,rfl⟩
 rw [hr]
 have hr2 : IntKind.i64.wrap (br + q) = r:=(IntWalk.i64_left _).trans hr
 have H2:=hid h2;have HB:=hid hb;have HN:=hid hne
 clear h2 hb h hne hnew hbr hq
 go_enter Tryz.func147,Tryz.ntmps147
 go_wp2_with fail
 clear hW1
 refine wp_region_still_tail 14 (by kernel_rfl) (by kernel_rfl) ?_
 simp only [List.take_succ_cons,List.take_zero,List.drop_succ_cons,List.drop_zero]
 repeat still_step
 still_call (hbc _)
 repeat still_step
 refine wpStill_nil ?_
 change wpList _ _ _ _ _ W1.drew
 go_wp2_with fail
 go_ret
 exact ⟨rfl,bv,⟨H2.out.1.drew'.set (o:=2) _,own_set H2.out.2.drew HN.out⟩,((But.of_below HB.out).drew).setCell (fun _=>.inl rfl) _⟩
end Go.Proofs.YtlklhkkjcfmefaaGreatDoor.lx
