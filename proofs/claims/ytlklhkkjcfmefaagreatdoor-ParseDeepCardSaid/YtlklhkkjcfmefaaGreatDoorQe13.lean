/- Ground of the law: LxStart, PaP3, LxStack, PaP4. -/
import Derived.Test.YtlklhkkjcfmefaaGreatDoorQe12
import Derived.Test.YtlklhkkjcfmefaaGreatDoorQe09
import Derived.Deep.AppendLies
import Derived.Deep.RegionLaw
import Derived.StillTailTactics
set_option maxRecDepth 100000
set_option maxHeartbeats 8000000
set_option linter.unusedVariables false
set_option linter.unusedSimpArgs false
namespace Go.Proofs.YtlklhkkjcfmefaaGreatDoor.lx
open Go.Lib (hid)
open Go.RowKit Go.Shelf
open sg (lst_len extract_drop ext_size)
open sx
def lay (w : World) : List (TypeId × Array Value) → World
 | []=>w
 | x :: r=>lay (w.alloc (.cells x.2 x.1)) r
def num (B : Nat) : List (TypeId × Array Value) → List (Nat × TypeId × Array Value)
 | []=>[]
 | x :: r=>(B,x.1,x.2) :: num (B + 1) r
theorem lay_below (w : World) (l : List (TypeId × Array Value)) : Below w.heap.size w (lay w l) ∧ (lay w l).heap.size = w.heap.size + l.length:=by
 induction l generalizing w with
 | nil=>exact ⟨Below.refl _ _,rfl⟩
 | cons x r ih =>
  obtain ⟨h1,h2⟩:=ih (w.alloc (.cells x.2 x.1))
  rw [World.size_alloc] at h1 h2
  exact ⟨((Below.refl _ w).alloc (Nat.le_refl _) _).trans (h1.mono (by omega)),by simp only [lay,List.length_cons];omega⟩
theorem lay_lie (w : World) (l : List (TypeId × Array Value)) : Lie (num w.heap.size l) (lay w l):=by
 induction l generalizing w with
 | nil=>intro b hb;cases hb
 | cons x r ih =>
  have h:=ih (w.alloc (.cells x.2 x.1))
  rw [World.size_alloc] at h
  intro b hb
  rcases List.mem_cons.1 hb with rfl | hb
  ·exact (Blk.new w x.1 x.2).own (lay_below (w.alloc (.cells x.2 x.1)) r).1
  ·exact h b hb
def outL (B : Nat) : List (TypeId × Array Value) :=
 [(53,#[fnV 172 #[]]),(9,#[.string ⟨#[46]⟩]),(70,#[fnV 176 #[]]),(9,#[.string ⟨#[36]⟩]),(70,#[fnV 174 #[]]),
  (53,#[fnV 177 #[]]),(9,#[.string ⟨#[64]⟩]),(70,#[fnV 197 #[ptr (B + 5)]]),(9,#[.string ⟨#[34]⟩]),(143,outCells B)]
theorem out_num (B : Nat) : num B (outL B) = outBl B:=rfl
theorem outside_calls (w : World) : Calls Tryz.prog 143 #[] w fun e w'=>e = .returned (.slice (some ⟨w.heap.size + 9,0,none⟩) 9 9) ∧ w' = lay w (outL w.heap.size):=by
 go_enter Tryz.func143,Tryz.ntmps143
 go_wp2_with fail
 ((with_reducible refine (row_calls _ _ 172 rfl).mono ?_);rintro e w1 ⟨rfl,rfl⟩)
 go_wp2_with fail
 ((with_reducible refine (marked_calls _ _ _ 176 #[] rfl).mono ?_);rintro e w1 ⟨rfl,rfl⟩)
 go_wp2_with fail
 ((with_reducible refine (marked_calls _ _ _ 174 #[] rfl).mono ?_);rintro e w1 ⟨rfl,rfl⟩)
 go_wp2_with fail
 ((with_reducible refine (row_calls _ _ 177 rfl).mono ?_);rintro e w1 ⟨rfl,rfl⟩)
 go_wp2_with fail
 ((with_reducible refine (marked_calls _ _ _ 197 _ rfl).mono ?_);rintro e w1 ⟨rfl,rfl⟩)
 go_wp2_with fail
 ((with_reducible refine (just_calls _ _).mono ?_);rintro e w1 ⟨rfl,rfl⟩)
 go_wp2_with fail
 go_ret
 exact ⟨by simp,rfl⟩
def inCells (B : Nat) : Array Value:=#[.int .i64 8,fnV 181 #[],.int .i64 11,fnV 180 #[ptr B],.int .i64 9,fnV 180 #[ptr (B + 1)]]
def inL (B : Nat) : List (TypeId × Array Value):=[(9,#[.string ⟨#[34]⟩]),(9,#[.string ⟨#[92,40]⟩]),(143,inCells B)]
theorem in_shapes (B : Nat) : ShapesOn (num B (inL B)) (.slice (some ⟨B + 2,0,none⟩) 3 3) Lx.inside:=by
 refine ⟨B + 2,3,inCells B,rfl,mem_nth _ 2 _ rfl,fun i k f h=>?_⟩
 match i,h with
 | 0,h=>cases h;exact ⟨_,rfl,rfl,szPiece _⟩
 | 1,h=>cases h;exact ⟨_,rfl,rfl,szJust _ _ ⟨#[34]⟩ (by decide) (mem_nth _ 0 _ rfl)⟩
 | 2,h=>cases h;exact ⟨_,rfl,rfl,szJust _ _ ⟨#[92,40]⟩ (by decide) (mem_nth _ 1 _ rfl)⟩
 | n + 3,h=>simp [Lx.inside] at h
theorem inside_calls (w : World) : Calls Tryz.prog 145 #[] w fun e w'=>e = .returned (.slice (some ⟨w.heap.size + 2,0,none⟩) 3 3) ∧ w' = lay w (inL w.heap.size):=by
 go_enter Tryz.func145,Tryz.ntmps145
 go_wp2_with fail
 ((with_reducible refine (just_calls _ _).mono ?_);rintro e w1 ⟨rfl,rfl⟩)
 go_wp2_with fail
 ((with_reducible refine (just_calls _ _).mono ?_);rintro e w1 ⟨rfl,rfl⟩)
 go_wp2_with fail
 go_ret
 exact ⟨by simp,rfl⟩
theorem infoShape : (Tryz.prog.info? 143).map (fun i=>(i.zero,i.size,i.bytes)) = some (some (.agg #[.int .i64 0,.nilFunc]),2,16):=by kernel_rfl
theorem Lie.own {bl : List (Nat × TypeId × Array Value)} {W W' : World} (h : Lie bl W) (hb : Below W.heap.size W W') : Lie bl W':=fun b hm=>(h b hm).own hb
theorem Lie.grown {bl : List (Nat × TypeId × Array Value)} {W W' : World} {row : Option Nat} (h : Lie bl W) (hg : W.grownBy W' row) (hr : ∀ b ∈ bl,some b.1 ≠ row) : Lie bl W':=fun b hm=>(h b hm).kept hg (hr b hm)
theorem Lie.app {bl bl' : List (Nat × TypeId × Array Value)} {W : World} (h : Lie bl W) (h' : Lie bl' W) : Lie (bl ++ bl') W:=fun b hm=>(List.mem_append.1 hm).elim (h b) (h' b)
theorem num_le (B : Nat) (l : List (TypeId × Array Value)) : ∀ b ∈ num B l,B ≤ b.1 ∧ b.1 < B + l.length:=by
 induction l generalizing B with
 | nil=>intro b hb;cases hb
 | cons x r ih =>
  intro b hb
  rcases List.mem_cons.1 hb with rfl | hb
  ·exact ⟨Nat.le_refl _,by simp⟩
  ·have:=ih (B + 1) b hb
   simp only [List.length_cons];omega
def Fixed (bl : List (Nat × TypeId × Array Value)) : Prop:=∀ b ∈ bl,b.2.1 ≠ 49 ∧ b.2.1 ≠ 120 ∧ b.2.1 ≠ 114
def okT (t : TypeId) : Bool:=t != 49 && (t != 120 && t != 114)
theorem okT_of {t : TypeId} (h : okT t = true) : t ≠ 49 ∧ t ≠ 120 ∧ t ≠ 114:=by
 unfold okT at h
 rw [Bool.and_eq_true,Bool.and_eq_true,bne_iff_ne,bne_iff_ne,bne_iff_ne] at h
 exact h
theorem fixed_num (B : Nat) (l : List (TypeId × Array Value)) (h : (l.map (·.1)).all okT = true) : Fixed (num B l):=by
 induction l generalizing B with
 | nil=>intro b hb;cases hb
 | cons x r ih =>
  rw [List.map_cons,List.all_cons,Bool.and_eq_true] at h
  intro b hb
  rcases List.mem_cons.1 hb with rfl | hb
  ·exact okT_of h.1
  ·exact ih (B + 1) h.2 b hb
abbrev lexCells (rest : ByteArray) (x : Lx.St) (below vO vC vI : Value) : Array Value:=#[.string rest,.bool x.text,.int .i64 x.br,below,vO,vC,vI]
def Started (s : ByteArray) (w : World) (e : Ending) (w' : World) : Prop:=∃ bl Lb vO vC vI,e = .returned (ptr Lb) ∧ Blk w' Lb 120 (lexCells s ⟨false,0⟩ (.slice none 0 0) vO vC vI) ∧ w.heap.size ≤ Lb ∧
 ShapesOn bl vO Lx.outside ∧ ShapesOn bl vC Lx.closing ∧ ShapesOn bl vI Lx.inside ∧ Lie bl w' ∧ (∀ b ∈ bl,w.heap.size ≤ b.1) ∧ Fixed bl ∧ Below w.heap.size w w'
theorem closing_shapes (bl : List (Nat × TypeId × Array Value)) (B D g cap : Nat) (cur : Array Value) (hB : ∀ b ∈ outBl B,b ∈ bl) (hD : (D,9,#[.string ⟨#[41]⟩]) ∈ bl) (hg : (g,143,cur) ∈ bl)
  (hc : cur.toList.take 20 = [.int .i64 10,fnV 180 #[ptr D]] ++ (outCells B).toList) : ShapesOn bl (.slice (some ⟨g,0,none⟩) 10 cap) Lx.closing:=by
 have hget : ∀ i u,i < 20 → ([.int .i64 10,fnV 180 #[ptr D]] ++ (outCells B).toList)[i]? = some u → cur[i]? = some u:=by
  intro i u hi hu
  rw [← hc,List.getElem?_take_of_lt hi] at hu
  simpa using hu
 refine ⟨g,cap,cur,rfl,hg,fun i k f h=>?_⟩
 match i,h with
 | 0,h=>cases h;exact ⟨_,hget 0 _ (by omega) rfl,hget 1 _ (by omega) rfl,szJust _ _ ⟨#[41]⟩ (by decide) hD⟩
 | i + 1,h =>
  have h' : Lx.outside[i]? = some (k,f):=by simpa [Lx.closing] using h
  have hi : i < 9:=(List.getElem?_eq_some_iff.1 h').1
  obtain ⟨g',cap',cur',e1,e2,e3⟩:=out_shapes B
  obtain ⟨u,a,b,c⟩:=e3 i k f h'
  have ec : cur' = outCells B:=by
   have : g' = B + 9:=by have:=congrArg Value.ownBlock e1;simp [Value.ownBlock] at this;omega
   subst this
   simp [outBl] at e2
   exact e2
  subst ec
  refine ⟨u,?_,?_,c.mono hB⟩
  ·refine hget _ _ (by omega) ?_
   rw [show 2 * (i + 1) = 2 * i + 2 by omega]
   simpa using a
  ·refine hget _ _ (by omega) ?_
   rw [show 2 * (i + 1) + 1 = (2 * i + 1) + 2 by omega]
   simpa using b
theorem own_some {W : World} {base : Nat} {e : TypeId} {size n : Nat} {v : Value} {xs : List Value} (hn : n ≠ 0) (h : W.ownsRow base e size v n xs) :
  ∃ g cap cur,v = .slice (some ⟨g,0,none⟩) n cap ∧ base ≤ g ∧ Blk W g e cur ∧ cur.toList.take (n * size) = xs:=by
 rcases h.2 with ⟨_,h0⟩ | ⟨g,cap,cur,rfl,hg,hgb,_,_,_,hcur⟩
 ·exact absurd h0 hn
 ·exact ⟨g,cap,cur,rfl,hg,hgb,hcur⟩
theorem start_calls (s : ByteArray) (w : World) : Calls Tryz.prog 96 #[.string s] w (Started s w):=by
 obtain ⟨hb1,hs1⟩:=lay_below w (outL w.heap.size)
 have hl1:=lay_lie w (outL w.heap.size)
 rw [out_num] at hl1
 have ho:=outside_calls w
 obtain ⟨W1,hW1⟩ : ∃ W1,lay w (outL w.heap.size) = W1:=⟨_,rfl⟩
 rw [hW1] at hb1 hs1 hl1 ho
 rw [show (outL w.heap.size).length = 10 from rfl] at hs1
 clear hW1
 have HS:=hid hs1
 have HL:=hid hl1
 have HB:=hid hb1
 obtain ⟨i0,hi,hz0,hz1,hz2⟩:=info_parts infoShape
 have hnews : ∀ (j : Nat) u,(outCells w.heap.size).toList[j]? = some u → ((W1.alloc (.cells #[.string ⟨#[41]⟩] 9)).alloc (.cells #[.int .i64 10,fnV 180 #[ptr W1.heap.size]] 143)).cell? ((⟨w.heap.size + 9,0,none⟩ : Addr).add j) = some u:=by
  intro j u hu
  have hbk:=((hl1 _ (mem_nth _ 9 _ rfl)).alloc (.cells #[.string ⟨#[41]⟩] 9)).alloc (.cells #[.int .i64 10,fnV 180 #[ptr W1.heap.size]] 143)
  have:=hbk.cell j
  rw [show (⟨w.heap.size + 9,0,none⟩ : Addr).add j = ⟨w.heap.size + 9,j,none⟩ from by cases j <;> simp [Addr.add]]
  rw [this]
  simpa using hu
 have HN:=hid hnews
 have hdst : ((W1.alloc (.cells #[.string ⟨#[41]⟩] 9)).alloc (.cells #[.int .i64 10,fnV 180 #[ptr W1.heap.size]] 143)).ownsRow w.heap.size 143 2 (.slice (some ⟨W1.heap.size + 1,0,none⟩) 1 1) 1 [.int .i64 10,fnV 180 #[ptr W1.heap.size]]:=by
  refine ⟨rfl,.inr ⟨W1.heap.size + 1,1,#[.int .i64 10,fnV 180 #[ptr W1.heap.size]],rfl,by omega,?_,Nat.le_refl _,by unfold maxLen;omega,rfl,rfl⟩⟩
  have:=Blk.new (W1.alloc (.cells #[.string ⟨#[41]⟩] 9)) 143 #[.int .i64 10,fnV 180 #[ptr W1.heap.size]]
  rw [World.size_alloc] at this
  exact this
 have HD:=hid hdst
 clear hs1 hl1 hb1 hnews hdst
 go_enter Tryz.func96,Tryz.ntmps96
 go_wp2_with fail
 ((with_reducible refine ho.mono ?_);rintro e w1 ⟨rfl,rfl⟩)
 go_wp2_with fail
 ((with_reducible refine (just_calls _ _).mono ?_);rintro e w2 ⟨rfl,rfl⟩)
 go_wp2_with (at_builtin;refine wpList_append_own _ rfl _ _ 118 rfl w.heap.size 143 i0 (.agg #[.int .i64 0,.nilFunc]) 2 16 Tryz.underlying118 hi hz0 hz1 hz2 rfl (by decide) _ _ _ rfl HD.out ⟨w.heap.size + 9,0,none⟩ 9 9 (outCells w.heap.size).toList rfl rfl HN.out (by simp [outCells,Value.oneCell']) (by unfold maxLen;omega) (by omega) (by have:=HB.out.size;simp;omega) ?_;intro v' w3 hown' hgrow _;obtain ⟨g,cap,cur,rfl,hg,hgb,hcur⟩:=own_some (by decide) hown')
 ((with_reducible refine (inside_calls _).mono ?_);rintro e w4 ⟨rfl,rfl⟩)
 go_wp2_with fail
 go_ret
 replace hgrow : World.grownBy _ w3 (some (w1.heap.size + 1)):=hgrow
 have hl1:=HL.out
 have hs1:=HS.out
 have hb1:=HB.out
 have hbx:=Blk.new w1 9 #[.string ⟨#[41]⟩]
 obtain ⟨hi1,hi2⟩:=lay_below w3 (inL w3.heap.size)
 have hi3:=lay_lie w3 (inL w3.heap.size)
 have hg3:=hgrow.size
 rw [World.size_alloc,World.size_alloc] at hg3
 have hlo3 : Lie (outBl w.heap.size) w3:=Lie.grown ((hl1.own ((Below.refl _ _).alloc (Nat.le_refl _) _)).own ((Below.refl _ _).alloc (Nat.le_refl _) _)) hgrow (fun b hb e=>by
  rw [← out_num] at hb
  have:=num_le _ _ b hb
  rw [show (outL w.heap.size).length = 10 from rfl] at this
  simp at e
  omega)
 have hbx3 : Blk w3 w1.heap.size 9 #[.string ⟨#[41]⟩]:=(hbx.alloc _).kept hgrow (by simp)
 have hall : Lie (outBl w.heap.size ++ ((w1.heap.size,9,#[.string ⟨#[41]⟩]) :: (g,143,cur) :: num w3.heap.size (inL w3.heap.size))) (lay w3 (inL w3.heap.size)):=by
  refine Lie.app (hlo3.own hi1) ?_
  intro b hb
  rcases List.mem_cons.1 hb with rfl | hb
  ·exact hbx3.own hi1
  ·rcases List.mem_cons.1 hb with rfl | hb
   ·exact Blk.own hgb hi1
   ·exact hi3 b hb
 have hmem : ∀ b,b = (w1.heap.size,9,#[.string ⟨#[41]⟩]) ∨ b = (g,143,cur) ∨ b ∈ num w3.heap.size (inL w3.heap.size) → b ∈ (outBl w.heap.size ++ ((w1.heap.size,9,#[.string ⟨#[41]⟩]) :: (g,143,cur) :: num w3.heap.size (inL w3.heap.size))):=by
  intro b hb
  refine List.mem_append_right _ ?_
  rcases hb with rfl | rfl | hb
  ·exact List.mem_cons_self ..
  ·exact List.mem_cons_of_mem _ (List.mem_cons_self ..)
  ·exact List.mem_cons_of_mem _ (List.mem_cons_of_mem _ hb)
 refine ⟨_,_,_,_,_,rfl,Blk.new _ _ _,?_,(out_shapes w.heap.size).mono (fun b hb=>List.mem_append_left _ hb),closing_shapes _ w.heap.size w1.heap.size g cap cur (fun b hb=>List.mem_append_left _ hb) (hmem _ (.inl rfl)) (hmem _ (.inr (.inl rfl))) hcur,(in_shapes w3.heap.size).mono (fun b hb=>hmem b (.inr (.inr hb))),hall.own ((Below.refl _ _).alloc (Nat.le_refl _) _),?_,?_,?_⟩
 ·have:=hi1.size;omega
 ·intro b hb
  rcases List.mem_append.1 hb with hb | hb
  ·rw [← out_num] at hb;exact (num_le _ _ b hb).1
  ·rcases List.mem_cons.1 hb with rfl | hb
   ·omega
   ·rcases List.mem_cons.1 hb with rfl | hb
    ·exact hg
    ·have:=(num_le _ _ b hb).1;omega
 ·intro b hb
  rcases List.mem_append.1 hb with hb | hb
  ·rw [← out_num] at hb;exact fixed_num _ _ rfl b hb
  ·rcases List.mem_cons.1 hb with rfl | hb
   ·exact okT_of (t:=9) rfl
   ·rcases List.mem_cons.1 hb with rfl | hb
    ·exact okT_of (t:=143) rfl
    ·exact fixed_num _ _ rfl b hb
 ·refine Below.alloc ?_ (by have:=hi1.size;omega) _
  refine (Below.grown ((hb1.alloc (by omega) _).alloc (by simp;omega) _) hgrow (by simp;omega) (fun k e=>by simp at e;omega)).trans (hi1.mono (by omega))
end Go.Proofs.YtlklhkkjcfmefaaGreatDoor.lx
namespace Go.Proofs.YtlklhkkjcfmefaaGreatDoor.pa
open Go.Lib (hid)
open Go.RowKit nd pr sx ed
theorem tail_drop {l : List Tk} {i : Nat} : (l.drop i).tail = l.drop (i + 1):=by rw [List.tail_drop]
theorem Kp.tr {E : Env} {A B C : World} (h : Kp E A B) (k : Kp E B C) : Kp E A C:=Kp.trans h k
theorem Kp.sb {E : Env} {A B C : World} (h : Kp E A B) (k : Below B.heap.size B C) : Kp E A C:=Kp.trans h (Kp.of_below k)
theorem Kp.bs {E : Env} {A B C : World} (h : Below A.heap.size A B) (k : Kp E B C) : Kp E A C:=Kp.trans (Kp.of_below h) k
def signs : List ByteArray:=[minus,semi,colon,bar,lpar,rpar,lbr,rbr,lbrace,rbrace,comma,dot,dots,quest]
def words : List ByteArray:=[wdef,wlabel,wtry,wcatch,was,wif,wthen,welif,welse,wend,wreduce,wforeach,wbreak,wimport,winclude]
theorem fit_tk {E : Env} (hE : EnvOk E) (i : Nat) : FitT (tk E i):=by
 rcases Nat.lt_or_ge i E.l.length with h | h
 ·exact hE.fit _ (List.mem_of_getElem? (tk_at h))
 ·rw [show tk E i = noTk from tk_end h]
  exact ⟨by decide,by decide,by decide,by decide,fun e=>absurd e (by decide),fun e=>absurd e (by decide)⟩
theorem op_eq (s : ByteArray) (t : Tk) : op s t = decide (t = (13,s)):=by
 unfold op
 obtain ⟨k,x⟩:=t
 rw [Bool.eq_iff_iff]
 simp
theorem word_eq (s : ByteArray) (t : Tk) : word s t = decide (t = (3,s)):=by
 unfold word
 obtain ⟨k,x⟩:=t
 rw [Bool.eq_iff_iff]
 simp
theorem need_sign {t : Tk} (hf : FitT t) {s : ByteArray} (hs : s ∈ signs) : (op s t || word s t) = decide (t = (13,s)):=by
 rw [op_eq]
 cases h : word s t with
 | false=>simp
 | true =>
  rw [word_eq,decide_eq_true_eq] at h
  have:=hf.word (by rw [h])
  rw [h] at this
  exact absurd hs this
theorem need_word {t : Tk} (hf : FitT t) {s : ByteArray} (hs : s ∈ words) : (op s t || word s t) = decide (t = (3,s)):=by
 rw [← word_eq]
 cases h : op s t with
 | false=>simp
 | true =>
  rw [op_eq,decide_eq_true_eq] at h
  have:=hf.oper (by rw [h])
  rw [h] at this
  exact absurd hs this
abbrev RU (x : Unit) (v : Value) (W W' : World) : Prop:=v = .tuple #[]
theorem must_gen {E : Env} (hE : EnvOk E) {s : ByteArray} {t : Tk} (ht : t ≠ noTk) (hn : ∀ i,(op s (tk E i) || word s (tk E i)) = decide (tk E i = t)) :
  Tl E (mustP s) RU 114 #[pB E,tokV t]:=by
 intro W i o hp hr
 have hr2 : (if (op s (tk E i) || word s (tk E i)) = true then Pa.move (.ret ()) else .bad).run (E.l.drop i) = some o:=hr
 rw [hn] at hr2
 obtain ⟨c,hc⟩ : ∃ c,decide (tk E i = t) = c:=⟨_,rfl⟩
 rw [hc] at hr2
 refine (must_calls hE hp t ht c hc).mono ?_
 rintro e w' ⟨hk,h⟩
 refine ⟨hk,?_⟩
 cases c with
 | true =>
  have e2 : o = .ok (E.l.drop (i + 1)) ():=by
   have : some (Out.ok (E.l.drop i).tail ()) = some o:=hr2
   rw [tail_drop] at this
   exact (Option.some.inj this).symm
  rw [e2]
  exact ⟨_,i + 1,h.1,h.2,rfl,rfl⟩
 | false =>
  have e2 : o = .bad (E.l.drop i):=(Option.some.inj hr2).symm
  rw [e2]
  exact ⟨i,hp.le,rfl,h⟩
theorem must_op {E : Env} (hE : EnvOk E) {s : ByteArray} (hs : s ∈ signs) : Tl E (mustP s) RU 114 #[pB E,tokV (13,s)] :=
 must_gen hE (fun e=>by cases e) (fun i=>need_sign (fit_tk hE i) hs)
theorem must_word {E : Env} (hE : EnvOk E) {s : ByteArray} (hs : s ∈ words) : Tl E (mustP s) RU 114 #[pB E,tokV (3,s)] :=
 must_gen hE (fun e=>by cases e) (fun i=>need_word (fit_tk hE i) hs)
theorem of_tl {E : Env} (hE : EnvOk E) (kd : Int) (hkd : kd ≠ 0) : Tl E (ofP kd) RS 128 #[pB E,.int .i64 kd]:=by
 intro W i o hp hr
 have hr2 : (if ((tk E i).1 == kd) = true then Pa.move (.ret (tk E i).2) else .bad).run (E.l.drop i) = some o:=hr
 have hn:=next_calls hE hp
 obtain ⟨c,hc⟩ : ∃ c,((tk E i).1 == kd) = c:=⟨_,rfl⟩
 have HT:=hid (fun (h : i < E.l.length) W' (hb : Below W.heap.size W W')=>take_calls hE (hp.next hb) h)
 have HF:=hid (fun W' (hb : Below W.heap.size W W')=>fail_calls (hp.next hb))
 have hlt : c = true → i < E.l.length:=fun e=>by
  rcases Nat.lt_or_ge i E.l.length with h | h
  ·exact h
  ·rw [show tk E i = noTk from tk_end h,e] at hc
   exact absurd (eq_of_beq hc).symm hkd
 rw [hc] at hr2
 have HR:=hid hr2;have HLT:=hid hlt;have HLE:=hid hp.le
 obtain ⟨t,ht⟩ : ∃ t,tk E i = t:=⟨_,rfl⟩
 rw [ht] at hn hc HR HT
 clear hr hr2 hlt hp ht
 have hc2 : (t.1 != kd) = !c:=by unfold bne;rw [hc]
 unfold tokV at hn
 have hfk:=field_kind
 have HN:=hid hn
 clear hn
 unfold pB at HN HT HF ⊢
 cases c with
 | true =>
  go_enter Tryz.func128,Tryz.ntmps128
  go_wp2_with fail
  ((with_reducible refine HN.out.mono ?_);rintro e w1 ⟨rfl,hb1⟩)
  have HB1:=hid hb1
  clear hb1
  go_wp2_with fail
  ((with_reducible refine (HT.out (HLT.out (by first | rfl | trivial)) _ HB1.out).mono ?_);rintro e w2 ⟨rfl,hk,hp2⟩)
  have HK:=hid hk;have HP:=hid hp2
  clear hk hp2
  go_wp2_with fail
  go_ret
  have e2 : o = .ok (E.l.drop (i + 1)) t.2:=by
   have : some (Out.ok (E.l.drop i).tail t.2) = some o:=HR.out
   rw [tail_drop] at this
   exact (Option.some.inj this).symm
  rw [e2]
  exact ⟨Kp.bs HB1.out HK.out,_,i + 1,rfl,HP.out,rfl,rfl⟩
 | false =>
  go_enter Tryz.func128,Tryz.ntmps128
  go_wp2_with fail
  ((with_reducible refine HN.out.mono ?_);rintro e w1 ⟨rfl,hb1⟩)
  have HB1:=hid hb1
  clear hb1
  go_wp2_with fail
  ((with_reducible refine (HF.out _ HB1.out).mono ?_);rintro e w2 ⟨rfl,hb2⟩)
  have e2 : o = .bad (E.l.drop i):=(Option.some.inj HR.out).symm
  rw [e2]
  exact ⟨rfl,Kp.sb (Kp.of_below HB1.out) hb2,i,HLE.out,rfl,rfl⟩
theorem cut_eq {s : ByteArray} {c : UInt8} (h : Lib.hasPrefix s.data.toList [c] = true) : (⟨(Lib.trimPrefix s.data.toList [c]).toArray⟩ : ByteArray) = cut s:=by
 have h1 : Lib.trimPrefix s.data.toList [c] = s.data.toList.drop 1:=by unfold Lib.trimPrefix;rw [if_pos h];rfl
 rw [h1]
 have h2:=sg.extract_drop s 1
 unfold cut
 rw [← h2]
theorem variable_tl {E : Env} (hE : EnvOk E) : Tl E (cutP 5) RS 125 #[pB E]:=by
 intro W i o hp hr
 have hft : (tk E i).1 = 5 → Lib.hasPrefix (tk E i).2.data.toList [36] = true:=(fit_tk hE i).var
 have hr2 : (if ((tk E i).1 == 5) = true then Pa.move (.ret (cut (tk E i).2)) else .bad).run (E.l.drop i) = some o:=hr
 have hof : ∀ o',(if ((tk E i).1 == 5) = true then Pa.move (.ret (tk E i).2) else .bad).run (E.l.drop i) = some o' → Calls Tryz.prog 128 #[pB E,.int .i64 5] W (Post E RS W o'):=fun o' h=>of_tl hE 5 (by decide) W i o' hp h
 obtain ⟨c,hc⟩ : ∃ c,((tk E i).1 == 5) = c:=⟨_,rfl⟩
 rw [hc] at hr2 hof
 obtain ⟨t,ht⟩ : ∃ t,tk E i = t:=⟨_,rfl⟩
 rw [ht] at hc hft hr2 hof
 clear hr ht
 unfold pB at hof ⊢
 cases c with
 | true =>
  have hcall:=hof (.ok (E.l.drop (i + 1)) t.2) (by show some _ = some _;rw [tail_drop])
  have HC:=hid hcall;have HR:=hid hr2
  have hcut:=cut_eq (hft (eq_of_beq hc))
  have htr:=fun w=>Tryz.strings_TrimPrefix t.2 ⟨#[36]⟩ w
  have hcut2 : (⟨(Lib.trimPrefix t.2.data.toList (⟨#[36]⟩ : ByteArray).data.toList).toArray⟩ : ByteArray) = cut t.2:=hcut
  simp only [hcut2] at htr
  have HT:=hid htr
  clear hcall hof hr2 hcut hcut2 htr hft hp
  go_enter Tryz.func125,Tryz.ntmps125
  go_wp2_with fail
  ((with_reducible refine HC.out.mono ?_);rintro e w1 ⟨hk,v,j,rfl,hp,hj,rfl⟩)
  have HK:=hid hk;have HP:=hid hp;have HJ:=hid hj
  clear hk hp hj
  go_wp2_with fail
  ((with_reducible refine (HT.out _).mono ?_);rintro e w2 ⟨rfl,rfl⟩)
  go_wp2_with fail
  go_ret
  have e2 : o = .ok (E.l.drop (i + 1)) (cut t.2):=by
   have : some (Out.ok (E.l.drop i).tail (cut t.2)) = some o:=HR.out
   rw [tail_drop] at this
   exact (Option.some.inj this).symm
  rw [e2]
  exact ⟨HK.out,_,j,rfl,HP.out,HJ.out,rfl⟩
 | false =>
  have hcall:=hof o hr2
  have hb : o = .bad (E.l.drop i):=(Option.some.inj hr2).symm
  rw [hb] at hcall ⊢
  have HC:=hid hcall
  clear hcall hof hr2 hft hp hb
  go_enter Tryz.func125,Tryz.ntmps125
  go_wp2_with fail
  ((with_reducible refine HC.out.mono ?_);rintro e w1 ⟨hk,j,hj,hd,rfl⟩)
  exact ⟨rfl,hk,j,hj,hd,rfl⟩
theorem fieldName_tl {E : Env} (hE : EnvOk E) : Tl E (cutP 4) RS 127 #[pB E]:=by
 intro W i o hp hr
 have hft : (tk E i).1 = 4 → Lib.hasPrefix (tk E i).2.data.toList [46] = true:=(fit_tk hE i).field
 have hr2 : (if ((tk E i).1 == 4) = true then Pa.move (.ret (cut (tk E i).2)) else .bad).run (E.l.drop i) = some o:=hr
 have hof : ∀ o',(if ((tk E i).1 == 4) = true then Pa.move (.ret (tk E i).2) else .bad).run (E.l.drop i) = some o' → Calls Tryz.prog 128 #[pB E,.int .i64 4] W (Post E RS W o'):=fun o' h=>of_tl hE 4 (by decide) W i o' hp h
 obtain ⟨c,hc⟩ : ∃ c,((tk E i).1 == 4) = c:=⟨_,rfl⟩
 rw [hc] at hr2 hof
 obtain ⟨t,ht⟩ : ∃ t,tk E i = t:=⟨_,rfl⟩
 rw [ht] at hc hft hr2 hof
 clear hr ht
 unfold pB at hof ⊢
 cases c with
 | true =>
  have hcall:=hof (.ok (E.l.drop (i + 1)) t.2) (by show some _ = some _;rw [tail_drop])
  have HC:=hid hcall;have HR:=hid hr2
  have hcut:=cut_eq (hft (eq_of_beq hc))
  have htr:=fun w=>Tryz.strings_TrimPrefix t.2 ⟨#[46]⟩ w
  have hcut2 : (⟨(Lib.trimPrefix t.2.data.toList (⟨#[46]⟩ : ByteArray).data.toList).toArray⟩ : ByteArray) = cut t.2:=hcut
  simp only [hcut2] at htr
  have HT:=hid htr
  clear hcall hof hr2 hcut hcut2 htr hft hp
  go_enter Tryz.func127,Tryz.ntmps127
  go_wp2_with fail
  ((with_reducible refine HC.out.mono ?_);rintro e w1 ⟨hk,v,j,rfl,hp,hj,rfl⟩)
  have HK:=hid hk;have HP:=hid hp;have HJ:=hid hj
  clear hk hp hj
  go_wp2_with fail
  ((with_reducible refine (HT.out _).mono ?_);rintro e w2 ⟨rfl,rfl⟩)
  go_wp2_with fail
  go_ret
  have e2 : o = .ok (E.l.drop (i + 1)) (cut t.2):=by
   have : some (Out.ok (E.l.drop i).tail (cut t.2)) = some o:=HR.out
   rw [tail_drop] at this
   exact (Option.some.inj this).symm
  rw [e2]
  exact ⟨HK.out,_,j,rfl,HP.out,HJ.out,rfl⟩
 | false =>
  have hcall:=hof o hr2
  have hb : o = .bad (E.l.drop i):=(Option.some.inj hr2).symm
  rw [hb] at hcall ⊢
  have HC:=hid hcall
  clear hcall hof hr2 hft hp hb
  go_enter Tryz.func127,Tryz.ntmps127
  go_wp2_with fail
  ((with_reducible refine HC.out.mono ?_);rintro e w1 ⟨hk,j,hj,hd,rfl⟩)
  exact ⟨rfl,hk,j,hj,hd,rfl⟩
theorem name_tl {E : Env} (hE : EnvOk E) : Tl E nameP RS 163 #[pB E]:=by
 intro W i o hp hr
 have hr2 : (if plainT (tk E i) = true then Pa.move (.ret (tk E i).2) else .bad).run (E.l.drop i) = some o:=hr
 have hn:=next_calls hE hp
 have hsz : (tk E i).2.size ≤ 140737488351232:=Nat.le_trans (fit_tk hE i).size (by omega)
 obtain ⟨t,ht⟩ : ∃ t,tk E i = t:=⟨_,rfl⟩
 have HTA:=hid (fun (h : i < E.l.length) W' (hk : Kp E W W') (hp' : Ps E W' i)=>take_calls hE hp' h)
 have HF:=hid (fun W' (h : Ps E W' i)=>fail_calls h)
 have hlt : t.1 = 3 → i < E.l.length:=fun e=>tk_lt ht (fun e'=>by rw [e'] at e;cases e)
 rw [ht] at hn hr2 hsz HTA
 have hpl : plainT t = (t.1 == 3 && Sg.plain t.2.data.toList):=rfl
 have HPL:=hid (fun w=>sg.plain_calls t.2 hsz w)
 have HPS:=hid (fun W' (hb : Below W.heap.size W W')=>hp.next hb)
 have HLE:=hid hp.le;have HLT:=hid hlt
 obtain ⟨q,hq⟩ : ∃ q,Sg.plain t.2.data.toList = q:=⟨_,rfl⟩
 rw [hq] at hpl HPL
 rw [hpl] at hr2
 have HR:=hid hr2
 unfold tokV at hn
 unfold pB at hn HTA HF ⊢
 have HN:=hid hn
 clear hn hr hr2 ht hsz hlt hpl hq hp
 obtain ⟨k,s⟩:=t
 have hbad : ∀ W',Kp E W W' → o = .bad (E.l.drop i) → Post E RS W o (mis i) W':=fun W' hk e=>by rw [e];exact ⟨hk,i,HLE.out,rfl,rfl⟩
 have HBAD:=hid hbad
 clear hbad
 have hbx : ∀ w1,Below W.heap.size W w1 → Below W.heap.size W (w1.alloc (.cells #[.int .i64 k,.string s] 49)):=fun w1 hb=>hb.alloc hb.size _
 have HBX:=hid hbx
 clear hbx
 by_cases h3 : k = 3
 ·subst h3
  cases q with
  | true =>
   go_enter Tryz.func163,Tryz.ntmps163
   go_wp2_with fail
   ((with_reducible refine HN.out.mono ?_);rintro e w1 ⟨rfl,hb1⟩)
   have hb2:=HBX.out _ hb1
   have HB2:=hid hb2
   clear hb1 hb2
   go_wp2_with fail
   ((with_reducible refine (HPL.out _).mono ?_);rintro e w2 ⟨rfl,hb3⟩)
   have HB3:=hid (HB2.out.trans (hb3.mono HB2.out.size))
   clear hb3
   go_wp2_with fail
   ((with_reducible refine (HTA.out (HLT.out (by first | rfl | trivial)) _ (Kp.of_below HB3.out) (HPS.out _ HB3.out)).mono ?_);rintro e w4 ⟨rfl,hk,hp⟩)
   have HK:=hid hk;have HP:=hid hp
   clear hk hp
   go_wp2_with fail
   go_ret
   have e2 : o = .ok (E.l.drop (i + 1)) s:=by
    have : some (Out.ok (E.l.drop i).tail s) = some o:=HR.out
    rw [tail_drop] at this
    exact (Option.some.inj this).symm
   rw [e2]
   exact ⟨Kp.bs HB3.out HK.out,_,i + 1,rfl,HP.out,rfl,rfl⟩
  | false =>
   go_enter Tryz.func163,Tryz.ntmps163
   go_wp2_with fail
   ((with_reducible refine HN.out.mono ?_);rintro e w1 ⟨rfl,hb1⟩)
   have hb2:=HBX.out _ hb1
   have HB2:=hid hb2
   clear hb1 hb2
   go_wp2_with fail
   ((with_reducible refine (HPL.out _).mono ?_);rintro e w2 ⟨rfl,hb3⟩)
   have HB3:=hid (HB2.out.trans (hb3.mono HB2.out.size))
   clear hb3
   go_wp2_with fail
   ((with_reducible refine (HF.out _ (HPS.out _ HB3.out)).mono ?_);rintro e w4 ⟨rfl,hb4⟩)
   exact ⟨rfl,HBAD.out _ (Kp.sb (Kp.of_below HB3.out) hb4) (Option.some.inj HR.out).symm⟩
 ·have q1 : (k == 3) = false:=by rw [beq_eq_false_iff_ne];exact h3
  have q2 : (k != 3) = true:=by unfold bne;rw [q1];rfl
  have hr3:=HR.out
  rw [q1] at hr3
  have HR:=hid hr3
  clear hr3 h3
  go_enter Tryz.func163,Tryz.ntmps163
  go_wp2_with fail
  ((with_reducible refine HN.out.mono ?_);rintro e w1 ⟨rfl,hb1⟩)
  have hb2:=HBX.out _ hb1
  have HB2:=hid hb2
  clear hb1 hb2
  go_wp2_with fail
  ((with_reducible refine (HF.out _ (HPS.out _ HB2.out)).mono ?_);rintro e w4 ⟨rfl,hb4⟩)
  exact ⟨rfl,HBAD.out _ (Kp.sb (Kp.of_below HB2.out) hb4) (Option.some.inj HR.out).symm⟩
end Go.Proofs.YtlklhkkjcfmefaaGreatDoor.pa
namespace Go.Proofs.YtlklhkkjcfmefaaGreatDoor.lx
open Go.Lib (hid)
open Go.RowKit Go.Shelf
open sg (lst_len extract_drop ext_size)
open sx
theorem infoState : (Tryz.prog.info? 114).map (fun i=>(i.zero,i.size,i.bytes)) = some (some (.agg #[.bool false,.int .i64 0]),2,16):=by kernel_rfl
theorem depth_calls (Lb len cap : Nat) (ao : Option Addr) (W : World) (hc : W.cell? ⟨Lb,3,none⟩ = some (.slice ao len cap)) :
  Calls Tryz.prog 148 #[.pointer (some ⟨Lb,1,none⟩)] W fun e w'=>e = .returned (.int .i64 (len : Int)) ∧ w' = W:=by
 go_enter Tryz.func148,Tryz.ntmps148
 go_wp2
 go_ret
 exact ⟨rfl,rfl⟩
def SL (Lb : Nat) (bv : Value) (k : Nat) : Prop:=k = Lb ∨ bv.ownBlock = some k
def Pushed (Lb : Nat) (rest : ByteArray) (vO vC vI : Value) (base k : Nat) (xs : List Value) (bv : Value) (top : Lx.St) (W w' : World) : Prop :=
 ∃ bv',Blk w' Lb 120 (lexCells rest top bv' vO vC vI) ∧ w'.ownsRow base 114 2 bv' k xs ∧ But W.heap.size (SL Lb bv) W w'
theorem own_ne {W : World} {base : Nat} {e t : TypeId} {size n B : Nat} {v : Value} {xs : List Value} {vs : Array Value} (h : W.ownsRow base e size v n xs) (hb : Blk W B t vs) (ht : t ≠ e) : (some B : Option Nat) ≠ v.ownBlock:=by
 intro he
 rcases h.2 with ⟨rfl,_⟩ | ⟨g,cap,cur,rfl,_,hgb,_⟩
 ·simp [Value.ownBlock] at he
 ·obtain rfl : B = g:=by simpa [Value.ownBlock] using he
  rw [show W.heap[B]? = _ from hb] at hgb
  injection hgb with hgb;injection hgb with _ h2 _
  exact ht h2
theorem facts_of {W1 w1 : World} {Lb B : Nat} {rest : ByteArray} {top new : Lx.St} {bv vO vC vI : Value} {o : Obj} {row : Option Nat} (hb : Blk W1 Lb 120 (lexCells rest top bv vO vC vI)) (hn : Blk W1 B 114 #[.bool new.text,.int .i64 new.br])
  (hg : (W1.alloc o).drew.grownBy w1 row) (h1 : some Lb ≠ row) (h2 : some B ≠ row) :
  w1.cell? ⟨Lb,1,none⟩ = some (.bool top.text) ∧ w1.cell? ⟨Lb,2,none⟩ = some (.int .i64 top.br) ∧ w1.cell? ⟨Lb,3,none⟩ = some bv ∧ w1.frozen? ⟨Lb,1,none⟩ = false ∧ w1.frozen? ⟨Lb,2,none⟩ = false ∧ w1.frozen? ⟨Lb,3,none⟩ = false ∧
   w1.cell? ⟨B,0,none⟩ = some (.bool new.text) ∧ w1.cell? ⟨B,1,none⟩ = some (.int .i64 new.br):=by
 have k1 : Blk w1 Lb 120 (lexCells rest top bv vO vC vI):=((hb.alloc o).drew').kept hg h1
 have k2 : Blk w1 B 114 #[.bool new.text,.int .i64 new.br]:=((hn.alloc o).drew').kept hg h2
 exact ⟨k1.cell 1,k1.cell 2,k1.cell 3,k1.frozen 1,k1.frozen 2,k1.frozen 3,k2.cell 0,k2.cell 1⟩
theorem own_set {W : World} {base : Nat} {e : TypeId} {size n B o : Nat} {v u : Value} {xs : List Value} (h : W.ownsRow base e size v n xs) (hne : (some B : Option Nat) ≠ v.ownBlock) : (W.setCell ⟨B,o,none⟩ u).ownsRow base e size v n xs:=by
 refine ⟨h.1,?_⟩
 rcases h.2 with hn | ⟨g,cap,cur,rfl,h2,h3,h4⟩
 ·exact .inl hn
 ·exact .inr ⟨g,cap,cur,rfl,h2,(Below.heap_setCell _ _ _ g (fun e'=>hne (by simp [Value.ownBlock];exact e'.symm))).trans h3,h4⟩
theorem lex_set {W : World} {Lb : Nat} {rest : ByteArray} {top : Lx.St} {bv bv' vO vC vI : Value} {b : Bool} {n : Int} (h : Blk W Lb 120 (lexCells rest top bv vO vC vI)) :
  Blk (((W.setCell ⟨Lb,3,none⟩ bv').setCell ⟨Lb,1,none⟩ (.bool b)).setCell ⟨Lb,2,none⟩ (.int .i64 n)) Lb 120 (lexCells rest ⟨b,n⟩ bv' vO vC vI) :=
 ((h.set (o:=3) bv').set (o:=1) (.bool b)).set (o:=2) (.int .i64 n)
theorem pushed_fin {W W1 w1 : World} {Lb gg cap k base : Nat} {rest : ByteArray} {top new : Lx.St} {bv vO vC vI : Value} {o : Obj} {xs : List Value} (hB1 : Below W.heap.size W W1) (hb : Blk W1 Lb 120 (lexCells rest top bv vO vC vI))
  (hg : (W1.alloc o).drew.grownBy w1 bv.ownBlock) (hown : w1.ownsRow base 114 2 (.slice (some ⟨gg,0,none⟩) (k + 1) cap) (k + 1) xs) (hne : (some Lb : Option Nat) ≠ bv.ownBlock) :
  Pushed Lb rest vO vC vI base (k + 1) xs bv new W (((w1.setCell ⟨Lb,3,none⟩ (.slice (some ⟨gg,0,none⟩) (k + 1) cap)).setCell ⟨Lb,1,none⟩ (.bool new.text)).setCell ⟨Lb,2,none⟩ (.int .i64 new.br)):=by
 have hb1 : Blk w1 Lb 120 (lexCells rest top bv vO vC vI):=((hb.alloc o).drew').kept hg hne
 have h1:=own_ne hown hb1 (by decide)
 refine ⟨_,lex_set hb1,own_set (own_set (own_set hown h1) h1) h1,?_⟩
 refine But.setCell (But.setCell (But.setCell ?_ (fun _=>.inl rfl) _) (fun _=>.inl rfl) _) (fun _=>.inl rfl) _
 exact (((But.of_below hB1).alloc (Nat.le_refl _) o).drew).grown hg (Nat.le_refl _) (fun k e _=>.inr e)
theorem push_calls (Lb : Nat) (rest : ByteArray) (vO vC vI bv : Value) (top new : Lx.St) (base k : Nat) (xs : List Value) (hk : k ≤ 65536) (W : World)
  (hb : Blk W Lb 120 (lexCells rest top bv vO vC vI)) (hown : W.ownsRow base 114 2 bv k xs) (hbase : base ≤ W.heap.size) :
  Calls Tryz.prog 182 #[.pointer (some ⟨Lb,1,none⟩),.agg #[.bool new.text,.int .i64 new.br]] W fun e w'=>e = .returned (.tuple #[]) ∧ Pushed Lb rest vO vC vI base (k + 1) (xs ++ [.bool top.text,.int .i64 top.br]) bv new W w':=by
 obtain ⟨i0,hi,hz0,hz1,hz2⟩:=info_parts infoState
 obtain ⟨W1,hW1⟩ : ∃ W1,W.alloc (.cells #[.bool new.text,.int .i64 new.br] 114) = W1:=⟨_,rfl⟩
 have hB1 : Below W.heap.size W W1:=by rw [← hW1];exact (Below.refl _ W).alloc (Nat.le_refl _) _
 have hs1 : W1.heap.size = W.heap.size + 1:=by rw [← hW1];simp
 have hn1 : Blk W1 W.heap.size 114 #[.bool new.text,.int .i64 new.br]:=by rw [← hW1];exact Blk.new W _ _
 have hb1:=hb.own hB1
 have hown1 : W1.ownsRow base 114 2 bv k xs:=by rw [← hW1];exact hown.alloc _
 have c1 : W1.cell? ⟨Lb,1,none⟩ = some (.bool top.text):=hb1.cell 1
 have c2 : W1.cell? ⟨Lb,2,none⟩ = some (.int .i64 top.br):=hb1.cell 2
 have c3 : W1.cell? ⟨Lb,3,none⟩ = some bv:=hb1.cell 3
 have d0 : W1.cell? ⟨W.heap.size,0,none⟩ = some (.bool new.text):=hn1.cell 0
 have d1 : W1.cell? ⟨W.heap.size,1,none⟩ = some (.int .i64 new.br):=hn1.cell 1
 have f1:=hb1.frozen 1
 have f2:=hb1.frozen 2
 have f3:=hb1.frozen 3
 have hlt:=hb.lt
 have hbase1 : base ≤ W1.heap.size + 1:=by omega
 have hlt1 : Lb < W1.heap.size:=by omega
 have hne : (some Lb : Option Nat) ≠ bv.ownBlock:=own_ne hown hb (by decide)
 have hne2 : (some W.heap.size : Option Nat) ≠ bv.ownBlock:=fun e=>by have:=(hown.lt _ e.symm).2;omega
 have HNE:=hid hne
 have HB:=hid hb;have HB1:=hid hB1;have HN:=hid hn1;have HBB:=hid hb1;have HS:=hid hs1
 clear hb hB1 hn1 hb1 hs1 hown
 go_enter Tryz.func182,Tryz.ntmps182
 go_wp2_with fail
 clear hW1
 go_region_law ((refine step_append_lies _ (by rfl) _ _ _ (by rfl) base 114 i0 _ 2 16 Tryz.underlying115 hi hz0 hz1 hz2 rfl (by omega) bv k xs (by rfl) ((hown1.alloc _).drew) ⟨W1.heap.size,0,none⟩ 1 1 [.bool top.text,.int .i64 top.br] (by rfl) (by rfl) (World.news_of_block (cs:=#[.bool top.text,.int .i64 top.br]) (t:=114) (fr:=(0,0)) (heap_alloc_new W1 _)) (by intro u hu;simp at hu;rcases hu with rfl | rfl <;> rfl) (by omega) (by unfold maxLen;omega) (by omega) (by simp;omega) (W1.heap.size + 1) (by simp) ?_;intro gg cap w1 hown2 hgrow hat hlt2;obtain ⟨g1,g2,g3,g4,g5,g6,e0,e1⟩:=facts_of HBB.out HN.out hgrow hne hne2))
 all_goals go_wp2_with fail
 all_goals go_end0
 all_goals exact ⟨rfl,pushed_fin HB1.out HBB.out hgrow hown2 HNE.out⟩
theorem own_take {W : World} {base : Nat} {e : TypeId} {size m k g cap : Nat} {xs ys : List Value} (h : W.ownsRow base e size (.slice (some ⟨g,0,none⟩) m cap) m (xs ++ ys)) (hx : xs.length = k * size) (hk : k ≤ m) : W.ownsRow base e size (.slice (some ⟨g,0,none⟩) k cap) k xs:=by
 refine ⟨hx,?_⟩
 rcases h.2 with ⟨h1,_⟩ | ⟨g',cap',cur,h1,h2,h3,h4,h5,h6,h7⟩
 ·cases h1
 ·cases h1
  refine .inr ⟨g,cap,cur,rfl,h2,h3,by omega,h5,h6,?_⟩
  have:=congrArg (List.take (k * size)) h7
  rw [List.take_take,← hx,List.take_left] at this
  have hle : k * size ≤ m * size:=Nat.mul_le_mul_right _ hk
  rw [← this,Nat.min_eq_left (by rw [hx];exact hle),hx]
theorem pop_calls (Lb : Nat) (rest : ByteArray) (vO vC vI : Value) (top new : Lx.St) (base k m g cap : Nat) (xs : List Value) (hm : m = k + 1) (hk : k ≤ 65536) (W : World)
  (hb : Blk W Lb 120 (lexCells rest top (.slice (some ⟨g,0,none⟩) m cap) vO vC vI)) (hown : W.ownsRow base 114 2 (.slice (some ⟨g,0,none⟩) m cap) m (xs ++ [.bool new.text,.int .i64 new.br])) :
  Calls Tryz.prog 183 #[.pointer (some ⟨Lb,1,none⟩)] W fun e w'=>e = .returned (.tuple #[]) ∧ Pushed Lb rest vO vC vI base k xs (.slice (some ⟨g,0,none⟩) m cap) new W w':=by
 have hx : xs.length = k * 2:=by have:=hown.1;rw [List.length_append] at this;simp at this;omega
 have hne : (some Lb : Option Nat) ≠ (Value.slice (some ⟨g,0,none⟩) m cap).ownBlock:=own_ne hown hb (by decide)
 have hgl : g ≠ Lb:=fun e=>hne (by rw [← e];rfl)
 have c0 : W.cell? ⟨g,k * 2,none⟩ = some (.bool new.text):=by
  have:=hown.cellAt (k * 2) (by omega)
  rw [this,List.getElem?_append_right (by omega),hx];simp
 have c00 : W.cell? ⟨g,k * 2 + 1,none⟩ = some (.int .i64 new.br):=by
  have:=hown.cellAt (k * 2 + 1) (by omega)
  rw [this,List.getElem?_append_right (by omega),hx];simp
 have c1 : W.cell? ⟨Lb,1,none⟩ = some (.bool top.text):=hb.cell 1
 have c2 : W.cell? ⟨Lb,2,none⟩ = some (.int .i64 top.br):=hb.cell 2
 have c3 : W.cell? ⟨Lb,3,none⟩ = some (.slice (some ⟨g,0,none⟩) m cap):=hb.cell 3
 have f1:=hb.frozen 1
 have f2:=hb.frozen 2
 have f3:=hb.frozen 3
 have hlt:=hb.lt
 have hcap : m ≤ cap:=by
  rcases hown.2 with ⟨h1,_⟩ | ⟨g',cap',cur,h1,h2,h3,h4,_⟩
  ·cases h1
  ·cases h1;exact h4
 have hkm : k < m:=by omega
 have hkm1 : (k : Int) < (m : Int):=by omega
 have hk0 : (0 : Int) ≤ (k : Int):=by omega
 have hkc : k ≤ cap:=by omega
 have hkc1 : (k : Int) ≤ (cap : Int):=by omega
 have hw1 : wrap64 ((m : Int) - 1) = (k : Int):=by rw [IntWalk.wrap64_in _ (by omega)];omega
 have hw2 : IntKind.i64.wrap ((m : Int) - 1) = (k : Int):=(IntWalk.i64_left _).trans hw1
 have HB:=hid hb;have HO:=hid (own_take hown hx (Nat.le_of_lt hkm));have HN:=hid hne
 clear hb hown hne hm hx
 go_enter Tryz.func183,Tryz.ntmps183
 go_wp2_with fail
 go_end0
 have hno : (some Lb : Option Nat) ≠ (Value.slice (some ⟨g,0,none⟩) k cap).ownBlock:=HN.out
 exact ⟨rfl,.slice (some ⟨g,0,none⟩) k cap,((HB.out.set (o:=1) _).set (o:=2) _).set (o:=3) _,own_set (own_set (own_set HO.out hno) hno) hno,
  But.setCell (But.setCell (But.setCell (But.refl _ _ _) (fun _=>.inl rfl) _) (fun _=>.inl rfl) _) (fun _=>.inl rfl) _⟩
end Go.Proofs.YtlklhkkjcfmefaaGreatDoor.lx
namespace Go.Proofs.YtlklhkkjcfmefaaGreatDoor.pa
open Go.RowKit nd pr sx ed
def Fr (n : Nat) (W : World) (k : Nat) : Prop:=n ≤ k ∧ k < W.heap.size
abbrev nodeZ : Array Value:=#[.int .i64 0,.string ⟨#[]⟩,.slice none 0 0]
abbrev nV (x : Nd) (a : Option Addr) (c : Nat) : Array Value:=#[.int .i64 x.k,.string x.t,.slice a x.kids.len c]
theorem kids_new {w w' : World} {n : Nat} {x : Nd} {v : Value} (h : RN x v w w') (hn : n ≤ w.heap.size) : ∃ a c,v = .agg #[.int .i64 x.k,.string x.t,.slice a x.kids.len c] ∧ KidsAt (Fr n w') w' x.kids (.slice a x.kids.len c):=by
 obtain ⟨s,rfl,hk⟩:=h
 obtain ⟨a,c,rfl,hm⟩:=hk.slice
 exact ⟨a,c,rfl,hk.keep (fun k e=>⟨Nat.le_trans hn e.1,e.2⟩) (fun _ _=>rfl)⟩
theorem kids_kp {E : Env} {n : Nat} {w w' : World} {f : Fo} {v : Value} (h : KidsAt (Fr n w) w f v) (hk : Kp E w w') (hn : ∀ k,n ≤ k → ¬ Pm E k) : KidsAt (Fr n w') w' f v :=
 h.keep (fun k e=>⟨e.1,Nat.lt_of_lt_of_le e.2 hk.size⟩) (fun k e=>hk.block k e.2 (hn k e.1))
theorem kids_below {n : Nat} {w w' : World} {f : Fo} {v : Value} (h : KidsAt (Fr n w) w f v) (hk : Below w.heap.size w w') : KidsAt (Fr n w') w' f v :=
 h.keep (fun k e=>⟨e.1,Nat.lt_of_lt_of_le e.2 hk.size⟩) (fun k e=>hk.block k e.2)
theorem Kp.blk' {E : Env} {n : Nat} {W W' : World} {b : Nat} {t : TypeId} {vs : Array Value} (hb : Blk W b t vs) (h : Kp E W W') (hn : ∀ k,n ≤ k → ¬ Pm E k) (hnb : n ≤ b) : Blk W' b t vs:=hb.but h (hn b hnb)
theorem Ps.far {E : Env} {W : World} {i : Nat} (h : Ps E W i) : ∀ k,W.heap.size ≤ k → ¬ Pm E k:=fun k hk=>h.not_pm hk
theorem kids_row {n : Nat} {w : World} {g : Nat} {l : List Nd} {L : List Value} (hc : CellsOf (Fr n w) w (Fo.ofL l) L) (hb : Blk w g 32 L.toArray) (hg : n ≤ g) (m : Nat) (hm : (Fo.ofL l).len = m) (hmax : m ≤ maxLen) :
  KidsAt (Fr n w) w (Fo.ofL l) (.slice (some ⟨g,0,none⟩) m m):=by
 subst hm
 refine ⟨_,_,rfl,hmax,fun _=>⟨g,0,rfl,⟨hg,hb.lt⟩,CellsOf.row (o:=0) hc fun j u hj=>?_⟩⟩
 rw [Nat.zero_add,hb.cell j]
 simpa using hj
theorem row1 {n : Nat} {w : World} {g : Nat} {x : Nd} {s : Value} (h : KidsAt (Fr n w) w x.kids s) (hb : Blk w g 32 #[.int .i64 x.k,.string x.t,s]) (hg : n ≤ g) : KidsAt (Fr n w) w (Fo.ofL [x]) (.slice (some ⟨g,0,none⟩) 1 1) :=
 kids_row (l:=[x]) (L:=[.int .i64 x.k,.string x.t,s]) ⟨_,_,rfl,h,rfl⟩ hb hg 1 rfl (by decide)
theorem row2 {n : Nat} {w : World} {g : Nat} {x y : Nd} {s r : Value} (h : KidsAt (Fr n w) w x.kids s) (h2 : KidsAt (Fr n w) w y.kids r) (hb : Blk w g 32 #[.int .i64 x.k,.string x.t,s,.int .i64 y.k,.string y.t,r]) (hg : n ≤ g) : KidsAt (Fr n w) w (Fo.ofL [x,y]) (.slice (some ⟨g,0,none⟩) 2 2) :=
 kids_row (l:=[x,y]) (L:=[.int .i64 x.k,.string x.t,s,.int .i64 y.k,.string y.t,r]) ⟨_,_,rfl,h,⟨_,_,rfl,h2,rfl⟩⟩ hb hg 2 rfl (by decide)
theorem row3 {n : Nat} {w : World} {g : Nat} {x y z : Nd} {s r q : Value} (h : KidsAt (Fr n w) w x.kids s) (h2 : KidsAt (Fr n w) w y.kids r) (h3 : KidsAt (Fr n w) w z.kids q) (hb : Blk w g 32 #[.int .i64 x.k,.string x.t,s,.int .i64 y.k,.string y.t,r,.int .i64 z.k,.string z.t,q]) (hg : n ≤ g) : KidsAt (Fr n w) w (Fo.ofL [x,y,z]) (.slice (some ⟨g,0,none⟩) 3 3) :=
 kids_row (l:=[x,y,z]) (L:=[.int .i64 x.k,.string x.t,s,.int .i64 y.k,.string y.t,r,.int .i64 z.k,.string z.t,q]) ⟨_,_,rfl,h,⟨_,_,rfl,h2,⟨_,_,rfl,h3,rfl⟩⟩⟩ hb hg 3 rfl (by decide)
theorem set3b {u : World} {B : Nat} {t : TypeId} {x y z : Value} (h : Blk u B t #[x,y,z]) (a b c : Value) : Blk (((u.setCell ⟨B,0,none⟩ a).setCell ⟨B,1,none⟩ b).setCell ⟨B,2,none⟩ c) B t #[a,b,c]:=((h.set (o:=0) a).set (o:=1) b).set (o:=2) c
theorem set3h {u : World} {B k : Nat} (hk : k ≠ B) (a b c : Value) : (((u.setCell ⟨B,0,none⟩ a).setCell ⟨B,1,none⟩ b).setCell ⟨B,2,none⟩ c).heap[k]? = u.heap[k]?:=by
 rw [Below.heap_setCell _ _ _ k (fun e=>hk e),Below.heap_setCell _ _ _ k (fun e=>hk e),Below.heap_setCell _ _ _ k (fun e=>hk e)]
theorem set3o {N : Nat} {u : World} (a b c : Value) {B : Nat} (hB : N ≤ B) : Below N u (((u.setCell ⟨B,0,none⟩ a).setCell ⟨B,1,none⟩ b).setCell ⟨B,2,none⟩ c) :=
 (((Below.refl N u).setCell (p:=⟨B,0,none⟩) hB a).setCell (p:=⟨B,1,none⟩) hB b).setCell (p:=⟨B,2,none⟩) hB c
theorem Ps.set3 {E : Env} (hE : EnvOk E) {u : World} {j B : Nat} (h : Ps E u j) (hB : ¬ Pm E B) (hBT : B ≠ E.T) (hB0 : E.W0.heap.size ≤ B) (a b c : Value) : Ps E (((u.setCell ⟨B,0,none⟩ a).setCell ⟨B,1,none⟩ b).setCell ⟨B,2,none⟩ c) j:=by
 refine ⟨?_,h.le,h.old.trans (set3o a b c hB0),MapT.of_heap h.terms (set3h (fun e=>hBT e.symm) a b c),?_⟩
 ·exact (set3h (fun e=>hB (.inl e.symm)) a b c).trans h.blk
 ·obtain ⟨l,h1,h2⟩:=h.opers
  exact ⟨l,MapT.of_heap h1 (set3h (fun e=>hB (.inr e.symm)) a b c),h2⟩
theorem Ps.tlt {E : Env} {W : World} {i : Nat} (h : Ps E W i) : E.T < W.heap.size:=h.terms.lt
theorem Kp.set3 {E : Env} {W u : World} {B : Nat} (h : Kp E W u) (hB : W.heap.size ≤ B) (a b c : Value) : Kp E W (((u.setCell ⟨B,0,none⟩ a).setCell ⟨B,1,none⟩ b).setCell ⟨B,2,none⟩ c) :=
 But.trans h (But.of_below (set3o a b c hB))
theorem fin_node {E : Env} (hE : EnvOk E) {W u : World} {i j b : Nat} {x : Nd} {a : Option Addr} {c : Nat} {z1 z2 z3 : Value} (h0 : Ps E W i) (hp : Ps E u j) (hk : Kp E W u) (hw : W.heap.size ≤ b) (hb : Blk u b 32 #[z1,z2,z3]) (hx : KidsAt (Fr (b + 1) u) u x.kids (.slice a x.kids.len c)) :
  Blk (((u.setCell ⟨b,0,none⟩ (.int .i64 x.k)).setCell ⟨b,1,none⟩ (.string x.t)).setCell ⟨b,2,none⟩ (.slice a x.kids.len c)) b 32 (nV x a c) ∧
  Post E RN W (.ok (E.l.drop j) x) (.returned (.agg (nV x a c))) (((u.setCell ⟨b,0,none⟩ (.int .i64 x.k)).setCell ⟨b,1,none⟩ (.string x.t)).setCell ⟨b,2,none⟩ (.slice a x.kids.len c)):=by
 have hne : ¬ Pm E b:=h0.not_pm hw
 have ht : b ≠ E.T:=fun e=>by have:=h0.tlt;omega
 have h00 : E.W0.heap.size ≤ b:=Nat.le_trans h0.old.size hw
 refine ⟨set3b hb _ _ _,hk.set3 hw _ _ _,_,j,rfl,hp.set3 hE hne ht h00 _ _ _,rfl,NdAt.mk ?_⟩
 refine hx.keep (fun k e=>⟨by have:=e.1;omega,?_⟩) (fun k e=>set3h (by have:=e.1;omega) _ _ _)
 have:=(set3o (N:=0) (u:=u) (.int .i64 x.k) (.string x.t) (.slice a x.kids.len c) (B:=b) (Nat.zero_le _)).size
 have:=e.2
 omega
theorem in_minus : minus ∈ signs:=by unfold signs;repeat (first | exact List.mem_cons_self .. | apply List.mem_cons_of_mem)
theorem in_semi : semi ∈ signs:=by unfold signs;repeat (first | exact List.mem_cons_self .. | apply List.mem_cons_of_mem)
theorem in_colon : colon ∈ signs:=by unfold signs;repeat (first | exact List.mem_cons_self .. | apply List.mem_cons_of_mem)
theorem in_bar : bar ∈ signs:=by unfold signs;repeat (first | exact List.mem_cons_self .. | apply List.mem_cons_of_mem)
theorem in_lpar : lpar ∈ signs:=by unfold signs;repeat (first | exact List.mem_cons_self .. | apply List.mem_cons_of_mem)
theorem in_rpar : rpar ∈ signs:=by unfold signs;repeat (first | exact List.mem_cons_self .. | apply List.mem_cons_of_mem)
theorem in_lbr : lbr ∈ signs:=by unfold signs;repeat (first | exact List.mem_cons_self .. | apply List.mem_cons_of_mem)
theorem in_rbr : rbr ∈ signs:=by unfold signs;repeat (first | exact List.mem_cons_self .. | apply List.mem_cons_of_mem)
theorem in_lbrace : lbrace ∈ signs:=by unfold signs;repeat (first | exact List.mem_cons_self .. | apply List.mem_cons_of_mem)
theorem in_rbrace : rbrace ∈ signs:=by unfold signs;repeat (first | exact List.mem_cons_self .. | apply List.mem_cons_of_mem)
theorem in_comma : comma ∈ signs:=by unfold signs;repeat (first | exact List.mem_cons_self .. | apply List.mem_cons_of_mem)
theorem in_dot : dot ∈ signs:=by unfold signs;repeat (first | exact List.mem_cons_self .. | apply List.mem_cons_of_mem)
theorem in_dots : dots ∈ signs:=by unfold signs;repeat (first | exact List.mem_cons_self .. | apply List.mem_cons_of_mem)
theorem in_wdef : wdef ∈ words:=by unfold words;repeat (first | exact List.mem_cons_self .. | apply List.mem_cons_of_mem)
theorem in_wlabel : wlabel ∈ words:=by unfold words;repeat (first | exact List.mem_cons_self .. | apply List.mem_cons_of_mem)
theorem in_wtry : wtry ∈ words:=by unfold words;repeat (first | exact List.mem_cons_self .. | apply List.mem_cons_of_mem)
theorem in_was : was ∈ words:=by unfold words;repeat (first | exact List.mem_cons_self .. | apply List.mem_cons_of_mem)
theorem in_wif : wif ∈ words:=by unfold words;repeat (first | exact List.mem_cons_self .. | apply List.mem_cons_of_mem)
theorem in_wthen : wthen ∈ words:=by unfold words;repeat (first | exact List.mem_cons_self .. | apply List.mem_cons_of_mem)
theorem in_wend : wend ∈ words:=by unfold words;repeat (first | exact List.mem_cons_self .. | apply List.mem_cons_of_mem)
theorem in_wbreak : wbreak ∈ words:=by unfold words;repeat (first | exact List.mem_cons_self .. | apply List.mem_cons_of_mem)
def sameTk (a b : Tk) : Bool:=decide (a = b)
theorem run_sameV (a b : Tk) (w : World) : (binOp BinOp.eql 49 (tokV a) (tokV b)).run Tryz.prog w = .ok (.bool (sameTk a b)) w:=run_same a.1 a.2 b.1 b.2 w
theorem run_otherV (a b : Tk) (w : World) : (binOp BinOp.neq 49 (tokV a) (tokV b)).run Tryz.prog w = .ok (.bool (!sameTk a b)) w:=run_other a.1 a.2 b.1 b.2 w
theorem guard_eqV (x y : Operand) (a b : Tk) (w : World) : (eqGuard BinOp.eql 49 x y (tokV a) (tokV b)).run Tryz.prog w = .ok () w:=by
 unfold tokV
 simp [eqGuard,go_sem]
theorem guard_neV (x y : Operand) (a b : Tk) (w : World) : (eqGuard BinOp.neq 49 x y (tokV a) (tokV b)).run Tryz.prog w = .ok () w:=by
 unfold tokV
 simp [eqGuard,go_sem]
theorem field_kindV (t : Tk) (w : World) : (Instr.field 49 (tokV t) 0).run Tryz.prog w = .ok (.int .i64 t.1) w:=field_kind t.1 t.2 w
theorem same_op {s : ByteArray} {t : Tk} {c : Bool} (h : op s t = c) : sameTk t (13,s) = c:=(op_eq s t).symm.trans h
theorem same_word {s : ByteArray} {t : Tk} {c : Bool} (h : word s t = c) : sameTk t (3,s) = c:=(word_eq s t).symm.trans h
theorem run_look {α : Type} (k : Tk → Pa α) (r : List Tk) : (Pa.look k).run r = (k (tok r)).run r:=rfl
theorem run_ended {α : Type} (k : Bool → Pa α) (r : List Tk) : (Pa.ended k).run r = (k r.isEmpty).run r:=rfl
theorem run_move {α : Type} (k : Pa α) (l : List Tk) (i : Nat) : (Pa.move k).run (l.drop i) = k.run (l.drop (i + 1)):=by
 show k.run (l.drop i).tail = _
 rw [tail_drop]
theorem if_yes {α : Type} {p q : Pa α} : (if true = true then p else q) = p:=if_pos rfl
theorem if_no {α : Type} {p q : Pa α} : (if false = true then p else q) = q:=if_neg (by decide)
theorem tok_lt {E : Env} {i : Nat} {t : Tk} (h : tk E i = t) (hk : t.1 ≠ 0) : i < E.l.length:=tk_lt h (fun e=>hk (by rw [e];rfl))
theorem op_kind {s : ByteArray} {t : Tk} (h : op s t = true) : t.1 ≠ 0:=by
 unfold op at h
 simp only [Bool.and_eq_true,beq_iff_eq] at h
 omega
theorem word_kind {s : ByteArray} {t : Tk} (h : word s t = true) : t.1 ≠ 0:=by
 unfold word at h
 simp only [Bool.and_eq_true,beq_iff_eq] at h
 omega
theorem op_text {s : ByteArray} {t : Tk} (h : op s t = true) : t.2 = s:=by
 unfold op at h
 simp only [Bool.and_eq_true,decide_eq_true_eq] at h
 exact h.2
theorem word_text {s : ByteArray} {t : Tk} (h : word s t = true) : t.2 = s:=by
 unfold word at h
 simp only [Bool.and_eq_true,decide_eq_true_eq] at h
 exact h.2
theorem run_tail {α : Type} {p : Pa α} {r : List Tk} {o : Out α} (h : p.run r = some o) : (p.bind .ret).run r = some o:=by rw [bind_ret];exact h
def FT (E : Env) (q : Pa Nd) (v : Value) (W : World) : Prop :=
 ∃ g fa lb,v = .func (.func g) fa lb ∧ (∀ args w,(callFunc g args).run Tryz.prog w = .ok (.enter g args) w) ∧ ∀ W',Kp E W W' → ∀ i o,Ps E W' i → q.run (E.l.drop i) = some o → Calls Tryz.prog g (fa ++ lb) W' (Post E RN W' o)
abbrev Enters (g : FuncId) : Prop:=∀ args w,(callFunc g args).run Tryz.prog w = .ok (.enter g args) w
end Go.Proofs.YtlklhkkjcfmefaaGreatDoor.pa
