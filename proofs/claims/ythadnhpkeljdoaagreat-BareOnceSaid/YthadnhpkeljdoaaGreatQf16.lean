/- Ground of the law: NdCount, NdClone, PaP2, LxTurn. -/
import Derived.Test.YthadnhpkeljdoaaGreatQf13
import Derived.Shelf.Abstract
import Derived.Laws.EntriesVeiled
import Derived.Test.YthadnhpkeljdoaaGreatQf00
import Derived.Test.YthadnhpkeljdoaaGreatQf03
set_option maxRecDepth 100000
set_option maxHeartbeats 8000000
set_option linter.unusedVariables false
set_option linter.unusedSimpArgs false
namespace Go.Proofs.YthadnhpkeljdoaaGreat.nd
open Go.RowKit Go.Shelf sx ed
attribute [local go_sem] Oper.semAt_some
def IB (w : World) (D : Nat → Prop) (W : World) : Prop:=Below w.heap.size w W ∧ ∀ k,D k → w.heap.size ≤ k
theorem IB.ab {w : World} {D D' : Nat → Prop} {A B : World} (h : IB w D A) (hb : But A.heap.size D A B) (hD : ∀ k,D' k → D k ∨ A.heap.size ≤ k) : IB w D' B :=
 ⟨h.1.trans ⟨hb.os,hb.tape,hb.output,hb.size,fun k hk=>hb.block k (Nat.lt_of_lt_of_le hk h.1.size) (fun e=>by have:=h.2 k e;omega)⟩,fun k hk=>by
  rcases hD k hk with e | e
  ·exact h.2 k e
  ·have:=h.1.size;omega⟩
theorem IB.own {w W : World} {D : Nat → Prop} {row : Option Nat} {B : Nat} {W' : World} (h : IB w D W) (hB : w.heap.size ≤ B) (hg : W.grownBy W' row) (hr : ∀ r,row = some r → B ≤ r) : IB w D W' :=
 ⟨h.1.grown hg h.1.size (fun k e=>by have:=hr k e;omega),h.2⟩
def BX (N : Nat) (t : TypeId) (v : Value) (D : Nat → Prop) (W : World) : Prop:=Boxed W N t v ∧ ¬ D N
theorem BX.ab {N : Nat} {t : TypeId} {v : Value} {D D' : Nat → Prop} {A B : World} (h : BX N t v D A) (hb : But A.heap.size D A B) (hD : ∀ k,D' k → D k ∨ A.heap.size ≤ k) : BX N t v D' B :=
 ⟨(hb.block N (Boxed.lt h.1) h.2).trans h.1,fun e=>by
  rcases hD N e with e | e
  ·exact h.2 e
  ·have:=Boxed.lt h.1;omega⟩
theorem BX.own {N : Nat} {t : TypeId} {v : Value} {D : Nat → Prop} {W W' : World} {row : Option Nat} (h : BX N t v D W) (hg : W.grownBy W' row) (hr : ∀ r,row = some r → ∃ o : Obj,W.heap[r]? = some o ∧ o.isCells = false) : BX N t v D W' :=
 ⟨boxed_own N t (fun (_ : Unit)=>v) () W W' row h.1 hg hr,h.2⟩
end Go.Proofs.YthadnhpkeljdoaaGreat.nd
namespace Go.Proofs.YthadnhpkeljdoaaGreat.nd
open Go.RowKit Go.Shelf sx ed
theorem clone_calls (t : ByteArray) (ht : t.size ≤ 140737488351232) (W : World) : Calls Tryz.prog 48 #[.string t] W fun e w'=>e = .returned (.string t) ∧ Below W.heap.size W w':=by
 have h:=Tryz.stringslite_Clone t W (by omega)
 go_enter Tryz.func48,Tryz.ntmps48
 go_wp2_with (go_at_call 64;refine h.mono ?_;rintro e w' ⟨rfl,hb⟩)
 go_ret
 exact ⟨rfl,hb⟩
theorem at_calls (x : Nd) (hwt : x.weight ≤ 1000000) (l : List Int) (w : World) (v p : Value) (hu : NdAt (Lt w.heap.size) w x v) (hpt : IntsAt (Lt w.heap.size) w p l) :
  Calls Tryz.prog 26 #[v,p] w (AtRes w (x.at l)):=at_of clone_calls x hwt l w v p hu hpt
theorem with_calls (x y : Nd) (hwx : x.weight ≤ 500000) (hwy : y.weight ≤ 500000) (l : List Int) (w : World) (v p u : Value) (hx : NdAt (Lt w.heap.size) w x v) (hpt : IntsAt (Lt w.heap.size) w p l) (hy : NdAt (Lt w.heap.size) w y u) :
  Calls Tryz.prog 28 #[v,p,u] w (AtRes w (x.put l y)):=with_of clone_calls x y hwx hwy l w v p u hx hpt hy
end Go.Proofs.YthadnhpkeljdoaaGreat.nd
namespace Go.Proofs.YthadnhpkeljdoaaGreat.pa
open Go.RowKit nd pr sx ed
theorem bytes_eq (a b : ByteArray) : a.toList = b.toList ↔ a = b:=by
 rw [Lib.toList_data,Lib.toList_data]
 constructor
 ·intro e
  cases a;cases b
  rename_i a b
  cases a;cases b
  exact congrArg _ (congrArg _ e)
 ·rintro rfl;rfl
theorem tk_lt {E : Env} {i : Nat} {t : Tk} (h : tk E i = t) (ht : t ≠ noTk) : i < E.l.length:=by
 rcases Nat.lt_or_ge i E.l.length with h' | h'
 ·exact h'
 ·exact absurd (h.symm.trans (tk_end h')) ht
end Go.Proofs.YthadnhpkeljdoaaGreat.pa
namespace Go.Proofs.YthadnhpkeljdoaaGreat.lx
open Go.RowKit Go.Shelf
open sg (lst_len extract_drop ext_size)
open sx
theorem toList_eq (s : ByteArray) : s.toList = s.data.toList:=Lib.toList_data s
end Go.Proofs.YthadnhpkeljdoaaGreat.lx
