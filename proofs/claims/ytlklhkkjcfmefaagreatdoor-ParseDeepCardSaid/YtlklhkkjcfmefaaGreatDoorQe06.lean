/- Ground of the law: NdCells. -/
import Derived.Test.YtlklhkkjcfmefaaGreatDoorQe04
import Derived.Lib.AppendZeros
import Derived.Lib.SliceRun
import Derived.Laws.AppendOwnNone
import Derived.Maps.AppendAt
import Derived.IntWalk
import Derived.Test.YtlklhkkjcfmefaaGreatDoorProg
set_option maxRecDepth 100000
set_option maxHeartbeats 8000000
set_option linter.unusedVariables false
set_option linter.unusedSimpArgs false
namespace Go.Proofs.YtlklhkkjcfmefaaGreatDoor.nd
open Go.RowKit sx
def CellsOf (S : Nat → Prop) (W : World) : Fo → List Value → Prop
 | .nil,L=>L = []
 | .cons k t kids r,L=>∃ v L',L = .int .i64 k :: .string t :: v :: L' ∧ KidsAt S W kids v ∧ CellsOf S W r L'
theorem CellsOf.keep {S S' : Nat → Prop} {W W' : World} (hS : ∀ k,S k → S' k) (h : ∀ k,S k → W'.heap[k]? = W.heap[k]?) : ∀ {f : Fo} {L : List Value},CellsOf S W f L → CellsOf S' W' f L
 | .nil,_,e=>e
 | .cons _ _ _ _,_,⟨v,L',e,hk,hr⟩=>⟨v,L',e,hk.keep hS h,hr.keep hS h⟩
theorem CellsOf.len {S : Nat → Prop} {W : World} : ∀ {f : Fo} {L : List Value},CellsOf S W f L → L.length = f.len * 3
 | .nil,_,e=>by rw [show _ = [] from e];rfl
 | .cons _ _ _ _,_,⟨v,L',e,hk,hr⟩=>by rw [e];have:=CellsOf.len hr;simp [Fo.len,this];omega
theorem CellsOf.one {S : Nat → Prop} {W : World} : ∀ {f : Fo} {L : List Value},CellsOf S W f L → ∀ u ∈ L,u.oneCell' = true
 | .nil,_,e,u,hu=>by rw [show _ = [] from e] at hu;cases hu
 | .cons _ _ _ _,_,⟨v,L',e,⟨ao,cap,hv,_⟩,hr⟩,u,hu=>by
  rw [e] at hu
  simp only [List.mem_cons] at hu
  rcases hu with rfl | rfl | rfl | hu
  ·rfl
  ·rfl
  ·rw [hv];rfl
  ·exact CellsOf.one hr u hu
theorem CellsOf.app {S : Nat → Prop} {W : World} : ∀ {f g : Fo} {L M : List Value},CellsOf S W f L → CellsOf S W g M → CellsOf S W (f.app g) (L ++ M)
 | .nil,_,_,_,e,h=>by rw [show _ = [] from e];exact h
 | .cons _ _ _ _,_,_,_,⟨v,L',e,hk,hr⟩,h=>⟨v,L' ++ _,by rw [e];rfl,hk,CellsOf.app hr h⟩
theorem CellsOf.row {S : Nat → Prop} {W : World} {g : Nat} : ∀ {f : Fo} {L : List Value} {o : Nat},CellsOf S W f L → (∀ j u,L[j]? = some u → W.cell? ⟨g,o + j,none⟩ = some u) → RowAt S W g o f
 | .nil,_,_,_,_=>trivial
 | .cons k t kids r,_,o,⟨v,L',e,hk,hr⟩,h=>by
  obtain ⟨ao,cap,rfl,hm,hx⟩:=hk
  subst e
  refine ⟨by simpa using h 0 _ rfl,by simpa using h 1 _ rfl,⟨ao,cap,by simpa using h 2 _ rfl,hm,hx⟩,CellsOf.row hr fun j u hj=>?_⟩
  have:=h (j + 3) u (by simpa using hj)
  rw [show o + 3 + j = o + (j + 3) by omega]
  exact this
theorem addr_add (g o j : Nat) : (⟨g,o,none⟩ : Addr).add j = ⟨g,o + j,none⟩:=by
 unfold Addr.add
 by_cases hj : j = 0
 ·subst hj;rfl
 ·simp [hj]
theorem own_kids {S S' : Nat → Prop} {W : World} {base : Nat} {e : TypeId} {v : Value} {f : Fo} {L : List Value} (h : W.ownsRow base e 3 v f.len L) (hc : CellsOf S W f L) (hS : ∀ k,S k → S' k) (hv : ∀ k,v.ownBlock = some k → S' k) : KidsAt S' W f v:=by
 rcases h.2 with ⟨rfl,h0⟩ | ⟨g,cap,cur,rfl,h2,h3,h4,h5,h6,h7⟩
 ·rw [Fo.len_zero h0];exact kids_nil _ _ _ _
 ·refine ⟨_,cap,rfl,Nat.le_trans h4 h5,fun hn=>⟨g,0,rfl,hv g rfl,(CellsOf.row (o:=0) hc fun j u hj=>?_).keep hS (fun _ _=>rfl) rfl⟩⟩
  have:=h.cells (g:=g) rfl j u hj
  rw [addr_add] at this
  exact this
theorem infoN : (Tryz.prog.info? 32).map (fun i=>(i.zero,i.size,i.bytes)) = some (some (.agg #[.int .i64 0,.string ⟨#[]⟩,.slice none 0 0]),3,48):=by kernel_rfl
theorem own_len' {W : World} {base size n : Nat} {e : TypeId} {v : Value} {xs : List Value} (h : W.ownsRow base e size v n xs) : ∃ ao cap,v = .slice ao n cap ∧ n ≤ cap:=by
 rcases h.2 with ⟨rfl,h0⟩ | ⟨g,cap,cur,rfl,h2,h3,h4⟩
 ·exact ⟨none,0,by rw [h0],by omega⟩
 ·exact ⟨_,cap,rfl,h4.1⟩
end Go.Proofs.YtlklhkkjcfmefaaGreatDoor.nd
