/- Ground of the law: PvA, SgSpec, NdSpec, SeqX, RegionInv, PrSpec, Law, EdIn, UtfRune. -/
import Derived.Laws.AppendOwn
import Derived.Laws.AppendOwnNone
import Derived.Orders
import Derived.Below
import Derived.Carry
import Derived.Lib.Strings
import Derived.WalkKit
import Derived.RangeFuncNested
import Derived.RangeFuncBound
import Derived.RangeFuncCalls
import Derived.RangeFuncLeaves
import Derived.RangeFuncBox
import Derived.OwnWalkIn
import Derived.TacticsInMore
import Derived.OrdersIn
import Derived.TacticsIn
import Derived.Lib.Bytealg
import Derived.ProofKit
import Derived.OpenShut
import Derived.ChangeMaps5
import Derived.ChangeSlices
import Derived.Test.YthadnhpkeljdoaaRows
import Derived.Deep.QuietTactic
import Derived.BigQuiet
import Derived.Lib.Hide
import Derived.Lib.RuneCount
import Derived.Laws.RangeAny
import Derived.Test.YthadnhpkeljdoaaQh00
set_option maxRecDepth 100000
set_option maxHeartbeats 8000000
set_option linter.unusedVariables false
set_option linter.unusedSimpArgs false
namespace Go.Proofs.Ythadnhpkeljdoaa.pv
open Go.RowKit
inductive Tk where
  | no
  | nil
  | own (t e sz : Nat)
inductive D where
  | junk
  | und
  | num (n : Nat)
  | v (x : Value)
  | agg (l : List D)
  | tup (l : List D)
  | sl (k : Tk) (es : List (List D))
  | ptr (b off : Nat)
  | el (l : List D) (off : Nat)
abbrev Mem:=List (Nat × Nat × D)
def look : Mem → Nat → Nat → D
  | [],_,_=>.junk
  | (a,b,d) :: r,x,y=>bif a.beq x && b.beq y then d else look r x y
def has : Mem → Nat → Nat → Bool
  | [],_,_=>false
  | (a,b,_) :: r,x,y=>bif a.beq x && b.beq y then true else has r x y
theorem look_app : ∀ (p m : Mem) (x y : Nat),look (p ++ m) x y = if has p x y then look p x y else look m x y
  | [],m,x,y=>by simp [has]
  | (a,b,d) :: r,m,x,y=>by
    by_cases h : (a.beq x && b.beq y) = true
    · simp [look,has,h]
    · have h' : (a.beq x && b.beq y) = false:=Bool.eq_false_iff.2 h
      simp only [List.cons_append,look,has,h',cond_false]
      exact look_app r m x y
structure Tok where
  v : Value
  e : TypeId
  sz : Nat
  n : Nat
  xs : List Value
structure Gh where
  base : Nat
  imm : Nat → Nat → Prop
  box : Nat → Option (Nat × TypeId × Nat)
  tok : Nat → Option Tok
def TkOk (G : Gh) (a : Option Addr) (cap n sz : Nat) : Tk → Prop
  | .no=>True
  | .nil=>n = 0 ∧ a = none ∧ cap = 0
  | .own t e s=>s = sz ∧ ∃ T,G.tok t = some T ∧ T.e = e ∧ T.sz = s ∧ n ≤ T.n ∧ (n = T.n → Value.slice a n cap = T.v)
def noOwn : D → Bool
  | .sl (.own _ _ _) _=>false
  | _=>true
inductive RepC (G : Gh) (w : World) : Value → D → Prop
  | junk (x : Value) : x.oneCell' = true → RepC G w x .junk
  | v (x : Value) : x.oneCell' = true → RepC G w x (.v x)
  | sl (a : Option Addr) (cap : Nat) (k : Tk) (es : List (List D)) (g o sz : Nat) (xs : Nat → Nat → Value)
      (ha : es ≠ [] → a = some ⟨g,o,none⟩)
      (hc : ∀ (i : Nat) (e : List D) (j : Nat) (d : D),es[i]? = some e → e[j]? = some d → w.cell? ⟨g,o + (i * sz + j),none⟩ = some (xs i j) ∧ G.imm g (o + (i * sz + j)))
      (hr : ∀ (i : Nat) (e : List D) (j : Nat) (d : D),es[i]? = some e → e[j]? = some d → RepC G w (xs i j) d)
      (hl : ∀ e ∈ es,e.length = sz ∧ e.all noOwn = true) (hm : es.length ≤ maxLen ∧ es.length ≤ cap)
      (hk : TkOk G a cap es.length sz k) : RepC G w (.slice a es.length cap) (.sl k es)
inductive RepV (G : Gh) (w : World) : Value → D → Prop
  | c {x : Value} {d : D} : RepC G w x d → RepV G w x d
  | agg (vs : Array Value) (l : List D) : vs.size = l.length → (∀ (i : Nat) (x : Value) (d : D),vs[i]? = some x → l[i]? = some d → RepC G w x d) → RepV G w (.agg vs) (.agg l)
inductive Rep (G : Gh) (w : World) : Value → D → Prop
  | v {x : Value} {d : D} : RepV G w x d → Rep G w x d
  | any (x : Value) : Rep G w x .junk
  | und : Rep G w undef .und
  | tup (vs : Array Value) (l : List D) : vs.size = l.length → (∀ (i : Nat) (x : Value) (d : D),vs[i]? = some x → l[i]? = some d → RepV G w x d) → Rep G w (.tuple vs) (.tup l)
  | ptr (b off g n : Nat) (ty : TypeId) : G.box b = some (g,ty,n) → Rep G w (.pointer (some ⟨g,off,none⟩)) (.ptr b off)
  | el (g o : Nat) (l : List D) (off : Nat) (xs : Nat → Value) (hc : ∀ (j : Nat) (d : D),l[j]? = some d → w.cell? ⟨g,o + j,none⟩ = some (xs j) ∧ G.imm g (o + j)) (hr : ∀ (j : Nat) (d : D),l[j]? = some d → RepC G w (xs j) d) :
      Rep G w (.pointer (some ⟨g,o + off,none⟩)) (.el l off)
structure Step (G : Gh) (w : World) (G' : Gh) (w' : World) : Prop where
  imm : ∀ g i,G.imm g i → G'.imm g i
  cell : ∀ g i,G.imm g i → w'.cell? ⟨g,i,none⟩ = w.cell? ⟨g,i,none⟩
  box : ∀ b x,G.box b = some x → G'.box b = some x
  tok : ∀ t T,G.tok t = some T → ∃ T',G'.tok t = some T' ∧ (T'.e = T.e ∧ T'.sz = T.sz) ∧ T.n ≤ T'.n ∧ (T'.n = T.n → T'.v = T.v)
theorem Step.refl (G : Gh) (w : World) : Step G w G w:=⟨fun _ _ h=>h,fun _ _ _=>rfl,fun _ _ h=>h,fun t T h=>⟨T,h,⟨rfl,rfl⟩,Nat.le_refl _,fun _=>rfl⟩⟩
theorem TkOk.mono {G G' : Gh} {w w' : World} (h : Step G w G' w') {a : Option Addr} {cap n sz : Nat} : ∀ {k : Tk},TkOk G a cap n sz k → TkOk G' a cap n sz k
  | .no,_=>trivial
  | .nil,hk=>hk
  | .own t e s,⟨h0,T,h1,h2,h2',h3,h4⟩=>by
    obtain ⟨T',e1,e2,e3,e4⟩:=h.tok t T h1
    exact ⟨h0,T',e1,e2.1.trans h2,e2.2.trans h2',Nat.le_trans h3 e3,fun e=>by
      have hn : T'.n = T.n:=Nat.le_antisymm (by omega) e3
      rw [e4 hn];exact h4 (by omega)⟩
theorem RepC.mono {G G' : Gh} {w w' : World} (h : Step G w G' w') {x : Value} {d : D} (hx : RepC G w x d) : RepC G' w' x d:=by
  induction hx with
  | junk x hx=>exact .junk x hx
  | v x hx=>exact .v x hx
  | sl a cap k es g o sz xs ha hc hr hl hm hk ih =>
    exact .sl a cap k es g o sz xs ha (fun i e j d hi hj=>⟨(h.cell _ _ (hc i e j d hi hj).2).trans (hc i e j d hi hj).1,h.imm _ _ (hc i e j d hi hj).2⟩) (fun i e j d hi hj=>ih i e j d hi hj) hl hm (hk.mono h)
theorem RepV.mono {G G' : Gh} {w w' : World} (h : Step G w G' w') {x : Value} {d : D} (hx : RepV G w x d) : RepV G' w' x d:=by
  cases hx with
  | c hx=>exact .c (hx.mono h)
  | agg vs l hs hr=>exact .agg vs l hs fun i x d hi hj=>(hr i x d hi hj).mono h
theorem Rep.mono {G G' : Gh} {w w' : World} (h : Step G w G' w') {x : Value} {d : D} (hx : Rep G w x d) : Rep G' w' x d:=by
  cases hx with
  | v hx=>exact .v (hx.mono h)
  | any=>exact .any _
  | und=>exact .und
  | tup vs l hs hr=>exact .tup vs l hs fun i x d hi hj=>(hr i x d hi hj).mono h
  | ptr b off g n ty hb=>exact .ptr b off g n ty (h.box _ _ hb)
  | el g o l off xs hc hr=>exact .el g o l off xs (fun j d hj=>⟨(h.cell _ _ (hc j d hj).2).trans (hc j d hj).1,h.imm _ _ (hc j d hj).2⟩) fun j d hj=>(hr j d hj).mono h
def Blk (W : World) (B : Nat) (t : TypeId) (vs : Array Value) : Prop:=W.heap[B]? = some (.cells vs t (0,0))
theorem Blk.lt {W : World} {B : Nat} {t : TypeId} {v : Array Value} (h : Blk W B t v) : B < W.heap.size:=(Array.getElem?_eq_some_iff.1 h).1
theorem Blk.cell {W : World} {B : Nat} {t : TypeId} {v : Array Value} (h : Blk W B t v) (i : Nat) : W.cell? ⟨B,i,none⟩ = v[i]?:=by simp [World.cell?,show W.heap[B]? = _ from h]
structure GOk (G : Gh) (w : World) : Prop where
  base : G.base ≤ w.heap.size
  imm : ∀ g i,G.imm g i → g < w.heap.size
  box : ∀ b g ty n,G.box b = some (g,ty,n) → G.base ≤ g ∧ ∃ vs,Blk w g ty vs ∧ vs.size = n
  boxImm : ∀ b g ty n i,G.box b = some (g,ty,n) → ¬ G.imm g i
  boxInj : ∀ b b' g ty ty' n n',G.box b = some (g,ty,n) → G.box b' = some (g,ty',n') → b = b'
  tok : ∀ t T,G.tok t = some T → 0 < T.sz ∧ w.ownsRow G.base T.e T.sz T.v T.n T.xs ∧ ∀ g,T.v.ownBlock = some g → ∀ i,i < T.n * T.sz → G.imm g i
  tokImm : ∀ t T g i,G.tok t = some T → T.v.ownBlock = some g → G.imm g i → i < T.n * T.sz
  tokInj : ∀ t t' T T' g,G.tok t = some T → G.tok t' = some T' → T.v.ownBlock = some g → T'.v.ownBlock = some g → t = t'
  tokBox : ∀ t T b g ty n,G.tok t = some T → T.v.ownBlock = some g → G.box b ≠ some (g,ty,n)
structure Cells (G : Gh) (w : World) (m : Mem) : Prop where
  val : ∀ b g ty n,G.box b = some (g,ty,n) → ∀ i x,w.cell? ⟨g,i,none⟩ = some x → RepC G w x (look m (b + 2) i)
  out : ∀ b i,(∀ g ty n,G.box b = some (g,ty,n) → n ≤ i) → look m (b + 2) i = .junk
def Toks (G : Gh) (m : Mem) : Prop:=∀ t n,look m 1 t = .num n → ∃ T,G.tok t = some T ∧ T.n = n
structure After (G : Gh) (w : World) (id : Nat) (ws : Mem) (G' : Gh) (w' : World) : Prop where
  step : Step G w G' w'
  ok : GOk G' w'
  base : G'.base = G.base
  below : Below G.base w w'
  cells : ∀ m,Cells G w m → Cells G' w' (ws ++ m)
  toks : ∀ m,Toks G m → Toks G' (ws ++ m)
  box : ∀ b x,G'.box b = some x → G.box b = some x ∨ b = id
  tokf : ∀ t T,G'.tok t = some T → (∃ T',G.tok t = some T') ∨ t = id
  immo : ∀ g i,g < G.base → G'.imm g i → G.imm g i
  slot : ∀ m y,look (ws ++ m) 0 y = look m 0 y
theorem After.same {G : Gh} {w : World} (id : Nat) (h : GOk G w) : After G w id [] G w :=
  ⟨.refl _ _,h,rfl,.refl _ _,fun _ h=>h,fun _ h=>h,fun _ _ h=>.inl h,fun _ T h=>.inl ⟨T,h⟩,fun _ _ _ h=>h,fun _ _=>rfl⟩
def OpOk (P : Program) (o : Oper) (G : Gh) (a : Act) (w : World) (id : Nat) (d : D) (ws : Mem) : Prop :=
  ∀ (K : Act → World → Prop) (Q : Exit → Act → World → Prop),(∀ v G' w',After G w id ws G' w' → Rep G' w' v d → K (a.put o.dst v) w') → o.wp P a w K Q
theorem OpOk.of_run {P : Program} {o : Oper} {G : Gh} {a : Act} {w : World} {id : Nat} {d : D} {ws : Mem} {v : Value} {w' : World} {G' : Gh} (hr : (execOp a.eval o).run P w = .ok (.value v) w')
    (ha : After G w id ws G' w') (hd : Rep G' w' v d) : OpOk P o G a w id d ws:=fun K Q h=>by
  unfold Oper.wp
  rw [hr]
  exact h v G' w' ha hd
theorem OpOk.of_skip {P : Program} {o : Oper} {G : Gh} {a : Act} {w : World} {id : Nat} {ws : Mem} {w' : World} {G' : Gh} (hr : (execOp a.eval o).run P w = .ok .skip w')
    (ha : After G w id ws G' w') : OpOk P o G a w id .und ws:=fun K Q h=>by
  unfold Oper.wp
  rw [hr]
  exact h undef G' w' ha .und
theorem OpOk.pure {P : Program} {o : Oper} {G : Gh} {a : Act} {w : World} {id : Nat} {d : D} {v : Value} (hG : GOk G w) (hr : (execOp a.eval o).run P w = .ok (.value v) w) (hd : Rep G w v d) : OpOk P o G a w id d [] :=
  .of_run hr (.same id hG) hd
end Go.Proofs.Ythadnhpkeljdoaa.pv
namespace Go.Proofs.Ythadnhpkeljdoaa.Sg
def cL (n : Int) : Bool:=n == 95 || (decide (97 ≤ n) && decide (n ≤ 122)) || (decide (65 ≤ n) && decide (n ≤ 90))
def cD (n : Int) : Bool:=decide (48 ≤ n) && decide (n ≤ 57)
def cB (n : Int) : Bool:=n == 32 || n == 9 || n == 10 || n == 13
def cW (n : Int) : Bool:=cL n || cD n
def cH (n : Int) : Bool:=cD n || (decide (97 ≤ n) && decide (n ≤ 102)) || (decide (65 ≤ n) && decide (n ≤ 70))
def run (p : Int → Bool) : List UInt8 → Nat
  | []=>0
  | b :: r=>if p (b.toNat : Int) then run p r + 1 else 0
def at' (p : Int → Bool) (l : List UInt8) (k : Nat) : Bool:=decide (k < l.length) && p ((l.getD k 0).toNat : Int)
theorem run_le (p : Int → Bool) (l : List UInt8) : run p l ≤ l.length:=by
  induction l with
  | nil=>exact Nat.le_refl _
  | cons b r ih=>simp only [run,List.length_cons];split <;> omega
theorem run_step (p : Int → Bool) (l : List UInt8) (k : Nat) : run p l = run p (l.take k) + (if run p (l.take k) = min k l.length then run p (l.drop k) else 0):=by
  induction l generalizing k with
  | nil=>simp [run]
  | cons b r ih =>
    cases k with
    | zero=>simp [run]
    | succ k =>
      have h:=ih k
      have hl:=run_le p (r.take k)
      rw [List.length_take] at hl
      simp only [List.take_succ_cons,List.drop_succ_cons,run,List.length_cons]
      split
      · rename_i hp
        rw [h]
        by_cases e : run p (r.take k) = min k r.length
        · rw [if_pos e,if_pos (by omega)];omega
        · rw [if_neg e,if_neg (by omega)]
      · rw [if_neg (by omega)]
def stop (p : Int → Bool) (r : List UInt8) : Prop:=∀ b,r.head? = some b → p (b.toNat : Int) = false
theorem stop_nil (p : Int → Bool) : stop p []:=by simp [stop]
theorem stop_cons {p : Int → Bool} {b : UInt8} (h : p (b.toNat : Int) = false) (r : List UInt8) : stop p (b :: r):=by simp [stop,h]
theorem run_stop {p : Int → Bool} {r : List UInt8} (h : stop p r) : run p r = 0:=by
  cases r with
  | nil=>rfl
  | cons b r=>simp only [run];rw [h b rfl];rfl
theorem run_all {p : Int → Bool} {l : List UInt8} (h : run p l = l.length) (r : List UInt8) : run p (l ++ r) = l.length + run p r:=by
  induction l with
  | nil=>simp
  | cons b t ih =>
    simp only [run,List.length_cons,List.cons_append] at h ⊢
    split at h
    · rename_i hp
      rw [if_pos hp,ih (by omega)];omega
    · omega
theorem run_eq {p : Int → Bool} {l : List UInt8} {k : Nat} (h : run p (l.take k) = k) (hs : stop p (l.drop k)) : run p l = k:=by
  have:=run_step p l k
  rw [h,run_stop hs] at this
  split at this <;> omega
theorem run_snoc {p : Int → Bool} {l : List UInt8} {k : Nat} (hk : k < l.length) (h : run p (l.take k) = k) (hp : p ((l.getD k 0).toNat : Int) = true) : run p (l.take (k + 1)) = k + 1:=by
  rw [List.take_succ_eq_append_getElem hk]
  have hl : (l.take k).length = k:=by rw [List.length_take];omega
  rw [run_all (by rw [h,hl]),hl]
  have e : l.getD k 0 = l[k]:=by simp [List.getD,hk]
  rw [e] at hp
  simp [run,hp]
theorem drop_head {l : List UInt8} {k : Nat} (hk : k < l.length) : l.drop k = l.getD k 0 :: l.drop (k + 1):=by
  have e : l.getD k 0 = l[k]:=by simp [List.getD,hk]
  rw [e];exact List.drop_eq_getElem_cons hk
def simple (l : List UInt8) : Nat:=if at' cL l 0 then run cW l else 0
def further (l : List UInt8) : Nat:=if Lib.hasPrefix l [58,58] then (if simple (l.drop 2) = 0 then 0 else 2 + simple (l.drop 2)) else 0
def tail : Nat → List UInt8 → Nat
  | 0,_=>0
  | f + 1,l=>if further l = 0 then 0 else further l + tail f (l.drop (further l))
def word (l : List UInt8) : Nat:=if simple l = 0 then 0 else simple l + tail l.length (l.drop (simple l))
def decimal (l : List UInt8) : Nat :=
  if at' (· == 46) l (run cD l) then
    (if run cD l + run cD (l.drop (run cD l + 1)) = 0 then 0 else run cD l + 1 + run cD (l.drop (run cD l + 1)))
  else run cD l
def signs (l : List UInt8) : Nat:=if at' (fun n=>n == 43 || n == 45) l 1 then 2 else 1
def exponent (l : List UInt8) : Nat :=
  if at' (fun n=>n == 101 || n == 69) l 0 then (if run cD (l.drop (signs l)) = 0 then 0 else signs l + run cD (l.drop (signs l))) else 0
def number (l : List UInt8) : Nat:=if decimal l = 0 then 0 else decimal l + exponent (l.drop (decimal l))
def opers : List (List UInt8):=[[63,47,47],[47,47,61],[33,61],[61,61],[60,61],[62,61],[124,61],[43,61],[45,61],[42,61],[47,61],[37,61],[47,47],[46,46],
  [46],[91],[93],[40],[41],[123],[125],[44],[58],[59],[61],[124],[43],[45],[42],[47],[37],[60],[62],[63]]
def oper (l : List UInt8) : Nat:=match opers.find? (fun o=>Lib.hasPrefix l o) with
  | some o=>o.length
  | none=>0
def cE (n : Int) : Bool:=n == 34 || n == 92 || n == 47 || n == 98 || n == 102 || n == 110 || n == 114 || n == 116
def escape (l : List UInt8) : Nat:=if at' (· == 92) l 0 then (if at' cE l 1 then 2 else if at' (· == 117) l 1 && decide (4 ≤ run cH (l.drop 2)) then 6 else 0) else 0
def keys : List (List UInt8):=[[97,110,100],[97,115],[98,114,101,97,107],[99,97,116,99,104],[100,101,102],[101,108,105,102],[101,108,115,101],[101,110,100],[102,111,114,101,97,99,104],[105,102],[105,109,112,111,114,116],[105,110,99,108,117,100,101],[108,97,98,101,108],[109,111,100,117,108,101],[111,114],[114,101,100,117,99,101],[116,104,101,110],[116,114,121]]
def key (l : List UInt8) : Bool:=keys.contains l
def plain (l : List UInt8) : Bool:=!l.isEmpty && decide (simple l = l.length) && !key l
theorem simple_le (l : List UInt8) : simple l ≤ l.length:=by unfold simple;split;exact run_le _ _;exact Nat.zero_le _
theorem further_le (l : List UInt8) : further l ≤ l.length:=by
  unfold further
  split
  · rename_i h
    have:=simple_le (l.drop 2)
    rw [List.length_drop] at this
    split
    · exact Nat.zero_le _
    · omega
  · exact Nat.zero_le _
theorem tail_le (f : Nat) (l : List UInt8) : tail f l ≤ l.length:=by
  induction f generalizing l with
  | zero=>exact Nat.zero_le _
  | succ f ih =>
    simp only [tail]
    have h:=further_le l
    have:=ih (l.drop (further l))
    rw [List.length_drop] at this
    split <;> omega
theorem word_le (l : List UInt8) : word l ≤ l.length:=by
  unfold word
  have h:=simple_le l
  have:=tail_le l.length (l.drop (simple l))
  rw [List.length_drop] at this
  split <;> omega
theorem decimal_le (l : List UInt8) : decimal l ≤ l.length:=by
  unfold decimal at'
  have h:=run_le cD l
  have h2:=run_le cD (l.drop (run cD l + 1))
  rw [List.length_drop] at h2
  split
  · rename_i hp
    rw [Bool.and_eq_true,decide_eq_true_eq] at hp
    split <;> omega
  · exact h
theorem signs_le (l : List UInt8) (h : at' (fun n=>n == 101 || n == 69) l 0 = true) : signs l ≤ l.length:=by
  unfold signs
  unfold at' at h ⊢
  rw [Bool.and_eq_true,decide_eq_true_eq] at h
  split
  · rename_i hp;rw [Bool.and_eq_true,decide_eq_true_eq] at hp;omega
  · omega
theorem exponent_le (l : List UInt8) : exponent l ≤ l.length:=by
  unfold exponent
  split
  · rename_i h
    have h1:=signs_le l h
    have h2:=run_le cD (l.drop (signs l))
    rw [List.length_drop] at h2
    split <;> omega
  · exact Nat.zero_le _
theorem number_le (l : List UInt8) : number l ≤ l.length:=by
  unfold number
  have h:=decimal_le l
  have h2:=exponent_le (l.drop (decimal l))
  rw [List.length_drop] at h2
  split <;> omega
theorem pre_length {l o : List UInt8} (h : Lib.hasPrefix l o = true) : o.length ≤ l.length:=by
  unfold Lib.hasPrefix at h
  exact (List.isPrefixOf_iff_prefix.1 h).length_le
theorem oper_le (l : List UInt8) : oper l ≤ l.length:=by
  unfold oper
  cases h : opers.find? (fun o=>Lib.hasPrefix l o) with
  | none=>exact Nat.zero_le _
  | some o=>exact pre_length (List.find?_some h)
theorem escape_le (l : List UInt8) : escape l ≤ l.length:=by
  unfold escape
  have h2:=run_le cH (l.drop 2)
  rw [List.length_drop] at h2
  split
  · split
    · rename_i hp;unfold at' at hp;rw [Bool.and_eq_true,decide_eq_true_eq] at hp;omega
    · split
      · rename_i hp;rw [Bool.and_eq_true,decide_eq_true_eq] at hp;omega
      · omega
  · omega
theorem at_lt {p : Int → Bool} {l : List UInt8} {k : Nat} (h : at' p l k = true) : k < l.length:=by
  unfold at' at h;rw [Bool.and_eq_true,decide_eq_true_eq] at h;exact h.1
theorem LW0 (n : Int) (h : cL n = true) : cW n = true:=by simp [cW,h]
end Go.Proofs.Ythadnhpkeljdoaa.Sg
namespace Go.Proofs.Ythadnhpkeljdoaa.nd
inductive Fo where
  | nil
  | cons (k : Int) (t : ByteArray) (kids rest : Fo)
structure Nd where
  k : Int
  t : ByteArray
  kids : Fo
namespace Fo
def len : Fo → Nat
  | nil=>0
  | cons _ _ _ r=>r.len + 1
def get? : Fo → Nat → Option Nd
  | nil,_=>none
  | cons k t kids _,0=>some ⟨k,t,kids⟩
  | cons _ _ _ r,i + 1=>r.get? i
def ofL : List Nd → Fo
  | []=>nil
  | x :: r=>cons x.k x.t x.kids (ofL r)
def app : Fo → Fo → Fo
  | nil,g=>g
  | cons k t kids r,g=>cons k t kids (r.app g)
def drop : Fo → Nat → Fo
  | f,0=>f
  | nil,_ + 1=>nil
  | cons _ _ _ r,i + 1=>r.drop i
def take : Fo → Nat → Fo
  | _,0=>nil
  | nil,_ + 1=>nil
  | cons k t kids r,i + 1=>cons k t kids (r.take i)
def All (p : Nd → Prop) : Fo → Prop
  | nil=>True
  | cons k t kids r=>p ⟨k,t,kids⟩ ∧ r.All p
theorem All.get {p : Nd → Prop} : ∀ {f : Fo} {i : Nat} {x : Nd},f.All p → f.get? i = some x → p x
  | nil,_,_,_,h=>by cases h
  | cons _ _ _ _,0,_,ha,h=>by cases h;exact ha.1
  | cons _ _ _ r,i + 1,_,ha,h=>All.get (f:=r) ha.2 h
theorem All.of {p : Nd → Prop} (h : ∀ x,p x) : ∀ f : Fo,f.All p
  | nil=>trivial
  | cons _ _ _ r=>⟨h _,All.of h r⟩
theorem get_lt : ∀ {f : Fo} {i : Nat} {x : Nd},f.get? i = some x → i < f.len
  | nil,_,_,h=>by cases h
  | cons _ _ _ _,0,_,_=>by simp [len]
  | cons _ _ _ r,i + 1,_,h=>by have:=get_lt (f:=r) h;simp [len];omega
theorem get_of_lt : ∀ {f : Fo} {i : Nat},i < f.len → ∃ x,f.get? i = some x
  | nil,_,h=>by simp [len] at h
  | cons _ _ _ _,0,_=>⟨_,rfl⟩
  | cons _ _ _ r,i + 1,h=>get_of_lt (f:=r) (by simp [len] at h;omega)
theorem ofL_append (a b : List Nd) : ofL (a ++ b) = (ofL a).app (ofL b):=by
  induction a with
  | nil=>rfl
  | cons x r ih=>simp [ofL,app,ih]
theorem app_len : ∀ f g : Fo,(f.app g).len = f.len + g.len
  | nil,_=>by simp [app,len]
  | cons _ _ _ r,g=>by simp [app,len,app_len r g];omega
theorem drop_get : ∀ {f : Fo} {i : Nat} {x : Nd},f.get? i = some x → f.drop i = cons x.k x.t x.kids (f.drop (i + 1))
  | nil,_,_,h=>by cases h
  | cons _ _ _ _,0,_,h=>by cases h;simp [drop]
  | cons _ _ _ r,i + 1,_,h=>by simpa [drop] using drop_get (f:=r) h
theorem drop_all : ∀ {f : Fo} {i : Nat},f.len ≤ i → f.drop i = nil
  | nil,0,_=>rfl
  | nil,_ + 1,_=>rfl
  | cons _ _ _ _,0,h=>by simp [len] at h
  | cons _ _ _ r,i + 1,h=>by simpa [drop] using drop_all (f:=r) (by simp [len] at h;omega)
theorem take_snoc : ∀ {f : Fo} {i : Nat} {x : Nd},f.get? i = some x → f.take (i + 1) = (f.take i).app (cons x.k x.t x.kids nil)
  | nil,_,_,h=>by cases h
  | cons _ _ _ _,0,_,h=>by cases h;simp [take,app]
  | cons _ _ _ r,i + 1,_,h=>by simpa [take,app] using take_snoc (f:=r) h
theorem take_all : ∀ {f : Fo} {i : Nat},f.len ≤ i → f.take i = f
  | nil,0,_=>rfl
  | nil,_ + 1,_=>rfl
  | cons _ _ _ _,0,h=>by simp [len] at h
  | cons _ _ _ r,i + 1,h=>by simpa [take] using take_all (f:=r) (by simp [len] at h;omega)
theorem take_len : ∀ {f : Fo} {i : Nat},i ≤ f.len → (f.take i).len = i
  | _,0,_=>by simp [take,len]
  | nil,_ + 1,h=>by simp [len] at h
  | cons _ _ _ r,i + 1,h=>by simp [take,len,take_len (f:=r) (by simp [len] at h;omega)]
theorem ext : ∀ {f g : Fo},f.len = g.len → (∀ i,i < f.len → f.get? i = g.get? i) → f = g
  | nil,nil,_,_=>rfl
  | nil,cons _ _ _ _,h,_=>by simp [len] at h
  | cons _ _ _ _,nil,h,_=>by simp [len] at h
  | cons k t kids r,cons k' t' kids' r',h,hg=>by
    have h0:=hg 0 (by simp [len])
    simp only [get?,Option.some.injEq,Nd.mk.injEq] at h0
    obtain ⟨rfl,rfl,rfl⟩:=h0
    rw [ext (f:=r) (g:=r') (by simpa [len] using h) (fun i hi=>by simpa [get?] using hg (i + 1) (by simp [len];omega))]
end Fo
namespace Nd
theorem induct {p : Nd → Prop} (h : ∀ x : Nd,x.kids.All p → p x) : ∀ x : Nd,p x:=by
  have key : ∀ f : Fo,f.All p:=by
    intro f
    induction f with
    | nil=>trivial
    | cons k t kids r ih1 ih2=>exact ⟨h ⟨k,t,kids⟩ ih1,ih2⟩
  intro x
  exact h x (key x.kids)
end Nd
def Fo.same : Fo → Fo → Bool
  | .nil,.nil=>true
  | .cons k t kids r,.cons k' t' kids' r'=>k == k' && (t.toList == t'.toList) && kids.same kids' && r.same r'
  | _,_=>false
def Nd.same (x y : Nd) : Bool:=x.k == y.k && (x.t.toList == y.t.toList) && x.kids.same y.kids
theorem bytes_inj {s t : ByteArray} (h : s.toList = t.toList) : s = t:=by
  rw [ByteArray.toList_eq,ByteArray.toList_eq] at h
  exact ByteArray.ext (Array.ext' h)
theorem Fo.same_iff : ∀ {f g : Fo},f.same g = true ↔ f = g
  | .nil,.nil=>by simp [Fo.same]
  | .nil,.cons _ _ _ _=>by simp [Fo.same]
  | .cons _ _ _ _,.nil=>by simp [Fo.same]
  | .cons k t kids r,.cons k' t' kids' r'=>by
    simp only [Fo.same,Bool.and_eq_true,beq_iff_eq,Fo.same_iff (f:=kids),Fo.same_iff (f:=r),Fo.cons.injEq]
    exact ⟨fun ⟨⟨⟨h1,h2⟩,h3⟩,h4⟩=>⟨h1,bytes_inj h2,h3,h4⟩,fun ⟨h1,h2,h3,h4⟩=>⟨⟨⟨h1,by rw [h2]⟩,h3⟩,h4⟩⟩
theorem Nd.same_iff {x y : Nd} : x.same y = true ↔ x = y:=by
  obtain ⟨k,t,f⟩:=x
  obtain ⟨k',t',f'⟩:=y
  simp only [Nd.same,Bool.and_eq_true,beq_iff_eq,Fo.same_iff,Nd.mk.injEq]
  exact ⟨fun ⟨⟨h1,h2⟩,h3⟩=>⟨h1,bytes_inj h2,h3⟩,fun ⟨h1,h2,h3⟩=>⟨⟨h1,by rw [h2]⟩,h3⟩⟩
theorem Nd.same_self (x : Nd) : x.same x = true:=Nd.same_iff.2 rfl
def Fo.count : Fo → Nat
  | .nil=>0
  | .cons _ _ kids r=>1 + kids.count + r.count
def Nd.count (x : Nd) : Nat:=1 + x.kids.count
def Fo.deep : Fo → Nat
  | .nil=>0
  | .cons _ _ kids r=>max (1 + kids.deep) r.deep
def Nd.deep (x : Nd) : Nat:=1 + x.kids.deep
theorem Fo.deep_le : ∀ f : Fo,f.deep ≤ f.count
  | .nil=>Nat.le_refl _
  | .cons _ _ kids r=>by
    have:=Fo.deep_le kids
    have:=Fo.deep_le r
    simp only [Fo.deep,Fo.count];omega
def Fo.weight : Fo → Nat
  | .nil=>0
  | .cons _ t kids r=>1 + t.size + kids.weight + r.weight
def Nd.weight (x : Nd) : Nat:=1 + x.t.size + x.kids.weight
theorem Fo.count_le : ∀ f : Fo,f.count ≤ f.weight
  | .nil=>Nat.le_refl _
  | .cons _ _ kids r=>by
    have:=Fo.count_le kids
    have:=Fo.count_le r
    simp only [Fo.count,Fo.weight];omega
def Fo.paths : Nat → Fo → List (List Nat)
  | _,.nil=>[]
  | i,.cons _ _ kids r=>([] :: Fo.paths 0 kids).map (i :: ·) ++ Fo.paths (i + 1) r
def Nd.paths (x : Nd) : List (List Nat):=[] :: Fo.paths 0 x.kids
theorem Fo.paths_len : ∀ (i : Nat) (f : Fo),(Fo.paths i f).length = f.count
  | _,.nil=>rfl
  | i,.cons _ _ kids r=>by simp [Fo.paths,Fo.count,Fo.paths_len 0 kids,Fo.paths_len (i + 1) r];omega
theorem Nd.paths_len (x : Nd) : x.paths.length = x.count:=by simp [Nd.paths,Nd.count,Fo.paths_len];omega
theorem Fo.count_app : ∀ f g : Fo,(f.app g).count = f.count + g.count
  | .nil,_=>by simp [Fo.app,Fo.count]
  | .cons _ _ _ r,g=>by simp only [Fo.app,Fo.count,Fo.count_app r g];omega
theorem Fo.weight_app : ∀ f g : Fo,(f.app g).weight = f.weight + g.weight
  | .nil,_=>by simp [Fo.app,Fo.weight]
  | .cons _ _ _ r,g=>by simp only [Fo.app,Fo.weight,Fo.weight_app r g];omega
theorem Fo.take_drop : ∀ (f : Fo) (i : Nat),(f.take i).app (f.drop i) = f
  | _,0=>by simp [Fo.take,Fo.app,Fo.drop]
  | .nil,_ + 1=>rfl
  | .cons k t kids r,i + 1=>by simp [Fo.take,Fo.app,Fo.drop,Fo.take_drop r i]
theorem Fo.weight_get {f : Fo} {i : Nat} {x : Nd} (h : f.get? i = some x) : (f.take i).weight + x.weight ≤ f.weight:=by
  have e:=Fo.weight_app (f.take i) (f.drop i)
  rw [Fo.take_drop,Fo.drop_get h] at e
  simp only [Fo.weight] at e
  simp only [Nd.weight];omega
theorem Fo.count_get {f : Fo} {i : Nat} {x : Nd} (h : f.get? i = some x) : (f.take i).count + x.count ≤ f.count:=by
  have e:=Fo.count_app (f.take i) (f.drop i)
  rw [Fo.take_drop,Fo.drop_get h] at e
  simp only [Fo.count] at e
  simp only [Nd.count];omega
theorem Fo.len_le : ∀ f : Fo,f.len ≤ f.count
  | .nil=>Nat.le_refl _
  | .cons _ _ kids r=>by
    have:=Fo.len_le r
    simp only [Fo.len,Fo.count];omega
theorem Nd.count_le (x : Nd) : x.count ≤ x.weight:=by
  have:=Fo.count_le x.kids
  simp only [Nd.count,Nd.weight];omega
theorem Nd.deep_le (x : Nd) : x.deep ≤ x.count:=by
  have:=Fo.deep_le x.kids
  simp only [Nd.deep,Nd.count];omega
end Go.Proofs.Ythadnhpkeljdoaa.nd
namespace Go.Proofs.Ythadnhpkeljdoaa.sx
open Go.RowKit
structure But (B : Nat) (S : Nat → Prop) (w w' : World) : Prop where
 os : w'.os = w.os
 tape : w'.tape = w.tape
 output : w'.output = w.output
 size : w.heap.size ≤ w'.heap.size
 block : ∀ k,k < B → ¬ S k → w'.heap[k]? = w.heap[k]?
theorem But.refl (B : Nat) (S : Nat → Prop) (w : World) : But B S w w:=⟨rfl,rfl,rfl,Nat.le_refl _,fun _ _ _=>rfl⟩
theorem But.trans {B : Nat} {S : Nat → Prop} {a b c : World} (h : But B S a b) (k : But B S b c) : But B S a c :=
 ⟨k.os.trans h.os,k.tape.trans h.tape,k.output.trans h.output,Nat.le_trans h.size k.size,fun i hi hs=>(k.block i hi hs).trans (h.block i hi hs)⟩
theorem But.mono {B B' : Nat} {S S' : Nat → Prop} {a b : World} (h : But B S a b) (hB : B' ≤ B) (hS : ∀ k,k < B' → S k → S' k) : But B' S' a b :=
 ⟨h.os,h.tape,h.output,h.size,fun i hi hs=>h.block i (by omega) (fun e=>hs (hS i hi e))⟩
theorem But.of_below {B : Nat} {S : Nat → Prop} {a b : World} (h : Below B a b) : But B S a b:=⟨h.os,h.tape,h.output,h.size,fun k hk _=>h.block k hk⟩
theorem But.next {B : Nat} {S : Nat → Prop} {a b c : World} (h : But B S a b) (k : Below b.heap.size b c) (hB : B ≤ a.heap.size) : But B S a c :=
 h.trans (But.of_below (k.mono (Nat.le_trans hB h.size)))
theorem But.alloc {B : Nat} {S : Nat → Prop} {a b : World} (h : But B S a b) (hB : B ≤ a.heap.size) (o : Obj) : But B S a (b.alloc o) :=
 h.next ((Below.refl _ b).alloc (Nat.le_refl _) o) hB
theorem But.setCell {B : Nat} {S : Nat → Prop} {a b : World} (h : But B S a b) {p : Addr} (hp : p.block < B → S p.block) (v : Value) : But B S a (b.setCell p v) :=
 h.trans ⟨rfl,rfl,rfl,by simp,fun k hk hs=>Below.heap_setCell _ _ _ k (fun e=>by subst e;exact hs (hp hk))⟩
theorem But.drew {B : Nat} {S : Nat → Prop} {a b : World} (h : But B S a b) : But B S a b.drew:=h.trans ⟨rfl,rfl,rfl,Nat.le_refl _,fun _ _ _=>rfl⟩
theorem But.grown {B : Nat} {S : Nat → Prop} {a b c : World} {row : Option Nat} (h : But B S a b) (hg : b.grownBy c row) (hB : B ≤ a.heap.size) (hr : ∀ k,row = some k → k < B → S k) : But B S a c :=
 h.trans ⟨hg.os,hg.tape,hg.output,hg.size,fun k hk hs=>hg.block k (Nat.lt_of_lt_of_le hk (Nat.le_trans hB h.size)) (fun e=>hs (hr k e.symm hk))⟩
def Blk (W : World) (B : Nat) (t : TypeId) (vs : Array Value) : Prop:=W.heap[B]? = some (.cells vs t (0,0))
theorem Blk.lt {W : World} {B : Nat} {t : TypeId} {v : Array Value} (h : Blk W B t v) : B < W.heap.size:=(Array.getElem?_eq_some_iff.1 h).1
theorem Blk.cell {W : World} {B : Nat} {t : TypeId} {v : Array Value} (h : Blk W B t v) (i : Nat) : W.cell? ⟨B,i,none⟩ = v[i]?:=by simp [World.cell?,show W.heap[B]? = _ from h]
theorem Blk.frozen {W : World} {B : Nat} {t : TypeId} {v : Array Value} (h : Blk W B t v) (i : Nat) : W.frozen? ⟨B,i,none⟩ = false:=by simp [World.frozen?,show W.heap[B]? = _ from h]
theorem Blk.new (W : World) (t : TypeId) (v : Array Value) : Blk (W.alloc (.cells v t)) W.heap.size t v:=World.alloc_heap_new W _
theorem Blk.kept {W W' : World} {row : Option Nat} {B : Nat} {t : TypeId} {v : Array Value} (h : Blk W B t v) (hg : W.grownBy W' row) (hne : some B ≠ row) : Blk W' B t v:=(hg.block B h.lt hne).trans h
theorem Blk.alloc {W : World} {B : Nat} {t : TypeId} {v : Array Value} (h : Blk W B t v) (o : Obj) : Blk (W.alloc o) B t v:=h.kept (World.grownBy_alloc W o none) (by simp)
theorem Blk.below {W W' : World} {n B : Nat} {t : TypeId} {v : Array Value} (h : Blk W B t v) (hb : Below n W W') (hn : B < n) : Blk W' B t v:=(hb.block B hn).trans h
theorem Blk.own {W W' : World} {B : Nat} {t : TypeId} {v : Array Value} (h : Blk W B t v) (hb : Below W.heap.size W W') : Blk W' B t v:=h.below hb h.lt
theorem Blk.other {W : World} {B b o : Nat} {t : TypeId} {v : Array Value} (h : Blk W B t v) (hne : B ≠ b) (x : Value) : Blk (W.setCell ⟨b,o,none⟩ x) B t v :=
 (Below.heap_setCell _ _ _ B (fun e=>hne e)).trans h
theorem Blk.set {W : World} {B o : Nat} {t : TypeId} {v : Array Value} (h : Blk W B t v) (x : Value) : Blk (W.setCell ⟨B,o,none⟩ x) B t (v.setIfInBounds o x):=by
 unfold Blk at h ⊢
 show (W.heap.modify B _)[B]? = _
 rw [Array.getElem?_modify,if_pos rfl,h]
 rfl
theorem Blk.but {W W' : World} {S : Nat → Prop} {B : Nat} {t : TypeId} {v : Array Value} (h : Blk W B t v) (hb : But W.heap.size S W W') (hs : ¬ S B) : Blk W' B t v:=(hb.block B h.lt hs).trans h
section
variable {F : Fence} {n : Nat} {P : Program} {w : World}
end
end Go.Proofs.Ythadnhpkeljdoaa.sx
namespace Go.Proofs.Ythadnhpkeljdoaa.rinv
section
variable {F : Fence} {n : Nat} {P : Program} {ops : Array Oper} {Q : Exit → Act → World → Prop} {md : Region.Mode}
def done (listed : Array Bool) (k : Nat) : Bool:=listed.getD k false
theorem ready_mem {listed : Array Bool} {i : Nat} (h : i ∈ Region.ready md ops listed) :
    i < ops.size ∧ listed.getD i true = false ∧ ((ops[i]?).map (·.after.all fun e=>!Region.binds md e || done listed e.on)).getD false = true:=by
  unfold Region.ready at h
  rw [List.mem_filter,List.mem_range] at h
  simp only [Bool.and_eq_true,Bool.not_eq_true'] at h
  exact ⟨h.1,h.2.1,h.2.2⟩
theorem ready_of {listed : Array Bool} {i : Nat} (hi : i < ops.size) (hs : listed.size = ops.size) (hd : done listed i = false) (ha : ((ops[i]?).map (·.after.all fun e=>!Region.binds md e || done listed e.on)).getD false = true) : i ∈ Region.ready md ops listed:=by
  unfold Region.ready
  rw [List.mem_filter,List.mem_range]
  refine ⟨hi,?_⟩
  simp only [Bool.and_eq_true,Bool.not_eq_true']
  refine ⟨?_,ha⟩
  unfold done at hd
  rw [Array.getD_eq_getD_getElem?,Array.getElem?_eq_getElem (by omega)] at hd ⊢
  exact hd
theorem count_set {l : List Bool} {i : Nat} (h : l[i]? = some false) : (l.set i true).count false + 1 = l.count false:=by
  induction l generalizing i with
  | nil=>simp at h
  | cons b r ih =>
    cases i with
    | zero=>simp at h;subst h;simp
    | succ i =>
      have h' : r[i]? = some false:=by simpa using h
      have:=ih h'
      simp only [List.set_cons_succ,List.count_cons]
      omega
theorem wpAnyIn_inv (Inv : Array Bool → Act → World → Prop)
    (hstep : ∀ listed a w i,Inv listed a w → i ∈ Region.ready md ops listed → wpOpIn F n P ops Q i (Inv (listed.setIfInBounds i true)) a w)
    (hend : ∀ listed a w,Inv listed a w → Region.ready md ops listed = [] → Q .normal a w) :
    ∀ fuel listed a w,listed.toList.count false ≤ fuel → Inv listed a w → wpAnyIn F n P md ops Q fuel listed a w:=by
  have hdown : ∀ (listed : Array Bool) i,i ∈ Region.ready md ops listed → (listed.setIfInBounds i true).toList.count false + 1 = listed.toList.count false:=by
    intro listed i hi
    obtain ⟨_,h2,_⟩:=ready_mem hi
    rw [Array.toList_setIfInBounds]
    refine count_set ?_
    cases hq : listed[i]? with
    | none=>simp [Array.getD_eq_getD_getElem?,hq] at h2
    | some b =>
      have : b = false:=by simpa [Array.getD_eq_getD_getElem?,hq] using h2
      rw [← Array.getElem?_toList] at hq
      rw [hq,this]
  intro fuel
  induction fuel with
  | zero =>
    intro listed a w hc hI
    have hr : Region.ready md ops listed = []:=by
      cases hr : Region.ready md ops listed with
      | nil=>rfl
      | cons i r =>
        have:=hdown listed i (by rw [hr];exact List.mem_cons_self ..)
        omega
    exact ⟨hr,hend listed a w hI hr⟩
  | succ fuel ih =>
    intro listed a w hc hI
    refine ⟨fun hr=>hend listed a w hI hr,fun i hi=>?_⟩
    have:=hdown listed i hi
    exact wpOpIn_mono (fun a' w' h=>ih _ a' w' (by omega) h) (hstep listed a w i hI hi)
theorem wpOpIn_of_list {i : Nat} {o : Oper} {K : Act → World → Prop} {a : Act} {w : World} (ho : ops[i]? = some o) (h : wpListIn F n P ops (Exit.then K Q) [o] a w) : wpOpIn F n P ops Q i K a w:=by
  unfold wpOpIn
  rw [ho]
  simp only [wpListIn] at h ⊢
  have key : ∀ r : Result Next,Oper.uponIn F n P o a (fun a w=>Exit.then K Q .normal a w) (Exit.then K Q) r → Oper.uponIn F n P o a K Q r:=by
    intro r h
    cases r with
    | ok x w'=>cases x <;> exact h
    | halt x w'=>cases x <;> exact h
  split
  · rename_i hw
    rw [if_pos hw] at h
    exact ⟨h.1,key _ h.2⟩
  · rename_i hw
    rw [if_neg hw] at h
    exact h
theorem done_set {listed : Array Bool} {i : Nat} (h : listed.getD i true = false) (k : Nat) : done (listed.setIfInBounds i true) k = ((k == i) || done listed k):=by
  unfold done
  have hi : i < listed.size:=by
    rcases Nat.lt_or_ge i listed.size with h' | h'
    · exact h'
    · simp [Array.getD_eq_getD_getElem?,Array.getElem?_eq_none h'] at h
  by_cases e : k = i
  · subst e
    simp [Array.getD_eq_getD_getElem?,hi]
  · simp [Array.getD_eq_getD_getElem?,e,Ne.symm e]
theorem done_not {listed : Array Bool} {i : Nat} (h : listed.getD i true = false) : done listed i = false:=by
  unfold done
  rw [Array.getD_eq_getD_getElem?] at h ⊢
  cases hq : listed[i]? with
  | none=>rfl
  | some b=>rw [hq] at h;simpa using h
end
end Go.Proofs.Ythadnhpkeljdoaa.rinv
namespace Go.Proofs.Ythadnhpkeljdoaa.pr
open Go.RowKit
abbrev Op:=ByteArray × Int × Int
def opsP : List Op :=
  [(⟨#[124]⟩,1,2),(⟨#[44]⟩,2,1),(⟨#[47,47]⟩,3,2),(⟨#[61]⟩,4,0),(⟨#[124,61]⟩,4,0),(⟨#[43,61]⟩,4,0),(⟨#[45,61]⟩,4,0),(⟨#[42,61]⟩,4,0),(⟨#[47,61]⟩,4,0),(⟨#[37,61]⟩,4,0),(⟨#[47,47,61]⟩,4,0),
   (⟨#[111,114]⟩,5,1),(⟨#[97,110,100]⟩,6,1),(⟨#[61,61]⟩,7,0),(⟨#[33,61]⟩,7,0),(⟨#[60]⟩,7,0),(⟨#[60,61]⟩,7,0),(⟨#[62]⟩,7,0),(⟨#[62,61]⟩,7,0),(⟨#[43]⟩,8,1),(⟨#[45]⟩,8,1),(⟨#[42]⟩,9,1),(⟨#[47]⟩,9,1),(⟨#[37]⟩,9,1)]
theorem ops_len : opsP.length = 24:=rfl
def strt (m : Nat) : Nat:=[0,1,2,3,11,12,13,19,21,24].getD m 24
def cnt (m : Nat) : Nat:=[1,1,1,8,1,1,6,2,3].getD m 0
def sideM (m : Nat) : Int:=[2,1,2,0,1,1,0,1,1].getD m 0
theorem strt_next : ∀ m,m < 9 → strt m + cnt m = strt (m + 1):=by decide
theorem cnt_le : ∀ m,m < 9 → cnt m ≤ 8 ∧ 1 ≤ cnt m:=by decide
def txt (j : Nat) : ByteArray:=(opsP.getD j (⟨#[]⟩,0,0)).1
theorem ops_in : ∀ m,m < 9 → ∀ k,k < cnt m → opsP[strt m + k]? = some (txt (strt m + k),(m : Int) + 1,sideM m):=by decide +kernel
theorem ops_at {m k : Nat} (hm : m < 9) (hk : k < cnt m) : opsP[strt m + k]? = some (txt (strt m + k),(m : Int) + 1,sideM m):=ops_in m hm k hk
theorem ops_apart : opsP.Pairwise (fun a b=>a.1 ≠ b.1):=by decide +kernel
theorem ops_txt : ∀ j,j < 24 → (opsP[j]?).map (·.1) = some (txt j):=by decide +kernel
def gradeOf (s : ByteArray) : Option (Int × Int):=(opsP.find? fun o=>decide (o.1 = s)).map (·.2)
def isOp (s : ByteArray) : Bool:=(gradeOf s).isSome
def levelOf (s : ByteArray) : Int:=((gradeOf s).getD (0,0)).1
def sideOf (s : ByteArray) : Int:=((gradeOf s).getD (0,0)).2
def besideOf (s : ByteArray) (d : Int) : Int:=if isOp s = true ∧ sideOf s ≠ d then levelOf s + 1 else levelOf s
def isKind (k : Int) : Bool:=decide (k = 13) || decide (k = 3)
def textOf (k : Int) (s : ByteArray) : ByteArray:=if isKind k = true ∧ levelOf s ≠ 0 then s else ⟨#[]⟩
theorem grade_mem {s : ByteArray} {p : Int × Int} (h : gradeOf s = some p) : (s,p.1,p.2) ∈ opsP:=by
  unfold gradeOf at h
  cases hf : opsP.find? (fun o=>decide (o.1 = s)) with
  | none=>rw [hf] at h;cases h
  | some o =>
    rw [hf] at h
    have h1:=List.find?_some hf
    have h2:=List.mem_of_find?_eq_some hf
    simp only [Option.map_some,Option.some.injEq] at h
    have h3 : o.1 = s:=of_decide_eq_true h1
    rw [← h3,← h];exact h2
theorem grade_none {s : ByteArray} (h : gradeOf s = none) : ∀ o ∈ opsP,o.1 ≠ s:=by
  unfold gradeOf at h
  rw [Option.map_eq_none_iff,List.find?_eq_none] at h
  intro o ho e
  exact h o ho (by simp [e])
theorem grade_of {o : Op} (h : o ∈ opsP) : gradeOf o.1 = some o.2:=by
  cases hg : gradeOf o.1 with
  | none=>exact absurd rfl (grade_none hg o h)
  | some p =>
    have hm:=grade_mem hg
    by_cases he : (o.1,p.1,p.2) = o
    · rw [← he]
    · exfalso
      have hp:=ops_apart
      rw [List.pairwise_iff_getElem] at hp
      obtain ⟨i,hi,ei⟩:=List.mem_iff_getElem.1 h
      obtain ⟨j,hj,ej⟩:=List.mem_iff_getElem.1 hm
      rcases Nat.lt_trichotomy i j with hij | hij | hij
      · exact hp i j hi hj hij (by rw [ei,ej])
      · subst hij;exact he (by rw [← ej,ei])
      · exact hp j i hj hi hij (by rw [ei,ej])
theorem ops_bounds : ∀ o ∈ opsP,1 ≤ o.2.1 ∧ o.2.1 ≤ 9 ∧ 0 ≤ o.2.2 ∧ o.2.2 ≤ 2:=by decide +kernel
theorem level_bounds (s : ByteArray) : 0 ≤ levelOf s ∧ levelOf s ≤ 9:=by
  unfold levelOf
  cases hg : gradeOf s with
  | none=>simp
  | some p=>have:=ops_bounds _ (grade_mem hg);simp only [Option.getD_some];simp only at this;omega
theorem level_isOp (s : ByteArray) : isOp s = decide (0 < levelOf s):=by
  unfold isOp levelOf
  cases hg : gradeOf s with
  | none=>simp
  | some p=>have:=ops_bounds _ (grade_mem hg);simp only [Option.getD_some,Option.isSome_some];simp only at this;symm;rw [decide_eq_true_eq];omega
def sidesD : List Int:=[0,2,1,2,0,1,1,0,1,1]
theorem sides_all : ∀ o ∈ opsP,sidesD[o.2.1.toNat]? = some o.2.2:=by decide +kernel
theorem side_of_level (s : ByteArray) : sidesD[(levelOf s).toNat]? = some (sideOf s):=by
  unfold levelOf sideOf
  cases hg : gradeOf s with
  | none=>rfl
  | some p=>exact sides_all _ (grade_mem hg)
end Go.Proofs.Ythadnhpkeljdoaa.pr
namespace Go.Proofs.Ythadnhpkeljdoaa.law
open Go.ChangeShapes Go.WideShapes Go.ChangeAt Go.RowKit Go.ChangeMaps
theorem own : ownKnob Try.prog.godebug = none:=by kernel_rfl
theorem laidOut : laidOutB Try.prog = true:=by kernel_rfl
theorem trodAll_below {H : Type} {enc : TypeId × Value → H} {P : Program} (hl : laidOutB P = true) {W W' : World} (hb : Below W.heap.size W W') :
    ∀ {ts : List TypeId} {vs : List Value} {ds : List (DataW H)} {ps : List MemPlace},(ts.all fun t=>P.readableRec t && decide (t < P.types.size)) = true →
      DataW.TrodAll enc P W 0 (fun _=>true) true ts vs ds ps → (∀ x ∈ ps,x.block < W.heap.size) → DataW.TrodAll enc P W' 0 (fun b=>decide (b < W.heap.size)) true ts vs ds ps
  | [],vs,ds,ps,_,h,_=>by
    obtain ⟨rfl,rfl,rfl⟩:=trodAll_nil h
    exact trodAll_mk0
  | t :: ts,vs,ds,ps,hr,h,hlt=>by
    obtain ⟨v,vs',d,ds',p,q,rfl,rfl,rfl,h0,h1⟩:=trodAll_cons h
    simp only [List.all_cons,Bool.and_eq_true,decide_eq_true_eq] at hr
    exact trodAll_cons_mk (Below.trod hl hr.1.1 hr.1.2 h0 hb (fun x hx=>hlt x (List.mem_append_left _ hx)))
      (trodAll_below hl hb (by simpa using hr.2) h1 (fun x hx=>hlt x (List.mem_append_right _ hx)))
theorem law_post {H : Type} {enc : TypeId × Value → H} {s : ChangeSpec} {f : Func} {W W' : World} {args : Array Value} {ds gs : List (DataW H)} {before : List MemPlace} (hv : s.vars = [])
    (hW : DataW.Whole enc Try.prog f.params.toList s.vars false W args.toList ds gs before)
    (hfn : s.fn H (ds ++ gs) = { results:=[.lit (.bool true)],args:=ds }) (hres : f.resultTypes = #[4]) (hrd : (f.params.toList.all fun t=>Try.prog.readableRec t && decide (t < Try.prog.types.size)) = true)
    (hb : Below W.heap.size W W') : s.post enc Try.prog f false true false false W args (.bool true) W':=by
  have hlt:=hW.lt
  have hW':=hW
  obtain ⟨p,q,hA,hV,rfl,_,_⟩:=hW
  rw [hv] at hV
  obtain ⟨rfl,rfl⟩:=trodVars_none hV
  refine ⟨ds,[],p ++ [],[],p,[],hW',?_,?_,?_,hb.frame _,fun h=>by cases h⟩
  · rw [hfn,hres]
    exact trodAll_mk1 (shut_bool Try.underlying4 true)
  · rw [hfn]
    exact trodAll_below laidOut hb hrd hA (fun x hx=>by simpa using hlt x (List.mem_append_left _ hx))
  · rw [hfn,hv]
    rfl
def BytesAt (W : World) (v : Value) (bs : List Int) : Prop :=
  (v = .slice none 0 0 ∧ bs = []) ∨ (∃ (a : Option Addr) (cap : Nat),v = .slice a 0 cap ∧ bs = []) ∨
  ∃ b off cap,v = .slice (some ⟨b,off,none⟩) bs.length cap ∧ bs.length ≤ maxLen ∧ ∀ j,j < bs.length → W.cell? ⟨b,off + j,none⟩ = some (.int .u8 (bs.getD j 0)) ∧ 0 ≤ bs.getD j 0 ∧ bs.getD j 0 ≤ 255
theorem u8_wf {n : Int} (h : (Lit.int .u8 n).wf = true) : 0 ≤ n ∧ n ≤ 255:=by simpa [Lit.wf,IntKind.min,IntKind.max,IntKind.signed,IntKind.bits] using h
theorem cells5 : Try.prog.cellsOf 5 = 1:=by kernel_rfl
end Go.Proofs.Ythadnhpkeljdoaa.law
namespace Go.Proofs.Ythadnhpkeljdoaa.ed
open Go.RowKit
structure In (W : World) where
 u : World
 h : Below W.heap.size W u
instance (W : World) : Nonempty (In W):=⟨⟨W,Below.refl _ W⟩⟩
theorem In.cell {W : World} {p : Addr} {v : Value} (h : W.cell? p = some v) (x : In W) : x.u.cell? p = some v :=
 (x.h.cell (World.block_lt_of_cell? W p h)).trans h
theorem wp_region_in {P : Program} {id : Nat} {Q : Exit → Act → World → Prop} {a : Act} {w : World} {l : List Oper} (hm : P.follows .mixedOrders = true) (hB : Region.lexB .any l.toArray = true)
  (h : wpQuiet P l.toArray (fun w'=>∃ x : In w,w' = x.u) (fun a'=>∀ w',(∃ x : In w,w' = x.u) → Q .normal a' w') l a) : (Code.region id l.toArray true).wp P Q a w :=
 wp_region_quiet (C:=fun w'=>∃ x : In w,w' = x.u) hm hB ⟨⟨w.drew,(Below.refl _ w).drew⟩,rfl⟩ (by simpa using h)
theorem Calls.in_of {P : Program} {f : FuncId} {args : Array Value} {W : World} {x : In W} {v : Value}
  (h : Calls P f args x.u fun e w'=>e = .returned v ∧ Below x.u.heap.size x.u w') : Calls P f args x.u fun e w''=>e = .returned v ∧ ∃ y : In W,w'' = y.u :=
 h.mono fun _ w' ⟨he,hb⟩=>⟨he,⟨w',x.h.trans (hb.mono x.h.size)⟩,rfl⟩
end Go.Proofs.Ythadnhpkeljdoaa.ed
namespace Go.Proofs.Ythadnhpkeljdoaa.utf
open Go.RowKit
theorem extract_drop (s : ByteArray) (k : Nat) : (s.extract k s.size).data.toList = s.data.toList.drop k:=by
 rw [ByteArray.data_extract,Array.toList_extract]
 have e : s.size = s.data.toList.length:=by rw [Array.length_toList];rfl
 rw [List.extract_eq_take_drop,e,List.take_of_length_le (by simp)]
theorem size_toList (s : ByteArray) : s.data.toList.length = s.size:=by rw [Array.length_toList];rfl
def runeBad (s : ByteArray) (pos : Nat) : Bool:=((Utf8.decode s pos).1 == 65533) && !(Lib.hasPrefix (s.data.toList.drop pos) [239,191,189])
def checkFrom (s : ByteArray) : Nat → Nat → Int
 | 0,_=>-1
 | b + 1,pos=>if pos < s.size then (if runeBad s pos then (pos : Int) else checkFrom s b (pos + (Utf8.decode s pos).2)) else -1
def checkF (s : ByteArray) : Int:=checkFrom s s.size 0
end Go.Proofs.Ythadnhpkeljdoaa.utf
