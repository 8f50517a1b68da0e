/- Ground of the law: LxIter. -/
import Derived.Test.YtlklhkkjcfmefaaGreatDoorQe19
import Derived.LoopNIn
import Derived.LoopIn
import Derived.Shelf.RegionOpen
import Derived.RegionTactic
set_option maxRecDepth 100000
set_option maxHeartbeats 8000000
set_option linter.unusedVariables false
set_option linter.unusedSimpArgs false
namespace Go.Proofs.YtlklhkkjcfmefaaGreatDoor.lx
open Go.Lib (hid)
open Go.RowKit Go.Shelf
open sg (lst_len extract_drop ext_size)
open sx
attribute [local go_sem] Oper.semAt_some
abbrev encT (x : Lx.Told) : Array Value:=#[tokV x.1.1 ⟨x.1.2.toArray⟩,.int .u16 x.2]
theorem tokens_in (n : Nat) (s : ByteArray) (w : World) :
  CallsIn Fence.wide n Tryz.prog 52 #[.string s] w fun e w'=>e = .returned (.func (.func 95) #[] #[.pointer (some ⟨w.heap.size,0,none⟩)]) ∧ w' = w.alloc (.cells #[.string s] 9):=by
 refine callsIn_of_wp Tryz.func52 rfl trivial ?_ rfl
 simp only [Tryz.ntmps52,List.size_toArray,List.length_cons,List.length_nil,Nat.reduceAdd,Nat.reduceSub,Array.replicate_succ,Array.replicate_zero,List.push_toArray,List.append_toArray,List.nil_append,List.cons_append]
 gi_wp2
 go_ret
 exact ⟨rfl,rfl⟩
theorem own_kx {n base : Nat} {X : Nat → Prop} {T e : TypeId} {size k : Nat} {v : Value} {xs : List Value} {W W' : World} (h : KX n X T W W') (ho : W.ownsRow base e size v k xs) (hX : ∀ j,base ≤ j → ¬ X j) (ht : e ≠ T) : W'.ownsRow base e size v k xs:=by
 refine ⟨ho.1,?_⟩
 rcases ho.2 with hn | ⟨g,cap,cur,h1,h2,h3,h4⟩
 ·exact .inl hn
 ·exact .inr ⟨g,cap,cur,h1,h2,h.blk h3 (hX g h2) ht,h4⟩
theorem Ready.kx {n base Lb : Nat} {X : Nat → Prop} {W W' : World} {rest : ByteArray} {x : Lx.Lex} {vO vC vI bv : Value} {bl : List (Nat × TypeId × Array Value)} (h : Ready W Lb base rest x vO vC vI bv bl) (hk : KX n X 49 W W')
  (hX : ∀ j,base ≤ j → ¬ X j) (hL : base ≤ Lb) (hbl : ∀ b ∈ bl,base ≤ b.1) (hfx : Fixed bl) (hg : 0 < n) : Ready W' Lb base rest x vO vC vI bv bl :=
 ⟨⟨hk.blk h.lex.1 (hX _ hL) (by decide),own_kx hk h.lex.2 hX (by decide)⟩,fun b hb=>hk.blk (h.lie b hb) (hX _ (hbl b hb)) (hfx b hb).1,h.ops.below hk.1 hg,h.hO,h.hC,h.hI,h.size,h.deep⟩
theorem Ready.ours {base Lb : Nat} {W : World} {rest : ByteArray} {x : Lx.Lex} {vO vC vI bv : Value} {bl : List (Nat × TypeId × Array Value)} (h : Ready W Lb base rest x vO vC vI bv bl) (hL : base ≤ Lb) : ∀ k,SL Lb bv k → Ours base 49 W k:=by
 rintro k (rfl | hk)
 ·exact h.lex.1.ours hL (by decide)
 ·rcases h.lex.2.2 with ⟨rfl,_⟩ | ⟨g,cap,cur,rfl,h2,h3,_⟩
  ·simp [Value.ownBlock] at hk
  ·obtain rfl : g = k:=by simpa [Value.ownBlock] using hk
   exact ⟨h2,cur,_,_,h3,by decide⟩
theorem Ready.turned {base Lb : Nat} {W w' : World} {rest rest' : ByteArray} {x y : Lx.Lex} {vO vC vI bv : Value} {bl : List (Nat × TypeId × Array Value)} (h : Ready W Lb base rest x vO vC vI bv bl) (hfx : Fixed bl) (ht : Turned W Lb base rest' y vO vC vI bv w') (hg : 0 < base) (hL : base ≤ Lb)
  (hd : y.below.length ≤ 256) (hs : rest'.size ≤ 65536) : ∃ bv',Ready w' Lb base rest' y vO vC vI bv' bl:=by
 obtain ⟨bv',hl,hb⟩:=ht
 refine ⟨bv',hl,fun b hm=>?_,?_,h.hO,h.hC,h.hI,hs,hd⟩
 ·refine (h.lie b hm).but hb (fun e=>?_)
  rcases e with e | e
  ·have:=h.lex.1;rw [← e] at this;exact blk_types (h.lie b hm) this (hfx b hm).2.1
  ·exact own_ne h.lex.2 (h.lie b hm) (hfx b hm).2.2 e.symm
 ·refine ⟨Nat.lt_of_lt_of_le h.ops.1 hb.size,fun j v hj=>?_⟩
  have hc:=h.ops.2 j v hj
  have hblk:=hb.block 0 h.ops.1 (fun e=>by have:=(h.ours hL _ e).1;omega)
  unfold World.cell? at hc ⊢
  rw [hblk]
  exact hc
theorem turn_depth {x y : Lx.Lex} {k : Int} {t : List UInt8} (h : Lx.turn x k t = .ok y) (hx : x.below.length ≤ 256) : y.below.length ≤ 256:=by
 unfold Lx.turn at h
 split at h
 ·cases h;exact hx
 ·split at h
  ·cases h;exact hx
  ·split at h
   ·split at h
    ·cases h
    ·cases h;simp only [List.length_append,List.length_singleton];omega
   ·split at h
    ·cases h;simp only [List.length_dropLast];omega
    ·split at h <;> cases h <;> exact hx
theorem next_depth {x y : Lx.Lex} {l : List UInt8} {k : Int} {n : Nat} (h : Lx.next x l = .ok (k,n,y)) (hx : x.below.length ≤ 256) : y.below.length ≤ 256:=by
 unfold Lx.next at h
 cases hf : Lx.find (Lx.tried x) l with
 | none=>rw [hf] at h;cases h
 | some p =>
  obtain ⟨k',n'⟩:=p
  rw [hf] at h
  simp only at h
  cases ht : Lx.turn x k' (l.take n') with
  | error e2=>rw [ht] at h;cases h
  | ok z=>rw [ht] at h;cases h;exact turn_depth ht hx
def restSize (Lb : Nat) (W : World) : Nat:=match W.cell? ⟨Lb,0,none⟩ with | some (.string s)=>s.size | _=>0
theorem Ready.rest {base Lb : Nat} {W : World} {rest : ByteArray} {x : Lx.Lex} {vO vC vI bv : Value} {bl : List (Nat × TypeId × Array Value)} (h : Ready W Lb base rest x vO vC vI bv bl) : restSize Lb W = rest.size:=by
 unfold restSize
 have : W.cell? ⟨Lb,0,none⟩ = some (.string rest):=h.lex.1.cell 0
 rw [this]
theorem mk_extract (s : ByteArray) (n : Nat) : (⟨(s.data.toList.take n).toArray⟩ : ByteArray) = s.extract 0 n:=by
 rw [← extract_take]
def IterI (ys : List Lx.Told) (J : List Lx.Told → World → Prop) (Lb base : Nat) (vO vC vI : Value) (bl : List (Nat × TypeId × Array Value)) (wr : World) : Prop :=
 ∃ pre rest x bv,ys = pre ++ Lx.told x rest.data.toList ∧ J pre wr ∧ Ready wr Lb base rest x vO vC vI bv bl
theorem tokens1_in (n : Nat) (hn : 1 ≤ n) (l Bs n0 : Nat) (X : Nat → Prop) (s : ByteArray) (hs : s.size ≤ 65536) (J Jx : List Lx.Told → World → Prop) (ys : List Lx.Told) (hys : ys = Lx.told Lx.start s.data.toList)
  (hY : ∀ pre x rest W,ys = pre ++ x :: rest → J pre W → YieldAt Fence.wide (n - 1) Tryz.prog l (encT x) W fun e W' =>
   (e = .returned (.bool true) ∧ J (pre ++ [x]) W' ∧ KX n0 X 49 W W') ∨ (e = .returned (.bool false) ∧ Jx (pre ++ [x]) W'))
  (W : World) (hn0 : n0 ≤ W.heap.size) (hX : ∀ k,W.heap.size ≤ k → ¬ X k) (hJ : AbX W.heap.size 49 J) (hb : Blk W Bs 9 #[.string s]) (hops : sg.OpsAt W) (hopn : 0 < n0) (h0 : J [] W) :
  CallsIn Fence.wide n Tryz.prog 95 #[.func (.yield l) #[] #[],.pointer (some ⟨Bs,0,none⟩)] W fun e W'=>(∃ v,e = .returned v) ∧ (J ys W' ∨ ∃ pre x rest,ys = pre ++ x :: rest ∧ Jx (pre ++ [x]) W'):=by
 have hfI : Fence.wide.fn 96:=trivial
 have hfI2 : Fence.wide.fn 97:=trivial
 have hfI3 : Fence.wide.fn 98:=trivial
 have hc0 : W.cell? ⟨Bs,0,none⟩ = some (.string s):=hb.cell 0
 have HYS:=hid hys;have HOP:=hid hops
 clear hys hops
 refine callsIn_of_wp Tryz.func95 rfl trivial ?_ rfl
 simp only [Tryz.ntmps95,List.size_toArray,List.length_cons,List.length_nil,Nat.reduceAdd,Nat.reduceSub,Array.replicate_succ,Array.replicate_zero,List.push_toArray,List.append_toArray,List.nil_append,List.cons_append]
 gi_wp2_with (gi_at_call 96;refine (callsIn_wide.2 (start_calls s _)).mono ?_;rintro e w1 ⟨bl,Lb,vO,vC,vI,rfl,hl1,hLb,hO,hC,hI,hlie,hblg,hfx,hb1⟩)
 have hr1 : Ready w1 Lb W.heap.size s Lx.start vO vC vI (.slice none 0 0) bl:=⟨⟨hl1,rfl,.inl ⟨rfl,rfl⟩⟩,hlie,HOP.out.own hb1,hO,hC,hI,hs,Nat.zero_le _⟩
 have hj1 : J [] w1:=hJ.below h0 hb1
 gi_loopw [] (fun wr=>IterI ys J Lb W.heap.size vO vC vI bl wr ∧ W.heap.size ≤ wr.heap.size) (fun wr=>restSize Lb wr)
 case atStart=>exact ⟨⟨[],s,Lx.start,_,HYS.out,hj1,hr1⟩,hb1.size⟩
 case round =>
  obtain ⟨⟨pre,rest,x,bv,hpr,hjr,hrd⟩,hsz⟩:=hrel
  have l0 : wr.cell? ⟨Lb,0,none⟩ = some (.string rest):=hrd.lex.1.cell 0
  have hblG : 0 < W.heap.size:=by omega
  by_cases he : rest.data.toList = []
  ·have e1 : rest.toList.isEmpty = true:=by rw [toList_eq,he];rfl
   have e2 : (!rest.toList.isEmpty) = false:=by rw [e1];rfl
   have e3 : rest.toList = []:=by rw [toList_eq,he]
   rw [he,Lx.told_nil] at hpr
   have hend:=ended_calls Lb wr W.heap.size rest x vO vC vI bv hrd.lex _ rfl
   cases hen : Lx.ended x with
   | true =>
    rw [hen] at hend hpr
    have HP:=hid hpr
    clear hpr
    gi_wp2_with (gi_at_call 98;refine (callsIn_wide.2 hend).mono ?_;rintro e w' ⟨rfl,rfl⟩)
    refine bodyPost_end (results_none rfl _ _ _) rfl ?_
    exact ⟨⟨_,rfl⟩,.inl (by rw [HP.out];simpa using hjr)⟩
   | false =>
    rw [hen] at hend hpr
    obtain ⟨fn,tmps,assign,body,hy,hR⟩:=hY pre ((0,[]),13) [] wr hpr hjr
    dsimp only [encT] at hy
    have HP:=hid hpr
    clear hpr
    gi_wp2_with (gi_at_call 98;refine (callsIn_wide.2 hend).mono ?_;rintro e w' ⟨rfl,rfl⟩)
    refine hR.mono ?_
    rintro ee W3 (⟨rfl,hJ3,hk3⟩ | ⟨rfl,hJx3⟩)
    ·gi_wp2
     refine bodyPost_end (results_none rfl _ _ _) rfl ?_
     exact ⟨⟨_,rfl⟩,.inl (by rw [HP.out];simpa using hJ3)⟩
    ·gi_wp2
     refine bodyPost_end (results_none rfl _ _ _) rfl ?_
     exact ⟨⟨_,rfl⟩,.inr ⟨_,_,_,HP.out,hJx3⟩⟩
  ·have e1 : rest.toList.isEmpty = false:=by rw [toList_eq];cases hq : rest.data.toList with | nil=>exact absurd hq he | cons a r=>rfl
   have e2 : (!rest.toList.isEmpty) = true:=by rw [e1];rfl
   have hsl:=hrd.size
   cases hnx : Lx.next x rest.data.toList with
   | error e' =>
    have hne:=Lx.next_err_ne hnx
    rw [Lx.told_err hnx he (by omega)] at hpr
    have hcall:=next_calls Lb W.heap.size rest x vO vC vI bv bl wr hrd (by omega) e' hnx
    have t0 : (e' != 0) = true:=by rw [bne_iff_ne];omega
    have HP:=hid hpr
    clear hnx he hne
    gi_wp2_with (gi_at_call 97;refine (callsIn_wide.2 hcall).mono ?_;rintro e w2 ⟨rfl,hb2⟩;obtain ⟨fn,tmps,assign,body,hy,hR⟩:=hY pre ((0,[]),e') [] (w2.alloc (.cells #[.int .i64 0,.string ⟨#[]⟩] 49)) HP.out (hJ.below (hJ.below hjr hb2) ((Below.refl _ w2).alloc (Nat.le_refl _) _));dsimp only [encT] at hy;clear hpr)
    refine hR.mono ?_
    rintro ee W3 (⟨rfl,hJ3,hk3⟩ | ⟨rfl,hJx3⟩)
    ·gi_wp2
     refine bodyPost_ret (results_none rfl _ _ _) rfl ?_
     exact ⟨⟨_,rfl⟩,.inl (by rw [HP.out];exact hJ3)⟩
    ·gi_wp2
     refine bodyPost_ret (results_none rfl _ _ _) rfl ?_
     exact ⟨⟨_,rfl⟩,.inr ⟨_,_,_,HP.out,hJx3⟩⟩
   | ok p =>
    obtain ⟨k,d,y⟩:=p
    have hle:=Lx.next_le hnx
    rw [lst_len] at hle
    rw [Lx.told_ok hnx he] at hpr
    have hcall:=next_ok Lb W.heap.size rest x vO vC vI bv bl wr hrd (by omega) k d y hnx
    have hdep:=next_depth hnx hrd.deep
    have HP:=hid hpr
    have HMK:=hid (mk_extract rest d)
    have HM:=hid hrd.rest
    clear hnx he
    gi_wp2_with (gi_at_call 97;refine (callsIn_wide.2 hcall).mono ?_;rintro e w2 ⟨rfl,htu⟩;obtain ⟨bv',hrd2⟩:=hrd.turned hfx htu hblG hLb hdep (ext_sz rest d hsl);obtain ⟨fn,tmps,assign,body,hy,hR⟩:=hY pre ((k,rest.data.toList.take d),0) _ (w2.alloc (.cells #[.int .i64 k,.string (rest.extract 0 d)] 49)) HP.out (hJ.below (hJ _ _ _ _ hjr htu.choose_spec.2 (hrd.ours hLb)) ((Below.refl _ w2).alloc (Nat.le_refl _) _));dsimp only [encT] at hy;rw [HMK.out] at hy;clear hpr)
    refine hR.mono ?_
    rintro ee W3 (⟨rfl,hJ3,hk3⟩ | ⟨rfl,hJx3⟩)
    ·have hr3:=(hrd2.own ((Below.refl _ w2).alloc (Nat.le_refl _) (.cells #[.int .i64 k,.string (rest.extract 0 d)] 49))).kx hk3 hX hLb hblg hfx hopn
     have hs3 : W.heap.size ≤ W3.heap.size:=by have a:=htu.choose_spec.2.size;have b:=hk3.1.size;rw [World.size_alloc] at b;omega
     have HR3:=hid hr3
     have hms : restSize Lb W3 < restSize Lb wr:=by rw [hr3.rest,HM.out,ByteArray.size_extract];omega
     clear hr3
     gi_wp2
     go_roundw
     case rel=>exact ⟨⟨_,_,_,_,by rw [HP.out,extract_drop,List.append_assoc];rfl,hJ3,HR3.out⟩,hs3⟩
     case measure=>exact hms
    ·gi_wp2
     refine bodyPost_ret (results_none rfl _ _ _) rfl ?_
     exact ⟨⟨_,rfl⟩,.inr ⟨_,_,_,HP.out,hJx3⟩⟩
theorem tokens_seq (n : Nat) (hn : 1 ≤ n) (Bs n0 : Nat) (X : Nat → Prop) (s : ByteArray) (hs : s.size ≤ 65536) (w : World) (hX : ∀ k,w.heap.size ≤ k → ¬ X k) (hn0 : n0 ≤ w.heap.size) (hb : Blk w Bs 9 #[.string s]) (hops : sg.OpsAt w) (hopn : 0 < n0) :
  SeqX Fence.wide n Tryz.prog 95 #[.pointer (some ⟨Bs,0,none⟩)] encT 49 (KX n0 X 49) (Lx.told Lx.start s.data.toList) w:=fun l J Jx W hW hJ hJx hY h0 =>
 tokens1_in n hn l Bs n0 X s hs J Jx _ rfl hY W (Nat.le_trans hn0 hW.size) (fun k hk=>hX k (Nat.le_trans hW.size hk)) hJ (hb.below hW hb.lt) (hops.own hW) hopn h0
end Go.Proofs.YtlklhkkjcfmefaaGreatDoor.lx
