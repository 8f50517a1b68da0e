/- Ground of the law: ItAll. -/
import Derived.Test.YtlklhkkjcfmefaaGreatDoorQe36
import Derived.Test.YtlklhkkjcfmefaaGreatDoorQe01
import Derived.Test.YtlklhkkjcfmefaaGreatDoorQe03
import Derived.LoopNIn
import Derived.LoopIn
import Derived.Shelf.RegionOpen
import Derived.RegionTactic
import Derived.RegionIn
set_option maxRecDepth 100000
set_option maxHeartbeats 8000000
set_option linter.unusedVariables false
set_option linter.unusedSimpArgs false
namespace Go.Proofs.YtlklhkkjcfmefaaGreatDoor.it
open Go.Lib (hid)
open Go.RowKit Go.Shelf
open sg (lst_len OpsAt)
open lx
theorem infoStr : (Tryz.prog.info? 9).map (fun i=>(i.zero,i.size,i.bytes)) = some (some (.string ⟨#[]⟩),1,16):=by kernel_rfl
def notesU (ts : List Tk) : List ByteArray:=(ts.filter (fun t=>decide (t.1 = 2))).map (·.2)
def strs (l : List ByteArray) : List Value:=l.map .string
theorem notesU_app (a b : List Tk) : notesU (a ++ b) = notesU a ++ notesU b:=by simp [notesU]
theorem notesU_yes (ts : List Tk) (t : Tk) (h : t.1 = 2) : notesU (ts ++ [t]) = notesU ts ++ [t.2]:=by rw [notesU_app];simp [notesU,h]
theorem notesU_no (ts : List Tk) (t : Tk) (h : t.1 ≠ 2) : notesU (ts ++ [t]) = notesU ts:=by rw [notesU_app];simp [notesU,h]
theorem notesU_len (ts : List Tk) : (notesU ts).length ≤ ts.length:=by unfold notesU;rw [List.length_map];exact List.length_filter_le _ _
theorem strs_snoc (l : List ByteArray) (s : ByteArray) : strs (l ++ [s]) = strs l ++ [.string s]:=by simp [strs]
theorem str_new (w : World) (a : Value) (t : TypeId) : ∀ j u,[a][j]? = some u → (w.alloc (.cells #[a] t)).cell? ((⟨w.heap.size,0,none⟩ : Addr).add j) = some u:=by
 intro j u hu
 have hb:=(sx.Blk.new w t #[a]).cell j
 match j,hu with
 | 0,hu=>cases hu;exact hb
 | n + 1,hu=>simp at hu
theorem sz_take (ts : List Tk) (k : Nat) (t : Tk) (h : ts[k]? = some t) : t.2.size ≤ sizeT ts:=by
 have:=List.mem_of_getElem? h
 clear h
 induction ts with
 | nil=>cases this
 | cons a r ih =>
  simp only [sizeT,List.map_cons,List.sum_cons] at ih ⊢
  rcases List.mem_cons.1 this with rfl | h
  ·omega
  ·have:=ih h;omega
theorem notes_calls (v : Value) (ts : List Tk) (w : World) (n : Nat) (h : TksAt n w v ts) (hs : sizeT ts ≤ 140737488351232) (hl : ts.length ≤ 1000000000000) :
  Calls Tryz.prog 55 #[v] w fun e w'=>∃ u,e = .returned u ∧ w'.ownsRow w.heap.size 9 1 u (notesU ts).length (strs (notesU ts)) ∧ Below w.heap.size w w':=by
 obtain ⟨ao,cap,rfl,hm,hc⟩:=h
 obtain ⟨i0,hi,hz0,hz1,hz2⟩:=info_parts infoStr
 go_enter Tryz.func55,Tryz.ntmps55
 go_wp2
 go_loopw [3,8] (fun o i wr=>∃ k : Nat,k ≤ ts.length ∧ i = .int .i64 (k : Int) ∧ wr.ownsRow w.heap.size 9 1 o (notesU (ts.take k)).length (strs (notesU (ts.take k))) ∧ Below w.heap.size w wr) (fun _ i _=>ts.length - (intOf i).toNat)
 case atStart=>exact ⟨0,Nat.zero_le _,rfl,World.ownsRow_nil _ _ _ _,Below.refl _ _⟩
 case round =>
  obtain ⟨k,hk,rfl,ho,hb⟩:=hrel
  by_cases hlt : k < ts.length
  ·obtain ⟨t,ht⟩ : ∃ t,ts[k]? = some t:=⟨_,List.getElem?_eq_getElem hlt⟩
   obtain ⟨g,off,rfl,hg,c0,c1⟩:=hc k t ht
   have hgw:=World.block_lt_of_cell? w _ c0
   have d0:=(hb.cell (p:=⟨g,off + k * 2,none⟩) hgw).trans c0
   have d1:=(hb.cell (p:=⟨g,off + k * 2 + 1,none⟩) hgw).trans c1
   have hlt1 : (k : Int) < (ts.length : Int):=by omega
   have hsz:=sz_take ts k t ht
   have htk:=take_snoc ts k t ht
   have hnl:=notesU_len (ts.take k)
   rw [List.length_take] at hnl
   have hb2:=hb.alloc hb.size (.cells #[.int .i64 t.1,.string t.2] 49)
   have ho2:=ho.alloc (.cells #[.int .i64 t.1,.string t.2] 49)
   have hsb : w.heap.size ≤ wr.heap.size:=hb.size
   obtain ⟨xs,hxs⟩ : ∃ xs,notesU (ts.take k) = xs:=⟨_,rfl⟩
   rw [hxs] at ho ho2 hnl
   by_cases h2 : t.1 = 2
   ·have hn:=notesU_yes (ts.take k) t h2
    rw [← htk,hxs] at hn
    rw [h2] at d0
    rw [h2] at hb2 ho2
    have hcl:=fun W=>clone_calls t.2 (by omega) W
    have HN:=hid hn;have HB2:=hid hb2;have HO2:=hid ho2
    obtain ⟨a3,l3,c3,rfl⟩:=own_slice ho
    clear hn hb2 ho2 htk hxs hb ho c0 c1 h2 ht
    go_wp2_with fail
    ((with_reducible refine (hcl _).mono ?_);rintro _ w2 ⟨rfl,hb3⟩)
    have HB3:=hid (sg.Below.next HB2.out hb3 (by simp))
    have ho3:=ownsRow_below HO2.out hb3
    have hsz3:=HB3.out.size
    clear hb3
    go_wp2_with (at_builtin;refine wpList_append_own _ rfl _ _ 42 rfl w.heap.size 9 i0 (.string ⟨#[]⟩) 1 16 Tryz.underlying42 hi hz0 hz1 hz2 rfl (by decide) _ _ _ rfl (ho3.alloc _) ⟨w2.heap.size,0,none⟩ 1 1 [.string t.2] rfl rfl (str_new _ _ _) (by simp [Value.oneCell']) (by unfold maxLen;omega) (by omega) (by simp;omega) ?_;intro v' w3 hown' hgrow _)
    have hb4 : Below w.heap.size w w3:=(HB3.out.alloc HB3.out.size (.cells #[.string t.2] 9)).grown hgrow (by simp;omega) (fun j ej=>(ho3.lt j ej).1)
    exact ⟨⟨k + 1,by omega,rfl,by rw [HN.out,strs_snoc,List.length_append];exact hown',hb4⟩,by simp [intOf];omega⟩
   ·have hn:=notesU_no (ts.take k) t h2
    rw [← htk,hxs] at hn
    have hq : (t.1 == 2) = false:=by rw [beq_eq_false_iff_ne];exact h2
    have hq2 : decide (t.1 = 2) = false:=decide_eq_false h2
    have HN:=hid hn;have HB2:=hid hb2;have HO2:=hid ho2
    clear hn hb2 ho2 htk hxs hb ho c0 c1 h2 ht
    go_wp2_with fail
    exact ⟨⟨k + 1,by omega,rfl,by rw [HN.out];exact HO2.out,HB2.out⟩,by simp [intOf];omega⟩
  ·obtain rfl : k = ts.length:=by omega
   have hge : decide ((ts.length : Int) < (ts.length : Int)) = false:=by simp
   have HO:=hid ho
   obtain ⟨a3,l3,c3,rfl⟩:=own_slice ho
   clear ho
   go_wp2_with fail
   go_ret
   exact ⟨_,rfl,by have:=HO.out;rwa [List.take_length] at this,hb⟩
def aheadU (ts : List Tk) : Nat:=fidx (fun t=>!idleB t.1) ts
theorem aheadU_le (ts : List Tk) : aheadU ts ≤ ts.length:=fidx_le _ _
theorem ahead_calls (v : Value) (ts : List Tk) (w : World) (h : TksAt w.heap.size w v ts) :
  Calls Tryz.prog 56 #[v] w fun e w'=>e = .returned (.int .i64 (aheadU ts : Int)) ∧ Below w.heap.size w w':=by
 have hi:=index_calls 103 _ asks_counts v ts w h
 have hle:=aheadU_le ts
 obtain ⟨ao,cap,rfl,hm,hc⟩:=h
 clear hc
 unfold maxLen at hm
 unfold idxR at hi
 unfold aheadU at hle ⊢
 obtain ⟨z,hz⟩ : ∃ z,fidx (fun t : Tk=>!idleB t.1) ts = z:=⟨_,rfl⟩
 rw [hz] at hi hle ⊢
 clear hz
 go_enter Tryz.func56,Tryz.ntmps56
 by_cases hzl : z = ts.length
 ·rw [if_pos hzl] at hi
  subst hzl
  go_wp2_with fail
  ((with_reducible refine hi.mono ?_);rintro _ w2 ⟨rfl,hb2⟩)
  go_wp2_with fail
  go_ret
  exact ⟨rfl,hb2⟩
 ·rw [if_neg hzl] at hi
  have t0 : decide ((z : Int) < 0) = false:=decide_eq_false (by omega)
  clear hzl
  go_wp2_with fail
  ((with_reducible refine hi.mono ?_);rintro _ w2 ⟨rfl,hb2⟩)
  go_wp2_with fail
  go_ret
  exact ⟨rfl,hb2⟩
end Go.Proofs.YtlklhkkjcfmefaaGreatDoor.it
namespace Go.Proofs.YtlklhkkjcfmefaaGreatDoor.it
open Go.Lib (hid)
open Go.RowKit Go.Shelf
open sg (lst_len OpsAt)
open lx sx
attribute [local go_sem] Oper.semAt_some
theorem aheadU_cons (t : Tk) (r : List Tk) : aheadU (t :: r) = if idleB t.1 then aheadU r + 1 else 0:=by
 unfold aheadU
 rw [fidx_cons]
 cases idleB t.1 <;> simp
structure Run where
 at' : Nat
 p : Nat
 l : List Tk
def runsFrom (at' p : Nat) : List Tk → List Run
 | []=>[]
 | t :: r=>⟨at',p,t :: r.take (aheadU r)⟩ :: runsFrom (at' + sizeT (t :: r.take (aheadU r))) (p + (1 + aheadU r)) (r.drop (aheadU r))
termination_by l=>l.length
decreasing_by simp;omega
def runsU (ts : List Tk) : List Run:=runsFrom (sizeT (ts.take (aheadU ts))) (aheadU ts) (ts.drop (aheadU ts))
theorem tks_part {n : Nat} {W : World} {cap : Nat} {g off : Nat} {ts : List Tk} (h : TksAt n W (.slice (some ⟨g,off,none⟩) ts.length cap) ts) (a b : Nat) (hab : a ≤ b) (hb : b ≤ ts.length) (c : Nat) :
  TksAt n W (.slice (some ⟨g,off + a * 2,none⟩) (b - a) c) ((ts.take b).drop a):=by
 obtain ⟨ao,cap',hv,hm,hc⟩:=h
 cases hv
 refine ⟨_,c,by rw [List.length_drop,List.length_take,Nat.min_eq_left hb],by rw [List.length_drop,List.length_take];omega,fun j t ht=>?_⟩
 rw [List.getElem?_drop] at ht
 have hj:=(List.getElem?_eq_some_iff.1 ht).1
 rw [List.length_take] at hj
 rw [List.getElem?_take_of_lt (by omega)] at ht
 obtain ⟨g',off',e,hg,c0,c1⟩:=hc _ t ht
 cases e
 refine ⟨g,_,rfl,hg,?_,?_⟩
 ·rw [show off + a * 2 + j * 2 = off + (a + j) * 2 by omega];exact c0
 ·rw [show off + a * 2 + j * 2 = off + (a + j) * 2 by omega];exact c1
theorem sizeT_both (a b : List Tk) : sizeT (a ++ b) = sizeT a + sizeT b:=by simp [sizeT]
theorem wadd {a b : Nat} (h : a + b ≤ 140737488351232) : wrap64 ((a : Int) + (b : Int)) = ((a + b : Nat) : Int):=by rw [IntWalk.wrap64_in];rfl;omega
theorem wone {k : Nat} (h : 1 + k ≤ maxLen) : wrap64 (1 + (k : Int)) = 1 + (k : Int):=by unfold maxLen at h;rw [IntWalk.wrap64_in];omega
def lenOf : Value → Nat
 | .slice _ n _=>n
 | _=>0
theorem rest1 {n : Nat} {W : World} {g off cap p : Nat} {ts r : List Tk} {t : Tk} (hts : TksAt n W (.slice (some ⟨g,off,none⟩) ts.length cap) ts) (htr : ts.drop p = t :: r) (o' c' : Nat) (ho' : 0 < r.length → o' = off + p * 2 + 2) :
  TksAt n W (.slice (some ⟨g,o',none⟩) r.length c') r:=by
 have hrl:=List.length_drop (i:=p) (l:=ts)
 rw [htr,List.length_cons] at hrl
 have hrd : ts.drop (p + 1) = r:=by rw [← List.drop_drop,htr];rfl
 rcases Nat.eq_zero_or_pos r.length with h0 | h0
 ·have : r = []:=List.length_eq_zero_iff.1 h0
  subst this
  exact ⟨_,c',rfl,Nat.zero_le _,fun j t ht=>by cases ht⟩
 ·rw [ho' h0]
  have:=tks_part hts (p + 1) ts.length (by omega) (Nat.le_refl _) c'
  rw [List.take_length,hrd,show off + (p + 1) * 2 = off + p * 2 + 2 by omega,show ts.length - (p + 1) = r.length by omega] at this
  exact this
theorem restRun {n : Nat} {W : World} {g off cap p : Nat} {ts r : List Tk} {t : Tk} (hts : TksAt n W (.slice (some ⟨g,off,none⟩) ts.length cap) ts) (htr : ts.drop p = t :: r) (k : Nat) (hk : k ≤ r.length) (c : Nat) :
  TksAt n W (.slice (some ⟨g,off + p * 2,none⟩) (1 + k) c) (t :: r.take k):=by
 have hrl:=List.length_drop (i:=p) (l:=ts)
 rw [htr,List.length_cons] at hrl
 have:=tks_part hts p (p + (1 + k)) (by omega) (by omega) c
 rw [show p + (1 + k) - p = 1 + k by omega,List.drop_take,htr,show p + (1 + k) - p = k + 1 by omega,List.take_succ_cons] at this
 exact this
abbrev encR (g off cap : Nat) (x : Run) : Array Value:=#[.int .i64 (x.at' : Int),.slice (some ⟨g,off + x.p * 2,none⟩) x.l.length (cap - x.p)]
theorem runs_in (n : Nat) (ao : Option Addr) (len cap : Nat) (w : World) :
  CallsIn Fence.wide n Tryz.prog 54 #[.slice ao len cap] w fun e w'=>e = .returned (.func (.func 100) #[] #[.pointer (some ⟨w.heap.size,0,none⟩)]) ∧ w' = w.alloc (.cells #[.slice ao len cap] 45):=by
 refine callsIn_of_wp Tryz.func54 rfl trivial ?_ rfl
 simp only [Tryz.ntmps54,List.size_toArray,List.length_cons,List.length_nil,Nat.reduceAdd,Nat.reduceSub,Array.replicate_succ,Array.replicate_zero,List.push_toArray,List.append_toArray,List.nil_append,List.cons_append]
 gi_wp2
 go_ret
 exact ⟨rfl,rfl⟩
theorem runs1_in (n : Nat) (hn : 1 ≤ n) (l Bs n0 : Nat) (g off cap : Nat) (ts : List Tk) (hcap : ts.length ≤ cap) (hs : sizeT ts ≤ 140737488351232) (J : List Run → World → Prop)
  (hY : ∀ pre x rest W,runsU ts = pre ++ x :: rest → J pre W → YieldAt Fence.wide (n - 1) Tryz.prog l (encR g off cap x) W fun e W'=>e = .returned (.bool true) ∧ J (pre ++ [x]) W' ∧ KB n0 Bs 45 W W')
  (W : World) (hn0 : n0 ≤ W.heap.size) (hJ : AbidesFrom W.heap.size J) (hb : Blk W Bs 45 #[.slice (some ⟨g,off,none⟩) ts.length cap]) (hts : TksAt n0 W (.slice (some ⟨g,off,none⟩) ts.length cap) ts) (h0 : J [] W) :
  CallsIn Fence.wide n Tryz.prog 100 #[.func (.yield l) #[] #[],.pointer (some ⟨Bs,0,none⟩)] W fun e W'=>(∃ v,e = .returned v) ∧ J (runsU ts) W':=by
 have hfI : Fence.wide.fn 56:=trivial
 have hfI2 : Fence.wide.fn 101:=trivial
 have hc0 : W.cell? ⟨Bs,0,none⟩ = some (.slice (some ⟨g,off,none⟩) ts.length cap):=hb.cell 0
 have hah:=ahead_calls _ ts W (hts.mono hn0)
 have hle:=aheadU_le ts
 obtain ⟨z,hz⟩ : ∃ z,aheadU ts = z:=⟨_,rfl⟩
 rw [hz] at hah hle
 have ht0 : TksAt n0 W (.slice (some ⟨g,off,none⟩) z cap) (ts.take z):=by simpa using tks_part hts 0 z (Nat.zero_le _) hle cap
 have hst:=sizeT_take ts z
 have hsz:=fun w2 (hb2 : Below W.heap.size W w2)=>isize_calls _ _ w2 n0 (ht0.below hb2 hn0) (by omega)
 have HZ:=hid hz
 clear hz
 refine callsIn_of_wp Tryz.func100 rfl trivial ?_ rfl
 simp only [Tryz.ntmps100,List.size_toArray,List.length_cons,List.length_nil,Nat.reduceAdd,Nat.reduceSub,Array.replicate_succ,Array.replicate_zero,List.push_toArray,List.append_toArray,List.nil_append,List.cons_append]
 gi_wp2_with fail
 ((with_reducible refine (callsIn_wide.2 hah).mono ?_);rintro _ w1 ⟨rfl,hb1⟩)
 have hc1 : w1.cell? ⟨Bs,0,none⟩ = some (.slice (some ⟨g,off,none⟩) ts.length cap):=(hb.own hb1).cell 0
 have hzc : (z : Int) ≤ (cap : Int):=by omega
 gi_wp2_with fail
 ((with_reducible refine (callsIn_wide.2 (hsz w1 hb1)).mono ?_);rintro _ w2 ⟨rfl,hb2⟩)
 have hc2 : w2.cell? ⟨Bs,0,none⟩ = some (.slice (some ⟨g,off,none⟩) ts.length cap):=((hb.own hb1).own hb2).cell 0
 have hzl : (z : Int) ≤ (ts.length : Int):=by omega
 have hlc : (ts.length : Int) ≤ (cap : Int):=by omega
 have hb12 : KB n0 Bs 45 W w2:=KB.of_below (hb1.trans (hb2.mono hb1.size)) hn0
 have hj2:=abides_below hJ (abides_below hJ h0 hb1) hb2
 have hsz2 : W.heap.size ≤ w2.heap.size:=Nat.le_trans hb1.size hb2.size
 gi_wp2_with fail
 all_goals (
  gi_loopw [3,4,5] (fun m at0 r wr=>∃ (pre : List Run) (a p q o : Nat),m = .int .i64 (q : Int) ∧ at0 = .int .i64 (a : Int) ∧ r = .slice (some ⟨g,o,none⟩) (ts.length - p) (cap - p) ∧ (p < ts.length → o = off + p * 2) ∧ p ≤ ts.length ∧ runsU ts = pre ++ runsFrom a p (ts.drop p) ∧ a + sizeT (ts.drop p) ≤ sizeT ts ∧ J pre wr ∧ KB n0 Bs 45 W wr ∧ W.heap.size ≤ wr.heap.size)
   (fun m at0 r wr=>lenOf r)
  case atStart =>
   refine ⟨[],sizeT (ts.take z),z,z,if cap = z then off else off + z * 2,rfl,rfl,by simp [h],fun h'=>if_neg (by omega),hle,?_,?_,hj2,hb12,hsz2⟩
   ·rw [← HZ.out];rfl
   ·rw [← sizeT_both,List.take_append_drop];exact Nat.le_refl _
  case round =>
   obtain ⟨pre,a,p,q,o,rfl,rfl,rfl,ho,hp,hrun,hsa,hJ1,hK,hszr⟩:=hrel
   by_cases hpl : p = ts.length
   ·subst hpl
    rw [List.drop_length,runsFrom,List.append_nil] at hrun
    have HR:=hid hrun
    clear hrun
    rw [Nat.sub_self]
    gi_wp2
    refine bodyPost_end (results_none rfl _ _ _) rfl ?_
    exact ⟨⟨_,rfl⟩,by rw [HR.out];exact hJ1⟩
   ·obtain rfl:=ho (by omega)
    obtain ⟨t,r,htr⟩ : ∃ t r,ts.drop p = t :: r:=by
     cases hd : ts.drop p with
     | nil=>have:=List.length_drop (i:=p) (l:=ts);rw [hd] at this;simp at this;omega
     | cons t r=>exact ⟨t,r,rfl⟩
    have hrl : r.length + 1 = ts.length - p:=by have:=List.length_drop (i:=p) (l:=ts);rw [htr] at this;simpa using this
    have hrd : ts.drop (p + 1) = r:=by rw [← List.drop_drop,htr];rfl
    have hm : ts.length ≤ maxLen:=by obtain ⟨_,_,_,hm,_⟩:=hts;exact hm
    obtain ⟨k,hk⟩ : ∃ k,aheadU r = k:=⟨_,rfl⟩
    have hkl:=aheadU_le r
    rw [hk] at hkl
    rw [htr] at hrun hsa
    rw [runsFrom,hk] at hrun
    have htw:=(hts.below hK.1 (Nat.le_refl _))
    have hah2:=fun (o' c' : Nat) ho'=>ahead_calls _ _ wr ((rest1 htw htr o' c' ho').mono (Nat.le_trans hn0 hszr))
    rw [hk] at hah2
    have hrT:=fun W3 (hb3 : Below n0 wr W3)=>(restRun htw htr k hkl (cap - p)).below hb3 (Nat.le_refl _)
    obtain ⟨N,hN,hN1⟩ : ∃ N,ts.length - p = N + 1 ∧ r.length = N:=⟨r.length,by omega,rfl⟩
    obtain ⟨C,hC⟩ : ∃ C,cap - p = C + 1:=⟨cap - p - 1,by omega⟩
    have hNC : N ≤ C:=by omega
    rw [hN1] at hkl hah2
    rw [hC] at hrT
    rw [hN,hC]
    obtain ⟨o,hO⟩ : ∃ o,off + p * 2 = o:=⟨_,rfl⟩
    rw [hO] at hah2 hrT ⊢
    have f0 : (0 : Int) < ((N + 1 : Nat) : Int):=by omega
    have f1 : (1 : Int) ≤ ((N + 1 : Nat) : Int):=by omega
    have f2 : ((N + 1 : Nat) : Int) ≤ ((C + 1 : Nat) : Int):=by omega
    have HHR:=hid hrun;have HSA:=hid hsa;have HHO:=hid hO;have HTW:=hid htw;have HTR:=hid htr
    clear hrun hsa hO htw htr hts hsz hah ht0 hst ho
    have f3 : 1 + (k : Int) ≤ ((C + 1 : Nat) : Int):=by omega
    have f4 : 1 + (k : Int) ≤ ((N + 1 : Nat) : Int):=by omega
    have f5 : 1 + k ≤ maxLen:=by omega
    have hN0 : C = 0 → N = 0:=by omega
    have HN0:=hid hN0
    clear hN0
    rcases Nat.eq_zero_or_pos C with rfl | hC0
    ·obtain rfl : N = 0:=Nat.le_zero.1 hNC
     obtain rfl : k = 0:=Nat.le_zero.1 hkl
     replace hah2 : Calls Tryz.prog 56 #[.slice (some ⟨g,o,none⟩) 0 0] wr fun e w'=>e = .returned (.int .i64 0) ∧ Below wr.heap.size wr w':=hah2 o 0 (fun h'=>absurd h' (Nat.lt_irrefl _))
     gi_wp2_with fail
     ((with_reducible refine (callsIn_wide.2 hah2).mono ?_);rintro _ w3 ⟨rfl,hb3⟩)
     have HF:=hid (And.intro hNC (And.intro hkl (And.intro f3 (And.intro hszr (And.intro hn0 (And.intro hsz2 (And.intro hs (And.intro hN (And.intro hN1 hC)))))))))
     clear hah2 hNC hkl f0 f1 f2 f4 hle hs hcap hszr hsz2 hN hN1 hC hm hp hlc hzl hzc f5 hrl hn0 hpl h hb1 hb2 hb12
     obtain ⟨fn,tmps,assign,body,hy,hR⟩:=hY pre ⟨a,p,t :: r.take 0⟩ _ w3 HHR.out (abides_below hJ hJ1 hb3)
     have hxl : (t :: r.take 0).length = 1 + 0:=by rw [List.length_cons,List.length_take,Nat.min_eq_left (by rw [HF.out.2.2.2.2.2.2.2.2.1];exact HF.out.2.1),Nat.add_comm]
     dsimp only [encR] at hy
     rw [HHO.out,hxl,HF.out.2.2.2.2.2.2.2.2.2] at hy
     clear hxl
     simp only [Nat.add_zero,Nat.zero_add] at hy hrT
     gi_wp2_with fail
     refine hR.mono ?_
     rintro ee W4 ⟨rfl,hJ4,hk4⟩
     have hb34 : Below n0 wr W4:=(hb3.mono (Nat.le_trans HF.out.2.2.2.2.1 HF.out.2.2.2.1)).trans hk4.1
     have hsr:=sizeT_take (t :: r) (0 + 1)
     rw [List.take_succ_cons] at hsr
     have hs4:=isize_calls _ _ W4 n0 (hrT W4 hb34) (by have:=HF.out.2.2.2.2.2.2.1;have:=HSA.out;omega)
     have hwa : wrap64 ((a : Int) + (sizeT (t :: r.take 0) : Int)) = ((a + sizeT (t :: r.take 0) : Nat) : Int):=wadd (by have:=HF.out.2.2.2.2.2.2.1;have:=HSA.out;omega)
     clear hR
     have HSR:=hid hsr
     clear hsr
     obtain ⟨Z,hZ⟩ : ∃ Z,sizeT (t :: r.take 0) = Z:=⟨_,rfl⟩
     rw [hZ] at hs4 hwa
     have HZZ:=hid hZ
     clear hZ
     gi_wp2_with fail
     ((with_reducible refine (callsIn_wide.2 hs4).mono ?_);rintro _ w5 ⟨rfl,hb5⟩)
     have HWA:=hid hwa
     clear hs4 hwa
     gi_wp2_with fail
     have hsz4 : w3.heap.size ≤ W4.heap.size:=hk4.1.size
     have hsz5:=hb5.size
     have hsz3:=hb3.size
     obtain ⟨e1,e2,e3,e4,e5,e6,e7,e8,e9,e10⟩:=HF.out
     have hdr : ts.drop (p + (1 + 0)) = r.drop 0:=by rw [← List.drop_drop,HTR.out,Nat.add_comm 1 0,List.drop_succ_cons]
     have hq0:=HHO.out;have hq1:=HSA.out;have hq2:=HZZ.out
     have hq3 : sizeT (t :: r) = sizeT (t :: r.take 0) + sizeT (r.drop 0):=by rw [← sizeT_both,List.cons_append,List.take_append_drop]
     refine ⟨⟨pre ++ [⟨a,p,t :: r.take 0⟩],a + Z,p + (1 + 0),1 + 0,if 0 + 1 = 1 + 0 then o else o + (1 + 0) * 2,by push_cast;rfl,by rw [HWA.out],?_,?_,?_,?_,?_,?_,?_,?_⟩,?_⟩
     ·rw [show ts.length - (p + (1 + 0)) = 0 by omega,show cap - (p + (1 + 0)) = 0 by omega]
      simp
     ·intro h'
      rw [if_neg (by omega)]
      omega
     ·omega
     ·rw [hdr,← hq2,List.append_assoc]
      exact HHR.out
     ·rw [hdr]
      omega
     ·exact abides_below hJ hJ4 hb5
     ·exact ((hK.trans (KB.of_below hb3 (by omega))).trans hk4).trans (KB.of_below hb5 (by omega))
     ·omega
     ·show 0 < 1
      omega
    ·have hC1 : ¬ C = 0:=Nat.ne_of_gt hC0
     gi_wp2_with fail
     ((with_reducible refine (callsIn_wide.2 (hah2 _ _ (fun _=>rfl))).mono ?_);rintro _ w3 ⟨rfl,hb3⟩)
     have hw1 : wrap64 (1 + (k : Int)) = 1 + (k : Int):=wone f5
     have HF:=hid (And.intro hNC (And.intro hkl (And.intro f3 (And.intro hszr (And.intro hn0 (And.intro hsz2 (And.intro hs (And.intro hN (And.intro hN1 hC)))))))))
     clear hah2 hNC hkl f0 f1 f2 f4 hle hs hcap hszr hsz2 hN hN1 hC hm hp hlc hzl hzc f5 hrl hn0 hC0 hpl h hb1 hb2 hb12
     obtain ⟨fn,tmps,assign,body,hy,hR⟩:=hY pre ⟨a,p,t :: r.take k⟩ _ w3 HHR.out (abides_below hJ hJ1 hb3)
     have hxl : (t :: r.take k).length = 1 + k:=by rw [List.length_cons,List.length_take,Nat.min_eq_left (by rw [HF.out.2.2.2.2.2.2.2.2.1];exact HF.out.2.1),Nat.add_comm]
     dsimp only [encR] at hy
     rw [HHO.out,hxl,HF.out.2.2.2.2.2.2.2.2.2] at hy
     clear hxl
     gi_wp2_with fail
     refine hR.mono ?_
     rintro ee W4 ⟨rfl,hJ4,hk4⟩
     have hb34 : Below n0 wr W4:=(hb3.mono (Nat.le_trans HF.out.2.2.2.2.1 HF.out.2.2.2.1)).trans hk4.1
     have hsr:=sizeT_take (t :: r) (k + 1)
     rw [List.take_succ_cons] at hsr
     have hs4:=isize_calls _ _ W4 n0 (hrT W4 hb34) (by have:=HF.out.2.2.2.2.2.2.1;have:=HSA.out;omega)
     have hwa : wrap64 ((a : Int) + (sizeT (t :: r.take k) : Int)) = ((a + sizeT (t :: r.take k) : Nat) : Int):=wadd (by have:=HF.out.2.2.2.2.2.2.1;have:=HSA.out;omega)
     clear hR
     have HSR:=hid hsr
     clear hsr
     obtain ⟨Z,hZ⟩ : ∃ Z,sizeT (t :: r.take k) = Z:=⟨_,rfl⟩
     rw [hZ] at hs4 hwa
     have HZZ:=hid hZ
     clear hZ
     gi_wp2_with fail
     ((with_reducible refine (callsIn_wide.2 hs4).mono ?_);rintro _ w5 ⟨rfl,hb5⟩)
     have HWA:=hid hwa
     have f6 : 1 + (k : Int) ≤ ((N + 1 : Nat) : Int):=by have:=HF.out.2.1;omega
     have f7 : ((N + 1 : Nat) : Int) ≤ ((C + 1 : Nat) : Int):=by have:=HF.out.1;omega
     clear hs4 hwa
     gi_wp2_with fail
     clear hw1
     have hsz4 : w3.heap.size ≤ W4.heap.size:=hk4.1.size
     have hsz5:=hb5.size
     have hsz3:=hb3.size
     obtain ⟨e1,e2,e3,e4,e5,e6,e7,e8,e9,e10⟩:=HF.out
     have hdr : ts.drop (p + (1 + k)) = r.drop k:=by rw [← List.drop_drop,HTR.out,Nat.add_comm 1 k,List.drop_succ_cons]
     have hq0:=HHO.out;have hq1:=HSA.out;have hq2:=HZZ.out
     have hq3 : sizeT (t :: r) = sizeT (t :: r.take k) + sizeT (r.drop k):=by rw [← sizeT_both,List.cons_append,List.take_append_drop]
     refine ⟨⟨pre ++ [⟨a,p,t :: r.take k⟩],a + Z,p + (1 + k),1 + k,if C + 1 = 1 + k then o else o + (1 + k) * 2,by push_cast;rfl,by rw [HWA.out],?_,?_,?_,?_,?_,?_,?_,?_⟩,?_⟩
     ·rw [show ts.length - (p + (1 + k)) = N + 1 - (1 + k) by omega,show cap - (p + (1 + k)) = C + 1 - (1 + k) by omega]
      split <;> rfl
     ·intro h'
      rw [if_neg (by omega)]
      omega
     ·omega
     ·rw [hdr,← hq2,List.append_assoc]
      exact HHR.out
     ·rw [hdr]
      omega
     ·exact abides_below hJ hJ4 hb5
     ·exact ((hK.trans (KB.of_below hb3 (by omega))).trans hk4).trans (KB.of_below hb5 (by omega))
     ·omega
     ·show N + 1 - (1 + k) < N + 1
      omega)
theorem runs_all (n : Nat) (hn : 1 ≤ n) (Bs n0 g off cap : Nat) (ts : List Tk) (hcap : ts.length ≤ cap) (hs : sizeT ts ≤ 140737488351232) (w : World) (hn0 : n0 ≤ w.heap.size) (hb : Blk w Bs 45 #[.slice (some ⟨g,off,none⟩) ts.length cap]) (hts : TksAt n0 w (.slice (some ⟨g,off,none⟩) ts.length cap) ts) :
  SeqAll Fence.wide n Tryz.prog 100 #[.pointer (some ⟨Bs,0,none⟩)] (encR g off cap) (KB n0 Bs 45) (runsU ts) w:=fun l J W hW hJ hY h0 =>
 runs1_in n hn l Bs n0 g off cap ts hcap hs J hY W (Nat.le_trans hn0 hW.size) hJ (hb.below hW hb.lt) (hts.below (hW.mono hn0) (Nat.le_refl _)) h0
end Go.Proofs.YtlklhkkjcfmefaaGreatDoor.it
namespace Go.Proofs.YtlklhkkjcfmefaaGreatDoor.it
open Go.Lib (hid)
open Go.RowKit Go.Shelf
open sg (lst_len OpsAt)
open lx sx
attribute [local go_sem] Oper.semAt_some
theorem infoItem : (Tryz.prog.info? 62).map (fun i=>(i.zero,i.size,i.bytes)) = some (some (.agg #[.int .i64 0,.string ⟨#[]⟩,.int .i64 0,.slice none 0 0]),4,56):=by kernel_rfl
def itemCells : List Run → List Value → List Value
 | x :: xs,nv :: nvs=>.int .i64 ((x.l.headD (0,⟨#[]⟩)).1) :: .string (x.l.headD (0,⟨#[]⟩)).2 :: .int .i64 (x.at' : Int) :: nv :: itemCells xs nvs
 | _,_=>[]
def NotesAt (base : Nat) (W : World) : List Run → List Value → Prop
 | x :: xs,nv :: nvs=>W.ownsRow base 9 1 nv (notesU x.l).length (strs (notesU x.l)) ∧ NotesAt base W xs nvs
 | [],[]=>True
 | _,_=>False
def ItO (O base : Nat) (nvs : List Value) (pre : List Run) (W : World) : Prop :=
 ∃ v,Boxed W O 28 v ∧ W.ownsRow base 62 4 v pre.length (itemCells pre nvs) ∧ True
theorem ItO_own (O base : Nat) (nvs : List Value) : Own (ItO O base nvs):=by
 have h:=holdsRow_own (β:=List Run) base O 28 62 4 (fun pre=>pre.length) (fun pre=>itemCells pre nvs) (fun _ _=>True)
 exact h
theorem NotesAt_own (base : Nat) (nvs : List Value) : Own (fun pre W=>NotesAt base W pre nvs):=by
 intro pre X Y row h hg hrow
 induction pre generalizing nvs with
 | nil=>cases nvs with
  | nil=>trivial
  | cons _ _=>exact h.elim
 | cons x xs ih=>cases nvs with
  | nil=>exact h.elim
  | cons nv nvs=>exact ⟨row_own (β:=Unit) base 9 1 (fun _=>nv) (fun _=>_) (fun _=>_) () X Y row h.1 hg hrow,ih nvs h.2⟩
def ItI (w : World) (O : Nat) (lv : Value) (pre : List Run) (W : World) : Prop :=
 ((∃ nvs,ItO O (O + 2) nvs pre W ∧ NotesAt (O + 2) W pre nvs) ∧ Boxed W (O + 1) 45 lv) ∧ Below w.heap.size w W
theorem ItI_own (w : World) (O : Nat) (lv : Value) (B : Nat) (hB : w.heap.size ≤ B) : OwnFrom B (ItI w O lv) :=
 OwnFrom.and (OwnFrom.and (fun pre X Y row hs hg hr=>by
  obtain ⟨nvs,h1,h2⟩:=hs
  exact ⟨nvs,Own.from (ItO_own O _ nvs) _ pre X Y row h1 hg hr,Own.from (NotesAt_own _ nvs) _ pre X Y row h2 hg hr⟩) (Own.from (boxed_own _ _ _) _)) (ownFrom_below (Nat.le_refl _) hB)
theorem mem_runsFrom {n : Nat} {W : World} {g off cap : Nat} {ts : List Tk} (hts : TksAt n W (.slice (some ⟨g,off,none⟩) ts.length cap) ts) (a p : Nat) (hp : p ≤ ts.length) :
  ∀ x ∈ runsFrom a p (ts.drop p),TksAt n W (.slice (some ⟨g,off + x.p * 2,none⟩) x.l.length (cap - x.p)) x.l ∧ x.l ≠ [] ∧ sizeT x.l ≤ sizeT ts ∧ x.l.length ≤ ts.length:=by
 generalize hn : ts.length - p = m
 induction m using Nat.strongRecOn generalizing a p with
 | ind m ih =>
  intro x hx
  cases hd : ts.drop p with
  | nil=>rw [hd,runsFrom] at hx;cases hx
  | cons t r =>
   have hrl:=List.length_drop (i:=p) (l:=ts)
   rw [hd,List.length_cons] at hrl
   rw [hd,runsFrom] at hx
   have hkl:=aheadU_le r
   have hrun:=restRun hts hd (aheadU r) hkl (cap - p)
   have hsz : sizeT (t :: r.take (aheadU r)) ≤ sizeT ts:=by
    have h1:=congrArg sizeT (List.take_append_drop p ts)
    have h2:=sizeT_take (t :: r) (aheadU r + 1)
    rw [hd,sizeT_both] at h1
    rw [List.take_succ_cons] at h2
    omega
   rcases List.mem_cons.1 hx with rfl | hx
   ·refine ⟨?_,by simp,hsz,?_⟩
    ·have : (t :: r.take (aheadU r)).length = 1 + aheadU r:=by rw [List.length_cons,List.length_take];omega
     rw [this];exact hrun
    ·rw [List.length_cons,List.length_take];omega
   ·have hdr : ts.drop (p + (1 + aheadU r)) = r.drop (aheadU r):=by rw [← List.drop_drop,hd,Nat.add_comm 1,List.drop_succ_cons]
    rw [← hdr] at hx
    exact ih (ts.length - (p + (1 + aheadU r))) (by omega) _ _ (by omega) rfl x hx
end Go.Proofs.YtlklhkkjcfmefaaGreatDoor.it
namespace Go.Proofs.YtlklhkkjcfmefaaGreatDoor.it
open Go.Lib (hid)
open Go.RowKit Go.Shelf
open sg (lst_len OpsAt)
open lx sx
attribute [local go_sem] Oper.semAt_some
theorem NotesAt.len {base : Nat} {W : World} {pre : List Run} {nvs : List Value} (h : NotesAt base W pre nvs) : nvs.length = pre.length:=by
 induction pre generalizing nvs with
 | nil=>cases nvs with
  | nil=>rfl
  | cons _ _=>exact h.elim
 | cons x xs ih=>cases nvs with
  | nil=>exact h.elim
  | cons nv nvs=>rw [List.length_cons,List.length_cons,ih h.2]
theorem itemCells_snoc {pre : List Run} {nvs : List Value} (hl : nvs.length = pre.length) (x : Run) (nv : Value) :
  itemCells (pre ++ [x]) (nvs ++ [nv]) = itemCells pre nvs ++ [.int .i64 ((x.l.headD (0,⟨#[]⟩)).1),.string (x.l.headD (0,⟨#[]⟩)).2,.int .i64 (x.at' : Int),nv]:=by
 induction pre generalizing nvs with
 | nil=>cases nvs with
  | nil=>rfl
  | cons _ _=>cases hl
 | cons y ys ih=>cases nvs with
  | nil=>cases hl
  | cons mv nvs=>simp only [List.cons_append,itemCells,ih (by simpa using hl)]
theorem NotesAt.snoc {base : Nat} {W : World} {pre : List Run} {nvs : List Value} (h : NotesAt base W pre nvs) {x : Run} {nv : Value} (hx : W.ownsRow base 9 1 nv (notesU x.l).length (strs (notesU x.l))) : NotesAt base W (pre ++ [x]) (nvs ++ [nv]):=by
 induction pre generalizing nvs with
 | nil=>cases nvs with
  | nil=>exact ⟨hx,trivial⟩
  | cons _ _=>exact h.elim
 | cons y ys ih=>cases nvs with
  | nil=>exact h.elim
  | cons mv nvs=>exact ⟨h.1,ih h.2⟩
theorem own_typed {W W' : World} {base size n : Nat} {e e2 : TypeId} {v : Value} {xs : List Value} (h : W.ownsRow base e2 size v n xs) (hne : e2 ≠ e) (hb : ∀ b t vs,t ≠ e → Blk W b t vs → Blk W' b t vs) : W'.ownsRow base e2 size v n xs:=by
 refine ⟨h.1,?_⟩
 rcases h.2 with hn | ⟨g,cap,cur,h1,h2,h3,h4⟩
 ·exact .inl hn
 ·exact .inr ⟨g,cap,cur,h1,h2,hb _ _ _ hne h3,h4⟩
theorem own_kept {W W' : World} {base size n : Nat} {e : TypeId} {v : Value} {xs : List Value} {row : Option Nat} (h : W.ownsRow base e size v n xs) (hg : W.grownBy W' row) (hne : ∀ j,row = some j → j < base) : W'.ownsRow base e size v n xs:=by
 refine ⟨h.1,?_⟩
 rcases h.2 with hn | ⟨g,cap,cur,h1,h2,h3,h4⟩
 ·exact .inl hn
 ·exact .inr ⟨g,cap,cur,h1,h2,(hg.block g (Array.getElem?_eq_some_iff.1 h3).1 (fun e'=>by have:=hne g e'.symm;omega)).trans h3,h4⟩
theorem NotesAt.typed {W W' : World} {base : Nat} {e : TypeId} {pre : List Run} {nvs : List Value} (h : NotesAt base W pre nvs) (hne : 9 ≠ e) (hb : ∀ b t vs,t ≠ e → Blk W b t vs → Blk W' b t vs) : NotesAt base W' pre nvs:=by
 induction pre generalizing nvs with
 | nil=>cases nvs with
  | nil=>trivial
  | cons _ _=>exact h.elim
 | cons x xs ih=>cases nvs with
  | nil=>exact h.elim
  | cons nv nvs=>exact ⟨own_typed h.1 hne hb,ih h.2⟩
theorem NotesAt.far {W : World} {base B o : Nat} {u : Value} {pre : List Run} {nvs : List Value} (h : NotesAt base W pre nvs) (hb : B < base) : NotesAt base (W.setCell ⟨B,o,none⟩ u) pre nvs:=by
 induction pre generalizing nvs with
 | nil=>cases nvs with
  | nil=>trivial
  | cons _ _=>exact h.elim
 | cons x xs ih=>cases nvs with
  | nil=>exact h.elim
  | cons nv nvs=>exact ⟨own_far h.1 hb,ih h.2⟩
theorem NotesAt.own {W W' : World} {base : Nat} {pre : List Run} {nvs : List Value} (h : NotesAt base W pre nvs) (hb : Below W.heap.size W W') : NotesAt base W' pre nvs:=by
 induction pre generalizing nvs with
 | nil=>cases nvs with
  | nil=>trivial
  | cons _ _=>exact h.elim
 | cons x xs ih=>cases nvs with
  | nil=>exact h.elim
  | cons nv nvs=>exact ⟨ownsRow_below h.1 hb,ih h.2⟩
theorem blk_put2 {W : World} {B : Nat} {t : TypeId} {a b : Value} (h : Blk W B t #[a,b]) (c d : Value) : Blk ((W.setCell ⟨B,0,none⟩ c).setCell ⟨B,1,none⟩ d) B t #[c,d]:=by
 unfold Blk at h ⊢
 simp [World.setCell,Array.getElem?_modify,h]
abbrev itAct (lv : Value) (N g off cap : Nat) (x : Run) (v7 v12 v13 v14 v15 v16 v17 v18 v19 v20 v21 v22 v23 v24 v25 v26 v27 v28 v29 : Value) : Act :=
 { tmps:=#[lv,undef,.slice none 0 0,.slice none 0 0,.pointer (some ⟨N,0,none⟩),.int .i64 (x.at' : Int),(.slice (some ⟨g,off + x.p * 2,none⟩) x.l.length (cap - x.p)),v7,lv,.func (.func 100) #[] #[.pointer (some ⟨N + 1,0,none⟩)],.int .i64 (x.at' : Int),(.slice (some ⟨g,off + x.p * 2,none⟩) x.l.length (cap - x.p)),v12,v13,v14,v15,v16,v17,v18,v19,v20,v21,v22,v23,v24,v25,v26,v27,v28,v29,undef,undef,undef,undef,undef,undef],defers:=[] }
structure It5R (lv : Value) (N g off cap : Nat) (x : Run) (kd : Int) (tb : ByteArray) (W1 : World) (d : Nat → Bool) (v7 v12 v13 v14 v15 v16 v17 v18 v19 v20 v21 : Value) (u : World) : Prop where
 p0 : d 0 = true → v12 = (.slice (some ⟨g,off + x.p * 2,none⟩) x.l.length (cap - x.p))
 p1 : d 1 = true → v13 = .pointer (some ⟨g,off + x.p * 2,none⟩)
 p2 : d 2 = true → v14 = .pointer (some ⟨g,off + x.p * 2,none⟩)
 p3 : d 3 = true → v15 = .int .i64 kd
 p4 : d 4 = true → v16 = (.slice (some ⟨g,off + x.p * 2,none⟩) x.l.length (cap - x.p))
 p5 : d 5 = true → v17 = .pointer (some ⟨g,off + x.p * 2,none⟩)
 p6 : d 6 = true → v18 = .pointer (some ⟨g,off + x.p * 2 + 1,none⟩)
 p7 : d 7 = true → v19 = .string tb
 p8 : d 8 = true → v20 = .string tb
 p9 : d 9 = true → v21 = .agg #[.int .i64 kd,.string tb]
 q1 : d 1 = true → d 0 = true
 q2 : d 2 = true → d 1 = true
 q3 : d 3 = true → d 2 = true
 q5 : d 5 = true → d 4 = true
 q6 : d 6 = true → d 5 = true
 q7 : d 7 = true → d 6 = true
 q8 : d 8 = true → d 7 = true
 q9 : d 9 = true → d 3 = true ∧ d 8 = true
 q11 : d 11 = true → d 10 = true ∧ d 9 = true
 wb : Below W1.heap.size W1 u
 wa : d 10 = true → d 11 = false → ∃ B,W1.heap.size ≤ B ∧ v7 = .pointer (some ⟨B,0,none⟩) ∧ Blk u B 49 #[.int .i64 0,.string ⟨#[]⟩]
 wz : d 11 = true → ∃ B,W1.heap.size ≤ B ∧ v7 = .pointer (some ⟨B,0,none⟩) ∧ Blk u B 49 #[.int .i64 kd,.string tb]
def It5V (lv : Value) (N g off cap : Nat) (x : Run) (kd : Int) (tb : ByteArray) (W1 : World) (listed : Array Bool) (a : Act) (u : World) : Prop :=
 listed.size = 12 ∧ ∃ v7 v12 v13 v14 v15 v16 v17 v18 v19 v20 v21,a = itAct lv N g off cap x v7 v12 v13 v14 v15 v16 v17 v18 v19 v20 v21 undef undef undef undef undef undef undef undef ∧ It5R lv N g off cap x kd tb W1 (rinv.done listed) v7 v12 v13 v14 v15 v16 v17 v18 v19 v20 v21 u
structure It6R (lv : Value) (N g off cap : Nat) (x : Run) (kd : Int) (tb : ByteArray) (O base : Nat) (m : Nat) (ns : List Value) (out : Value) (k : Nat) (xs : List Value) (v7 v12 v13 v14 v15 v16 v17 v18 v19 v20 v21 : Value) (W1 : World) (d : Nat → Bool) (v22 v23 v24 v25 v26 v27 v28 v29 : Value) (u : World) : Prop where
 p0 : d 0 = true → v22 = out
 p1 : d 1 = true → v23 = .agg #[.int .i64 kd,.string tb]
 p2 : d 2 = true → v24 = .int .i64 (x.at' : Int)
 p3 : d 3 = true → v25 = (.slice (some ⟨g,off + x.p * 2,none⟩) x.l.length (cap - x.p))
 p5 : d 5 = true → v27 = .agg #[.int .i64 kd,.string tb,.int .i64 (x.at' : Int),v26]
 q4 : d 4 = true → d 3 = true
 q5 : d 5 = true → d 1 = true ∧ d 2 = true ∧ d 4 = true
 q6 : d 6 = true → d 5 = true
 q7 : d 7 = true → d 0 = true ∧ d 6 = true
 q8 : d 8 = true → d 7 = true
 wv : d 4 = true → u.ownsRow W1.heap.size 9 1 v26 m ns
 w7 : d 6 = false → Below W1.heap.size W1 u
 w8 : d 6 = true → d 7 = false → ∃ z,Below W1.heap.size W1 z ∧ u = z.alloc (.cells #[.int .i64 kd,.string tb,.int .i64 (x.at' : Int),v26] 62) ∧ v28 = .slice (some ⟨z.heap.size,0,none⟩) 1 1
 w9 : d 7 = true → d 8 = false → ∃ z,Below W1.heap.size W1 z ∧ u.ownsRow base 62 4 v29 (k + 1) (xs ++ [.int .i64 kd,.string tb,.int .i64 (x.at' : Int),v26]) ∧ (z.alloc (.cells #[.int .i64 kd,.string tb,.int .i64 (x.at' : Int),v26] 62)).grownBy u out.ownBlock
 w10 : d 8 = true → ∃ z wq v',Below W1.heap.size W1 z ∧ wq.ownsRow base 62 4 v' (k + 1) (xs ++ [.int .i64 kd,.string tb,.int .i64 (x.at' : Int),v26]) ∧ (z.alloc (.cells #[.int .i64 kd,.string tb,.int .i64 (x.at' : Int),v26] 62)).grownBy wq out.ownBlock ∧ u = wq.setCell ⟨O,0,none⟩ v'
def It6V (lv : Value) (N g off cap : Nat) (x : Run) (kd : Int) (tb : ByteArray) (O base : Nat) (m : Nat) (ns : List Value) (out : Value) (k : Nat) (xs : List Value) (v7 v12 v13 v14 v15 v16 v17 v18 v19 v20 v21 : Value) (W1 : World) (listed : Array Bool) (a : Act) (u : World) : Prop :=
 listed.size = 9 ∧ ∃ v22 v23 v24 v25 v26 v27 v28 v29,a = itAct lv N g off cap x v7 v12 v13 v14 v15 v16 v17 v18 v19 v20 v21 v22 v23 v24 v25 v26 v27 v28 v29 ∧ It6R lv N g off cap x kd tb O base m ns out k xs v7 v12 v13 v14 v15 v16 v17 v18 v19 v20 v21 W1 (rinv.done listed) v22 v23 v24 v25 v26 v27 v28 v29 u
abbrev itEnd (lv : Value) (O D : Nat) (v2 v3 v30 v31 v32 v33 v34 v35 : Value) : Act :=
 { tmps:=#[lv,undef,v2,v3,.pointer (some ⟨O,0,none⟩),undef,undef,undef,lv,.func (.func 100) #[] #[.pointer (some ⟨O + 1,0,none⟩)],undef,undef,undef,undef,undef,undef,undef,undef,undef,undef,undef,undef,undef,undef,undef,undef,undef,undef,undef,undef,v30,v31,v32,v33,v34,v35],defers:=[{ target:=.collected D,args:=#[] }] }
structure It7R (lv sv : Value) (z : Nat) (O : Nat) (m : Nat) (ns : List Value) (ov : Value) (D : Nat) (W1 : World) (d : Nat → Bool) (v2 v3 v30 v31 v32 v33 v34 v35 : Value) (u : World) : Prop where
 p0 : d 0 = true → v30 = lv
 p1 : d 1 = true → v31 = lv
 p2 : d 2 = true → v32 = .int .i64 (z : Int)
 p3 : d 3 = true → v33 = sv
 p5 : d 5 = true → v35 = ov
 p6 : d 6 = true → v2 = v34
 p7 : d 7 = true → v3 = ov
 q2 : d 2 = true → d 1 = true
 q3 : d 3 = true → d 0 = true ∧ d 2 = true
 q4 : d 4 = true → d 3 = true
 q6 : d 6 = true → d 4 = true
 q7 : d 7 = true → d 5 = true
 wb : Below W1.heap.size W1 u
 wv : d 4 = true → u.ownsRow W1.heap.size 9 1 v34 m ns
def It7V (lv sv : Value) (z : Nat) (O : Nat) (m : Nat) (ns : List Value) (ov : Value) (D : Nat) (W1 : World) (listed : Array Bool) (a : Act) (u : World) : Prop :=
 listed.size = 8 ∧ ∃ v2 v3 v30 v31 v32 v33 v34 v35,a = itEnd lv O D v2 v3 v30 v31 v32 v33 v34 v35 ∧ It7R lv sv z O m ns ov D W1 (rinv.done listed) v2 v3 v30 v31 v32 v33 v34 v35 u
theorem cell_four_new (w : World) (a b c d : Value) (t : TypeId) : ∀ j u,[a,b,c,d][j]? = some u → (w.alloc (.cells #[a,b,c,d] t)).cell? ((⟨w.heap.size,0,none⟩ : Addr).add j) = some u:=by
 intro j u hu
 have hb:=(Blk.new w t #[a,b,c,d]).cell j
 match j,hu with
 | 0,hu=>cases hu;exact hb
 | 1,hu=>cases hu;exact hb
 | 2,hu=>cases hu;exact hb
 | 3,hu=>cases hu;exact hb
 | n + 4,hu=>simp at hu
theorem It6R.early {lv : Value} {N g off cap : Nat} {x : Run} {kd : Int} {tb : ByteArray} {O base m : Nat} {ns : List Value} {out : Value} {k : Nat} {xs : List Value} {v7 v12 v13 v14 v15 v16 v17 v18 v19 v20 v21 : Value} {W1 : World} {d : Nat → Bool} {v22 v23 v24 v25 v26 v27 v28 v29 : Value} {u : World}
  (h : It6R lv N g off cap x kd tb O base m ns out k xs v7 v12 v13 v14 v15 v16 v17 v18 v19 v20 v21 W1 d v22 v23 v24 v25 v26 v27 v28 v29 u) (h7 : d 7 = false) : Below W1.heap.size W1 u:=by
 cases h6 : d 6 with
 | false=>exact h.w7 h6
 | true=>obtain ⟨z,hz,rfl,_⟩:=h.w8 h6 h7;exact hz.alloc hz.size _
theorem NotesAt.map {W W' : World} {base : Nat} {pre : List Run} {nvs : List Value} (h : NotesAt base W pre nvs) (hf : ∀ v n xs,W.ownsRow base 9 1 v n xs → W'.ownsRow base 9 1 v n xs) : NotesAt base W' pre nvs:=by
 induction pre generalizing nvs with
 | nil=>cases nvs with
  | nil=>trivial
  | cons _ _=>exact h.elim
 | cons x xs ih=>cases nvs with
  | nil=>exact h.elim
  | cons nv nvs=>exact ⟨hf _ _ _ h.1,ih h.2⟩
theorem NotesAt.base {W : World} {base base' : Nat} {pre : List Run} {nvs : List Value} (hb : base' ≤ base) (h : NotesAt base W pre nvs) : NotesAt base' W pre nvs:=by
 induction pre generalizing nvs with
 | nil=>cases nvs with
  | nil=>trivial
  | cons _ _=>exact h.elim
 | cons x xs ih=>cases nvs with
  | nil=>exact h.elim
  | cons nv nvs=>exact ⟨own_base h.1 hb,ih h.2⟩
theorem round_go {w W Wd z wq : World} {O : Nat} {lv out v' : Value} {pre : List Run} {x : Run} {nvs : List Value} {kd : Int} {tb : ByteArray} {nv : Value} {k : Nat} {xs : List Value}
  (hO : w.heap.size = O) (hx : x.l.headD (0,⟨#[]⟩) = (kd,tb)) (hk : pre.length = k) (hxs : itemCells pre nvs = xs) (hB : Below w.heap.size w W) (hWd : Below W.heap.size W Wd) (hOW : O + 2 ≤ W.heap.size)
  (gO : Boxed Wd O 28 out) (gL : Boxed Wd (O + 1) 45 lv) (gR : Wd.ownsRow (O + 2) 62 4 out k xs) (gN : NotesAt (O + 2) Wd pre nvs)
  (hz : Below Wd.heap.size Wd z) (hown : wq.ownsRow (O + 2) 62 4 v' (k + 1) (xs ++ [.int .i64 kd,.string tb,.int .i64 (x.at' : Int),nv])) (hg : (z.alloc (.cells #[.int .i64 kd,.string tb,.int .i64 (x.at' : Int),nv] 62)).grownBy wq out.ownBlock)
  (hnv : (wq.setCell ⟨O,0,none⟩ v').ownsRow Wd.heap.size 9 1 nv (notesU x.l).length (strs (notesU x.l))) :
  KeepsOthers W (wq.setCell ⟨O,0,none⟩ v') ∧ KB w.heap.size (O + 1) 45 W (wq.setCell ⟨O,0,none⟩ v') ∧ ItI w O lv (pre ++ [x]) (wq.setCell ⟨O,0,none⟩ v'):=by
 have hws:=hWd.size
 obtain ⟨hbx,hko,hbe,hty⟩:=appended hz gR hg (by omega)
 have e0:=hbx _ _ _ gO (by omega)
 have e1:=hbx _ _ _ gL (by omega)
 have hbl : Below w.heap.size W (wq.setCell ⟨O,0,none⟩ v'):=((hWd.mono (by omega)).trans (hbe.mono (by omega))).setCell (p:=⟨O,0,none⟩) (by simp;omega) _
 refine ⟨((keeps_below hWd).trans hko).trans (KeepsOthers.setCell _ _ _),⟨hbl,fun vs hv=>?_⟩,⟨⟨⟨nvs ++ [nv],⟨v',e0.set v',?_,trivial⟩,?_⟩,e1.other (by omega) _⟩,hB.trans hbl⟩⟩
 ·exact (hty _ _ _ (by decide) (hv.own hWd)).other (by omega) _
 ·rw [List.length_append,hk,itemCells_snoc gN.len,hxs,hx]
  exact own_far hown (by omega)
 ·exact (NotesAt.snoc (gN.typed (by decide) hty) (nv:=nv) (x:=x) (by
   refine ⟨hnv.1,?_⟩
   rcases hnv.2 with hn | ⟨g,cap,cur,h1,h2,h3,h4⟩
   ·exact .inl hn
   ·exact .inr ⟨g,cap,cur,h1,by omega,(Below.heap_setCell wq ⟨O,0,none⟩ v' g (by simp;omega)).symm.trans h3,h4⟩)).far (by omega)
theorem runsFrom_len (a p : Nat) (l : List Tk) : (runsFrom a p l).length ≤ l.length:=by
 generalize hn : l.length = m
 induction m using Nat.strongRecOn generalizing a p l with
 | ind m ih =>
  cases l with
  | nil=>rw [runsFrom];exact Nat.zero_le _
  | cons t r =>
   rw [runsFrom,List.length_cons]
   have:=ih (r.drop (aheadU r)).length (by rw [List.length_drop];simp at hn;omega) (a + sizeT (t :: r.take (aheadU r))) (p + (1 + aheadU r)) (r.drop (aheadU r)) rfl
   rw [List.length_drop] at this
   simp at hn
   omega
theorem runsU_len (ts : List Tk) : (runsU ts).length ≤ ts.length:=by
 have:=runsFrom_len (sizeT (ts.take (aheadU ts))) (aheadU ts) (ts.drop (aheadU ts))
 rw [List.length_drop] at this
 unfold runsU
 omega
theorem items_in (n : Nat) (hn : 4 ≤ n) (g off cap : Nat) (ts : List Tk) (w : World) (hts : TksAt w.heap.size w (.slice (some ⟨g,off,none⟩) ts.length cap) ts) (hcap : ts.length ≤ cap) (hs : sizeT ts ≤ 140737488351232) (hl : ts.length ≤ 1000000000000) :
  CallsIn Fence.wide n Tryz.prog 32 #[.slice (some ⟨g,off,none⟩) ts.length cap] w fun e W' =>
   ∃ nv ov nvs,e = .returned (.tuple #[nv,ov]) ∧ W'.ownsRow w.heap.size 9 1 nv (notesU (ts.take (aheadU ts))).length (strs (notesU (ts.take (aheadU ts)))) ∧
    W'.ownsRow w.heap.size 62 4 ov (runsU ts).length (itemCells (runsU ts) nvs) ∧ NotesAt w.heap.size W' (runsU ts) nvs ∧ Below w.heap.size w W':=by
 have hf : Fence.wide.fn 54:=trivial
 have h1 : 1 ≤ n:=by omega
 have hmx : Tryz.prog.follows .mixedOrders = true:=by kernel_rfl
 obtain ⟨i0,hi,hz0,hz1,hz2⟩:=info_parts infoItem
 have HTS:=hid hts;have HS:=hid hs;have HL:=hid hl;have HC:=hid hcap
 clear hts hs hl hcap
 refine callsIn_of_wp_marks Tryz.func32 rfl trivial ?_ rfl
 simp only [Tryz.ntmps32,List.size_toArray,List.length_cons,List.length_nil,Nat.reduceAdd,Nat.reduceSub,Array.replicate_succ,Array.replicate_zero,List.push_toArray,List.append_toArray,List.nil_append,List.cons_append]
 gi_wp2_with fail
 refine (runs_in (n - 1) _ _ _ _).mono ?_
 rintro e w' ⟨rfl,rfl⟩
 have b0:=(Boxed.new w 28 (.slice none 0 0)).alloc (.cells #[.slice (some ⟨g,off,none⟩) ts.length cap] 45)
 have b1:=Boxed.new (w.alloc (.cells #[.slice none 0 0] 28)) 45 (.slice (some ⟨g,off,none⟩) ts.length cap)
 have hB0 : Below w.heap.size w ((w.alloc (.cells #[.slice none 0 0] 28)).alloc (.cells #[.slice (some ⟨g,off,none⟩) ts.length cap] 45)) :=
  ((Below.refl _ w).alloc (Nat.le_refl _) _).alloc (by simp) _
 have hsz : ((w.alloc (.cells #[.slice none 0 0] 28)).alloc (.cells #[.slice (some ⟨g,off,none⟩) ts.length cap] 45)).heap.size = w.heap.size + 2:=by simp
 obtain ⟨W0,hW0⟩ : ∃ W0,((w.alloc (.cells #[.slice none 0 0] 28)).alloc (.cells #[.slice (some ⟨g,off,none⟩) ts.length cap] 45)) = W0:=⟨_,rfl⟩
 rw [hW0] at b0 b1 hB0 hsz
 simp only [World.size_alloc] at b1
 gi_wp2_with fail
 clear hW0
 refine wpIn_rangeFunc_all (F:=Fence.wide) rfl h1 (gf:=100) (lb:=#[.pointer (some ⟨w.heap.size + 1,0,none⟩)]) rfl trivial (enters_of Tryz.func100 (by kernel_rfl) rfl)
  (runs_all (n - 1) (by omega) (w.heap.size + 1) w.heap.size g off cap ts HC.out HS.out W0 (by omega) b1 (HTS.out.below hB0 (Nat.le_refl _))) KB.trans (KB.put (by omega)) (Below.refl _ _) (fun _=>rfl)
  (ItI w w.heap.size (.slice (some ⟨g,off,none⟩) ts.length cap)) (ItI_own w _ _ _ (by omega))
  ⟨⟨⟨[],⟨_,b0,World.ownsRow_nil _ _ _ _,trivial⟩,trivial⟩,b1⟩,hB0⟩
  (fun x a' _=>a' = itAct (.slice (some ⟨g,off,none⟩) ts.length cap) w.heap.size g off cap x undef undef undef undef undef undef undef undef undef undef undef undef undef undef undef undef undef undef undef) (fun _ _ _ _ _ _ hs _ _=>hs)
  ?assign ?body ?done
 case assign =>
  rintro l pre x W K hI hK
  gi_wp2
  exact hK _ _ ((keeps_below (Below.refl _ W)).from _) (KB.refl _ _ _ _) hI rfl
 case body =>
  rintro l pre x rest a' W hys hl hI rfl
  have hxm : x ∈ runsU ts:=by rw [hys];simp
  obtain ⟨hrt,hne,hxs,hxl⟩:=mem_runsFrom HTS.out _ _ (aheadU_le ts) x hxm
  obtain ⟨t,r,htr⟩ : ∃ t r,x.l = t :: r:=by
   cases hq : x.l with
   | nil=>exact absurd hq hne
   | cons t r=>exact ⟨t,r,rfl⟩
  have hhd : x.l.headD (0,⟨#[]⟩) = t:=by rw [htr];rfl
  have hlen : (0 : Int) < (x.l.length : Int):=by rw [htr,List.length_cons];omega
  have hpre : pre.length + 1 ≤ 1000000000000:=by
   have:=runsU_len ts
   have:=HL.out
   rw [hys,List.length_append,List.length_cons] at *
   omega
  obtain ⟨kd,tb⟩:=t
  have hsx : tb.size ≤ 140737488351232:=by
   have:=sz_take x.l 0 (kd,tb) (by rw [htr];rfl)
   have:=HS.out
   simp only at *
   omega
  obtain ⟨⟨⟨nvs,⟨out,gO,gR,_⟩,gN⟩,gL⟩,hB⟩:=hI
  obtain ⟨ao',cap',hv',hm',hc'⟩:=id hrt
  obtain ⟨g',off',hgg,hgw,c0,c1⟩:=hc' 0 (kd,tb) (by rw [htr];rfl)
  obtain ⟨rfl,rfl⟩ : g = g' ∧ off + x.p * 2 = off':=by
   rw [hgg] at hv'
   simpa using (Value.slice.inj hv').1
  clear hv' hm' hc'
  rw [Nat.zero_mul,Nat.add_zero] at c0 c1
  have lw:=hB.size
  have cK : W.drew.cell? ⟨g,off + x.p * 2,none⟩ = some (.int .i64 kd):=(hB.cell (p:=⟨g,_,none⟩) hgw).trans c0
  have cT : W.drew.cell? ⟨g,off + x.p * 2 + 1,none⟩ = some (.string tb):=(hB.cell (p:=⟨g,_,none⟩) hgw).trans c1
  have lG : g < W.drew.heap.size:=Nat.lt_of_lt_of_le hgw lw
  have HLEN:=hid hlen
  have hOW : w.heap.size + 2 ≤ W.heap.size:=gL.lt
  obtain ⟨lv,hlv⟩ : ∃ lv,Value.slice (some ⟨g,off,none⟩) ts.length cap = lv:=⟨_,rfl⟩
  rw [hlv] at gL ⊢
  have hnt:=fun u' (hu : Below w.heap.size w u')=>notes_calls _ x.l u' w.heap.size (hrt.below hu (Nat.le_refl _)) (by have:=HS.out;omega) (by have:=HL.out;omega)
  obtain ⟨m,hm⟩ : ∃ m,(notesU x.l).length = m:=⟨_,rfl⟩
  obtain ⟨ns,hns⟩ : ∃ ns,strs (notesU x.l) = ns:=⟨_,rfl⟩
  rw [hm,hns] at hnt
  have HNT:=hid hnt
  have hgo:=fun (Wd z wq : World) (v' nv : Value) (h1 : Below W.heap.size W Wd) h2 h3 h4 h5 h6 h7 h8 h9=>round_go (nv:=nv) (z:=z) (wq:=wq) (v':=v') (out:=out) (lv:=lv) (nvs:=nvs) (xs:=itemCells pre nvs) (k:=pre.length) rfl hhd rfl rfl hB h1 hOW h2 h3 h4 h5 h6 h7 h8 h9
  rw [hm,hns] at hgo
  obtain ⟨xs,hxe⟩ : ∃ xs,itemCells pre nvs = xs:=⟨_,rfl⟩
  obtain ⟨k,hk⟩ : ∃ k,pre.length = k:=⟨_,rfl⟩
  rw [hxe,hk] at hgo
  rw [hxe,hk] at gR
  rw [hk] at hpre
  have HGO:=hid hgo;have HB:=hid hB
  clear hgo hnt hm hns hxe hk hlv hrt hxm hys hhd htr hne hxs hxl hB0 hsz b0 b1 HTS HS HL HC c0 c1 hgg hlen hB
  have hfc : Fence.wide.fn 53:=trivial
  have hfn : Fence.wide.fn 55:=trivial
  have hdep : 1 ≤ n - 1 - 1:=by omega
  gi_wp2
  refine wpIn_region_any hmx ?_
  change wpAnyIn _ _ _ _ _ _ _ _ _ W.drew
  refine rinv.wpAnyIn_inv (It5V lv w.heap.size g off cap x kd tb W.drew) ?step ?fin _ _ _ _ (by decide) ?start
  case start =>
   refine ⟨rfl,_,_,_,_,_,_,_,_,_,_,_,rfl,?_⟩
   constructor <;> first | exact fun h=>absurd h (by decide) | exact Below.refl _ _
  case fin =>
   rintro listed a u ⟨hsl,v7,v12,v13,v14,v15,v16,v17,v18,v19,v20,v21,rfl,h⟩ hre
   have hno : ∀ i,i ∉ Region.ready _ _ listed:=fun i hi=>by rw [hre] at hi;cases hi
   have mk : ∀ i,i < 12 → _ → rinv.done listed i = true:=fun i hi ha=>by
    cases hq : rinv.done listed i with
    | true=>rfl
    | false=>exact absurd (rinv.ready_of hi hsl hq ha) (hno i)
   have k0:=mk 0 (by omega) (by simp [])
   have k1:=mk 1 (by omega) (by simp [k0])
   have k2:=mk 2 (by omega) (by simp [k1])
   have k3:=mk 3 (by omega) (by simp [k2])
   have k4:=mk 4 (by omega) (by simp [])
   have k5:=mk 5 (by omega) (by simp [k4])
   have k6:=mk 6 (by omega) (by simp [k5])
   have k7:=mk 7 (by omega) (by simp [k6])
   have k8:=mk 8 (by omega) (by simp [k7])
   have k9:=mk 9 (by omega) (by simp [k3,k8])
   have k10:=mk 10 (by omega) (by simp [])
   have k11:=mk 11 (by omega) (by simp [k0,k1,k2,k3,k4,k5,k6,k7,k8,k9,k10,Region.binds])
   clear mk hno hre
   obtain ⟨B,hBs,e7,hblk⟩:=h.wz k11
   subst e7
   have hwb:=h.wb
   clear k0 k1 k2 k3 k4 k5 k6 k7 k8 k9 k10 k11 h cK cT lG
   obtain ⟨Wd,hWd,hbd⟩ : ∃ Wd,u.drew = Wd ∧ Below W.heap.size W Wd:=⟨_,rfl,((Below.refl W.heap.size W).drew.trans hwb).drew⟩
   have hblk2 : Blk Wd B 49 #[.int .i64 kd,.string tb]:=by rw [← hWd];exact hblk
   have hws:=hbd.size
   have gO2 : Boxed Wd w.heap.size 28 out:=(hbd.block _ gO.lt).trans gO
   have gL2 : Boxed Wd (w.heap.size + 1) 45 lv:=(hbd.block _ gL.lt).trans gL
   have gR2:=ownsRow_below gR hbd
   have gN2:=gN.own hbd
   have cO : Wd.cell? ⟨w.heap.size,0,none⟩ = some out:=gO2.cell
   have lO:=gO2.lt
   have cB0 : Wd.cell? ⟨B,0,none⟩ = some (.int .i64 kd):=hblk2.cell 0
   have cB1 : Wd.cell? ⟨B,1,none⟩ = some (.string tb):=hblk2.cell 1
   have lB:=hblk2.lt
   have hlw : w.heap.size + 2 ≤ Wd.heap.size:=by omega
   have hnotes:=fun u' (hu : Below Wd.heap.size Wd u')=>HNT.out u' (HB.out.trans ((hbd.mono lw).trans (hu.mono (by omega))))
   have HGO2:=hid (fun (z wq : World) (v' nv : Value) hz hown hg hnv=>HGO.out Wd z wq v' nv hbd gO2 gL2 gR2 gN2 hz hown hg hnv)
   clear gL gN gL2 gN2 hwb hblk hblk2 hbd HGO
   replace gO:=gO2
   replace gR:=gR2
   clear gO2 gR2
   gi_wp2
   refine wpIn_region_any hmx ?_
   change wpAnyIn _ _ _ _ _ _ _ _ _ u.drew
   rw [hWd]
   clear hWd hBs
   refine rinv.wpAnyIn_inv (It6V lv w.heap.size g off cap x kd tb w.heap.size (w.heap.size + 2) m ns out k xs (.pointer (some ⟨B,0,none⟩)) v12 v13 v14 v15 v16 v17 v18 v19 v20 v21 Wd) ?step6 ?fin6 _ _ _ _ (by decide) ?start6
   case start6 =>
    refine ⟨rfl,_,_,_,_,_,_,_,_,rfl,?_⟩
    constructor <;> first | exact fun h=>absurd h (by decide) | exact fun _=>Below.refl _ _
   case fin6 =>
    rintro listed a u ⟨hsl,v22,v23,v24,v25,v26,v27,v28,v29,rfl,h⟩ hre
    have hno : ∀ i,i ∉ Region.ready _ _ listed:=fun i hi=>by rw [hre] at hi;cases hi
    have mk : ∀ i,i < 9 → _ → rinv.done listed i = true:=fun i hi ha=>by
     cases hq : rinv.done listed i with
     | true=>rfl
     | false=>exact absurd (rinv.ready_of hi hsl hq ha) (hno i)
    have k0:=mk 0 (by omega) (by simp [])
    have k1:=mk 1 (by omega) (by simp [])
    have k2:=mk 2 (by omega) (by simp [])
    have k3:=mk 3 (by omega) (by simp [])
    have k4:=mk 4 (by omega) (by simp [k3])
    have k5:=mk 5 (by omega) (by simp [k1,k2,k4])
    have k6:=mk 6 (by omega) (by simp [k5])
    have k7:=mk 7 (by omega) (by simp [k0,k6,k4])
    have k8:=mk 8 (by omega) (by simp [k0,k1,k2,k3,k4,k5,k6,k7,Region.binds])
    clear mk hno hre
    obtain ⟨z,wq,v',hz,hown',hgrow,rfl⟩:=h.w10 k8
    have hres:=HGO2.out z wq v' v26 hz hown' hgrow (h.wv k4)
    clear k0 k1 k2 k3 k4 k5 k6 k7 k8 h
    gi_wp2
    exact ⟨hres.1.from _,hres.2⟩
   case step6 =>
    rintro listed a u i ⟨hsl,v22,v23,v24,v25,v26,v27,v28,v29,rfl,h⟩ hi
    obtain ⟨hltn,hnot,haft⟩:=rinv.ready_mem hi
    have hd : rinv.done (listed.setIfInBounds i true) = fun k=>(k == i) || rinv.done listed k:=funext (rinv.done_set hnot)
    have hni:=rinv.done_not hnot
    have hsl' : (listed.setIfInBounds i true).size = 9:=by rw [Array.size_setIfInBounds];exact hsl
    have HD:=hid hd;have HS:=hid hsl';have HN:=hid hni;have HA:=hid haft
    have HH:=hid h
    clear hd hsl' hsl hnot hi hni haft h
    match i,hltn with
    | 0,_ =>
     refine rinv.wpOpIn_of_list rfl ?_
     have h7:=not_of (fun e=>(HH.out.q7 e).1) HN.out
     have hu:=HH.out.early h7
     have hc : u.cell? ⟨w.heap.size,0,none⟩ = some out:=(hu.cell (p:=⟨w.heap.size,0,none⟩) lO).trans cO
     clear h7 hu
     gi_wp2
     refine ⟨HS.out,_,_,_,_,_,_,_,_,rfl,?_⟩
     rw [HD.out]
     exact { HH.out with
      p0:=fun _=>rfl
      q7:=fun e=>⟨rfl,(HH.out.q7 e).2⟩ }
    | 1,_ =>
     refine rinv.wpOpIn_of_list rfl ?_
     have h6:=not_of (fun e=>(HH.out.q5 (HH.out.q6 e)).1) HN.out
     have hu:=HH.out.w7 h6
     have hc0 : u.cell? ⟨B,0,none⟩ = some (.int .i64 kd):=(hu.cell (p:=⟨B,0,none⟩) lB).trans cB0
     have hc1 : u.cell? ⟨B,1,none⟩ = some (.string tb):=(hu.cell (p:=⟨B,1,none⟩) lB).trans cB1
     clear h6 hu
     gi_wp2
     refine ⟨HS.out,_,_,_,_,_,_,_,_,rfl,?_⟩
     rw [HD.out]
     exact { HH.out with
      p1:=fun _=>rfl
      q5:=fun e=>⟨rfl,(HH.out.q5 e).2.1,(HH.out.q5 e).2.2⟩ }
    | 2,_ =>
     refine rinv.wpOpIn_of_list rfl ?_
     gi_wp2
     refine ⟨HS.out,_,_,_,_,_,_,_,_,rfl,?_⟩
     rw [HD.out]
     exact { HH.out with
      p2:=fun _=>rfl
      q5:=fun e=>⟨(HH.out.q5 e).1,rfl,(HH.out.q5 e).2.2⟩ }
    | 3,_ =>
     refine rinv.wpOpIn_of_list rfl ?_
     gi_wp2
     refine ⟨HS.out,_,_,_,_,_,_,_,_,rfl,?_⟩
     rw [HD.out]
     exact { HH.out with
      p3:=fun _=>rfl
      q4:=fun e=>rfl }
    | 4,_ =>
     refine rinv.wpOpIn_of_list rfl ?_
     have h2 : rinv.done listed 3 = true:=by have h:=HA.out;simp [Region.binds] at h;simp [h]
     have e3:=HH.out.p3 h2
     subst e3
     have H2:=hid h2
     have h5:=not_of (fun e=>(HH.out.q5 e).2.2) HN.out
     have h6:=not_of HH.out.q6 h5
     have h7:=not_of (fun e=>(HH.out.q7 e).2) h6
     have h8:=not_of HH.out.q8 h7
     have hu:=HH.out.w7 h6
     have H5:=hid h5;have H6:=hid h6;have H7:=hid h7;have H8:=hid h8
     have hno:=hnotes u hu
     clear h5 h6 h7 h8
     clear  h2
     gi_wp2_with (gi_at_call 55;refine (CallsIn.inRound l (callsIn_wide.2 hno)).mono ?_;rintro e w' ⟨nv,rfl,hown,hb⟩)
     refine ⟨HS.out,_,_,_,_,_,_,_,_,rfl,?_⟩
     rw [HD.out]
     exact { HH.out with
      q4:=fun _=>H2.out
      q5:=fun e=>⟨(HH.out.q5 e).1,(HH.out.q5 e).2.1,rfl⟩
      p5:=fun e=>absurd (show rinv.done listed 5 = true from e) (by rw [H5.out];simp)
      wv:=fun _=>own_base hown hu.size
      w7:=fun _=>hu.trans (hb.mono hu.size)
      w8:=fun e _=>absurd (show rinv.done listed 6 = true from e) (by rw [H6.out];simp)
      w9:=fun e _=>absurd (show rinv.done listed 7 = true from e) (by rw [H7.out];simp)
      w10:=fun e=>absurd (show rinv.done listed 8 = true from e) (by rw [H8.out];simp) }
    | 5,_ =>
     refine rinv.wpOpIn_of_list rfl ?_
     have h2 : rinv.done listed 1 = true ∧ rinv.done listed 2 = true ∧ rinv.done listed 4 = true:=by have h:=HA.out;simp [Region.binds] at h;simp [h]
     have e1:=HH.out.p1 h2.1
     have e2:=HH.out.p2 h2.2.1
     subst e1 e2
     have H2:=hid h2
     obtain ⟨oa,ol,oc,rfl⟩:=own_slice (HH.out.wv h2.2.2)
     clear  h2
     gi_wp2
     refine ⟨HS.out,_,_,_,_,_,_,_,_,rfl,?_⟩
     rw [HD.out]
     exact { HH.out with
      p5:=fun _=>rfl
      q5:=fun _=>H2.out
      q6:=fun e=>rfl }
    | 6,_ =>
     refine rinv.wpOpIn_of_list rfl ?_
     have h2 : rinv.done listed 5 = true:=by have h:=HA.out;simp [Region.binds] at h;simp [h]
     have e5:=HH.out.p5 h2
     subst e5
     have H2:=hid h2
     have h7:=not_of (fun e=>(HH.out.q7 e).2) HN.out
     have h8:=not_of HH.out.q8 h7
     have hu:=HH.out.w7 HN.out
     have hwv:=HH.out.wv (HH.out.q5 h2).2.2
     have H7:=hid h7;have H8:=hid h8;have HWV:=hid hwv
     clear h7 h8 hwv
     clear  h2
     gi_wp2
     refine ⟨HS.out,_,_,_,_,_,_,_,_,rfl,?_⟩
     rw [HD.out]
     exact { HH.out with
      q6:=fun _=>H2.out
      q7:=fun e=>⟨(HH.out.q7 e).1,rfl⟩
      wv:=fun _=>HWV.out.alloc _
      w7:=fun e=>by cases e
      w8:=fun _ _=>⟨u,hu,rfl,rfl⟩
      w9:=fun e _=>absurd (show rinv.done listed 7 = true from e) (by rw [H7.out];simp)
      w10:=fun e=>absurd (show rinv.done listed 8 = true from e) (by rw [H8.out];simp) }
    | 7,_ =>
     refine rinv.wpOpIn_of_list rfl ?_
     have h2 : rinv.done listed 0 = true ∧ rinv.done listed 6 = true:=by have h:=HA.out;simp [Region.binds] at h;simp [h]
     have e0:=HH.out.p0 h2.1
     subst e0
     have H2:=hid h2
     obtain ⟨z,hz,rfl,e28⟩:=HH.out.w8 h2.2 HN.out
     subst e28
     have h8:=not_of HH.out.q8 HN.out
     have H8:=hid h8
     have hrz:=ownsRow_below gR hz
     have hzs:=hz.size
     have hwv:=HH.out.wv (HH.out.q5 (HH.out.q6 h2.2)).2.2
     have HWV:=hid hwv
     have hov:=own_slice hwv
     obtain ⟨oa,ol,oc,rfl⟩:=hov
     clear h8 hwv
     clear  h2
     refine wpListIn_append_own _ rfl _ _ 28 rfl (w.heap.size + 2) 62 i0 (.agg #[.int .i64 0,.string ⟨#[]⟩,.int .i64 0,.slice none 0 0]) 4 56 Tryz.underlying28 hi hz0 hz1 hz2 rfl (by decide) _ _ _ rfl (hrz.alloc _) ⟨z.heap.size,0,none⟩ 1 1 [.int .i64 kd,.string tb,.int .i64 (x.at' : Int),.slice oa ol oc] rfl rfl (cell_four_new _ _ _ _ _ _) (by intro u hu;simp at hu;rcases hu with rfl | rfl | rfl | rfl <;> rfl) (by unfold maxLen;omega) (by omega) (by simp;omega) ?_
     intro v' wq hown' hgrow _
     gi_wp2
     refine ⟨HS.out,_,_,_,_,_,_,_,_,rfl,?_⟩
     rw [HD.out]
     exact { HH.out with
      q7:=fun _=>H2.out
      q8:=fun e=>rfl
      wv:=fun _=>own_kept HWV.out hgrow (fun j ej=>by have:=(gR.lt j ej).2;omega)
      w7:=fun e=>absurd (show rinv.done listed 6 = false from e) (by rw [H2.out.2];simp)
      w8:=fun _ e=>by cases e
      w9:=fun _ _=>⟨z,hz,hown',hgrow⟩
      w10:=fun e=>absurd (show rinv.done listed 8 = true from e) (by rw [H8.out];simp) }
    | 8,_ =>
     refine rinv.wpOpIn_of_list rfl ?_
     have h2 : rinv.done listed 7 = true:=by have h:=HA.out;simp [Region.binds] at h;simp [h]
     have H2:=hid h2
     obtain ⟨z,hz,hown',hgrow⟩:=HH.out.w9 h2 HN.out
     obtain ⟨g',cap',rfl⟩:=ownsRow_succ hown'
     have hap:=(appended hz gR hgrow hlw).1 _ _ _ gO (by omega)
     have hc1:=hap.cell
     have hf1:=hap.frozen
     have hwv:=HH.out.wv (HH.out.q5 (HH.out.q6 (HH.out.q7 h2).2)).2.2
     have HWV:=hid hwv
     clear hwv
     clear  h2
     gi_wp2
     refine ⟨HS.out,_,_,_,_,_,_,_,_,rfl,?_⟩
     rw [HD.out]
     exact { HH.out with
      q8:=fun _=>H2.out
      wv:=fun _=>own_far HWV.out (by omega)
      w7:=fun e=>absurd (show rinv.done listed 6 = false from e) (by rw [(HH.out.q7 H2.out).2];simp)
      w8:=fun _ e=>absurd (show rinv.done listed 7 = false from e) (by rw [H2.out];simp)
      w9:=fun _ e=>by cases e
      w10:=fun _=>⟨z,u,_,hz,hown',hgrow,rfl⟩ }
    | (j + 9),h=>exact absurd h (by simp)
  case step =>
   rintro listed a u i ⟨hsl,v7,v12,v13,v14,v15,v16,v17,v18,v19,v20,v21,rfl,h⟩ hi
   obtain ⟨hltn,hnot,haft⟩:=rinv.ready_mem hi
   have hd : rinv.done (listed.setIfInBounds i true) = fun k=>(k == i) || rinv.done listed k:=funext (rinv.done_set hnot)
   have hni:=rinv.done_not hnot
   have hsl' : (listed.setIfInBounds i true).size = 12:=by rw [Array.size_setIfInBounds];exact hsl
   have HD:=hid hd;have HS:=hid hsl';have HN:=hid hni;have HA:=hid haft
   have HH:=hid h
   clear hd hsl' hsl hnot hi hni haft h
   match i,hltn with
   | 0,_ =>
    refine rinv.wpOpIn_of_list rfl ?_
    gi_wp2
    refine ⟨HS.out,_,_,_,_,_,_,_,_,_,_,_,rfl,?_⟩
    rw [HD.out]
    exact { HH.out with
     p0:=fun _=>rfl
     q1:=fun e=>rfl }
   | 1,_ =>
    refine rinv.wpOpIn_of_list rfl ?_
    have h2 : rinv.done listed 0 = true:=by have h:=HA.out;simp [Region.binds] at h;simp [h]
    have e0:=HH.out.p0 h2
    subst e0
    have H2:=hid h2
    have hl0:=HLEN.out
    clear  h2
    gi_wp2
    refine ⟨HS.out,_,_,_,_,_,_,_,_,_,_,_,rfl,?_⟩
    rw [HD.out]
    exact { HH.out with
     p1:=fun _=>rfl
     q1:=fun _=>H2.out
     q2:=fun e=>rfl }
   | 2,_ =>
    refine rinv.wpOpIn_of_list rfl ?_
    have h2 : rinv.done listed 1 = true:=by have h:=HA.out;simp [Region.binds] at h;simp [h]
    have e1:=HH.out.p1 h2
    subst e1
    have H2:=hid h2
    clear  h2
    gi_wp2
    refine ⟨HS.out,_,_,_,_,_,_,_,_,_,_,_,rfl,?_⟩
    rw [HD.out]
    exact { HH.out with
     p2:=fun _=>rfl
     q2:=fun _=>H2.out
     q3:=fun e=>rfl }
   | 3,_ =>
    refine rinv.wpOpIn_of_list rfl ?_
    have h2 : rinv.done listed 2 = true:=by have h:=HA.out;simp [Region.binds] at h;simp [h]
    have e2:=HH.out.p2 h2
    subst e2
    have H2:=hid h2
    have hc : u.cell? ⟨g,off + x.p * 2,none⟩ = some (.int .i64 kd):=(HH.out.wb.cell (p:=⟨g,off + x.p * 2,none⟩) lG).trans cK
    clear  h2
    gi_wp2
    refine ⟨HS.out,_,_,_,_,_,_,_,_,_,_,_,rfl,?_⟩
    rw [HD.out]
    exact { HH.out with
     p3:=fun _=>rfl
     q3:=fun _=>H2.out
     q9:=fun e=>⟨rfl,(HH.out.q9 e).2⟩ }
   | 4,_ =>
    refine rinv.wpOpIn_of_list rfl ?_
    gi_wp2
    refine ⟨HS.out,_,_,_,_,_,_,_,_,_,_,_,rfl,?_⟩
    rw [HD.out]
    exact { HH.out with
     p4:=fun _=>rfl
     q5:=fun e=>rfl }
   | 5,_ =>
    refine rinv.wpOpIn_of_list rfl ?_
    have h2 : rinv.done listed 4 = true:=by have h:=HA.out;simp [Region.binds] at h;simp [h]
    have e4:=HH.out.p4 h2
    subst e4
    have H2:=hid h2
    have hl0:=HLEN.out
    clear  h2
    gi_wp2
    refine ⟨HS.out,_,_,_,_,_,_,_,_,_,_,_,rfl,?_⟩
    rw [HD.out]
    exact { HH.out with
     p5:=fun _=>rfl
     q5:=fun _=>H2.out
     q6:=fun e=>rfl }
   | 6,_ =>
    refine rinv.wpOpIn_of_list rfl ?_
    have h2 : rinv.done listed 5 = true:=by have h:=HA.out;simp [Region.binds] at h;simp [h]
    have e5:=HH.out.p5 h2
    subst e5
    have H2:=hid h2
    clear  h2
    gi_wp2
    refine ⟨HS.out,_,_,_,_,_,_,_,_,_,_,_,rfl,?_⟩
    rw [HD.out]
    exact { HH.out with
     p6:=fun _=>rfl
     q6:=fun _=>H2.out
     q7:=fun e=>rfl }
   | 7,_ =>
    refine rinv.wpOpIn_of_list rfl ?_
    have h2 : rinv.done listed 6 = true:=by have h:=HA.out;simp [Region.binds] at h;simp [h]
    have e6:=HH.out.p6 h2
    subst e6
    have H2:=hid h2
    have hc : u.cell? ⟨g,off + x.p * 2 + 1,none⟩ = some (.string tb):=(HH.out.wb.cell (p:=⟨g,off + x.p * 2 + 1,none⟩) lG).trans cT
    clear  h2
    gi_wp2
    refine ⟨HS.out,_,_,_,_,_,_,_,_,_,_,_,rfl,?_⟩
    rw [HD.out]
    exact { HH.out with
     p7:=fun _=>rfl
     q7:=fun _=>H2.out
     q8:=fun e=>rfl }
   | 8,_ =>
    refine rinv.wpOpIn_of_list rfl ?_
    have h2 : rinv.done listed 7 = true:=by have h:=HA.out;simp [Region.binds] at h;simp [h]
    have e7:=HH.out.p7 h2
    subst e7
    have H2:=hid h2
    clear  h2
    gi_wp2_with (gi_at_call 53;refine (CallsIn.inRound l (callsIn_wide.2 (clone_calls tb hsx _))).mono ?_;rintro e w' ⟨rfl,hb⟩)
    refine ⟨HS.out,_,_,_,_,_,_,_,_,_,_,_,rfl,?_⟩
    rw [HD.out]
    exact { HH.out with
     p8:=fun _=>rfl
     q8:=fun _=>H2.out
     q9:=fun e=>⟨(HH.out.q9 e).1,rfl⟩
     wb:=HH.out.wb.trans (hb.mono HH.out.wb.size)
     wa:=fun e f=>by obtain ⟨B,k1,k2,k3⟩:=HH.out.wa e f;exact ⟨B,k1,k2,k3.own hb⟩
     wz:=fun e=>by obtain ⟨B,k1,k2,k3⟩:=HH.out.wz e;exact ⟨B,k1,k2,k3.own hb⟩ }
   | 9,_ =>
    refine rinv.wpOpIn_of_list rfl ?_
    have h2 : rinv.done listed 3 = true ∧ rinv.done listed 8 = true:=by have h:=HA.out;simp [Region.binds] at h;simp [h]
    have e3:=HH.out.p3 h2.1
    have e8:=HH.out.p8 h2.2
    subst e3 e8
    have H2:=hid h2
    clear  h2
    gi_wp2
    refine ⟨HS.out,_,_,_,_,_,_,_,_,_,_,_,rfl,?_⟩
    rw [HD.out]
    exact { HH.out with
     p9:=fun _=>rfl
     q9:=fun _=>H2.out
     q11:=fun e=>⟨(HH.out.q11 e).1,rfl⟩ }
   | 10,_ =>
    refine rinv.wpOpIn_of_list rfl ?_
    have h11:=not_of (fun e=>(HH.out.q11 e).1) HN.out
    have H11:=hid h11
    have hu:=HH.out.wb
    clear h11
    gi_wp2
    refine ⟨HS.out,_,_,_,_,_,_,_,_,_,_,_,rfl,?_⟩
    rw [HD.out]
    exact { HH.out with
     q11:=fun e=>⟨rfl,(HH.out.q11 e).2⟩
     wb:=hu.alloc hu.size _
     wa:=fun _ _=>⟨u.heap.size,hu.size,rfl,Blk.new _ _ _⟩
     wz:=fun e=>absurd (show rinv.done listed 11 = true from e) (by rw [H11.out];simp) }
   | 11,_ =>
    refine rinv.wpOpIn_of_list rfl ?_
    have h2 : rinv.done listed 10 = true ∧ rinv.done listed 9 = true:=by have h:=HA.out;simp [Region.binds] at h;simp [h]
    have e9:=HH.out.p9 h2.2
    subst e9
    have H2:=hid h2
    obtain ⟨B,hB,e7,hblk⟩:=HH.out.wa h2.1 HN.out
    subst e7
    have k0:=hblk.cell 0
    have k1:=hblk.cell 1
    have kf0:=hblk.frozen 0
    have kf1:=hblk.frozen 1
    have HBL:=hid hblk
    clear hblk
    clear  h2
    gi_wp2
    refine ⟨HS.out,_,_,_,_,_,_,_,_,_,_,_,rfl,?_⟩
    rw [HD.out]
    exact { HH.out with
     q11:=fun _=>H2.out
     wb:=(HH.out.wb.setCell (p:=⟨B,0,none⟩) hB _).setCell (p:=⟨B,1,none⟩) hB _
     wa:=fun _ e=>by cases e
     wz:=fun _=>⟨B,hB,rfl,blk_put2 HBL.out _ _⟩ }
   | (j + 12),h=>exact absurd h (by simp)
 case done =>
  rintro D W hD hI hK
  obtain ⟨⟨⟨nvs,⟨ov,gO,gR,_⟩,gN⟩,gL⟩,hB⟩:=hI
  obtain ⟨oa,ol,oc,rfl⟩:=own_slice gR
  have lw:=hB.size
  have cO : W.drew.cell? ⟨w.heap.size,0,none⟩ = some (.slice oa ol oc):=gO.cell
  have lO : w.heap.size < W.drew.heap.size:=gO.lt
  have lD : D < W.heap.size:=(Array.getElem?_eq_some_iff.1 hK).1
  have hzl:=aheadU_le ts
  have hWD : Below W.heap.size W W.drew:=(Below.refl _ W).drew
  have hahead:=fun u (hu : Below W.drew.heap.size W.drew u)=>ahead_calls _ ts u (((HTS.out.below (hB.trans ((hWD.trans hu).mono lw)) (Nat.le_refl _))).mono (Nat.le_trans lw (hWD.trans hu).size))
  have ht0 : TksAt w.heap.size w (.slice (some ⟨g,off,none⟩) (aheadU ts) cap) (ts.take (aheadU ts)):=by simpa using tks_part HTS.out 0 (aheadU ts) (Nat.zero_le _) hzl cap
  have hst:=sizeT_take ts (aheadU ts)
  have hnotes:=fun u (hu : Below W.drew.heap.size W.drew u)=>notes_calls _ (ts.take (aheadU ts)) u w.heap.size (ht0.below (hB.trans ((hWD.trans hu).mono lw)) (Nat.le_refl _)) (by have:=HS.out;omega) (by have:=HL.out;rw [List.length_take];omega)
  obtain ⟨z,hz⟩ : ∃ z,aheadU ts = z:=⟨_,rfl⟩
  rw [hz] at hahead hnotes hzl
  obtain ⟨m,hm⟩ : ∃ m,(notesU (ts.take z)).length = m:=⟨_,rfl⟩
  obtain ⟨ns,hns⟩ : ∃ ns,strs (notesU (ts.take z)) = ns:=⟨_,rfl⟩
  rw [hm,hns] at hnotes
  have HZZ:=hid hz;have HMM:=hid hm;have HNN:=hid hns
  have HZL:=hid (show (z : Int) ≤ (cap : Int) by have:=HC.out;omega)
  have hfa : Fence.wide.fn 56:=trivial
  have hfn : Fence.wide.fn 55:=trivial
  have HK:=hid hK;have HGR:=hid gR;have HGN:=hid gN;have HB:=hid hB;have HSZ:=hid hsz
  clear hK gR gN hB ht0 hst hz hm hns hzl gL b0 b1 hB0 hsz
  gi_wp2
  refine wpIn_region_any hmx ?_
  change wpAnyIn _ _ _ _ _ _ _ _ _ W.drew
  refine rinv.wpAnyIn_inv (It7V (.slice (some ⟨g,off,none⟩) ts.length cap) (.slice (some ⟨g,off,none⟩) z cap) z w.heap.size m ns (.slice oa ol oc) D W.drew) ?step7 ?fin7 _ _ _ _ (by decide) ?start7
  case start7 =>
   refine ⟨rfl,_,_,_,_,_,_,_,_,rfl,?_⟩
   constructor <;> first | exact fun h=>absurd h (by decide) | exact Below.refl _ _
  case fin7 =>
   rintro listed a u ⟨hsl,v2,v3,v30,v31,v32,v33,v34,v35,rfl,h⟩ hre
   have hno : ∀ i,i ∉ Region.ready _ _ listed:=fun i hi=>by rw [hre] at hi;cases hi
   have mk : ∀ i,i < 8 → _ → rinv.done listed i = true:=fun i hi ha=>by
    cases hq : rinv.done listed i with
    | true=>rfl
    | false=>exact absurd (rinv.ready_of hi hsl hq ha) (hno i)
   have k0:=mk 0 (by omega) (by simp [])
   have k1:=mk 1 (by omega) (by simp [])
   have k2:=mk 2 (by omega) (by simp [k1])
   have k3:=mk 3 (by omega) (by simp [k0,k2])
   have k4:=mk 4 (by omega) (by simp [k3,k2])
   have k5:=mk 5 (by omega) (by simp [Region.binds])
   have k6:=mk 6 (by omega) (by simp [k0,k1,k2,k3,k4,k5,Region.binds])
   have k7:=mk 7 (by omega) (by simp [k0,k1,k2,k3,k4,k5,k6,Region.binds])
   clear mk hno hre
   have e2:=h.p6 k6
   have e3:=h.p7 k7
   have hwv:=h.wv k4
   rw [← HNN.out,← HMM.out,← HZZ.out] at hwv
   have hwb:=hWD.trans h.wb
   subst e2 e3
   clear k0 k1 k2 k3 k4 k5 k6 k7 h
   have hK' : u.heap[D]? = some (.deferred (some [])):=(hwb.block D lD).trans HK.out
   have hb2 : Below w.heap.size w u:=HB.out.trans (hwb.mono lw)
   gi_wp2
   refine ⟨by simp,.inl ⟨_,_,rfl,run_takeDeferred hK',?_⟩⟩
   refine ⟨.tuple #[v2,.slice oa ol oc],?_,v2,.slice oa ol oc,nvs,rfl,own_base (ownsRow_putObj hwv _ hK' rfl) lw,own_base (ownsRow_putObj (ownsRow_below HGR.out hwb) _ hK' rfl) (by omega),?_,hb2.trans (belowK_b (w:=w) (Nat.le_refl _) _ D _ _ (by have:=HSZ.out;omega) hK' rfl rfl)⟩
   ·simp [results,Tryz.f32,go_sem]
   ·exact NotesAt.base (by omega) ((HGN.out.own hwb).map fun v n xs h=>ownsRow_putObj h _ hK' rfl)
  case step7 =>
   rintro listed a u i ⟨hsl,v2,v3,v30,v31,v32,v33,v34,v35,rfl,h⟩ hi
   obtain ⟨hltn,hnot,haft⟩:=rinv.ready_mem hi
   have hd : rinv.done (listed.setIfInBounds i true) = fun k=>(k == i) || rinv.done listed k:=funext (rinv.done_set hnot)
   have hni:=rinv.done_not hnot
   have hsl' : (listed.setIfInBounds i true).size = 8:=by rw [Array.size_setIfInBounds];exact hsl
   have HD:=hid hd;have HS:=hid hsl';have HN:=hid hni;have HA:=hid haft
   have HH:=hid h
   clear hd hsl' hsl hnot hi hni haft h
   match i,hltn with
   | 0,_ =>
    refine rinv.wpOpIn_of_list rfl ?_
    gi_wp2
    refine ⟨HS.out,_,_,_,_,_,_,_,_,rfl,?_⟩
    rw [HD.out]
    exact { HH.out with
     p0:=fun _=>rfl
     q3:=fun e=>⟨rfl,(HH.out.q3 e).2⟩ }
   | 1,_ =>
    refine rinv.wpOpIn_of_list rfl ?_
    gi_wp2
    refine ⟨HS.out,_,_,_,_,_,_,_,_,rfl,?_⟩
    rw [HD.out]
    exact { HH.out with
     p1:=fun _=>rfl
     q2:=fun e=>rfl }
   | 2,_ =>
    refine rinv.wpOpIn_of_list rfl ?_
    have h2 : rinv.done listed 1 = true:=by have h:=HA.out;simp [Region.binds] at h;simp [h]
    have e1:=HH.out.p1 h2
    subst e1
    have H2:=hid h2
    have hah:=hahead u HH.out.wb
    clear  h2
    gi_wp2_with (gi_at_call 56;refine (callsIn_wide.2 hah).mono ?_;rintro e w' ⟨rfl,hb⟩)
    refine ⟨HS.out,_,_,_,_,_,_,_,_,rfl,?_⟩
    rw [HD.out]
    exact { HH.out with
     p2:=fun _=>rfl
     q2:=fun _=>H2.out
     q3:=fun e=>⟨(HH.out.q3 e).1,rfl⟩
     wb:=HH.out.wb.trans (hb.mono HH.out.wb.size)
     wv:=fun e=>ownsRow_below (HH.out.wv e) hb }
   | 3,_ =>
    refine rinv.wpOpIn_of_list rfl ?_
    have h2 : rinv.done listed 0 = true ∧ rinv.done listed 2 = true:=by have h:=HA.out;simp [Region.binds] at h;simp [h]
    have e0:=HH.out.p0 h2.1
    have e2:=HH.out.p2 h2.2
    subst e0 e2
    have H2:=hid h2
    have hzc:=HZL.out
    clear  h2
    gi_wp2
    refine ⟨HS.out,_,_,_,_,_,_,_,_,rfl,?_⟩
    rw [HD.out]
    exact { HH.out with
     p3:=fun _=>rfl
     q3:=fun _=>H2.out
     q4:=fun e=>rfl }
   | 4,_ =>
    refine rinv.wpOpIn_of_list rfl ?_
    have h2 : rinv.done listed 3 = true:=by have h:=HA.out;simp [Region.binds] at h;simp [h]
    have e3:=HH.out.p3 h2
    subst e3
    have H2:=hid h2
    have hno:=hnotes u HH.out.wb
    have h6:=not_of HH.out.q6 HN.out
    have H6:=hid h6
    clear h6
    clear  h2
    gi_wp2_with (gi_at_call 55;refine (callsIn_wide.2 hno).mono ?_;rintro e w' ⟨nv,rfl,hown,hb⟩)
    refine ⟨HS.out,_,_,_,_,_,_,_,_,rfl,?_⟩
    rw [HD.out]
    exact { HH.out with
     q4:=fun _=>H2.out
     q6:=fun e=>rfl
     p6:=fun e=>absurd (show rinv.done listed 6 = true from e) (by rw [H6.out];simp)
     wb:=HH.out.wb.trans (hb.mono HH.out.wb.size)
     wv:=fun _=>own_base hown HH.out.wb.size }
   | 5,_ =>
    refine rinv.wpOpIn_of_list rfl ?_
    have hc : u.cell? ⟨w.heap.size,0,none⟩ = some (.slice oa ol oc):=(HH.out.wb.cell (p:=⟨w.heap.size,0,none⟩) lO).trans cO
    gi_wp2
    refine ⟨HS.out,_,_,_,_,_,_,_,_,rfl,?_⟩
    rw [HD.out]
    exact { HH.out with
     p5:=fun _=>rfl
     q7:=fun e=>rfl }
   | 6,_ =>
    refine rinv.wpOpIn_of_list rfl ?_
    have h2 : rinv.done listed 4 = true:=by have h:=HA.out;simp [Region.binds] at h;simp [h]
    have H2:=hid h2
    have hov:=own_slice (HH.out.wv h2)
    obtain ⟨oa,ol,oc,rfl⟩:=hov
    clear  h2
    gi_wp2
    refine ⟨HS.out,_,_,_,_,_,_,_,_,rfl,?_⟩
    rw [HD.out]
    exact { HH.out with
     p6:=fun _=>rfl
     q6:=fun _=>H2.out }
   | 7,_ =>
    refine rinv.wpOpIn_of_list rfl ?_
    have h2 : rinv.done listed 5 = true:=by have h:=HA.out;simp [Region.binds] at h;simp [h]
    have e5:=HH.out.p5 h2
    subst e5
    have H2:=hid h2
    clear  h2
    gi_wp2
    refine ⟨HS.out,_,_,_,_,_,_,_,_,rfl,?_⟩
    rw [HD.out]
    exact { HH.out with
     p7:=fun _=>rfl
     q7:=fun _=>H2.out }
   | (j + 8),h=>exact absurd h (by simp)
end Go.Proofs.YtlklhkkjcfmefaaGreatDoor.it
namespace Go.Proofs.YtlklhkkjcfmefaaGreatDoor.it
open Go.Lib (hid)
open Go.RowKit Go.Shelf
open sg (lst_len OpsAt)
open lx sx
attribute [local go_sem] Oper.semAt_some
theorem none_at (n : Nat) (W : World) (ao : Option Addr) (cap : Nat) : TksAt n W (.slice ao 0 cap) []:=⟨ao,cap,rfl,Nat.zero_le _,fun j t ht=>by cases ht⟩
theorem runsU_nil : runsU [] = []:=by unfold runsU;rw [List.drop_nil,runsFrom]
theorem runs0_in (n : Nat) (hn : 1 ≤ n) (l Bs : Nat) (ao : Option Addr) (cap : Nat) (J : List Run → World → Prop) (W : World) (hJ : AbidesFrom W.heap.size J) (hb : Blk W Bs 45 #[.slice ao 0 cap]) (h0 : J [] W) :
  CallsIn Fence.wide n Tryz.prog 100 #[.func (.yield l) #[] #[],.pointer (some ⟨Bs,0,none⟩)] W fun e W'=>(∃ v,e = .returned v) ∧ J [] W':=by
 have hfI : Fence.wide.fn 56:=trivial
 have hfI2 : Fence.wide.fn 101:=trivial
 have hc0 : W.cell? ⟨Bs,0,none⟩ = some (.slice ao 0 cap):=hb.cell 0
 have hah:=ahead_calls _ [] W (none_at W.heap.size W ao cap)
 have hsz:=fun w2 ao cap=>isize_calls _ [] w2 w2.heap.size (none_at w2.heap.size w2 ao cap) (by decide)
 refine callsIn_of_wp Tryz.func100 rfl trivial ?_ rfl
 simp only [Tryz.ntmps100,List.size_toArray,List.length_cons,List.length_nil,Nat.reduceAdd,Nat.reduceSub,Array.replicate_succ,Array.replicate_zero,List.push_toArray,List.append_toArray,List.nil_append,List.cons_append]
 gi_wp2_with fail
 ((with_reducible refine (callsIn_wide.2 hah).mono ?_);rintro _ w1 ⟨rfl,hb1⟩)
 have hc1 : w1.cell? ⟨Bs,0,none⟩ = some (.slice ao 0 cap):=(hb.own hb1).cell 0
 simp only [show aheadU [] = 0 from rfl]
 cases ao
 all_goals (
  gi_wp2_with fail
  ((with_reducible refine (callsIn_wide.2 (hsz w1 _ _)).mono ?_);rintro _ w2 ⟨rfl,hb2⟩)
  have hc2:=((hb.own hb1).own hb2).cell 0
  simp only [List.getElem?_toArray,List.getElem?_cons_zero] at hc2
  have hj2:=abides_below hJ (abides_below hJ h0 hb1) hb2
  simp only [show sizeT [] = 0 from rfl]
  gi_wp2_with fail
  gi_loopw [3,4,5] (fun m at0 r wr=>(∃ ao c,r = .slice ao 0 c) ∧ J [] wr) (fun m at0 r wr=>0)
  case atStart=>exact ⟨⟨_,_,rfl⟩,hj2⟩
  case round =>
   obtain ⟨⟨ao',c',rfl⟩,hj3⟩:=hrel
   gi_wp2
   refine bodyPost_end (results_none rfl _ _ _) rfl ?_
   exact ⟨⟨_,rfl⟩,hj3⟩)
theorem runs0_all (n : Nat) (hn : 1 ≤ n) (Bs n0 : Nat) (ao : Option Addr) (cap : Nat) (w : World) (hb : Blk w Bs 45 #[.slice ao 0 cap]) :
  SeqAll Fence.wide n Tryz.prog 100 #[.pointer (some ⟨Bs,0,none⟩)] (encR 0 0 0) (KB n0 Bs 45) (runsU []) w:=fun l J W hW hJ hY h0=>by
 rw [runsU_nil]
 exact runs0_in n hn l Bs ao cap J W hJ (hb.below hW hb.lt) h0
theorem items0n_in (n : Nat) (hn : 4 ≤ n) (cap : Nat) (w : World) :
  CallsIn Fence.wide n Tryz.prog 32 #[.slice none 0 cap] w fun e W' =>
   ∃ nv ov nvs,e = .returned (.tuple #[nv,ov]) ∧ W'.ownsRow w.heap.size 9 1 nv (notesU (([] : List Tk).take (aheadU []))).length (strs (notesU (([] : List Tk).take (aheadU [])))) ∧
    W'.ownsRow w.heap.size 62 4 ov (runsU []).length (itemCells (runsU []) nvs) ∧ NotesAt w.heap.size W' (runsU []) nvs ∧ Below w.heap.size w W':=by
 have hf : Fence.wide.fn 54:=trivial
 have h1 : 1 ≤ n:=by omega
 have hmx : Tryz.prog.follows .mixedOrders = true:=by kernel_rfl
 refine callsIn_of_wp_marks Tryz.func32 rfl trivial ?_ rfl
 simp only [Tryz.ntmps32,List.size_toArray,List.length_cons,List.length_nil,Nat.reduceAdd,Nat.reduceSub,Array.replicate_succ,Array.replicate_zero,List.push_toArray,List.append_toArray,List.nil_append,List.cons_append]
 gi_wp2_with fail
 refine (runs_in (n - 1) _ _ _ _).mono ?_
 rintro e w' ⟨rfl,rfl⟩
 have b0:=(Boxed.new w 28 (.slice none 0 0)).alloc (.cells #[.slice none 0 cap] 45)
 have b1:=Boxed.new (w.alloc (.cells #[.slice none 0 0] 28)) 45 (.slice none 0 cap)
 have hB0 : Below w.heap.size w ((w.alloc (.cells #[.slice none 0 0] 28)).alloc (.cells #[.slice none 0 cap] 45)) :=
  ((Below.refl _ w).alloc (Nat.le_refl _) _).alloc (by simp) _
 have hsz : ((w.alloc (.cells #[.slice none 0 0] 28)).alloc (.cells #[.slice none 0 cap] 45)).heap.size = w.heap.size + 2:=by simp
 obtain ⟨W0,hW0⟩ : ∃ W0,((w.alloc (.cells #[.slice none 0 0] 28)).alloc (.cells #[.slice none 0 cap] 45)) = W0:=⟨_,rfl⟩
 rw [hW0] at b0 b1 hB0 hsz
 simp only [World.size_alloc] at b1
 gi_wp2_with fail
 clear hW0
 refine wpIn_rangeFunc_all (F:=Fence.wide) rfl h1 (gf:=100) (lb:=#[.pointer (some ⟨w.heap.size + 1,0,none⟩)]) rfl trivial (enters_of Tryz.func100 (by kernel_rfl) rfl)
  (runs0_all (n - 1) (by omega) (w.heap.size + 1) w.heap.size none cap W0 b1) KB.trans (KB.put (by omega)) (Below.refl _ _) (fun _=>rfl)
  (ItI w w.heap.size (.slice none 0 cap)) (ItI_own w _ _ _ (by omega))
  ⟨⟨⟨[],⟨_,b0,World.ownsRow_nil _ _ _ _,trivial⟩,trivial⟩,b1⟩,hB0⟩
  (fun x a' _=>True) (fun _ _ _ _ _ _ hs _ _=>trivial)
  ?assign ?body ?done
 case assign =>
  rintro l pre x W K hI hK
  gi_wp2
  exact hK _ _ ((keeps_below (Below.refl _ W)).from _) (KB.refl _ _ _ _) hI trivial
 case body =>
  rintro l pre x rest a' W hys
  rw [runsU_nil] at hys
  exact absurd hys (by simp)
 case done =>
  rintro D W hD hI hK
  obtain ⟨⟨⟨nvs,⟨ov,gO,gR,_⟩,gN⟩,gL⟩,hB⟩:=hI
  obtain ⟨oa,ol,oc,rfl⟩:=own_slice gR
  have lw:=hB.size
  have cO : W.drew.cell? ⟨w.heap.size,0,none⟩ = some (.slice oa ol oc):=gO.cell
  have lO : w.heap.size < W.drew.heap.size:=gO.lt
  have lD : D < W.heap.size:=(Array.getElem?_eq_some_iff.1 hK).1
  have hWD : Below W.heap.size W W.drew:=(Below.refl _ W).drew
  have hahead:=fun u (hu : Below W.drew.heap.size W.drew u)=>ahead_calls _ [] u (none_at u.heap.size u none cap)
  have hnotes:=fun u (hu : Below W.drew.heap.size W.drew u)=>notes_calls _ [] u u.heap.size (none_at u.heap.size u none cap) (by decide) (by decide)
  simp only [show aheadU [] = 0 from rfl] at hahead
  obtain ⟨m,hm⟩ : ∃ m,(notesU []).length = m:=⟨_,rfl⟩
  obtain ⟨ns,hns⟩ : ∃ ns,strs (notesU []) = ns:=⟨_,rfl⟩
  rw [hm,hns] at hnotes
  have HZL:=hid (show ((0 : Nat) : Int) ≤ (cap : Int) by omega)
  have hfa : Fence.wide.fn 56:=trivial
  have hfn : Fence.wide.fn 55:=trivial
  have HK:=hid hK;have HGR:=hid gR;have HGN:=hid gN;have HB:=hid hB;have HSZ:=hid hsz
  have HMM:=hid hm;have HNN:=hid hns
  clear hK gR gN hB hm hns gL b0 b1 hB0 hsz
  gi_wp2
  refine wpIn_region_any hmx ?_
  change wpAnyIn _ _ _ _ _ _ _ _ _ W.drew
  refine rinv.wpAnyIn_inv (It7V (.slice none 0 cap) (.slice none 0 cap) 0 w.heap.size m ns (.slice oa ol oc) D W.drew) ?step7 ?fin7 _ _ _ _ (by decide) ?start7
  case start7 =>
   refine ⟨rfl,_,_,_,_,_,_,_,_,rfl,?_⟩
   constructor <;> first | exact fun h=>absurd h (by decide) | exact Below.refl _ _
  case fin7 =>
   rintro listed a u ⟨hsl,v2,v3,v30,v31,v32,v33,v34,v35,rfl,h⟩ hre
   have hno : ∀ i,i ∉ Region.ready _ _ listed:=fun i hi=>by rw [hre] at hi;cases hi
   have mk : ∀ i,i < 8 → _ → rinv.done listed i = true:=fun i hi ha=>by
    cases hq : rinv.done listed i with
    | true=>rfl
    | false=>exact absurd (rinv.ready_of hi hsl hq ha) (hno i)
   have k0:=mk 0 (by omega) (by simp [])
   have k1:=mk 1 (by omega) (by simp [])
   have k2:=mk 2 (by omega) (by simp [k1])
   have k3:=mk 3 (by omega) (by simp [k0,k2])
   have k4:=mk 4 (by omega) (by simp [k3,k2])
   have k5:=mk 5 (by omega) (by simp [Region.binds])
   have k6:=mk 6 (by omega) (by simp [k0,k1,k2,k3,k4,k5,Region.binds])
   have k7:=mk 7 (by omega) (by simp [k0,k1,k2,k3,k4,k5,k6,Region.binds])
   clear mk hno hre
   have e2:=h.p6 k6
   have e3:=h.p7 k7
   have hwv:=h.wv k4
   rw [← HNN.out,← HMM.out] at hwv
   have hwb:=hWD.trans h.wb
   subst e2 e3
   clear k0 k1 k2 k3 k4 k5 k6 k7 h
   have hK' : u.heap[D]? = some (.deferred (some [])):=(hwb.block D lD).trans HK.out
   have hb2 : Below w.heap.size w u:=HB.out.trans (hwb.mono lw)
   gi_wp2
   refine ⟨by simp,.inl ⟨_,_,rfl,run_takeDeferred hK',?_⟩⟩
   refine ⟨.tuple #[v2,.slice oa ol oc],?_,v2,.slice oa ol oc,nvs,rfl,own_base (ownsRow_putObj hwv _ hK' rfl) lw,own_base (ownsRow_putObj (ownsRow_below HGR.out hwb) _ hK' rfl) (by omega),?_,hb2.trans (belowK_b (w:=w) (Nat.le_refl _) _ D _ _ (by have:=HSZ.out;omega) hK' rfl rfl)⟩
   ·simp [results,Tryz.f32,go_sem]
   ·exact NotesAt.base (by omega) ((HGN.out.own hwb).map fun v n xs h=>ownsRow_putObj h _ hK' rfl)
  case step7 =>
   rintro listed a u i ⟨hsl,v2,v3,v30,v31,v32,v33,v34,v35,rfl,h⟩ hi
   obtain ⟨hltn,hnot,haft⟩:=rinv.ready_mem hi
   have hd : rinv.done (listed.setIfInBounds i true) = fun k=>(k == i) || rinv.done listed k:=funext (rinv.done_set hnot)
   have hni:=rinv.done_not hnot
   have hsl' : (listed.setIfInBounds i true).size = 8:=by rw [Array.size_setIfInBounds];exact hsl
   have HD:=hid hd;have HS:=hid hsl';have HN:=hid hni;have HA:=hid haft
   have HH:=hid h
   clear hd hsl' hsl hnot hi hni haft h
   match i,hltn with
   | 0,_ =>
    refine rinv.wpOpIn_of_list rfl ?_
    gi_wp2
    refine ⟨HS.out,_,_,_,_,_,_,_,_,rfl,?_⟩
    rw [HD.out]
    exact { HH.out with
     p0:=fun _=>rfl
     q3:=fun e=>⟨rfl,(HH.out.q3 e).2⟩ }
   | 1,_ =>
    refine rinv.wpOpIn_of_list rfl ?_
    gi_wp2
    refine ⟨HS.out,_,_,_,_,_,_,_,_,rfl,?_⟩
    rw [HD.out]
    exact { HH.out with
     p1:=fun _=>rfl
     q2:=fun e=>rfl }
   | 2,_ =>
    refine rinv.wpOpIn_of_list rfl ?_
    have h2 : rinv.done listed 1 = true:=by have h:=HA.out;simp [Region.binds] at h;simp [h]
    have e1:=HH.out.p1 h2
    subst e1
    have H2:=hid h2
    have hah:=hahead u HH.out.wb
    clear  h2
    gi_wp2_with (gi_at_call 56;refine (callsIn_wide.2 hah).mono ?_;rintro e w' ⟨rfl,hb⟩)
    refine ⟨HS.out,_,_,_,_,_,_,_,_,rfl,?_⟩
    rw [HD.out]
    exact { HH.out with
     p2:=fun _=>rfl
     q2:=fun _=>H2.out
     q3:=fun e=>⟨(HH.out.q3 e).1,rfl⟩
     wb:=HH.out.wb.trans (hb.mono HH.out.wb.size)
     wv:=fun e=>ownsRow_below (HH.out.wv e) hb }
   | 3,_ =>
    refine rinv.wpOpIn_of_list rfl ?_
    have h2 : rinv.done listed 0 = true ∧ rinv.done listed 2 = true:=by have h:=HA.out;simp [Region.binds] at h;simp [h]
    have e0:=HH.out.p0 h2.1
    have e2:=HH.out.p2 h2.2
    subst e0 e2
    have H2:=hid h2
    have hzc:=HZL.out
    clear  h2
    gi_wp2
    refine ⟨HS.out,_,_,_,_,_,_,_,_,rfl,?_⟩
    rw [HD.out]
    exact { HH.out with
     p3:=fun _=>rfl
     q3:=fun _=>H2.out
     q4:=fun e=>rfl }
   | 4,_ =>
    refine rinv.wpOpIn_of_list rfl ?_
    have h2 : rinv.done listed 3 = true:=by have h:=HA.out;simp [Region.binds] at h;simp [h]
    have e3:=HH.out.p3 h2
    subst e3
    have H2:=hid h2
    have hno:=hnotes u HH.out.wb
    have h6:=not_of HH.out.q6 HN.out
    have H6:=hid h6
    clear h6
    clear  h2
    gi_wp2_with (gi_at_call 55;refine (callsIn_wide.2 hno).mono ?_;rintro e w' ⟨nv,rfl,hown,hb⟩)
    refine ⟨HS.out,_,_,_,_,_,_,_,_,rfl,?_⟩
    rw [HD.out]
    exact { HH.out with
     q4:=fun _=>H2.out
     q6:=fun e=>rfl
     p6:=fun e=>absurd (show rinv.done listed 6 = true from e) (by rw [H6.out];simp)
     wb:=HH.out.wb.trans (hb.mono HH.out.wb.size)
     wv:=fun _=>own_base hown HH.out.wb.size }
   | 5,_ =>
    refine rinv.wpOpIn_of_list rfl ?_
    have hc : u.cell? ⟨w.heap.size,0,none⟩ = some (.slice oa ol oc):=(HH.out.wb.cell (p:=⟨w.heap.size,0,none⟩) lO).trans cO
    gi_wp2
    refine ⟨HS.out,_,_,_,_,_,_,_,_,rfl,?_⟩
    rw [HD.out]
    exact { HH.out with
     p5:=fun _=>rfl
     q7:=fun e=>rfl }
   | 6,_ =>
    refine rinv.wpOpIn_of_list rfl ?_
    have h2 : rinv.done listed 4 = true:=by have h:=HA.out;simp [Region.binds] at h;simp [h]
    have H2:=hid h2
    have hov:=own_slice (HH.out.wv h2)
    obtain ⟨oa,ol,oc,rfl⟩:=hov
    clear  h2
    gi_wp2
    refine ⟨HS.out,_,_,_,_,_,_,_,_,rfl,?_⟩
    rw [HD.out]
    exact { HH.out with
     p6:=fun _=>rfl
     q6:=fun _=>H2.out }
   | 7,_ =>
    refine rinv.wpOpIn_of_list rfl ?_
    have h2 : rinv.done listed 5 = true:=by have h:=HA.out;simp [Region.binds] at h;simp [h]
    have e5:=HH.out.p5 h2
    subst e5
    have H2:=hid h2
    clear  h2
    gi_wp2
    refine ⟨HS.out,_,_,_,_,_,_,_,_,rfl,?_⟩
    rw [HD.out]
    exact { HH.out with
     p7:=fun _=>rfl
     q7:=fun _=>H2.out }
   | (j + 8),h=>exact absurd h (by simp)
theorem items0s_in (n : Nat) (hn : 4 ≤ n) (a : Addr) (cap : Nat) (w : World) :
  CallsIn Fence.wide n Tryz.prog 32 #[.slice (some a) 0 cap] w fun e W' =>
   ∃ nv ov nvs,e = .returned (.tuple #[nv,ov]) ∧ W'.ownsRow w.heap.size 9 1 nv (notesU (([] : List Tk).take (aheadU []))).length (strs (notesU (([] : List Tk).take (aheadU [])))) ∧
    W'.ownsRow w.heap.size 62 4 ov (runsU []).length (itemCells (runsU []) nvs) ∧ NotesAt w.heap.size W' (runsU []) nvs ∧ Below w.heap.size w W':=by
 have hf : Fence.wide.fn 54:=trivial
 have h1 : 1 ≤ n:=by omega
 have hmx : Tryz.prog.follows .mixedOrders = true:=by kernel_rfl
 refine callsIn_of_wp_marks Tryz.func32 rfl trivial ?_ rfl
 simp only [Tryz.ntmps32,List.size_toArray,List.length_cons,List.length_nil,Nat.reduceAdd,Nat.reduceSub,Array.replicate_succ,Array.replicate_zero,List.push_toArray,List.append_toArray,List.nil_append,List.cons_append]
 gi_wp2_with fail
 refine (runs_in (n - 1) _ _ _ _).mono ?_
 rintro e w' ⟨rfl,rfl⟩
 have b0:=(Boxed.new w 28 (.slice none 0 0)).alloc (.cells #[.slice (some a) 0 cap] 45)
 have b1:=Boxed.new (w.alloc (.cells #[.slice none 0 0] 28)) 45 (.slice (some a) 0 cap)
 have hB0 : Below w.heap.size w ((w.alloc (.cells #[.slice none 0 0] 28)).alloc (.cells #[.slice (some a) 0 cap] 45)) :=
  ((Below.refl _ w).alloc (Nat.le_refl _) _).alloc (by simp) _
 have hsz : ((w.alloc (.cells #[.slice none 0 0] 28)).alloc (.cells #[.slice (some a) 0 cap] 45)).heap.size = w.heap.size + 2:=by simp
 obtain ⟨W0,hW0⟩ : ∃ W0,((w.alloc (.cells #[.slice none 0 0] 28)).alloc (.cells #[.slice (some a) 0 cap] 45)) = W0:=⟨_,rfl⟩
 rw [hW0] at b0 b1 hB0 hsz
 simp only [World.size_alloc] at b1
 gi_wp2_with fail
 clear hW0
 refine wpIn_rangeFunc_all (F:=Fence.wide) rfl h1 (gf:=100) (lb:=#[.pointer (some ⟨w.heap.size + 1,0,none⟩)]) rfl trivial (enters_of Tryz.func100 (by kernel_rfl) rfl)
  (runs0_all (n - 1) (by omega) (w.heap.size + 1) w.heap.size (some a) cap W0 b1) KB.trans (KB.put (by omega)) (Below.refl _ _) (fun _=>rfl)
  (ItI w w.heap.size (.slice (some a) 0 cap)) (ItI_own w _ _ _ (by omega))
  ⟨⟨⟨[],⟨_,b0,World.ownsRow_nil _ _ _ _,trivial⟩,trivial⟩,b1⟩,hB0⟩
  (fun x a' _=>True) (fun _ _ _ _ _ _ hs _ _=>trivial)
  ?assign ?body ?done
 case assign =>
  rintro l pre x W K hI hK
  gi_wp2
  exact hK _ _ ((keeps_below (Below.refl _ W)).from _) (KB.refl _ _ _ _) hI trivial
 case body =>
  rintro l pre x rest a' W hys
  rw [runsU_nil] at hys
  exact absurd hys (by simp)
 case done =>
  rintro D W hD hI hK
  obtain ⟨⟨⟨nvs,⟨ov,gO,gR,_⟩,gN⟩,gL⟩,hB⟩:=hI
  obtain ⟨oa,ol,oc,rfl⟩:=own_slice gR
  have lw:=hB.size
  have cO : W.drew.cell? ⟨w.heap.size,0,none⟩ = some (.slice oa ol oc):=gO.cell
  have lO : w.heap.size < W.drew.heap.size:=gO.lt
  have lD : D < W.heap.size:=(Array.getElem?_eq_some_iff.1 hK).1
  have hWD : Below W.heap.size W W.drew:=(Below.refl _ W).drew
  have hahead:=fun u (hu : Below W.drew.heap.size W.drew u)=>ahead_calls _ [] u (none_at u.heap.size u (some a) cap)
  have hnotes:=fun u (hu : Below W.drew.heap.size W.drew u)=>notes_calls _ [] u u.heap.size (none_at u.heap.size u (some a) cap) (by decide) (by decide)
  simp only [show aheadU [] = 0 from rfl] at hahead
  obtain ⟨m,hm⟩ : ∃ m,(notesU []).length = m:=⟨_,rfl⟩
  obtain ⟨ns,hns⟩ : ∃ ns,strs (notesU []) = ns:=⟨_,rfl⟩
  rw [hm,hns] at hnotes
  have HZL:=hid (show ((0 : Nat) : Int) ≤ (cap : Int) by omega)
  have hfa : Fence.wide.fn 56:=trivial
  have hfn : Fence.wide.fn 55:=trivial
  have HK:=hid hK;have HGR:=hid gR;have HGN:=hid gN;have HB:=hid hB;have HSZ:=hid hsz
  have HMM:=hid hm;have HNN:=hid hns
  clear hK gR gN hB hm hns gL b0 b1 hB0 hsz
  gi_wp2
  refine wpIn_region_any hmx ?_
  change wpAnyIn _ _ _ _ _ _ _ _ _ W.drew
  refine rinv.wpAnyIn_inv (It7V (.slice (some a) 0 cap) (.slice (some a) 0 cap) 0 w.heap.size m ns (.slice oa ol oc) D W.drew) ?step7 ?fin7 _ _ _ _ (by decide) ?start7
  case start7 =>
   refine ⟨rfl,_,_,_,_,_,_,_,_,rfl,?_⟩
   constructor <;> first | exact fun h=>absurd h (by decide) | exact Below.refl _ _
  case fin7 =>
   rintro listed a u ⟨hsl,v2,v3,v30,v31,v32,v33,v34,v35,rfl,h⟩ hre
   have hno : ∀ i,i ∉ Region.ready _ _ listed:=fun i hi=>by rw [hre] at hi;cases hi
   have mk : ∀ i,i < 8 → _ → rinv.done listed i = true:=fun i hi ha=>by
    cases hq : rinv.done listed i with
    | true=>rfl
    | false=>exact absurd (rinv.ready_of hi hsl hq ha) (hno i)
   have k0:=mk 0 (by omega) (by simp [])
   have k1:=mk 1 (by omega) (by simp [])
   have k2:=mk 2 (by omega) (by simp [k1])
   have k3:=mk 3 (by omega) (by simp [k0,k2])
   have k4:=mk 4 (by omega) (by simp [k3,k2])
   have k5:=mk 5 (by omega) (by simp [Region.binds])
   have k6:=mk 6 (by omega) (by simp [k0,k1,k2,k3,k4,k5,Region.binds])
   have k7:=mk 7 (by omega) (by simp [k0,k1,k2,k3,k4,k5,k6,Region.binds])
   clear mk hno hre
   have e2:=h.p6 k6
   have e3:=h.p7 k7
   have hwv:=h.wv k4
   rw [← HNN.out,← HMM.out] at hwv
   have hwb:=hWD.trans h.wb
   subst e2 e3
   clear k0 k1 k2 k3 k4 k5 k6 k7 h
   have hK' : u.heap[D]? = some (.deferred (some [])):=(hwb.block D lD).trans HK.out
   have hb2 : Below w.heap.size w u:=HB.out.trans (hwb.mono lw)
   gi_wp2
   refine ⟨by simp,.inl ⟨_,_,rfl,run_takeDeferred hK',?_⟩⟩
   refine ⟨.tuple #[v2,.slice oa ol oc],?_,v2,.slice oa ol oc,nvs,rfl,own_base (ownsRow_putObj hwv _ hK' rfl) lw,own_base (ownsRow_putObj (ownsRow_below HGR.out hwb) _ hK' rfl) (by omega),?_,hb2.trans (belowK_b (w:=w) (Nat.le_refl _) _ D _ _ (by have:=HSZ.out;omega) hK' rfl rfl)⟩
   ·simp [results,Tryz.f32,go_sem]
   ·exact NotesAt.base (by omega) ((HGN.out.own hwb).map fun v n xs h=>ownsRow_putObj h _ hK' rfl)
  case step7 =>
   rintro listed a u i ⟨hsl,v2,v3,v30,v31,v32,v33,v34,v35,rfl,h⟩ hi
   obtain ⟨hltn,hnot,haft⟩:=rinv.ready_mem hi
   have hd : rinv.done (listed.setIfInBounds i true) = fun k=>(k == i) || rinv.done listed k:=funext (rinv.done_set hnot)
   have hni:=rinv.done_not hnot
   have hsl' : (listed.setIfInBounds i true).size = 8:=by rw [Array.size_setIfInBounds];exact hsl
   have HD:=hid hd;have HS:=hid hsl';have HN:=hid hni;have HA:=hid haft
   have HH:=hid h
   clear hd hsl' hsl hnot hi hni haft h
   match i,hltn with
   | 0,_ =>
    refine rinv.wpOpIn_of_list rfl ?_
    gi_wp2
    refine ⟨HS.out,_,_,_,_,_,_,_,_,rfl,?_⟩
    rw [HD.out]
    exact { HH.out with
     p0:=fun _=>rfl
     q3:=fun e=>⟨rfl,(HH.out.q3 e).2⟩ }
   | 1,_ =>
    refine rinv.wpOpIn_of_list rfl ?_
    gi_wp2
    refine ⟨HS.out,_,_,_,_,_,_,_,_,rfl,?_⟩
    rw [HD.out]
    exact { HH.out with
     p1:=fun _=>rfl
     q2:=fun e=>rfl }
   | 2,_ =>
    refine rinv.wpOpIn_of_list rfl ?_
    have h2 : rinv.done listed 1 = true:=by have h:=HA.out;simp [Region.binds] at h;simp [h]
    have e1:=HH.out.p1 h2
    subst e1
    have H2:=hid h2
    have hah:=hahead u HH.out.wb
    clear  h2
    gi_wp2_with (gi_at_call 56;refine (callsIn_wide.2 hah).mono ?_;rintro e w' ⟨rfl,hb⟩)
    refine ⟨HS.out,_,_,_,_,_,_,_,_,rfl,?_⟩
    rw [HD.out]
    exact { HH.out with
     p2:=fun _=>rfl
     q2:=fun _=>H2.out
     q3:=fun e=>⟨(HH.out.q3 e).1,rfl⟩
     wb:=HH.out.wb.trans (hb.mono HH.out.wb.size)
     wv:=fun e=>ownsRow_below (HH.out.wv e) hb }
   | 3,_ =>
    refine rinv.wpOpIn_of_list rfl ?_
    have h2 : rinv.done listed 0 = true ∧ rinv.done listed 2 = true:=by have h:=HA.out;simp [Region.binds] at h;simp [h]
    have e0:=HH.out.p0 h2.1
    have e2:=HH.out.p2 h2.2
    subst e0 e2
    have H2:=hid h2
    have hzc:=HZL.out
    clear  h2
    gi_wp2
    refine ⟨HS.out,_,_,_,_,_,_,_,_,rfl,?_⟩
    rw [HD.out]
    exact { HH.out with
     p3:=fun _=>rfl
     q3:=fun _=>H2.out
     q4:=fun e=>rfl }
   | 4,_ =>
    refine rinv.wpOpIn_of_list rfl ?_
    have h2 : rinv.done listed 3 = true:=by have h:=HA.out;simp [Region.binds] at h;simp [h]
    have e3:=HH.out.p3 h2
    subst e3
    have H2:=hid h2
    have hno:=hnotes u HH.out.wb
    have h6:=not_of HH.out.q6 HN.out
    have H6:=hid h6
    clear h6
    clear  h2
    gi_wp2_with (gi_at_call 55;refine (callsIn_wide.2 hno).mono ?_;rintro e w' ⟨nv,rfl,hown,hb⟩)
    refine ⟨HS.out,_,_,_,_,_,_,_,_,rfl,?_⟩
    rw [HD.out]
    exact { HH.out with
     q4:=fun _=>H2.out
     q6:=fun e=>rfl
     p6:=fun e=>absurd (show rinv.done listed 6 = true from e) (by rw [H6.out];simp)
     wb:=HH.out.wb.trans (hb.mono HH.out.wb.size)
     wv:=fun _=>own_base hown HH.out.wb.size }
   | 5,_ =>
    refine rinv.wpOpIn_of_list rfl ?_
    have hc : u.cell? ⟨w.heap.size,0,none⟩ = some (.slice oa ol oc):=(HH.out.wb.cell (p:=⟨w.heap.size,0,none⟩) lO).trans cO
    gi_wp2
    refine ⟨HS.out,_,_,_,_,_,_,_,_,rfl,?_⟩
    rw [HD.out]
    exact { HH.out with
     p5:=fun _=>rfl
     q7:=fun e=>rfl }
   | 6,_ =>
    refine rinv.wpOpIn_of_list rfl ?_
    have h2 : rinv.done listed 4 = true:=by have h:=HA.out;simp [Region.binds] at h;simp [h]
    have H2:=hid h2
    have hov:=own_slice (HH.out.wv h2)
    obtain ⟨oa,ol,oc,rfl⟩:=hov
    clear  h2
    gi_wp2
    refine ⟨HS.out,_,_,_,_,_,_,_,_,rfl,?_⟩
    rw [HD.out]
    exact { HH.out with
     p6:=fun _=>rfl
     q6:=fun _=>H2.out }
   | 7,_ =>
    refine rinv.wpOpIn_of_list rfl ?_
    have h2 : rinv.done listed 5 = true:=by have h:=HA.out;simp [Region.binds] at h;simp [h]
    have e5:=HH.out.p5 h2
    subst e5
    have H2:=hid h2
    clear  h2
    gi_wp2
    refine ⟨HS.out,_,_,_,_,_,_,_,_,rfl,?_⟩
    rw [HD.out]
    exact { HH.out with
     p7:=fun _=>rfl
     q7:=fun _=>H2.out }
   | (j + 8),h=>exact absurd h (by simp)
theorem items_calls (ao : Option Addr) (cap : Nat) (ts : List Tk) (w : World) (hts : TksAt w.heap.size w (.slice ao ts.length cap) ts) (hcap : ts.length ≤ cap) (hs : sizeT ts ≤ 140737488351232) (hl : ts.length ≤ 1000000000000) :
  Calls Tryz.prog 32 #[.slice ao ts.length cap] w fun e W' =>
   ∃ nv ov nvs,e = .returned (.tuple #[nv,ov]) ∧ W'.ownsRow w.heap.size 9 1 nv (notesU (ts.take (aheadU ts))).length (strs (notesU (ts.take (aheadU ts)))) ∧
    W'.ownsRow w.heap.size 62 4 ov (runsU ts).length (itemCells (runsU ts) nvs) ∧ NotesAt w.heap.size W' (runsU ts) nvs ∧ Below w.heap.size w W':=by
 cases ts with
 | nil =>
  cases ao with
  | none=>exact callsIn_wide.1 (items0n_in 4 (Nat.le_refl _) cap w)
  | some a=>exact callsIn_wide.1 (items0s_in 4 (Nat.le_refl _) a cap w)
 | cons t r =>
  obtain ⟨ao',cap',hv,hm,hc⟩:=id hts
  obtain ⟨g,off,e,_⟩:=hc 0 t rfl
  cases hv
  subst e
  exact callsIn_wide.1 (items_in 4 (Nat.le_refl _) g off cap (t :: r) w hts hcap hs hl)
end Go.Proofs.YtlklhkkjcfmefaaGreatDoor.it
namespace Go.Proofs.YtlklhkkjcfmefaaGreatDoor.it
open Go.Lib (hid)
open Go.RowKit Go.Shelf
open sg (lst_len OpsAt)
open lx sx
theorem own_len {W : World} {base size n : Nat} {e : TypeId} {v : Value} {xs : List Value} (h : W.ownsRow base e size v n xs) : ∃ ao cap,v = .slice ao n cap ∧ n ≤ cap:=by
 rcases h.2 with ⟨rfl,h0⟩ | ⟨g,cap,cur,rfl,h2,h3,h4⟩
 ·exact ⟨none,0,by rw [h0],by omega⟩
 ·exact ⟨_,cap,rfl,h4.1⟩
theorem own_at {W : World} {base size n : Nat} {e : TypeId} {ao : Option Addr} {cap : Nat} {xs : List Value} (h : W.ownsRow base e size (.slice ao n cap) n xs) {j : Nat} {u : Value} (hu : xs[j]? = some u) : ∃ g,ao = some ⟨g,0,none⟩ ∧ base ≤ g ∧ g < W.heap.size ∧ W.cell? ⟨g,j,none⟩ = some u:=by
 rcases h.2 with ⟨hn,h0⟩ | ⟨g,cap',cur,hv,h2,h3,h4⟩
 ·have:=h.1
  rw [h0] at this
  have:=(List.getElem?_eq_some_iff.1 hu).1
  omega
 ·cases hv
  refine ⟨g,rfl,h2,(Array.getElem?_eq_some_iff.1 h3).1,?_⟩
  rw [h.cellAt j (by have:=(List.getElem?_eq_some_iff.1 hu).1;have:=h.1;omega)]
  exact hu
theorem itemCells_at (rs : List Run) (nvs : List Value) (j : Nat) (x : Run) (nv : Value) (hx : rs[j]? = some x) (hn : nvs[j]? = some nv) :
  (itemCells rs nvs)[j * 4]? = some (.int .i64 (x.l.headD (0,⟨#[]⟩)).1) ∧ (itemCells rs nvs)[j * 4 + 1]? = some (.string (x.l.headD (0,⟨#[]⟩)).2) ∧ (itemCells rs nvs)[j * 4 + 2]? = some (.int .i64 (x.at' : Int)) ∧ (itemCells rs nvs)[j * 4 + 3]? = some nv:=by
 induction rs generalizing nvs j with
 | nil=>cases hx
 | cons y ys ih =>
  cases nvs with
  | nil=>cases hn
  | cons mv mvs =>
   cases j with
   | zero=>simp at hx hn;subst hx hn;exact ⟨rfl,rfl,rfl,rfl⟩
   | succ j =>
    have:=ih mvs j (by simpa using hx) (by simpa using hn)
    rw [show (j + 1) * 4 = j * 4 + 4 by omega]
    simpa [itemCells] using this
theorem notes_get {base : Nat} {W : World} {rs : List Run} {nvs : List Value} (h : NotesAt base W rs nvs) (j : Nat) (x : Run) (nv : Value) (hx : rs[j]? = some x) (hn : nvs[j]? = some nv) : W.ownsRow base 9 1 nv (notesU x.l).length (strs (notesU x.l)):=by
 induction rs generalizing nvs j with
 | nil=>cases hx
 | cons y ys ih =>
  cases nvs with
  | nil=>cases hn
  | cons mv mvs =>
   cases j with
   | zero=>simp at hx hn;subst hx hn;exact h.1
   | succ j=>exact ih h.2 j (by simpa using hx) (by simpa using hn)
theorem item_get {base n : Nat} {W : World} {ao : Option Addr} {cap : Nat} {rs : List Run} {nvs : List Value} (h : W.ownsRow base 62 4 (.slice ao rs.length cap) rs.length (itemCells rs nvs)) (hN : NotesAt base W rs nvs) (j : Nat) (x : Run) (hx : rs[j]? = some x) :
  ∃ g nv,ao = some ⟨g,0,none⟩ ∧ g < W.heap.size ∧ nvs[j]? = some nv ∧ W.cell? ⟨g,j * 4,none⟩ = some (.int .i64 (x.l.headD (0,⟨#[]⟩)).1) ∧ W.cell? ⟨g,j * 4 + 1,none⟩ = some (.string (x.l.headD (0,⟨#[]⟩)).2) ∧ W.cell? ⟨g,j * 4 + 2,none⟩ = some (.int .i64 (x.at' : Int)) ∧ W.cell? ⟨g,j * 4 + 3,none⟩ = some nv ∧
   W.ownsRow base 9 1 nv (notesU x.l).length (strs (notesU x.l)):=by
 have hj:=(List.getElem?_eq_some_iff.1 hx).1
 obtain ⟨nv,hn⟩ : ∃ nv,nvs[j]? = some nv:=⟨_,List.getElem?_eq_getElem (by rw [hN.len];exact hj)⟩
 obtain ⟨c0,c1,c2,c3⟩:=itemCells_at rs nvs j x nv hx hn
 obtain ⟨g,hg,hb,hgl,d0⟩:=own_at h c0
 obtain ⟨g1,hg1,_,_,d1⟩:=own_at h c1
 obtain ⟨g2,hg2,_,_,d2⟩:=own_at h c2
 obtain ⟨g3,hg3,_,_,d3⟩:=own_at h c3
 rw [hg] at hg1 hg2 hg3
 obtain rfl : g = g1:=by simpa using hg1
 obtain rfl : g = g2:=by simpa using hg2
 obtain rfl : g = g3:=by simpa using hg3
 exact ⟨g,nv,hg,hgl,hn,d0,d1,d2,d3,notes_get hN j x nv hx hn⟩
end Go.Proofs.YtlklhkkjcfmefaaGreatDoor.it
