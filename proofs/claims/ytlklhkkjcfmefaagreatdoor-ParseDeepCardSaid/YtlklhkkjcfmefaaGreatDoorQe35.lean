/- Ground of the law: PaP31, PaP27. -/
import Derived.Test.YtlklhkkjcfmefaaGreatDoorQe32
import Derived.Test.YtlklhkkjcfmefaaGreatDoorQe17
import Derived.Test.YtlklhkkjcfmefaaGreatDoorQe26
set_option maxRecDepth 100000
set_option maxHeartbeats 8000000
set_option linter.unusedVariables false
set_option linter.unusedSimpArgs false
namespace Go.Proofs.YtlklhkkjcfmefaaGreatDoor.pa
open Go.Lib (hid)
open Go.RowKit nd pr sx ed
def progT (qo : Pa Nd) (acc : List Nd) : Pa Nd:=.ended fun z=>(if (!acc.isEmpty && z) = true then .ret none0 else qo).bind fun x=>.ended fun e=>if e = true then .ret (if acc.isEmpty = true then x else mk 34 eB (acc ++ [x])) else .bad
def brA (qb qo : Pa Nd) : Nat → List Nd → Pa Nd
 | 0,_=>.out
 | n + 1,acc=>.look fun t=>if word wimport t = true then qb.bind fun b=>brA qb qo n (acc ++ [b]) else if word winclude t = true then qb.bind fun b=>brA qb qo n (acc ++ [b]) else progT qo acc
theorem OwnL.same {n : Nat} {W W' : World} {l : List Nd} {v : Value} (h : OwnL n W l v) (hs : W.heap.size ≤ W'.heap.size) (hk : ∀ k,n ≤ k → k < W.heap.size → W'.heap[k]? = W.heap[k]?) : OwnL n W' l v:=by
 obtain ⟨L,h1,h2⟩:=h
 exact ⟨L,own_heap h1 (fun k e=>hk k (h1.lt k e).1 (h1.lt k e).2),h2.keep (fun k e=>⟨e.1,Nat.lt_of_lt_of_le e.2.1 hs,e.2.2⟩) (fun k e=>hk k e.1 e.2.1)⟩
theorem OwnL.lt {n : Nat} {W : World} {l : List Nd} {v : Value} (h : OwnL n W l v) : ∀ k,v.ownBlock = some k → k < W.heap.size:=by
 obtain ⟨L,h1,_⟩:=h
 exact fun k e=>(h1.lt k e).2
structure GI (E : Env) (qb qo : Pa Nd) (n : Nat) (o : Out Nd) (W : World) (v : Value) (wr : World) (acc : List Nd) (m j : Nat) : Prop where
 own : OwnL (W.heap.size + 1) wr acc v
 ps : Ps E wr j
 kp : Kp E W wr
 rb : Blk wr W.heap.size 32 nodeZ
 size : W.heap.size + 1 ≤ wr.heap.size
 many : acc.length + m = n
 rest : (brA qb qo m acc).run (E.l.drop j) = some o
structure PG (E : Env) (W wr w : World) (x : Nd) (a : Option Addr) (c j : Nat) : Prop where
 ps : Ps E w j
 kp : Kp E W w
 rb : Blk w W.heap.size 32 nodeZ
 nb : Blk w wr.heap.size 32 (nV x a c)
 same : ∀ k,W.heap.size + 1 ≤ k → k < wr.heap.size → w.heap[k]? = wr.heap[k]?
 kx : KidsAt (Fr (wr.heap.size + 1) w) w x.kids (.slice a x.kids.len c)
 size : W.heap.size + 1 ≤ wr.heap.size
theorem PG.go {E : Env} {W wr w w' : World} {x : Nd} {a : Option Addr} {c j j' : Nat} (h : PG E W wr w x a c j) (hf : ∀ k,W.heap.size ≤ k → ¬ Pm E k) (hk : Kp E w w') (hp : Ps E w' j') : PG E W wr w' x a c j' :=
 have hsz:=h.size;have hlt:=h.nb.lt
 ⟨hp,Kp.tr h.kp hk,Kp.blk' h.rb hk hf (Nat.le_refl _),Kp.blk' h.nb hk hf (by omega),fun k h1 h2=>(hk.block k (by omega) (hf k (by omega))).trans (h.same k h1 h2),kids_kp h.kx hk (fun k hk=>hf k (by omega)),h.size⟩
theorem PG.next {E : Env} {W wr w w' : World} {x : Nd} {a : Option Addr} {c j : Nat} (h : PG E W wr w x a c j) (hb : Below w.heap.size w w') : PG E W wr w' x a c j :=
 have hlt:=h.nb.lt
 ⟨h.ps.next hb,Kp.sb h.kp hb,h.rb.own hb,h.nb.own hb,fun k h1 h2=>(hb.block k (by omega)).trans (h.same k h1 h2),kids_below h.kx hb,h.size⟩
theorem PG.put {E : Env} (hE : EnvOk E) {W wr u : World} {i : Nat} {x y : Nd} {a a' : Option Addr} {c c' j : Nat} (h : PG E W wr u x a c j) (h0 : Ps E W i) (hy : KidsAt (Fr (wr.heap.size + 1) u) u y.kids (.slice a' y.kids.len c')) :
  PG E W wr (((u.setCell ⟨wr.heap.size,0,none⟩ (.int .i64 y.k)).setCell ⟨wr.heap.size,1,none⟩ (.string y.t)).setCell ⟨wr.heap.size,2,none⟩ (.slice a' y.kids.len c')) y a' c' j:=by
 have hsz:=h.size
 have hne : ¬ Pm E wr.heap.size:=h0.not_pm (by omega)
 have ht : wr.heap.size ≠ E.T:=fun e=>by have:=h0.tlt;omega
 have h00 : E.W0.heap.size ≤ wr.heap.size:=Nat.le_trans h0.old.size (by omega)
 exact ⟨h.ps.set3 hE hne ht h00 _ _ _,h.kp.set3 (by omega) _ _ _,(set3h (by omega) _ _ _).trans h.rb,set3b h.nb _ _ _,fun k h1 h2=>(set3h (by omega) _ _ _).trans (h.same k h1 h2),
  hy.keep (fun k e=>⟨e.1,by rw [size3];exact e.2⟩) (fun k e=>set3h (by have:=e.1;omega) _ _ _),h.size⟩
theorem PG.own {E : Env} {W wr w : World} {x : Nd} {a : Option Addr} {c j : Nat} {l : List Nd} {v : Value} (h : PG E W wr w x a c j) (ho : OwnL (W.heap.size + 1) wr l v) : OwnL (W.heap.size + 1) w l v :=
 ho.same (Nat.le_of_lt h.nb.lt) h.same
theorem PG.aw {E : Env} {W wr w : World} {x : Nd} {a : Option Addr} {c j : Nat} {l : List Nd} {v : Value} (h : PG E W wr w x a c j) (ho : OwnL (W.heap.size + 1) wr l v) : KidsAt (Aw (W.heap.size + 1) w v) w x.kids (.slice a x.kids.len c) :=
 h.kx.keep (fun k e=>⟨by have:=e.1;have:=h.size;omega,e.2,fun e'=>by have:=ho.lt k e';have:=e.1;omega⟩) (fun _ _=>rfl)
theorem program_tl {E : Env} (hE : EnvOk E) {qb qo : Pa Nd} (hb : Tl E qb RN 81 #[pB E]) (ho : Tl E qo RN 83 #[pB E]) (n : Nat) (hn : n ≤ 100000000) :
  Tl E (brA qb qo n []) RN 45 #[pB E]:=by
 intro W i o hp hr
 have HB:=hid hb;have HO:=hid ho;have HNN:=hid hn
 have HNP:=hid hp.far;have H00:=hid hp
 obtain ⟨W0,hW0⟩ : ∃ W0,W.alloc (.cells nodeZ 32) = W0:=⟨_,rfl⟩
 have hb0 : Below W.heap.size W W0:=by rw [← hW0];exact (Below.refl _ W).alloc (Nat.le_refl _) _
 have HGI:=hid (show GI E qb qo n o W (.slice none 0 0) W0 [] n i from ⟨OwnL.nil _ _,hp.next hb0,Kp.of_below hb0,by rw [← hW0];exact Blk.new W _ _,by rw [← hW0];simp,by simp,hr⟩)
 have HW0:=hid hW0
 clear hW0 hb0 hp hr hb ho hn
 unfold pB
 go_enter Tryz.func45,Tryz.ntmps45
 go_upto_region 1 with fail
 rw [HW0.out]
 go_wp2_with fail
 go_loopw [3] (fun v wr=>∃ acc m j,GI E qb qo n o W v wr acc m j) (fun v _=>n + 5 - lenOf v)
 case atStart=>exact ⟨_,_,_,HGI.out⟩
 case round =>
  clear HGI
  obtain ⟨acc,m,j,hgi⟩:=hrel
  obtain ⟨av,cv,rfl⟩:=hgi.own.slice
  have hrest:=hgi.rest
  cases m with
  | zero=>cases hrest
  | succ m =>
  unfold brA at hrest
  rw [run_look] at hrest
  obtain ⟨t,ht⟩ : ∃ t,tk E j = t:=⟨_,rfl⟩
  rw [show tok (E.l.drop j) = t from ht] at hrest
  have HNXF:=hid (fun W' (hb : Below wr.heap.size wr W')=>next_calls hE (hgi.ps.next hb))
  have hnx:=HNXF.out
  rw [ht] at hnx
  unfold pB at hnx
  have HNX:=hid hnx;have HGI:=hid hgi
  clear hnx HNXF hgi ht
  have hq1:=run_sameV;have hq3:=guard_eqV
  have BRING : ∀ w2 : World,Below wr.heap.size wr w2 → (qb.bind fun b=>brA qb qo m (acc ++ [b])).run (E.l.drop j) = some o → True:=fun _ _ _=>trivial
  clear BRING
  obtain ⟨c1,hc1⟩ : ∃ c,word wimport t = c:=⟨_,rfl⟩
  rw [hc1] at hrest
  have hv1:=same_word hc1
  obtain ⟨c2,hc2⟩ : ∃ c,word winclude t = c:=⟨_,rfl⟩
  rw [hc2] at hrest
  have hv2:=same_word hc2
  have HREST:=hid hrest
  clear hrest hc1 hc2
  go_wp2_with fail
  ((with_reducible refine (HNX.out _ (Below.refl _ _)).mono ?_);rintro e w1 ⟨rfl,hb1⟩)
  go_wp2_with fail
  ((with_reducible refine (word_calls' _ _).mono ?_);rintro e w2 ⟨rfl,hb2⟩)
  have HB2:=hid (Below.trans hb1 (hb2.mono hb1.size))
  clear hb1 hb2
  cases c1 with
  | true =>
   have hl:=HREST.out
   clear HREST
   rw [if_yes] at hl
   obtain ⟨o1,h1,h2⟩:=bind_run hl
   have hcall:=Tl.at HB.out (HGI.out.ps.next HB2.out) h1
   unfold pB at hcall
   have HC:=hid hcall;have H2:=hid h2
   clear hl h1 h2 hcall
   go_wp2_with fail
   ((with_reducible refine HC.out.mono ?_);rintro e w5 ⟨hk,hm⟩)
   clear HC
   rcases o1 with ⟨r1,x⟩ | ⟨r1⟩
   rotate_left
   ·obtain ⟨j2,hj,hd,rfl⟩:=hm
    obtain rfl : o = .bad r1:=(Option.some.inj H2.out).symm
    go_wp2_with fail
    exact ⟨rfl,Kp.tr (Kp.sb HGI.out.kp HB2.out) hk,j2,hj,hd,rfl⟩
   obtain ⟨v1,j2,rfl,hp5,rfl,hR⟩:=hm
   obtain ⟨s5,rfl,hks⟩:=hR
   obtain ⟨a5,c5,rfl,_⟩:=hks.slice
   have hfar : ∀ k,W.heap.size + 1 ≤ k → ¬ Pm E k:=fun k e=>HNP.out k (by omega)
   have hown2:=HGI.out.own.below HB2.out
   have hown3:=hown2.kp hk hfar
   have hs2:=Nat.le_trans HGI.out.size (Below.size HB2.out)
   have hs3:=Nat.le_trans hs2 hk.size
   have hsin:=kids_since hks hown2 hs2
   have hrow:=Blk.new w5 32 (nV x a5 c5)
   have hba : Below w5.heap.size w5 (w5.alloc (.cells (nV x a5 c5) 32)):=(Below.refl _ _).alloc (Nat.le_refl _) _
   have HOWN:=hid (hown3.below hba);have HCE:=hid (cells_one (aw_below hsin hba));have HROW:=hid hrow
   have HP4:=hid (hp5.next hba);have HKA:=hid (Kp.sb (Kp.tr (Kp.sb HGI.out.kp HB2.out) hk) hba)
   have HSA:=hid (Nat.le_trans hs3 hba.size)
   have HBX:=hid ((Kp.blk' (n:=W.heap.size) (HGI.out.rb.own HB2.out) hk HNP.out (Nat.le_refl _)).own hba)
   have HMANY:=hid HGI.out.many
   clear hk hp5 hks hown2 hown3 hs2 hs3 hsin hrow hba hfar
   go_wp2_with (at_builtin;refine wpList_append_nodes rfl _ _ rfl (W.heap.size + 1) j2 i acc [x] _ rfl HOWN.out (by have:=HMANY.out;have:=HNN.out;omega) (by simp) w5.heap.size [.int .i64 x.k,.string x.t,.slice a5 x.kids.len c5] rfl HROW.out HCE.out HSA.out HP4.out HKA.out (Nat.le_succ _) HNP.out H00.out ?_;intro v' w' hgrew;obtain ⟨a6,c6,hv5⟩:=hgrew.own.slice;rw [show (acc ++ [x]).length = acc.length + 1 by simp] at hv5;subst hv5;have HG:=hid hgrew;clear hgrew)
   refine ⟨⟨acc ++ [x],m,j2,HG.out.own,HG.out.ps,HG.out.kp,HG.out.blk _ _ _ HBX.out (Nat.lt_succ_self _),Nat.le_trans HSA.out HG.out.size,by have:=HMANY.out;simp;omega,H2.out⟩,?_⟩
   have:=HMANY.out
   simp [lenOf];omega
  | false =>
   go_wp2_with fail
   ((with_reducible refine (HNX.out _ HB2.out).mono ?_);rintro e w3 ⟨rfl,hb3⟩)
   go_wp2_with fail
   ((with_reducible refine (word_calls' _ _).mono ?_);rintro e w4 ⟨rfl,hb4⟩)
   have HB4:=hid ((HB2.out.trans (hb3.mono HB2.out.size)).trans (hb4.mono (Nat.le_trans HB2.out.size hb3.size)))
   clear hb3 hb4
   cases c2 with
   | true =>
    have hl:=HREST.out
    clear HREST
    rw [if_no,if_yes] at hl
    obtain ⟨o1,h1,h2⟩:=bind_run hl
    have hcall:=Tl.at HB.out (HGI.out.ps.next HB4.out) h1
    unfold pB at hcall
    have HC:=hid hcall;have H2:=hid h2
    clear hl h1 h2 hcall
    go_wp2_with fail
    ((with_reducible refine HC.out.mono ?_);rintro e w5 ⟨hk,hm⟩)
    clear HC
    rcases o1 with ⟨r1,x⟩ | ⟨r1⟩
    rotate_left
    ·obtain ⟨j2,hj,hd,rfl⟩:=hm
     obtain rfl : o = .bad r1:=(Option.some.inj H2.out).symm
     go_wp2_with fail
     exact ⟨rfl,Kp.tr (Kp.sb HGI.out.kp HB4.out) hk,j2,hj,hd,rfl⟩
    obtain ⟨v1,j2,rfl,hp5,rfl,hR⟩:=hm
    obtain ⟨s5,rfl,hks⟩:=hR
    obtain ⟨a5,c5,rfl,_⟩:=hks.slice
    have hfar : ∀ k,W.heap.size + 1 ≤ k → ¬ Pm E k:=fun k e=>HNP.out k (by omega)
    have hown2:=HGI.out.own.below HB4.out
    have hown3:=hown2.kp hk hfar
    have hs2:=Nat.le_trans HGI.out.size (Below.size HB4.out)
    have hs3:=Nat.le_trans hs2 hk.size
    have hsin:=kids_since hks hown2 hs2
    have hrow:=Blk.new w5 32 (nV x a5 c5)
    have hba : Below w5.heap.size w5 (w5.alloc (.cells (nV x a5 c5) 32)):=(Below.refl _ _).alloc (Nat.le_refl _) _
    have HOWN:=hid (hown3.below hba);have HCE:=hid (cells_one (aw_below hsin hba));have HROW:=hid hrow
    have HP4:=hid (hp5.next hba);have HKA:=hid (Kp.sb (Kp.tr (Kp.sb HGI.out.kp HB4.out) hk) hba)
    have HSA:=hid (Nat.le_trans hs3 hba.size)
    have HBX:=hid ((Kp.blk' (n:=W.heap.size) (HGI.out.rb.own HB4.out) hk HNP.out (Nat.le_refl _)).own hba)
    have HMANY:=hid HGI.out.many
    clear hk hp5 hks hown2 hown3 hs2 hs3 hsin hrow hba hfar
    go_wp2_with (at_builtin;refine wpList_append_nodes rfl _ _ rfl (W.heap.size + 1) j2 i acc [x] _ rfl HOWN.out (by have:=HMANY.out;have:=HNN.out;omega) (by simp) w5.heap.size [.int .i64 x.k,.string x.t,.slice a5 x.kids.len c5] rfl HROW.out HCE.out HSA.out HP4.out HKA.out (Nat.le_succ _) HNP.out H00.out ?_;intro v' w' hgrew;obtain ⟨a6,c6,hv5⟩:=hgrew.own.slice;rw [show (acc ++ [x]).length = acc.length + 1 by simp] at hv5;subst hv5;have HG:=hid hgrew;clear hgrew)
    refine ⟨⟨acc ++ [x],m,j2,HG.out.own,HG.out.ps,HG.out.kp,HG.out.blk _ _ _ HBX.out (Nat.lt_succ_self _),Nat.le_trans HSA.out HG.out.size,by have:=HMANY.out;simp;omega,H2.out⟩,?_⟩
    have:=HMANY.out
    simp [lenOf];omega
   | false =>
    have hl:=HREST.out
    clear HREST
    rw [if_no,if_no] at hl
    have hbw:=HB4.out
    have HOWN4:=hid (HGI.out.own.below hbw)
    go_upto_region 5 with fail
    obtain ⟨w5,hw5⟩ : ∃ w',w4.alloc (.cells nodeZ 32) = w':=⟨_,rfl⟩
    rw [hw5]
    have hb5 : Below w4.heap.size w4 w5:=by rw [← hw5];exact (Below.refl _ _).alloc (Nat.le_refl _) _
    have hb45:=hbw.trans (hb5.mono hbw.size)
    have HPG:=hid (show PG E W w4 w5 none0 none 0 j from ⟨HGI.out.ps.next hb45,Kp.sb HGI.out.kp hb45,HGI.out.rb.own hb45,by rw [← hw5];exact Blk.new w4 _ _,fun k h1 h2=>hb5.block k h2,kids_nil _ _ none 0,Nat.le_trans HGI.out.size hbw.size⟩)
    have HR:=hid hl
    clear hb5 hb45 hw5 hbw hl hq1 hq3 hv1 hv2
    obtain ⟨c0,hc0⟩ : ∃ c,acc.isEmpty = c:=⟨_,rfl⟩
    have hz : (((acc.length : Int)) == 0) = c0:=by
     rw [← hc0]
     cases acc with
     | nil=>rfl
     | cons a l=>simp;omega
    have HE0:=hid hc0
    clear hc0
    cases c0 with
    | true =>
     have hl:=HR.out
     clear HR
     unfold progT at hl
     rw [run_ended,HE0.out,show (!true && (E.l.drop j).isEmpty) = false from rfl,if_no] at hl
     have HR:=hid hl
     clear hl
     obtain ⟨o1,h1,h2⟩:=bind_run HR.out
     have hcall:=Tl.at HO.out HPG.out.ps h1
     unfold pB at hcall
     have HC:=hid hcall;have H2:=hid h2
     clear h1 h2 hcall HR
     go_wp2_with fail
     ((with_reducible refine HC.out.mono ?_);rintro e w6 ⟨hk,hm⟩)
     clear HC
     rcases o1 with ⟨r1,x⟩ | ⟨r1⟩
     rotate_left
     ·obtain ⟨j2,hj,hd,rfl⟩:=hm
      obtain rfl : o = .bad r1:=(Option.some.inj H2.out).symm
      go_wp2_with fail
      exact ⟨rfl,Kp.tr HPG.out.kp hk,j2,hj,by first | exact hd | rfl,rfl⟩
     obtain ⟨v1,j2,rfl,hp,rfl,hR⟩:=hm
     obtain ⟨ax,cx,rfl,hx⟩:=kids_new (n:=w4.heap.size + 1) hR HPG.out.nb.lt
     have HP6:=hid (HPG.out.go HNP.out hk hp)
     have n60:=HP6.out.nb.cell 0;have n61:=HP6.out.nb.cell 1;have n62:=HP6.out.nb.cell 2;have f60:=HP6.out.nb.frozen 0;have f61:=HP6.out.nb.frozen 1;have f62:=HP6.out.nb.frozen 2
     have hp7:=PG.put hE (y:=x) HP6.out H00.out hx
     clear hk hp hR hx HPG
     go_upto_region 7 with fail
     obtain ⟨w7,hw7⟩ : ∃ w7,(((w6.setCell ⟨w4.heap.size,0,none⟩ (.int .i64 x.k)).setCell ⟨w4.heap.size,1,none⟩ (.string x.t)).setCell ⟨w4.heap.size,2,none⟩ (.slice ax x.kids.len cx)) = w7:=⟨_,rfl⟩
     rw [hw7] at hp7 ⊢
     have HP7:=hid hp7
     have HR:=hid (show (Pa.ended fun e=>if e = true then .ret (if acc.isEmpty = true then x else mk 34 eB (acc ++ [x])) else .bad).run (E.l.drop j2) = some o by rw [HE0.out];exact H2.out)
     clear hp7 hw7 H2 HP6 n60 n61 n62 f60 f61 f62
     obtain ⟨ez,hez⟩ : ∃ ez,(E.l.drop j2).isEmpty = ez:=⟨_,rfl⟩
     have hed:=ended_calls hE HP7.out.ps
     rw [hez] at hed
     unfold pB at hed
     have HED:=hid hed
     have hl:=HR.out
     clear HR
     rw [run_ended,hez] at hl
     have HR:=hid hl
     clear hed hl hez
     go_wp2_with fail
     ((with_reducible refine HED.out.mono ?_);rintro e w8 ⟨rfl,hb⟩)
     have HP8:=hid (HP7.out.next hb)
     clear hb HED
     cases ez with
     | false =>
      have hl:=HR.out
      clear HR
      rw [if_no] at hl
      have hob : o = .bad (E.l.drop j2):=(Option.some.inj hl).symm
      have HOB:=hid hob
      have hf:=fail_calls HP8.out.ps
      unfold pB at hf
      have HFL:=hid hf
      clear hf hl hob
      go_wp2_with fail
      ((with_reducible refine HFL.out.mono ?_);rintro e w9 ⟨rfl,hb⟩)
      go_wp2_with fail
      rw [HOB.out]
      exact ⟨rfl,Kp.sb HP8.out.kp hb,j2,HP8.out.ps.le,rfl,rfl⟩
     | true =>
      have hl:=HR.out
      clear HR
      rw [if_yes] at hl
      simp only [HE0.out,if_true] at hl
      have HR:=hid hl
      clear hl
      obtain rfl : o = .ok (E.l.drop j2) x:=(Option.some.inj HR.out).symm
      have n0:=HP8.out.nb.cell 0;have n1:=HP8.out.nb.cell 1;have n2:=HP8.out.nb.cell 2
      have rc0:=HP8.out.rb.cell 0;have rf0:=HP8.out.rb.frozen 0;have rc1:=HP8.out.rb.cell 1;have rf1:=HP8.out.rb.frozen 1;have rc2:=HP8.out.rb.cell 2;have rf2:=HP8.out.rb.frozen 2
      have hfin:=fin_node hE H00.out HP8.out.ps HP8.out.kp (Nat.le_refl _) HP8.out.rb (HP8.out.kx.keep (fun k e=>⟨by have:=e.1;have:=HP8.out.size;omega,e.2⟩) (fun _ _=>rfl))
      have g0:=hfin.1.cell 0;have g1:=hfin.1.cell 1;have g2:=hfin.1.cell 2
      have HF:=hid hfin.2
      clear hfin
      go_wp2_with fail
      refine bodyPost_ret (v:=.agg (nV x ax cx)) (by simp [results,Tryz.results45,go_sem,g0,g1,g2]) rfl ?_
      exact HF.out
    | false =>
     obtain ⟨z,hzz⟩ : ∃ z,(E.l.drop j).isEmpty = z:=⟨_,rfl⟩
     have hl:=HR.out
     clear HR
     unfold progT at hl
     rw [run_ended,HE0.out,hzz,show (!false && z) = z from by simp] at hl
     have HR:=hid hl
     have hed:=ended_calls hE HPG.out.ps
     rw [hzz] at hed
     unfold pB at hed
     have HED0:=hid hed
     clear hed hl hzz
     go_wp2_with fail
     ((with_reducible refine HED0.out.mono ?_);rintro e w55 ⟨rfl,hb⟩)
     have HPG:=hid (HPG.out.next hb)
     clear hb HED0
     cases z with
     | true =>
      have hl:=HR.out
      clear HR
      rw [if_yes] at hl
      have HR:=hid (show (Pa.ended fun e=>if e = true then .ret (if acc.isEmpty = true then none0 else mk 34 eB (acc ++ [none0])) else .bad).run (E.l.drop j) = some o by rw [HE0.out];exact hl)
      have HP7:=HPG
      clear hl
      obtain ⟨ez,hez⟩ : ∃ ez,(E.l.drop j).isEmpty = ez:=⟨_,rfl⟩
      have hed:=ended_calls hE HP7.out.ps
      rw [hez] at hed
      unfold pB at hed
      have HED:=hid hed
      have hl:=HR.out
      clear HR
      rw [run_ended,hez] at hl
      have HR:=hid hl
      clear hed hl hez
      go_wp2_with fail
      ((with_reducible refine HED.out.mono ?_);rintro e w8 ⟨rfl,hb⟩)
      have HP8:=hid (HP7.out.next hb)
      clear hb HED
      cases ez with
      | false =>
       have hl:=HR.out
       clear HR
       rw [if_no] at hl
       have hob : o = .bad (E.l.drop j):=(Option.some.inj hl).symm
       have HOB:=hid hob
       have hf:=fail_calls HP8.out.ps
       unfold pB at hf
       have HFL:=hid hf
       clear hf hl hob
       go_wp2_with fail
       ((with_reducible refine HFL.out.mono ?_);rintro e w9 ⟨rfl,hb⟩)
       go_wp2_with fail
       rw [HOB.out]
       exact ⟨rfl,Kp.sb HP8.out.kp hb,j,HP8.out.ps.le,rfl,rfl⟩
      | true =>
       have hl:=HR.out
       clear HR
       rw [if_yes] at hl
       simp only [HE0.out,Bool.false_eq_true,if_false] at hl
       have HR:=hid hl
       clear hl
       obtain rfl : o = .ok (E.l.drop j) (mk 34 eB (acc ++ [none0])):=(Option.some.inj HR.out).symm
       have n0:=HP8.out.nb.cell 0;have n1:=HP8.out.nb.cell 1;have n2:=HP8.out.nb.cell 2
       have hba : Below w8.heap.size w8 (w8.alloc (.cells (nV none0 none 0) 32)):=(Below.refl _ _).alloc (Nat.le_refl _) _
       have HOWN:=hid ((HP8.out.own HOWN4.out).below hba);have HCE:=hid (cells_one (x:=none0) (aw_below (HP8.out.aw HOWN4.out) hba));have HROW:=hid (Blk.new w8 32 (nV none0 none 0))
       have HPA:=hid (HP8.out.ps.next hba);have HKA:=hid (Kp.sb HP8.out.kp hba);have HSA:=hid (show W.heap.size + 1 ≤ (w8.alloc (.cells (nV none0 none 0) 32)).heap.size from Nat.le_trans (by have:=HP8.out.size;have:=HP8.out.nb.lt;omega) hba.size)
       have HBA:=hid (HP8.out.rb.own hba);have HMANY:=hid HGI.out.many
       clear hba
       go_wp2_with (at_builtin;refine wpList_append_nodes rfl _ _ rfl (W.heap.size + 1) j i acc [none0] _ rfl HOWN.out (by have:=HMANY.out;have:=HNN.out;omega) (by simp) w8.heap.size [.int .i64 (none0).k,.string (none0).t,.slice none (none0).kids.len 0] rfl HROW.out HCE.out HSA.out HPA.out HKA.out (Nat.le_succ _) HNP.out H00.out ?_;intro v' w9 hgrew;obtain ⟨a9,c9,hv5⟩:=hgrew.own.slice;rw [show (acc ++ [none0]).length = acc.length + 1 by simp] at hv5;subst hv5;have HG:=hid hgrew;clear hgrew)
       ((with_reducible refine (node_calls _ _ _ _ _ _).mono ?_);rintro e w10 ⟨rfl,hb⟩)
       have hrb:=(HG.out.blk _ _ _ HBA.out (Nat.lt_succ_self _)).own hb
       have hx2 : KidsAt (Fr (W.heap.size + 1) w10) w10 (mk 34 eB (acc ++ [none0])).kids (.slice a9 (mk 34 eB (acc ++ [none0])).kids.len c9):=by
        rw [show (mk 34 eB (acc ++ [none0])).kids.len = acc.length + 1 from (Fo.ofL_len _).trans (by simp)]
        exact (HG.out.own.below hb).kids
       have hfin:=fin_node hE (x:=mk 34 eB (acc ++ [none0])) H00.out (HG.out.ps.next hb) (Kp.sb HG.out.kp hb) (Nat.le_refl _) hrb hx2
       have rc0:=hrb.cell 0;have rf0:=hrb.frozen 0;have rc1:=hrb.cell 1;have rf1:=hrb.frozen 1;have rc2:=hrb.cell 2;have rf2:=hrb.frozen 2
       have hln : (mk 34 eB (acc ++ [none0])).kids.len = acc.length + 1:=(Fo.ofL_len _).trans (by simp)
       have g0:=hfin.1.cell 0;have g1:=hfin.1.cell 1;have g2 : _ = some (Value.slice a9 (mk 34 eB (acc ++ [none0])).kids.len c9):=hfin.1.cell 2
       have hF2:=hfin.2
       dsimp only [nV] at hF2
       rw [hln] at hF2 g0 g1 g2
       simp only [mk] at g0 g1 g2
       have HF:=hid hF2
       clear hfin hx2 hln hF2 hb hrb
       go_wp2_with fail
       refine bodyPost_ret (v:=.agg #[.int .i64 34,.string eB,.slice a9 (acc.length + 1) c9]) (by simp [results,Tryz.results45,go_sem,g0,g1,g2]) rfl ?_
       exact HF.out
     | false =>
      have hl:=HR.out
      clear HR
      rw [if_no] at hl
      have HR:=hid hl
      clear hl
      obtain ⟨o1,h1,h2⟩:=bind_run HR.out
      have hcall:=Tl.at HO.out HPG.out.ps h1
      unfold pB at hcall
      have HC:=hid hcall;have H2:=hid h2
      clear h1 h2 hcall HR
      go_wp2_with fail
      ((with_reducible refine HC.out.mono ?_);rintro e w6 ⟨hk,hm⟩)
      clear HC
      rcases o1 with ⟨r1,x⟩ | ⟨r1⟩
      rotate_left
      ·obtain ⟨j2,hj,hd,rfl⟩:=hm
       obtain rfl : o = .bad r1:=(Option.some.inj H2.out).symm
       go_wp2_with fail
       exact ⟨rfl,Kp.tr HPG.out.kp hk,j2,hj,by first | exact hd | rfl,rfl⟩
      obtain ⟨v1,j2,rfl,hp,rfl,hR⟩:=hm
      obtain ⟨ax,cx,rfl,hx⟩:=kids_new (n:=w4.heap.size + 1) hR HPG.out.nb.lt
      have HP6:=hid (HPG.out.go HNP.out hk hp)
      have n60:=HP6.out.nb.cell 0;have n61:=HP6.out.nb.cell 1;have n62:=HP6.out.nb.cell 2;have f60:=HP6.out.nb.frozen 0;have f61:=HP6.out.nb.frozen 1;have f62:=HP6.out.nb.frozen 2
      have hp7:=PG.put hE (y:=x) HP6.out H00.out hx
      clear hk hp hR hx HPG
      go_upto_region 7 with fail
      obtain ⟨w7,hw7⟩ : ∃ w7,(((w6.setCell ⟨w4.heap.size,0,none⟩ (.int .i64 x.k)).setCell ⟨w4.heap.size,1,none⟩ (.string x.t)).setCell ⟨w4.heap.size,2,none⟩ (.slice ax x.kids.len cx)) = w7:=⟨_,rfl⟩
      rw [hw7] at hp7 ⊢
      have HP7:=hid hp7
      have HR:=hid (show (Pa.ended fun e=>if e = true then .ret (if acc.isEmpty = true then x else mk 34 eB (acc ++ [x])) else .bad).run (E.l.drop j2) = some o by rw [HE0.out];exact H2.out)
      clear hp7 hw7 H2 HP6 n60 n61 n62 f60 f61 f62
      obtain ⟨ez,hez⟩ : ∃ ez,(E.l.drop j2).isEmpty = ez:=⟨_,rfl⟩
      have hed:=ended_calls hE HP7.out.ps
      rw [hez] at hed
      unfold pB at hed
      have HED:=hid hed
      have hl:=HR.out
      clear HR
      rw [run_ended,hez] at hl
      have HR:=hid hl
      clear hed hl hez
      go_wp2_with fail
      ((with_reducible refine HED.out.mono ?_);rintro e w8 ⟨rfl,hb⟩)
      have HP8:=hid (HP7.out.next hb)
      clear hb HED
      cases ez with
      | false =>
       have hl:=HR.out
       clear HR
       rw [if_no] at hl
       have hob : o = .bad (E.l.drop j2):=(Option.some.inj hl).symm
       have HOB:=hid hob
       have hf:=fail_calls HP8.out.ps
       unfold pB at hf
       have HFL:=hid hf
       clear hf hl hob
       go_wp2_with fail
       ((with_reducible refine HFL.out.mono ?_);rintro e w9 ⟨rfl,hb⟩)
       go_wp2_with fail
       rw [HOB.out]
       exact ⟨rfl,Kp.sb HP8.out.kp hb,j2,HP8.out.ps.le,rfl,rfl⟩
      | true =>
       have hl:=HR.out
       clear HR
       rw [if_yes] at hl
       simp only [HE0.out,Bool.false_eq_true,if_false] at hl
       have HR:=hid hl
       clear hl
       obtain rfl : o = .ok (E.l.drop j2) (mk 34 eB (acc ++ [x])):=(Option.some.inj HR.out).symm
       have n0:=HP8.out.nb.cell 0;have n1:=HP8.out.nb.cell 1;have n2:=HP8.out.nb.cell 2
       have hba : Below w8.heap.size w8 (w8.alloc (.cells (nV x ax cx) 32)):=(Below.refl _ _).alloc (Nat.le_refl _) _
       have HOWN:=hid ((HP8.out.own HOWN4.out).below hba);have HCE:=hid (cells_one (x:=x) (aw_below (HP8.out.aw HOWN4.out) hba));have HROW:=hid (Blk.new w8 32 (nV x ax cx))
       have HPA:=hid (HP8.out.ps.next hba);have HKA:=hid (Kp.sb HP8.out.kp hba);have HSA:=hid (show W.heap.size + 1 ≤ (w8.alloc (.cells (nV x ax cx) 32)).heap.size from Nat.le_trans (by have:=HP8.out.size;have:=HP8.out.nb.lt;omega) hba.size)
       have HBA:=hid (HP8.out.rb.own hba);have HMANY:=hid HGI.out.many
       clear hba
       go_wp2_with (at_builtin;refine wpList_append_nodes rfl _ _ rfl (W.heap.size + 1) j2 i acc [x] _ rfl HOWN.out (by have:=HMANY.out;have:=HNN.out;omega) (by simp) w8.heap.size [.int .i64 (x).k,.string (x).t,.slice ax (x).kids.len cx] rfl HROW.out HCE.out HSA.out HPA.out HKA.out (Nat.le_succ _) HNP.out H00.out ?_;intro v' w9 hgrew;obtain ⟨a9,c9,hv5⟩:=hgrew.own.slice;rw [show (acc ++ [x]).length = acc.length + 1 by simp] at hv5;subst hv5;have HG:=hid hgrew;clear hgrew)
       ((with_reducible refine (node_calls _ _ _ _ _ _).mono ?_);rintro e w10 ⟨rfl,hb⟩)
       have hrb:=(HG.out.blk _ _ _ HBA.out (Nat.lt_succ_self _)).own hb
       have hx2 : KidsAt (Fr (W.heap.size + 1) w10) w10 (mk 34 eB (acc ++ [x])).kids (.slice a9 (mk 34 eB (acc ++ [x])).kids.len c9):=by
        rw [show (mk 34 eB (acc ++ [x])).kids.len = acc.length + 1 from (Fo.ofL_len _).trans (by simp)]
        exact (HG.out.own.below hb).kids
       have hfin:=fin_node hE (x:=mk 34 eB (acc ++ [x])) H00.out (HG.out.ps.next hb) (Kp.sb HG.out.kp hb) (Nat.le_refl _) hrb hx2
       have rc0:=hrb.cell 0;have rf0:=hrb.frozen 0;have rc1:=hrb.cell 1;have rf1:=hrb.frozen 1;have rc2:=hrb.cell 2;have rf2:=hrb.frozen 2
       have hln : (mk 34 eB (acc ++ [x])).kids.len = acc.length + 1:=(Fo.ofL_len _).trans (by simp)
       have g0:=hfin.1.cell 0;have g1:=hfin.1.cell 1;have g2 : _ = some (Value.slice a9 (mk 34 eB (acc ++ [x])).kids.len c9):=hfin.1.cell 2
       have hF2:=hfin.2
       dsimp only [nV] at hF2
       rw [hln] at hF2 g0 g1 g2
       simp only [mk] at g0 g1 g2
       have HF:=hid hF2
       clear hfin hx2 hln hF2 hb hrb
       go_wp2_with fail
       refine bodyPost_ret (v:=.agg #[.int .i64 34,.string eB,.slice a9 (acc.length + 1) c9]) (by simp [results,Tryz.results45,go_sem,g0,g1,g2]) rfl ?_
       exact HF.out
end Go.Proofs.YtlklhkkjcfmefaaGreatDoor.pa
namespace Go.Proofs.YtlklhkkjcfmefaaGreatDoor.pa
open Go.Lib (hid)
open Go.RowKit nd pr sx ed
def exL (pe : Int → Pa Nd) (least : Int) : Nat → Nd → Int → Pa Nd
 | 0,_,_=>.out
 | n + 1,x,b=>.look fun t=>if 0 < levelOf (textOf t.1 t.2) ∧ levelOf (textOf t.1 t.2) = b then .bad else if levelOf (textOf t.1 t.2) = 0 ∨ levelOf (textOf t.1 t.2) < least then .ret x
   else .move ((pe (besideOf (textOf t.1 t.2) 2)).bind fun y=>exL pe least n (mk 24 (textOf t.1 t.2) [x,y]) (barredOf (textOf t.1 t.2)))
theorem lv_eB : levelOf eB = 0:=by decide +kernel
theorem bd_eB : barredOf eB = 0:=by decide +kernel
theorem operV_is (s : ByteArray) : ∃ lv rt bd : Int,operV s = .agg #[.int .i64 lv,.int .i64 rt,.int .i64 bd] ∧ lv = levelOf s ∧ bd = barredOf s ∧ (0 < lv → rt = besideOf s 2):=by
 unfold operV
 by_cases h : s.size = 0
 ·rw [if_pos h]
  have e : s = eB:=by
   apply ByteArray.ext
   exact Array.eq_empty_of_size_eq_zero h
  subst e
  exact ⟨0,0,0,rfl,lv_eB.symm,bd_eB.symm,fun h=>absurd h (by decide)⟩
 ·rw [if_neg h]
  exact ⟨_,_,_,rfl,rfl,rfl,fun _=>rfl⟩
theorem beside_pos {s : ByteArray} (h : 1 ≤ levelOf s) : 1 ≤ besideOf s 2:=by unfold besideOf;split <;> omega
theorem text_is {k : Int} {s : ByteArray} (h : 0 < levelOf (textOf k s)) : textOf k s = s ∧ (k = 13 ∨ k = 3):=by
 unfold textOf at h ⊢
 split at h
 ·rename_i e
  refine ⟨if_pos e,?_⟩
  have h1:=e.1
  unfold isKind at h1
  simpa using h1
 ·exact absurd h (by rw [lv_eB];decide)
theorem barred_ok {s : ByteArray} {least : Int} (h : least ≤ levelOf s) : barredOf s = 0 ∨ least ≤ barredOf s:=by
 unfold barredOf
 split
 ·exact .inr h
 ·exact .inl rfl
theorem exL_stop {pe : Int → Pa Nd} {least b : Int} {m : Nat} {x : Nd} {l : List Tk} {j : Nat} {o : Out Nd} {t : Tk} (h : (exL pe least m x b).run (l.drop j) = some o) (ht : tok (l.drop j) = t) (h1 : 1 ≤ least) (hb : b = 0 ∨ least ≤ b) (hl : ¬ least ≤ levelOf (textOf t.1 t.2)) : o = .ok (l.drop j) x:=by
 cases m with
 | zero=>cases h
 | succ m =>
  unfold exL at h
  rw [run_look,ht,if_neg (by omega),if_pos (by omega)] at h
  exact (Option.some.inj h).symm
theorem exL_bad {pe : Int → Pa Nd} {least b : Int} {m : Nat} {x : Nd} {l : List Tk} {j : Nat} {o : Out Nd} {t : Tk} (h : (exL pe least m x b).run (l.drop j) = some o) (ht : tok (l.drop j) = t) (h1 : 1 ≤ least) (hl : least ≤ levelOf (textOf t.1 t.2)) (hb : levelOf (textOf t.1 t.2) = b) : o = .bad (l.drop j):=by
 cases m with
 | zero=>cases h
 | succ m =>
  unfold exL at h
  rw [run_look,ht,if_pos ⟨by omega,hb⟩] at h
  exact (Option.some.inj h).symm
theorem exL_go {pe : Int → Pa Nd} {least b : Int} {m : Nat} {x : Nd} {l : List Tk} {j : Nat} {o : Out Nd} {t : Tk} (h : (exL pe least m x b).run (l.drop j) = some o) (ht : tok (l.drop j) = t) (h1 : 1 ≤ least) (hl : least ≤ levelOf (textOf t.1 t.2)) (hb : ¬ levelOf (textOf t.1 t.2) = b) :
  ∃ m' o1,(pe (besideOf (textOf t.1 t.2) 2)).run (l.drop (j + 1)) = some o1 ∧ match o1 with | .ok r y=>(exL pe least m' (mk 24 t.2 [x,y]) (barredOf (textOf t.1 t.2))).run r = some o | .bad r=>o = .bad r:=by
 cases m with
 | zero=>cases h
 | succ m =>
  have ht2:=(text_is (show 0 < levelOf (textOf t.1 t.2) by omega)).1
  unfold exL at h
  rw [run_look,ht,if_neg (fun e=>hb e.2),if_neg (by omega),run_move] at h
  obtain ⟨o1,h2,h3⟩:=bind_run h
  refine ⟨m,o1,h2,?_⟩
  cases o1 with
  | bad r=>exact (Option.some.inj h3).symm
  | ok r y=>dsimp only at h3 ⊢;rw [ht2] at h3 ⊢;exact h3
structure XI (E : Env) (W : World) (nb : Nat) (pe : Int → Pa Nd) (least : Int) (o : Out Nd) (vb vp : Value) (wr : World) (bd0 : Int) (ob : Nat) (x : Nd) (a : Option Addr) (c m j : Nat) (lv rt bd : Int) : Prop where
 ni : NI E W nb wr x a c j
 xob : Blk wr ob 160 #[.int .i64 lv,.int .i64 rt,.int .i64 bd]
 xvb : vb = .int .i64 bd0
 xvp : vp = .pointer (some ⟨ob,0,none⟩)
 apart : nb < ob
 xlv : lv = levelOf (textOf (tk E j).1 (tk E j).2)
 xbd : bd = barredOf (textOf (tk E j).1 (tk E j).2)
 xrt : 0 < lv → rt = besideOf (textOf (tk E j).1 (tk E j).2) 2
 bar : bd0 = 0 ∨ least ≤ bd0
 rest : (exL pe least m x bd0).run (E.l.drop j) = some o
structure XJ (E : Env) (W : World) (nb : Nat) (pe : Int → Pa Nd) (least : Int) (o : Out Nd) (wr : World) (j0 : Nat) (ob : Nat) (x : Nd) (a : Option Addr) (c m j : Nat) (lv rt bd : Int) : Prop where
 ni : NI E W nb wr x a c j
 xob : Blk wr ob 160 #[.int .i64 lv,.int .i64 rt,.int .i64 bd]
 rest : (exL pe least m x bd).run (E.l.drop j) = some o
 on : j0 + 1 ≤ j
theorem exp_tl {E : Env} (hE : EnvOk E) {q : Pa Nd} {pe : Int → Pa Nd} (hq : Tl E q RN 186 #[pB E]) (he : ∀ m,1 ≤ m → Tl E (pe m) RN 158 #[pB E,.int .i64 m]) (n : Nat) (least : Int) (hle : 1 ≤ least) : Tl E (q.bind fun x=>exL pe least n x 0) RN 158 #[pB E,.int .i64 least]:=by
 intro W i o hp hr
 have HE:=hid he;have HLE:=hid hle;clear he hle
 have HNP:=hid hp.far;have H00:=hid hp
 obtain ⟨W0,hW0⟩ : ∃ W0,W.alloc (.cells nodeZ 32) = W0:=⟨_,rfl⟩
 have hb0 : Below W.heap.size W W0:=by rw [← hW0];exact (Below.refl _ W).alloc (Nat.le_refl _) _
 have hk0 : Blk W0 W.heap.size 32 nodeZ:=by rw [← hW0];exact Blk.new W _ _
 have hs0 : W.heap.size + 1 ≤ W0.heap.size:=by rw [← hW0];simp
 have HW0:=hid hW0;have HK0:=hid (Kp.of_below (E:=E) hb0);have HP0:=hid (hp.next hb0);have HS0:=hid hs0;have HR0:=hid hr
 have HBr0:=hid hk0
 clear hW0 hb0 hk0 hs0 hp hr
 unfold pB
 go_enter Tryz.func158,Tryz.ntmps158
 go_upto_region 1 with fail
 rw [HW0.out]
 obtain ⟨o1,h1,hr1⟩:=bind_run HR0.out
 have hcall:=Tl.at hq HP0.out h1
 have HC:=hid hcall;have HR1:=hid hr1
 clear hcall h1 hr1 HR0 HP0
 unfold pB at HC
 try unfold methV at HC
 go_wp2_with fail
 ((with_reducible refine HC.out.mono ?_);rintro e w1 ⟨hk,hm⟩)
 clear HC
 rcases o1 with ⟨r1,x1⟩ | ⟨r1⟩
 rotate_left
 ·obtain ⟨j,hj,hd,rfl⟩:=hm
  obtain rfl : o = .bad r1:=(Option.some.inj HR1.out).symm
  exact ⟨rfl,Kp.tr HK0.out hk,j,hj,hd,rfl⟩
 obtain ⟨v1,j1,rfl,hp,rfl,hR⟩:=hm
 have HK1:=hid (Kp.tr HK0.out hk)
 have HS1:=hid (show (W.heap.size + 1) ≤ w1.heap.size from Nat.le_trans HS0.out (hk).size)
 have HBr1:=hid (Kp.blk' (n:=W.heap.size) HBr0.out hk HNP.out (Nat.le_refl _))
 have HP1:=hid hp
 obtain ⟨ax,cx,rfl,hx⟩:=kids_new (n:=(W.heap.size + 1)) hR HS0.out
 have HXx1:=hid hx
 clear hk hp hR hx
 have hl:=HR1.out
 clear HR1
 dsimp only at hl
 have HR1:=hid hl
 clear hl
 clear HK0 HS0 HBr0
 go_upto_region 2 with fail
 obtain ⟨w2,hw⟩ : ∃ w',w1.alloc (.cells (nV x1 ax cx) 32) = w':=⟨_,rfl⟩
 rw [hw]
 have hb : Below w1.heap.size w1 w2:=by rw [← hw];exact (Below.refl _ _).alloc (Nat.le_refl _) _
 have hni : NI E W w1.heap.size w2 x1 ax cx j1:=⟨HP1.out.next hb,Kp.sb HK1.out hb,HBr1.out.own hb,by rw [← hw];exact Blk.new _ _ _,an_first HXx1.out hb,HS1.out⟩
 clear hb hw
 obtain ⟨nb,hnb⟩ : ∃ nb,w1.heap.size = nb:=⟨_,rfl⟩
 rw [hnb] at hni ⊢
 have HNI:=hid hni
 have hoc:=oper_calls hE hni.ps
 obtain ⟨lv,rt,bd,hop,hlv,hbd,hrt⟩:=operV_is (textOf (tk E j1).1 (tk E j1).2)
 rw [hop] at hoc
 unfold pB at hoc
 have HO:=hid hoc;have HLV:=hid hlv;have HBD:=hid hbd;have HRT:=hid hrt
 clear hoc hlv hbd hrt hop hni HK1 HS1 HP1 HBr1 HXx1 HW0 hnb
 go_wp2_with fail
 ((with_reducible refine HO.out.mono ?_);rintro e w3 ⟨rfl,hk,hp⟩)
 have hni3:=HNI.out.go HNP.out hk hp
 have hba : Below w3.heap.size w3 (w3.alloc (.cells #[.int .i64 lv,.int .i64 rt,.int .i64 bd] 160)):=(Below.refl _ _).alloc (Nat.le_refl _) _
 have hxi : XI E W nb pe least o (.int .i64 0) (.pointer (some ⟨w3.heap.size,0,none⟩)) (w3.alloc (.cells #[.int .i64 lv,.int .i64 rt,.int .i64 bd] 160)) 0 w3.heap.size x1 ax cx n j1 lv rt bd :=
  ⟨hni3.next hba,Blk.new _ _ _,rfl,rfl,hni3.nb.lt,HLV.out,HBD.out,HRT.out,.inl rfl,HR1.out⟩
 have HXI:=hid hxi
 clear hni3 hba hxi hk hp HO HLV HBD HRT HR1 HNI
 go_wp2_with fail
 go_loopw [6,7] (fun vb vp wr=>∃ bd0 ob x a c m j lv rt bd,XI E W nb pe least o vb vp wr bd0 ob x a c m j lv rt bd) (fun _ _ wr=>E.l.length + 1 - placeOf wr E.B)
 case atStart=>exact ⟨_,_,_,_,_,_,_,_,_,_,HXI.out⟩
 case round =>
  clear HXI
  obtain ⟨bd0,ob,x,a,c,m,j,lv,rt,bd,hxi⟩:=hrel
  obtain rfl:=hxi.xvb
  obtain rfl:=hxi.xvp
  have hpl:=hxi.ni.ps.place
  have HPL:=hid hpl
  clear hpl
  have b0:=hxi.xob.cell 0;have b1:=hxi.xob.cell 1;have b2:=hxi.xob.cell 2
  have HXI:=hid hxi
  clear hxi
  by_cases hl : least ≤ lv
  rotate_left
  ·have hd : decide (least ≤ lv) = false:=decide_eq_false hl
   have ho:=exL_stop HXI.out.rest rfl HLE.out HXI.out.bar (by rw [← show lv = levelOf (textOf (tok (E.l.drop j)).1 (tok (E.l.drop j)).2) from HXI.out.xlv];exact hl)
   have HOO:=hid ho
   have n0:=HXI.out.ni.nb.cell 0;have n1:=HXI.out.ni.nb.cell 1;have n2:=HXI.out.ni.nb.cell 2
   have rc0:=HXI.out.ni.rb.cell 0;have rf0:=HXI.out.ni.rb.frozen 0;have rc1:=HXI.out.ni.rb.cell 1;have rf1:=HXI.out.ni.rb.frozen 1;have rc2:=HXI.out.ni.rb.cell 2;have rf2:=HXI.out.ni.rb.frozen 2
   have hfin:=fin_node hE H00.out HXI.out.ni.ps HXI.out.ni.kp (Nat.le_refl _) HXI.out.ni.rb (an_fr HXI.out.ni.kids)
   have g0:=hfin.1.cell 0;have g1:=hfin.1.cell 1;have g2:=hfin.1.cell 2
   have HF:=hid hfin.2
   clear hfin ho hl
   go_wp2_with fail
   refine bodyPost_ret (v:=.agg (nV x a c)) (by simp [results,Tryz.results158,go_sem,g0,g1,g2]) rfl ?_
   rw [HOO.out]
   exact HF.out
  have hd : decide (least ≤ lv) = true:=decide_eq_true hl
  have HL:=hid hl
  clear hl
  by_cases he : lv = bd0
  ·subst he
   have ho:=exL_bad HXI.out.rest rfl HLE.out (by rw [← show lv = levelOf (textOf (tok (E.l.drop j)).1 (tok (E.l.drop j)).2) from HXI.out.xlv];exact HL.out) (by rw [← show lv = levelOf (textOf (tok (E.l.drop j)).1 (tok (E.l.drop j)).2) from HXI.out.xlv])
   have hf:=fail_calls HXI.out.ni.ps
   unfold pB at hf
   have HF:=hid hf;have HOO:=hid ho
   clear hf ho
   go_wp2_with fail
   ((with_reducible refine HF.out.mono ?_);rintro e w4 ⟨rfl,hb⟩)
   go_wp2_with fail
   rw [HOO.out]
   exact ⟨rfl,Kp.sb HXI.out.ni.kp hb,j,HXI.out.ni.ps.le,rfl,rfl⟩
  have hd2 : (lv == bd0) = false:=by simpa using he
  obtain ⟨m',o1,h1,h2⟩:=exL_go HXI.out.rest rfl HLE.out (by rw [← show lv = levelOf (textOf (tok (E.l.drop j)).1 (tok (E.l.drop j)).2) from HXI.out.xlv];exact HL.out) (by rw [← show lv = levelOf (textOf (tok (E.l.drop j)).1 (tok (E.l.drop j)).2) from HXI.out.xlv];exact he)
  have hlp : 0 < lv:=by have:=HL.out;have:=HLE.out;omega
  rw [show besideOf (textOf (tok (E.l.drop j)).1 (tok (E.l.drop j)).2) 2 = rt from (HXI.out.xrt hlp).symm] at h1
  have hrt1 : 1 ≤ rt:=by rw [HXI.out.xrt hlp];exact beside_pos (by rw [← HXI.out.xlv];omega)
  have hbd : barredOf (textOf (tok (E.l.drop j)).1 (tok (E.l.drop j)).2) = bd:=HXI.out.xbd.symm
  rw [hbd] at h2
  have hbar : bd = 0 ∨ least ≤ bd:=by rw [HXI.out.xbd];exact barred_ok (by rw [← HXI.out.xlv];exact HL.out)
  have hk13:=(text_is (show 0 < levelOf (textOf (tk E j).1 (tk E j).2) by rw [← HXI.out.xlv];exact hlp)).2
  obtain ⟨t,ht⟩ : ∃ t,tk E j = t:=⟨_,rfl⟩
  rw [show tok (E.l.drop j) = t from ht] at h2
  rw [ht] at hk13
  have hlt : j < E.l.length:=tok_lt ht (by rcases hk13 with e | e <;> rw [e] <;> decide)
  have HTKF:=hid (fun W' (hb : Below wr.heap.size wr W')=>take_calls hE (HXI.out.ni.ps.next hb) hlt)
  have htk:=HTKF.out
  clear HTKF
  rw [ht] at htk
  unfold pB at htk
  have HTK:=hid htk;have H1:=hid h1;have H2:=hid h2;have HLT:=hid hlt;have HBAR:=hid hbar
  have HCE:=hid (fun (W' : World) (hp : Ps E W' (j + 1))=>Tl.at (HE.out rt hrt1) hp H1.out)
  clear htk h1 h2 hlt hlp hrt1 hbd hbar hk13 ht he
  unfold pB at HCE
  go_upto_region 8 with fail
  clear hd hd2 b0 b1 b2
  go_cut [25] from 24 to 32 (fun s wx=>∃ y a' c' j',XJ E W nb pe least o wx j ob y a' c' m' j' lv rt bd)
  case first =>
   have hdr:=(Below.refl wr.heap.size wr).drew
   have HD:=hid hdr
   have HN1:=hid (HXI.out.ni.next hdr);have HO1:=hid (HXI.out.xob.own hdr)
   have HAP:=hid HXI.out.apart;have HGE:=hid HXI.out.ni.ge
   have o10:=HO1.out.cell 0;have o11:=HO1.out.cell 1;have o12:=HO1.out.cell 2
   have n0:=HN1.out.nb.cell 0;have n1:=HN1.out.nb.cell 1;have n2:=HN1.out.nb.cell 2
   have hne : nb ≠ ob:=by have:=HAP.out;omega
   clear hdr HXI
   go_region_with
    (first
     | (go_at_call 122;(with_reducible refine (HTK.out _ HD.out).mono ?_);rintro e w2 ⟨rfl,hk,hp⟩;have HN2:=hid (HN1.out.go HNP.out hk hp);have HO2:=hid (Kp.blk' (n:=W.heap.size) HO1.out hk HNP.out (by have:=HAP.out;have:=HGE.out;omega));have n20:=HN2.out.nb.cell 0;have n21:=HN2.out.nb.cell 1;have n22:=HN2.out.nb.cell 2;have o20:=HO2.out.cell 0;have o21:=HO2.out.cell 1;have o22:=HO2.out.cell 2;clear hk hp)
     | (go_at_call 158;(with_reducible refine (HCE.out _ HN2.out.ps).mono ?_);rintro e w3 ⟨hk,hm⟩;rcases o1 with ⟨r1,y⟩ | ⟨r1⟩;rotate_left;(obtain ⟨j2,hj,hd,rfl⟩:=hm;obtain rfl : o = .bad r1:=H2.out;exact ⟨rfl,Kp.tr HN2.out.kp hk,j2,hj,hd,rfl⟩);obtain ⟨v2,j2,rfl,hp,rfl,hR⟩:=hm;obtain ⟨ay,cy,rfl,hy⟩:=an_new hR HN2.out.sz HN2.out.nb.lt;have HN3:=hid (HN2.out.go HNP.out hk hp);have HO3:=hid (Kp.blk' (n:=W.heap.size) HO2.out hk HNP.out (by have:=HAP.out;have:=HGE.out;omega));have HY:=hid hy;have n30:=HN3.out.nb.cell 0;have n31:=HN3.out.nb.cell 1;have n32:=HN3.out.nb.cell 2;have o30:=HO3.out.cell 0;have o31:=HO3.out.cell 1;have o32:=HO3.out.cell 2;have HJ:=hid (drop_le HN2.out.ps.le HN3.out.ps.le (Pa.shorter _ H1.out));clear hk hp hR hy)
     | (go_at_call 85;(with_reducible refine (node_calls _ _ _ _ _ _).mono ?_);rintro e w4 ⟨rfl,hbn⟩;have hrow:=Blk.new w3 32 #[.int .i64 x.k,.string x.t,.slice a x.kids.len c,.int .i64 y.k,.string y.t,.slice ay y.kids.len cy];have hba : Below w3.heap.size w3 (w3.alloc (.cells #[.int .i64 x.k,.string x.t,.slice a x.kids.len c,.int .i64 y.k,.string y.t,.slice ay y.kids.len cy] 32)):=(Below.refl _ _).alloc (Nat.le_refl _) _;have hb:=hba.trans (hbn.mono hba.size);have hrw:=hrow.own hbn;have HN4:=hid (HN3.out.next hb);have HO4:=hid (HO3.out.own hb);have hkk:=an_row2 HN4.out.kids (an_below HY.out hb) hrw HN3.out.sz (by have:=HN3.out.nb.lt;omega);have HKK:=hid hkk;have n40:=HN4.out.nb.cell 0;have n41:=HN4.out.nb.cell 1;have n42:=HN4.out.nb.cell 2;have f40:=HN4.out.nb.frozen 0;have f41:=HN4.out.nb.frozen 1;have f42:=HN4.out.nb.frozen 2;have o40:=HO4.out.cell 0;have o41:=HO4.out.cell 1;have o42:=HO4.out.cell 2;clear hrow hba hb hrw hkk hbn))
   all_goals go_wp2_with fail
   all_goals go_meet
   all_goals exact ⟨mk 24 t.2 [x,y],_,_,j2,NI.put hE (y:=mk 24 t.2 [x,y]) HN4.out H00.out HKK.out,(set3h (Ne.symm hne) _ _ _).trans HO4.out,H2.out,HJ.out⟩
  case rest =>
   obtain ⟨y,a',c',j',hxj⟩:=hcut
   have q0:=hxj.xob.cell 0;have q1:=hxj.xob.cell 1;have q2:=hxj.xob.cell 2
   have HXJ:=hid hxj
   clear hxj HXI HTK H1 H2 HCE
   go_upto_region 5 with fail
   obtain ⟨w5,hw⟩ : ∃ w',wc.alloc (.cells #[.int .i64 lv,.int .i64 rt,.int .i64 bd] 160) = w':=⟨_,rfl⟩
   rw [hw]
   have hb5 : Below wc.heap.size wc w5:=by rw [← hw];exact (Below.refl _ _).alloc (Nat.le_refl _) _
   have HB5:=hid hb5;have HN5:=hid (HXJ.out.ni.next hb5);have HBL5:=hid (show Blk w5 wc.heap.size 160 #[.int .i64 lv,.int .i64 rt,.int .i64 bd] by rw [← hw];exact Blk.new _ _ _)
   clear hb5 hw q0 q1 q2
   have hoc:=oper_calls hE HN5.out.ps
   obtain ⟨lv2,rt2,bd2,hop,hlv,hbd,hrt⟩:=operV_is (textOf (tk E j').1 (tk E j').2)
   rw [hop] at hoc
   unfold pB at hoc
   have HO:=hid hoc;have HLV:=hid hlv;have HBD:=hid hbd;have HRT:=hid hrt
   clear hoc hlv hbd hrt hop
   go_wp2_with fail
   ((with_reducible refine HO.out.mono ?_);rintro e w6 ⟨rfl,hk,hp⟩)
   have HN6:=hid (HN5.out.go HNP.out hk hp)
   have hbl6:=Kp.blk' (n:=W.heap.size) HBL5.out hk HNP.out (by have:=HXJ.out.ni.sz;omega)
   have p0:=hbl6.cell 0;have p1:=hbl6.cell 1;have p2:=hbl6.cell 2;have f0:=hbl6.frozen 0;have f1:=hbl6.frozen 1;have f2:=hbl6.frozen 2
   have HBL6:=hid hbl6
   have HSIDE:=hid (fun p q s=>NI.side hE HXJ.out.ni HN6.out H00.out (Nat.le_refl _) (Nat.le_trans HB5.out.size hk.size) (fun k h1 h2=>(hk.block k (Nat.lt_of_lt_of_le h1 HB5.out.size) (HNP.out k h2)).trans (HB5.out.block k h1)) p q s)
   clear hk hp hbl6 HO
   go_wp2_with fail
   have hsd:=HSIDE.out (.int .i64 lv2) (.int .i64 rt2) (.int .i64 bd2)
   refine ⟨⟨bd,_,y,a',c',m',j',lv2,rt2,bd2,hsd,set3b HBL6.out _ _ _,rfl,rfl,HXJ.out.ni.nb.lt,HLV.out,HBD.out,HRT.out,HBAR.out,HXJ.out.rest⟩,?_⟩
   rw [hsd.ps.place,HPL.out]
   have:=HXJ.out.on
   have:=HLT.out
   omega
end Go.Proofs.YtlklhkkjcfmefaaGreatDoor.pa
