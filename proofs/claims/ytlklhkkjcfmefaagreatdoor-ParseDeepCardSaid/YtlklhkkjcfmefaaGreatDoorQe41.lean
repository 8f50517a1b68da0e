/- Ground of the law: PaP38, PaLaw, PaKnown. -/
import Derived.Test.YtlklhkkjcfmefaaGreatDoorQe40
import Derived.Test.YtlklhkkjcfmefaaGreatDoorQe39
import Derived.Test.YtlklhkkjcfmefaaGreatDoorQe01
import Derived.Test.YtlklhkkjcfmefaaGreatDoorQe11
import Derived.Test.YtlklhkkjcfmefaaGreatDoorQe26
set_option maxRecDepth 100000
set_option maxHeartbeats 8000000
set_option linter.unusedVariables false
set_option linter.unusedSimpArgs false
namespace Go.Proofs.YtlklhkkjcfmefaaGreatDoor.pa
open Go.Lib (hid)
open Go.RowKit nd pr sx ed
open lx (asTk sizeT TokensTo tokensF tokCells TksAt)
open it (runsU itemCells NotesAt item_get)
theorem parse_at0 {l : List Tk} (h : (parse l).2.1 = 0) : (parse l).2.2 = 0:=by
 revert h
 unfold parse
 split
 ·intro h;cases h
 ·split
  ·intro _;rfl
  ·intro h;cases h
  ·intro h;cases h
theorem source_err {s : List UInt8} {chk er at' : Int} {l : List Lx.Tok} (h : tokensF s chk = (l,er,at')) (he : er ≠ 0) : ∃ k : Nat,at' = (k : Int) ∧ sourceP s chk = (none0,er,k):=by
 unfold tokensF at h
 unfold sourceP
 by_cases h1 : 65536 < s.length
 ·rw [if_pos h1] at h ⊢;cases h;exact ⟨0,rfl,rfl⟩
 ·rw [if_neg h1] at h ⊢
  by_cases h2 : 0 ≤ chk
  ·rw [if_pos h2] at h ⊢;cases h;exact ⟨chk.toNat,by omega,rfl⟩
  ·rw [if_neg h2] at h ⊢
   by_cases h3 : (Lx.lexA Lx.start s).2 = 0
   ·rw [if_pos h3] at h;cases h;exact absurd rfl he
   ·rw [if_neg h3] at h ⊢;cases h;exact ⟨_,rfl,rfl⟩
theorem source_ok {s : List UInt8} {chk at' : Int} {l : List Lx.Tok} (h : tokensF s chk = (l,0,at')) : s.length ≤ 65536 ∧ l = (Lx.lexA Lx.start s).1 ∧ sourceP s chk = itemsR (itemsP 0 l) s.length:=by
 unfold tokensF at h
 unfold sourceP
 by_cases h1 : 65536 < s.length
 ·rw [if_pos h1] at h;cases h
 ·rw [if_neg h1] at h ⊢
  by_cases h2 : 0 ≤ chk
  ·rw [if_pos h2] at h;cases h
  ·rw [if_neg h2] at h ⊢
   by_cases h3 : (Lx.lexA Lx.start s).2 = 0
   ·rw [if_pos h3] at h ⊢;cases h;exact ⟨by omega,rfl,rfl⟩
   ·rw [if_neg h3] at h;exact absurd (Prod.mk.inj (Prod.mk.inj h).2).1 h3
def SrcTo (s : ByteArray) (W : World) (e : Ending) (w' : World) : Prop:=Below W.heap.size W w' ∧ ∃ a c,e = .returned (.tuple #[.agg (nV (sourceP s.data.toList (utf.checkF s)).1 a c),.int .u16 (sourceP s.data.toList (utf.checkF s)).2.1,.int .i64 ((sourceP s.data.toList (utf.checkF s)).2.2 : Int)]) ∧
 KidsAt (Fr W.heap.size w') w' (sourceP s.data.toList (utf.checkF s)).1.kids (.slice a (sourceP s.data.toList (utf.checkF s)).1.kids.len c)
theorem SrcTo.of {s : ByteArray} {W w' : World} {e : Ending} {x : Nd} {er : Int} {k : Nat} (hp : sourceP s.data.toList (utf.checkF s) = (x,er,k)) (hb : Below W.heap.size W w') {a : Option Addr} {c : Nat} (he : e = .returned (.tuple #[.agg (nV x a c),.int .u16 er,.int .i64 (k : Int)])) (hk : KidsAt (Fr W.heap.size w') w' x.kids (.slice a x.kids.len c)) : SrcTo s W e w':=by
 unfold SrcTo
 rw [hp]
 exact ⟨hb,a,c,he,hk⟩
theorem srcItems_at {W : World} {base : Nat} {ov : Value} {l : List Lx.Tok} {nvs : List Value} (h : W.ownsRow base 62 4 ov (runsU (l.map asTk)).length (itemCells (runsU (l.map asTk)) nvs)) (hN : NotesAt base W (runsU (l.map asTk)) nvs) (hl : (itemsP 0 l).length ≤ maxLen) :
  ItemsAt (Lt W.heap.size) W ov ((itemsP 0 l).map (·.1)) ∧ RestAt W ov ((itemsP 0 l).map (·.1)) ∧ ∀ j x,(itemsP 0 l)[j]? = some x → ∃ g,base ≤ g ∧ W.cell? ⟨g,j * 4 + 2,none⟩ = some (.int .i64 (x.2 : Int)) ∧ ∃ cap,ov = .slice (some ⟨g,0,none⟩) (itemsP 0 l).length cap:=by
 have hlen : (itemsP 0 l).length = (runsU (l.map asTk)).length:=by rw [items_of,List.length_map]
 obtain ⟨ao,cap,rfl,hcap⟩:=it.own_len h
 have hget : ∀ j x,(itemsP 0 l)[j]? = some x → ∃ g nv,ao = some ⟨g,0,none⟩ ∧ g < W.heap.size ∧ W.cell? ⟨g,j * 4,none⟩ = some (.int .i64 x.1.1) ∧ W.cell? ⟨g,j * 4 + 1,none⟩ = some (.string x.1.2) ∧ W.cell? ⟨g,j * 4 + 2,none⟩ = some (.int .i64 (x.2 : Int)) ∧ ∃ a m c,nv = .slice a m c ∧ W.cell? ⟨g,j * 4 + 3,none⟩ = some nv:=by
  intro j x hx
  rw [items_of,List.getElem?_map] at hx
  cases hr : (runsU (l.map asTk))[j]? with
  | none=>rw [hr] at hx;cases hx
  | some r =>
   rw [hr] at hx
   obtain rfl:=Option.some.inj hx
   obtain ⟨g,nv,h1,h2,_,c0,c1,c2,c3,hrow⟩:=item_get (n:=0) h hN j r hr
   obtain ⟨a,m,hnv,_⟩:=it.own_len hrow
   exact ⟨g,nv,h1,h2,c0,c1,c2,a,_,m,hnv,c3⟩
 refine ⟨⟨ao,cap,by rw [List.length_map,hlen],by rw [List.length_map];exact hl,fun hne=>?_⟩,?_,fun j x hx=>?_⟩
 ·cases hL : itemsP 0 l with
  | nil=>rw [hL] at hne;exact absurd rfl hne
  | cons x r =>
   obtain ⟨g,nv,h1,h2,_⟩:=hget 0 x (by rw [hL];rfl)
   refine ⟨g,0,h1,h2,fun i t ht=>?_⟩
   rw [← hL,List.getElem?_map] at ht
   cases hx : (itemsP 0 l)[i]? with
   | none=>rw [hx] at ht;cases ht
   | some y =>
    rw [hx] at ht
    obtain rfl:=Option.some.inj ht
    obtain ⟨g',nv',h1',_,c0,c1,_⟩:=hget i y hx
    rw [h1] at h1'
    cases h1'
    exact ⟨by rw [Nat.zero_add];exact c0,by rw [Nat.zero_add];exact c1⟩
 ·intro g o cap' e i hi
  rw [List.length_map] at hi
  obtain ⟨g',nv',h1',_,_,_,c2,a,m,c,hnv,c3⟩:=hget i _ (List.getElem?_eq_getElem hi)
  rw [h1'] at e
  injection e with e1 e2 e3
  cases e1
  exact ⟨_,a,m,c,by rw [Nat.zero_add];exact c2,by rw [Nat.zero_add,← hnv];exact c3⟩
 ·obtain ⟨g,nv,h1,_,_,_,c2,_⟩:=hget j x hx
  refine ⟨g,?_,c2,cap,by rw [h1,hlen]⟩
  rcases h.2 with ⟨hn,h0⟩ | ⟨g',cap',cur,hv,h2,h3,h4⟩
  ·rw [h1] at hn;cases hn
  ·rw [h1] at hv;cases hv;exact h2
theorem lex_len (x : Lx.Lex) (l : List UInt8) : (Lx.lexA x l).1.length ≤ l.length:=by
 generalize hn : l.length = n
 induction n using Nat.strongRecOn generalizing l x with
 | ind n ih =>
  subst hn
  by_cases h0 : l = []
  ·subst h0;rw [Lx.lexA_nil];exact Nat.le_refl _
  ·cases hx : Lx.next x l with
   | error e=>rw [Lx.lexA_err hx h0];exact Nat.zero_le _
   | ok p =>
    obtain ⟨k,n,y⟩:=p
    have hl:=Lx.next_le hx
    obtain ⟨f,_,_,hn0⟩:=find_some (Lx.next_find hx).1
    have:=ih (l.drop n).length (by rw [List.length_drop];omega) y (l.drop n) rfl
    rw [Lx.lexA_ok hx h0,List.length_cons]
    rw [List.length_drop] at this
    omega
theorem itemsR_ok {L : List (Tk × Nat)} {z k : Nat} {x : Nd} (h : parse (L.map (·.1)) = (x,0,k)) : itemsR L z = (x,0,0):=by
 have h0 : (parse (L.map (·.1))).2.2 = 0:=parse_at0 (by rw [h])
 unfold itemsR
 rw [if_pos (by rw [h]),h]
 rw [h] at h0
 have h0 : k = 0:=h0
 rw [h0]
theorem itemsR_in {L : List (Tk × Nat)} {z k : Nat} {x : Nd} {er : Int} {y : Tk × Nat} (h : parse (L.map (·.1)) = (x,er,k)) (he : er ≠ 0) (hy : L[k]? = some y) : itemsR L z = (none0,er,y.2):=by
 unfold itemsR
 rw [if_neg (by rw [h];exact he),h]
 simp only [hy]
theorem itemsR_end {L : List (Tk × Nat)} {z k : Nat} {x : Nd} {er : Int} (h : parse (L.map (·.1)) = (x,er,k)) (he : er ≠ 0) (hy : L.length ≤ k) : itemsR L z = (none0,er,z):=by
 unfold itemsR
 rw [if_neg (by rw [h];exact he),h]
 simp only [List.getElem?_eq_none hy]
theorem src_sum (l : List Lx.Tok) : sizeT (l.map asTk) = Lx.size l:=by
 induction l with
 | nil=>rfl
 | cons t r ih =>
  have e : sizeT ((t :: r).map asTk) = (asTk t).2.size + sizeT (r.map asTk):=by
   show (((t :: r).map asTk).map (·.2.size)).sum = _
   rw [List.map_cons,List.map_cons,List.sum_cons];rfl
  have e2 : Lx.size (t :: r) = t.2.length + Lx.size r:=by
   show ((t :: r).map (·.2.length)).sum = _
   rw [List.map_cons,List.sum_cons];rfl
  rw [e,e2,ih]
  have : (asTk t).2.size = t.2.length:=by show t.2.toArray.size = _;rw [List.size_toArray]
  omega
theorem src_calls (s : ByteArray) (W : World) (hO : sg.OpsAt W) (hL : LvAt W) : Calls Tryz.prog 21 #[.string s] W (SrcTo s W):=by
 obtain ⟨W1,hW1⟩ : ∃ W1,W.alloc (.cells nodeZ 32) = W1:=⟨_,rfl⟩
 have hb1 : Below W.heap.size W W1:=by rw [← hW1];exact (Below.refl _ _).alloc (Nat.le_refl _) _
 have s1 : W1.heap.size = W.heap.size + 1:=by rw [← hW1];simp
 have k1 : Blk W1 W.heap.size 32 nodeZ:=by rw [← hW1];exact Blk.new W _ _
 have HLV:=hid (fun w (hb : Below W.heap.size W w)=>hL.own hb)
 have htk:=lx.tokens_calls s W1 (hO.own hb1)
 unfold TokensTo at htk
 obtain ⟨⟨l,er,at'⟩,hT⟩ : ∃ p,tokensF s.data.toList (utf.checkF s) = p:=⟨_,rfl⟩
 rw [hT] at htk
 dsimp only at htk
 have HTK:=hid htk;have HW1:=hid hW1;have S1:=hid s1;have K1:=hid k1;have HB1:=hid hb1
 clear htk hW1 s1 k1 hb1 hO hL
 by_cases he : er = 0
 ·subst he
  obtain ⟨hlen,rfl,hsrc⟩:=source_ok hT
  have hll:=lex_len Lx.start s.data.toList
  have hsz:=Lx.size_le Lx.start s.data.toList
  have hfit:=items_fit s.data.toList hlen
  obtain ⟨l,hl0⟩ : ∃ l,(Lx.lexA Lx.start s.data.toList).1 = l:=⟨_,rfl⟩
  rw [hl0] at hll hsz hfit hsrc HTK
  have hil:=items_len l 0
  have HLN:=hid (And.intro hlen (And.intro hll (And.intro hsz hil)))
  have HS:=hid hsrc;have HF:=hid hfit
  clear hsrc hT hl0 hfit hll hsz hil hlen
  go_enter Tryz.func21,Tryz.ntmps21
  go_upto_region 1 with fail
  rw [HW1.out]
  go_wp2_with fail
  ((with_reducible refine HTK.out.mono ?_);rintro e w1 ⟨v,rfl,ho,hb⟩)
  have HB2:=hid (HB1.out.trans (hb.mono HB1.out.size));have K2:=hid (K1.out.own hb)
  have hcap:=it.own_len ho
  obtain ⟨ao,cap,rfl,hcap⟩:=hcap
  have hit:=it.items_calls ao cap (l.map asTk) w1 (by rw [List.length_map];exact it.own_tks ho (by have:=HLN.out;unfold maxLen;omega)) (by rw [List.length_map];exact hcap) (by rw [src_sum];have:=HLN.out;omega) (by rw [List.length_map];have:=HLN.out;omega)
  rw [List.length_map] at hit
  have HIT:=hid hit
  clear hit ho hcap hb
  go_wp2_with fail
  ((with_reducible refine HIT.out.mono ?_);rintro e w2 ⟨nv,ov,nvs,rfl,_,hov,hnt,hb⟩)
  obtain ⟨hia,hra,hga⟩:=srcItems_at hov hnt (by have:=HLN.out;unfold maxLen;omega)
  have HB3:=hid (HB2.out.trans (hb.mono HB2.out.size));have K3:=hid (K2.out.own hb)
  have hpr:=program_calls _ _ w2 hia hra HF.out (by rw [List.length_map];have:=HLN.out;omega) (HLV.out w2 HB3.out)
  unfold ProgTo at hpr
  obtain ⟨⟨x,er,k⟩,hp⟩ : ∃ p,parse ((itemsP 0 l).map (·.1)) = p:=⟨_,rfl⟩
  rw [hp] at hpr
  dsimp only at hpr
  obtain ⟨ao2,cap2,hov2,_⟩:=hia.slice
  subst hov2
  rw [List.length_map] at hpr hga
  have HPR:=hid hpr;have HGA:=hid hga;have HP:=hid hp;have HOV:=hid (show ∀ j x,(itemsP 0 l)[j]? = some x → ∃ g,w1.heap.size ≤ g ∧ g < w2.heap.size ∧ ao2 = some ⟨g,0,none⟩ ∧ w2.cell? ⟨g,j * 4 + 2,none⟩ = some (.int .i64 (x.2 : Int)) from fun j x hx=>by
   obtain ⟨g,h0,h1,cap3,h2⟩:=hga j x hx
   injection h2 with h3
   exact ⟨g,h0,cell_lt h1,h3,h1⟩)
  clear hia hra hga hpr hp hov hnt hb
  go_wp2_with fail
  ((with_reducible refine HPR.out.mono ?_);rintro e w3 ⟨hb,a,c,rfl,hk⟩)
  have HB4:=hid (HB3.out.trans (hb.mono HB3.out.size));have K4:=hid (K3.out.own hb);have HK:=hid hk
  have HB34:=hid hb
  clear hb hk
  go_upto_region 6 with fail
  obtain ⟨w5,hw5⟩ : ∃ w5,w3.alloc (.cells (nV x a c) 32) = w5:=⟨_,rfl⟩
  rw [hw5]
  have hb5 : Below w3.heap.size w3 w5:=by rw [← hw5];exact (Below.refl _ _).alloc (Nat.le_refl _) _
  have n10 : Blk w5 w3.heap.size 32 (nV x a c):=by rw [← hw5];exact Blk.new w3 _ _
  have n1 : Blk w5 W.heap.size 32 nodeZ:=K4.out.own hb5
  have hk5 : KidsAt (Fr W.heap.size w5) w5 x.kids (.slice a x.kids.len c):=HK.out.keep (fun k e=>⟨Nat.le_trans HB3.out.size e.1,Nat.lt_of_lt_of_le e.2 hb5.size⟩) (fun k e=>hb5.block k e.2)
  have c0:=n1.cell 0;have c1:=n1.cell 1;have c2:=n1.cell 2;have z0:=n1.frozen 0;have z1:=n1.frozen 1;have z2:=n1.frozen 2
  have t0:=n10.cell 0;have t1:=n10.cell 1;have t2:=n10.cell 2
  have HB5:=hid (HB4.out.trans (hb5.mono HB4.out.size));have N1:=hid n1;have HK5:=hid hk5;have H25:=hid (HB34.out.trans (hb5.mono HB34.out.size))
  have hlt1 : W.heap.size < w2.heap.size:=K3.out.lt
  have HLT:=hid hlt1;have HKS:=hid hb5.size;have HKB:=hid (fun k (e : k < w3.heap.size)=>hb5.block k e)
  clear hw5 hb5 n10 n1 hk5 hlt1
  obtain ⟨n,hn⟩ : ∃ n,(itemsP 0 l).length = n:=⟨_,rfl⟩
  rw [hn]
  have HN:=hid hn
  clear hn
  by_cases he : er = 0
  ·subst he
   have hr:=itemsR_ok (z:=s.data.toList.length) HP.out
   have HR:=hid (HS.out.trans hr)
   have G:=hid (set3b N1.out (.int .i64 x.k) (.string x.t) (.slice a x.kids.len c))
   have HBL:=hid (HB5.out.trans (set3o (.int .i64 x.k) (.string x.t) (.slice a x.kids.len c) (Nat.le_refl W.heap.size)))
   have HX:=hid (show KidsAt (Fr W.heap.size (((w5.setCell ⟨W.heap.size,0,none⟩ (.int .i64 x.k)).setCell ⟨W.heap.size,1,none⟩ (.string x.t)).setCell ⟨W.heap.size,2,none⟩ (.slice a x.kids.len c))) (((w5.setCell ⟨W.heap.size,0,none⟩ (.int .i64 x.k)).setCell ⟨W.heap.size,1,none⟩ (.string x.t)).setCell ⟨W.heap.size,2,none⟩ (.slice a x.kids.len c)) x.kids (.slice a x.kids.len c) from
    HK.out.keep (fun k e=>⟨Nat.le_trans HB3.out.size e.1,by rw [size3];exact Nat.lt_of_lt_of_le e.2 (by have:=HKS.out;exact this)⟩) (fun k e=>(set3h (by have:=e.1;have:=HLT.out;omega) _ _ _).trans (HKB.out k e.2)))
   clear hr
   go_wp2_with fail
   have g0:=G.out.cell 0;have g1:=G.out.cell 1;have g2:=G.out.cell 2
   refine bodyPost_ret (v:=.tuple #[.agg (nV x a c),.int .u16 0,.int .i64 0]) (by simp [results,Tryz.results21,go_sem,g0,g1,g2]) rfl ?_
   exact SrcTo.of HR.out HBL.out rfl HX.out
  ·have hne : (er == 0) = false:=beq_eq_false_iff_ne.2 he
   have G:=hid (set3b N1.out (.int .i64 0) (.string ⟨#[]⟩) (.slice none 0 0))
   have HBL:=hid (HB5.out.trans (set3o (.int .i64 0) (.string ⟨#[]⟩) (.slice none 0 0) (Nat.le_refl W.heap.size)))
   by_cases hkn : k < n
   ·obtain ⟨y,hy⟩ : ∃ y,(itemsP 0 l)[k]? = some y:=⟨_,List.getElem?_eq_getElem (by rw [HN.out];exact hkn)⟩
    have HR:=hid (HS.out.trans (itemsR_in (z:=s.data.toList.length) HP.out he hy))
    obtain ⟨g,hgb,hg,rfl,hc⟩:=HOV.out k y hy
    have hc5 : w5.cell? ⟨g,k * 4 + 2,none⟩ = some (.int .i64 (y.2 : Int)):=(H25.out.cell (p:=⟨g,k * 4 + 2,none⟩) hg).trans hc
    have hc6 : (((w5.setCell ⟨W.heap.size,0,none⟩ (.int .i64 0)).setCell ⟨W.heap.size,1,none⟩ (.string ⟨#[]⟩)).setCell ⟨W.heap.size,2,none⟩ (.slice none 0 0)).cell? ⟨g,k * 4 + 2,none⟩ = some (.int .i64 (y.2 : Int)):=by
     rw [← hc5]
     have:=set3h (u:=w5) (B:=W.heap.size) (k:=g) (by have:=K2.out.lt;omega) (.int .i64 0) (.string ⟨#[]⟩) (.slice none 0 0)
     simp [World.cell?,this]
    have d1 : decide ((k : Int) < (n : Int)) = true:=decide_eq_true (by omega)
    have d2 : decide (k < n) = true:=decide_eq_true hkn
    have i1 : (0 : Int) ≤ (k : Int):=Int.natCast_nonneg _
    have i2 : (k : Int) < (n : Int):=by omega
    have i3 : ((k : Int)).toNat = k:=Int.toNat_natCast _
    clear hc hg hy hgb
    go_upto_region 9 with fail
    go_region
    go_wp2_with fail
    have g0:=G.out.cell 0;have g1:=G.out.cell 1;have g2:=G.out.cell 2
    refine bodyPost_ret (v:=.tuple #[.agg nodeZ,.int .u16 er,.int .i64 (y.2 : Int)]) (by simp [results,Tryz.results21,go_sem,g0,g1,g2]) rfl ?_
    exact SrcTo.of HR.out HBL.out.drew (a:=none) (c:=0) rfl (kids_nil _ _ _ _)
   ·have HR:=hid (HS.out.trans (itemsR_end (z:=s.data.toList.length) HP.out he (by rw [HN.out];omega)))
    have d1 : decide ((k : Int) < (n : Int)) = false:=decide_eq_false (by omega)
    have d2 : decide (k < n) = false:=decide_eq_false hkn
    have hss : s.data.toList.length = s.size:=by rw [Array.length_toList];rfl
    have HSS:=hid hss
    clear hss
    go_wp2_with fail
    have g0:=G.out.cell 0;have g1:=G.out.cell 1;have g2:=G.out.cell 2
    refine bodyPost_ret (v:=.tuple #[.agg nodeZ,.int .u16 er,.int .i64 (s.size : Int)]) (by simp [results,Tryz.results21,go_sem,g0,g1,g2]) rfl ?_
    refine SrcTo.of HR.out HBL.out (a:=none) (c:=0) ?_ (kids_nil _ _ _ _)
    rw [HSS.out];rfl
 ·obtain ⟨k,rfl,hsrc⟩:=source_err hT he
  have HS:=hid hsrc;have HE:=hid he
  have hne : (er == 0) = false:=beq_eq_false_iff_ne.2 he
  clear hsrc hT he
  go_enter Tryz.func21,Tryz.ntmps21
  go_upto_region 1 with fail
  rw [HW1.out]
  go_wp2_with fail
  ((with_reducible refine HTK.out.mono ?_);rintro e w1 ⟨v,rfl,ho,hb⟩)
  have n1 : Blk w1 W.heap.size 32 nodeZ:=K1.out.own hb
  have c0:=n1.cell 0;have c1:=n1.cell 1;have c2:=n1.cell 2;have z0:=n1.frozen 0;have z1:=n1.frozen 1;have z2:=n1.frozen 2
  have G:=hid (set3b n1 (.int .i64 0) (.string ⟨#[]⟩) (.slice none 0 0))
  have HBL:=hid ((HB1.out.trans (hb.mono HB1.out.size)).trans (set3o (.int .i64 0) (.string ⟨#[]⟩) (.slice none 0 0) (Nat.le_refl W.heap.size)))
  clear hb n1 ho
  go_wp2_with fail
  have g0:=G.out.cell 0;have g1:=G.out.cell 1;have g2:=G.out.cell 2
  refine bodyPost_ret (v:=.tuple #[.agg nodeZ,.int .u16 er,.int .i64 (k : Int)]) (by simp [results,Tryz.results21,go_sem,g0,g1,g2]) rfl ?_
  exact SrcTo.of HS.out HBL.out (a:=none) (c:=0) rfl (kids_nil _ _ _ _)
end Go.Proofs.YtlklhkkjcfmefaaGreatDoor.pa
namespace Go.Proofs.YtlklhkkjcfmefaaGreatDoor.pa
open Go.RowKit Go.ChangeShapes Go.WideShapes Go.ChangeAt Go.Deep Go.Shelf nd pr sx ed
open sg (OpsAt opsL)
def laid : List (String × DataW Unit):=[("unicode/utf8.acceptRanges",Rows.laid_unicode_utf8_acceptRanges),("subeditor/prec.levels",Rows.laid_subeditor_prec_levels),("subeditor/sign.operators",Rows.laid_subeditor_sign_operators),("unicode/utf8.first",Rows.laid_unicode_utf8_first)]
theorem lv_of_laid {W : World} (h : laidMetH Tryz.prog laid W) : LvAt W:=by
 rw [MakeChecks.laidMetH_plain _ _ _ (by kernel_rfl)] at h
 obtain ⟨ps,⟨_,_,_,_,_,_,_,_,_,_,⟨g,t,cs,fuel,p,q,hg,ht,hv,hd,_,_⟩,_⟩,_,_⟩:=h
 obtain rfl:=Option.some.inj ((show Tryz.prog.globalNamed "subeditor/prec.levels" = some 2 by kernel_rfl).symm.trans hg)
 obtain rfl:=Option.some.inj ((show (Tryz.prog.globals[2]?).map (·.type) = some 217 by kernel_rfl).symm.trans ht)
 obtain ⟨xs,n,_,ex,hcl,hl,hel⟩:=DataW.trod_array Tryz.underlying217 hd
 rw [show Tryz.prog.cellsOf 217 = 18 by kernel_rfl] at hcl
 have hcell : ∀ j v,cs.toList[j]? = some v → W.cell? ⟨2,j,none⟩ = some v:=by
  intro j v hj
  rw [World.var?_cell hg hv j]
  simpa using hj
 have key : ∀ m,m < 9 → LevAt W cs.toList m:=by
  intro m hm
  have hE:=hel m hm
  rw [cellsR,List.getElem?_eq_getElem (by omega : m < xs.length),two_of (by omega)] at hE
  have hxm : (xs[m]'(by omega)).1 = litRow m:=by
   rw [pr.laid_list] at ex
   have e3 : (xs.map (·.1)) = (List.range 9).map litRow:=(DataW.agg.inj (Prod.mk.inj ex).1).symm
   have e4 : (xs.map (·.1))[m]? = ((List.range 9).map litRow)[m]?:=by rw [e3]
   rw [List.getElem?_map,List.getElem?_map,List.getElem?_eq_getElem (by omega : m < xs.length),List.getElem?_eq_getElem (by simpa using hm)] at e4
   simpa using e4
  obtain ⟨a,ha⟩ : ∃ a,cs.toList[m * 2]'(by omega) = a:=⟨_,rfl⟩
  obtain ⟨b,hb⟩ : ∃ b,cs.toList[m * 2 + 1]'(by omega) = b:=⟨_,rfl⟩
  have ha' : cs.toList[m * 2]? = some a:=by rw [← ha];exact List.getElem?_eq_getElem _
  have hb' : cs.toList[m * 2 + 1]? = some b:=by rw [← hb];exact List.getElem?_eq_getElem _
  rw [ha,hb] at hE
  obtain ⟨ys,k,_,hxy,_,hyl,hfl⟩:=DataW.trod_struct Tryz.underlying216 hE
  match ys,hyl with
  | [y0,y1],_ =>
   have q0:=hfl 0 _ rfl
   have q1:=hfl 1 _ rfl
   simp [cellsI,cellsL] at q0 q1
   obtain ⟨n0,e0,r0,_⟩:=DataW.trod_int Tryz.underlying3 q0
   rw [hxy] at hxm
   unfold litRow at hxm
   simp only [List.map_cons,List.map_nil,DataW.agg.injEq,List.cons.injEq,and_true] at hxm
   obtain ⟨h1,h2⟩:=hxm
   rw [r0] at h1
   simp only [DataW.lit.injEq,Lit.int.injEq,true_and] at h1
   rcases open_slice1 Tryz.underlying42 cellsS q1 with ⟨hcs,hx⟩ | ⟨a',len,cap,mm,n',V,D,Pl,hcs,_,hle,hmx,hmm,hx,hall⟩
   ·rw [hx] at h2;simp at h2
   ·rw [hx] at h2
    simp only [DataW.slice.injEq] at h2
    have hlen : len = cnt m:=by have:=congrArg List.length h2.1;simpa using this
    subst hlen
    have hlm : cnt m ≤ mm:=by rw [hmm];split <;> omega
    have hD : ∀ k,k < cnt m → W.cell? (a'.add k) = some (.string (txt (strt m + k))):=by
     intro k hk
     obtain ⟨hc,ht⟩:=hall k (by omega)
     obtain ⟨z,e1,e2,_⟩:=DataW.trod_string Tryz.underlying9 ht
     have e3 : D k = .lit (.string (txt (strt m + k)).data.toList):=by
      have:=congrArg (fun l=>l[k]?) h2.1
      simpa [hk] using this
     have e4 : z.data.toList = (txt (strt m + k)).data.toList:=by
      have:=(Prod.mk.inj e2).1
      rw [e3] at this
      simpa using this.symm
     have e5 : z = txt (strt m + k):=ByteArray.ext (Array.ext' e4)
     rw [hc,List.cons.inj e1 |>.1,e5]
    have hc1:=(cnt_le m hm).2
    obtain ⟨g,o,spot⟩:=a'
    have hspot : spot = none:=by simpa [Addr.add] using World.cell?_spot (hD 0 (by omega))
    subst hspot
    refine ⟨?_,g,o,cap,?_,?_,fun k hk=>?_⟩
    ·rw [ha',(List.cons.inj e0).1,h1]
    ·rw [hb',(List.cons.inj hcs).1]
    ·have:=hD 0 (by omega)
     rw [add_plain] at this
     exact World.block_lt_of_cell? W _ this
    ·rw [← add_plain];exact hD k hk
 have hlt : 2 < W.heap.size:=World.block_lt_of_cell? W _ (hcell _ _ (key 0 (by omega)).side)
 exact ⟨hlt,cs.toList,hcl,fun j v hj=>by rw [Nat.zero_add];exact hcell j v hj,key⟩
theorem ops_of_laid {W : World} (h : laidMetH Tryz.prog laid W) : OpsAt W:=by
 rw [MakeChecks.laidMetH_plain _ _ _ (by kernel_rfl)] at h
 obtain ⟨ps,⟨_,_,_,_,_,_,_,_,_,_,⟨_,_,_,_,_,_,_,_,_,_,⟨g,t,cs,fuel,p,q,hg,ht,hv,hd,_,_⟩,_⟩,_⟩,_,_⟩:=h
 obtain rfl:=Option.some.inj ((show Tryz.prog.globalNamed "subeditor/sign.operators" = some 0 by kernel_rfl).symm.trans hg)
 obtain rfl:=Option.some.inj ((show (Tryz.prog.globals[0]?).map (·.type) = some 184 by kernel_rfl).symm.trans ht)
 obtain ⟨xs,m,_,ex,_,hl,hel⟩:=DataW.trod_array Tryz.underlying184 hd
 have c9 : Tryz.prog.cellsOf 9 = 1:=by kernel_rfl
 have hlen : Sg.opers.length = 34:=rfl
 have key : ∀ r,r < 34 → W.cell? ⟨0,r,none⟩ = some (.string ⟨(Sg.opers.getD r []).toArray⟩):=by
  intro r hr
  have hE:=hel r hr
  rw [c9,Nat.mul_one,List.getElem?_eq_getElem (by omega)] at hE
  obtain ⟨z,e1,e2,_⟩:=DataW.trod_string Tryz.underlying9 hE
  rw [lx.laid_list] at ex
  have e3 : (xs.map (·.1)) = Sg.opers.map fun l=>.lit (.string l):=(DataW.agg.inj (Prod.mk.inj ex).1).symm
  have e4 : (xs.map (·.1))[r]? = (Sg.opers.map fun l=>(DataW.lit (.string l) : DataW Unit))[r]?:=by rw [e3]
  rw [List.getElem?_map,List.getElem?_map,List.getElem?_eq_getElem (by omega : r < xs.length),List.getElem?_eq_getElem (by omega : r < Sg.opers.length),e2] at e4
  have hz : z.data.toList = Sg.opers.getD r []:=by
   simp only [Option.map_some,Option.some.injEq,DataW.lit.injEq,Lit.string.injEq] at e4
   rw [e4,List.getD,List.getElem?_eq_getElem (by omega : r < Sg.opers.length)];rfl
  have hz2 : z = ⟨(Sg.opers.getD r []).toArray⟩:=by rw [← hz,Lib.mk_data]
  rw [World.var?_cell hg hv r,← hz2]
  have : cs.toList[r]? = some (.string z):=by
   have h0 : ((cs.toList.drop r).take 1)[0]? = some (.string z):=by rw [e1];rfl
   simpa using h0
  simpa using this
 have hlt : 0 < W.heap.size:=by
  rcases Nat.lt_or_ge 0 W.heap.size with h0 | h0
  ·exact h0
  ·have:=key 0 (by decide)
   simp [World.cell?,Array.getElem?_eq_none h0] at this
 refine ⟨hlt,fun j v hj=>?_⟩
 by_cases hr : j < 34
 ·rw [lx.opsL_get hr] at hj
  rw [Nat.zero_add,key j hr];exact hj
 ·have : opsL.length = 34:=rfl
  rw [List.getElem?_eq_none (by omega)] at hj
  cases hj
structure Tb (W : World) : Prop where
 ops : OpsAt W
 lev : LvAt W
theorem Tb.own {W W' : World} (h : Tb W) (hb : Below W.heap.size W W') : Tb W':=⟨h.ops.own hb,h.lev.own hb⟩
theorem tb_of_laid {W : World} (h : laidMetH Tryz.prog laid W) : Tb W:=⟨ops_of_laid h,lv_of_laid h⟩
theorem laid_met (os : Os) (args : Array Value) : laidMetH Tryz.prog laid ((World.laidAll Tryz.prog os laid).forCall (fun _ _=>0) ⟨#[],args,[]⟩).memory:=by
 rw [MakeChecks.laidMetH_plain _ _ _ (by kernel_rfl)];exact laidMet_laidAll _ (by kernel_rfl) (by kernel_rfl)
theorem src_of {s : ByteArray} {r : Nd × Int × Nat} (hs : utf.checkF s = -1) (h : sourceP s.data.toList (-1) = r) (W : World) (hT : Tb W) : Calls Tryz.prog 21 #[.string s] W fun e w'=>Below W.heap.size W w' ∧ ∃ a c,e = .returned (.tuple #[.agg (nV r.1 a c),.int .u16 r.2.1,.int .i64 (r.2.2 : Int)]) ∧ KidsAt (Fr W.heap.size w') w' r.1.kids (.slice a r.1.kids.len c):=by
 have:=src_calls s W hT.ops hT.lev
 unfold SrcTo at this
 rw [hs,h] at this
 exact this
end Go.Proofs.YtlklhkkjcfmefaaGreatDoor.pa
namespace Go.Proofs.YtlklhkkjcfmefaaGreatDoor.pa
open Go.Lib (hid)
open Go.RowKit nd pr sx ed
theorem kid_get {x : Nd} {i : Nat} (h : i < x.kids.len) : x.kids.get? i = some (kid x i):=by
 obtain ⟨y,hy⟩:=Fo.get_of_lt h
 unfold kid
 rw [hy];rfl
def s1 : ByteArray:=⟨#[49,32,45,32,50,32,45,32,51]⟩
def s2 : ByteArray:=⟨#[49,32,61,61,32,50,32,61,61,32,51]⟩
theorem s1_utf : utf.checkF s1 = -1:=by decide +kernel
theorem s2_utf : utf.checkF s2 = -1:=by decide +kernel
theorem s1_facts : (sourceP s1.data.toList (-1)).2 = (0,0) ∧ (sourceP s1.data.toList (-1)).1.k = 24 ∧ (sourceP s1.data.toList (-1)).1.t = minus ∧ (sourceP s1.data.toList (-1)).1.kids.len = 2 ∧ (kid (sourceP s1.data.toList (-1)).1 0).k = 24 ∧ (kid (sourceP s1.data.toList (-1)).1 1).t = ⟨#[51]⟩:=by decide +kernel
theorem s2_facts : (sourceP s2.data.toList (-1)).2 = (22,7):=known_two
theorem known_one_calls (W : World) (hT : Tb W) : Calls Tryz.prog 21 #[.string s1] W fun e w'=>Below W.heap.size W w' ∧
  ∃ g o c,e = .returned (.tuple #[.agg #[.int .i64 24,.string minus,.slice (some ⟨g,o,none⟩) 2 c],.int .u16 0,.int .i64 0]) ∧ g < w'.heap.size ∧ w'.cell? ⟨g,o,none⟩ = some (.int .i64 24) ∧ w'.cell? ⟨g,o + 4,none⟩ = some (.string ⟨#[51]⟩):=by
 obtain ⟨h1,h2,h3,h4,h5,h6⟩:=s1_facts
 have g0:=kid_get (x:=(sourceP s1.data.toList (-1)).1) (i:=0) (by rw [h4];decide)
 have g1:=kid_get (x:=(sourceP s1.data.toList (-1)).1) (i:=1) (by rw [h4];decide)
 refine (src_of s1_utf rfl W hT).mono ?_
 rintro e w' ⟨hb,a,c,rfl,hk⟩
 obtain ⟨g,o,_,_,rfl,_,hg,c0,_⟩:=hk.get g0
 obtain ⟨g',o',_,_,e',_,_,_,c1,_⟩:=hk.get g1
 cases e'
 refine ⟨hb,g,o,c,?_,hg,?_,?_⟩
 ·rw [h1];unfold nV;rw [h2,h3,h4];rfl
 ·rw [h5] at c0;simpa using c0
 ·rw [h6] at c1;simpa using c1
theorem known_two_calls (W : World) (hT : Tb W) : Calls Tryz.prog 21 #[.string s2] W fun e w'=>Below W.heap.size W w' ∧
  ∃ k t a m c,e = .returned (.tuple #[.agg #[.int .i64 k,.string t,.slice a m c],.int .u16 22,.int .i64 7]):=by
 refine (src_of s2_utf rfl W hT).mono ?_
 rintro e w' ⟨hb,a,c,rfl,hk⟩
 exact ⟨hb,_,_,_,_,_,by rw [s2_facts];rfl⟩
theorem known_calls (w : World) (hT : Tb w) : Calls Tryz.prog 12 #[] w fun e w'=>e = .returned (.bool true) ∧ Below w.heap.size w w':=by
 have HT:=hid hT
 clear hT
 have hk1:=known_one_calls w HT.out
 unfold s1 at hk1
 go_enter Tryz.func12,Tryz.ntmps12
 go_wp2_with fail
 ((with_reducible refine hk1.mono ?_);rintro e w1 ⟨hb1,g,o,c,rfl,hg,c0,c1⟩)
 clear hk1
 go_upto_region 2 with fail
 obtain ⟨w2,hw2⟩ : ∃ w2,w1.alloc (.cells #[.int .i64 24,.string minus,.slice (some ⟨g,o,none⟩) 2 c] 32) = w2:=⟨_,rfl⟩
 rw [hw2]
 have hb2 : Below w1.heap.size w1 w2:=by rw [← hw2];exact (Below.refl _ _).alloc (Nat.le_refl _) _
 have n1 : Blk w2 w1.heap.size 32 #[.int .i64 24,.string minus,.slice (some ⟨g,o,none⟩) 2 c]:=by rw [← hw2];exact Blk.new w1 _ _
 have d0:=(hb2.cell (p:=⟨g,o,none⟩) hg).trans c0
 have d1:=(hb2.cell (p:=⟨g,o + 4,none⟩) hg).trans c1
 have hg2 : g < w2.heap.size:=Nat.lt_of_lt_of_le hg hb2.size
 have HB2:=hid (hb1.trans (hb2.mono hb1.size))
 have hk2:=known_two_calls w2 (HT.out.own HB2.out)
 unfold s2 at hk2
 clear hw2 hb1 hb2 c0 c1
 go_wp2_with fail
 ((with_reducible refine hk2.mono ?_);rintro e w3 ⟨hb3,k,t,a,m,c',rfl⟩)
 clear hk2
 go_upto_region 3 with fail
 obtain ⟨w4,hw4⟩ : ∃ w4,w3.alloc (.cells #[.int .i64 k,.string t,.slice a m c'] 32) = w4:=⟨_,rfl⟩
 rw [hw4]
 have hb4 : Below w3.heap.size w3 w4:=by rw [← hw4];exact (Below.refl _ _).alloc (Nat.le_refl _) _
 have hb24:=hb3.trans (hb4.mono hb3.size)
 have n2:=n1.own hb24
 have e0:=(hb24.cell (p:=⟨g,o,none⟩) hg2).trans d0
 have e1:=(hb24.cell (p:=⟨g,o + 4,none⟩) hg2).trans d1
 have a0:=n2.cell 0;have a1:=n2.cell 1;have a2:=n2.cell 2
 have HB4:=hid (HB2.out.trans (hb24.mono HB2.out.size))
 clear hw4 hb3 hb4 hb24 n1 n2 d0 d1 hg2
 go_wp2_with fail
 go_ret
 exact ⟨rfl,HB4.out⟩
end Go.Proofs.YtlklhkkjcfmefaaGreatDoor.pa
