/- Ground of the law: LxNext. -/
import Derived.Test.YtlklhkkjcfmefaaGreatDoorQe16
import Derived.Test.YtlklhkkjcfmefaaGreatDoorQe01
import Derived.Laws.EntriesVeiled
set_option maxRecDepth 100000
set_option maxHeartbeats 8000000
set_option linter.unusedVariables false
set_option linter.unusedSimpArgs false
namespace Go.Proofs.YtlklhkkjcfmefaaGreatDoor.lx
open Go.Lib (hid)
open Go.RowKit Go.Shelf
open sg (lst_len extract_drop ext_size)
open sx
abbrev tokV (k : Int) (t : ByteArray) : Value:=.agg #[.int .i64 k,.string t]
structure Ready (W : World) (Lb base : Nat) (rest : ByteArray) (x : Lx.Lex) (vO vC vI bv : Value) (bl : List (Nat × TypeId × Array Value)) : Prop where
 lex : LexV W Lb base rest x vO vC vI bv
 lie : Lie bl W
 ops : sg.OpsAt W
 hO : ShapesOn bl vO Lx.outside
 hC : ShapesOn bl vC Lx.closing
 hI : ShapesOn bl vI Lx.inside
 size : rest.size ≤ 65536
 deep : x.below.length ≤ 256
theorem Ready.own {W W' : World} {Lb base : Nat} {rest : ByteArray} {x : Lx.Lex} {vO vC vI bv : Value} {bl : List (Nat × TypeId × Array Value)} (h : Ready W Lb base rest x vO vC vI bv bl) (hb : Below W.heap.size W W') : Ready W' Lb base rest x vO vC vI bv bl :=
 ⟨h.lex.own hb,h.lie.own hb,h.ops.own hb,h.hO,h.hC,h.hI,h.size,h.deep⟩
theorem tried_length (x : Lx.Lex) : (Lx.tried x).length ≤ 10:=by
 unfold Lx.tried
 split
 ·decide
 ·split <;> decide
theorem find_here {sh : List Lx.Kd} {m : Nat} {k : Int} {f : List UInt8 → Nat} (h : sh[m]? = some (k,f)) (l : List UInt8) :
  Lx.find (sh.drop m) l = if f l = 0 then Lx.find (sh.drop (m + 1)) l else some (k,f l):=by
 have hm : m < sh.length:=(List.getElem?_eq_some_iff.1 h).1
 rw [List.drop_eq_getElem_cons hm]
 have e : sh[m] = (k,f):=by rw [List.getElem?_eq_getElem hm] at h;exact Option.some.inj h
 rw [e]
 rfl
theorem next_calls (Lb base : Nat) (rest : ByteArray) (x : Lx.Lex) (vO vC vI bv : Value) (bl : List (Nat × TypeId × Array Value)) (W : World) (h : Ready W Lb base rest x vO vC vI bv bl) (hbase : base ≤ W.heap.size) (e' : Int) (hn : Lx.next x rest.data.toList = .error e') :
  Calls Tryz.prog 97 #[ptr Lb] W fun e w'=>e = .returned (.tuple #[tokV 0 ⟨#[]⟩,.int .u16 e']) ∧ Below W.heap.size W w':=by
 obtain ⟨W1,hW1⟩ : ∃ W1,W.alloc (.cells #[.int .i64 0,.string ⟨#[]⟩] 49) = W1:=⟨_,rfl⟩
 have hB1 : Below W.heap.size W W1:=by rw [← hW1];exact (Below.refl _ W).alloc (Nat.le_refl _) _
 have hs1 : W1.heap.size = W.heap.size + 1:=by rw [← hW1];simp
 have hR : Blk W1 W.heap.size 49 #[.int .i64 0,.string ⟨#[]⟩]:=by rw [← hW1];exact Blk.new W _ _
 have h1:=h.own hB1
 have htr:=tried_calls Lb W1 base rest x vO vC vI bv h1.lex _ rfl
 obtain ⟨g,cap,cur,hv,hg,hsh⟩:=triedV_on x h1.hO h1.hC h1.hI
 rw [hv] at htr
 obtain ⟨sh,hshe⟩ : ∃ sh,Lx.tried x = sh:=⟨_,rfl⟩
 rw [hshe] at htr hsh hv
 have H1:=hid h1;have HB1:=hid hB1;have HS:=hid hs1;have HR:=hid hR;have HSH:=hid hsh;have HE:=hid hshe;have HG:=hid hg
 have h10:=tried_length x
 rw [HE.out] at h10
 obtain ⟨n,hnn⟩ : ∃ n,sh.length = n:=⟨_,rfl⟩
 rw [hnn] at h10
 have HN:=hid hnn
 rw [hnn] at htr
 clear h1 hB1 hs1 hR hsh hshe h hv hg hnn
 go_enter Tryz.func97,Tryz.ntmps97
 go_wp2_with fail
 ((with_reducible refine htr.mono ?_);rintro e w1 ⟨rfl,rfl⟩)
 clear hW1
 go_wp2_with fail
 go_loopw [12] (fun i wr=>∃ m : Nat,i = .int .i64 (m : Int) ∧ m ≤ n ∧ Lx.find (sh.drop m) rest.data.toList = Lx.find sh rest.data.toList ∧ Below w1.heap.size w1 wr) (fun i _=>n - (intOf i).toNat)
 case atStart=>exact ⟨0,rfl,Nat.zero_le _,by simp,Below.refl _ _⟩
 case round =>
  obtain ⟨m,rfl,hm,hf,hb⟩:=hrel
  by_cases hlt : m < n
  ·obtain ⟨k,f,hmf⟩ : ∃ k f,sh[m]? = some (k,f):=by
    have : m < sh.length:=by rw [HN.out];exact hlt
    exact ⟨sh[m].1,sh[m].2,by rw [List.getElem?_eq_getElem this]⟩
   obtain ⟨u,a1,a2,a3⟩:=HSH.out m k f hmf
   obtain ⟨gg,lb,rfl,hen,hsz⟩:=a3
   have hgb:=(H1.out.lie _ HG.out).own hb
   have c0 : wr.cell? ⟨g,m * 2,none⟩ = some (.int .i64 k):=by have:=hgb.cell (2 * m);rw [show m * 2 = 2 * m by omega,this];exact a1
   have c1 : wr.cell? ⟨g,m * 2 + 1,none⟩ = some ((.func (.func gg) #[] lb)):=by have:=hgb.cell (2 * m + 1);rw [show m * 2 + 1 = 2 * m + 1 by omega,this];exact a2
   have hlt1 : (m : Int) < (n : Int):=by omega
   have hm0 : (0 : Int) ≤ (m : Int):=by omega
   obtain ⟨Wa,hWa⟩ : ∃ Wa,wr.alloc (.cells #[.int .i64 k,(.func (.func gg) #[] lb)] 143) = Wa:=⟨_,rfl⟩
   have hba : Below w1.heap.size w1 Wa:=by rw [← hWa];exact hb.alloc hb.size _
   have hS5 : Blk Wa wr.heap.size 143 #[.int .i64 k,(.func (.func gg) #[] lb)]:=by rw [← hWa];exact Blk.new wr _ _
   have hra:=H1.out.own hba
   have l0 : Wa.cell? ⟨Lb,0,none⟩ = some (.string rest):=hra.lex.1.cell 0
   have l5 : Wa.cell? ⟨wr.heap.size,1,none⟩ = some ((.func (.func gg) #[] lb)):=hS5.cell 1
   have H5:=hid hS5
   have L0:=fun y : ed.In Wa=>ed.In.cell l0 y
   have L5:=fun y : ed.In Wa=>ed.In.cell l5 y
   have hcall:=fun y : ed.In Wa=>hsz y.u (hra.ops.own y.h) (hra.lie.own y.h) rest hra.size
   have hff:=find_here hmf rest.data.toList
   obtain ⟨d,hd⟩ : ∃ d,f rest.data.toList = d:=⟨_,rfl⟩
   simp only [hd] at hcall hff
   have HC:=hid hcall
   have HF:=hid hf;have HFF:=hid hff;have HRA:=hid hra;have HBA:=hid hba
   clear hcall hf hff hra hba hgb a1 a2 hsz hS5 hd l0 l5
   go_wp2_with fail
   refine ed.wp_region_in (by kernel_rfl) (by kernel_rfl) ?_
   repeat (go_big_quiet_step (exact ed.Calls.in_of (HC.out _)))
   with_reducible refine wpQuiet_nil ?_
   rintro _ ⟨y,rfl⟩
   obtain ⟨Wb,hWb,hbb⟩ : ∃ Wb,y.u = Wb ∧ Below Wa.heap.size Wa Wb:=⟨_,rfl,y.h⟩
   rw [hWb]
   clear hWb HC L0 L5
   by_cases h0 : d = 0
   ·have t0 : ((d : Int) == 0) = true:=by rw [beq_iff_eq];omega
    have HX:=hid (show Lx.find (sh.drop (m + 1)) rest.data.toList = Lx.find sh rest.data.toList by rw [← HF.out,HFF.out,if_pos h0])
    have HY:=hid (HBA.out.trans (hbb.mono HBA.out.size))
    subst h0
    go_wp2_with fail
    go_roundw
    case rel=>exact ⟨m + 1,by go_num,by omega,HX.out,HY.out⟩
    case measure=>simp [intOf];omega
   ·have t0 : ((d : Int) == 0) = false:=by rw [beq_eq_false_iff_ne];omega
    have hfs : Lx.find (Lx.tried x) rest.data.toList = some (k,d):=by rw [HE.out,← HF.out,HFF.out,if_neg h0]
    have hle:=(Lx.find_le hfs).2
    rw [lst_len] at hle
    have hle1 : (d : Int) ≤ (rest.size : Int):=by omega
    have hd0 : (0 : Int) ≤ (d : Int):=by omega
    have hte : Lx.turn x k (rest.data.toList.take d) = .error e':=by
     unfold Lx.next at hn
     rw [hfs] at hn
     simp only at hn
     cases ht : Lx.turn x k (rest.data.toList.take d) with
     | error e2=>rw [ht] at hn;cases hn;rfl
     | ok y=>rw [ht] at hn;cases hn
    have hrb:=HRA.out.own hbb
    have l0 : Wb.cell? ⟨Lb,0,none⟩ = some (.string rest):=hrb.lex.1.cell 0
    have l5 : Wb.cell? ⟨wr.heap.size,0,none⟩ = some (.int .i64 k):=(H5.out.own hbb).cell 0
    have lb1 : Lb < Wb.heap.size:=hrb.lex.1.lt
    have lb2 : wr.heap.size < Wb.heap.size:=(H5.out.own hbb).lt
    have HRB:=hid hrb;have HTE:=hid hte
    clear hfs hte hrb
    go_wp2_with fail
    go_region
    obtain ⟨Wc,hWc⟩ : ∃ Wc,(Wb.alloc (.cells #[.int .i64 k,.string (rest.extract 0 d)] 49)).drew = Wc:=⟨_,rfl⟩
    have hbc : Below Wb.heap.size Wb Wc:=by rw [← hWc];exact ((Below.refl _ Wb).alloc (Nat.le_refl _) _).drew
    have hTc : Blk Wc Wb.heap.size 49 #[.int .i64 k,.string (rest.extract 0 d)]:=by rw [← hWc];exact Blk.new Wb _ _
    have t0' : Wc.cell? ⟨Wb.heap.size,0,none⟩ = some (.int .i64 k):=hTc.cell 0
    have t1' : Wc.cell? ⟨Wb.heap.size,1,none⟩ = some (.string (rest.extract 0 d)):=hTc.cell 1
    have hte2 : Lx.turn x k (rest.extract 0 d).data.toList = .error e':=by rw [extract_take];exact HTE.out
    obtain ⟨he21,htu⟩:=turn_err Lb k (rest.extract 0 d) Wc base rest x vO vC vI bv ((HRB.out.own hbc).lex) e' hte2
    have hRc : Blk Wc W.heap.size 49 #[.int .i64 0,.string ⟨#[]⟩]:=((HR.out.own HBA.out).own hbb).own hbc
    have hBc : Below W.heap.size W Wc:=HB1.out.trans ((HBA.out.trans ((hbb.mono HBA.out.size).trans (hbc.mono (Nat.le_trans HBA.out.size hbb.size)))).mono HB1.out.size)
    have HRC:=hid hRc;have HBC:=hid hBc
    clear hbc hTc hte2 hRc hBc l0 l5 HTE
    subst he21
    go_wp2_with fail
    ((with_reducible refine htu.mono ?_);rintro e w2 ⟨rfl,hb2⟩)
    have hR2:=HRC.out.own hb2
    have r0 : w2.cell? ⟨W.heap.size,0,none⟩ = some (.int .i64 0):=hR2.cell 0
    have r1 : w2.cell? ⟨W.heap.size,1,none⟩ = some (.string ⟨#[]⟩):=hR2.cell 1
    have q0:=hR2.frozen 0
    have q1:=hR2.frozen 1
    have HB2:=hid (HBC.out.trans (hb2.mono HBC.out.size))
    clear hR2 hb2
    go_wp2_with fail
    exact bodyPost_ret (v:=.tuple #[tokV 0 ⟨#[]⟩,.int .u16 21]) (by simp [results,Tryz.results97,go_sem,r0,r1]) rfl ⟨rfl,(HB2.out.setCell (p:=⟨W.heap.size,0,none⟩) (Nat.le_refl _) _).setCell (p:=⟨W.heap.size,1,none⟩) (Nat.le_refl _) _⟩
  ·obtain rfl : m = n:=by omega
   have hfs : Lx.find (Lx.tried x) rest.data.toList = none:=by
    rw [HE.out,← hf,← HN.out,List.drop_length];rfl
   have he : e' = if x.top.text then 12 else 11:=by
    unfold Lx.next at hn
    rw [hfs] at hn
    cases hn;rfl
   have hge : decide ((m : Int) < (m : Int)) = false:=by simp
   have hrw:=H1.out.own hb
   have l1 : wr.cell? ⟨Lb,1,none⟩ = some (.bool x.top.text):=hrw.lex.1.cell 1
   have hR2:=HR.out.own hb
   have r0 : wr.cell? ⟨W.heap.size,0,none⟩ = some (.int .i64 0):=hR2.cell 0
   have r1 : wr.cell? ⟨W.heap.size,1,none⟩ = some (.string ⟨#[]⟩):=hR2.cell 1
   have q0:=hR2.frozen 0
   have q1:=hR2.frozen 1
   have HB2:=hid (HB1.out.trans (hb.mono HB1.out.size))
   clear hR2 hb hrw hfs hf
   obtain ⟨tx,htx⟩ : ∃ tx,x.top.text = tx:=⟨_,rfl⟩
   rw [htx] at he l1
   cases tx with
   | true =>
    have he2 : e' = 12:=he
    clear he htx
    subst he2
    go_wp2_with fail
    exact bodyPost_ret (v:=.tuple #[tokV 0 ⟨#[]⟩,.int .u16 12]) (by simp [results,Tryz.results97,go_sem,r0,r1]) rfl ⟨rfl,(HB2.out.setCell (p:=⟨W.heap.size,0,none⟩) (Nat.le_refl _) _).setCell (p:=⟨W.heap.size,1,none⟩) (Nat.le_refl _) _⟩
   | false =>
    have he2 : e' = 11:=he
    clear he htx
    subst he2
    go_wp2_with fail
    exact bodyPost_ret (v:=.tuple #[tokV 0 ⟨#[]⟩,.int .u16 11]) (by simp [results,Tryz.results97,go_sem,r0,r1]) rfl ⟨rfl,(HB2.out.setCell (p:=⟨W.heap.size,0,none⟩) (Nat.le_refl _) _).setCell (p:=⟨W.heap.size,1,none⟩) (Nat.le_refl _) _⟩
theorem find_ten {x : Lx.Lex} {l : List UInt8} {k : Int} {n : Nat} (h : Lx.find (Lx.tried x) l = some (k,n)) : k = 10 → x.below ≠ []:=by
 intro hk
 subst hk
 obtain ⟨_,e,he,h1,_⟩:=Lx.find_some h
 unfold Lx.tried at he
 split at he
 ·exfalso
  simp only [Lx.inside,List.mem_cons,List.not_mem_nil,or_false] at he
  rcases he with rfl | rfl | rfl <;> revert h1 <;> decide
 ·split at he
  ·rename_i hp
   intro hb;rw [hb] at hp;simp at hp
  ·exfalso
   simp only [Lx.outside,List.mem_cons,List.not_mem_nil,or_false] at he
   rcases he with rfl | rfl | rfl | rfl | rfl | rfl | rfl | rfl | rfl <;> revert h1 <;> decide
theorem blk_types {W : World} {B : Nat} {t t' : TypeId} {v v' : Array Value} (h : Blk W B t v) (h' : Blk W B t' v') (hne : t ≠ t') : False:=by
 unfold Blk at h h'
 rw [h] at h'
 injection h' with h';injection h' with _ h2 _
 exact hne h2
theorem next_ok (Lb base : Nat) (rest : ByteArray) (x : Lx.Lex) (vO vC vI bv : Value) (bl : List (Nat × TypeId × Array Value)) (W : World) (h : Ready W Lb base rest x vO vC vI bv bl) (hbase : base ≤ W.heap.size) (k0 : Int) (d0 : Nat) (y0 : Lx.Lex) (hn : Lx.next x rest.data.toList = .ok (k0,d0,y0)) :
  Calls Tryz.prog 97 #[ptr Lb] W fun e w'=>e = .returned (.tuple #[tokV k0 (rest.extract 0 d0),.int .u16 0]) ∧ Turned W Lb base (rest.extract d0 rest.size) y0 vO vC vI bv w':=by
 obtain ⟨W1,hW1⟩ : ∃ W1,W.alloc (.cells #[.int .i64 0,.string ⟨#[]⟩] 49) = W1:=⟨_,rfl⟩
 have hB1 : Below W.heap.size W W1:=by rw [← hW1];exact (Below.refl _ W).alloc (Nat.le_refl _) _
 have hs1 : W1.heap.size = W.heap.size + 1:=by rw [← hW1];simp
 have hR : Blk W1 W.heap.size 49 #[.int .i64 0,.string ⟨#[]⟩]:=by rw [← hW1];exact Blk.new W _ _
 have h1:=h.own hB1
 have htr:=tried_calls Lb W1 base rest x vO vC vI bv h1.lex _ rfl
 obtain ⟨g,cap,cur,hv,hg,hsh⟩:=triedV_on x h1.hO h1.hC h1.hI
 rw [hv] at htr
 obtain ⟨sh,hshe⟩ : ∃ sh,Lx.tried x = sh:=⟨_,rfl⟩
 rw [hshe] at htr hsh hv
 have H1:=hid h1;have HB1:=hid hB1;have HS:=hid hs1;have HR:=hid hR;have HSH:=hid hsh;have HE:=hid hshe;have HG:=hid hg
 have h10:=tried_length x
 rw [HE.out] at h10
 obtain ⟨n,hnn⟩ : ∃ n,sh.length = n:=⟨_,rfl⟩
 rw [hnn] at h10
 have HN:=hid hnn
 rw [hnn] at htr
 clear h1 hB1 hs1 hR hsh hshe h hv hg hnn
 go_enter Tryz.func97,Tryz.ntmps97
 go_wp2_with fail
 ((with_reducible refine htr.mono ?_);rintro e w1 ⟨rfl,rfl⟩)
 clear hW1
 go_wp2_with fail
 go_loopw [12] (fun i wr=>∃ m : Nat,i = .int .i64 (m : Int) ∧ m ≤ n ∧ Lx.find (sh.drop m) rest.data.toList = Lx.find sh rest.data.toList ∧ Below w1.heap.size w1 wr) (fun i _=>n - (intOf i).toNat)
 case atStart=>exact ⟨0,rfl,Nat.zero_le _,by simp,Below.refl _ _⟩
 case round =>
  obtain ⟨m,rfl,hm,hf,hb⟩:=hrel
  by_cases hlt : m < n
  ·obtain ⟨k,f,hmf⟩ : ∃ k f,sh[m]? = some (k,f):=by
    have : m < sh.length:=by rw [HN.out];exact hlt
    exact ⟨sh[m].1,sh[m].2,by rw [List.getElem?_eq_getElem this]⟩
   obtain ⟨u,a1,a2,a3⟩:=HSH.out m k f hmf
   obtain ⟨gg,lb,rfl,hen,hsz⟩:=a3
   have hgb:=(H1.out.lie _ HG.out).own hb
   have c0 : wr.cell? ⟨g,m * 2,none⟩ = some (.int .i64 k):=by have:=hgb.cell (2 * m);rw [show m * 2 = 2 * m by omega,this];exact a1
   have c1 : wr.cell? ⟨g,m * 2 + 1,none⟩ = some ((.func (.func gg) #[] lb)):=by have:=hgb.cell (2 * m + 1);rw [show m * 2 + 1 = 2 * m + 1 by omega,this];exact a2
   have hlt1 : (m : Int) < (n : Int):=by omega
   have hm0 : (0 : Int) ≤ (m : Int):=by omega
   obtain ⟨Wa,hWa⟩ : ∃ Wa,wr.alloc (.cells #[.int .i64 k,(.func (.func gg) #[] lb)] 143) = Wa:=⟨_,rfl⟩
   have hba : Below w1.heap.size w1 Wa:=by rw [← hWa];exact hb.alloc hb.size _
   have hS5 : Blk Wa wr.heap.size 143 #[.int .i64 k,(.func (.func gg) #[] lb)]:=by rw [← hWa];exact Blk.new wr _ _
   have hra:=H1.out.own hba
   have l0 : Wa.cell? ⟨Lb,0,none⟩ = some (.string rest):=hra.lex.1.cell 0
   have l5 : Wa.cell? ⟨wr.heap.size,1,none⟩ = some ((.func (.func gg) #[] lb)):=hS5.cell 1
   have H5:=hid hS5
   have L0:=fun y : ed.In Wa=>ed.In.cell l0 y
   have L5:=fun y : ed.In Wa=>ed.In.cell l5 y
   have hcall:=fun y : ed.In Wa=>hsz y.u (hra.ops.own y.h) (hra.lie.own y.h) rest hra.size
   have hff:=find_here hmf rest.data.toList
   obtain ⟨d,hd⟩ : ∃ d,f rest.data.toList = d:=⟨_,rfl⟩
   simp only [hd] at hcall hff
   have HC:=hid hcall
   have HF:=hid hf;have HFF:=hid hff;have HRA:=hid hra;have HBA:=hid hba
   clear hcall hf hff hra hba hgb a1 a2 hsz hS5 hd l0 l5
   go_wp2_with fail
   refine ed.wp_region_in (by kernel_rfl) (by kernel_rfl) ?_
   repeat (go_big_quiet_step (exact ed.Calls.in_of (HC.out _)))
   with_reducible refine wpQuiet_nil ?_
   rintro _ ⟨y,rfl⟩
   obtain ⟨Wb,hWb,hbb⟩ : ∃ Wb,y.u = Wb ∧ Below Wa.heap.size Wa Wb:=⟨_,rfl,y.h⟩
   rw [hWb]
   clear hWb HC L0 L5
   by_cases h0 : d = 0
   ·have t0 : ((d : Int) == 0) = true:=by rw [beq_iff_eq];omega
    have HX:=hid (show Lx.find (sh.drop (m + 1)) rest.data.toList = Lx.find sh rest.data.toList by rw [← HF.out,HFF.out,if_pos h0])
    have HY:=hid (HBA.out.trans (hbb.mono HBA.out.size))
    subst h0
    go_wp2_with fail
    go_roundw
    case rel=>exact ⟨m + 1,by go_num,by omega,HX.out,HY.out⟩
    case measure=>simp [intOf];omega
   ·have t0 : ((d : Int) == 0) = false:=by rw [beq_eq_false_iff_ne];omega
    have hfs : Lx.find (Lx.tried x) rest.data.toList = some (k,d):=by rw [HE.out,← HF.out,HFF.out,if_neg h0]
    have hle:=(Lx.find_le hfs).2
    rw [lst_len] at hle
    have hle1 : (d : Int) ≤ (rest.size : Int):=by omega
    have hd0 : (0 : Int) ≤ (d : Int):=by omega
    obtain ⟨rfl,rfl,hte⟩ : k = k0 ∧ d = d0 ∧ Lx.turn x k (rest.data.toList.take d) = .ok y0:=by
     unfold Lx.next at hn
     rw [hfs] at hn
     simp only at hn
     cases ht : Lx.turn x k (rest.data.toList.take d) with
     | error e2=>rw [ht] at hn;cases hn
     | ok y=>rw [ht] at hn;cases hn;exact ⟨rfl,rfl,rfl⟩
    have h10k:=find_ten hfs
    have hrb:=HRA.out.own hbb
    have l0 : Wb.cell? ⟨Lb,0,none⟩ = some (.string rest):=hrb.lex.1.cell 0
    have l5 : Wb.cell? ⟨wr.heap.size,0,none⟩ = some (.int .i64 k):=(H5.out.own hbb).cell 0
    have lb1 : Lb < Wb.heap.size:=hrb.lex.1.lt
    have lb2 : wr.heap.size < Wb.heap.size:=(H5.out.own hbb).lt
    have HRB:=hid hrb;have HTE:=hid hte
    clear hfs hte hrb
    go_wp2_with fail
    go_region
    obtain ⟨Wc,hWc⟩ : ∃ Wc,(Wb.alloc (.cells #[.int .i64 k,.string (rest.extract 0 d)] 49)).drew = Wc:=⟨_,rfl⟩
    have hbc : Below Wb.heap.size Wb Wc:=by rw [← hWc];exact ((Below.refl _ Wb).alloc (Nat.le_refl _) _).drew
    have hTc : Blk Wc Wb.heap.size 49 #[.int .i64 k,.string (rest.extract 0 d)]:=by rw [← hWc];exact Blk.new Wb _ _
    have t0' : Wc.cell? ⟨Wb.heap.size,0,none⟩ = some (.int .i64 k):=hTc.cell 0
    have t1' : Wc.cell? ⟨Wb.heap.size,1,none⟩ = some (.string (rest.extract 0 d)):=hTc.cell 1
    have hte2 : Lx.turn x k (rest.extract 0 d).data.toList = .ok y0:=by rw [extract_take];exact HTE.out
    have hrc:=HRB.out.own hbc
    have hbase2 : base ≤ Wc.heap.size:=by have:=HB1.out.size;have:=HBA.out.size;have:=hbb.size;have:=hbc.size;omega
    have htu:=turn_ok Lb k (rest.extract 0 d) Wc base rest x y0 vO vC vI bv hrc.lex hbase2 hrc.deep h10k hte2
    have hRc : Blk Wc W.heap.size 49 #[.int .i64 0,.string ⟨#[]⟩]:=((HR.out.own HBA.out).own hbb).own hbc
    have hBc : Below W.heap.size W Wc:=HB1.out.trans ((HBA.out.trans ((hbb.mono HBA.out.size).trans (hbc.mono (Nat.le_trans HBA.out.size hbb.size)))).mono HB1.out.size)
    have hn1 : ¬ SL Lb bv W.heap.size:=fun e=>by
     rcases e with e | e
     ·have:=hrc.lex.1;rw [← e] at this;exact blk_types this hRc (by decide)
     ·exact own_ne hrc.lex.2 hRc (by decide) e.symm
    have hn2 : ¬ SL Lb bv Wb.heap.size:=fun e=>by
     rcases e with e | e
     ·have:=hrc.lex.1;rw [← e] at this;exact blk_types this hTc (by decide)
     ·exact own_ne hrc.lex.2 hTc (by decide) e.symm
    have hRL : W.heap.size ≠ Lb:=fun e=>hn1 (.inl e)
    have hRT : W.heap.size ≠ Wb.heap.size:=by have:=HB1.out.size;have:=HBA.out.size;have:=(HR.out.own HBA.out).own hbb |>.lt;omega
    have HRC:=hid hRc;have HBC:=hid hBc;have HTC:=hid hTc;have HN1:=hid hn1;have HN2:=hid hn2;have HRL:=hid hRL;have HRT:=hid hRT
    clear hbc hTc hte2 hRc hBc l0 l5 HTE hn1 hn2 hrc
    go_wp2_with fail
    ((with_reducible refine htu.mono ?_);rintro e w2 ⟨rfl,bv',hlv,hbut⟩)
    have hR2:=HRC.out.but hbut HN1.out
    have hT2:=HTC.out.but hbut HN2.out
    have r0 : w2.cell? ⟨W.heap.size,0,none⟩ = some (.int .i64 0):=hR2.cell 0
    have r1 : w2.cell? ⟨W.heap.size,1,none⟩ = some (.string ⟨#[]⟩):=hR2.cell 1
    have q0:=hR2.frozen 0
    have q1:=hR2.frozen 1
    have s0 : w2.cell? ⟨Wb.heap.size,0,none⟩ = some (.int .i64 k):=hT2.cell 0
    have s1 : w2.cell? ⟨Wb.heap.size,1,none⟩ = some (.string (rest.extract 0 d)):=hT2.cell 1
    have l0 : w2.cell? ⟨Lb,0,none⟩ = some (.string rest):=hlv.1.cell 0
    have p0:=hlv.1.frozen 0
    have HLV:=hid hlv
    have HBU:=hid ((But.of_below (S:=SL Lb bv) HBC.out).trans (hbut.mono HBC.out.size (fun _ _ e=>e)))
    have HR2:=hid (own_ne hlv.2 hR2 (by decide))
    have HR3:=hid (own_ne hlv.2 hlv.1 (by decide))
    clear hR2 hT2 hlv hbut htu t0' t1'
    go_wp2_with fail
    refine bodyPost_ret (v:=.tuple #[tokV k (rest.extract 0 d),.int .u16 0]) (by simp [results,Tryz.results97,go_sem,r0,r1]) rfl ⟨rfl,bv',⟨((HLV.out.1.set (o:=0) _).other (Ne.symm HRL.out) _).other (Ne.symm HRL.out) _,?_⟩,?_⟩
    ·exact own_set (own_set (own_set HLV.out.2 HR3.out) HR2.out) HR2.out
    ·exact ((HBU.out.setCell (p:=⟨Lb,0,none⟩) (fun _=>.inl rfl) _).setCell (p:=⟨W.heap.size,0,none⟩) (fun e=>absurd e (Nat.lt_irrefl _)) _).setCell (p:=⟨W.heap.size,1,none⟩) (fun e=>absurd e (Nat.lt_irrefl _)) _
  ·obtain rfl : m = n:=by omega
   have hfs : Lx.find (Lx.tried x) rest.data.toList = none:=by
    rw [HE.out,← hf,← HN.out,List.drop_length];rfl
   unfold Lx.next at hn
   rw [hfs] at hn
   cases hn
end Go.Proofs.YtlklhkkjcfmefaaGreatDoor.lx
