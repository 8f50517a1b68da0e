/- Ground of the law: LxFns2, PaP1, LxFns3, PaP2. -/
import Derived.Test.YtlklhkkjcfmefaaGreatDoorQe11
import Derived.WalkLawsBesides
import Derived.Deep.QuietTactic
import Derived.Maps.AppendAt
import Derived.Test.YtlklhkkjcfmefaaGreatDoorQe03
import Derived.Test.YtlklhkkjcfmefaaGreatDoorQe00
set_option maxRecDepth 100000
set_option maxHeartbeats 8000000
set_option linter.unusedVariables false
set_option linter.unusedSimpArgs false
namespace Go.Proofs.YtlklhkkjcfmefaaGreatDoor.lx
open Go.Lib (hid)
open Go.RowKit Go.Shelf
open sg (lst_len extract_drop ext_size)
open sx
theorem extract_take (s : ByteArray) (k : Nat) : (s.extract 0 k).data.toList = s.data.toList.take k:=by rw [Lib.extract_data];simp
theorem ext_sz (s : ByteArray) (k : Nat) {m : Nat} (hs : s.size ≤ m) : (s.extract k s.size).size ≤ m:=by rw [ByteArray.size_extract];omega
theorem ext0_sz (s : ByteArray) (k : Nat) {m : Nat} (hs : s.size ≤ m) : (s.extract 0 k).size ≤ m:=by rw [ByteArray.size_extract];omega
theorem bare_calls (s : ByteArray) (hs : s.size ≤ 65536) (w : World) :
  Calls Tryz.prog 210 #[.string s] w fun e w'=>e = .returned (.int .i64 (Sg.run Lx.cN s.data.toList : Nat)) ∧ Below w.heap.size w w':=by
 have hi:=indexAny_calls s hs w
 have hx:=Lx.indexAny_run s.data.toList
 rw [lst_len] at hx
 obtain ⟨r,hr⟩ : ∃ r,Sg.run Lx.cN s.data.toList = r:=⟨_,rfl⟩
 rw [hr] at hx
 have HR:=hid hr
 clear hr
 by_cases h : r = s.size
 ·rw [if_pos h] at hx
  rw [hx] at hi
  have HH:=hid h
  clear hx h
  go_enter Tryz.func210,Tryz.ntmps210
  go_wp2_with fail
  ((with_reducible refine hi.mono ?_);rintro e w1 ⟨rfl,hb1⟩)
  go_wp2_with fail
  go_ret
  exact ⟨by rw [HR.out,HH.out];rfl,hb1⟩
 ·rw [if_neg h] at hx
  rw [hx] at hi
  have t0 : decide ((r : Int) < 0) = false:=decide_eq_false (by omega)
  clear hx h
  go_enter Tryz.func210,Tryz.ntmps210
  go_wp2_with fail
  ((with_reducible refine hi.mono ?_);rintro e w1 ⟨rfl,hb1⟩)
  go_wp2_with fail
  go_ret
  exact ⟨by rw [HR.out];rfl,hb1⟩
theorem sum64 {a b c : Nat} (h : c = a + b) (hm : c ≤ 140737488351232) : wrap64 ((a : Int) + (b : Int)) = (c : Int) ∧ IntKind.i64.wrap ((a : Int) + (b : Int)) = (c : Int):=by
 have w1 : wrap64 ((a : Int) + (b : Int)) = (c : Int):=by rw [IntWalk.wrap64_in];all_goals omega
 exact ⟨w1,(IntWalk.i64_left _).trans w1⟩
theorem piece_calls (s : ByteArray) (hs : s.size ≤ 65536) (w : World) :
  Calls Tryz.prog 181 #[.string s] w fun e w'=>e = .returned (.int .i64 (Lx.piece s.data.toList : Nat)) ∧ Below w.heap.size w w':=by
 go_enter Tryz.func181,Tryz.ntmps181
 go_wp2_with fail
 go_loopw [3] (fun k wr=>∃ n : Nat,k = .int .i64 (n : Int) ∧ Lx.PieceI s.data.toList n ∧ Below w.heap.size w wr) (fun k _=>s.size - (intOf k).toNat)
 case atStart=>exact ⟨0,rfl,⟨Nat.zero_le _,by simp⟩,Below.refl _ _⟩
 case round =>
  obtain ⟨n,rfl,⟨hn,hp⟩,hb⟩:=hrel
  rw [lst_len] at hn
  have hbr:=fun w=>bare_calls (s.extract n s.size) (ext_sz s n hs) w
  have hrl:=Sg.run_le Lx.cN (s.data.toList.drop n)
  rw [List.length_drop,lst_len] at hrl
  obtain ⟨r,hr⟩ : ∃ r,Sg.run Lx.cN (s.data.toList.drop n) = r:=⟨_,rfl⟩
  simp only [extract_drop,hr] at hbr
  have hes:=fun w=>sg.escape_calls (s.extract (n + r) s.size) (ext_sz s _ (by omega)) w
  have hel:=Sg.escape_le (s.data.toList.drop (n + r))
  rw [List.length_drop,lst_len] at hel
  have hst:=Lx.piece_stop (s.data.toList.drop n)
  have hgo:=Lx.piece_go (s.data.toList.drop n)
  rw [hr,List.drop_drop] at hst hgo
  rw [List.drop_drop] at hgo
  obtain ⟨e,he⟩ : ∃ e,Sg.escape (s.data.toList.drop (n + r)) = e:=⟨_,rfl⟩
  simp only [extract_drop,he] at hes
  rw [he] at hst hgo hel
  rw [hr] at hrl
  obtain ⟨m,hm⟩ : ∃ m,m = n + r:=⟨_,rfl⟩
  have hnm:=hid (sum64 hm (by omega))
  rw [← hm] at hes hel
  have hnle : (n : Int) ≤ (s.size : Int):=by omega
  have hmle : (m : Int) ≤ (s.size : Int):=by omega
  have h0n : (0 : Int) ≤ (n : Int):=by omega
  have h0m : (0 : Int) ≤ (m : Int):=by omega
  by_cases h0 : e = 0
  ·have HF:=hid (show Lx.piece s.data.toList = m by rw [hp,hst h0];omega)
   subst h0
   clear hst hgo hp hr he hm hrl hel
   obtain ⟨hw1,hw2⟩:=hnm.out
   go_wp2_with fail
   ((with_reducible refine (hbr _).mono ?_);rintro e w1 ⟨rfl,hb1⟩)
   go_wp2_with fail
   ((with_reducible refine (hes _).mono ?_);rintro e w2 ⟨rfl,hb2⟩)
   go_wp2_with fail
   go_ret
   exact ⟨by rw [HF.out];rfl,sg.Below.next (sg.Below.next hb hb1 (Nat.le_refl _)) hb2 (Nat.le_refl _)⟩
  ·obtain ⟨k,hk⟩ : ∃ k,k = m + e:=⟨_,rfl⟩
   have hw3:=hid (sum64 hk (by omega))
   have HP:=hid (show Lx.PieceI s.data.toList k from ⟨by rw [lst_len];omega,by rw [hp,hgo h0,show n + (r + e) = k by omega];omega⟩)
   have hke : k ≤ s.size:=by omega
   have hkm : n < k:=by omega
   have t0 : ((e : Int) == 0) = false:=by rw [beq_eq_false_iff_ne];omega
   have hms : s.size - k < s.size - n:=by omega
   clear hst hgo hp hr he hm hrl hel hk
   obtain ⟨hw1,hw2⟩:=hnm.out
   obtain ⟨hw4,hw5⟩:=hw3.out
   go_wp2_with fail
   ((with_reducible refine (hbr _).mono ?_);rintro e w1 ⟨rfl,hb1⟩)
   go_wp2_with fail
   ((with_reducible refine (hes _).mono ?_);rintro e w2 ⟨rfl,hb2⟩)
   go_wp2_with fail
   go_roundw
   case rel=>exact ⟨k,rfl,HP.out,sg.Below.next (sg.Below.next hb hb1 (Nat.le_refl _)) hb2 (Nat.le_refl _)⟩
   case measure=>exact hms
theorem mk_size (l : List UInt8) : (⟨l.toArray⟩ : ByteArray).size = l.length:=by show l.toArray.size = _;simp
theorem goesOn_calls (s : ByteArray) (hs : s.size ≤ 65536) (w : World) :
  Calls Tryz.prog 199 #[.string s] w fun e w'=>e = .returned (.bool (Lx.goes s.data.toList)) ∧ w' = w:=by
 have h1:=fun w=>Tryz.strings_TrimSuffix s ⟨#[13]⟩ w (by omega)
 rw [show (⟨#[13]⟩ : ByteArray).data.toList = [13] from rfl] at h1
 have hg:=Lx.goes_trail s.data.toList
 obtain ⟨t,ht⟩ : ∃ t,(⟨(Lib.trimSuffix s.data.toList [13]).toArray⟩ : ByteArray) = t:=⟨_,rfl⟩
 have htl : t.data.toList = Lib.trimSuffix s.data.toList [13]:=by rw [← ht]
 have hts : t.size ≤ 65536:=by
  rw [← lst_len,htl]
  exact Nat.le_trans (Lib.trimSuffix_le _ _) (by rw [lst_len];exact hs)
 simp only [ht] at h1
 rw [← htl] at hg
 have h2:=fun w=>Tryz.strings_TrimRight_one t 92 (by decide) w (by omega)
 obtain ⟨a,b⟩:=Lx.trimRight_length t.data.toList
 obtain ⟨u,hu⟩ : ∃ u,(⟨(Lib.trimRightB t.data.toList 92).toArray⟩ : ByteArray) = u:=⟨_,rfl⟩
 have hul : u.size = (Lib.trimRightB t.data.toList 92).length:=by rw [← hu,mk_size]
 simp only [hu] at h2
 rw [← hul,lst_len] at a b
 obtain ⟨k,hk⟩ : ∃ k,Lx.trail t.data.toList = k:=⟨_,rfl⟩
 rw [hk] at a hg
 have hw1 : wrap64 ((t.size : Int) - (u.size : Int)) = (k : Int):=by rw [IntWalk.wrap64_in _ (by omega)];omega
 have hw2 : IntKind.i64.wrap ((t.size : Int) - (u.size : Int)) = (k : Int):=(IntWalk.i64_left _).trans hw1
 have hk0 : (0 : Int) ≤ (k : Int):=by omega
 have hm : (k : Int).tmod 2 = ((k % 2 : Nat) : Int):=by rw [Int.tmod_eq_emod_of_nonneg hk0];omega
 have hm2 : (k : Int) % 2 = ((k % 2 : Nat) : Int):=by omega
 have hb : (((k % 2 : Nat) : Int) == 1) = decide (k % 2 = 1):=by
  rw [Bool.eq_iff_iff,beq_iff_eq,decide_eq_true_eq];omega
 obtain ⟨q,hq⟩ : ∃ q,decide (k % 2 = 1) = q:=⟨_,rfl⟩
 rw [hq] at hg hb
 obtain ⟨z,hz⟩ : ∃ z,k % 2 = z:=⟨_,rfl⟩
 rw [hz] at hm hm2 hb
 have HG:=hid hg
 have HB:=hid hb
 clear hg ht hu htl hul a b hk hq hz hts hs hb
 go_enter Tryz.func199,Tryz.ntmps199
 go_wp2_with fail
 ((with_reducible refine (h1 _).mono ?_);rintro e w1 ⟨rfl,rfl⟩)
 go_wp2_with fail
 ((with_reducible refine (h2 _).mono ?_);rintro e w2 ⟨rfl,rfl⟩)
 go_wp2_with fail
 go_ret
 exact ⟨by rw [HG.out,← HB.out];rfl,rfl⟩
theorem note_calls (s : ByteArray) (hs : s.size ≤ 65536) (w : World) :
  Calls Tryz.prog 173 #[.string s] w fun e w'=>e = .returned (.int .i64 (Lx.note s.data.toList : Nat)) ∧ w' = w:=by
 have hp:=Tryz.strings_HasPrefix s ⟨#[35]⟩ w
 rw [show (⟨#[35]⟩ : ByteArray).data.toList = [35] from rfl] at hp
 have HN:=hid (show Lx.note s.data.toList = if Lib.hasPrefix s.data.toList [35] then Lx.noteR 0 s.data.toList else 0 from rfl)
 cases h : Lib.hasPrefix s.data.toList [35] with
 | false =>
  rw [h] at hp HN
  clear h
  go_enter Tryz.func173,Tryz.ntmps173
  go_wp2_with fail
  ((with_reducible refine hp.mono ?_);rintro e w1 ⟨rfl,rfl⟩)
  go_wp2_with fail
  go_ret
  exact ⟨by rw [HN.out];rfl,rfl⟩
 | true =>
  rw [h] at hp HN
  have HX:=hid (HN.out.trans (if_pos rfl))
  clear h HN
  go_enter Tryz.func173,Tryz.ntmps173
  go_wp2_with fail
  ((with_reducible refine hp.mono ?_);rintro e w1 ⟨rfl,rfl⟩)
  go_wp2_with fail
  go_loopw [3] (fun k wr=>∃ n : Nat,k = .int .i64 (n : Int) ∧ Lx.NoteI s.data.toList n ∧ wr = w1) (fun k _=>s.size - (intOf k).toNat)
  case atStart=>exact ⟨0,rfl,Lx.NoteI.start _,rfl⟩
  case round =>
   obtain ⟨n,rfl,hI,rfl⟩:=hrel
   have hn:=hI.1
   rw [lst_len] at hn
   have hix:=fun w=>Tryz.strings_IndexByte (s.extract n s.size) 10 w
   rw [show (10 : Int).toNat.toUInt8 = 10 from rfl] at hix
   simp only [extract_drop] at hix
   have hge:=Lib.indexByte_ge (s.data.toList.drop n) 10
   have hnle : (n : Int) ≤ (s.size : Int):=by omega
   have h0n : (0 : Int) ≤ (n : Int):=by omega
   by_cases hm : Lib.indexByte (s.data.toList.drop n) 10 = -1
   ·have HF:=hid (hI.none hm)
    simp only [hm] at hix
    clear hI hm hge
    go_wp2_with fail
    ((with_reducible refine (hix _).mono ?_);rintro e w1 ⟨rfl,rfl⟩)
    go_wp2_with fail
    go_ret
    exact ⟨by rw [HX.out,HF.out,lst_len];rfl,rfl⟩
   ·obtain ⟨k,hk⟩ : ∃ k : Nat,Lib.indexByte (s.data.toList.drop n) 10 = (k : Int):=⟨(Lib.indexByte (s.data.toList.drop n) 10).toNat,by omega⟩
    obtain ⟨f1,f2,f3⟩:=hI.found hk
    rw [lst_len] at f1
    simp only [hk] at hix
    obtain ⟨m,hmm⟩ : ∃ m,m = n + k:=⟨_,rfl⟩
    have H1:=hid (sum64 hmm (by omega))
    have H2:=hid (sum64 (a:=m) (b:=1) rfl (by omega))
    have hgo:=fun w=>goesOn_calls (s.extract 0 m) (ext0_sz s m hs) w
    simp only [extract_take] at hgo
    rw [← hmm] at f1 f2 f3
    have hmle : (m : Int) ≤ (s.size : Int):=by omega
    have h0m : (0 : Int) ≤ (m : Int):=by omega
    have t0 : decide ((k : Int) < 0) = false:=decide_eq_false (by omega)
    have hms : s.size - (m + 1) < s.size - n:=by omega
    obtain ⟨g,hg⟩ : ∃ g,Lx.goes (s.data.toList.take m) = g:=⟨_,rfl⟩
    rw [hg] at f2 f3
    simp only [hg] at hgo
    cases g with
    | false =>
     have HF:=hid (f2 rfl)
     clear hI hm hge hk f1 f2 f3 hg hmm
     obtain ⟨hw1,hw2⟩:=H1.out
     go_wp2_with fail
     ((with_reducible refine (hix _).mono ?_);rintro e w1 ⟨rfl,rfl⟩)
     go_wp2_with fail
     ((with_reducible refine (hgo _).mono ?_);rintro e w1 ⟨rfl,rfl⟩)
     go_wp2_with fail
     go_ret
     exact ⟨by rw [HX.out,HF.out];rfl,rfl⟩
    | true =>
     have HF:=hid (f3 rfl)
     clear hI hm hge hk f1 f2 f3 hg hmm
     obtain ⟨hw1,hw2⟩:=H1.out
     obtain ⟨hw3,hw4⟩:=H2.out
     go_wp2_with fail
     ((with_reducible refine (hix _).mono ?_);rintro e w1 ⟨rfl,rfl⟩)
     go_wp2_with fail
     ((with_reducible refine (hgo _).mono ?_);rintro e w1 ⟨rfl,rfl⟩)
     go_wp2_with fail
     go_roundw
     case rel=>exact ⟨m + 1,by first | rfl | go_num,HF.out,trivial⟩
     case measure=>first | exact hms | (simp [intOf];omega)
def CutTo (a : ByteArray) (w : World) (e : Ending) (w' : World) : Prop:=(∃ b c,e = .returned (.tuple #[.string a,.string b,.bool c])) ∧ Below w.heap.size w w'
theorem cutlite_none (x : ByteArray) (h : Lib.indexByte x.data.toList 58 = -1) (w : World) :
  Calls Tryz.prog 231 #[.string x,.string ⟨#[58]⟩] w (CutTo x w):=by
 have hi:=Tryz.stringslite_Index_one x 58 w
 rw [h] at hi
 clear h
 go_enter Tryz.func231,Tryz.ntmps231
 go_wp2_with fail
 ((with_reducible refine hi.mono ?_);rintro e w1 ⟨rfl,rfl⟩)
 go_wp2_with fail
 exact bodyPost_ret (v:=.tuple #[.string x,.string ⟨#[]⟩,.bool false]) (by simp [results,Tryz.results231,go_sem]) rfl ⟨⟨_,_,rfl⟩,Below.refl _ _⟩
theorem cutlite_some (x : ByteArray) (hx : x.size ≤ 65536) (k : Nat) (h : Lib.indexByte x.data.toList 58 = (k : Int)) (w : World) :
  Calls Tryz.prog 231 #[.string x,.string ⟨#[58]⟩] w (CutTo (x.extract 0 k) w):=by
 have hi:=Tryz.stringslite_Index_one x 58 w
 have hk : k < x.size:=by
  have:=(List.getElem?_eq_some_iff.1 (Lib.indexByte_some h).1).1
  rw [lst_len] at this;exact this
 rw [h] at hi
 have h1 : (k : Int) ≤ (x.size : Int):=by omega
 have h2 : ((k + 1 : Nat) : Int) ≤ (x.size : Int):=by omega
 have h3 : (0 : Int) ≤ ((k + 1 : Nat) : Int):=by omega
 have h4 : (k : Int) + 1 ≤ (x.size : Int):=by omega
 have h5 : (0 : Int) ≤ (k : Int) + 1:=by omega
 have t0 : decide ((0 : Int) ≤ (k : Int)) = true:=decide_eq_true (by omega)
 have hz : ((⟨#[58]⟩ : ByteArray).size : Int) = 1:=rfl
 have H:=hid (sum64 (a:=k) (b:=1) rfl (by omega))
 clear h
 obtain ⟨hw1,hw2⟩:=H.out
 go_enter Tryz.func231,Tryz.ntmps231
 go_wp2_with fail
 ((with_reducible refine hi.mono ?_);rintro e w1 ⟨rfl,rfl⟩)
 go_wp2_with fail
 go_quiet (fail)
 go_wp2_with fail
 refine bodyPost_ret (v:=.tuple #[.string (x.extract 0 k),_,.bool true]) (by simp [results,Tryz.results231,go_sem];rfl) rfl ⟨⟨_,_,rfl⟩,⟨rfl,rfl,rfl,Nat.le_refl _,fun _ _=>rfl⟩⟩
end Go.Proofs.YtlklhkkjcfmefaaGreatDoor.lx
namespace Go.Proofs.YtlklhkkjcfmefaaGreatDoor.pa
open Go.Lib (hid)
open Go.RowKit nd pr sx ed
theorem items_at {E : Env} (hE : EnvOk E) {W : World} {i : Nat} (h : Ps E W i) : ItemsAt (Lt W.heap.size) W E.lv E.l:=hE.items.next h.old
abbrev tk (E : Env) (i : Nat) : Tk:=tok (E.l.drop i)
theorem tk_at {l : List Tk} {i : Nat} (h : i < l.length) : l[i]? = some (tok (l.drop i)):=by
 rw [List.getElem?_eq_getElem h]
 unfold tok
 rw [List.drop_eq_getElem_cons h];rfl
theorem tk_end {l : List Tk} {i : Nat} (h : l.length ≤ i) : tok (l.drop i) = noTk:=by unfold tok;rw [List.drop_eq_nil_of_le h];rfl
theorem ended_eq {l : List Tk} {i n : Nat} (hn : l.length = n) (h : i ≤ n) : (l.drop i).isEmpty = decide (i = n):=by
 rw [Bool.eq_iff_iff,List.isEmpty_iff,List.drop_eq_nil_iff,decide_eq_true_eq];omega
theorem ended_calls {E : Env} (hE : EnvOk E) {W : World} {i : Nat} (h : Ps E W i) :
  Calls Tryz.prog 82 #[pB E] W fun e w'=>e = .returned (.bool (E.l.drop i).isEmpty) ∧ Below W.heap.size W w':=by
 obtain ⟨ao,cap,he,hm⟩:=hE.items.slice
 have c0:=h.blk.cell 0;have c1:=h.blk.cell 1
 have hle:=h.le
 rw [he] at c0
 obtain ⟨n,hn⟩ : ∃ n,E.l.length = n:=⟨_,rfl⟩
 rw [hn] at c0 hle
 have hq:=ended_eq hn hle
 obtain ⟨B,hB⟩ : ∃ B,E.B = B:=⟨_,rfl⟩
 unfold pB
 rw [hB] at c0 c1 ⊢
 have HQ:=hid hq
 clear h hm he hq hB hn
 by_cases hi : i = n
 ·subst hi
  have q1 : ((i : Int) == (i : Int)) = true:=by simp
  go_enter Tryz.func82,Tryz.ntmps82
  go_wp2_with fail
  go_quiet (fail)
  go_wp2_with fail
  go_ret
  exact ⟨by rw [HQ.out];simp,rfl,rfl,rfl,Nat.le_refl _,fun _ _=>rfl⟩
 ·have q1 : ((i : Int) == (n : Int)) = false:=by rw [beq_eq_false_iff_ne];omega
  have HI:=hid hi
  clear hi
  go_enter Tryz.func82,Tryz.ntmps82
  go_wp2_with fail
  go_quiet (fail)
  go_wp2_with fail
  go_ret
  exact ⟨by rw [HQ.out];simp [HI.out],rfl,rfl,rfl,Nat.le_refl _,fun _ _=>rfl⟩
theorem box2 {w w1 : World} {t : TypeId} {a b : Value} (hb : Below (w.alloc (.cells #[a,b] t)).heap.size (w.alloc (.cells #[a,b] t)) w1) (x y : Value) :
  Blk ((w1.setCell ⟨w.heap.size,0,none⟩ x).setCell ⟨w.heap.size,1,none⟩ y) w.heap.size t #[x,y] ∧ Below w.heap.size w ((w1.setCell ⟨w.heap.size,0,none⟩ x).setCell ⟨w.heap.size,1,none⟩ y):=by
 have h1 : Blk w1 w.heap.size t #[a,b]:=(Blk.new w t #[a,b]).own hb
 exact ⟨(h1.set (o:=0) x).set (o:=1) y,((((Below.refl _ w).alloc (Nat.le_refl _) _).trans (hb.mono (by simp))).setCell (p:=⟨w.heap.size,0,none⟩) (Nat.le_refl _) x).setCell (p:=⟨w.heap.size,1,none⟩) (Nat.le_refl _) y⟩
theorem next_calls {E : Env} (hE : EnvOk E) {W : World} {i : Nat} (h : Ps E W i) :
  Calls Tryz.prog 80 #[pB E] W fun e w'=>e = .returned (tokV (tk E i)) ∧ Below W.heap.size W w':=by
 obtain ⟨ao,cap,he,hm⟩:=hE.items.slice
 have hle:=h.le
 have hend:=fun W' (hb : Below W.heap.size W W')=>ended_calls hE (h.next hb)
 have hits:=fun W' (hb : Below W.heap.size W W')=>items_at hE (h.next hb)
 have hbk:=fun W' (hb : Below W.heap.size W W')=>(h.next hb).blk
 obtain ⟨n,hn⟩ : ∃ n,E.l.length = n:=⟨_,rfl⟩
 rw [hn] at hle
 have hq:=ended_eq hn (show i ≤ n by omega)
 have htk:=tk_at (l:=E.l) (i:=i)
 have hte:=tk_end (l:=E.l) (i:=i)
 rw [hn] at htk hte
 rw [he,hn] at hits hbk
 rw [hq] at hend
 unfold tk
 obtain ⟨t,ht⟩ : ∃ t,tok (E.l.drop i) = t:=⟨_,rfl⟩
 rw [ht] at htk hte ⊢
 obtain ⟨B,hB⟩ : ∃ B,E.B = B:=⟨_,rfl⟩
 unfold pB at hend ⊢
 rw [hB] at hbk hend ⊢
 have hb0 : Below W.heap.size W (W.alloc (.cells #[.int .i64 0,.string ⟨#[]⟩] 49)):=(Below.refl _ W).alloc (Nat.le_refl _) _
 have HE:=hid hend;have HI:=hid hits;have HB:=hid hbk;have HT:=hid htk;have HTE:=hid hte;have HB0:=hid hb0
 clear h hm he hq hB ht hend hits hbk htk hte hb0
 by_cases hi : i = n
 ·subst hi
  obtain rfl:=HTE.out (Nat.le_refl _)
  have hcall:=HE.out _ HB0.out
  simp only [decide_true] at hcall
  have HC:=hid hcall
  clear hcall HE HT HI HB
  go_enter Tryz.func80,Tryz.ntmps80
  go_wp2_with fail
  ((with_reducible refine HC.out.mono ?_);rintro e w1 ⟨rfl,hb1⟩)
  have hbx:=box2 hb1 (.int .i64 0) (.string ⟨#[]⟩)
  have hlt : W.heap.size < w1.heap.size:=by have:=hb1.size;simp at this;omega
  have f0:=((Blk.new W 49 #[.int .i64 0,.string ⟨#[]⟩]).own hb1).frozen 0
  have f1:=((Blk.new W 49 #[.int .i64 0,.string ⟨#[]⟩]).own hb1).frozen 1
  have d0 : w1.cell? ⟨W.heap.size,0,none⟩ = some (.int .i64 0):=((Blk.new W 49 #[.int .i64 0,.string ⟨#[]⟩]).own hb1).cell 0
  have d1 : w1.cell? ⟨W.heap.size,1,none⟩ = some (.string ⟨#[]⟩):=((Blk.new W 49 #[.int .i64 0,.string ⟨#[]⟩]).own hb1).cell 1
  have g0:=hbx.1.cell 0;have g1:=hbx.1.cell 1
  have HX:=hid hbx.2
  clear hbx hb1
  go_wp2_with fail
  refine bodyPost_ret (v:=tokV noTk) (by simp [results,Tryz.results80,go_sem,g0,g1,noTk,tokV]) rfl ?_
  exact ⟨rfl,HX.out⟩
 ·have hlt : i < n:=by omega
  have hlt1 : (i : Int) < (n : Int):=by omega
  have hit:=HT.out hlt
  have hcall:=HE.out _ HB0.out
  rw [decide_eq_false hi] at hcall
  have HC:=hid hcall
  clear hcall HE HT HTE hi
  go_enter Tryz.func80,Tryz.ntmps80
  go_wp2_with fail
  ((with_reducible refine HC.out.mono ?_);rintro e w1 ⟨rfl,hb1⟩)
  have hb01:=HB0.out.trans (hb1.mono HB0.out.size)
  obtain ⟨ao',cap',e,_,hr⟩:=HI.out _ hb01
  cases e
  obtain ⟨g,o,rfl,hg,hc⟩:=hr (fun e=>by rw [e] at hit;simp at hit)
  obtain ⟨c0,c1⟩:=hc i t hit
  have k0:=(HB.out _ hb01).cell 0;have k1:=(HB.out _ hb01).cell 1
  have hbx:=box2 hb1 (.int .i64 t.1) (.string t.2)
  have f0:=((Blk.new W 49 #[.int .i64 0,.string ⟨#[]⟩]).own hb1).frozen 0
  have f1:=((Blk.new W 49 #[.int .i64 0,.string ⟨#[]⟩]).own hb1).frozen 1
  have d0 : w1.cell? ⟨W.heap.size,0,none⟩ = some (.int .i64 0):=((Blk.new W 49 #[.int .i64 0,.string ⟨#[]⟩]).own hb1).cell 0
  have d1 : w1.cell? ⟨W.heap.size,1,none⟩ = some (.string ⟨#[]⟩):=((Blk.new W 49 #[.int .i64 0,.string ⟨#[]⟩]).own hb1).cell 1
  have g0:=hbx.1.cell 0;have g1:=hbx.1.cell 1
  have HX:=hid hbx.2
  clear hbx hb1 hb01 hr hc hit HB HI
  go_wp2_with fail
  go_region
  go_wp2_with fail
  refine bodyPost_ret (v:=tokV t) (by simp [results,Tryz.results80,go_sem,g0,g1,tokV]) rfl ?_
  exact ⟨rfl,HX.out.drew⟩
theorem fail_calls {E : Env} {W : World} {i : Nat} (h : Ps E W i) :
  Calls Tryz.prog 84 #[pB E] W fun e w'=>e = .panicked [{ v:=.iface 79 (.int .i64 (i : Int)),recovered:=false }] ∧ Below W.heap.size W w':=by
 have c1 : W.cell? ⟨E.B,1,none⟩ = some (.int .i64 (i : Int)):=h.blk.cell 1
 obtain ⟨B,hB⟩ : ∃ B,E.B = B:=⟨_,rfl⟩
 unfold pB
 rw [hB] at c1 ⊢
 clear h hB
 go_enter Tryz.func84,Tryz.ntmps84
 go_wp2_with fail
 exact ⟨rfl,rfl,Below.refl _ _⟩
theorem op_calls' (s : ByteArray) (W : World) : Calls Tryz.prog 63 #[.string s] W fun e w'=>e = .returned (tokV (13,s)) ∧ Below W.heap.size W w':=by
 go_enter Tryz.func63,Tryz.ntmps63
 go_wp2_with fail
 refine bodyPost_ret (v:=tokV (13,s)) (by simp [results,Tryz.results63,go_sem,tokV]) rfl ?_
 exact ⟨rfl,(Below.refl _ W).alloc (Nat.le_refl _) _⟩
theorem word_calls' (s : ByteArray) (W : World) : Calls Tryz.prog 69 #[.string s] W fun e w'=>e = .returned (tokV (3,s)) ∧ Below W.heap.size W w':=by
 go_enter Tryz.func69,Tryz.ntmps69
 go_wp2_with fail
 refine bodyPost_ret (v:=tokV (3,s)) (by simp [results,Tryz.results69,go_sem,tokV]) rfl ?_
 exact ⟨rfl,(Below.refl _ W).alloc (Nat.le_refl _) _⟩
theorem node_calls (k : Int) (s : ByteArray) (ao : Option Addr) (n c : Nat) (W : World) : Calls Tryz.prog 85 #[.int .i64 k,.string s,.slice ao n c] W fun e w'=>e = .returned (.agg #[.int .i64 k,.string s,.slice ao n c]) ∧ Below W.heap.size W w':=by
 go_enter Tryz.func85,Tryz.ntmps85
 go_wp2_with fail
 refine bodyPost_ret (v:=.agg #[.int .i64 k,.string s,.slice ao n c]) (by simp [results,Tryz.results85,go_sem]) rfl ?_
 exact ⟨rfl,(Below.refl _ W).alloc (Nat.le_refl _) _⟩
end Go.Proofs.YtlklhkkjcfmefaaGreatDoor.pa
namespace Go.Proofs.YtlklhkkjcfmefaaGreatDoor.lx
open Go.Lib (hid)
open Go.RowKit Go.Shelf
open sg (lst_len extract_drop ext_size)
open sx
theorem cut_calls (x a : ByteArray) (w : World) (h : ∀ w,Calls Tryz.prog 231 #[.string x,.string ⟨#[58]⟩] w (CutTo a w)) :
  Calls Tryz.prog 204 #[.string x,.string ⟨#[58]⟩] w (CutTo a w):=by
 go_enter Tryz.func204,Tryz.ntmps204
 go_wp2_with fail
 ((with_reducible refine (h _).mono ?_);rintro e w1 ⟨⟨b,c,rfl⟩,hb⟩)
 go_wp2_with fail
 exact bodyPost_ret (v:=.tuple #[.string a,.string b,.bool c]) (by simp [results,Tryz.results204,go_sem]) rfl ⟨⟨_,_,rfl⟩,hb⟩
theorem cut_name (s : ByteArray) (hs : s.size ≤ 65536) (w : World) :
  ∃ a : ByteArray,a.size = Sg.simple s.data.toList ∧ Calls Tryz.prog 204 #[.string (s.extract 0 (Sg.word s.data.toList)),.string ⟨#[58]⟩] w (CutTo a w):=by
 obtain ⟨h1,h2⟩:=Lx.simple_cut s.data.toList
 have hwl:=Sg.word_le s.data.toList
 rw [lst_len] at hwl
 have hge:=Lib.indexByte_ge (s.data.toList.take (Sg.word s.data.toList)) 58
 by_cases hm : Lib.indexByte (s.data.toList.take (Sg.word s.data.toList)) 58 = -1
 ·refine ⟨s.extract 0 (Sg.word s.data.toList),?_,cut_calls _ _ _ fun w=>cutlite_none _ (by rw [extract_take];exact hm) w⟩
  rw [← h1 hm,ByteArray.size_extract];omega
 ·obtain ⟨k,hk⟩ : ∃ k : Nat,Lib.indexByte (s.data.toList.take (Sg.word s.data.toList)) 58 = (k : Int):=⟨(Lib.indexByte (s.data.toList.take (Sg.word s.data.toList)) 58).toNat,by omega⟩
  have hks:=h2 k hk
  have:=Lx.word_simple s.data.toList
  refine ⟨(s.extract 0 (Sg.word s.data.toList)).extract 0 k,?_,cut_calls _ _ _ fun w=>cutlite_some _ (by rw [ByteArray.size_extract];omega) k (by rw [extract_take];exact hk) w⟩
  rw [ByteArray.size_extract,ByteArray.size_extract];omega
theorem simple_calls (s : ByteArray) (hs : s.size ≤ 65536) (w : World) :
  Calls Tryz.prog 176 #[.string s] w fun e w'=>e = .returned (.int .i64 (Sg.simple s.data.toList : Nat)) ∧ Below w.heap.size w w':=by
 have hw:=sg.word_calls s (by omega) w
 have hwl:=Sg.word_le s.data.toList
 rw [lst_len] at hwl
 obtain ⟨a,ha,hc⟩:=cut_name s hs w
 obtain ⟨n,hn⟩ : ∃ n,Sg.word s.data.toList = n:=⟨_,rfl⟩
 rw [hn] at hw hc hwl
 have h1 : (n : Int) ≤ (s.size : Int):=by omega
 have h2 : (0 : Int) ≤ (n : Int):=by omega
 have HA:=hid ha
 clear ha hn
 go_enter Tryz.func176,Tryz.ntmps176
 go_wp2_with fail
 ((with_reducible refine hw.mono ?_);rintro e w1 ⟨rfl,rfl⟩)
 go_wp2_with fail
 ((with_reducible refine hc.mono ?_);rintro e w1 ⟨⟨b,c,rfl⟩,hb⟩)
 go_wp2_with fail
 go_ret
 exact ⟨by rw [← HA.out];rfl,hb⟩
abbrev Lie (bl : List (Nat × TypeId × Array Value)) (W : World) : Prop:=∀ b ∈ bl,Blk W b.1 b.2.1 b.2.2
theorem enBlank : ∀ args w,(callFunc 172 args).run Tryz.prog w = .ok (.enter 172 args) w:=enters_of Tryz.func172 (by kernel_rfl) rfl
theorem enLD : ∀ args w,(callFunc 177 args).run Tryz.prog w = .ok (.enter 177 args) w:=enters_of Tryz.func177 (by kernel_rfl) rfl
theorem enRow : ∀ args w,(callFunc 197 args).run Tryz.prog w = .ok (.enter 197 args) w:=enters_of Tryz.func197 (by kernel_rfl) rfl
theorem enMarked : ∀ args w,(callFunc 202 args).run Tryz.prog w = .ok (.enter 202 args) w:=enters_of Tryz.func202 (by kernel_rfl) rfl
theorem enJust : ∀ args w,(callFunc 180 args).run Tryz.prog w = .ok (.enter 180 args) w:=enters_of Tryz.func180 (by kernel_rfl) rfl
theorem enSimple : ∀ args w,(callFunc 176 args).run Tryz.prog w = .ok (.enter 176 args) w:=enters_of Tryz.func176 (by kernel_rfl) rfl
theorem enNote : ∀ args w,(callFunc 173 args).run Tryz.prog w = .ok (.enter 173 args) w:=enters_of Tryz.func173 (by kernel_rfl) rfl
theorem enPiece : ∀ args w,(callFunc 181 args).run Tryz.prog w = .ok (.enter 181 args) w:=enters_of Tryz.func181 (by kernel_rfl) rfl
theorem enWord : ∀ args w,(callFunc 174 args).run Tryz.prog w = .ok (.enter 174 args) w:=enters_of Tryz.func174 (by kernel_rfl) rfl
theorem enNumber : ∀ args w,(callFunc 178 args).run Tryz.prog w = .ok (.enter 178 args) w:=enters_of Tryz.func178 (by kernel_rfl) rfl
theorem enOper : ∀ args w,(callFunc 179 args).run Tryz.prog w = .ok (.enter 179 args) w:=enters_of Tryz.func179 (by kernel_rfl) rfl
abbrev fnV (g : Nat) (lb : Array Value) : Value:=.func (.func g) #[] lb
abbrev ptr (b : Nat) : Value:=.pointer (some ⟨b,0,none⟩)
theorem szWord (bl : List (Nat × TypeId × Array Value)) : SzOn bl (fnV 174 #[]) Sg.word :=
 ⟨_,_,rfl,enWord,fun W _ _ s hs=>(sg.word_calls s (by omega) W).mono fun e w' ⟨h1,h2⟩=>⟨h1,h2 ▸ Below.refl _ _⟩⟩
theorem szNumber (bl : List (Nat × TypeId × Array Value)) : SzOn bl (fnV 178 #[]) Sg.number :=
 ⟨_,_,rfl,enNumber,fun W _ _ s hs=>sg.number_calls s (by omega) W⟩
theorem szOper (bl : List (Nat × TypeId × Array Value)) : SzOn bl (fnV 179 #[]) Sg.oper :=
 ⟨_,_,rfl,enOper,fun W ho _ s hs=>sg.oper_calls s W ho⟩
theorem szNote (bl : List (Nat × TypeId × Array Value)) : SzOn bl (fnV 173 #[]) Lx.note :=
 ⟨_,_,rfl,enNote,fun W _ _ s hs=>(note_calls s hs W).mono fun e w' ⟨h1,h2⟩=>⟨h1,h2 ▸ Below.refl _ _⟩⟩
theorem szPiece (bl : List (Nat × TypeId × Array Value)) : SzOn bl (fnV 181 #[]) Lx.piece :=
 ⟨_,_,rfl,enPiece,fun W _ _ s hs=>piece_calls s hs W⟩
theorem szSimple (bl : List (Nat × TypeId × Array Value)) : SzOn bl (fnV 176 #[]) Sg.simple :=
 ⟨_,_,rfl,enSimple,fun W _ _ s hs=>simple_calls s hs W⟩
theorem szJust (bl : List (Nat × TypeId × Array Value)) (B : Nat) (t : ByteArray) (ht : t.size ≤ 100) (h : (B,9,#[.string t]) ∈ bl) : SzOn bl (fnV 180 #[ptr B]) (Lx.just t.data.toList) :=
 ⟨_,_,rfl,enJust,fun W _ hb s hs=>(just1_calls t ht B s W ((hb _ h).cell 0)).mono fun e w' ⟨h1,h2⟩=>⟨h1,h2 ▸ Below.refl _ _⟩⟩
theorem szRow (bl : List (Nat × TypeId × Array Value)) (B g : Nat) (p : Int → Bool) (h : (B,53,#[fnV g #[]]) ∈ bl) (hen : ∀ args w,(callFunc g args).run Tryz.prog w = .ok (.enter g args) w)
  (hg : ∀ c : Int,0 ≤ c → c ≤ 255 → ∀ w,Calls Tryz.prog g #[.int .u8 c] w fun e w'=>e = .returned (.bool (p c)) ∧ w' = w) : SzOn bl (fnV 197 #[ptr B]) (Sg.run p) :=
 ⟨_,_,rfl,enRow,fun W _ hb s hs=>row1_calls g p B s (by omega) W ((hb _ h).cell 0) hen hg⟩
theorem szMarked (bl : List (Nat × TypeId × Array Value)) (B1 B2 : Nat) (t : ByteArray) (ht : t.size ≤ 100) (v : Value) (f : List UInt8 → Nat) (hf : ∀ l : List UInt8,f l ≤ l.length) (h1 : (B1,9,#[.string t]) ∈ bl) (h2 : (B2,70,#[v]) ∈ bl)
  (hv : SzOn bl v f) : SzOn bl (fnV 202 #[ptr B1,ptr B2]) (Lx.marked t.data.toList f):=by
 obtain ⟨g,lb,rfl,hen,hc⟩:=hv
 exact ⟨_,_,rfl,enMarked,fun W ho hb s hs=>marked1_calls t ht B1 B2 s hs f g lb W ((hb _ h1).cell 0) ((hb _ h2).cell 0) hen hf (fun s' hs'=>hc W ho hb s' hs')⟩
def ShapesOn (bl : List (Nat × TypeId × Array Value)) (v : Value) (sh : List Lx.Kd) : Prop :=
 ∃ g cap cur,v = .slice (some ⟨g,0,none⟩) sh.length cap ∧ (g,143,cur) ∈ bl ∧
  ∀ (i : Nat) k f,sh[i]? = some (k,f) → ∃ u,cur[2 * i]? = some (.int .i64 k) ∧ cur[2 * i + 1]? = some u ∧ SzOn bl u f
theorem ShapesOn.mono {bl bl' : List (Nat × TypeId × Array Value)} {v : Value} {sh : List Lx.Kd} (h : ShapesOn bl v sh) (hs : ∀ b ∈ bl,b ∈ bl') : ShapesOn bl' v sh:=by
 obtain ⟨g,cap,cur,h1,h2,h3⟩:=h
 exact ⟨g,cap,cur,h1,hs _ h2,fun i k f e=>by obtain ⟨u,a,b,c⟩:=h3 i k f e;exact ⟨u,a,b,c.mono hs⟩⟩
def outCells (B : Nat) : Array Value:=#[.int .i64 1,fnV 197 #[ptr B],.int .i64 2,fnV 173 #[],.int .i64 3,fnV 174 #[],
 .int .i64 4,fnV 202 #[ptr (B + 1),ptr (B + 2)],.int .i64 5,fnV 202 #[ptr (B + 3),ptr (B + 4)],.int .i64 12,fnV 202 #[ptr (B + 6),ptr (B + 7)],
 .int .i64 6,fnV 178 #[],.int .i64 7,fnV 180 #[ptr (B + 8)],.int .i64 13,fnV 179 #[]]
def outBl (B : Nat) : List (Nat × TypeId × Array Value) :=
 [(B,53,#[fnV 172 #[]]),(B + 1,9,#[.string ⟨#[46]⟩]),(B + 2,70,#[fnV 176 #[]]),(B + 3,9,#[.string ⟨#[36]⟩]),(B + 4,70,#[fnV 174 #[]]),
  (B + 5,53,#[fnV 177 #[]]),(B + 6,9,#[.string ⟨#[64]⟩]),(B + 7,70,#[fnV 197 #[ptr (B + 5)]]),(B + 8,9,#[.string ⟨#[34]⟩]),(B + 9,143,outCells B)]
theorem mem_nth {α : Type} (l : List α) (i : Nat) (x : α) (h : l[i]? = some x) : x ∈ l:=List.mem_of_getElem? h
theorem szLD (bl : List (Nat × TypeId × Array Value)) (B : Nat) (h : (B,53,#[fnV 177 #[]]) ∈ bl) : SzOn bl (fnV 197 #[ptr B]) (Sg.run Sg.cW) :=
 szRow bl B _ _ h enLD (fun c _ _ w=>letterOrDigit_calls c w)
theorem szBl (bl : List (Nat × TypeId × Array Value)) (B : Nat) (h : (B,53,#[fnV 172 #[]]) ∈ bl) : SzOn bl (fnV 197 #[ptr B]) (Sg.run Sg.cB) :=
 szRow bl B _ _ h enBlank (fun c _ _ w=>(sg.blank_calls c w).mono fun e w' ⟨h1,h2⟩=>⟨h1,h2.symm⟩)
theorem out_shapes (B : Nat) : ShapesOn (outBl B) (.slice (some ⟨B + 9,0,none⟩) 9 9) Lx.outside:=by
 refine ⟨B + 9,9,outCells B,rfl,mem_nth _ 9 _ rfl,fun i k f h=>?_⟩
 match i,h with
 | 0,h=>cases h;exact ⟨_,rfl,rfl,szBl _ _ (mem_nth _ 0 _ rfl)⟩
 | 1,h=>cases h;exact ⟨_,rfl,rfl,szNote _⟩
 | 2,h=>cases h;exact ⟨_,rfl,rfl,szWord _⟩
 | 3,h=>cases h;exact ⟨_,rfl,rfl,szMarked _ _ _ ⟨#[46]⟩ (by decide) _ _ Sg.simple_le (mem_nth _ 1 _ rfl) (mem_nth _ 2 _ rfl) (szSimple _)⟩
 | 4,h=>cases h;exact ⟨_,rfl,rfl,szMarked _ _ _ ⟨#[36]⟩ (by decide) _ _ Sg.word_le (mem_nth _ 3 _ rfl) (mem_nth _ 4 _ rfl) (szWord _)⟩
 | 5,h=>cases h;exact ⟨_,rfl,rfl,szMarked _ _ _ ⟨#[64]⟩ (by decide) _ _ (Sg.run_le _) (mem_nth _ 6 _ rfl) (mem_nth _ 7 _ rfl) (szLD _ _ (mem_nth _ 5 _ rfl))⟩
 | 6,h=>cases h;exact ⟨_,rfl,rfl,szNumber _⟩
 | 7,h=>cases h;exact ⟨_,rfl,rfl,szJust _ _ ⟨#[34]⟩ (by decide) (mem_nth _ 8 _ rfl)⟩
 | 8,h=>cases h;exact ⟨_,rfl,rfl,szOper _⟩
 | n + 9,h=>simp [Lx.outside] at h
end Go.Proofs.YtlklhkkjcfmefaaGreatDoor.lx
namespace Go.Proofs.YtlklhkkjcfmefaaGreatDoor.pa
open Go.Lib (hid)
open Go.RowKit nd pr sx ed
def sameT (k1 : Int) (s1 : ByteArray) (k2 : Int) (s2 : ByteArray) : Bool:=decide ((k1,s1) = (k2,s2))
theorem bytes_eq (a b : ByteArray) : a.toList = b.toList ↔ a = b:=by
 rw [Lib.toList_data,Lib.toList_data]
 constructor
 ·intro e
  cases a;cases b
  rename_i a b
  cases a;cases b
  exact congrArg _ (congrArg _ e)
 ·rintro rfl;rfl
theorem run_same (k1 : Int) (s1 : ByteArray) (k2 : Int) (s2 : ByteArray) (w : World) : (binOp BinOp.eql 49 (.agg #[.int .i64 k1,.string s1]) (.agg #[.int .i64 k2,.string s2])).run Tryz.prog w = .ok (.bool (sameT k1 s1 k2 s2)) w:=by
 simp [go_sem,bytes_eq,sameT]
 split <;> rename_i h
 ·split <;> rename_i h' <;> simp [h,h']
 ·simp [h]
theorem run_other (k1 : Int) (s1 : ByteArray) (k2 : Int) (s2 : ByteArray) (w : World) : (binOp BinOp.neq 49 (.agg #[.int .i64 k1,.string s1]) (.agg #[.int .i64 k2,.string s2])).run Tryz.prog w = .ok (.bool (!sameT k1 s1 k2 s2)) w:=by
 simp [go_sem,bytes_eq,sameT]
 split <;> rename_i h
 ·split <;> rename_i h' <;> simp [h,h']
 ·simp [h]
theorem tk_lt {E : Env} {i : Nat} {t : Tk} (h : tk E i = t) (ht : t ≠ noTk) : i < E.l.length:=by
 rcases Nat.lt_or_ge i E.l.length with h' | h'
 ·exact h'
 ·exact absurd (h.symm.trans (tk_end h')) ht
theorem Ps.move {E : Env} {W : World} {i : Nat} (hE : EnvOk E) (h : Ps E W i) (hl : i < E.l.length) (n : Int) (hn : n = (i : Int) + 1) : Ps E (W.setCell ⟨E.B,1,none⟩ (.int .i64 n)) (i + 1) ∧ Kp E W (W.setCell ⟨E.B,1,none⟩ (.int .i64 n)):=by
 subst hn
 have hk : Kp E W (W.setCell ⟨E.B,1,none⟩ (.int .i64 ((i : Int) + 1))):=(Kp.refl E W).setCell (p:=⟨E.B,1,none⟩) (fun _=>.inl rfl) _
 refine ⟨⟨?_,hl,h.old.setCell (p:=⟨E.B,1,none⟩) hE.b _,MapT.of_heap h.terms (Below.heap_setCell _ _ _ _ h.tb),?_⟩,hk⟩
 ·have:=h.blk.set (o:=1) (.int .i64 ((i : Int) + 1))
  simpa using this
 ·obtain ⟨l,h1,h2⟩:=h.opers
  refine ⟨l,MapT.of_heap h1 (Below.heap_setCell _ _ _ _ fun e=>?_),h2⟩
  obtain ⟨es,clock,h3,_⟩:=h1
  rw [e,show W.heap[E.B]? = _ from h.blk] at h3
  cases h3
theorem took_calls {E : Env} (hE : EnvOk E) {W : World} {i : Nat} (h : Ps E W i) (t : Tk) (ht : t ≠ noTk) (c : Bool) (hc : decide (tk E i = t) = c) :
  Calls Tryz.prog 115 #[pB E,tokV t] W fun e w'=>e = .returned (.bool c) ∧ Kp E W w' ∧ Ps E w' (if c then i + 1 else i):=by
 obtain ⟨k,s⟩:=t
 obtain ⟨W0,hW0⟩ : ∃ W0,W.alloc (.cells #[.int .i64 k,.string s] 49) = W0:=⟨_,rfl⟩
 have hb0 : Below W.heap.size W W0:=by rw [← hW0];exact (Below.refl _ W).alloc (Nat.le_refl _) _
 have hk0 : Blk W0 W.heap.size 49 #[.int .i64 k,.string s]:=by rw [← hW0];exact Blk.new W _ _
 have hn:=fun x : In W0=>next_calls hE ((h.next hb0).next x.h)
 have hps : ∀ W',Below W0.heap.size W0 W' → Ps E W' i:=fun W' hb=>(h.next hb0).next hb
 have e0 : W0.cell? ⟨W.heap.size,0,none⟩ = some (.int .i64 k):=hk0.cell 0
 have e1 : W0.cell? ⟨W.heap.size,1,none⟩ = some (.string s):=hk0.cell 1
 have e2:=fun y : In W0=>In.cell e0 y
 have e3:=fun y : In W0=>In.cell e1 y
 have e4 : W0.cell? ⟨E.B,1,none⟩ = some (.int .i64 (i : Int)):=(hps W0 (Below.refl _ _)).blk.cell 1
 have e5:=fun y : In W0=>In.cell e4 y
 have e6:=fun y : In W0=>(hps y.u y.h).blk.frozen 1
 have hlt:=hE.len
 have hle:=h.le
 have hw : wrap64 ((i : Int) + 1) = (i : Int) + 1:=by rw [IntWalk.wrap64_in];omega
 obtain ⟨t,htt⟩ : ∃ t,tk E i = t:=⟨_,rfl⟩
 have hst : sameT t.1 t.2 k s = c:=by rw [← hc,htt];rfl
 have hlt : c = true → i < E.l.length:=fun e=>tk_lt (of_decide_eq_true (hc.trans e)) ht
 rw [htt] at hn
 unfold tokV at hn ⊢
 have hr1:=run_other
 obtain ⟨B,hB⟩ : ∃ B,E.B = B:=⟨_,rfl⟩
 unfold pB at hn ⊢
 rw [hB] at hn e4 e5 e6 ⊢
 have HW0:=hid hW0;have HN:=hid hn;have HPS:=hid hps;have HB0:=hid hb0;have HLT:=hid hlt;have HB:=hid hB
 clear hW0 hn hps hb0 hk0 h hc htt hlt hle hB
 cases c with
 | false =>
  go_enter Tryz.func115,Tryz.ntmps115
  go_upto_region 1 with fail
  rw [HW0.out]
  refine ed.wp_region_in (by kernel_rfl) (by kernel_rfl) ?_
  repeat (go_big_quiet_step (first | (go_at_call 80;refine ed.Calls.in_of (HN.out _))))
  with_reducible refine wpQuiet_nil ?_
  rintro _ ⟨y,rfl⟩
  go_wp2_with fail
  go_ret
  exact ⟨rfl,Kp.trans (Kp.of_below HB0.out) (Kp.of_below y.h),HPS.out _ y.h⟩
 | true =>
  go_enter Tryz.func115,Tryz.ntmps115
  go_upto_region 1 with fail
  rw [HW0.out]
  refine ed.wp_region_in (by kernel_rfl) (by kernel_rfl) ?_
  repeat (go_big_quiet_step (first | (go_at_call 80;refine ed.Calls.in_of (HN.out _))))
  with_reducible refine wpQuiet_nil ?_
  rintro _ ⟨y,rfl⟩
  go_wp2_with fail
  go_ret
  have hm:=Ps.move hE (HPS.out _ y.h) (HLT.out (by first | rfl | trivial)) _ rfl
  rw [HB.out] at hm
  exact ⟨rfl,Kp.trans (Kp.trans (Kp.of_below HB0.out) (Kp.of_below y.h)) hm.2,hm.1⟩
abbrev mis (i : Nat) : Ending:=.panicked [{ v:=.iface 79 (.int .i64 (i : Int)),recovered:=false }]
theorem must_calls {E : Env} (hE : EnvOk E) {W : World} {i : Nat} (h : Ps E W i) (t : Tk) (ht : t ≠ noTk) (c : Bool) (hc : decide (tk E i = t) = c) :
  Calls Tryz.prog 114 #[pB E,tokV t] W fun e w'=>Kp E W w' ∧ (if c then e = .returned (.tuple #[]) ∧ Ps E w' (i + 1) else e = mis i):=by
 have htook:=fun W' (hb : Below W.heap.size W W')=>took_calls hE (h.next hb) t ht c hc
 obtain ⟨k,s⟩:=t
 unfold tokV at htook ⊢
 have hb0 : Below W.heap.size W (W.alloc (.cells #[.int .i64 k,.string s] 49)):=(Below.refl _ W).alloc (Nat.le_refl _) _
 have HT:=hid (htook _ hb0)
 have HB0:=hid hb0
 have HF:=hid (fun W' (h : Ps E W' i)=>fail_calls h)
 clear htook h hc ht
 unfold pB at HT HF ⊢
 cases c with
 | false =>
  go_enter Tryz.func114,Tryz.ntmps114
  go_wp2_with fail
  ((with_reducible refine HT.out.mono ?_);rintro e w1 ⟨rfl,hk,hp⟩)
  have HK:=hid hk
  have hf:=HF.out _ hp
  clear hk hp
  go_wp2_with fail
  ((with_reducible refine hf.mono ?_);rintro e w2 ⟨rfl,hb⟩)
  exact ⟨rfl,Kp.trans (Kp.trans (Kp.of_below HB0.out) HK.out) (Kp.of_below hb),rfl⟩
 | true =>
  go_enter Tryz.func114,Tryz.ntmps114
  go_wp2_with fail
  ((with_reducible refine HT.out.mono ?_);rintro e w1 ⟨rfl,hk,hp⟩)
  have HK:=hid hk;have HP:=hid hp
  clear hk hp
  go_wp2_with fail
  go_end0
  exact ⟨Kp.trans (Kp.of_below HB0.out) HK.out,rfl,HP.out⟩
theorem field_kind (k : Int) (s : ByteArray) (w : World) : (Instr.field 49 (.agg #[.int .i64 k,.string s]) 0).run Tryz.prog w = .ok (.int .i64 k) w:=by kernel_rfl
theorem field_text (k : Int) (s : ByteArray) (w : World) : (Instr.field 49 (.agg #[.int .i64 k,.string s]) 1).run Tryz.prog w = .ok (.string s) w:=by kernel_rfl
theorem take_calls {E : Env} (hE : EnvOk E) {W : World} {i : Nat} (h : Ps E W i) (hl : i < E.l.length) :
  Calls Tryz.prog 122 #[pB E] W fun e w'=>e = .returned (.string (tk E i).2) ∧ Kp E W w' ∧ Ps E w' (i + 1):=by
 have hn:=next_calls hE h
 have hps : ∀ W',Below W.heap.size W W' → Ps E W' i:=fun W' hb=>h.next hb
 have hlen:=hE.len
 have hw : wrap64 ((i : Int) + 1) = (i : Int) + 1:=by rw [IntWalk.wrap64_in];omega
 have hsz : (tk E i).2.size ≤ 140737488351232:=Nat.le_trans (hE.fit _ (List.mem_of_getElem? (tk_at hl))).size (by omega)
 obtain ⟨t,ht⟩ : ∃ t,tk E i = t:=⟨_,rfl⟩
 rw [ht] at hn hsz ⊢
 unfold tokV at hn
 have HC:=hid (fun W=>pr.clone_calls t.2 hsz W)
 have hft:=field_text
 obtain ⟨B,hB⟩ : ∃ B,E.B = B:=⟨_,rfl⟩
 unfold pB at hn ⊢
 have hc1 : ∀ W',Below W.heap.size W W' → W'.cell? ⟨E.B,1,none⟩ = some (.int .i64 (i : Int)):=fun W' hb=>(hps W' hb).blk.cell 1
 have hf1 : ∀ W',Below W.heap.size W W' → W'.frozen? ⟨E.B,1,none⟩ = false:=fun W' hb=>(hps W' hb).blk.frozen 1
 rw [hB] at hn hc1 hf1 ⊢
 have HN:=hid hn;have HPS:=hid hps;have HB:=hid hB;have H1:=hid hc1;have H2:=hid hf1;have HL:=hid hl
 clear hn hps h hB hc1 hf1 hlen ht hl
 go_enter Tryz.func122,Tryz.ntmps122
 go_wp2_with fail
 ((with_reducible refine HN.out.mono ?_);rintro e w1 ⟨rfl,hb1⟩)
 go_wp2_with fail
 ((with_reducible refine (HC.out _).mono ?_);rintro e w2 ⟨rfl,hb2⟩)
 have hb12:=hb1.trans (hb2.mono hb1.size)
 have a1:=H1.out _ hb12
 have a2:=H2.out _ hb12
 go_wp2_with fail
 go_ret
 have hm:=Ps.move hE (HPS.out _ hb12) HL.out _ rfl
 rw [HB.out] at hm
 exact ⟨rfl,Kp.trans (Kp.of_below hb12) hm.2,hm.1⟩
end Go.Proofs.YtlklhkkjcfmefaaGreatDoor.pa
