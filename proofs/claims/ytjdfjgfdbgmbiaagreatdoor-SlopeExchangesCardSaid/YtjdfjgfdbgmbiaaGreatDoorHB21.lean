/- Parts of the proof of the text YtjdfjgfdbgmbiaaGreatDoorHB39. -/
import Derived.Deep.AppendLies
import Derived.Test.YtjdfjgfdbgmbiaaGreatDoorHB1
import Derived.Test.YtjdfjgfdbgmbiaaGreatDoorHB17
import Derived.Test.YtjdfjgfdbgmbiaaGreatDoorHB18
import Derived.Test.YtjdfjgfdbgmbiaaGreatDoorHB20
import Derived.Test.YtjdfjgfdbgmbiaaGreatDoorHB6
set_option linter.all false
set_option maxRecDepth 100000
set_option maxHeartbeats 8000000
namespace Go.Proofs.YtjdfjgfdbgmbiaaGreatDoor
open Go.RowKit
def txtQ (n d:Int):List UInt8:=if d=1 then Lib.itoa n else Lib.itoa n++47::Lib.itoa d
def strT (n d:Int):ByteArray:=⟨(txtQ n d).toArray⟩
theorem mth_appendTo (n:Nat) (x:Int) (W:World):(method (n+1) 61 (.int .i64 x) "kingpost/rational.appendTo").run Tryz.prog W = .ok (289,.int .i64 x) W:=by kernel_rfl
theorem cell_old {w:World} {o:Obj} {a:Addr} {u:Value} (h:w.cell? a=some u):(w.alloc o).cell? a=some u:=old_fact (Below.refl _ _) h
theorem itoa_64 {z:Int} (h0 : -9223372036854775808<z) (h1:z≤9223372036854775807):(Lib.itoa z).length≤30:=by
 have:Lib.nDigits z.natAbs≤20:=(nDigits_le_iff _ 20 (by decide)).2 (Nat.lt_of_lt_of_le (show z.natAbs<9223372036854775809 by omega) (by decide))
 unfold Lib.itoa
 split
 ·rw [List.length_cons,Lib.decDigits_length];omega
 ·rw [Lib.decDigits_length,show z.toNat=z.natAbs by omega];omega
theorem textM_any (n d:Int) (w:World) (n0 : -9223372036854775808<n) (n1:n≤9223372036854775807) (d0 : -9223372036854775808<d) (d1:d≤9223372036854775807) (ht:Tab w) :
  Calls Tryz.prog 90 #[.agg #[.int .i64 n,.int .i64 d]] w fun e W'=>e = .returned (.string (strT n d))∧Below w.heap.size w W':=by
 have hn3:=itoa_64 n0 n1
 have ca:∀ W g c,RowR (w.heap.size+1) W [] g c→w.heap.size+1≤W.heap.size→Below w.heap.size w W→Calls Tryz.prog 289 #[.int .i64 n,.slice (some ⟨g,0,none⟩) 0 c] W fun e W'=>∃ g' c',e = .returned (.slice (some ⟨g',0,none⟩) (Lib.itoa n).length c')∧RowR (w.heap.size+1) W' (Lib.itoa n) g' c'∧Below (w.heap.size+1) W W':=fun W g c hr hB hb =>
  (mach_append (w.heap.size+1) 0 n [] g c rfl n0 n1 W hr hB (by simp) (ht.next hb) (fun _ W' hb'=>ht.next (hb.trans (hb'.mono (Nat.le_succ _))))).mono fun e W' ⟨g',c',h1,h2,h3⟩=>⟨g',c',by rw [h1,Nat.zero_add],h2,h3⟩
 have cb:∀ W g c,RowR (w.heap.size+1) W (Lib.itoa n ++ [47]) g c→w.heap.size+1≤W.heap.size→Below w.heap.size w W→Calls Tryz.prog 289 #[.int .i64 d,.slice (some ⟨g,0,none⟩) ((Lib.itoa n).length+1) c] W fun e W'=>∃ g' c',e = .returned (.slice (some ⟨g',0,none⟩) ((Lib.itoa n).length+1+(Lib.itoa d).length) c')∧RowR (w.heap.size+1) W' (Lib.itoa n ++ [47]++Lib.itoa d) g' c'∧Below (w.heap.size+1) W W':=fun W g c hr hB hb =>
  mach_append (w.heap.size+1) ((Lib.itoa n).length+1) d (Lib.itoa n ++ [47]) g c (by simp) d0 d1 W hr hB (by simp;omega) (ht.next hb) (fun _ W' hb'=>ht.next (hb.trans (hb'.mono (Nat.le_succ _))))
 have C:=Lib.hid (And.intro ca (And.intro (fun W=>mach_one d W) (And.intro cb hn3)))
 clear ca cb ht n0 n1 d0 d1 hn3
 have hal:Tryz.prog.arrayLen 151=40:=by simp [Program.arrayLen,Tryz.underlying151]
 have hsl:∀ W,(Instr.sliceAt 151 (.pointer (some ⟨w.heap.size+1,0,none⟩)) none (some (.int .i64 0)) none).run Tryz.prog W = .ok (.slice (some ⟨w.heap.size+1,0,none⟩) 0 40) W:=fun W=>by
  rw [run_sliceAt_array_h W 151 ⟨w.heap.size+1,0,none⟩ (by simp [Program.arrayLen,Program.elem,Tryz.underlying151]) .i64 0 (by omega) (by rw [hal];omega)]
  go_simp
 clear hal
 obtain ⟨i0,hi,hz0,hz1,hz2⟩:=info_parts info_u8
 have HI:=Lib.hid (And.intro hi (And.intro hz0 (And.intro hz1 hz2)));clear hi hz0 hz1 hz2
 go_enter Tryz.func90,Tryz.ntmps90
 go_wp2
 have c0:((w.alloc (.cells #[.int .i64 n,.int .i64 d] 83)).alloc (.cells #[.int .u8 0,.int .u8 0,.int .u8 0,.int .u8 0,.int .u8 0,.int .u8 0,.int .u8 0,.int .u8 0,.int .u8 0,.int .u8 0,.int .u8 0,.int .u8 0,.int .u8 0,.int .u8 0,.int .u8 0,.int .u8 0,.int .u8 0,.int .u8 0,.int .u8 0,.int .u8 0,.int .u8 0,.int .u8 0,.int .u8 0,.int .u8 0,.int .u8 0,.int .u8 0,.int .u8 0,.int .u8 0,.int .u8 0,.int .u8 0,.int .u8 0,.int .u8 0,.int .u8 0,.int .u8 0,.int .u8 0,.int .u8 0,.int .u8 0,.int .u8 0,.int .u8 0,.int .u8 0] 151)).cell? ⟨w.heap.size,0,none⟩=some (.int .i64 n):=cell_old (by go_cell)
 have c1:((w.alloc (.cells #[.int .i64 n,.int .i64 d] 83)).alloc (.cells #[.int .u8 0,.int .u8 0,.int .u8 0,.int .u8 0,.int .u8 0,.int .u8 0,.int .u8 0,.int .u8 0,.int .u8 0,.int .u8 0,.int .u8 0,.int .u8 0,.int .u8 0,.int .u8 0,.int .u8 0,.int .u8 0,.int .u8 0,.int .u8 0,.int .u8 0,.int .u8 0,.int .u8 0,.int .u8 0,.int .u8 0,.int .u8 0,.int .u8 0,.int .u8 0,.int .u8 0,.int .u8 0,.int .u8 0,.int .u8 0,.int .u8 0,.int .u8 0,.int .u8 0,.int .u8 0,.int .u8 0,.int .u8 0,.int .u8 0,.int .u8 0,.int .u8 0,.int .u8 0] 151)).cell? ⟨w.heap.size,1,none⟩=some (.int .i64 d):=cell_old (by go_cell)
 have hrow:RowR (w.heap.size+1) ((w.alloc (.cells #[.int .i64 n,.int .i64 d] 83)).alloc (.cells #[.int .u8 0,.int .u8 0,.int .u8 0,.int .u8 0,.int .u8 0,.int .u8 0,.int .u8 0,.int .u8 0,.int .u8 0,.int .u8 0,.int .u8 0,.int .u8 0,.int .u8 0,.int .u8 0,.int .u8 0,.int .u8 0,.int .u8 0,.int .u8 0,.int .u8 0,.int .u8 0,.int .u8 0,.int .u8 0,.int .u8 0,.int .u8 0,.int .u8 0,.int .u8 0,.int .u8 0,.int .u8 0,.int .u8 0,.int .u8 0,.int .u8 0,.int .u8 0,.int .u8 0,.int .u8 0,.int .u8 0,.int .u8 0,.int .u8 0,.int .u8 0,.int .u8 0,.int .u8 0] 151)) [] (w.heap.size+1) 40:=by
  have h:=heap_alloc_new (w.alloc (.cells #[.int .i64 n,.int .i64 d] 83)) (.cells #[.int .u8 0,.int .u8 0,.int .u8 0,.int .u8 0,.int .u8 0,.int .u8 0,.int .u8 0,.int .u8 0,.int .u8 0,.int .u8 0,.int .u8 0,.int .u8 0,.int .u8 0,.int .u8 0,.int .u8 0,.int .u8 0,.int .u8 0,.int .u8 0,.int .u8 0,.int .u8 0,.int .u8 0,.int .u8 0,.int .u8 0,.int .u8 0,.int .u8 0,.int .u8 0,.int .u8 0,.int .u8 0,.int .u8 0,.int .u8 0,.int .u8 0,.int .u8 0,.int .u8 0,.int .u8 0,.int .u8 0,.int .u8 0,.int .u8 0,.int .u8 0,.int .u8 0,.int .u8 0] 151)
  rw [World.size_alloc] at h
  exact RowR.new h rfl (by unfold maxLen;omega)
 have hbel:Below w.heap.size w ((w.alloc (.cells #[.int .i64 n,.int .i64 d] 83)).alloc (.cells #[.int .u8 0,.int .u8 0,.int .u8 0,.int .u8 0,.int .u8 0,.int .u8 0,.int .u8 0,.int .u8 0,.int .u8 0,.int .u8 0,.int .u8 0,.int .u8 0,.int .u8 0,.int .u8 0,.int .u8 0,.int .u8 0,.int .u8 0,.int .u8 0,.int .u8 0,.int .u8 0,.int .u8 0,.int .u8 0,.int .u8 0,.int .u8 0,.int .u8 0,.int .u8 0,.int .u8 0,.int .u8 0,.int .u8 0,.int .u8 0,.int .u8 0,.int .u8 0,.int .u8 0,.int .u8 0,.int .u8 0,.int .u8 0,.int .u8 0,.int .u8 0,.int .u8 0,.int .u8 0] 151)):=((Below.refl _ w).alloc (Nat.le_refl _) _).alloc (by rw [World.size_alloc];omega) _
 have hbel1:((w.alloc (.cells #[.int .i64 n,.int .i64 d] 83)).alloc (.cells #[.int .u8 0,.int .u8 0,.int .u8 0,.int .u8 0,.int .u8 0,.int .u8 0,.int .u8 0,.int .u8 0,.int .u8 0,.int .u8 0,.int .u8 0,.int .u8 0,.int .u8 0,.int .u8 0,.int .u8 0,.int .u8 0,.int .u8 0,.int .u8 0,.int .u8 0,.int .u8 0,.int .u8 0,.int .u8 0,.int .u8 0,.int .u8 0,.int .u8 0,.int .u8 0,.int .u8 0,.int .u8 0,.int .u8 0,.int .u8 0,.int .u8 0,.int .u8 0,.int .u8 0,.int .u8 0,.int .u8 0,.int .u8 0,.int .u8 0,.int .u8 0,.int .u8 0,.int .u8 0] 151)).heap.size=w.heap.size+2:=by rw [World.size_alloc,World.size_alloc]
 obtain ⟨W1,hW1⟩:∃ W,W=(w.alloc (.cells #[.int .i64 n,.int .i64 d] 83)).alloc (.cells #[.int .u8 0,.int .u8 0,.int .u8 0,.int .u8 0,.int .u8 0,.int .u8 0,.int .u8 0,.int .u8 0,.int .u8 0,.int .u8 0,.int .u8 0,.int .u8 0,.int .u8 0,.int .u8 0,.int .u8 0,.int .u8 0,.int .u8 0,.int .u8 0,.int .u8 0,.int .u8 0,.int .u8 0,.int .u8 0,.int .u8 0,.int .u8 0,.int .u8 0,.int .u8 0,.int .u8 0,.int .u8 0,.int .u8 0,.int .u8 0,.int .u8 0,.int .u8 0,.int .u8 0,.int .u8 0,.int .u8 0,.int .u8 0,.int .u8 0,.int .u8 0,.int .u8 0,.int .u8 0] 151):=⟨_,rfl⟩
 rw [←hW1] at hrow hbel hbel1 c0 c1 ⊢
 clear hW1
 generalize hk:w.heap.size=k at *
 have HK:=Lib.hid hk;clear hk
 have HR:=Lib.hid (And.intro (hrow.next (Below.refl _ W1).drew) (And.intro (show Below k w W1.drew from hbel.drew) hbel1))
 clear hrow hbel hbel1
 have mt:=mth_appendTo
 have en1:∀ args W,(callFunc 289 args).run Tryz.prog W = .ok (.enter 289 args) W:=enters_of Tryz.func289 (by kernel_rfl) rfl
 go_still_tail 4,(by kernel_rfl)
 change wpList _ _ _ _ _ W1.drew
 have d0:W1.drew.cell? ⟨k,0,none⟩=some (.int .i64 n):=c0;have d1:W1.drew.cell? ⟨k,1,none⟩=some (.int .i64 d):=c1
 clear c0 c1
 have hsz2:W1.drew.heap.size=k+2:=HR.out.2.2
 generalize W1.drew=W2 at *
 go_wp2_with fail
 refine (C.out.1 W2 (k+1) 40 HR.out.1 (by rw [hsz2];omega) HR.out.2.1).mono ?_
 rintro e w1 ⟨g1,c1,rfl,hr1,b1⟩
 have e0:=(b1.cell (p:=⟨k,0,none⟩) (Nat.lt_succ_self k)).trans d0;have e1:=(b1.cell (p:=⟨k,1,none⟩) (Nat.lt_succ_self k)).trans d1
 have H1:=Lib.hid (And.intro hr1 (HR.out.2.1.trans (b1.mono (Nat.le_succ k))))
 have hs1:k+1≤w1.heap.size:=Nat.le_trans (by rw [hsz2];omega) b1.size
 clear hr1 b1 d0 d1 HR mt en1 hsl hsz2
 by_cases h1:d=1
 ·have HT:=Lib.hid (show strT n d=⟨(Lib.itoa n).toArray⟩ by unfold strT txtQ;rw [if_pos h1])
  have hone:((d:Int)==1)=true:=by simp [h1]
  clear h1
  go_wp2_with fail
  refine (C.out.2.1 _).mono ?_
  rintro e w1 ⟨rfl,rfl⟩
  have H2:=H1
  rw [hone]
  clear hone
  obtain ⟨m,hm⟩:∃ m,Lib.itoa n=m:=⟨_,rfl⟩
  rw [hm] at HT
  have hconv:=run_convert_bytes_back (P:=Tryz.prog) w1 152 22 5 ⟨g1,0,none⟩ c1 m u8_ty Tryz.underlying5 Tryz.underlying22 (fun j hj=>by
   have:=H2.out.1.holds j (.int .u8 (m[j].toNat:Int)) (by rw [hm];simp [Lib.byteCells,List.getElem?_eq_getElem hj])
   rwa [←addr_add] at this)
  rw [hm]
  have H3:=Lib.hid H2.out.2
  clear H2 hm
  go_wp2
  go_ret
  refine ⟨?_,by rw [HK.out];exact H3.out⟩
  rw [HT.out];rfl
 ·have HT:=Lib.hid (show strT n d=⟨(Lib.itoa n ++ [47]++Lib.itoa d).toArray⟩ by unfold strT txtQ;rw [if_neg h1];simp)
  have hone:((d:Int)==1)=false:=by simp [h1]
  clear h1
  go_wp2_with fail
  refine (C.out.2.1 _).mono ?_
  rintro e w1 ⟨rfl,rfl⟩
  have H2:=H1
  rw [hone]
  clear hone
  have hs2:k+1≤w1.heap.size:=hs1
  have hnl:=C.out.2.2.2
  go_wp2_with fail
  have HW:=Lib.hid (H2.out.1.next (Below.refl _ w1).drew)
  go_region_held3 (fun w'=>w'.cell? ⟨k,0,none⟩=some (.int .i64 n)∧w'.cell? ⟨k,1,none⟩=some (.int .i64 d)) (first | exact ⟨e0,e1⟩ | (go_keep;done))
   (first
    | (refine step_append_rowR rfl _ _ 152 152 rfl 5 i0 u8_ty HI.out.1 HI.out.2.1 HI.out.2.2.1 HI.out.2.2.2 rfl rfl (H2.out.1.next (by go_grown)) _ [47] rfl (src_bytes u8_ty w1.heap.size 1 [47] 1 rfl (by
      intro j u hj
      match j with
      | 0=>rw [show u=Value.int .u8 47 from (Option.some.inj hj).symm];go_cell
      | j+1=>simp [Lib.byteCells] at hj)) (by simp;omega) (by simp;omega) ?_;intro w3 g3 c3 h3 b3;have bw:=(show Below (k+1) w1 _ from by go_grown).trans b3;have e0:=(bw.cell (p:=⟨k,0,none⟩) (Nat.lt_succ_self k)).trans e0;have e1:=(bw.cell (p:=⟨k,1,none⟩) (Nat.lt_succ_self k)).trans e1;have H3:=Lib.hid (And.intro h3 (H2.out.2.trans (bw.mono (Nat.le_succ k))));have hs3:k+1≤w3.heap.size:=Nat.le_trans hs2 bw.size;clear h3 b3 bw)
    | (go_at_call 289;refine (C.out.2.2.1 w3 g3 c3 H3.out.1 hs3 H3.out.2).mono ?_;rintro e w4 ⟨g4,c4,rfl,h4,b4⟩;have e0:=(b4.cell (p:=⟨k,0,none⟩) (Nat.lt_succ_self k)).trans e0;have e1:=(b4.cell (p:=⟨k,1,none⟩) (Nat.lt_succ_self k)).trans e1;have H4:=Lib.hid (And.intro h4 (H3.out.2.trans (b4.mono (Nat.le_succ k))));clear h4 b4))
  have hconv:=run_convert_bytes_back (P:=Tryz.prog) w4 152 22 5 ⟨g4,0,none⟩ c4 (Lib.itoa n ++ [47]++Lib.itoa d) u8_ty Tryz.underlying5 Tryz.underlying22 (fun j hj=>by
   have:=H4.out.1.holds j (.int .u8 ((Lib.itoa n ++ [47]++Lib.itoa d)[j].toNat:Int)) (by simp only [Lib.byteCells,List.getElem?_map,List.getElem?_eq_getElem hj];rfl)
   rwa [←addr_add] at this)
  have hlen3:(Lib.itoa n ++ [47]++Lib.itoa d).length=(Lib.itoa n).length+1+(Lib.itoa d).length:=by rw [List.length_append,List.length_append];rfl
  rw [hlen3] at hconv
  clear hlen3
  have H5:=Lib.hid H4.out.2
  rw [←HT.out] at hconv
  clear H4 HT
  go_wp2
  go_ret
  exact ⟨rfl,by rw [HK.out];exact H5.out⟩
theorem mth_appendToL (n:Nat) (s:ByteArray) (e:Int) (W:World):(method (n+1) 66 (.agg #[.string s,.int .i64 e]) "kingpost/rational.appendTo").run Tryz.prog W = .ok (302,.agg #[.string s,.int .i64 e]) W:=by kernel_rfl
theorem itoa_lim {z:Int} (h:short z):(Lib.itoa z).length≤301:=by rw [←strB_len];exact strB_size h
theorem textL_any (n d:Int) (w:World) (hn:short n) (hd:short d) :
  Calls Tryz.prog 91 #[.agg #[.string (strB n),.int .i64 0,.string (strB d),.int .i64 0]] w fun e W'=>e = .returned (.string (strT n d))∧Below w.heap.size w W':=by
 have hn3:=itoa_lim hn
 have hd3:=itoa_lim hd
 have ca:∀ W g c,RowR (w.heap.size+1) W [] g c→w.heap.size+1≤W.heap.size→Below w.heap.size w W→Calls Tryz.prog 302 #[.agg #[.string (strB n),.int .i64 0],.slice (some ⟨g,0,none⟩) 0 c] W fun e W'=>∃ g' c',e = .returned (.slice (some ⟨g',0,none⟩) (Lib.itoa n).length c')∧RowR (w.heap.size+1) W' (Lib.itoa n) g' c'∧Below (w.heap.size+1) W W':=fun W g c hr hB hb =>
  (long_append n [] (w.heap.size+1) g c 0 rfl W hr hB (by simp;omega)).mono fun e W' ⟨g',c',h1,h2,h3⟩=>⟨g',c',by rw [h1,Nat.zero_add],h2,h3⟩
 have cb:∀ W g c,RowR (w.heap.size+1) W (Lib.itoa n ++ [47]) g c→w.heap.size+1≤W.heap.size→Below w.heap.size w W→Calls Tryz.prog 302 #[.agg #[.string (strB d),.int .i64 0],.slice (some ⟨g,0,none⟩) ((Lib.itoa n).length+1) c] W fun e W'=>∃ g' c',e = .returned (.slice (some ⟨g',0,none⟩) ((Lib.itoa n).length+1+(Lib.itoa d).length) c')∧RowR (w.heap.size+1) W' (Lib.itoa n ++ [47]++Lib.itoa d) g' c'∧Below (w.heap.size+1) W W':=fun W g c hr hB hb =>
  long_append d (Lib.itoa n ++ [47]) (w.heap.size+1) g c ((Lib.itoa n).length+1) (by simp) W hr hB (by simp;omega)
 have C:=Lib.hid (And.intro ca (And.intro (fun W=>long_one d W) (And.intro cb hn3)))
 clear ca cb hn3 hd3 hn hd
 generalize strB n=sn at *
 generalize strB d=sd at *
 have hal:Tryz.prog.arrayLen 151=40:=by simp [Program.arrayLen,Tryz.underlying151]
 have hsl:∀ W,(Instr.sliceAt 151 (.pointer (some ⟨w.heap.size+1,0,none⟩)) none (some (.int .i64 0)) none).run Tryz.prog W = .ok (.slice (some ⟨w.heap.size+1,0,none⟩) 0 40) W:=fun W=>by
  rw [run_sliceAt_array_h W 151 ⟨w.heap.size+1,0,none⟩ (by simp [Program.arrayLen,Program.elem,Tryz.underlying151]) .i64 0 (by omega) (by rw [hal];omega)]
  go_simp
 clear hal
 obtain ⟨i0,hi,hz0,hz1,hz2⟩:=info_parts info_u8
 have HI:=Lib.hid (And.intro hi (And.intro hz0 (And.intro hz1 hz2)));clear hi hz0 hz1 hz2
 go_enter Tryz.func91,Tryz.ntmps91
 go_wp2
 have c0:((w.alloc (.cells #[.string sn,.int .i64 0,.string sd,.int .i64 0] 87)).alloc (.cells #[.int .u8 0,.int .u8 0,.int .u8 0,.int .u8 0,.int .u8 0,.int .u8 0,.int .u8 0,.int .u8 0,.int .u8 0,.int .u8 0,.int .u8 0,.int .u8 0,.int .u8 0,.int .u8 0,.int .u8 0,.int .u8 0,.int .u8 0,.int .u8 0,.int .u8 0,.int .u8 0,.int .u8 0,.int .u8 0,.int .u8 0,.int .u8 0,.int .u8 0,.int .u8 0,.int .u8 0,.int .u8 0,.int .u8 0,.int .u8 0,.int .u8 0,.int .u8 0,.int .u8 0,.int .u8 0,.int .u8 0,.int .u8 0,.int .u8 0,.int .u8 0,.int .u8 0,.int .u8 0] 151)).cell? ⟨w.heap.size,0,none⟩=some (.string sn):=cell_old (by go_cell)
 have c1:((w.alloc (.cells #[.string sn,.int .i64 0,.string sd,.int .i64 0] 87)).alloc (.cells #[.int .u8 0,.int .u8 0,.int .u8 0,.int .u8 0,.int .u8 0,.int .u8 0,.int .u8 0,.int .u8 0,.int .u8 0,.int .u8 0,.int .u8 0,.int .u8 0,.int .u8 0,.int .u8 0,.int .u8 0,.int .u8 0,.int .u8 0,.int .u8 0,.int .u8 0,.int .u8 0,.int .u8 0,.int .u8 0,.int .u8 0,.int .u8 0,.int .u8 0,.int .u8 0,.int .u8 0,.int .u8 0,.int .u8 0,.int .u8 0,.int .u8 0,.int .u8 0,.int .u8 0,.int .u8 0,.int .u8 0,.int .u8 0,.int .u8 0,.int .u8 0,.int .u8 0,.int .u8 0] 151)).cell? ⟨w.heap.size,1,none⟩=some (.int .i64 0):=cell_old (by go_cell)
 have c2:((w.alloc (.cells #[.string sn,.int .i64 0,.string sd,.int .i64 0] 87)).alloc (.cells #[.int .u8 0,.int .u8 0,.int .u8 0,.int .u8 0,.int .u8 0,.int .u8 0,.int .u8 0,.int .u8 0,.int .u8 0,.int .u8 0,.int .u8 0,.int .u8 0,.int .u8 0,.int .u8 0,.int .u8 0,.int .u8 0,.int .u8 0,.int .u8 0,.int .u8 0,.int .u8 0,.int .u8 0,.int .u8 0,.int .u8 0,.int .u8 0,.int .u8 0,.int .u8 0,.int .u8 0,.int .u8 0,.int .u8 0,.int .u8 0,.int .u8 0,.int .u8 0,.int .u8 0,.int .u8 0,.int .u8 0,.int .u8 0,.int .u8 0,.int .u8 0,.int .u8 0,.int .u8 0] 151)).cell? ⟨w.heap.size,2,none⟩=some (.string sd):=cell_old (by go_cell)
 have c3:((w.alloc (.cells #[.string sn,.int .i64 0,.string sd,.int .i64 0] 87)).alloc (.cells #[.int .u8 0,.int .u8 0,.int .u8 0,.int .u8 0,.int .u8 0,.int .u8 0,.int .u8 0,.int .u8 0,.int .u8 0,.int .u8 0,.int .u8 0,.int .u8 0,.int .u8 0,.int .u8 0,.int .u8 0,.int .u8 0,.int .u8 0,.int .u8 0,.int .u8 0,.int .u8 0,.int .u8 0,.int .u8 0,.int .u8 0,.int .u8 0,.int .u8 0,.int .u8 0,.int .u8 0,.int .u8 0,.int .u8 0,.int .u8 0,.int .u8 0,.int .u8 0,.int .u8 0,.int .u8 0,.int .u8 0,.int .u8 0,.int .u8 0,.int .u8 0,.int .u8 0,.int .u8 0] 151)).cell? ⟨w.heap.size,3,none⟩=some (.int .i64 0):=cell_old (by go_cell)
 have hrow:RowR (w.heap.size+1) ((w.alloc (.cells #[.string sn,.int .i64 0,.string sd,.int .i64 0] 87)).alloc (.cells #[.int .u8 0,.int .u8 0,.int .u8 0,.int .u8 0,.int .u8 0,.int .u8 0,.int .u8 0,.int .u8 0,.int .u8 0,.int .u8 0,.int .u8 0,.int .u8 0,.int .u8 0,.int .u8 0,.int .u8 0,.int .u8 0,.int .u8 0,.int .u8 0,.int .u8 0,.int .u8 0,.int .u8 0,.int .u8 0,.int .u8 0,.int .u8 0,.int .u8 0,.int .u8 0,.int .u8 0,.int .u8 0,.int .u8 0,.int .u8 0,.int .u8 0,.int .u8 0,.int .u8 0,.int .u8 0,.int .u8 0,.int .u8 0,.int .u8 0,.int .u8 0,.int .u8 0,.int .u8 0] 151)) [] (w.heap.size+1) 40:=by
  have h:=heap_alloc_new (w.alloc (.cells #[.string sn,.int .i64 0,.string sd,.int .i64 0] 87)) (.cells #[.int .u8 0,.int .u8 0,.int .u8 0,.int .u8 0,.int .u8 0,.int .u8 0,.int .u8 0,.int .u8 0,.int .u8 0,.int .u8 0,.int .u8 0,.int .u8 0,.int .u8 0,.int .u8 0,.int .u8 0,.int .u8 0,.int .u8 0,.int .u8 0,.int .u8 0,.int .u8 0,.int .u8 0,.int .u8 0,.int .u8 0,.int .u8 0,.int .u8 0,.int .u8 0,.int .u8 0,.int .u8 0,.int .u8 0,.int .u8 0,.int .u8 0,.int .u8 0,.int .u8 0,.int .u8 0,.int .u8 0,.int .u8 0,.int .u8 0,.int .u8 0,.int .u8 0,.int .u8 0] 151)
  rw [World.size_alloc] at h
  exact RowR.new h rfl (by unfold maxLen;omega)
 have hbel:Below w.heap.size w ((w.alloc (.cells #[.string sn,.int .i64 0,.string sd,.int .i64 0] 87)).alloc (.cells #[.int .u8 0,.int .u8 0,.int .u8 0,.int .u8 0,.int .u8 0,.int .u8 0,.int .u8 0,.int .u8 0,.int .u8 0,.int .u8 0,.int .u8 0,.int .u8 0,.int .u8 0,.int .u8 0,.int .u8 0,.int .u8 0,.int .u8 0,.int .u8 0,.int .u8 0,.int .u8 0,.int .u8 0,.int .u8 0,.int .u8 0,.int .u8 0,.int .u8 0,.int .u8 0,.int .u8 0,.int .u8 0,.int .u8 0,.int .u8 0,.int .u8 0,.int .u8 0,.int .u8 0,.int .u8 0,.int .u8 0,.int .u8 0,.int .u8 0,.int .u8 0,.int .u8 0,.int .u8 0] 151)):=((Below.refl _ w).alloc (Nat.le_refl _) _).alloc (by rw [World.size_alloc];omega) _
 have hbel1:((w.alloc (.cells #[.string sn,.int .i64 0,.string sd,.int .i64 0] 87)).alloc (.cells #[.int .u8 0,.int .u8 0,.int .u8 0,.int .u8 0,.int .u8 0,.int .u8 0,.int .u8 0,.int .u8 0,.int .u8 0,.int .u8 0,.int .u8 0,.int .u8 0,.int .u8 0,.int .u8 0,.int .u8 0,.int .u8 0,.int .u8 0,.int .u8 0,.int .u8 0,.int .u8 0,.int .u8 0,.int .u8 0,.int .u8 0,.int .u8 0,.int .u8 0,.int .u8 0,.int .u8 0,.int .u8 0,.int .u8 0,.int .u8 0,.int .u8 0,.int .u8 0,.int .u8 0,.int .u8 0,.int .u8 0,.int .u8 0,.int .u8 0,.int .u8 0,.int .u8 0,.int .u8 0] 151)).heap.size=w.heap.size+2:=by rw [World.size_alloc,World.size_alloc]
 obtain ⟨W1,hW1⟩:∃ W,W=(w.alloc (.cells #[.string sn,.int .i64 0,.string sd,.int .i64 0] 87)).alloc (.cells #[.int .u8 0,.int .u8 0,.int .u8 0,.int .u8 0,.int .u8 0,.int .u8 0,.int .u8 0,.int .u8 0,.int .u8 0,.int .u8 0,.int .u8 0,.int .u8 0,.int .u8 0,.int .u8 0,.int .u8 0,.int .u8 0,.int .u8 0,.int .u8 0,.int .u8 0,.int .u8 0,.int .u8 0,.int .u8 0,.int .u8 0,.int .u8 0,.int .u8 0,.int .u8 0,.int .u8 0,.int .u8 0,.int .u8 0,.int .u8 0,.int .u8 0,.int .u8 0,.int .u8 0,.int .u8 0,.int .u8 0,.int .u8 0,.int .u8 0,.int .u8 0,.int .u8 0,.int .u8 0] 151):=⟨_,rfl⟩
 rw [←hW1] at hrow hbel hbel1 c0 c1 c2 c3 ⊢
 clear hW1
 generalize hk:w.heap.size=k at *
 have HK:=Lib.hid hk;clear hk
 have HR:=Lib.hid (And.intro (hrow.next (Below.refl _ W1).drew) (And.intro (show Below k w W1.drew from hbel.drew) hbel1))
 clear hrow hbel hbel1
 have mt:=mth_appendToL
 have en1:∀ args W,(callFunc 302 args).run Tryz.prog W = .ok (.enter 302 args) W:=enters_of Tryz.func302 (by kernel_rfl) rfl
 go_still_tail 4,(by kernel_rfl)
 change wpList _ _ _ _ _ W1.drew
 have d0:W1.drew.cell? ⟨k,0,none⟩=some (.string sn):=c0;have d1:W1.drew.cell? ⟨k,1,none⟩=some (.int .i64 0):=c1;have d2:W1.drew.cell? ⟨k,2,none⟩=some (.string sd):=c2;have d3:W1.drew.cell? ⟨k,3,none⟩=some (.int .i64 0):=c3
 clear c0 c1 c2 c3
 have hsz2:W1.drew.heap.size=k+2:=HR.out.2.2
 generalize W1.drew=W2 at *
 go_wp2_with fail
 refine (C.out.1 W2 (k+1) 40 HR.out.1 (by rw [hsz2];omega) HR.out.2.1).mono ?_
 rintro e w1 ⟨g1,c1,rfl,hr1,b1⟩
 have e0:=(b1.cell (p:=⟨k,0,none⟩) (Nat.lt_succ_self k)).trans d0;have e1:=(b1.cell (p:=⟨k,1,none⟩) (Nat.lt_succ_self k)).trans d1;have e2:=(b1.cell (p:=⟨k,2,none⟩) (Nat.lt_succ_self k)).trans d2;have e3:=(b1.cell (p:=⟨k,3,none⟩) (Nat.lt_succ_self k)).trans d3
 have H1:=Lib.hid (And.intro hr1 (HR.out.2.1.trans (b1.mono (Nat.le_succ k))))
 have hs1:k+1≤w1.heap.size:=Nat.le_trans (by rw [hsz2];omega) b1.size
 clear hr1 b1 d0 d1 d2 d3 HR mt en1 hsl hsz2
 by_cases h1:d=1
 ·have HT:=Lib.hid (show strT n d=⟨(Lib.itoa n).toArray⟩ by unfold strT txtQ;rw [if_pos h1])
  have hone:(decide (d=1))=true:=by simp [h1]
  clear h1
  go_wp2_with fail
  refine (C.out.2.1 _).mono ?_
  rintro e w2 ⟨rfl,b2⟩
  have e0:=(b2.cell (p:=⟨k,0,none⟩) (Nat.lt_of_lt_of_le (Nat.lt_succ_self k) hs1)).trans e0;have e1:=(b2.cell (p:=⟨k,1,none⟩) (Nat.lt_of_lt_of_le (Nat.lt_succ_self k) hs1)).trans e1;have e2:=(b2.cell (p:=⟨k,2,none⟩) (Nat.lt_of_lt_of_le (Nat.lt_succ_self k) hs1)).trans e2;have e3:=(b2.cell (p:=⟨k,3,none⟩) (Nat.lt_of_lt_of_le (Nat.lt_succ_self k) hs1)).trans e3;have hss:=b2.size;have H2:=Lib.hid (And.intro (H1.out.1.next b2) (H1.out.2.trans (b2.mono (Nat.le_trans (Nat.le_succ k) hs1))))
  rw [hone]
  clear hone
  obtain ⟨m,hm⟩:∃ m,Lib.itoa n=m:=⟨_,rfl⟩
  rw [hm] at HT
  have hconv:=run_convert_bytes_back (P:=Tryz.prog) w2 152 22 5 ⟨g1,0,none⟩ c1 m u8_ty Tryz.underlying5 Tryz.underlying22 (fun j hj=>by
   have:=H2.out.1.holds j (.int .u8 (m[j].toNat:Int)) (by rw [hm];simp [Lib.byteCells,List.getElem?_eq_getElem hj])
   rwa [←addr_add] at this)
  rw [hm]
  have H3:=Lib.hid H2.out.2
  clear H2 hm
  go_wp2
  go_ret
  refine ⟨?_,by rw [HK.out];exact H3.out⟩
  rw [HT.out];rfl
 ·have HT:=Lib.hid (show strT n d=⟨(Lib.itoa n ++ [47]++Lib.itoa d).toArray⟩ by unfold strT txtQ;rw [if_neg h1];simp)
  have hone:(decide (d=1))=false:=by simp [h1]
  clear h1
  go_wp2_with fail
  refine (C.out.2.1 _).mono ?_
  rintro e w2 ⟨rfl,b2⟩
  have e0:=(b2.cell (p:=⟨k,0,none⟩) (Nat.lt_of_lt_of_le (Nat.lt_succ_self k) hs1)).trans e0;have e1:=(b2.cell (p:=⟨k,1,none⟩) (Nat.lt_of_lt_of_le (Nat.lt_succ_self k) hs1)).trans e1;have e2:=(b2.cell (p:=⟨k,2,none⟩) (Nat.lt_of_lt_of_le (Nat.lt_succ_self k) hs1)).trans e2;have e3:=(b2.cell (p:=⟨k,3,none⟩) (Nat.lt_of_lt_of_le (Nat.lt_succ_self k) hs1)).trans e3;have hss:=b2.size;have H2:=Lib.hid (And.intro (H1.out.1.next b2) (H1.out.2.trans (b2.mono (Nat.le_trans (Nat.le_succ k) hs1))))
  rw [hone]
  clear hone
  have hs2:k+1≤w2.heap.size:=Nat.le_trans hs1 hss
  have hnl:=C.out.2.2.2
  go_wp2_with fail
  have HW:=Lib.hid (H2.out.1.next (Below.refl _ w2).drew)
  go_region_held3 (fun w'=>w'.cell? ⟨k,0,none⟩=some (.string sn)∧w'.cell? ⟨k,1,none⟩=some (.int .i64 0)∧w'.cell? ⟨k,2,none⟩=some (.string sd)∧w'.cell? ⟨k,3,none⟩=some (.int .i64 0)) (first | exact ⟨e0,e1,e2,e3⟩ | (go_keep;done))
   (first
    | (refine step_append_rowR rfl _ _ 152 152 rfl 5 i0 u8_ty HI.out.1 HI.out.2.1 HI.out.2.2.1 HI.out.2.2.2 rfl rfl (H2.out.1.next (by go_grown)) _ [47] rfl (src_bytes u8_ty w2.heap.size 1 [47] 1 rfl (by
      intro j u hj
      match j with
      | 0=>rw [show u=Value.int .u8 47 from (Option.some.inj hj).symm];go_cell
      | j+1=>simp [Lib.byteCells] at hj)) (by simp;omega) (by simp;omega) ?_;intro w3 g3 c3 h3 b3;have bw:=(show Below (k+1) w2 _ from by go_grown).trans b3;have e0:=(bw.cell (p:=⟨k,0,none⟩) (Nat.lt_succ_self k)).trans e0;have e1:=(bw.cell (p:=⟨k,1,none⟩) (Nat.lt_succ_self k)).trans e1;have e2:=(bw.cell (p:=⟨k,2,none⟩) (Nat.lt_succ_self k)).trans e2;have e3:=(bw.cell (p:=⟨k,3,none⟩) (Nat.lt_succ_self k)).trans e3;have H3:=Lib.hid (And.intro h3 (H2.out.2.trans (bw.mono (Nat.le_succ k))));have hs3:k+1≤w3.heap.size:=Nat.le_trans hs2 bw.size;clear h3 b3 bw)
    | (go_at_call 302;refine (C.out.2.2.1 w3 g3 c3 H3.out.1 hs3 H3.out.2).mono ?_;rintro e w4 ⟨g4,c4,rfl,h4,b4⟩;have e0:=(b4.cell (p:=⟨k,0,none⟩) (Nat.lt_succ_self k)).trans e0;have e1:=(b4.cell (p:=⟨k,1,none⟩) (Nat.lt_succ_self k)).trans e1;have e2:=(b4.cell (p:=⟨k,2,none⟩) (Nat.lt_succ_self k)).trans e2;have e3:=(b4.cell (p:=⟨k,3,none⟩) (Nat.lt_succ_self k)).trans e3;have H4:=Lib.hid (And.intro h4 (H3.out.2.trans (b4.mono (Nat.le_succ k))));clear h4 b4))
  have hconv:=run_convert_bytes_back (P:=Tryz.prog) w4 152 22 5 ⟨g4,0,none⟩ c4 (Lib.itoa n ++ [47]++Lib.itoa d) u8_ty Tryz.underlying5 Tryz.underlying22 (fun j hj=>by
   have:=H4.out.1.holds j (.int .u8 ((Lib.itoa n ++ [47]++Lib.itoa d)[j].toNat:Int)) (by simp only [Lib.byteCells,List.getElem?_map,List.getElem?_eq_getElem hj];rfl)
   rwa [←addr_add] at this)
  have hlen3:(Lib.itoa n ++ [47]++Lib.itoa d).length=(Lib.itoa n).length+1+(Lib.itoa d).length:=by rw [List.length_append,List.length_append];rfl
  rw [hlen3] at hconv
  clear hlen3
  have H5:=Lib.hid H4.out.2
  rw [←HT.out] at hconv
  clear H4 HT
  go_wp2
  go_ret
  exact ⟨rfl,by rw [HK.out];exact H5.out⟩
theorem gcdZ_pos {n d:Int} (hd:d≠0):0<gcdZ n d:=by
 unfold gcdZ
 have:0<Nat.gcd n.natAbs d.natAbs:=Nat.gcd_pos_of_pos_right _ (by omega)
 omega
theorem strT_q (q:Rat):strT q.num q.den=strQ q:=by
 unfold strT strQ txtQ itoaQ
 by_cases h:q.den=1
 ·rw [if_pos h,if_pos (by omega)]
 ·rw [if_neg h,if_neg (by omega)]
theorem low_num {n d:Int} (hd:0<d):(Rat.divInt n d).num=n / gcdZ n d∧((Rat.divInt n d).den:Int)=d / gcdZ n d:=by
 have hg:((d.gcd n:Nat):Int)=gcdZ n d:=by unfold gcdZ;rw [Nat.gcd_comm];rfl
 refine ⟨?_,?_⟩
 ·rw [Rat.num_divInt,Int.sign_eq_one_of_pos hd,Int.one_mul,hg]
 ·rw [Rat.den_divInt,if_neg (by omega),Int.natCast_ediv,hg]
  congr 1;omega
theorem gcdZ_dvd (n d:Int):gcdZ n d∣n∧gcdZ n d∣d:=by
 unfold gcdZ
 exact ⟨Int.dvd_natAbs.1 (Int.natCast_dvd_natCast.2 (Nat.gcd_dvd_left _ _)),Int.dvd_natAbs.1 (Int.natCast_dvd_natCast.2 (Nat.gcd_dvd_right _ _))⟩
theorem low_t {n d:Int} (hd:0<d):strT (n.tdiv (gcdZ n d)) (d.tdiv (gcdZ n d))=strQ (Rat.divInt n d):=by
 obtain ⟨h1,h2⟩:=low_num (n:=n) hd
 obtain ⟨h3,h4⟩:=gcdZ_dvd n d
 rw [Int.tdiv_eq_ediv_of_dvd h3,Int.tdiv_eq_ediv_of_dvd h4,←h1,←h2];exact strT_q _
theorem low_f {n d:Int} (hd:0<d):strT (n.fdiv (gcdZ n d)) (d.fdiv (gcdZ n d))=strQ (Rat.divInt n d):=by
 obtain ⟨h1,h2⟩:=low_num (n:=n) hd
 obtain ⟨h3,h4⟩:=gcdZ_dvd n d
 rw [Int.fdiv_eq_ediv_of_dvd h3,Int.fdiv_eq_ediv_of_dvd h4,←h1,←h2];exact strT_q _
theorem low_1 {n d:Int} (hd:0<d) (hg:gcdZ n d=1):strT n d=strQ (Rat.divInt n d):=by
 have:=low_t (n:=n) hd
 rwa [hg,Int.tdiv_one,Int.tdiv_one] at this
theorem tdiv_b {n g:Int} (hg:0<g) (h0 : -9223372036854775808<n) (h1:n≤9223372036854775807) : -9223372036854775808<n.tdiv g∧n.tdiv g≤9223372036854775807:=by
 have:=Int.natAbs_tdiv_le_natAbs n g
 omega
theorem Cell2.put2 {w:World} {k:Nat} {x0 x1:Value} {W:World} (h:Cell2 w k x0 x1 W) (u v:Value):Cell2 w k u v ((W.setCell ⟨k,0,none⟩ u).setCell ⟨k,1,none⟩ v):=by
 obtain ⟨g0,g1⟩:=two_back h.c0 h.c1 u v
 refine ⟨?_,g1,by simp [go_sem,h.f0],by simp [go_sem,h.f1],by have:=h.size;simpa [World.setCell] using this,h.lo,h.put u v⟩
 rw [show ((W.setCell ⟨k,0,none⟩ u).setCell ⟨k,1,none⟩ v).cell? ⟨k,0,none⟩=(W.setCell ⟨k,0,none⟩ u).cell? ⟨k,0,none⟩ from World.cell?_setCell_other _ _ _ _ (by simp)]
 exact g0
def lowR (n d:Int):ByteArray:=if n=tooL∨d=tooL then ⟨#[]⟩ else strQ (Rat.divInt n d)
theorem mth_opp (n:Nat) (x:Int) (W:World):(method (n+1) 61 (.int .i64 x) "kingpost/rational.opposite").run Tryz.prog W = .ok (294,.int .i64 x) W:=by kernel_rfl
theorem mth_over (n:Nat) (x:Int) (W:World):(method (n+1) 61 (.int .i64 x) "kingpost/rational.over").run Tryz.prog W = .ok (295,.int .i64 x) W:=by kernel_rfl
theorem lowestM_bad (n d:Int) (w:World) (h:n=tooL∨d=tooL) :
  Calls Tryz.prog 60 #[.agg #[.int .i64 n,.int .i64 d]] w fun e W'=>e = .returned (.tuple #[.string ⟨#[]⟩,.int .i64 4])∧Below w.heap.size w W':=by
 have c:=fun W=>fitM_any n d W
 rw [if_pos h] at c
 have C:=Lib.hid c
 clear c h
 go_enter Tryz.func60,Tryz.ntmps60
 go_wp2_with fail
 refine (C.out _).mono ?_
 rintro e w1 ⟨rfl,b⟩
 have B:=Lib.hid (((Below.refl _ w).alloc (Nat.le_refl _) _).trans (b.mono (by simp)))
 clear b
 go_wp2
 go_ret2
 exact ⟨rfl,B.out⟩
theorem lowestM_p1 (n d:Int) (w:World) (n0 : -9223372036854775808<n) (n1:n≤9223372036854775807) (d0 : -9223372036854775808<d) (d1:d≤9223372036854775807) (hd:0<d) (hg:gcdZ n d=1) (ht:Tab w) (ht2:Tab64 w) :
  Calls Tryz.prog 60 #[.agg #[.int .i64 n,.int .i64 d]] w fun e W'=>e = .returned (.tuple #[.string (strT n d),.int .i64 0])∧Below w.heap.size w W':=by
 have cf:=fun W=>fitM_any n d W
 rw [if_neg (show ¬ (n=tooL∨d=tooL) by unfold tooL;omega)] at cf
 have cn:=fun W=>mach_neg d W
 rw [decide_eq_false (show ¬ d<0 by omega)] at cn
 have co1:=fun W=>still (mach_opp n W n0 n1)
 have co2:=fun W=>still (mach_opp d W d0 d1)
 have cg:=fun W (hW:Below w.heap.size w W)=>mach_divisor n d W (by omega) (by omega) (by omega) (by omega) (TabQ_next ht2 hW)
 have c1:=fun W=>mach_one (gcdZ n d) W
 rw [show (gcdZ n d==1)=true by simpa using hg] at c1
 have cv1:=trivial
 have cv2:=trivial
 have ct:=fun W (hW:Below w.heap.size w W)=>textM_any n d W (by omega) (by omega) (by omega) (by omega) (ht.next hW)
 have C:=Lib.hid (And.intro cf (And.intro cn (And.intro co1 (And.intro co2 (And.intro cg (And.intro c1 (And.intro cv1 (And.intro cv2 ct))))))))
 clear cf cn co1 co2 cg c1 cv1 cv2 ct ht ht2 n0 n1 d0 d1 hd hg
 rw [show ((Nat.gcd (n).natAbs (d).natAbs:Nat):Int)=gcdZ n d from rfl] at C
 generalize gcdZ n d=g at *
 go_enter Tryz.func60,Tryz.ntmps60
 go_wp2_with fail
 have hb:=Cell2.new w (.int .i64 n) (.int .i64 d) 83
 generalize w.alloc (.cells #[.int .i64 n,.int .i64 d] 83)=W0 at *
 generalize hk:w.heap.size=k at *
 have HK:=Lib.hid hk;clear hk
 have HB:=Lib.hid hb;clear hb
 refine (C.out.1 _).mono ?_
 rintro e w1 ⟨rfl,b⟩
 have H1:=Lib.hid (HB.out.next b);clear b HB
 have c0:=H1.out.c0
 have c1:=H1.out.c1
 go_wp2_with fail
 refine (C.out.2.1 _).mono ?_
 rintro e w' ⟨rfl,rfl⟩
 go_wp2_with fail
 refine (C.out.2.2.2.2.1 _ (by have:=H1.out.below;rwa [HK.out] at this)).mono ?_
 rintro e w' ⟨rfl,rfl⟩
 go_wp2_with fail
 refine (C.out.2.2.2.2.2.1 _).mono ?_
 rintro e w' ⟨rfl,rfl⟩
 go_wp2_with fail
 refine (C.out.2.2.2.2.2.2.2.2 _ (by have:=H1.out.below;rwa [HK.out] at this)).mono ?_
 rintro e w2 ⟨rfl,b⟩
 have H2:=Lib.hid (H1.out.below.trans (b.mono H1.out.below.size))
 clear b c0 c1
 go_wp2
 go_ret2
 exact ⟨rfl,by have:=H2.out;rwa [HK.out] at this ⊢⟩
theorem lowestM_pg (n d:Int) (w:World) (n0 : -9223372036854775808<n) (n1:n≤9223372036854775807) (d0 : -9223372036854775808<d) (d1:d≤9223372036854775807) (hd:0<d) (hg:¬ gcdZ n d=1) (ht:Tab w) (ht2:Tab64 w) :
  Calls Tryz.prog 60 #[.agg #[.int .i64 n,.int .i64 d]] w fun e W'=>e = .returned (.tuple #[.string (strT (n.tdiv (gcdZ n d)) (d.tdiv (gcdZ n d))),.int .i64 0])∧Below w.heap.size w W':=by
 have cf:=fun W=>fitM_any n d W
 rw [if_neg (show ¬ (n=tooL∨d=tooL) by unfold tooL;omega)] at cf
 have cn:=fun W=>mach_neg d W
 rw [decide_eq_false (show ¬ d<0 by omega)] at cn
 have co1:=fun W=>still (mach_opp n W n0 n1)
 have co2:=fun W=>still (mach_opp d W d0 d1)
 have cg:=fun W (hW:Below w.heap.size w W)=>mach_divisor n d W (by omega) (by omega) (by omega) (by omega) (TabQ_next ht2 hW)
 have c1:=fun W=>mach_one (gcdZ n d) W
 rw [show (gcdZ n d==1)=false by simpa using hg] at c1
 have hgp:=gcdZ_pos (n:=n) (d:=d) (by omega)
 have hgl:gcdZ n d≤9223372036854775807:=by
  have:gcdZ n d≤d:=Int.le_of_dvd (by omega) (gcdZ_dvd n d).2
  omega
 have bn:=tdiv_b (n:=n) hgp (by omega) (by omega)
 have bd:=tdiv_b (n:=d) hgp (by omega) (by omega)
 have cv1:=fun W=>still (mach_over n (gcdZ n d) W (by omega) (by omega) hgp hgl)
 have cv2:=fun W=>still (mach_over d (gcdZ n d) W (by omega) (by omega) hgp hgl)
 have ct:=fun W (hW:Below w.heap.size w W)=>textM_any (n.tdiv (gcdZ n d)) (d.tdiv (gcdZ n d)) W bn.1 bn.2 bd.1 bd.2 (ht.next hW)
 clear hgp hgl bn bd
 have C:=Lib.hid (And.intro cf (And.intro cn (And.intro co1 (And.intro co2 (And.intro cg (And.intro c1 (And.intro cv1 (And.intro cv2 ct))))))))
 clear cf cn co1 co2 cg c1 cv1 cv2 ct ht ht2 n0 n1 d0 d1 hd hg
 rw [show ((Nat.gcd (n).natAbs (d).natAbs:Nat):Int)=gcdZ n d from rfl] at C
 generalize gcdZ n d=g at *
 go_enter Tryz.func60,Tryz.ntmps60
 go_wp2_with fail
 have hb:=Cell2.new w (.int .i64 n) (.int .i64 d) 83
 generalize w.alloc (.cells #[.int .i64 n,.int .i64 d] 83)=W0 at *
 generalize hk:w.heap.size=k at *
 have HK:=Lib.hid hk;clear hk
 have HB:=Lib.hid hb;clear hb
 refine (C.out.1 _).mono ?_
 rintro e w1 ⟨rfl,b⟩
 have H1:=Lib.hid (HB.out.next b);clear b HB
 have c0:=H1.out.c0
 have c1:=H1.out.c1
 go_wp2_with fail
 refine (C.out.2.1 _).mono ?_
 rintro e w' ⟨rfl,rfl⟩
 go_wp2_with fail
 refine (C.out.2.2.2.2.1 _ (by have:=H1.out.below;rwa [HK.out] at this)).mono ?_
 rintro e w' ⟨rfl,rfl⟩
 go_wp2_with fail
 refine (C.out.2.2.2.2.2.1 _).mono ?_
 rintro e w' ⟨rfl,rfl⟩
 have f0:=H1.out.f0
 have f1:=H1.out.f1
 go_wp2
 have H2:=Lib.hid (show Cell2 w k _ _ w1.drew from H1.out.next (Below.refl _ _).drew)
 clear H1
 have c0:=H2.out.c0
 have c1:=H2.out.c1
 have mt:=mth_over
 have en1:∀ args W,(callFunc 295 args).run Tryz.prog W = .ok (.enter 295 args) W:=enters_of Tryz.func295 (by kernel_rfl) rfl
 go_still_tail 10,(by kernel_rfl)
 still_call (C.out.2.2.2.2.2.2.1 _)
 repeat still_step
 still_call (C.out.2.2.2.2.2.2.2.1 _)
 repeat still_step
 refine wpStill_nil ?_
 change wpList _ _ _ _ _ w1.drew
 clear c0 c1 f0 f1 mt en1
 generalize w1.drew=w1 at *
 have f0:=H2.out.f0
 have f1:=H2.out.f1
 have H1:=Lib.hid (H2.out.put2 (.int .i64 (n.tdiv g)) (.int .i64 (d.tdiv g)))
 have c0:=H1.out.c0
 have c1:=H1.out.c1
 have d0:=H2.out.c0
 have d1:=H2.out.c1
 obtain ⟨g0,g1⟩:=two_back d0 d1 (.int .i64 (n.tdiv g)) (.int .i64 (d.tdiv g))
 clear H2
 go_wp2_with fail
 clear f0 f1 d0 d1 g0 g1
 generalize (w1.setCell ⟨k,0,none⟩ (.int .i64 (n.tdiv g))).setCell ⟨k,1,none⟩ (.int .i64 (d.tdiv g))=w1 at *
 go_wp2_with fail
 refine (C.out.2.2.2.2.2.2.2.2 _ (by have:=H1.out.below;rwa [HK.out] at this)).mono ?_
 rintro e w2 ⟨rfl,b⟩
 have H2:=Lib.hid (H1.out.below.trans (b.mono H1.out.below.size))
 clear b c0 c1
 go_wp2
 go_ret2
 exact ⟨rfl,by have:=H2.out;rwa [HK.out] at this ⊢⟩
end Go.Proofs.YtjdfjgfdbgmbiaaGreatDoor
