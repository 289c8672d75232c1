/- Parts of the proof of the text YtjdomibbaemdnaaGreatDoorZK42. -/
import Derived.Deep.CutRange
import Derived.Deep.RegionWith
import Derived.Test.YtjdomibbaemdnaaGreatDoorZK1
import Derived.Test.YtjdomibbaemdnaaGreatDoorZK17
import Derived.Test.YtjdomibbaemdnaaGreatDoorZK18
import Derived.Test.YtjdomibbaemdnaaGreatDoorZK20
import Derived.Test.YtjdomibbaemdnaaGreatDoorZK9
set_option linter.all false
set_option maxRecDepth 100000
set_option maxHeartbeats 8000000
namespace Go.Proofs.YtjdomibbaemdnaaGreatDoor
open Go.RowKit
theorem ol (n:Nat) (s:ByteArray) (e:Int) (W:World):(method (n+1) 103 (.agg #[.string s,.int .i64 e]) "kingpost/rational.appendTo").run Tryz.prog W = .ok (280,.agg #[.string s,.int .i64 e]) W:=by kernel_rfl
theorem qG {z:Int} (h:short z):(Lib.itoa z).length≤301:=by rw [←fQ];exact aG h
theorem oE (n d:Int) (w:World) (hn:short n) (hd:short d) :
  Calls Tryz.prog 178 #[.agg #[.string (aa n),.int .i64 0,.string (aa d),.int .i64 0]] w fun e W'=>e = .returned (.string (dc n d))∧Below w.heap.size w W':=by
 have hn3:=qG hn
 have hd3:=qG hd
 have ca:∀ W g c,RowR (w.heap.size+1) W [] g c→w.heap.size+1≤W.heap.size→Below w.heap.size w W→Calls Tryz.prog 280 #[.agg #[.string (aa n),.int .i64 0],.slice (some ⟨g,0,none⟩) 0 c] W fun e W'=>∃ g' c',e = .returned (.slice (some ⟨g',0,none⟩) (Lib.itoa n).length c')∧RowR (w.heap.size+1) W' (Lib.itoa n) g' c'∧Below (w.heap.size+1) W W':=fun W g c hr hB hb =>
  (lI n [] (w.heap.size+1) g c 0 rfl W hr hB (by simp;omega)).mono fun e W' ⟨g',c',h1,h2,h3⟩=>⟨g',c',by rw [h1,Nat.zero_add],h2,h3⟩
 have cb:∀ W g c,RowR (w.heap.size+1) W (Lib.itoa n ++ [47]) g c→w.heap.size+1≤W.heap.size→Below w.heap.size w W→Calls Tryz.prog 280 #[.agg #[.string (aa d),.int .i64 0],.slice (some ⟨g,0,none⟩) ((Lib.itoa n).length+1) c] W fun e W'=>∃ g' c',e = .returned (.slice (some ⟨g',0,none⟩) ((Lib.itoa n).length+1+(Lib.itoa d).length) c')∧RowR (w.heap.size+1) W' (Lib.itoa n ++ [47]++Lib.itoa d) g' c'∧Below (w.heap.size+1) W W':=fun W g c hr hB hb =>
  lI d (Lib.itoa n ++ [47]) (w.heap.size+1) g c ((Lib.itoa n).length+1) (by simp) W hr hB (by simp;omega)
 have C:=Ha (Hb ca (Hb (fun W=>jV d W) (Hb cb hn3)))
 clear ca cb hn3 hd3 hn hd
 generalize aa n=sn at *
 generalize aa d=sd at *
 have hal:Tryz.prog.arrayLen 243=40:=by simp [Program.arrayLen,Tryz.underlying243]
 have hsl:∀ W,(Instr.sliceAt 243 (.pointer (some ⟨w.heap.size+1,0,none⟩)) none (some (.int .i64 0)) none).run Tryz.prog W = .ok (.slice (some ⟨w.heap.size+1,0,none⟩) 0 40) W:=fun W=>by
  rw [run_sliceAt_array_h W 243 ⟨w.heap.size+1,0,none⟩ (by simp [Program.arrayLen,Program.elem,Tryz.underlying243]) .i64 0 (by omega) (by rw [hal];omega)]
  go_simp
 clear hal
 obtain ⟨i0,hi,hz0,hz1,hz2⟩:=info_parts eh
 have HI:=Ha (Hb hi (Hb hz0 (Hb hz1 hz2)));clear hi hz0 hz1 hz2
 go_enter Tryz.func178,Tryz.ntmps178
 go_wp2
 have c0:((w.alloc (.cells #[.string sn,.int .i64 0,.string sd,.int .i64 0] 140)).alloc (.cells #[.int .u8 0,.int .u8 0,.int .u8 0,.int .u8 0,.int .u8 0,.int .u8 0,.int .u8 0,.int .u8 0,.int .u8 0,.int .u8 0,.int .u8 0,.int .u8 0,.int .u8 0,.int .u8 0,.int .u8 0,.int .u8 0,.int .u8 0,.int .u8 0,.int .u8 0,.int .u8 0,.int .u8 0,.int .u8 0,.int .u8 0,.int .u8 0,.int .u8 0,.int .u8 0,.int .u8 0,.int .u8 0,.int .u8 0,.int .u8 0,.int .u8 0,.int .u8 0,.int .u8 0,.int .u8 0,.int .u8 0,.int .u8 0,.int .u8 0,.int .u8 0,.int .u8 0,.int .u8 0] 243)).cell? ⟨w.heap.size,0,none⟩=some (.string sn):=gF (by go_cell)
 have c1:((w.alloc (.cells #[.string sn,.int .i64 0,.string sd,.int .i64 0] 140)).alloc (.cells #[.int .u8 0,.int .u8 0,.int .u8 0,.int .u8 0,.int .u8 0,.int .u8 0,.int .u8 0,.int .u8 0,.int .u8 0,.int .u8 0,.int .u8 0,.int .u8 0,.int .u8 0,.int .u8 0,.int .u8 0,.int .u8 0,.int .u8 0,.int .u8 0,.int .u8 0,.int .u8 0,.int .u8 0,.int .u8 0,.int .u8 0,.int .u8 0,.int .u8 0,.int .u8 0,.int .u8 0,.int .u8 0,.int .u8 0,.int .u8 0,.int .u8 0,.int .u8 0,.int .u8 0,.int .u8 0,.int .u8 0,.int .u8 0,.int .u8 0,.int .u8 0,.int .u8 0,.int .u8 0] 243)).cell? ⟨w.heap.size,1,none⟩=some (.int .i64 0):=gF (by go_cell)
 have c2:((w.alloc (.cells #[.string sn,.int .i64 0,.string sd,.int .i64 0] 140)).alloc (.cells #[.int .u8 0,.int .u8 0,.int .u8 0,.int .u8 0,.int .u8 0,.int .u8 0,.int .u8 0,.int .u8 0,.int .u8 0,.int .u8 0,.int .u8 0,.int .u8 0,.int .u8 0,.int .u8 0,.int .u8 0,.int .u8 0,.int .u8 0,.int .u8 0,.int .u8 0,.int .u8 0,.int .u8 0,.int .u8 0,.int .u8 0,.int .u8 0,.int .u8 0,.int .u8 0,.int .u8 0,.int .u8 0,.int .u8 0,.int .u8 0,.int .u8 0,.int .u8 0,.int .u8 0,.int .u8 0,.int .u8 0,.int .u8 0,.int .u8 0,.int .u8 0,.int .u8 0,.int .u8 0] 243)).cell? ⟨w.heap.size,2,none⟩=some (.string sd):=gF (by go_cell)
 have c3:((w.alloc (.cells #[.string sn,.int .i64 0,.string sd,.int .i64 0] 140)).alloc (.cells #[.int .u8 0,.int .u8 0,.int .u8 0,.int .u8 0,.int .u8 0,.int .u8 0,.int .u8 0,.int .u8 0,.int .u8 0,.int .u8 0,.int .u8 0,.int .u8 0,.int .u8 0,.int .u8 0,.int .u8 0,.int .u8 0,.int .u8 0,.int .u8 0,.int .u8 0,.int .u8 0,.int .u8 0,.int .u8 0,.int .u8 0,.int .u8 0,.int .u8 0,.int .u8 0,.int .u8 0,.int .u8 0,.int .u8 0,.int .u8 0,.int .u8 0,.int .u8 0,.int .u8 0,.int .u8 0,.int .u8 0,.int .u8 0,.int .u8 0,.int .u8 0,.int .u8 0,.int .u8 0] 243)).cell? ⟨w.heap.size,3,none⟩=some (.int .i64 0):=gF (by go_cell)
 have hrow:RowR (w.heap.size+1) ((w.alloc (.cells #[.string sn,.int .i64 0,.string sd,.int .i64 0] 140)).alloc (.cells #[.int .u8 0,.int .u8 0,.int .u8 0,.int .u8 0,.int .u8 0,.int .u8 0,.int .u8 0,.int .u8 0,.int .u8 0,.int .u8 0,.int .u8 0,.int .u8 0,.int .u8 0,.int .u8 0,.int .u8 0,.int .u8 0,.int .u8 0,.int .u8 0,.int .u8 0,.int .u8 0,.int .u8 0,.int .u8 0,.int .u8 0,.int .u8 0,.int .u8 0,.int .u8 0,.int .u8 0,.int .u8 0,.int .u8 0,.int .u8 0,.int .u8 0,.int .u8 0,.int .u8 0,.int .u8 0,.int .u8 0,.int .u8 0,.int .u8 0,.int .u8 0,.int .u8 0,.int .u8 0] 243)) [] (w.heap.size+1) 40:=by
  have h:=heap_alloc_new (w.alloc (.cells #[.string sn,.int .i64 0,.string sd,.int .i64 0] 140)) (.cells #[.int .u8 0,.int .u8 0,.int .u8 0,.int .u8 0,.int .u8 0,.int .u8 0,.int .u8 0,.int .u8 0,.int .u8 0,.int .u8 0,.int .u8 0,.int .u8 0,.int .u8 0,.int .u8 0,.int .u8 0,.int .u8 0,.int .u8 0,.int .u8 0,.int .u8 0,.int .u8 0,.int .u8 0,.int .u8 0,.int .u8 0,.int .u8 0,.int .u8 0,.int .u8 0,.int .u8 0,.int .u8 0,.int .u8 0,.int .u8 0,.int .u8 0,.int .u8 0,.int .u8 0,.int .u8 0,.int .u8 0,.int .u8 0,.int .u8 0,.int .u8 0,.int .u8 0,.int .u8 0] 243)
  rw [World.size_alloc] at h
  exact RowR.new h rfl (by unfold maxLen;omega)
 have hbel:Below w.heap.size w ((w.alloc (.cells #[.string sn,.int .i64 0,.string sd,.int .i64 0] 140)).alloc (.cells #[.int .u8 0,.int .u8 0,.int .u8 0,.int .u8 0,.int .u8 0,.int .u8 0,.int .u8 0,.int .u8 0,.int .u8 0,.int .u8 0,.int .u8 0,.int .u8 0,.int .u8 0,.int .u8 0,.int .u8 0,.int .u8 0,.int .u8 0,.int .u8 0,.int .u8 0,.int .u8 0,.int .u8 0,.int .u8 0,.int .u8 0,.int .u8 0,.int .u8 0,.int .u8 0,.int .u8 0,.int .u8 0,.int .u8 0,.int .u8 0,.int .u8 0,.int .u8 0,.int .u8 0,.int .u8 0,.int .u8 0,.int .u8 0,.int .u8 0,.int .u8 0,.int .u8 0,.int .u8 0] 243)):=((Below.refl _ w).alloc (Nat.le_refl _) _).alloc (by rw [World.size_alloc];omega) _
 have hbel1:((w.alloc (.cells #[.string sn,.int .i64 0,.string sd,.int .i64 0] 140)).alloc (.cells #[.int .u8 0,.int .u8 0,.int .u8 0,.int .u8 0,.int .u8 0,.int .u8 0,.int .u8 0,.int .u8 0,.int .u8 0,.int .u8 0,.int .u8 0,.int .u8 0,.int .u8 0,.int .u8 0,.int .u8 0,.int .u8 0,.int .u8 0,.int .u8 0,.int .u8 0,.int .u8 0,.int .u8 0,.int .u8 0,.int .u8 0,.int .u8 0,.int .u8 0,.int .u8 0,.int .u8 0,.int .u8 0,.int .u8 0,.int .u8 0,.int .u8 0,.int .u8 0,.int .u8 0,.int .u8 0,.int .u8 0,.int .u8 0,.int .u8 0,.int .u8 0,.int .u8 0,.int .u8 0] 243)).heap.size=w.heap.size+2:=by rw [World.size_alloc,World.size_alloc]
 obtain ⟨W1,hW1⟩:∃ W,W=(w.alloc (.cells #[.string sn,.int .i64 0,.string sd,.int .i64 0] 140)).alloc (.cells #[.int .u8 0,.int .u8 0,.int .u8 0,.int .u8 0,.int .u8 0,.int .u8 0,.int .u8 0,.int .u8 0,.int .u8 0,.int .u8 0,.int .u8 0,.int .u8 0,.int .u8 0,.int .u8 0,.int .u8 0,.int .u8 0,.int .u8 0,.int .u8 0,.int .u8 0,.int .u8 0,.int .u8 0,.int .u8 0,.int .u8 0,.int .u8 0,.int .u8 0,.int .u8 0,.int .u8 0,.int .u8 0,.int .u8 0,.int .u8 0,.int .u8 0,.int .u8 0,.int .u8 0,.int .u8 0,.int .u8 0,.int .u8 0,.int .u8 0,.int .u8 0,.int .u8 0,.int .u8 0] 243):=⟨_,rfl⟩
 rw [←hW1] at hrow hbel hbel1 c0 c1 c2 c3 ⊢
 clear hW1
 generalize hk:w.heap.size=k at *
 have HK:=Ha hk;clear hk
 have HR:=Ha (Hb (hrow.next (Below.refl _ W1).drew) (Hb (show Below k w W1.drew from hbel.drew) hbel1))
 clear hrow hbel hbel1
 have mt:=ol
 have en1:∀ args W,(callFunc 280 args).run Tryz.prog W = .ok (.enter 280 args) W:=enters_of Tryz.func280 (by kernel_rfl) rfl
 go_still_tail 4,(by kernel_rfl)
 change wpList _ _ _ _ _ W1.drew
 have d0:W1.drew.cell? ⟨k,0,none⟩=some (.string sn):=c0;have d1:W1.drew.cell? ⟨k,1,none⟩=some (.int .i64 0):=c1;have d2:W1.drew.cell? ⟨k,2,none⟩=some (.string sd):=c2;have d3:W1.drew.cell? ⟨k,3,none⟩=some (.int .i64 0):=c3
 clear c0 c1 c2 c3
 have hsz2:W1.drew.heap.size=k+2:=HR.out.2.2
 generalize W1.drew=W2 at *
 go_wp2_with fail
 refine (C.out.1 W2 (k+1) 40 HR.out.1 (by rw [hsz2];omega) HR.out.2.1).mono ?_
 rintro e w1 ⟨g1,c1,rfl,hr1,b1⟩
 have e0:=(b1.cell (p:=⟨k,0,none⟩) (Nat.lt_succ_self k)).trans d0;have e1:=(b1.cell (p:=⟨k,1,none⟩) (Nat.lt_succ_self k)).trans d1;have e2:=(b1.cell (p:=⟨k,2,none⟩) (Nat.lt_succ_self k)).trans d2;have e3:=(b1.cell (p:=⟨k,3,none⟩) (Nat.lt_succ_self k)).trans d3
 have H1:=Ha (Hb hr1 (HR.out.2.1.trans (b1.mono (Nat.le_succ k))))
 have hs1:k+1≤w1.heap.size:=Nat.le_trans (by rw [hsz2];omega) b1.size
 clear hr1 b1 d0 d1 d2 d3 HR mt en1 hsl hsz2
 by_cases h1:d=1
 ·have HT:=Ha (show dc n d=⟨(Lib.itoa n).toArray⟩ by unfold dc mQ;rw [if_pos h1])
  have hone:(decide (d=1))=true:=by simp [h1]
  clear h1
  go_wp2_with fail
  refine (C.out.2.1 _).mono ?_
  rintro e w2 ⟨rfl,b2⟩
  have e0:=(b2.cell (p:=⟨k,0,none⟩) (Nat.lt_of_lt_of_le (Nat.lt_succ_self k) hs1)).trans e0;have e1:=(b2.cell (p:=⟨k,1,none⟩) (Nat.lt_of_lt_of_le (Nat.lt_succ_self k) hs1)).trans e1;have e2:=(b2.cell (p:=⟨k,2,none⟩) (Nat.lt_of_lt_of_le (Nat.lt_succ_self k) hs1)).trans e2;have e3:=(b2.cell (p:=⟨k,3,none⟩) (Nat.lt_of_lt_of_le (Nat.lt_succ_self k) hs1)).trans e3;have hss:=b2.size;have H2:=Ha (Hb (H1.out.1.next b2) (H1.out.2.trans (b2.mono (Nat.le_trans (Nat.le_succ k) hs1))))
  rw [hone]
  clear hone
  obtain ⟨m,hm⟩:∃ m,Lib.itoa n=m:=⟨_,rfl⟩
  rw [hm] at HT
  have hconv:=run_convert_bytes_back (P:=Tryz.prog) w2 115 22 5 ⟨g1,0,none⟩ c1 m gE Tryz.underlying5 Tryz.underlying22 (fun j hj=>by
   have:=H2.out.1.holds j (.int .u8 (m[j].toNat:Int)) (by rw [hm];simp [Lib.byteCells,List.getElem?_eq_getElem hj])
   rwa [←addr_add] at this)
  rw [hm]
  have H3:=Ha H2.out.2
  clear H2 hm
  go_wp2
  go_ret
  refine ⟨?_,by rw [HK.out];exact H3.out⟩
  rw [HT.out];rfl
 ·have HT:=Ha (show dc n d=⟨(Lib.itoa n ++ [47]++Lib.itoa d).toArray⟩ by unfold dc mQ;rw [if_neg h1];simp)
  have hone:(decide (d=1))=false:=by simp [h1]
  clear h1
  go_wp2_with fail
  refine (C.out.2.1 _).mono ?_
  rintro e w2 ⟨rfl,b2⟩
  have e0:=(b2.cell (p:=⟨k,0,none⟩) (Nat.lt_of_lt_of_le (Nat.lt_succ_self k) hs1)).trans e0;have e1:=(b2.cell (p:=⟨k,1,none⟩) (Nat.lt_of_lt_of_le (Nat.lt_succ_self k) hs1)).trans e1;have e2:=(b2.cell (p:=⟨k,2,none⟩) (Nat.lt_of_lt_of_le (Nat.lt_succ_self k) hs1)).trans e2;have e3:=(b2.cell (p:=⟨k,3,none⟩) (Nat.lt_of_lt_of_le (Nat.lt_succ_self k) hs1)).trans e3;have hss:=b2.size;have H2:=Ha (Hb (H1.out.1.next b2) (H1.out.2.trans (b2.mono (Nat.le_trans (Nat.le_succ k) hs1))))
  rw [hone]
  clear hone
  have hs2:k+1≤w2.heap.size:=Nat.le_trans hs1 hss
  have hnl:=C.out.2.2.2
  go_wp2_with fail
  have HW:=Ha (H2.out.1.next (Below.refl _ w2).drew)
  go_region_held3 (fun w'=>w'.cell? ⟨k,0,none⟩=some (.string sn)∧w'.cell? ⟨k,1,none⟩=some (.int .i64 0)∧w'.cell? ⟨k,2,none⟩=some (.string sd)∧w'.cell? ⟨k,3,none⟩=some (.int .i64 0)) (first | exact ⟨e0,e1,e2,e3⟩ | (go_keep;done))
   (first
    | (refine gB rfl _ _ 115 115 rfl 5 i0 gE HI.out.1 HI.out.2.1 HI.out.2.2.1 HI.out.2.2.2 rfl rfl (H2.out.1.next (by go_grown)) _ [47] rfl (i8 gE w2.heap.size 1 [47] 1 rfl (by
      intro j u hj
      match j with
      | 0=>rw [show u=Value.int .u8 47 from (Option.some.inj hj).symm];go_cell
      | j+1=>simp [Lib.byteCells] at hj)) (by simp;omega) (by simp;omega) ?_;intro w3 g3 c3 h3 b3;have bw:=(show Below (k+1) w2 _ from by go_grown).trans b3;have e0:=(bw.cell (p:=⟨k,0,none⟩) (Nat.lt_succ_self k)).trans e0;have e1:=(bw.cell (p:=⟨k,1,none⟩) (Nat.lt_succ_self k)).trans e1;have e2:=(bw.cell (p:=⟨k,2,none⟩) (Nat.lt_succ_self k)).trans e2;have e3:=(bw.cell (p:=⟨k,3,none⟩) (Nat.lt_succ_self k)).trans e3;have H3:=Ha (Hb h3 (H2.out.2.trans (bw.mono (Nat.le_succ k))));have hs3:k+1≤w3.heap.size:=Nat.le_trans hs2 bw.size;clear h3 b3 bw)
    | (go_at_call 280;refine (C.out.2.2.1 w3 g3 c3 H3.out.1 hs3 H3.out.2).mono ?_;rintro e w4 ⟨g4,c4,rfl,h4,b4⟩;have e0:=(b4.cell (p:=⟨k,0,none⟩) (Nat.lt_succ_self k)).trans e0;have e1:=(b4.cell (p:=⟨k,1,none⟩) (Nat.lt_succ_self k)).trans e1;have e2:=(b4.cell (p:=⟨k,2,none⟩) (Nat.lt_succ_self k)).trans e2;have e3:=(b4.cell (p:=⟨k,3,none⟩) (Nat.lt_succ_self k)).trans e3;have H4:=Ha (Hb h4 (H3.out.2.trans (b4.mono (Nat.le_succ k))));clear h4 b4))
  have hconv:=run_convert_bytes_back (P:=Tryz.prog) w4 115 22 5 ⟨g4,0,none⟩ c4 (Lib.itoa n ++ [47]++Lib.itoa d) gE Tryz.underlying5 Tryz.underlying22 (fun j hj=>by
   have:=H4.out.1.holds j (.int .u8 ((Lib.itoa n ++ [47]++Lib.itoa d)[j].toNat:Int)) (by simp only [Lib.byteCells,List.getElem?_map,List.getElem?_eq_getElem hj];rfl)
   rwa [←addr_add] at this)
  have hlen3:(Lib.itoa n ++ [47]++Lib.itoa d).length=(Lib.itoa n).length+1+(Lib.itoa d).length:=by rw [List.length_append,List.length_append];rfl
  rw [hlen3] at hconv
  clear hlen3
  have H5:=Ha H4.out.2
  rw [←HT.out] at hconv
  clear H4 HT
  go_wp2
  go_ret
  exact ⟨rfl,by rw [HK.out];exact H5.out⟩
theorem j2 {n d:Int} (hd:d≠0):0<aE n d:=by
 unfold aE
 have:0<Nat.gcd n.natAbs d.natAbs:=Nat.gcd_pos_of_pos_right _ (by omega)
 omega
theorem sj (q:Rat):dc q.num q.den=ah q:=by
 unfold dc ah mQ cQ
 by_cases h:q.den=1
 ·rw [if_pos h,if_pos (by omega)]
 ·rw [if_neg h,if_neg (by omega)]
theorem pk {n d:Int} (hd:0<d):(Rat.divInt n d).num=n / aE n d∧((Rat.divInt n d).den:Int)=d / aE n d:=by
 have hg:((d.gcd n:Nat):Int)=aE n d:=by unfold aE;rw [Nat.gcd_comm];rfl
 refine ⟨?_,?_⟩
 ·rw [Rat.num_divInt,Int.sign_eq_one_of_pos hd,Int.one_mul,hg]
 ·rw [Rat.den_divInt,if_neg (by omega),Int.natCast_ediv,hg]
  congr 1;omega
theorem j3 (n d:Int):aE n d∣n∧aE n d∣d:=by
 unfold aE
 exact ⟨Int.dvd_natAbs.1 (Int.natCast_dvd_natCast.2 (Nat.gcd_dvd_left _ _)),Int.dvd_natAbs.1 (Int.natCast_dvd_natCast.2 (Nat.gcd_dvd_right _ _))⟩
theorem wh {n d:Int} (hd:0<d):dc (n.tdiv (aE n d)) (d.tdiv (aE n d))=ah (Rat.divInt n d):=by
 obtain ⟨h1,h2⟩:=pk (n:=n) hd
 obtain ⟨h3,h4⟩:=j3 n d
 rw [Int.tdiv_eq_ediv_of_dvd h3,Int.tdiv_eq_ediv_of_dvd h4,←h1,←h2];exact sj _
theorem zF {n d:Int} (hd:0<d):dc (n.fdiv (aE n d)) (d.fdiv (aE n d))=ah (Rat.divInt n d):=by
 obtain ⟨h1,h2⟩:=pk (n:=n) hd
 obtain ⟨h3,h4⟩:=j3 n d
 rw [Int.fdiv_eq_ediv_of_dvd h3,Int.fdiv_eq_ediv_of_dvd h4,←h1,←h2];exact sj _
theorem wi {n d:Int} (hd:0<d) (hg:aE n d=1):dc n d=ah (Rat.divInt n d):=by
 have:=wh (n:=n) hd
 rwa [hg,Int.tdiv_one,Int.tdiv_one] at this
theorem pm {n g:Int} (hg:0<g) (h0 : -9223372036854775808<n) (h1:n≤9223372036854775807) : -9223372036854775808<n.tdiv g∧n.tdiv g≤9223372036854775807:=by
 have:=Int.natAbs_tdiv_le_natAbs n g
 omega
theorem Cell2.put2 {w:World} {k:Nat} {x0 x1:Value} {W:World} (h:Cell2 w k x0 x1 W) (u v:Value):Cell2 w k u v ((W.setCell ⟨k,0,none⟩ u).setCell ⟨k,1,none⟩ v):=by
 obtain ⟨g0,g1⟩:=au h.c0 h.c1 u v
 refine ⟨?_,g1,by simp [go_sem,h.f0],by simp [go_sem,h.f1],by have:=h.size;simpa [World.setCell] using this,h.lo,h.put u v⟩
 rw [show ((W.setCell ⟨k,0,none⟩ u).setCell ⟨k,1,none⟩ v).cell? ⟨k,0,none⟩=(W.setCell ⟨k,0,none⟩ u).cell? ⟨k,0,none⟩ from World.cell?_setCell_other _ _ _ _ (by simp)]
 exact g0
def qH (n d:Int):ByteArray:=if n=bE∨d=bE then ⟨#[]⟩ else ah (Rat.divInt n d)
theorem tI (n:Nat) (x:Int) (W:World):(method (n+1) 98 (.int .i64 x) "kingpost/rational.opposite").run Tryz.prog W = .ok (275,.int .i64 x) W:=by kernel_rfl
theorem qI (n:Nat) (x:Int) (W:World):(method (n+1) 98 (.int .i64 x) "kingpost/rational.over").run Tryz.prog W = .ok (276,.int .i64 x) W:=by kernel_rfl
theorem qJ (n d:Int) (w:World) (h:n=bE∨d=bE) :
  Calls Tryz.prog 129 #[.agg #[.int .i64 n,.int .i64 d]] w fun e W'=>e = .returned (.tuple #[.string ⟨#[]⟩,.int .i64 4])∧Below w.heap.size w W':=by
 have c:=fun W=>iE n d W
 rw [if_pos h] at c
 have C:=Ha c
 clear c h
 go_enter Tryz.func129,Tryz.ntmps129
 go_wp2_with fail
 refine (C.out _).mono ?_
 rintro e w1 ⟨rfl,b⟩
 have B:=Ha (((Below.refl _ w).alloc (Nat.le_refl _) _).trans (b.mono (by simp)))
 clear b
 go_wp2
 go_ret2
 exact ⟨rfl,B.out⟩
theorem sk (n d:Int) (w:World) (n0 : -9223372036854775808<n) (n1:n≤9223372036854775807) (d0 : -9223372036854775808<d) (d1:d≤9223372036854775807) (hd:0<d) (hg:aE n d=1) (ht:Tab w) (ht2:aW w) :
  Calls Tryz.prog 129 #[.agg #[.int .i64 n,.int .i64 d]] w fun e W'=>e = .returned (.tuple #[.string (dc n d),.int .i64 0])∧Below w.heap.size w W':=by
 have cf:=fun W=>iE n d W
 rw [if_neg (show ¬ (n=bE∨d=bE) by unfold bE;omega)] at cf
 have cn:=fun W=>kP d W
 rw [decide_eq_false (show ¬ d<0 by omega)] at cn
 have co1:=fun W=>still (eV n W n0 n1)
 have co2:=fun W=>still (eV d W d0 d1)
 have cg:=fun W (hW:Below w.heap.size w W)=>dT n d W (by omega) (by omega) (by omega) (by omega) (ai ht2 hW)
 have c1:=fun W=>iU (aE n d) W
 rw [show (aE n d==1)=true by simpa using hg] at c1
 have cv1:=trivial
 have cv2:=trivial
 have ct:=fun W (hW:Below w.heap.size w W)=>jb n d W (by omega) (by omega) (by omega) (by omega) (ht.next hW)
 have C:=Ha (Hb cf (Hb cn (Hb co1 (Hb co2 (Hb cg (Hb c1 (Hb cv1 (Hb cv2 ct))))))))
 clear cf cn co1 co2 cg c1 cv1 cv2 ct ht ht2 n0 n1 d0 d1 hd hg
 rw [show ((Nat.gcd (n).natAbs (d).natAbs:Nat):Int)=aE n d from rfl] at C
 generalize aE n d=g at *
 go_enter Tryz.func129,Tryz.ntmps129
 go_wp2_with fail
 have hb:=Cell2.new w (.int .i64 n) (.int .i64 d) 136
 generalize w.alloc (.cells #[.int .i64 n,.int .i64 d] 136)=W0 at *
 generalize hk:w.heap.size=k at *
 have HK:=Ha hk;clear hk
 have HB:=Ha hb;clear hb
 refine (C.out.1 _).mono ?_
 rintro e w1 ⟨rfl,b⟩
 have H1:=Ha (HB.out.next b);clear b HB
 have c0:=H1.out.c0
 have c1:=H1.out.c1
 go_wp2_with fail
 refine (C.out.2.1 _).mono ?_
 rintro e w' ⟨rfl,rfl⟩
 go_wp2_with fail
 refine (C.out.2.2.2.2.1 _ (by have:=H1.out.below;rwa [HK.out] at this)).mono ?_
 rintro e w' ⟨rfl,rfl⟩
 go_wp2_with fail
 refine (C.out.2.2.2.2.2.1 _).mono ?_
 rintro e w' ⟨rfl,rfl⟩
 go_wp2_with fail
 refine (C.out.2.2.2.2.2.2.2.2 _ (by have:=H1.out.below;rwa [HK.out] at this)).mono ?_
 rintro e w2 ⟨rfl,b⟩
 have H2:=Ha (H1.out.below.trans (b.mono H1.out.below.size))
 clear b c0 c1
 go_wp2
 go_ret2
 exact ⟨rfl,by have:=H2.out;rwa [HK.out] at this ⊢⟩
theorem sl (n d:Int) (w:World) (n0 : -9223372036854775808<n) (n1:n≤9223372036854775807) (d0 : -9223372036854775808<d) (d1:d≤9223372036854775807) (hd:0<d) (hg:¬ aE n d=1) (ht:Tab w) (ht2:aW w) :
  Calls Tryz.prog 129 #[.agg #[.int .i64 n,.int .i64 d]] w fun e W'=>e = .returned (.tuple #[.string (dc (n.tdiv (aE n d)) (d.tdiv (aE n d))),.int .i64 0])∧Below w.heap.size w W':=by
 have cf:=fun W=>iE n d W
 rw [if_neg (show ¬ (n=bE∨d=bE) by unfold bE;omega)] at cf
 have cn:=fun W=>kP d W
 rw [decide_eq_false (show ¬ d<0 by omega)] at cn
 have co1:=fun W=>still (eV n W n0 n1)
 have co2:=fun W=>still (eV d W d0 d1)
 have cg:=fun W (hW:Below w.heap.size w W)=>dT n d W (by omega) (by omega) (by omega) (by omega) (ai ht2 hW)
 have c1:=fun W=>iU (aE n d) W
 rw [show (aE n d==1)=false by simpa using hg] at c1
 have hgp:=j2 (n:=n) (d:=d) (by omega)
 have hgl:aE n d≤9223372036854775807:=by
  have:aE n d≤d:=Int.le_of_dvd (by omega) (j3 n d).2
  omega
 have bn:=pm (n:=n) hgp (by omega) (by omega)
 have bd:=pm (n:=d) hgp (by omega) (by omega)
 have cv1:=fun W=>still (jt n (aE n d) W (by omega) (by omega) hgp hgl)
 have cv2:=fun W=>still (jt d (aE n d) W (by omega) (by omega) hgp hgl)
 have ct:=fun W (hW:Below w.heap.size w W)=>jb (n.tdiv (aE n d)) (d.tdiv (aE n d)) W bn.1 bn.2 bd.1 bd.2 (ht.next hW)
 clear hgp hgl bn bd
 have C:=Ha (Hb cf (Hb cn (Hb co1 (Hb co2 (Hb cg (Hb c1 (Hb cv1 (Hb cv2 ct))))))))
 clear cf cn co1 co2 cg c1 cv1 cv2 ct ht ht2 n0 n1 d0 d1 hd hg
 rw [show ((Nat.gcd (n).natAbs (d).natAbs:Nat):Int)=aE n d from rfl] at C
 generalize aE n d=g at *
 go_enter Tryz.func129,Tryz.ntmps129
 go_wp2_with fail
 have hb:=Cell2.new w (.int .i64 n) (.int .i64 d) 136
 generalize w.alloc (.cells #[.int .i64 n,.int .i64 d] 136)=W0 at *
 generalize hk:w.heap.size=k at *
 have HK:=Ha hk;clear hk
 have HB:=Ha hb;clear hb
 refine (C.out.1 _).mono ?_
 rintro e w1 ⟨rfl,b⟩
 have H1:=Ha (HB.out.next b);clear b HB
 have c0:=H1.out.c0
 have c1:=H1.out.c1
 go_wp2_with fail
 refine (C.out.2.1 _).mono ?_
 rintro e w' ⟨rfl,rfl⟩
 go_wp2_with fail
 refine (C.out.2.2.2.2.1 _ (by have:=H1.out.below;rwa [HK.out] at this)).mono ?_
 rintro e w' ⟨rfl,rfl⟩
 go_wp2_with fail
 refine (C.out.2.2.2.2.2.1 _).mono ?_
 rintro e w' ⟨rfl,rfl⟩
 have f0:=H1.out.f0
 have f1:=H1.out.f1
 go_wp2
 have H2:=Ha (show Cell2 w k _ _ w1.drew from H1.out.next (Below.refl _ _).drew)
 clear H1
 have c0:=H2.out.c0
 have c1:=H2.out.c1
 have mt:=qI
 have en1:∀ args W,(callFunc 276 args).run Tryz.prog W = .ok (.enter 276 args) W:=enters_of Tryz.func276 (by kernel_rfl) rfl
 go_still_tail 10,(by kernel_rfl)
 still_call (C.out.2.2.2.2.2.2.1 _)
 repeat still_step
 still_call (C.out.2.2.2.2.2.2.2.1 _)
 repeat still_step
 refine wpStill_nil ?_
 change wpList _ _ _ _ _ w1.drew
 clear c0 c1 f0 f1 mt en1
 generalize w1.drew=w1 at *
 have f0:=H2.out.f0
 have f1:=H2.out.f1
 have H1:=Ha (H2.out.put2 (.int .i64 (n.tdiv g)) (.int .i64 (d.tdiv g)))
 have c0:=H1.out.c0
 have c1:=H1.out.c1
 have d0:=H2.out.c0
 have d1:=H2.out.c1
 obtain ⟨g0,g1⟩:=au d0 d1 (.int .i64 (n.tdiv g)) (.int .i64 (d.tdiv g))
 clear H2
 go_wp2_with fail
 clear f0 f1 d0 d1 g0 g1
 generalize (w1.setCell ⟨k,0,none⟩ (.int .i64 (n.tdiv g))).setCell ⟨k,1,none⟩ (.int .i64 (d.tdiv g))=w1 at *
 go_wp2_with fail
 refine (C.out.2.2.2.2.2.2.2.2 _ (by have:=H1.out.below;rwa [HK.out] at this)).mono ?_
 rintro e w2 ⟨rfl,b⟩
 have H2:=Ha (H1.out.below.trans (b.mono H1.out.below.size))
 clear b c0 c1
 go_wp2
 go_ret2
 exact ⟨rfl,by have:=H2.out;rwa [HK.out] at this ⊢⟩
theorem uJ (p:Option Int) (w:World) :
  Calls Tryz.prog 177 #[.agg #[.string (LB none),.int .i64 (LE none),.string (LB p),.int .i64 (LE p)]] w fun e W'=>e = .returned (.int .i64 4)∧Below w.heap.size w W':=by
 have c:=fun W=>mN none W
 rw [show LE none=4 from rfl] at c ⊢
 have C:=Ha c;clear c
 generalize LB none=nb at *
 generalize LB p=pb at *
 generalize LE p=pe at *
 go_enter Tryz.func177,Tryz.ntmps177
 go_wp2_with fail
 refine (C.out _).mono ?_
 rintro e w1 ⟨rfl,b⟩
 have B:=Ha (((Below.refl _ w).alloc (Nat.le_refl _) _).trans (b.mono (by simp)))
 clear b
 go_wp2
 go_ret
 exact ⟨rfl,B.out⟩
theorem lc (n:Int) (p:Option Int) (w:World) :
  Calls Tryz.prog 177 #[.agg #[.string (aa n),.int .i64 0,.string (LB p),.int .i64 (LE p)]] w fun e W'=>e = .returned (.int .i64 (LE p))∧Below w.heap.size w W':=by
 have c:∀ W,Calls Tryz.prog 281 #[.agg #[.string (aa n),.int .i64 0]] W fun e W'=>e = .returned (.int .i64 0)∧Below W.heap.size W W':=fun W=>mN (some n) W
 have C:=Ha (Hb c (fun W=>mN p W));clear c
 generalize aa n=nb at *
 generalize LB p=pb at *
 generalize LE p=pe at *
 go_enter Tryz.func177,Tryz.ntmps177
 go_wp2_with fail
 have hb:BB w w.heap.size #[.string nb,.int .i64 0,.string pb,.int .i64 pe] (w.alloc (.cells #[.string nb,.int .i64 0,.string pb,.int .i64 pe] 140)):=BB.new w _ _
 generalize w.alloc (.cells #[.string nb,.int .i64 0,.string pb,.int .i64 pe] 140)=W0 at *
 generalize hk:w.heap.size=k at *
 have HK:=Ha hk;clear hk
 have HB:=Ha hb;clear hb
 refine (C.out.1 _).mono ?_
 rintro e w1 ⟨rfl,b⟩
 have H1:=Ha (HB.out.next b);clear b HB
 have c0:=H1.out.blk.cell 0 (.string nb) rfl;have c1:=H1.out.blk.cell 1 (.int .i64 0) rfl;have c2:=H1.out.blk.cell 2 (.string pb) rfl;have c3:=H1.out.blk.cell 3 (.int .i64 pe) rfl
 go_wp2_with fail
 refine (C.out.2 _).mono ?_
 rintro e w2 ⟨rfl,b⟩
 have H2:=Ha (H1.out.below.trans (b.mono H1.out.below.size))
 clear b c0 c1 c2 c3
 go_wp2
 go_ret
 exact ⟨rfl,by have:=H2.out;rwa [HK.out] at this ⊢⟩
theorem ft {z:Int} (h:short z):short (-z):=by show Int.natAbs (-z)<lim;rw [Int.natAbs_neg];exact h
theorem jc (n:Int) (w:World) (hn:short n) (ht:Tab w) :
  Calls Tryz.prog 283 #[.agg #[.string (aa n),.int .i64 0]] w fun e W'=>e = .returned (.agg #[.string (aa (-n)),.int .i64 0])∧Below w.heap.size w W':=by
 have c:=wd (some n) w (fU hn) ht
 rw [show opL (· - ·) (some 0) (some n)=some (-n) by show mkL (0 - n)=_;rw [Int.zero_sub,fG (ft hn)]] at c
 exact c
theorem ld (n d:Int) (w:World) (hn:short n) (hd:short d) (ht:Tab w) :
  Calls Tryz.prog 151 #[.agg #[.string (aa n),.int .i64 0],.agg #[.string (aa d),.int .i64 0]] w fun e W'=>e = .returned (.agg #[.string (aa (aE n d)),.int .i64 0])∧Below w.heap.size w W':=by
 have c:=pf (some n) (some d) w (fU hn) (fU hd) ht
 rw [show opL aE (some n) (some d)=some (aE n d) by show mkL _=_;rw [fG (ic hn hd)]] at c
 exact c
theorem mR (n d:Int) (w:World) (hn:short n) (hd:short d) (h0:d≠0) (ht:Tab w) :
  Calls Tryz.prog 284 #[.agg #[.string (aa n),.int .i64 0],.agg #[.string (aa d),.int .i64 0]] w fun e W'=>e = .returned (.agg #[.string (aa (n.fdiv d)),.int .i64 0])∧Below w.heap.size w W':=by
 have c:=uI (some n) (some d) w (fU hn) (fU hd) (fun e=>h0 (Option.some.inj e)) ht
 rw [show opL Int.fdiv (some n) (some d)=some (n.fdiv d) by show mkL _=_;rw [fG (dW hn h0)]] at c
 exact c
theorem lN (o p:Option Int) (w:World) (h:o=none∨p=none) :
  Calls Tryz.prog 131 #[.agg #[.string (LB o),.int .i64 (LE o),.string (LB p),.int .i64 (LE p)]] w fun e W'=>e = .returned (.tuple #[.string ⟨#[]⟩,.int .i64 4])∧Below w.heap.size w W':=by
 have c:∀ W,Calls Tryz.prog 177 #[.agg #[.string (LB o),.int .i64 (LE o),.string (LB p),.int .i64 (LE p)]] W fun e W'=>e = .returned (.int .i64 4)∧Below W.heap.size W W':=fun W=>by
  cases o with
  | none=>exact uJ p W
  | some n =>
   have hp:=h.resolve_left (by simp)
   subst hp
   exact lc n none W
 have C:=Ha c
 clear c h
 generalize LB o=ob at *
 generalize LE o=oe at *
 generalize LB p=pb at *
 generalize LE p=pe at *
 go_enter Tryz.func131,Tryz.ntmps131
 go_wp2_with fail
 refine (C.out _).mono ?_
 rintro e w1 ⟨rfl,b⟩
 have B:=Ha (((Below.refl _ w).alloc (Nat.le_refl _) _).trans (b.mono (by simp)))
 clear b
 go_wp2
 go_ret2
 exact ⟨rfl,B.out⟩
theorem qK (n d N D:Int) (o:Bool) (w:World) (hn:short n) (hd:short d) (hN:short N) (hD:short D) (hs:0<D) (ho:decide (d<0)=o) (hS:(o=true∧N = -n∧D = -d)∨(o=false∧N=n∧D=d)) (hg:aE N D=1) (ht:Tab w) :
  Calls Tryz.prog 131 #[.agg #[.string (aa n),.int .i64 0,.string (aa d),.int .i64 0]] w fun e W'=>e = .returned (.tuple #[.string (dc N D),.int .i64 0])∧Below w.heap.size w W':=by
 have cf:∀ W,Calls Tryz.prog 177 #[.agg #[.string (aa n),.int .i64 0,.string (aa d),.int .i64 0]] W fun e W'=>e = .returned (.int .i64 0)∧Below W.heap.size W W':=fun W=>lc n (some d) W
 have cn:=fun W=>qC d W
 rw [ho] at cn
 have co1:=fun W (hW:Below w.heap.size w W)=>jc n W hn (ht.next hW)
 have co2:=fun W (hW:Below w.heap.size w W)=>jc d W hd (ht.next hW)
 have cg:=fun W (hW:Below w.heap.size w W)=>ld N D W hN hD (ht.next hW)
 have c1:=fun W=>jV (aE N D) W
 rw [show (decide (aE N D=1))=true by simpa using hg] at c1
 have cv1:=trivial
 have cv2:=trivial
 have ct:=fun W (_:Below w.heap.size w W)=>oE N D W hN hD
 have hT:(o=true∧aa (-n)=aa N∧aa (-d)=aa D)∨(o=false∧aa n=aa N∧aa d=aa D):=by
  rcases hS with ⟨h1,h2,h3⟩ | ⟨h1,h2,h3⟩
  ·exact .inl ⟨h1,by rw [h2],by rw [h3]⟩
  ·exact .inr ⟨h1,by rw [h2],by rw [h3]⟩
 have C:=Ha (Hb cf (Hb cn (Hb co1 (Hb co2 (Hb cg (Hb c1 (Hb cv1 (Hb cv2 ct))))))))
 clear cf cn co1 co2 cg c1 cv1 cv2 ct ht hn hd hN hD hs hg ho hS
 generalize dc N D=res at *
 generalize aa (aE N D)=sg at *
 generalize aa (-n)=mn at *
 generalize aa (-d)=md at *
 generalize aa N=tn at *
 generalize aa D=td at *
 generalize aa n=sn at *
 generalize aa d=sd at *
 go_enter Tryz.func131,Tryz.ntmps131
 go_wp2_with fail
 have hb:BB w w.heap.size #[.string sn,.int .i64 0,.string sd,.int .i64 0] (w.alloc (.cells #[.string sn,.int .i64 0,.string sd,.int .i64 0] 140)):=BB.new w _ _
 generalize w.alloc (.cells #[.string sn,.int .i64 0,.string sd,.int .i64 0] 140)=W0 at *
 generalize hk:w.heap.size=k at *
 have HK:=Ha hk;clear hk
 have HB:=Ha hb;clear hb
 refine (C.out.1 _).mono ?_
 rintro e w1 ⟨rfl,b⟩
 have H1:=Ha (HB.out.next b);clear b HB
 have c0:=H1.out.blk.cell 0 (.string sn) rfl;have c1:=H1.out.blk.cell 1 (.int .i64 0) rfl;have c2:=H1.out.blk.cell 2 (.string sd) rfl;have c3:=H1.out.blk.cell 3 (.int .i64 0) rfl
 go_wp2_with fail
 refine (C.out.2.1 _).mono ?_
 rintro e w2 ⟨rfl,b⟩
 have H2:=Ha (H1.out.next b);clear b H1;have H1:=H2;clear H2
 clear c0 c1 c2 c3
 go_upto_if 14 with fail
 go_cut [] from 15 to 23 (fun wx=>BB w k #[.string tn,.int .i64 0,.string td,.int .i64 0] wx)
 case first =>
  rcases hT with ⟨rfl,rfl,rfl⟩ | ⟨rfl,rfl,rfl⟩
  ·have c0:=H1.out.blk.cell 0 (.string sn) rfl;have c1:=H1.out.blk.cell 1 (.int .i64 0) rfl;have c2:=H1.out.blk.cell 2 (.string sd) rfl;have c3:=H1.out.blk.cell 3 (.int .i64 0) rfl
   have f0:=H1.out.blk.free 0;have f1:=H1.out.blk.free 1;have f2:=H1.out.blk.free 2;have f3:=H1.out.blk.free 3
   go_wp2_with fail
   skip
   have HD:=Ha (H1.out.next (Below.refl _ _).drew);clear H1;have H1:=HD;clear HD
   have c0:=H1.out.blk.cell 0 (.string sn) rfl;have c1:=H1.out.blk.cell 1 (.int .i64 0) rfl;have c2:=H1.out.blk.cell 2 (.string sd) rfl;have c3:=H1.out.blk.cell 3 (.int .i64 0) rfl
   have f0:=H1.out.blk.free 0;have f1:=H1.out.blk.free 1;have f2:=H1.out.blk.free 2;have f3:=H1.out.blk.free 3
   go_region_with (first | (go_at_call 283;refine (C.out.2.2.1 _ (by have:=H1.out.below;rwa [HK.out] at this)).mono ?_;rintro e wr ⟨rfl,hbw⟩;have HN:=Ha (H1.out.next hbw);clear H1 hbw;have H1:=HN;clear HN;have c0:=H1.out.blk.cell 0 (.string sn) rfl;have c1:=H1.out.blk.cell 1 (.int .i64 0) rfl;have c2:=H1.out.blk.cell 2 (.string sd) rfl;have c3:=H1.out.blk.cell 3 (.int .i64 0) rfl;have f0:=H1.out.blk.free 0;have f1:=H1.out.blk.free 1;have f2:=H1.out.blk.free 2;have f3:=H1.out.blk.free 3) | (go_at_call 283;refine (C.out.2.2.2.1 _ (by have:=H1.out.below;rwa [HK.out] at this)).mono ?_;rintro e wr ⟨rfl,hbw⟩;have HN:=Ha (H1.out.next hbw);clear H1 hbw;have H1:=HN;clear HN;have c0:=H1.out.blk.cell 0 (.string sn) rfl;have c1:=H1.out.blk.cell 1 (.int .i64 0) rfl;have c2:=H1.out.blk.cell 2 (.string sd) rfl;have c3:=H1.out.blk.cell 3 (.int .i64 0) rfl;have f0:=H1.out.blk.free 0;have f1:=H1.out.blk.free 1;have f2:=H1.out.blk.free 2;have f3:=H1.out.blk.free 3))
   all_goals
    have HP:=Ha (H1.out.put4 (.string mn) (.int .i64 0) (.string md) (.int .i64 0))
    go_wp2_with fail
    go_meet
    exact HP.out
  ·go_wp2_with fail
   go_meet
   exact H1.out
 case rest =>
 clear H1
 have H1:=Ha hcut;clear hcut hT
 have c0:=H1.out.blk.cell 0 (.string tn) rfl;have c1:=H1.out.blk.cell 1 (.int .i64 0) rfl;have c2:=H1.out.blk.cell 2 (.string td) rfl;have c3:=H1.out.blk.cell 3 (.int .i64 0) rfl
 go_wp2_with fail
 refine (C.out.2.2.2.2.1 _ (by have:=H1.out.below;rwa [HK.out] at this)).mono ?_
 rintro e w3 ⟨rfl,b⟩
 have H2:=Ha (H1.out.next b);clear b H1;have H1:=H2;clear H2
 have c0:=H1.out.blk.cell 0 (.string tn) rfl;have c1:=H1.out.blk.cell 1 (.int .i64 0) rfl;have c2:=H1.out.blk.cell 2 (.string td) rfl;have c3:=H1.out.blk.cell 3 (.int .i64 0) rfl
 go_wp2_with fail
 have HM:=Ha (Blk.new w3 #[.string sg,.int .i64 0] 103)
 have H2:=Ha (H1.out.next ((Below.refl _ w3).alloc (Nat.le_refl _) (.cells #[.string sg,.int .i64 0] 103)))
 have hkj:k≠w3.heap.size:=by have:=H1.out.blk.lt;omega
 clear H1 c0 c1 c2 c3;have H1:=H2;clear H2
 generalize w3.alloc (.cells #[.string sg,.int .i64 0] 103)=w3' at *
 generalize w3.heap.size=j at *
 refine (C.out.2.2.2.2.2.1 _).mono ?_
 rintro e w4 ⟨rfl,b⟩
 have H2:=Ha (H1.out.next b);clear H1;have H1:=H2;clear H2
 have HM2:=Ha (HM.out.next b);clear HM b;have HM:=HM2;clear HM2
 have c0:=H1.out.blk.cell 0 (.string tn) rfl;have c1:=H1.out.blk.cell 1 (.int .i64 0) rfl;have c2:=H1.out.blk.cell 2 (.string td) rfl;have c3:=H1.out.blk.cell 3 (.int .i64 0) rfl
 go_wp2_with fail
 refine (C.out.2.2.2.2.2.2.2.2 _ (by have:=H1.out.below;rwa [HK.out] at this)).mono ?_
 rintro e w5 ⟨rfl,b⟩
 have H2:=Ha (H1.out.below.trans (b.mono H1.out.below.size))
 clear b c0 c1 c2 c3
 go_wp2
 go_ret2
 exact ⟨rfl,by have:=H2.out;rwa [HK.out] at this ⊢⟩
end Go.Proofs.YtjdomibbaemdnaaGreatDoor
