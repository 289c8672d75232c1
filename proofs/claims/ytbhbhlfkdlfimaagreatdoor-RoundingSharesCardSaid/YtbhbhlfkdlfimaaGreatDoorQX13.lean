/- Parts of the proof of the text YtbhbhlfkdlfimaaGreatDoorQX29. -/
import Derived.Deep.RegionHeld3
import Derived.BigRegion
import Derived.Shelf.Strconv.AppendUint10
import Derived.Test.YtbhbhlfkdlfimaaGreatDoorQX1
import Derived.Test.YtbhbhlfkdlfimaaGreatDoorQX10
import Derived.Test.YtbhbhlfkdlfimaaGreatDoorQX11
import Derived.Test.YtbhbhlfkdlfimaaGreatDoorQX12
set_option linter.all false
set_option maxRecDepth 100000
set_option maxHeartbeats 8000000
namespace Go.Proofs.YtbhbhlfkdlfimaaGreatDoor
section
open Go.RowKit
theorem GE (s n d:ByteArray) (c1:Int) (c2:Int) (f:Bool) (w:World) (a1:(c1==11)=false) (a1':(c1 != 11)=true) (a2:(c2==11)=false) (a2':(c2 != 11)=true) (hp:0<d.size) (hp':(0:Int)<d.size) (hm:((d[0].toNat:Int)==45)=true) (hm':((d[0].toNat:Int) != 45)=false)
  (hcut:CqB w 42 #[.string s] (.tuple #[.string n,.string d,.bool f]))
  (hk1:CqB w 84 #[.string n] (.int .i64 c1))
  (hk2:CqB w 84 #[.string d] (.int .i64 c2)) :
  Calls Tryz.prog 75 #[.string s] w fun e W'=>e = .returned (.tuple #[.agg #[.string ⟨#[]⟩,.int .i64 0,.string ⟨#[]⟩,.int .i64 0],.int .i64 11])∧Below w.heap.size w W':=by
 have C:=Ha (Hb hcut (Hb hk1 (Hb hk2 trivial)));clear hcut hk1 hk2
 go_enter Tryz.func75,Tryz.ntmps75
 go_wp2_with fail
 have hb0:=Blk.new w #[.string ⟨#[]⟩,.int .i64 0,.string ⟨#[]⟩,.int .i64 0] 119
 have hB0:Below w.heap.size w (w.alloc (.cells #[.string ⟨#[]⟩,.int .i64 0,.string ⟨#[]⟩,.int .i64 0] 119)):=(Below.refl _ w).alloc (Nat.le_refl _) _
 generalize w.alloc (.cells #[.string ⟨#[]⟩,.int .i64 0,.string ⟨#[]⟩,.int .i64 0] 119)=W0 at *
 have H0:=Ha (Hb hb0 hB0);clear hb0 hB0
 refine (C.out.1 _ H0.out.2).mono ?_
 rintro e w1 ⟨rfl,b⟩
 have H1:=Ha (Hb (H0.out.1.next b) (H0.out.2.trans (b.mono H0.out.2.size)));clear b H0
 go_wp2_with fail
 refine (C.out.2.1 _ H1.out.2).mono ?_
 rintro e w2 ⟨rfl,b⟩
 have H2:=Ha (Hb (H1.out.1.next b) (H1.out.2.trans (b.mono H1.out.2.size)));clear b H1
 go_wp2_with fail
 refine (C.out.2.2.1 _ H2.out.2).mono ?_
 rintro e w3 ⟨rfl,b⟩
 have H3:=Ha (Hb (H2.out.1.next b) (H2.out.2.trans (b.mono H2.out.2.size)));clear b H2
 have q0:=H3.out.1.cell 0 (.string ⟨#[]⟩) rfl
 have q1:=H3.out.1.cell 1 (.int .i64 0) rfl
 have q2:=H3.out.1.cell 2 (.string ⟨#[]⟩) rfl
 have q3:=H3.out.1.cell 3 (.int .i64 0) rfl
 have f0:=H3.out.1.free 0
 have f1:=H3.out.1.free 1
 have f2:=H3.out.1.free 2
 have f3:=H3.out.1.free 3
 have HP:=Ha (H3.out.1.put4 (.string ⟨#[]⟩) (.int .i64 0) (.string ⟨#[]⟩) (.int .i64 0))
 have HL:=Ha (bC H3.out.2 (l:=w.heap.size) (Nat.le_refl _) (.string ⟨#[]⟩) (.int .i64 0) (.string ⟨#[]⟩) (.int .i64 0))
 have g0:=HP.out.cell 0 (.string ⟨#[]⟩) rfl
 have g1:=HP.out.cell 1 (.int .i64 0) rfl
 have g2:=HP.out.cell 2 (.string ⟨#[]⟩) rfl
 have g3:=HP.out.cell 3 (.int .i64 0) rfl
 go_wp2
 refine bodyPost_ret (v := .tuple #[.agg #[.string ⟨#[]⟩,.int .i64 0,.string ⟨#[]⟩,.int .i64 0],.int .i64 11]) (by simp [results,Tryz.results75,go_sem,g0,g1,g2,g3]) rfl ?_
 exact ⟨rfl,HL.out⟩
theorem FY (s n d:ByteArray) (c1:Int) (c2:Int) (w:World) (a1:(c1==11)=false) (a1':(c1 != 11)=true) (a2:(c2==11)=false) (a2':(c2 != 11)=true) (hp:0<d.size) (hp':(0:Int)<d.size) (hm:((d[0].toNat:Int)==45)=false) (hm':((d[0].toNat:Int) != 45)=true) (h0:(d.toList == [48])=false) (h0':(d.toList != [48])=true) (h1:(d.toList == [49])=false) (b1:(c1==0)=false) (b1':(c1 != 0)=true)
  (hcut:CqB w 42 #[.string s] (.tuple #[.string n,.string d,.bool true]))
  (hk1:CqB w 84 #[.string n] (.int .i64 c1))
  (hk2:CqB w 84 #[.string d] (.int .i64 c2)) :
  Calls Tryz.prog 75 #[.string s] w fun e W'=>e = .returned (.tuple #[.agg #[.string ⟨#[]⟩,.int .i64 0,.string ⟨#[]⟩,.int .i64 0],.int .i64 4])∧Below w.heap.size w W':=by
 have C:=Ha (Hb hcut (Hb hk1 (Hb hk2 trivial)));clear hcut hk1 hk2
 go_enter Tryz.func75,Tryz.ntmps75
 go_wp2_with fail
 have hb0:=Blk.new w #[.string ⟨#[]⟩,.int .i64 0,.string ⟨#[]⟩,.int .i64 0] 119
 have hB0:Below w.heap.size w (w.alloc (.cells #[.string ⟨#[]⟩,.int .i64 0,.string ⟨#[]⟩,.int .i64 0] 119)):=(Below.refl _ w).alloc (Nat.le_refl _) _
 generalize w.alloc (.cells #[.string ⟨#[]⟩,.int .i64 0,.string ⟨#[]⟩,.int .i64 0] 119)=W0 at *
 have H0:=Ha (Hb hb0 hB0);clear hb0 hB0
 refine (C.out.1 _ H0.out.2).mono ?_
 rintro e w1 ⟨rfl,b⟩
 have H1:=Ha (Hb (H0.out.1.next b) (H0.out.2.trans (b.mono H0.out.2.size)));clear b H0
 go_wp2_with fail
 refine (C.out.2.1 _ H1.out.2).mono ?_
 rintro e w2 ⟨rfl,b⟩
 have H2:=Ha (Hb (H1.out.1.next b) (H1.out.2.trans (b.mono H1.out.2.size)));clear b H1
 go_wp2_with fail
 refine (C.out.2.2.1 _ H2.out.2).mono ?_
 rintro e w3 ⟨rfl,b⟩
 have H3:=Ha (Hb (H2.out.1.next b) (H2.out.2.trans (b.mono H2.out.2.size)));clear b H2
 have q0:=H3.out.1.cell 0 (.string ⟨#[]⟩) rfl
 have q1:=H3.out.1.cell 1 (.int .i64 0) rfl
 have q2:=H3.out.1.cell 2 (.string ⟨#[]⟩) rfl
 have q3:=H3.out.1.cell 3 (.int .i64 0) rfl
 have f0:=H3.out.1.free 0
 have f1:=H3.out.1.free 1
 have f2:=H3.out.1.free 2
 have f3:=H3.out.1.free 3
 have HP:=Ha (H3.out.1.put4 (.string ⟨#[]⟩) (.int .i64 0) (.string ⟨#[]⟩) (.int .i64 0))
 have HL:=Ha (bC H3.out.2 (l:=w.heap.size) (Nat.le_refl _) (.string ⟨#[]⟩) (.int .i64 0) (.string ⟨#[]⟩) (.int .i64 0))
 have g0:=HP.out.cell 0 (.string ⟨#[]⟩) rfl
 have g1:=HP.out.cell 1 (.int .i64 0) rfl
 have g2:=HP.out.cell 2 (.string ⟨#[]⟩) rfl
 have g3:=HP.out.cell 3 (.int .i64 0) rfl
 go_wp2
 refine bodyPost_ret (v := .tuple #[.agg #[.string ⟨#[]⟩,.int .i64 0,.string ⟨#[]⟩,.int .i64 0],.int .i64 4]) (by simp [results,Tryz.results75,go_sem,g0,g1,g2,g3]) rfl ?_
 exact ⟨rfl,HL.out⟩
theorem GF (s n d g:ByteArray) (w:World) (hp:0<d.size) (hp':(0:Int)<d.size) (hm:((d[0].toNat:Int)==45)=false) (hm':((d[0].toNat:Int) != 45)=true) (h0:(d.toList == [48])=false) (h0':(d.toList != [48])=true) (h1:(d.toList == [49])=false)
  (hcut:CqB w 42 #[.string s] (.tuple #[.string n,.string d,.bool true]))
  (hk1:CqB w 84 #[.string n] (.int .i64 0))
  (hk2:CqB w 84 #[.string d] (.int .i64 0))
  (hdv:CqB w 124 #[.agg #[.string n,.int .i64 0],.agg #[.string d,.int .i64 0]] (.agg #[.string g,.int .i64 0]))
  (hon:CqB w 125 #[.agg #[.string g,.int .i64 0]] (.bool false)) :
  Calls Tryz.prog 75 #[.string s] w fun e W'=>e = .returned (.tuple #[.agg #[.string ⟨#[]⟩,.int .i64 0,.string ⟨#[]⟩,.int .i64 0],.int .i64 11])∧Below w.heap.size w W':=by
 have C:=Ha (Hb hcut (Hb hk1 (Hb hk2 (Hb hdv hon))));clear hcut hk1 hk2 hdv hon
 go_enter Tryz.func75,Tryz.ntmps75
 go_wp2_with fail
 have hb0:=Blk.new w #[.string ⟨#[]⟩,.int .i64 0,.string ⟨#[]⟩,.int .i64 0] 119
 have hB0:Below w.heap.size w (w.alloc (.cells #[.string ⟨#[]⟩,.int .i64 0,.string ⟨#[]⟩,.int .i64 0] 119)):=(Below.refl _ w).alloc (Nat.le_refl _) _
 generalize w.alloc (.cells #[.string ⟨#[]⟩,.int .i64 0,.string ⟨#[]⟩,.int .i64 0] 119)=W0 at *
 have H0:=Ha (Hb hb0 hB0);clear hb0 hB0
 refine (C.out.1 _ H0.out.2).mono ?_
 rintro e w1 ⟨rfl,b⟩
 have H1:=Ha (Hb (H0.out.1.next b) (H0.out.2.trans (b.mono H0.out.2.size)));clear b H0
 go_wp2_with fail
 refine (C.out.2.1 _ H1.out.2).mono ?_
 rintro e w2 ⟨rfl,b⟩
 have H2:=Ha (Hb (H1.out.1.next b) (H1.out.2.trans (b.mono H1.out.2.size)));clear b H1
 go_wp2_with fail
 refine (C.out.2.2.1 _ H2.out.2).mono ?_
 rintro e w3 ⟨rfl,b⟩
 have H3:=Ha (Hb (H2.out.1.next b) (H2.out.2.trans (b.mono H2.out.2.size)));clear b H2
 have H4:=Ha (show Blk (w3.alloc (.cells #[.string n,.int .i64 0,.string d,.int .i64 0] 119)) w.heap.size #[.string ⟨#[]⟩,.int .i64 0,.string ⟨#[]⟩,.int .i64 0]∧Below w.heap.size w (w3.alloc (.cells #[.string n,.int .i64 0,.string d,.int .i64 0] 119))∧Blk (w3.alloc (.cells #[.string n,.int .i64 0,.string d,.int .i64 0] 119)) w3.heap.size #[.string n,.int .i64 0,.string d,.int .i64 0]∧w.heap.size<w3.heap.size from ⟨H3.out.1.alloc _,H3.out.2.alloc H3.out.2.size _,Blk.new w3 _ _,H3.out.1.lt⟩)
 have e0:=H4.out.2.2.1.cell 0 (.string n) rfl
 have e1:=H4.out.2.2.1.cell 1 (.int .i64 0) rfl
 have e2:=H4.out.2.2.1.cell 2 (.string d) rfl
 have e3:=H4.out.2.2.1.cell 3 (.int .i64 0) rfl
 go_wp2_with fail
 generalize w3.alloc (.cells #[.string n,.int .i64 0,.string d,.int .i64 0] 119)=w4 at *
 generalize w3.heap.size=j at *
 clear e0 e1 e2 e3 H3
 refine (C.out.2.2.2.1 _ H4.out.2.1).mono ?_
 rintro e w5 ⟨rfl,b⟩
 have H5:=Ha (Hb (H4.out.1.next b) (Hb (H4.out.2.1.trans (b.mono H4.out.2.1.size)) (H4.out.2.2.1.next b)));clear b H4
 go_wp2_with fail
 refine (C.out.2.2.2.2 _ H5.out.2.1).mono ?_
 rintro e w6 ⟨rfl,b⟩
 have H6:=Ha (Hb (H5.out.1.next b) (H5.out.2.1.trans (b.mono H5.out.2.1.size)))
 have H7:=Ha (H5.out.2.2.next b);clear b H5
 have e0:=H7.out.cell 0 (.string n) rfl
 have e1:=H7.out.cell 1 (.int .i64 0) rfl
 have e2:=H7.out.cell 2 (.string d) rfl
 have e3:=H7.out.cell 3 (.int .i64 0) rfl
 have q0:=H6.out.1.cell 0 (.string ⟨#[]⟩) rfl
 have q1:=H6.out.1.cell 1 (.int .i64 0) rfl
 have q2:=H6.out.1.cell 2 (.string ⟨#[]⟩) rfl
 have q3:=H6.out.1.cell 3 (.int .i64 0) rfl
 have f0:=H6.out.1.free 0
 have f1:=H6.out.1.free 1
 have f2:=H6.out.1.free 2
 have f3:=H6.out.1.free 3
 have HP:=Ha (H6.out.1.put4 (.string ⟨#[]⟩) (.int .i64 0) (.string ⟨#[]⟩) (.int .i64 0))
 have HL:=Ha (bC H6.out.2 (l:=w.heap.size) (Nat.le_refl _) (.string ⟨#[]⟩) (.int .i64 0) (.string ⟨#[]⟩) (.int .i64 0))
 have g0:=HP.out.cell 0 (.string ⟨#[]⟩) rfl
 have g1:=HP.out.cell 1 (.int .i64 0) rfl
 have g2:=HP.out.cell 2 (.string ⟨#[]⟩) rfl
 have g3:=HP.out.cell 3 (.int .i64 0) rfl
 go_wp2
 refine bodyPost_ret (v := .tuple #[.agg #[.string ⟨#[]⟩,.int .i64 0,.string ⟨#[]⟩,.int .i64 0],.int .i64 11]) (by simp [results,Tryz.results75,go_sem,g0,g1,g2,g3]) rfl ?_
 exact ⟨rfl,HL.out⟩
theorem GG (s n d:ByteArray) (c1:Int) (c2:Int) (f:Bool) (w:World) (a1:(c1==11)=false) (a1':(c1 != 11)=true) (a2:(c2==11)=false) (a2':(c2 != 11)=true) (hp:0<d.size) (hp':(0:Int)<d.size) (hm:((d[0].toNat:Int)==45)=false) (hm':((d[0].toNat:Int) != 45)=true) (h0:(d.toList == [48])=true) (h0':(d.toList != [48])=false)
  (hcut:CqB w 42 #[.string s] (.tuple #[.string n,.string d,.bool f]))
  (hk1:CqB w 84 #[.string n] (.int .i64 c1))
  (hk2:CqB w 84 #[.string d] (.int .i64 c2)) :
  Calls Tryz.prog 75 #[.string s] w fun e W'=>e = .returned (.tuple #[.agg #[.string ⟨#[]⟩,.int .i64 0,.string ⟨#[]⟩,.int .i64 0],.int .i64 11])∧Below w.heap.size w W':=by
 have C:=Ha (Hb hcut (Hb hk1 (Hb hk2 trivial)));clear hcut hk1 hk2
 go_enter Tryz.func75,Tryz.ntmps75
 go_wp2_with fail
 have hb0:=Blk.new w #[.string ⟨#[]⟩,.int .i64 0,.string ⟨#[]⟩,.int .i64 0] 119
 have hB0:Below w.heap.size w (w.alloc (.cells #[.string ⟨#[]⟩,.int .i64 0,.string ⟨#[]⟩,.int .i64 0] 119)):=(Below.refl _ w).alloc (Nat.le_refl _) _
 generalize w.alloc (.cells #[.string ⟨#[]⟩,.int .i64 0,.string ⟨#[]⟩,.int .i64 0] 119)=W0 at *
 have H0:=Ha (Hb hb0 hB0);clear hb0 hB0
 refine (C.out.1 _ H0.out.2).mono ?_
 rintro e w1 ⟨rfl,b⟩
 have H1:=Ha (Hb (H0.out.1.next b) (H0.out.2.trans (b.mono H0.out.2.size)));clear b H0
 go_wp2_with fail
 refine (C.out.2.1 _ H1.out.2).mono ?_
 rintro e w2 ⟨rfl,b⟩
 have H2:=Ha (Hb (H1.out.1.next b) (H1.out.2.trans (b.mono H1.out.2.size)));clear b H1
 go_wp2_with fail
 refine (C.out.2.2.1 _ H2.out.2).mono ?_
 rintro e w3 ⟨rfl,b⟩
 have H3:=Ha (Hb (H2.out.1.next b) (H2.out.2.trans (b.mono H2.out.2.size)));clear b H2
 have q0:=H3.out.1.cell 0 (.string ⟨#[]⟩) rfl
 have q1:=H3.out.1.cell 1 (.int .i64 0) rfl
 have q2:=H3.out.1.cell 2 (.string ⟨#[]⟩) rfl
 have q3:=H3.out.1.cell 3 (.int .i64 0) rfl
 have f0:=H3.out.1.free 0
 have f1:=H3.out.1.free 1
 have f2:=H3.out.1.free 2
 have f3:=H3.out.1.free 3
 have HP:=Ha (H3.out.1.put4 (.string ⟨#[]⟩) (.int .i64 0) (.string ⟨#[]⟩) (.int .i64 0))
 have HL:=Ha (bC H3.out.2 (l:=w.heap.size) (Nat.le_refl _) (.string ⟨#[]⟩) (.int .i64 0) (.string ⟨#[]⟩) (.int .i64 0))
 have g0:=HP.out.cell 0 (.string ⟨#[]⟩) rfl
 have g1:=HP.out.cell 1 (.int .i64 0) rfl
 have g2:=HP.out.cell 2 (.string ⟨#[]⟩) rfl
 have g3:=HP.out.cell 3 (.int .i64 0) rfl
 go_wp2
 refine bodyPost_ret (v := .tuple #[.agg #[.string ⟨#[]⟩,.int .i64 0,.string ⟨#[]⟩,.int .i64 0],.int .i64 11]) (by simp [results,Tryz.results75,go_sem,g0,g1,g2,g3]) rfl ?_
 exact ⟨rfl,HL.out⟩
theorem FZ (s n d:ByteArray) (c2:Int) (w:World) (a2:(c2==11)=false) (a2':(c2 != 11)=true) (hp:0<d.size) (hp':(0:Int)<d.size) (hm:((d[0].toNat:Int)==45)=false) (hm':((d[0].toNat:Int) != 45)=true) (h0:(d.toList == [48])=false) (h0':(d.toList != [48])=true) (b2:(c2==0)=false) (b2':(c2 != 0)=true)
  (hcut:CqB w 42 #[.string s] (.tuple #[.string n,.string d,.bool false]))
  (hk1:CqB w 84 #[.string n] (.int .i64 0))
  (hk2:CqB w 84 #[.string d] (.int .i64 c2)) :
  Calls Tryz.prog 75 #[.string s] w fun e W'=>e = .returned (.tuple #[.agg #[.string ⟨#[]⟩,.int .i64 0,.string ⟨#[]⟩,.int .i64 0],.int .i64 4])∧Below w.heap.size w W':=by
 have C:=Ha (Hb hcut (Hb hk1 (Hb hk2 trivial)));clear hcut hk1 hk2
 go_enter Tryz.func75,Tryz.ntmps75
 go_wp2_with fail
 have hb0:=Blk.new w #[.string ⟨#[]⟩,.int .i64 0,.string ⟨#[]⟩,.int .i64 0] 119
 have hB0:Below w.heap.size w (w.alloc (.cells #[.string ⟨#[]⟩,.int .i64 0,.string ⟨#[]⟩,.int .i64 0] 119)):=(Below.refl _ w).alloc (Nat.le_refl _) _
 generalize w.alloc (.cells #[.string ⟨#[]⟩,.int .i64 0,.string ⟨#[]⟩,.int .i64 0] 119)=W0 at *
 have H0:=Ha (Hb hb0 hB0);clear hb0 hB0
 refine (C.out.1 _ H0.out.2).mono ?_
 rintro e w1 ⟨rfl,b⟩
 have H1:=Ha (Hb (H0.out.1.next b) (H0.out.2.trans (b.mono H0.out.2.size)));clear b H0
 go_wp2_with fail
 refine (C.out.2.1 _ H1.out.2).mono ?_
 rintro e w2 ⟨rfl,b⟩
 have H2:=Ha (Hb (H1.out.1.next b) (H1.out.2.trans (b.mono H1.out.2.size)));clear b H1
 go_wp2_with fail
 refine (C.out.2.2.1 _ H2.out.2).mono ?_
 rintro e w3 ⟨rfl,b⟩
 have H3:=Ha (Hb (H2.out.1.next b) (H2.out.2.trans (b.mono H2.out.2.size)));clear b H2
 have q0:=H3.out.1.cell 0 (.string ⟨#[]⟩) rfl
 have q1:=H3.out.1.cell 1 (.int .i64 0) rfl
 have q2:=H3.out.1.cell 2 (.string ⟨#[]⟩) rfl
 have q3:=H3.out.1.cell 3 (.int .i64 0) rfl
 have f0:=H3.out.1.free 0
 have f1:=H3.out.1.free 1
 have f2:=H3.out.1.free 2
 have f3:=H3.out.1.free 3
 have HP:=Ha (H3.out.1.put4 (.string ⟨#[]⟩) (.int .i64 0) (.string ⟨#[]⟩) (.int .i64 0))
 have HL:=Ha (bC H3.out.2 (l:=w.heap.size) (Nat.le_refl _) (.string ⟨#[]⟩) (.int .i64 0) (.string ⟨#[]⟩) (.int .i64 0))
 have g0:=HP.out.cell 0 (.string ⟨#[]⟩) rfl
 have g1:=HP.out.cell 1 (.int .i64 0) rfl
 have g2:=HP.out.cell 2 (.string ⟨#[]⟩) rfl
 have g3:=HP.out.cell 3 (.int .i64 0) rfl
 go_wp2
 refine bodyPost_ret (v := .tuple #[.agg #[.string ⟨#[]⟩,.int .i64 0,.string ⟨#[]⟩,.int .i64 0],.int .i64 4]) (by simp [results,Tryz.results75,go_sem,g0,g1,g2,g3]) rfl ?_
 exact ⟨rfl,HL.out⟩
theorem ER (s n d g:ByteArray) (w:World) (hp:0<d.size) (hp':(0:Int)<d.size) (hm:((d[0].toNat:Int)==45)=false) (hm':((d[0].toNat:Int) != 45)=true) (h0:(d.toList == [48])=false) (h0':(d.toList != [48])=true) (h1:(d.toList == [49])=false)
  (hcut:CqB w 42 #[.string s] (.tuple #[.string n,.string d,.bool true]))
  (hk1:CqB w 84 #[.string n] (.int .i64 0))
  (hk2:CqB w 84 #[.string d] (.int .i64 0))
  (hdv:CqB w 124 #[.agg #[.string n,.int .i64 0],.agg #[.string d,.int .i64 0]] (.agg #[.string g,.int .i64 0]))
  (hon:CqB w 125 #[.agg #[.string g,.int .i64 0]] (.bool true)) :
  Calls Tryz.prog 75 #[.string s] w fun e W'=>e = .returned (.tuple #[.agg #[.string n,.int .i64 0,.string d,.int .i64 0],.int .i64 0])∧Below w.heap.size w W':=by
 have C:=Ha (Hb hcut (Hb hk1 (Hb hk2 (Hb hdv hon))));clear hcut hk1 hk2 hdv hon
 go_enter Tryz.func75,Tryz.ntmps75
 go_wp2_with fail
 have hb0:=Blk.new w #[.string ⟨#[]⟩,.int .i64 0,.string ⟨#[]⟩,.int .i64 0] 119
 have hB0:Below w.heap.size w (w.alloc (.cells #[.string ⟨#[]⟩,.int .i64 0,.string ⟨#[]⟩,.int .i64 0] 119)):=(Below.refl _ w).alloc (Nat.le_refl _) _
 generalize w.alloc (.cells #[.string ⟨#[]⟩,.int .i64 0,.string ⟨#[]⟩,.int .i64 0] 119)=W0 at *
 have H0:=Ha (Hb hb0 hB0);clear hb0 hB0
 refine (C.out.1 _ H0.out.2).mono ?_
 rintro e w1 ⟨rfl,b⟩
 have H1:=Ha (Hb (H0.out.1.next b) (H0.out.2.trans (b.mono H0.out.2.size)));clear b H0
 go_wp2_with fail
 refine (C.out.2.1 _ H1.out.2).mono ?_
 rintro e w2 ⟨rfl,b⟩
 have H2:=Ha (Hb (H1.out.1.next b) (H1.out.2.trans (b.mono H1.out.2.size)));clear b H1
 go_wp2_with fail
 refine (C.out.2.2.1 _ H2.out.2).mono ?_
 rintro e w3 ⟨rfl,b⟩
 have H3:=Ha (Hb (H2.out.1.next b) (H2.out.2.trans (b.mono H2.out.2.size)));clear b H2
 have H4:=Ha (show Blk (w3.alloc (.cells #[.string n,.int .i64 0,.string d,.int .i64 0] 119)) w.heap.size #[.string ⟨#[]⟩,.int .i64 0,.string ⟨#[]⟩,.int .i64 0]∧Below w.heap.size w (w3.alloc (.cells #[.string n,.int .i64 0,.string d,.int .i64 0] 119))∧Blk (w3.alloc (.cells #[.string n,.int .i64 0,.string d,.int .i64 0] 119)) w3.heap.size #[.string n,.int .i64 0,.string d,.int .i64 0]∧w.heap.size<w3.heap.size from ⟨H3.out.1.alloc _,H3.out.2.alloc H3.out.2.size _,Blk.new w3 _ _,H3.out.1.lt⟩)
 have e0:=H4.out.2.2.1.cell 0 (.string n) rfl
 have e1:=H4.out.2.2.1.cell 1 (.int .i64 0) rfl
 have e2:=H4.out.2.2.1.cell 2 (.string d) rfl
 have e3:=H4.out.2.2.1.cell 3 (.int .i64 0) rfl
 go_wp2_with fail
 generalize w3.alloc (.cells #[.string n,.int .i64 0,.string d,.int .i64 0] 119)=w4 at *
 generalize w3.heap.size=j at *
 clear e0 e1 e2 e3 H3
 refine (C.out.2.2.2.1 _ H4.out.2.1).mono ?_
 rintro e w5 ⟨rfl,b⟩
 have H5:=Ha (Hb (H4.out.1.next b) (Hb (H4.out.2.1.trans (b.mono H4.out.2.1.size)) (H4.out.2.2.1.next b)));clear b H4
 go_wp2_with fail
 refine (C.out.2.2.2.2 _ H5.out.2.1).mono ?_
 rintro e w6 ⟨rfl,b⟩
 have H6:=Ha (Hb (H5.out.1.next b) (H5.out.2.1.trans (b.mono H5.out.2.1.size)))
 have H7:=Ha (H5.out.2.2.next b);clear b H5
 have e0:=H7.out.cell 0 (.string n) rfl
 have e1:=H7.out.cell 1 (.int .i64 0) rfl
 have e2:=H7.out.cell 2 (.string d) rfl
 have e3:=H7.out.cell 3 (.int .i64 0) rfl
 have q0:=H6.out.1.cell 0 (.string ⟨#[]⟩) rfl
 have q1:=H6.out.1.cell 1 (.int .i64 0) rfl
 have q2:=H6.out.1.cell 2 (.string ⟨#[]⟩) rfl
 have q3:=H6.out.1.cell 3 (.int .i64 0) rfl
 have f0:=H6.out.1.free 0
 have f1:=H6.out.1.free 1
 have f2:=H6.out.1.free 2
 have f3:=H6.out.1.free 3
 have HP:=Ha (H6.out.1.put4 (.string n) (.int .i64 0) (.string d) (.int .i64 0))
 have HL:=Ha (bC H6.out.2 (l:=w.heap.size) (Nat.le_refl _) (.string n) (.int .i64 0) (.string d) (.int .i64 0))
 have g0:=HP.out.cell 0 (.string n) rfl
 have g1:=HP.out.cell 1 (.int .i64 0) rfl
 have g2:=HP.out.cell 2 (.string d) rfl
 have g3:=HP.out.cell 3 (.int .i64 0) rfl
 go_wp2
 refine bodyPost_ret (v := .tuple #[.agg #[.string n,.int .i64 0,.string d,.int .i64 0],.int .i64 0]) (by simp [results,Tryz.results75,go_sem,g0,g1,g2,g3]) rfl ?_
 exact ⟨rfl,HL.out⟩
theorem l6 (a b:ByteArray) (w:World)
  (ha:∀ W,Below w.heap.size w W→Calls Tryz.prog 80 #[.string a] W fun e W'=>(∃ x y,e = .returned (.tuple #[.agg #[.int .i64 x,.int .i64 y],.bool false]))∧Below W.heap.size W W') :
  Calls Tryz.prog 74 #[.string a,.string b] w fun e W'=>(∃ x y z u,e = .returned (.tuple #[.agg #[.int .i64 x,.int .i64 y],.agg #[.int .i64 z,.int .i64 u],.bool false]))∧Below w.heap.size w W':=by
 have C:=Ha ha;clear ha
 have hB:Below w.heap.size w ((w.alloc (.cells #[.int .i64 0,.int .i64 0] 115)).alloc (.cells #[.int .i64 0,.int .i64 0] 115)):=((Below.refl _ w).alloc (Nat.le_refl _) _).alloc (by simp) _
 have k0:=(Blk.new w #[.int .i64 0,.int .i64 0] 115).alloc (.cells #[.int .i64 0,.int .i64 0] 115)
 have k1:=Blk.new (w.alloc (.cells #[.int .i64 0,.int .i64 0] 115)) #[.int .i64 0,.int .i64 0] 115
 rw [World.size_alloc] at k1
 go_enter Tryz.func74,Tryz.ntmps74
 go_wp2_with fail
 generalize (w.alloc (.cells #[.int .i64 0,.int .i64 0] 115)).alloc (.cells #[.int .i64 0,.int .i64 0] 115)=W0 at *
 have HB:=Ha (Hb hB (Hb k0 k1));clear hB k0 k1
 refine (C.out _ HB.out.1).mono ?_
 rintro e w1 ⟨⟨x,y,rfl⟩,b⟩
 have H1:=Ha (Hb (HB.out.1.trans (b.mono HB.out.1.size)) (Hb (HB.out.2.1.next b) (HB.out.2.2.next b)));clear b HB
 go_wp2_with fail
 obtain ⟨hB,k0,k1⟩:=H1.out
 have n0:w.heap.size≠w1.heap.size:=by have:=k0.lt;omega
 have n1:w.heap.size+1≠w1.heap.size:=by have:=k1.lt;omega
 have k2:=Blk.new w1 #[.int .i64 x,.int .i64 y] 115
 have K0:=k0.alloc (.cells #[.int .i64 x,.int .i64 y] 115)
 have K1:=k1.alloc (.cells #[.int .i64 x,.int .i64 y] 115)
 have hW:=hB.alloc hB.size (.cells #[.int .i64 x,.int .i64 y] 115)
 generalize w1.alloc (.cells #[.int .i64 x,.int .i64 y] 115)=W1 at *
 generalize w1.heap.size=j at *
 clear hB k0 k1 H1
 have c0:=k2.cell 0 (.int .i64 x) rfl
 have c1:=k2.cell 1 (.int .i64 y) rfl
 clear k2
 generalize hk:w.heap.size=k at *
 have HK:=Ha hk;clear hk
 have f0:=K0.free 0
 have f1:=K0.free 1
 have f2:=K1.free 0
 have f3:=K1.free 1
 have d0:=K0.cell 0 (.int .i64 0) rfl
 have d1:=K0.cell 1 (.int .i64 0) rfl
 have d2:=K1.cell 0 (.int .i64 0) rfl
 have d3:=K1.cell 1 (.int .i64 0) rfl
 have HW:=Ha (Hb hW (Hb ((K0.put2 (.int .i64 x) (.int .i64 y)).other2 (l:=k+1) (by omega) (.int .i64 x) (.int .i64 y)).drew ((K1.other2 (l:=k) (by omega) (.int .i64 x) (.int .i64 y)).put2 (.int .i64 x) (.int .i64 y)).drew));clear hW K0 K1
 go_region_held3 (fun w'=>w'.cell? ⟨j,0,none⟩=some (.int .i64 x)∧w'.cell? ⟨j,1,none⟩=some (.int .i64 y)) (first | exact ⟨c0,c1⟩ | (go_keep;done)) (first | fail)
 clear f0 f1 f2 f3 d0 d1 d2 d3
 have g0:=HW.out.2.1.cell 0 _ rfl
 have g1:=HW.out.2.1.cell 1 _ rfl
 have g2:=HW.out.2.2.cell 0 _ rfl
 have g3:=HW.out.2.2.cell 1 _ rfl
 have HL:=Ha ((bi (bi HW.out.1 (l:=k) (Nat.le_refl _) (.int .i64 x) (.int .i64 y)) (l:=k+1) (Nat.le_succ _) (.int .i64 x) (.int .i64 y)).drew)
 go_wp2
 refine bodyPost_ret (v := .tuple #[.agg #[.int .i64 x,.int .i64 y],.agg #[.int .i64 x,.int .i64 y],.bool false]) (by simp [results,Tryz.results74,go_sem,g0,g1,g2,g3]) rfl ?_
 exact ⟨⟨_,_,_,_,rfl⟩,by rw [HK.out];exact HL.out⟩
theorem hU (a b:ByteArray) (x y:Int) (o:Bool) (R:Int→Int→Prop) (w:World)
  (ha:CqB w 80 #[.string a] (.tuple #[.agg #[.int .i64 x,.int .i64 y],.bool true]))
  (hb:∀ W,Below w.heap.size w W→Calls Tryz.prog 80 #[.string b] W fun e W'=>(∃ z u,R z u∧e = .returned (.tuple #[.agg #[.int .i64 z,.int .i64 u],.bool o]))∧Below W.heap.size W W') :
  Calls Tryz.prog 74 #[.string a,.string b] w fun e W'=>(∃ z u,R z u∧e = .returned (.tuple #[.agg #[.int .i64 x,.int .i64 y],.agg #[.int .i64 z,.int .i64 u],.bool o]))∧Below w.heap.size w W':=by
 have C:=Ha (Hb ha hb);clear ha hb
 have hB:Below w.heap.size w ((w.alloc (.cells #[.int .i64 0,.int .i64 0] 115)).alloc (.cells #[.int .i64 0,.int .i64 0] 115)):=((Below.refl _ w).alloc (Nat.le_refl _) _).alloc (by simp) _
 have k0:=(Blk.new w #[.int .i64 0,.int .i64 0] 115).alloc (.cells #[.int .i64 0,.int .i64 0] 115)
 have k1:=Blk.new (w.alloc (.cells #[.int .i64 0,.int .i64 0] 115)) #[.int .i64 0,.int .i64 0] 115
 rw [World.size_alloc] at k1
 go_enter Tryz.func74,Tryz.ntmps74
 go_wp2_with fail
 generalize (w.alloc (.cells #[.int .i64 0,.int .i64 0] 115)).alloc (.cells #[.int .i64 0,.int .i64 0] 115)=W0 at *
 have HB:=Ha (Hb hB (Hb k0 k1));clear hB k0 k1
 refine (C.out.1 _ HB.out.1).mono ?_
 rintro e w1 ⟨rfl,b⟩
 have H1:=Ha (Hb (HB.out.1.trans (b.mono HB.out.1.size)) (Hb (HB.out.2.1.next b) (HB.out.2.2.next b)));clear b HB
 go_wp2_with fail
 obtain ⟨hB,k0,k1⟩:=H1.out
 have n0:w.heap.size≠w1.heap.size:=by have:=k0.lt;omega
 have n1:w.heap.size+1≠w1.heap.size:=by have:=k1.lt;omega
 have k2:=Blk.new w1 #[.int .i64 x,.int .i64 y] 115
 have K0:=k0.alloc (.cells #[.int .i64 x,.int .i64 y] 115)
 have K1:=k1.alloc (.cells #[.int .i64 x,.int .i64 y] 115)
 have hW:=hB.alloc hB.size (.cells #[.int .i64 x,.int .i64 y] 115)
 generalize w1.alloc (.cells #[.int .i64 x,.int .i64 y] 115)=W1 at *
 generalize w1.heap.size=j at *
 clear hB k0 k1 H1
 have HB:=Ha (Hb hW (Hb K0 (Hb K1 k2)));clear hW K0 K1 k2
 refine (C.out.2 _ HB.out.1).mono ?_
 rintro e w2 ⟨⟨z,u,hR,rfl⟩,b⟩
 have H2:=Ha (Hb (HB.out.1.trans (b.mono HB.out.1.size)) (Hb (HB.out.2.1.next b) (Hb (HB.out.2.2.1.next b) (HB.out.2.2.2.next b))));clear b HB
 have HR:=Ha hR;clear hR
 go_wp2_with fail
 obtain ⟨hB,k0,k1,k2⟩:=H2.out
 have n2:w.heap.size≠w2.heap.size:=by have:=k0.lt;omega
 have n3:w.heap.size+1≠w2.heap.size:=by have:=k1.lt;omega
 have k3:=Blk.new w2 #[.int .i64 z,.int .i64 u] 115
 have K0:=k0.alloc (.cells #[.int .i64 z,.int .i64 u] 115)
 have K1:=k1.alloc (.cells #[.int .i64 z,.int .i64 u] 115)
 have K2:=k2.alloc (.cells #[.int .i64 z,.int .i64 u] 115)
 have hW:=hB.alloc hB.size (.cells #[.int .i64 z,.int .i64 u] 115)
 generalize w2.alloc (.cells #[.int .i64 z,.int .i64 u] 115)=W2 at *
 generalize w2.heap.size=i at *
 clear hB k0 k1 k2 H2 C
 have c0:=K2.cell 0 (.int .i64 x) rfl
 have c1:=K2.cell 1 (.int .i64 y) rfl
 have c2:=k3.cell 0 (.int .i64 z) rfl
 have c3:=k3.cell 1 (.int .i64 u) rfl
 clear K2 k3
 generalize hk:w.heap.size=k at *
 have HK:=Ha hk;clear hk
 have f0:=K0.free 0
 have f1:=K0.free 1
 have f2:=K1.free 0
 have f3:=K1.free 1
 have d0:=K0.cell 0 (.int .i64 0) rfl
 have d1:=K0.cell 1 (.int .i64 0) rfl
 have d2:=K1.cell 0 (.int .i64 0) rfl
 have d3:=K1.cell 1 (.int .i64 0) rfl
 have HW:=Ha (Hb hW (Hb ((K0.put2 (.int .i64 x) (.int .i64 y)).other2 (l:=k+1) (by omega) (.int .i64 z) (.int .i64 u)).drew ((K1.other2 (l:=k) (by omega) (.int .i64 x) (.int .i64 y)).put2 (.int .i64 z) (.int .i64 u)).drew));clear hW K0 K1
 go_region_held3 (fun w'=>w'.cell? ⟨j,0,none⟩=some (.int .i64 x)∧w'.cell? ⟨j,1,none⟩=some (.int .i64 y)∧w'.cell? ⟨i,0,none⟩=some (.int .i64 z)∧w'.cell? ⟨i,1,none⟩=some (.int .i64 u)) (first | exact ⟨c0,c1,c2,c3⟩ | (go_keep;done)) (first | fail)
 clear f0 f1 f2 f3 d0 d1 d2 d3
 have g0:=HW.out.2.1.cell 0 _ rfl
 have g1:=HW.out.2.1.cell 1 _ rfl
 have g2:=HW.out.2.2.cell 0 _ rfl
 have g3:=HW.out.2.2.cell 1 _ rfl
 have HL:=Ha ((bi (bi HW.out.1 (l:=k) (Nat.le_refl _) (.int .i64 x) (.int .i64 y)) (l:=k+1) (Nat.le_succ _) (.int .i64 z) (.int .i64 u)).drew)
 go_wp2
 refine bodyPost_ret (v := .tuple #[.agg #[.int .i64 x,.int .i64 y],.agg #[.int .i64 z,.int .i64 u],.bool o]) (by simp [results,Tryz.results74,go_sem,g0,g1,g2,g3]) rfl ?_
 exact ⟨⟨_,_,HR.out,rfl⟩,by rw [HK.out];exact HL.out⟩
theorem ES {w:World} {k j o:Nat} {a b c d:Value} (hne:j≠k) {v:Value} (h:w.cell? ⟨k,o,none⟩=some v):((((w.setCell ⟨j,0,none⟩ a).setCell ⟨j,1,none⟩ b).setCell ⟨j,2,none⟩ c).setCell ⟨j,3,none⟩ d).cell? ⟨k,o,none⟩=some v:=by
 have hh:∀ (W:World) (o':Nat) (u:Value),(W.setCell ⟨j,o',none⟩ u).cell? ⟨k,o,none⟩=W.cell? ⟨k,o,none⟩:=fun W o' u=>World.cell?_of_block (Below.heap_setCell _ _ _ _ (by show k≠j;omega))
 rw [hh,hh,hh,hh];exact h
theorem kt {w:World} {b:Nat} {x0 x1 x2 x3:Value} (c0:w.cell? ⟨b,0,none⟩=some x0) (c1:w.cell? ⟨b,1,none⟩=some x1) (c2:w.cell? ⟨b,2,none⟩=some x2) (c3:w.cell? ⟨b,3,none⟩=some x3) (X Y Z T:Value) :
  ((((w.setCell ⟨b,0,none⟩ X).setCell ⟨b,1,none⟩ Y).setCell ⟨b,2,none⟩ Z).setCell ⟨b,3,none⟩ T).cell? ⟨b,0,none⟩=some X∧((((w.setCell ⟨b,0,none⟩ X).setCell ⟨b,1,none⟩ Y).setCell ⟨b,2,none⟩ Z).setCell ⟨b,3,none⟩ T).cell? ⟨b,1,none⟩=some Y ∧
  ((((w.setCell ⟨b,0,none⟩ X).setCell ⟨b,1,none⟩ Y).setCell ⟨b,2,none⟩ Z).setCell ⟨b,3,none⟩ T).cell? ⟨b,2,none⟩=some Z∧((((w.setCell ⟨b,0,none⟩ X).setCell ⟨b,1,none⟩ Y).setCell ⟨b,2,none⟩ Z).setCell ⟨b,3,none⟩ T).cell? ⟨b,3,none⟩=some T:=by
 refine ⟨by go_cell,by go_cell,by go_cell,by go_cell⟩
theorem rV (a b c d:Option Int) (w:World) (ha:Lwf a) (hb:Lwf b) (hc:Lwf c) (hd:Lwf d) (ht:Tab w) :
  Calls Tryz.prog 35 #[.agg #[.string (LB a),.int .i64 (LE a),.string (LB b),.int .i64 (LE b)],.agg #[.string (LB c),.int .i64 (LE c),.string (LB d),.int .i64 (LE d)]] w fun e W'=>e = .returned (.agg #[.string (LB (opL (· * ·) a c)),.int .i64 (LE (opL (· * ·) a c)),.string (LB (opL (· * ·) b d)),.int .i64 (LE (opL (· * ·) b d))])∧Below w.heap.size w W':=by
 have ct:=fun o p W (ho:Lwf o) (hp:Lwf p) (hW:Below w.heap.size w W)=>kj o p W ho hp (ht.next hW)
 have cp:=fun o p W (ho:Lwf o) (hp:Lwf p) (hW:Below w.heap.size w W)=>lZ o p W ho hp (ht.next hW)
 have cm:=fun o p W (ho:Lwf o) (hp:Lwf p) (hW:Below w.heap.size w W)=>iD o p W ho hp (ht.next hW)
 have C:=Ha (Hb ct (Hb cp cm))
 clear ct cp cm ht
 go_enter Tryz.func35,Tryz.ntmps35
 go_wp2
 have hbx:Bxs w w.heap.size [[.string (LB a),.int .i64 (LE a),.string (LB b),.int .i64 (LE b)],[.string (LB c),.int .i64 (LE c),.string (LB d),.int .i64 (LE d)],[.string ⟨#[]⟩,.int .i64 0,.string ⟨#[]⟩,.int .i64 0]] (((w.alloc (.cells #[.string (LB a),.int .i64 (LE a),.string (LB b),.int .i64 (LE b)] 119)).alloc (.cells #[.string (LB c),.int .i64 (LE c),.string (LB d),.int .i64 (LE d)] 119)).alloc (.cells #[.string ⟨#[]⟩,.int .i64 0,.string ⟨#[]⟩,.int .i64 0] 119)):=(((Bxs.nil w w (Below.refl _ _)).push rfl [.string (LB a),.int .i64 (LE a),.string (LB b),.int .i64 (LE b)] 119).push (by simp) [.string (LB c),.int .i64 (LE c),.string (LB d),.int .i64 (LE d)] 119).push (by simp) [.string ⟨#[]⟩,.int .i64 0,.string ⟨#[]⟩,.int .i64 0] 119
 generalize ((w.alloc (.cells #[.string (LB a),.int .i64 (LE a),.string (LB b),.int .i64 (LE b)] 119)).alloc (.cells #[.string (LB c),.int .i64 (LE c),.string (LB d),.int .i64 (LE d)] 119)).alloc (.cells #[.string ⟨#[]⟩,.int .i64 0,.string ⟨#[]⟩,.int .i64 0] 119)=W0 at *
 generalize hk:w.heap.size=k at *
 have HK:=Ha hk;clear hk
 have HB:=Ha (hbx.next (Below.refl _ _).drew)
 clear hbx
 have e0:=(show _=some (.string (LB a)) from HB.out.cells 0 _ rfl 0 _ rfl);have e1:=(show _=some (.int .i64 (LE a)) from HB.out.cells 0 _ rfl 1 _ rfl);have e2:=(show _=some (.string (LB b)) from HB.out.cells 0 _ rfl 2 _ rfl);have e3:=(show _=some (.int .i64 (LE b)) from HB.out.cells 0 _ rfl 3 _ rfl);have e4:=(show _=some (.string (LB c)) from HB.out.cells 1 _ rfl 0 _ rfl);have e5:=(show _=some (.int .i64 (LE c)) from HB.out.cells 1 _ rfl 1 _ rfl);have e6:=(show _=some (.string (LB d)) from HB.out.cells 1 _ rfl 2 _ rfl);have e7:=(show _=some (.int .i64 (LE d)) from HB.out.cells 1 _ rfl 3 _ rfl);have z0:=(show World.cell? _ ⟨k+1+1,0,none⟩=some (.string ⟨#[]⟩) from HB.out.cells 2 _ rfl 0 _ rfl);have f0:=(show World.frozen? _ ⟨k+1+1,0,none⟩=false from HB.out.frozen 2 (by simp) 0);have z1:=(show World.cell? _ ⟨k+1+1,1,none⟩=some (.int .i64 0) from HB.out.cells 2 _ rfl 1 _ rfl);have f1:=(show World.frozen? _ ⟨k+1+1,1,none⟩=false from HB.out.frozen 2 (by simp) 1);have z2:=(show World.cell? _ ⟨k+1+1,2,none⟩=some (.string ⟨#[]⟩) from HB.out.cells 2 _ rfl 2 _ rfl);have f2:=(show World.frozen? _ ⟨k+1+1,2,none⟩=false from HB.out.frozen 2 (by simp) 2);have z3:=(show World.cell? _ ⟨k+1+1,3,none⟩=some (.int .i64 0) from HB.out.cells 2 _ rfl 3 _ rfl);have f3:=(show World.frozen? _ ⟨k+1+1,3,none⟩=false from HB.out.frozen 2 (by simp) 3)
 go_region_held3 (fun w'=>w'.cell? ⟨k,0,none⟩=some (.string (LB a))∧w'.cell? ⟨k,1,none⟩=some (.int .i64 (LE a))∧w'.cell? ⟨k,2,none⟩=some (.string (LB b))∧w'.cell? ⟨k,3,none⟩=some (.int .i64 (LE b))∧w'.cell? ⟨k+1,0,none⟩=some (.string (LB c))∧w'.cell? ⟨k+1,1,none⟩=some (.int .i64 (LE c))∧w'.cell? ⟨k+1,2,none⟩=some (.string (LB d))∧w'.cell? ⟨k+1,3,none⟩=some (.int .i64 (LE d))) (first | exact ⟨e0,e1,e2,e3,e4,e5,e6,e7⟩ | (go_keep;done) | ((try dsimp only);refine ⟨?_,?_,?_,?_,?_,?_,?_,?_⟩ <;> (exact ES (by omega) (by assumption))))
  (first | (go_at_call 355;refine (C.out.1 _ _ _ (by first | assumption | exact dO _ _ _) (by first | assumption | exact dO _ _ _) (by have:=HB.out.below;rwa [HK.out] at this)).mono ?_;rintro e w1 ⟨rfl,hbw⟩;replace HB:=Ha (HB.out.next hbw);clear hbw;have e0:=(show _=some (.string (LB a)) from HB.out.cells 0 _ rfl 0 _ rfl);have e1:=(show _=some (.int .i64 (LE a)) from HB.out.cells 0 _ rfl 1 _ rfl);have e2:=(show _=some (.string (LB b)) from HB.out.cells 0 _ rfl 2 _ rfl);have e3:=(show _=some (.int .i64 (LE b)) from HB.out.cells 0 _ rfl 3 _ rfl);have e4:=(show _=some (.string (LB c)) from HB.out.cells 1 _ rfl 0 _ rfl);have e5:=(show _=some (.int .i64 (LE c)) from HB.out.cells 1 _ rfl 1 _ rfl);have e6:=(show _=some (.string (LB d)) from HB.out.cells 1 _ rfl 2 _ rfl);have e7:=(show _=some (.int .i64 (LE d)) from HB.out.cells 1 _ rfl 3 _ rfl);have z0:=(show World.cell? _ ⟨k+1+1,0,none⟩=some (.string ⟨#[]⟩) from HB.out.cells 2 _ rfl 0 _ rfl);have f0:=(show World.frozen? _ ⟨k+1+1,0,none⟩=false from HB.out.frozen 2 (by simp) 0);have z1:=(show World.cell? _ ⟨k+1+1,1,none⟩=some (.int .i64 0) from HB.out.cells 2 _ rfl 1 _ rfl);have f1:=(show World.frozen? _ ⟨k+1+1,1,none⟩=false from HB.out.frozen 2 (by simp) 1);have z2:=(show World.cell? _ ⟨k+1+1,2,none⟩=some (.string ⟨#[]⟩) from HB.out.cells 2 _ rfl 2 _ rfl);have f2:=(show World.frozen? _ ⟨k+1+1,2,none⟩=false from HB.out.frozen 2 (by simp) 2);have z3:=(show World.cell? _ ⟨k+1+1,3,none⟩=some (.int .i64 0) from HB.out.cells 2 _ rfl 3 _ rfl);have f3:=(show World.frozen? _ ⟨k+1+1,3,none⟩=false from HB.out.frozen 2 (by simp) 3)))
 have e0:=(show _=some (.string (LB a)) from HB.out.cells 0 _ rfl 0 _ rfl);have e1:=(show _=some (.int .i64 (LE a)) from HB.out.cells 0 _ rfl 1 _ rfl);have e2:=(show _=some (.string (LB b)) from HB.out.cells 0 _ rfl 2 _ rfl);have e3:=(show _=some (.int .i64 (LE b)) from HB.out.cells 0 _ rfl 3 _ rfl);have e4:=(show _=some (.string (LB c)) from HB.out.cells 1 _ rfl 0 _ rfl);have e5:=(show _=some (.int .i64 (LE c)) from HB.out.cells 1 _ rfl 1 _ rfl);have e6:=(show _=some (.string (LB d)) from HB.out.cells 1 _ rfl 2 _ rfl);have e7:=(show _=some (.int .i64 (LE d)) from HB.out.cells 1 _ rfl 3 _ rfl);have z0:=(show World.cell? _ ⟨k+1+1,0,none⟩=some (.string ⟨#[]⟩) from HB.out.cells 2 _ rfl 0 _ rfl);have f0:=(show World.frozen? _ ⟨k+1+1,0,none⟩=false from HB.out.frozen 2 (by simp) 0);have z1:=(show World.cell? _ ⟨k+1+1,1,none⟩=some (.int .i64 0) from HB.out.cells 2 _ rfl 1 _ rfl);have f1:=(show World.frozen? _ ⟨k+1+1,1,none⟩=false from HB.out.frozen 2 (by simp) 1);have z2:=(show World.cell? _ ⟨k+1+1,2,none⟩=some (.string ⟨#[]⟩) from HB.out.cells 2 _ rfl 2 _ rfl);have f2:=(show World.frozen? _ ⟨k+1+1,2,none⟩=false from HB.out.frozen 2 (by simp) 2);have z3:=(show World.cell? _ ⟨k+1+1,3,none⟩=some (.int .i64 0) from HB.out.cells 2 _ rfl 3 _ rfl);have f3:=(show World.frozen? _ ⟨k+1+1,3,none⟩=false from HB.out.frozen 2 (by simp) 3)
 obtain ⟨g0,g1,g2,g3⟩:=kt z0 z1 z2 z3 (.string (LB (opL (· * ·) a c))) (.int .i64 (LE (opL (· * ·) a c))) (.string (LB (opL (· * ·) b d))) (.int .i64 (LE (opL (· * ·) b d)))
 go_wp2
 refine bodyPost_ret (v := .agg #[.string (LB (opL (· * ·) a c)),.int .i64 (LE (opL (· * ·) a c)),.string (LB (opL (· * ·) b d)),.int .i64 (LE (opL (· * ·) b d))]) (by simp [results,Tryz.results35,go_sem,g0,g1,g2,g3]) rfl ?_
 refine ⟨rfl,?_⟩
 have hbl:=HB.out.below
 rw [HK.out] at hbl ⊢
 exact (((hbl.setCell (p:=⟨k+1+1,0,none⟩) (by show k≤k+1+1;omega) _).setCell (p:=⟨k+1+1,1,none⟩) (by show k≤k+1+1;omega) _).setCell (p:=⟨k+1+1,2,none⟩) (by show k≤k+1+1;omega) _).setCell (p:=⟨k+1+1,3,none⟩) (by show k≤k+1+1;omega) _
theorem oz (a b c d:Option Int) (w:World) (ha:Lwf a) (hb:Lwf b) (hc:Lwf c) (hd:Lwf d) (ht:Tab w) :
  Calls Tryz.prog 37 #[.agg #[.string (LB a),.int .i64 (LE a),.string (LB b),.int .i64 (LE b)],.agg #[.string (LB c),.int .i64 (LE c),.string (LB d),.int .i64 (LE d)]] w fun e W'=>e = .returned (.agg #[.string (LB (opL (· * ·) a d)),.int .i64 (LE (opL (· * ·) a d)),.string (LB (opL (· * ·) c b)),.int .i64 (LE (opL (· * ·) c b))])∧Below w.heap.size w W':=by
 have ct:=fun o p W (ho:Lwf o) (hp:Lwf p) (hW:Below w.heap.size w W)=>kj o p W ho hp (ht.next hW)
 have cp:=fun o p W (ho:Lwf o) (hp:Lwf p) (hW:Below w.heap.size w W)=>lZ o p W ho hp (ht.next hW)
 have cm:=fun o p W (ho:Lwf o) (hp:Lwf p) (hW:Below w.heap.size w W)=>iD o p W ho hp (ht.next hW)
 have C:=Ha (Hb ct (Hb cp cm))
 clear ct cp cm ht
 go_enter Tryz.func37,Tryz.ntmps37
 go_wp2
 have hbx:Bxs w w.heap.size [[.string (LB a),.int .i64 (LE a),.string (LB b),.int .i64 (LE b)],[.string (LB c),.int .i64 (LE c),.string (LB d),.int .i64 (LE d)],[.string ⟨#[]⟩,.int .i64 0,.string ⟨#[]⟩,.int .i64 0]] (((w.alloc (.cells #[.string (LB a),.int .i64 (LE a),.string (LB b),.int .i64 (LE b)] 119)).alloc (.cells #[.string (LB c),.int .i64 (LE c),.string (LB d),.int .i64 (LE d)] 119)).alloc (.cells #[.string ⟨#[]⟩,.int .i64 0,.string ⟨#[]⟩,.int .i64 0] 119)):=(((Bxs.nil w w (Below.refl _ _)).push rfl [.string (LB a),.int .i64 (LE a),.string (LB b),.int .i64 (LE b)] 119).push (by simp) [.string (LB c),.int .i64 (LE c),.string (LB d),.int .i64 (LE d)] 119).push (by simp) [.string ⟨#[]⟩,.int .i64 0,.string ⟨#[]⟩,.int .i64 0] 119
 generalize ((w.alloc (.cells #[.string (LB a),.int .i64 (LE a),.string (LB b),.int .i64 (LE b)] 119)).alloc (.cells #[.string (LB c),.int .i64 (LE c),.string (LB d),.int .i64 (LE d)] 119)).alloc (.cells #[.string ⟨#[]⟩,.int .i64 0,.string ⟨#[]⟩,.int .i64 0] 119)=W0 at *
 generalize hk:w.heap.size=k at *
 have HK:=Ha hk;clear hk
 have HB:=Ha (hbx.next (Below.refl _ _).drew)
 clear hbx
 have e0:=(show _=some (.string (LB a)) from HB.out.cells 0 _ rfl 0 _ rfl);have e1:=(show _=some (.int .i64 (LE a)) from HB.out.cells 0 _ rfl 1 _ rfl);have e2:=(show _=some (.string (LB b)) from HB.out.cells 0 _ rfl 2 _ rfl);have e3:=(show _=some (.int .i64 (LE b)) from HB.out.cells 0 _ rfl 3 _ rfl);have e4:=(show _=some (.string (LB c)) from HB.out.cells 1 _ rfl 0 _ rfl);have e5:=(show _=some (.int .i64 (LE c)) from HB.out.cells 1 _ rfl 1 _ rfl);have e6:=(show _=some (.string (LB d)) from HB.out.cells 1 _ rfl 2 _ rfl);have e7:=(show _=some (.int .i64 (LE d)) from HB.out.cells 1 _ rfl 3 _ rfl);have z0:=(show World.cell? _ ⟨k+1+1,0,none⟩=some (.string ⟨#[]⟩) from HB.out.cells 2 _ rfl 0 _ rfl);have f0:=(show World.frozen? _ ⟨k+1+1,0,none⟩=false from HB.out.frozen 2 (by simp) 0);have z1:=(show World.cell? _ ⟨k+1+1,1,none⟩=some (.int .i64 0) from HB.out.cells 2 _ rfl 1 _ rfl);have f1:=(show World.frozen? _ ⟨k+1+1,1,none⟩=false from HB.out.frozen 2 (by simp) 1);have z2:=(show World.cell? _ ⟨k+1+1,2,none⟩=some (.string ⟨#[]⟩) from HB.out.cells 2 _ rfl 2 _ rfl);have f2:=(show World.frozen? _ ⟨k+1+1,2,none⟩=false from HB.out.frozen 2 (by simp) 2);have z3:=(show World.cell? _ ⟨k+1+1,3,none⟩=some (.int .i64 0) from HB.out.cells 2 _ rfl 3 _ rfl);have f3:=(show World.frozen? _ ⟨k+1+1,3,none⟩=false from HB.out.frozen 2 (by simp) 3)
 go_region_held3 (fun w'=>w'.cell? ⟨k,0,none⟩=some (.string (LB a))∧w'.cell? ⟨k,1,none⟩=some (.int .i64 (LE a))∧w'.cell? ⟨k,2,none⟩=some (.string (LB b))∧w'.cell? ⟨k,3,none⟩=some (.int .i64 (LE b))∧w'.cell? ⟨k+1,0,none⟩=some (.string (LB c))∧w'.cell? ⟨k+1,1,none⟩=some (.int .i64 (LE c))∧w'.cell? ⟨k+1,2,none⟩=some (.string (LB d))∧w'.cell? ⟨k+1,3,none⟩=some (.int .i64 (LE d))) (first | exact ⟨e0,e1,e2,e3,e4,e5,e6,e7⟩ | (go_keep;done) | ((try dsimp only);refine ⟨?_,?_,?_,?_,?_,?_,?_,?_⟩ <;> (exact ES (by omega) (by assumption))))
  (first | (go_at_call 355;refine (C.out.1 _ _ _ (by first | assumption | exact dO _ _ _) (by first | assumption | exact dO _ _ _) (by have:=HB.out.below;rwa [HK.out] at this)).mono ?_;rintro e w1 ⟨rfl,hbw⟩;replace HB:=Ha (HB.out.next hbw);clear hbw;have e0:=(show _=some (.string (LB a)) from HB.out.cells 0 _ rfl 0 _ rfl);have e1:=(show _=some (.int .i64 (LE a)) from HB.out.cells 0 _ rfl 1 _ rfl);have e2:=(show _=some (.string (LB b)) from HB.out.cells 0 _ rfl 2 _ rfl);have e3:=(show _=some (.int .i64 (LE b)) from HB.out.cells 0 _ rfl 3 _ rfl);have e4:=(show _=some (.string (LB c)) from HB.out.cells 1 _ rfl 0 _ rfl);have e5:=(show _=some (.int .i64 (LE c)) from HB.out.cells 1 _ rfl 1 _ rfl);have e6:=(show _=some (.string (LB d)) from HB.out.cells 1 _ rfl 2 _ rfl);have e7:=(show _=some (.int .i64 (LE d)) from HB.out.cells 1 _ rfl 3 _ rfl);have z0:=(show World.cell? _ ⟨k+1+1,0,none⟩=some (.string ⟨#[]⟩) from HB.out.cells 2 _ rfl 0 _ rfl);have f0:=(show World.frozen? _ ⟨k+1+1,0,none⟩=false from HB.out.frozen 2 (by simp) 0);have z1:=(show World.cell? _ ⟨k+1+1,1,none⟩=some (.int .i64 0) from HB.out.cells 2 _ rfl 1 _ rfl);have f1:=(show World.frozen? _ ⟨k+1+1,1,none⟩=false from HB.out.frozen 2 (by simp) 1);have z2:=(show World.cell? _ ⟨k+1+1,2,none⟩=some (.string ⟨#[]⟩) from HB.out.cells 2 _ rfl 2 _ rfl);have f2:=(show World.frozen? _ ⟨k+1+1,2,none⟩=false from HB.out.frozen 2 (by simp) 2);have z3:=(show World.cell? _ ⟨k+1+1,3,none⟩=some (.int .i64 0) from HB.out.cells 2 _ rfl 3 _ rfl);have f3:=(show World.frozen? _ ⟨k+1+1,3,none⟩=false from HB.out.frozen 2 (by simp) 3)))
 have e0:=(show _=some (.string (LB a)) from HB.out.cells 0 _ rfl 0 _ rfl);have e1:=(show _=some (.int .i64 (LE a)) from HB.out.cells 0 _ rfl 1 _ rfl);have e2:=(show _=some (.string (LB b)) from HB.out.cells 0 _ rfl 2 _ rfl);have e3:=(show _=some (.int .i64 (LE b)) from HB.out.cells 0 _ rfl 3 _ rfl);have e4:=(show _=some (.string (LB c)) from HB.out.cells 1 _ rfl 0 _ rfl);have e5:=(show _=some (.int .i64 (LE c)) from HB.out.cells 1 _ rfl 1 _ rfl);have e6:=(show _=some (.string (LB d)) from HB.out.cells 1 _ rfl 2 _ rfl);have e7:=(show _=some (.int .i64 (LE d)) from HB.out.cells 1 _ rfl 3 _ rfl);have z0:=(show World.cell? _ ⟨k+1+1,0,none⟩=some (.string ⟨#[]⟩) from HB.out.cells 2 _ rfl 0 _ rfl);have f0:=(show World.frozen? _ ⟨k+1+1,0,none⟩=false from HB.out.frozen 2 (by simp) 0);have z1:=(show World.cell? _ ⟨k+1+1,1,none⟩=some (.int .i64 0) from HB.out.cells 2 _ rfl 1 _ rfl);have f1:=(show World.frozen? _ ⟨k+1+1,1,none⟩=false from HB.out.frozen 2 (by simp) 1);have z2:=(show World.cell? _ ⟨k+1+1,2,none⟩=some (.string ⟨#[]⟩) from HB.out.cells 2 _ rfl 2 _ rfl);have f2:=(show World.frozen? _ ⟨k+1+1,2,none⟩=false from HB.out.frozen 2 (by simp) 2);have z3:=(show World.cell? _ ⟨k+1+1,3,none⟩=some (.int .i64 0) from HB.out.cells 2 _ rfl 3 _ rfl);have f3:=(show World.frozen? _ ⟨k+1+1,3,none⟩=false from HB.out.frozen 2 (by simp) 3)
 obtain ⟨g0,g1,g2,g3⟩:=kt z0 z1 z2 z3 (.string (LB (opL (· * ·) a d))) (.int .i64 (LE (opL (· * ·) a d))) (.string (LB (opL (· * ·) c b))) (.int .i64 (LE (opL (· * ·) c b)))
 go_wp2
 refine bodyPost_ret (v := .agg #[.string (LB (opL (· * ·) a d)),.int .i64 (LE (opL (· * ·) a d)),.string (LB (opL (· * ·) c b)),.int .i64 (LE (opL (· * ·) c b))]) (by simp [results,Tryz.results37,go_sem,g0,g1,g2,g3]) rfl ?_
 refine ⟨rfl,?_⟩
 have hbl:=HB.out.below
 rw [HK.out] at hbl ⊢
 exact (((hbl.setCell (p:=⟨k+1+1,0,none⟩) (by show k≤k+1+1;omega) _).setCell (p:=⟨k+1+1,1,none⟩) (by show k≤k+1+1;omega) _).setCell (p:=⟨k+1+1,2,none⟩) (by show k≤k+1+1;omega) _).setCell (p:=⟨k+1+1,3,none⟩) (by show k≤k+1+1;omega) _
end
section
open Go.RowKit Go.Sort
theorem ia:Tryz.prog.underlying 150=some (.slice 5):=Tryz.underlying150
theorem qm (B u n:Nat) (l:List UInt8) (g cap:Nat) (hn:n=l.length) (hu:u<100) (w:World) (h:RowR B w l g cap) (hB:B≤w.heap.size) (hb:l.length+20≤140737488355328) :
  Calls Tryz.prog 139 #[.slice (some ⟨g,0,none⟩) n cap,.int .u64 u,.int .i64 10] w fun e W'=>∃ g' cap',e = .returned (.slice (some ⟨g',0,none⟩) (n+(Lib.decDigits u).length) cap')∧RowR B W' (l++Lib.decDigits u) g' cap'∧Below B w W':=by
 obtain ⟨i0,hi,hz0,hz1,hz2⟩:=info_parts fW
 have HI:=Ha (Hb hi (Hb hz0 (Hb hz1 hz2)));clear hi hz0 hz1 hz2
 have hlen:(Lib.decDigits u).length≤20:=by
  rw [Lib.decDigits_length]
  exact (bh u 20 (by decide)).2 (Nat.lt_of_lt_of_le hu (by decide))
 have cs:=fun W=>Tryz.internal_strconv_small u hu W
 obtain ⟨s,hs⟩:∃ s:ByteArray,s=⟨(Lib.decDigits u).toArray⟩:=⟨_,rfl⟩
 rw [←hs] at cs
 have hsd:s.data.toList=Lib.decDigits u:=by rw [hs]
 have HH:=Ha (Hb h (Hb hsd (Hb hn hlen)))
 have iu:¬ (100:Int)≤(u:Int):=by omega
 have C:=Ha cs
 clear h hs hsd hn hlen cs
 generalize Lib.decDigits u=m at *
 go_enter Tryz.func139,Tryz.ntmps139
 go_wp2_with (first
  | (go_at_call 195;refine (C.out _).mono ?_;rintro e w' ⟨rfl,rfl⟩)
  | (at_builtin;refine de rfl _ _ 150 9 rfl 5 i0 ia HI.out.1 HI.out.2.1 HI.out.2.2.1 HI.out.2.2.2 HH.out.2.2.1 rfl HH.out.1 (.string s) s.data.toList rfl (ow Tryz.underlying9 s) (by rw [HH.out.2.1];have:=HH.out.2.2.2;omega) hB ?_;intro w1 g1 c1 h1 hb1))
 have H1:=Ha (Hb h1 hb1);clear h1 hb1
 go_wp2
 go_ret
 have h2:=HH.out.2.1
 exact ⟨g1,c1,by rw [←h2];rfl,by have:=H1.out.1;rwa [h2] at this,H1.out.2⟩
theorem tP (B u n:Nat) (l:List UInt8) (g cap:Nat) (hn:n=l.length) (hu:100≤u) (hu64:u<18446744073709551616) (w:World) (h:RowR B w l g cap) (hB:B≤w.heap.size) (hb:l.length+20≤140737488355328) (ht:Tab w) :
  Calls Tryz.prog 139 #[.slice (some ⟨g,0,none⟩) n cap,.int .u64 u,.int .i64 10] w fun e W'=>∃ g' cap',e = .returned (.slice (some ⟨g',0,none⟩) (n+(Lib.decDigits u).length) cap')∧RowR B W' (l++Lib.decDigits u) g' cap'∧Below B w W':=by
 obtain ⟨i0,hi,hz0,hz1,hz2⟩:=info_parts fW
 have HI:=Ha (Hb hi (Hb hz0 (Hb hz1 hz2)));clear hi hz0 hz1 hz2
 have hu1:1≤u:=by omega
 have hnd20:Lib.nDigits u≤20:=(bh u 20 (by decide)).2 (Nat.lt_of_lt_of_le hu64 (by decide))
 have hal:Tryz.prog.arrayLen 248=24:=by simp [Program.arrayLen,Tryz.underlying248]
 have hsl:∀ W,(Instr.sliceAt 248 (.pointer (some ⟨w.heap.size,0,none⟩)) none (some (.int .i64 (Lib.nDigits u:Int))) none).run Tryz.prog W = .ok (.slice (some ⟨w.heap.size,0,none⟩) (Lib.nDigits u) 24) W:=fun W=>by
  rw [run_sliceAt_array_h W 248 ⟨w.heap.size,0,none⟩ (by simp [Program.arrayLen,Program.elem,Tryz.underlying248]) .i64 (Lib.nDigits u:Int) (by omega) (by rw [hal];omega)]
  go_simp
 have hH0:=Lib.holds_zero0 w 248 (Lib.nDigits u) (by omega)
 have hfmt:=Tryz.internal_strconv_formatBase10 w.heap.size 0 24 u (Array.replicate (Lib.nDigits u) 0) (w.alloc (.cells Lib.zeros24 248)) hH0 (by rw [Array.size_replicate];exact Lib.lt_pow_nDigits u) hu64 (by rw [Array.size_replicate];omega)
 rw [Array.size_replicate] at hfmt
 have hnum:=fun W hW=>Tryz.internal_strconv_numDigits u hu1 hu64 W hW
 have HH0:=Ha (Hb hH0 (Hb hfmt hnum))
 have HH:=Ha (Hb h (Hb hn ht))
 have iu:(100:Int)≤(u:Int):=by omega
 clear hH0 hal hfmt h hn ht hnum
 go_enter Tryz.func139,Tryz.ntmps139
 go_wp2_with (first
  | (go_at_call 196;refine (HH0.out.2.2 _ (Lib.tabIs_alloc HH.out.2.2 _)).mono ?_;rintro e w' ⟨rfl,rfl⟩))
 go_at_call 197
 refine HH0.out.2.1.mono ?_
 rintro e w' ⟨rfl,k,v',dk,rfl,hF⟩
 have hcells:∀ j u',(Lib.byteCells (Lib.decDigits u))[j]? = some u'→((putRow (fun (b:UInt8)=>Value.int .u8 (b.toNat:Int)) (w.alloc (.cells Lib.zeros24 248)) w.heap.size 0 dk).drewN k).cell? ⟨w.heap.size,j,none⟩=some u':=by
  intro j u' hj
  have hjl:j<(Lib.decDigits u).length:=by
   have h5:=(List.getElem?_eq_some_iff.1 hj).1
   rwa [Lib.byteCells_length] at h5
  have e5:(Lib.byteCells (Lib.decDigits u))[j]? = some (Value.int .u8 ((Lib.decDigits u)[j].toNat:Int)):=by simp [Lib.byteCells,hjl]
  rw [e5] at hj
  cases hj
  rw [Lib.row_is_numeral hF j hjl,World.cell?_drewN]
  have:=cell?_putRow (fun (b:UInt8)=>Value.int .u8 (b.toNat:Int)) _ w.heap.size 0 _ dk HH0.out.1 (by rw [hF.size,Array.size_replicate]) j (by rw [hF.size];rw [Lib.decDigits_length] at hjl;exact hjl)
  rwa [Nat.zero_add] at this
 obtain ⟨os,eo⟩:=Lib.fin_at w (.cells Lib.zeros24 248) dk k 0
 have hnx2:Below w.heap.size w ((putRow (fun (b:UInt8)=>Value.int .u8 (b.toNat:Int)) (w.alloc (.cells Lib.zeros24 248)) w.heap.size 0 dk).drewN k):=by rw [eo];exact Lib.below_grow w.heap.size w (Nat.le_refl _) k os
 generalize (putRow (fun (b:UInt8)=>Value.int .u8 (b.toNat:Int)) (w.alloc (.cells Lib.zeros24 248)) w.heap.size 0 dk).drewN k=W2 at *
 have HX:=Ha (Hb (HH.out.1.next hnx2) (Hb hcells hnx2))
 have hdl:=Lib.decDigits_length u
 clear eo hcells hnx2 hF
 have hB2:B≤W2.heap.size:=Nat.le_trans hB HX.out.2.2.size
 generalize hm:Lib.decDigits u=m at *
 have HM:=Ha hm
 clear hm
 generalize Lib.nDigits u=nd at *
 subst hdl
 go_wp2_with (at_builtin;refine de rfl _ _ 150 150 rfl 5 i0 ia HI.out.1 HI.out.2.1 HI.out.2.2.1 HI.out.2.2.2 HH.out.2.1 rfl HX.out.1 _ m rfl (jI ia w.heap.size 24 m _ rfl HX.out.2.1) (by omega) hB2 ?_;intro w1 g1 c1 h1 hb1)
 have H1:=Ha (Hb h1 hb1);clear h1 hb1
 go_wp2
 go_ret
 rw [HM.out]
 exact ⟨g1,c1,rfl,H1.out.1,(HX.out.2.2.mono hB).trans H1.out.2⟩
theorem mR (B u n:Nat) (l:List UInt8) (g cap:Nat) (hn:n=l.length) (hu64:u<18446744073709551616) (w:World) (h:RowR B w l g cap) (hB:B≤w.heap.size) (hb:l.length+20≤140737488355328) (ht:Tab w) :
  Calls Tryz.prog 139 #[.slice (some ⟨g,0,none⟩) n cap,.int .u64 u,.int .i64 10] w fun e W'=>∃ g' cap',e = .returned (.slice (some ⟨g',0,none⟩) (n+(Lib.decDigits u).length) cap')∧RowR B W' (l++Lib.decDigits u) g' cap'∧Below B w W':=by
 by_cases hu:u<100
 ·exact qm B u n l g cap hn hu w h hB hb
 ·exact tP B u n l g cap hn (by omega) hu64 w h hB hb ht
theorem tQ (B n:Nat) (z:Int) (l:List UInt8) (g cap:Nat) (hn:n=l.length) (h0 : -9223372036854775808<z) (h1:z≤9223372036854775807) (w:World) (h:RowR B w l g cap) (hB:B≤w.heap.size) (hb:l.length+30≤140737488355328) (ht:Tab w) (hBt:Tab w→∀ W,Below B w W→Tab W) :
  Calls Tryz.prog 345 #[.slice (some ⟨g,0,none⟩) n cap,.int .i64 z,.int .i64 10] w fun e W'=>∃ g' cap',e = .returned (.slice (some ⟨g',0,none⟩) (n+(Lib.itoa z).length) cap')∧RowR B W' (l++Lib.itoa z) g' cap'∧Below B w W':=by
 obtain ⟨i0,hi,hz0,hz1,hz2⟩:=info_parts fW
 have HI:=Ha (Hb hi (Hb hz0 (Hb hz1 hz2)));clear hi hz0 hz1 hz2
 by_cases hz:z<0
 ·have hit:Lib.itoa z = [45]++Lib.decDigits z.natAbs:=by
   have:=Lib.itoa_neg z.natAbs (by omega)
   rw [show (-(z.natAbs:Int))=z by omega] at this
   exact this
  have c:=fun W g' c' (hr:RowR B W (l ++ [45]) g' c') (hw:Below B w W)=>mR B z.natAbs (n+1) (l ++ [45]) g' c' (by rw [hn];simp) (by omega) W hr (Nat.le_trans hB hw.size) (by simp;omega) (hBt ht W hw)
  have HH:=Ha (Hb (h.next ((Below.refl _ w).alloc (Nat.le_refl _) (.cells #[.int .u8 45] 5))) (Hb hn hb))
  have C:=Ha c
  have HT:=Ha hit
  have hB1:B≤(w.alloc (.cells #[.int .u8 45] 5)).heap.size:=by simp;omega
  have hb1:Below B w (w.alloc (.cells #[.int .u8 45] 5)):=(Below.refl B w).alloc hB _
  clear h hn hb ht hBt hit c
  have hcell:∀ j u,(Lib.byteCells [45])[j]? = some u→(w.alloc (.cells #[.int .u8 45] 5)).cell? ⟨w.heap.size,j,none⟩=some u:=by
   intro j u hj
   match j with
   | 0=>rw [show u=Value.int .u8 45 from (Option.some.inj hj).symm];go_cell
   | j+1=>simp [Lib.byteCells] at hj
  have HC:=Ha hcell
  clear hcell
  have ew:IntKind.u64.wrap (-(IntKind.u64.wrap z))=(z.natAbs:Int):=by rw [IntKind.wrap_u64,IntKind.wrap_u64];omega
  go_enter Tryz.func345,Tryz.ntmps345
  go_wp2_with (at_builtin;refine de rfl _ _ 150 150 rfl 5 i0 ia HI.out.1 HI.out.2.1 HI.out.2.2.1 HI.out.2.2.2 HH.out.2.1 rfl HH.out.1 _ [45] rfl (jI ia w.heap.size 1 [45] 1 rfl HC.out) (by have:=HH.out.2.2;simp;omega) hB1 ?_;intro w1 g1 c1 hr1 hb2)
  have H1:=Ha (Hb hr1 (hb1.trans hb2));clear hr1 hb2
  refine (C.out w1 g1 c1 H1.out.1 H1.out.2).mono ?_
  rintro e w2 ⟨g2,c2,rfl,h2,b2⟩
  have H2:=Ha (Hb h2 (H1.out.2.trans b2));clear h2 b2
  go_wp2
  go_ret
  rw [HT.out]
  exact ⟨g2,c2,by rw [List.length_append,Nat.add_assoc];rfl,by have:=H2.out.1;rwa [List.append_assoc] at this,H2.out.2⟩
 ·have hit:Lib.itoa z=Lib.decDigits z.natAbs:=by
   have:=Lib.itoa_nonneg z.natAbs
   rwa [show ((z.natAbs:Nat):Int)=z by omega] at this
  have c:=mR B z.natAbs n l g cap hn (by omega) w h hB (by omega) ht
  have C:=Ha c
  have HT:=Ha hit
  have ew:IntKind.u64.wrap z=(z.natAbs:Int):=by rw [IntKind.wrap_u64];omega
  clear h hn hb ht hBt hit c
  go_enter Tryz.func345,Tryz.ntmps345
  go_wp2_with fail
  refine C.out.mono ?_
  rintro e w2 ⟨g2,c2,rfl,h2,b2⟩
  have H2:=Ha (Hb h2 b2);clear h2 b2
  go_wp2
  go_ret
  rw [HT.out]
  exact ⟨g2,c2,rfl,H2.out.1,H2.out.2⟩
theorem vP (B n:Nat) (z:Int) (l:List UInt8) (g cap:Nat) (hn:n=l.length) (h0 : -9223372036854775808<z) (h1:z≤9223372036854775807) (w:World) (h:RowR B w l g cap) (hB:B≤w.heap.size) (hb:l.length+30≤140737488355328) (ht:Tab w) (hBt:Tab w→∀ W,Below B w W→Tab W) :
  Calls Tryz.prog 343 #[.slice (some ⟨g,0,none⟩) n cap,.int .i64 z,.int .i64 10] w fun e W'=>∃ g' cap',e = .returned (.slice (some ⟨g',0,none⟩) (n+(Lib.itoa z).length) cap')∧RowR B W' (l++Lib.itoa z) g' cap'∧Below B w W':=by
 have C:=Ha (tQ B n z l g cap hn h0 h1 w h hB hb ht hBt)
 clear h hn hb ht hBt h0 h1
 go_enter Tryz.func343,Tryz.ntmps343
 go_wp2_with fail
 refine C.out.mono ?_
 rintro e w2 ⟨g2,c2,rfl,h2,b2⟩
 have H2:=Ha (Hb h2 b2);clear h2 b2
 go_wp2
 go_ret
 exact ⟨g2,c2,rfl,H2.out.1,H2.out.2⟩
theorem mS (B n:Nat) (z:Int) (l:List UInt8) (g cap:Nat) (hn:n=l.length) (h0 : -9223372036854775808<z) (h1:z≤9223372036854775807) (w:World) (h:RowR B w l g cap) (hB:B≤w.heap.size) (hb:l.length+30≤140737488355328) (ht:Tab w) (hBt:Tab w→∀ W,Below B w W→Tab W) :
  Calls Tryz.prog 333 #[.int .i64 z,.slice (some ⟨g,0,none⟩) n cap] w fun e W'=>∃ g' cap',e = .returned (.slice (some ⟨g',0,none⟩) (n+(Lib.itoa z).length) cap')∧RowR B W' (l++Lib.itoa z) g' cap'∧Below B w W':=by
 have C:=Ha (vP B n z l g cap hn h0 h1 w h hB hb ht hBt)
 clear h hn hb ht hBt h0 h1
 go_enter Tryz.func333,Tryz.ntmps333
 go_wp2_with fail
 refine C.out.mono ?_
 rintro e w2 ⟨g2,c2,rfl,h2,b2⟩
 have H2:=Ha (Hb h2 b2);clear h2 b2
 go_wp2
 go_ret
 exact ⟨g2,c2,rfl,H2.out.1,H2.out.2⟩
end
end Go.Proofs.YtbhbhlfkdlfimaaGreatDoor
