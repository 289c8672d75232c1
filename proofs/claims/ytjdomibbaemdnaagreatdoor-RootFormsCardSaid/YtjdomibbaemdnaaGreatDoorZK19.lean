/- Parts of the proof of the text YtjdomibbaemdnaaGreatDoorZK42. -/
import Derived.Deep.RegionHeld3
import Derived.BigRegion
import Derived.Test.YtjdomibbaemdnaaGreatDoorZK1
import Derived.Test.YtjdomibbaemdnaaGreatDoorZK18
set_option linter.all false
set_option maxRecDepth 100000
set_option maxHeartbeats 8000000
namespace Go.Proofs.YtjdomibbaemdnaaGreatDoor
open Go.RowKit
theorem BN (s n d:ByteArray) (c1:Int) (c2:Int) (f:Bool) (w:World) (a1:(c1==11)=false) (a1':(c1 != 11)=true) (a2:(c2==11)=false) (a2':(c2 != 11)=true) (hp:0<d.size) (hp':(0:Int)<d.size) (hm:((d[0].toNat:Int)==45)=true) (hm':((d[0].toNat:Int) != 45)=false)
  (hcut:CqB w 147 #[.string s] (.tuple #[.string n,.string d,.bool f]))
  (hk1:CqB w 150 #[.string n] (.int .i64 c1))
  (hk2:CqB w 150 #[.string d] (.int .i64 c2)) :
  Calls Tryz.prog 106 #[.string s] w fun e W'=>e = .returned (.tuple #[.agg #[.string ⟨#[]⟩,.int .i64 0,.string ⟨#[]⟩,.int .i64 0],.int .i64 11])∧Below w.heap.size w W':=by
 have C:=Ha (Hb hcut (Hb hk1 (Hb hk2 trivial)));clear hcut hk1 hk2
 go_enter Tryz.func106,Tryz.ntmps106
 go_wp2_with fail
 have hb0:=Blk.new w #[.string ⟨#[]⟩,.int .i64 0,.string ⟨#[]⟩,.int .i64 0] 140
 have hB0:Below w.heap.size w (w.alloc (.cells #[.string ⟨#[]⟩,.int .i64 0,.string ⟨#[]⟩,.int .i64 0] 140)):=(Below.refl _ w).alloc (Nat.le_refl _) _
 generalize w.alloc (.cells #[.string ⟨#[]⟩,.int .i64 0,.string ⟨#[]⟩,.int .i64 0] 140)=W0 at *
 have H0:=Ha (Hb hb0 hB0);clear hb0 hB0
 refine (C.out.1 _ H0.out.2).mono ?_
 rintro e w1 ⟨rfl,b⟩
 have H1:=Ha (Hb (H0.out.1.next b) (H0.out.2.trans (b.mono H0.out.2.size)));clear b H0
 go_wp2_with fail
 refine (C.out.2.1 _ H1.out.2).mono ?_
 rintro e w2 ⟨rfl,b⟩
 have H2:=Ha (Hb (H1.out.1.next b) (H1.out.2.trans (b.mono H1.out.2.size)));clear b H1
 go_wp2_with fail
 refine (C.out.2.2.1 _ H2.out.2).mono ?_
 rintro e w3 ⟨rfl,b⟩
 have H3:=Ha (Hb (H2.out.1.next b) (H2.out.2.trans (b.mono H2.out.2.size)));clear b H2
 have q0:=H3.out.1.cell 0 (.string ⟨#[]⟩) rfl
 have q1:=H3.out.1.cell 1 (.int .i64 0) rfl
 have q2:=H3.out.1.cell 2 (.string ⟨#[]⟩) rfl
 have q3:=H3.out.1.cell 3 (.int .i64 0) rfl
 have f0:=H3.out.1.free 0
 have f1:=H3.out.1.free 1
 have f2:=H3.out.1.free 2
 have f3:=H3.out.1.free 3
 have HP:=Ha (H3.out.1.put4 (.string ⟨#[]⟩) (.int .i64 0) (.string ⟨#[]⟩) (.int .i64 0))
 have HL:=Ha (bq H3.out.2 (l:=w.heap.size) (Nat.le_refl _) (.string ⟨#[]⟩) (.int .i64 0) (.string ⟨#[]⟩) (.int .i64 0))
 have g0:=HP.out.cell 0 (.string ⟨#[]⟩) rfl
 have g1:=HP.out.cell 1 (.int .i64 0) rfl
 have g2:=HP.out.cell 2 (.string ⟨#[]⟩) rfl
 have g3:=HP.out.cell 3 (.int .i64 0) rfl
 go_wp2
 refine bodyPost_ret (v := .tuple #[.agg #[.string ⟨#[]⟩,.int .i64 0,.string ⟨#[]⟩,.int .i64 0],.int .i64 11]) (by simp [results,Tryz.results106,go_sem,g0,g1,g2,g3]) rfl ?_
 exact ⟨rfl,HL.out⟩
theorem A5 (s n d:ByteArray) (c1:Int) (c2:Int) (w:World) (a1:(c1==11)=false) (a1':(c1 != 11)=true) (a2:(c2==11)=false) (a2':(c2 != 11)=true) (hp:0<d.size) (hp':(0:Int)<d.size) (hm:((d[0].toNat:Int)==45)=false) (hm':((d[0].toNat:Int) != 45)=true) (h0:(d.toList == [48])=false) (h0':(d.toList != [48])=true) (h1:(d.toList == [49])=false) (b1:(c1==0)=false) (b1':(c1 != 0)=true)
  (hcut:CqB w 147 #[.string s] (.tuple #[.string n,.string d,.bool true]))
  (hk1:CqB w 150 #[.string n] (.int .i64 c1))
  (hk2:CqB w 150 #[.string d] (.int .i64 c2)) :
  Calls Tryz.prog 106 #[.string s] w fun e W'=>e = .returned (.tuple #[.agg #[.string ⟨#[]⟩,.int .i64 0,.string ⟨#[]⟩,.int .i64 0],.int .i64 4])∧Below w.heap.size w W':=by
 have C:=Ha (Hb hcut (Hb hk1 (Hb hk2 trivial)));clear hcut hk1 hk2
 go_enter Tryz.func106,Tryz.ntmps106
 go_wp2_with fail
 have hb0:=Blk.new w #[.string ⟨#[]⟩,.int .i64 0,.string ⟨#[]⟩,.int .i64 0] 140
 have hB0:Below w.heap.size w (w.alloc (.cells #[.string ⟨#[]⟩,.int .i64 0,.string ⟨#[]⟩,.int .i64 0] 140)):=(Below.refl _ w).alloc (Nat.le_refl _) _
 generalize w.alloc (.cells #[.string ⟨#[]⟩,.int .i64 0,.string ⟨#[]⟩,.int .i64 0] 140)=W0 at *
 have H0:=Ha (Hb hb0 hB0);clear hb0 hB0
 refine (C.out.1 _ H0.out.2).mono ?_
 rintro e w1 ⟨rfl,b⟩
 have H1:=Ha (Hb (H0.out.1.next b) (H0.out.2.trans (b.mono H0.out.2.size)));clear b H0
 go_wp2_with fail
 refine (C.out.2.1 _ H1.out.2).mono ?_
 rintro e w2 ⟨rfl,b⟩
 have H2:=Ha (Hb (H1.out.1.next b) (H1.out.2.trans (b.mono H1.out.2.size)));clear b H1
 go_wp2_with fail
 refine (C.out.2.2.1 _ H2.out.2).mono ?_
 rintro e w3 ⟨rfl,b⟩
 have H3:=Ha (Hb (H2.out.1.next b) (H2.out.2.trans (b.mono H2.out.2.size)));clear b H2
 have q0:=H3.out.1.cell 0 (.string ⟨#[]⟩) rfl
 have q1:=H3.out.1.cell 1 (.int .i64 0) rfl
 have q2:=H3.out.1.cell 2 (.string ⟨#[]⟩) rfl
 have q3:=H3.out.1.cell 3 (.int .i64 0) rfl
 have f0:=H3.out.1.free 0
 have f1:=H3.out.1.free 1
 have f2:=H3.out.1.free 2
 have f3:=H3.out.1.free 3
 have HP:=Ha (H3.out.1.put4 (.string ⟨#[]⟩) (.int .i64 0) (.string ⟨#[]⟩) (.int .i64 0))
 have HL:=Ha (bq H3.out.2 (l:=w.heap.size) (Nat.le_refl _) (.string ⟨#[]⟩) (.int .i64 0) (.string ⟨#[]⟩) (.int .i64 0))
 have g0:=HP.out.cell 0 (.string ⟨#[]⟩) rfl
 have g1:=HP.out.cell 1 (.int .i64 0) rfl
 have g2:=HP.out.cell 2 (.string ⟨#[]⟩) rfl
 have g3:=HP.out.cell 3 (.int .i64 0) rfl
 go_wp2
 refine bodyPost_ret (v := .tuple #[.agg #[.string ⟨#[]⟩,.int .i64 0,.string ⟨#[]⟩,.int .i64 0],.int .i64 4]) (by simp [results,Tryz.results106,go_sem,g0,g1,g2,g3]) rfl ?_
 exact ⟨rfl,HL.out⟩
theorem BO (s n d g:ByteArray) (w:World) (hp:0<d.size) (hp':(0:Int)<d.size) (hm:((d[0].toNat:Int)==45)=false) (hm':((d[0].toNat:Int) != 45)=true) (h0:(d.toList == [48])=false) (h0':(d.toList != [48])=true) (h1:(d.toList == [49])=false)
  (hcut:CqB w 147 #[.string s] (.tuple #[.string n,.string d,.bool true]))
  (hk1:CqB w 150 #[.string n] (.int .i64 0))
  (hk2:CqB w 150 #[.string d] (.int .i64 0))
  (hdv:CqB w 151 #[.agg #[.string n,.int .i64 0],.agg #[.string d,.int .i64 0]] (.agg #[.string g,.int .i64 0]))
  (hon:CqB w 152 #[.agg #[.string g,.int .i64 0]] (.bool false)) :
  Calls Tryz.prog 106 #[.string s] w fun e W'=>e = .returned (.tuple #[.agg #[.string ⟨#[]⟩,.int .i64 0,.string ⟨#[]⟩,.int .i64 0],.int .i64 11])∧Below w.heap.size w W':=by
 have C:=Ha (Hb hcut (Hb hk1 (Hb hk2 (Hb hdv hon))));clear hcut hk1 hk2 hdv hon
 go_enter Tryz.func106,Tryz.ntmps106
 go_wp2_with fail
 have hb0:=Blk.new w #[.string ⟨#[]⟩,.int .i64 0,.string ⟨#[]⟩,.int .i64 0] 140
 have hB0:Below w.heap.size w (w.alloc (.cells #[.string ⟨#[]⟩,.int .i64 0,.string ⟨#[]⟩,.int .i64 0] 140)):=(Below.refl _ w).alloc (Nat.le_refl _) _
 generalize w.alloc (.cells #[.string ⟨#[]⟩,.int .i64 0,.string ⟨#[]⟩,.int .i64 0] 140)=W0 at *
 have H0:=Ha (Hb hb0 hB0);clear hb0 hB0
 refine (C.out.1 _ H0.out.2).mono ?_
 rintro e w1 ⟨rfl,b⟩
 have H1:=Ha (Hb (H0.out.1.next b) (H0.out.2.trans (b.mono H0.out.2.size)));clear b H0
 go_wp2_with fail
 refine (C.out.2.1 _ H1.out.2).mono ?_
 rintro e w2 ⟨rfl,b⟩
 have H2:=Ha (Hb (H1.out.1.next b) (H1.out.2.trans (b.mono H1.out.2.size)));clear b H1
 go_wp2_with fail
 refine (C.out.2.2.1 _ H2.out.2).mono ?_
 rintro e w3 ⟨rfl,b⟩
 have H3:=Ha (Hb (H2.out.1.next b) (H2.out.2.trans (b.mono H2.out.2.size)));clear b H2
 have H4:=Ha (show Blk (w3.alloc (.cells #[.string n,.int .i64 0,.string d,.int .i64 0] 140)) w.heap.size #[.string ⟨#[]⟩,.int .i64 0,.string ⟨#[]⟩,.int .i64 0]∧Below w.heap.size w (w3.alloc (.cells #[.string n,.int .i64 0,.string d,.int .i64 0] 140))∧Blk (w3.alloc (.cells #[.string n,.int .i64 0,.string d,.int .i64 0] 140)) w3.heap.size #[.string n,.int .i64 0,.string d,.int .i64 0]∧w.heap.size<w3.heap.size from ⟨H3.out.1.alloc _,H3.out.2.alloc H3.out.2.size _,Blk.new w3 _ _,H3.out.1.lt⟩)
 have e0:=H4.out.2.2.1.cell 0 (.string n) rfl
 have e1:=H4.out.2.2.1.cell 1 (.int .i64 0) rfl
 have e2:=H4.out.2.2.1.cell 2 (.string d) rfl
 have e3:=H4.out.2.2.1.cell 3 (.int .i64 0) rfl
 go_wp2_with fail
 generalize w3.alloc (.cells #[.string n,.int .i64 0,.string d,.int .i64 0] 140)=w4 at *
 generalize w3.heap.size=j at *
 clear e0 e1 e2 e3 H3
 refine (C.out.2.2.2.1 _ H4.out.2.1).mono ?_
 rintro e w5 ⟨rfl,b⟩
 have H5:=Ha (Hb (H4.out.1.next b) (Hb (H4.out.2.1.trans (b.mono H4.out.2.1.size)) (H4.out.2.2.1.next b)));clear b H4
 go_wp2_with fail
 refine (C.out.2.2.2.2 _ H5.out.2.1).mono ?_
 rintro e w6 ⟨rfl,b⟩
 have H6:=Ha (Hb (H5.out.1.next b) (H5.out.2.1.trans (b.mono H5.out.2.1.size)))
 have H7:=Ha (H5.out.2.2.next b);clear b H5
 have e0:=H7.out.cell 0 (.string n) rfl
 have e1:=H7.out.cell 1 (.int .i64 0) rfl
 have e2:=H7.out.cell 2 (.string d) rfl
 have e3:=H7.out.cell 3 (.int .i64 0) rfl
 have q0:=H6.out.1.cell 0 (.string ⟨#[]⟩) rfl
 have q1:=H6.out.1.cell 1 (.int .i64 0) rfl
 have q2:=H6.out.1.cell 2 (.string ⟨#[]⟩) rfl
 have q3:=H6.out.1.cell 3 (.int .i64 0) rfl
 have f0:=H6.out.1.free 0
 have f1:=H6.out.1.free 1
 have f2:=H6.out.1.free 2
 have f3:=H6.out.1.free 3
 have HP:=Ha (H6.out.1.put4 (.string ⟨#[]⟩) (.int .i64 0) (.string ⟨#[]⟩) (.int .i64 0))
 have HL:=Ha (bq H6.out.2 (l:=w.heap.size) (Nat.le_refl _) (.string ⟨#[]⟩) (.int .i64 0) (.string ⟨#[]⟩) (.int .i64 0))
 have g0:=HP.out.cell 0 (.string ⟨#[]⟩) rfl
 have g1:=HP.out.cell 1 (.int .i64 0) rfl
 have g2:=HP.out.cell 2 (.string ⟨#[]⟩) rfl
 have g3:=HP.out.cell 3 (.int .i64 0) rfl
 go_wp2
 refine bodyPost_ret (v := .tuple #[.agg #[.string ⟨#[]⟩,.int .i64 0,.string ⟨#[]⟩,.int .i64 0],.int .i64 11]) (by simp [results,Tryz.results106,go_sem,g0,g1,g2,g3]) rfl ?_
 exact ⟨rfl,HL.out⟩
theorem BP (s n d:ByteArray) (c1:Int) (c2:Int) (f:Bool) (w:World) (a1:(c1==11)=false) (a1':(c1 != 11)=true) (a2:(c2==11)=false) (a2':(c2 != 11)=true) (hp:0<d.size) (hp':(0:Int)<d.size) (hm:((d[0].toNat:Int)==45)=false) (hm':((d[0].toNat:Int) != 45)=true) (h0:(d.toList == [48])=true) (h0':(d.toList != [48])=false)
  (hcut:CqB w 147 #[.string s] (.tuple #[.string n,.string d,.bool f]))
  (hk1:CqB w 150 #[.string n] (.int .i64 c1))
  (hk2:CqB w 150 #[.string d] (.int .i64 c2)) :
  Calls Tryz.prog 106 #[.string s] w fun e W'=>e = .returned (.tuple #[.agg #[.string ⟨#[]⟩,.int .i64 0,.string ⟨#[]⟩,.int .i64 0],.int .i64 11])∧Below w.heap.size w W':=by
 have C:=Ha (Hb hcut (Hb hk1 (Hb hk2 trivial)));clear hcut hk1 hk2
 go_enter Tryz.func106,Tryz.ntmps106
 go_wp2_with fail
 have hb0:=Blk.new w #[.string ⟨#[]⟩,.int .i64 0,.string ⟨#[]⟩,.int .i64 0] 140
 have hB0:Below w.heap.size w (w.alloc (.cells #[.string ⟨#[]⟩,.int .i64 0,.string ⟨#[]⟩,.int .i64 0] 140)):=(Below.refl _ w).alloc (Nat.le_refl _) _
 generalize w.alloc (.cells #[.string ⟨#[]⟩,.int .i64 0,.string ⟨#[]⟩,.int .i64 0] 140)=W0 at *
 have H0:=Ha (Hb hb0 hB0);clear hb0 hB0
 refine (C.out.1 _ H0.out.2).mono ?_
 rintro e w1 ⟨rfl,b⟩
 have H1:=Ha (Hb (H0.out.1.next b) (H0.out.2.trans (b.mono H0.out.2.size)));clear b H0
 go_wp2_with fail
 refine (C.out.2.1 _ H1.out.2).mono ?_
 rintro e w2 ⟨rfl,b⟩
 have H2:=Ha (Hb (H1.out.1.next b) (H1.out.2.trans (b.mono H1.out.2.size)));clear b H1
 go_wp2_with fail
 refine (C.out.2.2.1 _ H2.out.2).mono ?_
 rintro e w3 ⟨rfl,b⟩
 have H3:=Ha (Hb (H2.out.1.next b) (H2.out.2.trans (b.mono H2.out.2.size)));clear b H2
 have q0:=H3.out.1.cell 0 (.string ⟨#[]⟩) rfl
 have q1:=H3.out.1.cell 1 (.int .i64 0) rfl
 have q2:=H3.out.1.cell 2 (.string ⟨#[]⟩) rfl
 have q3:=H3.out.1.cell 3 (.int .i64 0) rfl
 have f0:=H3.out.1.free 0
 have f1:=H3.out.1.free 1
 have f2:=H3.out.1.free 2
 have f3:=H3.out.1.free 3
 have HP:=Ha (H3.out.1.put4 (.string ⟨#[]⟩) (.int .i64 0) (.string ⟨#[]⟩) (.int .i64 0))
 have HL:=Ha (bq H3.out.2 (l:=w.heap.size) (Nat.le_refl _) (.string ⟨#[]⟩) (.int .i64 0) (.string ⟨#[]⟩) (.int .i64 0))
 have g0:=HP.out.cell 0 (.string ⟨#[]⟩) rfl
 have g1:=HP.out.cell 1 (.int .i64 0) rfl
 have g2:=HP.out.cell 2 (.string ⟨#[]⟩) rfl
 have g3:=HP.out.cell 3 (.int .i64 0) rfl
 go_wp2
 refine bodyPost_ret (v := .tuple #[.agg #[.string ⟨#[]⟩,.int .i64 0,.string ⟨#[]⟩,.int .i64 0],.int .i64 11]) (by simp [results,Tryz.results106,go_sem,g0,g1,g2,g3]) rfl ?_
 exact ⟨rfl,HL.out⟩
theorem A6 (s n d:ByteArray) (c2:Int) (w:World) (a2:(c2==11)=false) (a2':(c2 != 11)=true) (hp:0<d.size) (hp':(0:Int)<d.size) (hm:((d[0].toNat:Int)==45)=false) (hm':((d[0].toNat:Int) != 45)=true) (h0:(d.toList == [48])=false) (h0':(d.toList != [48])=true) (b2:(c2==0)=false) (b2':(c2 != 0)=true)
  (hcut:CqB w 147 #[.string s] (.tuple #[.string n,.string d,.bool false]))
  (hk1:CqB w 150 #[.string n] (.int .i64 0))
  (hk2:CqB w 150 #[.string d] (.int .i64 c2)) :
  Calls Tryz.prog 106 #[.string s] w fun e W'=>e = .returned (.tuple #[.agg #[.string ⟨#[]⟩,.int .i64 0,.string ⟨#[]⟩,.int .i64 0],.int .i64 4])∧Below w.heap.size w W':=by
 have C:=Ha (Hb hcut (Hb hk1 (Hb hk2 trivial)));clear hcut hk1 hk2
 go_enter Tryz.func106,Tryz.ntmps106
 go_wp2_with fail
 have hb0:=Blk.new w #[.string ⟨#[]⟩,.int .i64 0,.string ⟨#[]⟩,.int .i64 0] 140
 have hB0:Below w.heap.size w (w.alloc (.cells #[.string ⟨#[]⟩,.int .i64 0,.string ⟨#[]⟩,.int .i64 0] 140)):=(Below.refl _ w).alloc (Nat.le_refl _) _
 generalize w.alloc (.cells #[.string ⟨#[]⟩,.int .i64 0,.string ⟨#[]⟩,.int .i64 0] 140)=W0 at *
 have H0:=Ha (Hb hb0 hB0);clear hb0 hB0
 refine (C.out.1 _ H0.out.2).mono ?_
 rintro e w1 ⟨rfl,b⟩
 have H1:=Ha (Hb (H0.out.1.next b) (H0.out.2.trans (b.mono H0.out.2.size)));clear b H0
 go_wp2_with fail
 refine (C.out.2.1 _ H1.out.2).mono ?_
 rintro e w2 ⟨rfl,b⟩
 have H2:=Ha (Hb (H1.out.1.next b) (H1.out.2.trans (b.mono H1.out.2.size)));clear b H1
 go_wp2_with fail
 refine (C.out.2.2.1 _ H2.out.2).mono ?_
 rintro e w3 ⟨rfl,b⟩
 have H3:=Ha (Hb (H2.out.1.next b) (H2.out.2.trans (b.mono H2.out.2.size)));clear b H2
 have q0:=H3.out.1.cell 0 (.string ⟨#[]⟩) rfl
 have q1:=H3.out.1.cell 1 (.int .i64 0) rfl
 have q2:=H3.out.1.cell 2 (.string ⟨#[]⟩) rfl
 have q3:=H3.out.1.cell 3 (.int .i64 0) rfl
 have f0:=H3.out.1.free 0
 have f1:=H3.out.1.free 1
 have f2:=H3.out.1.free 2
 have f3:=H3.out.1.free 3
 have HP:=Ha (H3.out.1.put4 (.string ⟨#[]⟩) (.int .i64 0) (.string ⟨#[]⟩) (.int .i64 0))
 have HL:=Ha (bq H3.out.2 (l:=w.heap.size) (Nat.le_refl _) (.string ⟨#[]⟩) (.int .i64 0) (.string ⟨#[]⟩) (.int .i64 0))
 have g0:=HP.out.cell 0 (.string ⟨#[]⟩) rfl
 have g1:=HP.out.cell 1 (.int .i64 0) rfl
 have g2:=HP.out.cell 2 (.string ⟨#[]⟩) rfl
 have g3:=HP.out.cell 3 (.int .i64 0) rfl
 go_wp2
 refine bodyPost_ret (v := .tuple #[.agg #[.string ⟨#[]⟩,.int .i64 0,.string ⟨#[]⟩,.int .i64 0],.int .i64 4]) (by simp [results,Tryz.results106,go_sem,g0,g1,g2,g3]) rfl ?_
 exact ⟨rfl,HL.out⟩
theorem zR (s n d g:ByteArray) (w:World) (hp:0<d.size) (hp':(0:Int)<d.size) (hm:((d[0].toNat:Int)==45)=false) (hm':((d[0].toNat:Int) != 45)=true) (h0:(d.toList == [48])=false) (h0':(d.toList != [48])=true) (h1:(d.toList == [49])=false)
  (hcut:CqB w 147 #[.string s] (.tuple #[.string n,.string d,.bool true]))
  (hk1:CqB w 150 #[.string n] (.int .i64 0))
  (hk2:CqB w 150 #[.string d] (.int .i64 0))
  (hdv:CqB w 151 #[.agg #[.string n,.int .i64 0],.agg #[.string d,.int .i64 0]] (.agg #[.string g,.int .i64 0]))
  (hon:CqB w 152 #[.agg #[.string g,.int .i64 0]] (.bool true)) :
  Calls Tryz.prog 106 #[.string s] w fun e W'=>e = .returned (.tuple #[.agg #[.string n,.int .i64 0,.string d,.int .i64 0],.int .i64 0])∧Below w.heap.size w W':=by
 have C:=Ha (Hb hcut (Hb hk1 (Hb hk2 (Hb hdv hon))));clear hcut hk1 hk2 hdv hon
 go_enter Tryz.func106,Tryz.ntmps106
 go_wp2_with fail
 have hb0:=Blk.new w #[.string ⟨#[]⟩,.int .i64 0,.string ⟨#[]⟩,.int .i64 0] 140
 have hB0:Below w.heap.size w (w.alloc (.cells #[.string ⟨#[]⟩,.int .i64 0,.string ⟨#[]⟩,.int .i64 0] 140)):=(Below.refl _ w).alloc (Nat.le_refl _) _
 generalize w.alloc (.cells #[.string ⟨#[]⟩,.int .i64 0,.string ⟨#[]⟩,.int .i64 0] 140)=W0 at *
 have H0:=Ha (Hb hb0 hB0);clear hb0 hB0
 refine (C.out.1 _ H0.out.2).mono ?_
 rintro e w1 ⟨rfl,b⟩
 have H1:=Ha (Hb (H0.out.1.next b) (H0.out.2.trans (b.mono H0.out.2.size)));clear b H0
 go_wp2_with fail
 refine (C.out.2.1 _ H1.out.2).mono ?_
 rintro e w2 ⟨rfl,b⟩
 have H2:=Ha (Hb (H1.out.1.next b) (H1.out.2.trans (b.mono H1.out.2.size)));clear b H1
 go_wp2_with fail
 refine (C.out.2.2.1 _ H2.out.2).mono ?_
 rintro e w3 ⟨rfl,b⟩
 have H3:=Ha (Hb (H2.out.1.next b) (H2.out.2.trans (b.mono H2.out.2.size)));clear b H2
 have H4:=Ha (show Blk (w3.alloc (.cells #[.string n,.int .i64 0,.string d,.int .i64 0] 140)) w.heap.size #[.string ⟨#[]⟩,.int .i64 0,.string ⟨#[]⟩,.int .i64 0]∧Below w.heap.size w (w3.alloc (.cells #[.string n,.int .i64 0,.string d,.int .i64 0] 140))∧Blk (w3.alloc (.cells #[.string n,.int .i64 0,.string d,.int .i64 0] 140)) w3.heap.size #[.string n,.int .i64 0,.string d,.int .i64 0]∧w.heap.size<w3.heap.size from ⟨H3.out.1.alloc _,H3.out.2.alloc H3.out.2.size _,Blk.new w3 _ _,H3.out.1.lt⟩)
 have e0:=H4.out.2.2.1.cell 0 (.string n) rfl
 have e1:=H4.out.2.2.1.cell 1 (.int .i64 0) rfl
 have e2:=H4.out.2.2.1.cell 2 (.string d) rfl
 have e3:=H4.out.2.2.1.cell 3 (.int .i64 0) rfl
 go_wp2_with fail
 generalize w3.alloc (.cells #[.string n,.int .i64 0,.string d,.int .i64 0] 140)=w4 at *
 generalize w3.heap.size=j at *
 clear e0 e1 e2 e3 H3
 refine (C.out.2.2.2.1 _ H4.out.2.1).mono ?_
 rintro e w5 ⟨rfl,b⟩
 have H5:=Ha (Hb (H4.out.1.next b) (Hb (H4.out.2.1.trans (b.mono H4.out.2.1.size)) (H4.out.2.2.1.next b)));clear b H4
 go_wp2_with fail
 refine (C.out.2.2.2.2 _ H5.out.2.1).mono ?_
 rintro e w6 ⟨rfl,b⟩
 have H6:=Ha (Hb (H5.out.1.next b) (H5.out.2.1.trans (b.mono H5.out.2.1.size)))
 have H7:=Ha (H5.out.2.2.next b);clear b H5
 have e0:=H7.out.cell 0 (.string n) rfl
 have e1:=H7.out.cell 1 (.int .i64 0) rfl
 have e2:=H7.out.cell 2 (.string d) rfl
 have e3:=H7.out.cell 3 (.int .i64 0) rfl
 have q0:=H6.out.1.cell 0 (.string ⟨#[]⟩) rfl
 have q1:=H6.out.1.cell 1 (.int .i64 0) rfl
 have q2:=H6.out.1.cell 2 (.string ⟨#[]⟩) rfl
 have q3:=H6.out.1.cell 3 (.int .i64 0) rfl
 have f0:=H6.out.1.free 0
 have f1:=H6.out.1.free 1
 have f2:=H6.out.1.free 2
 have f3:=H6.out.1.free 3
 have HP:=Ha (H6.out.1.put4 (.string n) (.int .i64 0) (.string d) (.int .i64 0))
 have HL:=Ha (bq H6.out.2 (l:=w.heap.size) (Nat.le_refl _) (.string n) (.int .i64 0) (.string d) (.int .i64 0))
 have g0:=HP.out.cell 0 (.string n) rfl
 have g1:=HP.out.cell 1 (.int .i64 0) rfl
 have g2:=HP.out.cell 2 (.string d) rfl
 have g3:=HP.out.cell 3 (.int .i64 0) rfl
 go_wp2
 refine bodyPost_ret (v := .tuple #[.agg #[.string n,.int .i64 0,.string d,.int .i64 0],.int .i64 0]) (by simp [results,Tryz.results106,go_sem,g0,g1,g2,g3]) rfl ?_
 exact ⟨rfl,HL.out⟩
theorem k8 (a b:ByteArray) (w:World)
  (ha:∀ W,Below w.heap.size w W→Calls Tryz.prog 105 #[.string a] W fun e W'=>(∃ x y,e = .returned (.tuple #[.agg #[.int .i64 x,.int .i64 y],.bool false]))∧Below W.heap.size W W') :
  Calls Tryz.prog 127 #[.string a,.string b] w fun e W'=>(∃ x y z u,e = .returned (.tuple #[.agg #[.int .i64 x,.int .i64 y],.agg #[.int .i64 z,.int .i64 u],.bool false]))∧Below w.heap.size w W':=by
 have C:=Ha ha;clear ha
 have hB:Below w.heap.size w ((w.alloc (.cells #[.int .i64 0,.int .i64 0] 136)).alloc (.cells #[.int .i64 0,.int .i64 0] 136)):=((Below.refl _ w).alloc (Nat.le_refl _) _).alloc (by simp) _
 have k0:=(Blk.new w #[.int .i64 0,.int .i64 0] 136).alloc (.cells #[.int .i64 0,.int .i64 0] 136)
 have k1:=Blk.new (w.alloc (.cells #[.int .i64 0,.int .i64 0] 136)) #[.int .i64 0,.int .i64 0] 136
 rw [World.size_alloc] at k1
 go_enter Tryz.func127,Tryz.ntmps127
 go_wp2_with fail
 generalize (w.alloc (.cells #[.int .i64 0,.int .i64 0] 136)).alloc (.cells #[.int .i64 0,.int .i64 0] 136)=W0 at *
 have HB:=Ha (Hb hB (Hb k0 k1));clear hB k0 k1
 refine (C.out _ HB.out.1).mono ?_
 rintro e w1 ⟨⟨x,y,rfl⟩,b⟩
 have H1:=Ha (Hb (HB.out.1.trans (b.mono HB.out.1.size)) (Hb (HB.out.2.1.next b) (HB.out.2.2.next b)));clear b HB
 go_wp2_with fail
 obtain ⟨hB,k0,k1⟩:=H1.out
 have n0:w.heap.size≠w1.heap.size:=by have:=k0.lt;omega
 have n1:w.heap.size+1≠w1.heap.size:=by have:=k1.lt;omega
 have k2:=Blk.new w1 #[.int .i64 x,.int .i64 y] 136
 have K0:=k0.alloc (.cells #[.int .i64 x,.int .i64 y] 136)
 have K1:=k1.alloc (.cells #[.int .i64 x,.int .i64 y] 136)
 have hW:=hB.alloc hB.size (.cells #[.int .i64 x,.int .i64 y] 136)
 generalize w1.alloc (.cells #[.int .i64 x,.int .i64 y] 136)=W1 at *
 generalize w1.heap.size=j at *
 clear hB k0 k1 H1
 have c0:=k2.cell 0 (.int .i64 x) rfl
 have c1:=k2.cell 1 (.int .i64 y) rfl
 clear k2
 generalize hk:w.heap.size=k at *
 have HK:=Ha hk;clear hk
 have f0:=K0.free 0
 have f1:=K0.free 1
 have f2:=K1.free 0
 have f3:=K1.free 1
 have d0:=K0.cell 0 (.int .i64 0) rfl
 have d1:=K0.cell 1 (.int .i64 0) rfl
 have d2:=K1.cell 0 (.int .i64 0) rfl
 have d3:=K1.cell 1 (.int .i64 0) rfl
 have HW:=Ha (Hb hW (Hb ((K0.put2 (.int .i64 x) (.int .i64 y)).other2 (l:=k+1) (by omega) (.int .i64 x) (.int .i64 y)).drew ((K1.other2 (l:=k) (by omega) (.int .i64 x) (.int .i64 y)).put2 (.int .i64 x) (.int .i64 y)).drew));clear hW K0 K1
 go_region_held3 (fun w'=>w'.cell? ⟨j,0,none⟩=some (.int .i64 x)∧w'.cell? ⟨j,1,none⟩=some (.int .i64 y)) (first | exact ⟨c0,c1⟩ | (go_keep;done)) (first | fail)
 clear f0 f1 f2 f3 d0 d1 d2 d3
 have g0:=HW.out.2.1.cell 0 _ rfl
 have g1:=HW.out.2.1.cell 1 _ rfl
 have g2:=HW.out.2.2.cell 0 _ rfl
 have g3:=HW.out.2.2.cell 1 _ rfl
 have HL:=Ha ((cT (cT HW.out.1 (l:=k) (Nat.le_refl _) (.int .i64 x) (.int .i64 y)) (l:=k+1) (Nat.le_succ _) (.int .i64 x) (.int .i64 y)).drew)
 go_wp2
 refine bodyPost_ret (v := .tuple #[.agg #[.int .i64 x,.int .i64 y],.agg #[.int .i64 x,.int .i64 y],.bool false]) (by simp [results,Tryz.results127,go_sem,g0,g1,g2,g3]) rfl ?_
 exact ⟨⟨_,_,_,_,rfl⟩,by rw [HK.out];exact HL.out⟩
theorem gD (a b:ByteArray) (x y:Int) (o:Bool) (R:Int→Int→Prop) (w:World)
  (ha:CqB w 105 #[.string a] (.tuple #[.agg #[.int .i64 x,.int .i64 y],.bool true]))
  (hb:∀ W,Below w.heap.size w W→Calls Tryz.prog 105 #[.string b] W fun e W'=>(∃ z u,R z u∧e = .returned (.tuple #[.agg #[.int .i64 z,.int .i64 u],.bool o]))∧Below W.heap.size W W') :
  Calls Tryz.prog 127 #[.string a,.string b] w fun e W'=>(∃ z u,R z u∧e = .returned (.tuple #[.agg #[.int .i64 x,.int .i64 y],.agg #[.int .i64 z,.int .i64 u],.bool o]))∧Below w.heap.size w W':=by
 have C:=Ha (Hb ha hb);clear ha hb
 have hB:Below w.heap.size w ((w.alloc (.cells #[.int .i64 0,.int .i64 0] 136)).alloc (.cells #[.int .i64 0,.int .i64 0] 136)):=((Below.refl _ w).alloc (Nat.le_refl _) _).alloc (by simp) _
 have k0:=(Blk.new w #[.int .i64 0,.int .i64 0] 136).alloc (.cells #[.int .i64 0,.int .i64 0] 136)
 have k1:=Blk.new (w.alloc (.cells #[.int .i64 0,.int .i64 0] 136)) #[.int .i64 0,.int .i64 0] 136
 rw [World.size_alloc] at k1
 go_enter Tryz.func127,Tryz.ntmps127
 go_wp2_with fail
 generalize (w.alloc (.cells #[.int .i64 0,.int .i64 0] 136)).alloc (.cells #[.int .i64 0,.int .i64 0] 136)=W0 at *
 have HB:=Ha (Hb hB (Hb k0 k1));clear hB k0 k1
 refine (C.out.1 _ HB.out.1).mono ?_
 rintro e w1 ⟨rfl,b⟩
 have H1:=Ha (Hb (HB.out.1.trans (b.mono HB.out.1.size)) (Hb (HB.out.2.1.next b) (HB.out.2.2.next b)));clear b HB
 go_wp2_with fail
 obtain ⟨hB,k0,k1⟩:=H1.out
 have n0:w.heap.size≠w1.heap.size:=by have:=k0.lt;omega
 have n1:w.heap.size+1≠w1.heap.size:=by have:=k1.lt;omega
 have k2:=Blk.new w1 #[.int .i64 x,.int .i64 y] 136
 have K0:=k0.alloc (.cells #[.int .i64 x,.int .i64 y] 136)
 have K1:=k1.alloc (.cells #[.int .i64 x,.int .i64 y] 136)
 have hW:=hB.alloc hB.size (.cells #[.int .i64 x,.int .i64 y] 136)
 generalize w1.alloc (.cells #[.int .i64 x,.int .i64 y] 136)=W1 at *
 generalize w1.heap.size=j at *
 clear hB k0 k1 H1
 have HB:=Ha (Hb hW (Hb K0 (Hb K1 k2)));clear hW K0 K1 k2
 refine (C.out.2 _ HB.out.1).mono ?_
 rintro e w2 ⟨⟨z,u,hR,rfl⟩,b⟩
 have H2:=Ha (Hb (HB.out.1.trans (b.mono HB.out.1.size)) (Hb (HB.out.2.1.next b) (Hb (HB.out.2.2.1.next b) (HB.out.2.2.2.next b))));clear b HB
 have HR:=Ha hR;clear hR
 go_wp2_with fail
 obtain ⟨hB,k0,k1,k2⟩:=H2.out
 have n2:w.heap.size≠w2.heap.size:=by have:=k0.lt;omega
 have n3:w.heap.size+1≠w2.heap.size:=by have:=k1.lt;omega
 have k3:=Blk.new w2 #[.int .i64 z,.int .i64 u] 136
 have K0:=k0.alloc (.cells #[.int .i64 z,.int .i64 u] 136)
 have K1:=k1.alloc (.cells #[.int .i64 z,.int .i64 u] 136)
 have K2:=k2.alloc (.cells #[.int .i64 z,.int .i64 u] 136)
 have hW:=hB.alloc hB.size (.cells #[.int .i64 z,.int .i64 u] 136)
 generalize w2.alloc (.cells #[.int .i64 z,.int .i64 u] 136)=W2 at *
 generalize w2.heap.size=i at *
 clear hB k0 k1 k2 H2 C
 have c0:=K2.cell 0 (.int .i64 x) rfl
 have c1:=K2.cell 1 (.int .i64 y) rfl
 have c2:=k3.cell 0 (.int .i64 z) rfl
 have c3:=k3.cell 1 (.int .i64 u) rfl
 clear K2 k3
 generalize hk:w.heap.size=k at *
 have HK:=Ha hk;clear hk
 have f0:=K0.free 0
 have f1:=K0.free 1
 have f2:=K1.free 0
 have f3:=K1.free 1
 have d0:=K0.cell 0 (.int .i64 0) rfl
 have d1:=K0.cell 1 (.int .i64 0) rfl
 have d2:=K1.cell 0 (.int .i64 0) rfl
 have d3:=K1.cell 1 (.int .i64 0) rfl
 have HW:=Ha (Hb hW (Hb ((K0.put2 (.int .i64 x) (.int .i64 y)).other2 (l:=k+1) (by omega) (.int .i64 z) (.int .i64 u)).drew ((K1.other2 (l:=k) (by omega) (.int .i64 x) (.int .i64 y)).put2 (.int .i64 z) (.int .i64 u)).drew));clear hW K0 K1
 go_region_held3 (fun w'=>w'.cell? ⟨j,0,none⟩=some (.int .i64 x)∧w'.cell? ⟨j,1,none⟩=some (.int .i64 y)∧w'.cell? ⟨i,0,none⟩=some (.int .i64 z)∧w'.cell? ⟨i,1,none⟩=some (.int .i64 u)) (first | exact ⟨c0,c1,c2,c3⟩ | (go_keep;done)) (first | fail)
 clear f0 f1 f2 f3 d0 d1 d2 d3
 have g0:=HW.out.2.1.cell 0 _ rfl
 have g1:=HW.out.2.1.cell 1 _ rfl
 have g2:=HW.out.2.2.cell 0 _ rfl
 have g3:=HW.out.2.2.cell 1 _ rfl
 have HL:=Ha ((cT (cT HW.out.1 (l:=k) (Nat.le_refl _) (.int .i64 x) (.int .i64 y)) (l:=k+1) (Nat.le_succ _) (.int .i64 z) (.int .i64 u)).drew)
 go_wp2
 refine bodyPost_ret (v := .tuple #[.agg #[.int .i64 x,.int .i64 y],.agg #[.int .i64 z,.int .i64 u],.bool o]) (by simp [results,Tryz.results127,go_sem,g0,g1,g2,g3]) rfl ?_
 exact ⟨⟨_,_,HR.out,rfl⟩,by rw [HK.out];exact HL.out⟩
end Go.Proofs.YtjdomibbaemdnaaGreatDoor
