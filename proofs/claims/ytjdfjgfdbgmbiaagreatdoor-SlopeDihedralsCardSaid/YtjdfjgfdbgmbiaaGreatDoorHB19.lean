/- Parts of the proof of the text YtjdfjgfdbgmbiaaGreatDoorHB39. -/
import Derived.Test.YtjdfjgfdbgmbiaaGreatDoorHB1
import Derived.Test.YtjdfjgfdbgmbiaaGreatDoorHB18
set_option linter.all false
set_option maxRecDepth 100000
set_option maxHeartbeats 8000000
namespace Go.Proofs.YtjdfjgfdbgmbiaaGreatDoor
open Go.RowKit
theorem rl_n (s n d:ByteArray) (c2:Int) (f:Bool) (w:World)
  (hcut:CqB w 98 #[.string s] (.tuple #[.string n,.string d,.bool f]))
  (hk1:CqB w 99 #[.string n] (.int .i64 11))
  (hk2:CqB w 99 #[.string d] (.int .i64 c2)) :
  Calls Tryz.prog 70 #[.string s] w fun e W'=>e = .returned (.tuple #[.agg #[.string ⟨#[]⟩,.int .i64 0,.string ⟨#[]⟩,.int .i64 0],.int .i64 11])∧Below w.heap.size w W':=by
 have C:=Lib.hid (And.intro hcut (And.intro hk1 (And.intro hk2 trivial)));clear hcut hk1 hk2
 go_enter Tryz.func70,Tryz.ntmps70
 go_wp2_with fail
 have hb0:=Blk.new w #[.string ⟨#[]⟩,.int .i64 0,.string ⟨#[]⟩,.int .i64 0] 87
 have hB0:Below w.heap.size w (w.alloc (.cells #[.string ⟨#[]⟩,.int .i64 0,.string ⟨#[]⟩,.int .i64 0] 87)):=(Below.refl _ w).alloc (Nat.le_refl _) _
 generalize w.alloc (.cells #[.string ⟨#[]⟩,.int .i64 0,.string ⟨#[]⟩,.int .i64 0] 87)=W0 at *
 have H0:=Lib.hid (And.intro hb0 hB0);clear hb0 hB0
 refine (C.out.1 _ H0.out.2).mono ?_
 rintro e w1 ⟨rfl,b⟩
 have H1:=Lib.hid (And.intro (H0.out.1.next b) (H0.out.2.trans (b.mono H0.out.2.size)));clear b H0
 go_wp2_with fail
 refine (C.out.2.1 _ H1.out.2).mono ?_
 rintro e w2 ⟨rfl,b⟩
 have H2:=Lib.hid (And.intro (H1.out.1.next b) (H1.out.2.trans (b.mono H1.out.2.size)));clear b H1
 go_wp2_with fail
 refine (C.out.2.2.1 _ H2.out.2).mono ?_
 rintro e w3 ⟨rfl,b⟩
 have H3:=Lib.hid (And.intro (H2.out.1.next b) (H2.out.2.trans (b.mono H2.out.2.size)));clear b H2
 have q0:=H3.out.1.cell 0 (.string ⟨#[]⟩) rfl
 have q1:=H3.out.1.cell 1 (.int .i64 0) rfl
 have q2:=H3.out.1.cell 2 (.string ⟨#[]⟩) rfl
 have q3:=H3.out.1.cell 3 (.int .i64 0) rfl
 have f0:=H3.out.1.free 0
 have f1:=H3.out.1.free 1
 have f2:=H3.out.1.free 2
 have f3:=H3.out.1.free 3
 have HP:=Lib.hid (H3.out.1.put4 (.string ⟨#[]⟩) (.int .i64 0) (.string ⟨#[]⟩) (.int .i64 0))
 have HL:=Lib.hid (below_put4 H3.out.2 (l:=w.heap.size) (Nat.le_refl _) (.string ⟨#[]⟩) (.int .i64 0) (.string ⟨#[]⟩) (.int .i64 0))
 have g0:=HP.out.cell 0 (.string ⟨#[]⟩) rfl
 have g1:=HP.out.cell 1 (.int .i64 0) rfl
 have g2:=HP.out.cell 2 (.string ⟨#[]⟩) rfl
 have g3:=HP.out.cell 3 (.int .i64 0) rfl
 go_wp2
 refine bodyPost_ret (v := .tuple #[.agg #[.string ⟨#[]⟩,.int .i64 0,.string ⟨#[]⟩,.int .i64 0],.int .i64 11]) (by simp [results,Tryz.results70,go_sem,g0,g1,g2,g3]) rfl ?_
 exact ⟨rfl,HL.out⟩
theorem rl_1 (s n d:ByteArray) (c1:Int) (c2:Int) (w:World) (a1:(c1==11)=false) (a1':(c1 != 11)=true) (a2:(c2==11)=false) (a2':(c2 != 11)=true) (hp:0<d.size) (hp':(0:Int)<d.size) (hm:((d[0].toNat:Int)==45)=false) (hm':((d[0].toNat:Int) != 45)=true) (h0:(d.toList == [48])=false) (h0':(d.toList != [48])=true) (h1:(d.toList == [49])=true)
  (hcut:CqB w 98 #[.string s] (.tuple #[.string n,.string d,.bool true]))
  (hk1:CqB w 99 #[.string n] (.int .i64 c1))
  (hk2:CqB w 99 #[.string d] (.int .i64 c2)) :
  Calls Tryz.prog 70 #[.string s] w fun e W'=>e = .returned (.tuple #[.agg #[.string ⟨#[]⟩,.int .i64 0,.string ⟨#[]⟩,.int .i64 0],.int .i64 11])∧Below w.heap.size w W':=by
 have C:=Lib.hid (And.intro hcut (And.intro hk1 (And.intro hk2 trivial)));clear hcut hk1 hk2
 go_enter Tryz.func70,Tryz.ntmps70
 go_wp2_with fail
 have hb0:=Blk.new w #[.string ⟨#[]⟩,.int .i64 0,.string ⟨#[]⟩,.int .i64 0] 87
 have hB0:Below w.heap.size w (w.alloc (.cells #[.string ⟨#[]⟩,.int .i64 0,.string ⟨#[]⟩,.int .i64 0] 87)):=(Below.refl _ w).alloc (Nat.le_refl _) _
 generalize w.alloc (.cells #[.string ⟨#[]⟩,.int .i64 0,.string ⟨#[]⟩,.int .i64 0] 87)=W0 at *
 have H0:=Lib.hid (And.intro hb0 hB0);clear hb0 hB0
 refine (C.out.1 _ H0.out.2).mono ?_
 rintro e w1 ⟨rfl,b⟩
 have H1:=Lib.hid (And.intro (H0.out.1.next b) (H0.out.2.trans (b.mono H0.out.2.size)));clear b H0
 go_wp2_with fail
 refine (C.out.2.1 _ H1.out.2).mono ?_
 rintro e w2 ⟨rfl,b⟩
 have H2:=Lib.hid (And.intro (H1.out.1.next b) (H1.out.2.trans (b.mono H1.out.2.size)));clear b H1
 go_wp2_with fail
 refine (C.out.2.2.1 _ H2.out.2).mono ?_
 rintro e w3 ⟨rfl,b⟩
 have H3:=Lib.hid (And.intro (H2.out.1.next b) (H2.out.2.trans (b.mono H2.out.2.size)));clear b H2
 have q0:=H3.out.1.cell 0 (.string ⟨#[]⟩) rfl
 have q1:=H3.out.1.cell 1 (.int .i64 0) rfl
 have q2:=H3.out.1.cell 2 (.string ⟨#[]⟩) rfl
 have q3:=H3.out.1.cell 3 (.int .i64 0) rfl
 have f0:=H3.out.1.free 0
 have f1:=H3.out.1.free 1
 have f2:=H3.out.1.free 2
 have f3:=H3.out.1.free 3
 have HP:=Lib.hid (H3.out.1.put4 (.string ⟨#[]⟩) (.int .i64 0) (.string ⟨#[]⟩) (.int .i64 0))
 have HL:=Lib.hid (below_put4 H3.out.2 (l:=w.heap.size) (Nat.le_refl _) (.string ⟨#[]⟩) (.int .i64 0) (.string ⟨#[]⟩) (.int .i64 0))
 have g0:=HP.out.cell 0 (.string ⟨#[]⟩) rfl
 have g1:=HP.out.cell 1 (.int .i64 0) rfl
 have g2:=HP.out.cell 2 (.string ⟨#[]⟩) rfl
 have g3:=HP.out.cell 3 (.int .i64 0) rfl
 go_wp2
 refine bodyPost_ret (v := .tuple #[.agg #[.string ⟨#[]⟩,.int .i64 0,.string ⟨#[]⟩,.int .i64 0],.int .i64 11]) (by simp [results,Tryz.results70,go_sem,g0,g1,g2,g3]) rfl ?_
 exact ⟨rfl,HL.out⟩
theorem rl_b1 (s n d:ByteArray) (c2:Int) (w:World) (a2:(c2==11)=false) (a2':(c2 != 11)=true) (hp:0<d.size) (hp':(0:Int)<d.size) (hm:((d[0].toNat:Int)==45)=false) (hm':((d[0].toNat:Int) != 45)=true) (h0:(d.toList == [48])=false) (h0':(d.toList != [48])=true) (h1:(d.toList == [49])=false) (b2:(c2==0)=false) (b2':(c2 != 0)=true)
  (hcut:CqB w 98 #[.string s] (.tuple #[.string n,.string d,.bool true]))
  (hk1:CqB w 99 #[.string n] (.int .i64 0))
  (hk2:CqB w 99 #[.string d] (.int .i64 c2)) :
  Calls Tryz.prog 70 #[.string s] w fun e W'=>e = .returned (.tuple #[.agg #[.string ⟨#[]⟩,.int .i64 0,.string ⟨#[]⟩,.int .i64 0],.int .i64 4])∧Below w.heap.size w W':=by
 have C:=Lib.hid (And.intro hcut (And.intro hk1 (And.intro hk2 trivial)));clear hcut hk1 hk2
 go_enter Tryz.func70,Tryz.ntmps70
 go_wp2_with fail
 have hb0:=Blk.new w #[.string ⟨#[]⟩,.int .i64 0,.string ⟨#[]⟩,.int .i64 0] 87
 have hB0:Below w.heap.size w (w.alloc (.cells #[.string ⟨#[]⟩,.int .i64 0,.string ⟨#[]⟩,.int .i64 0] 87)):=(Below.refl _ w).alloc (Nat.le_refl _) _
 generalize w.alloc (.cells #[.string ⟨#[]⟩,.int .i64 0,.string ⟨#[]⟩,.int .i64 0] 87)=W0 at *
 have H0:=Lib.hid (And.intro hb0 hB0);clear hb0 hB0
 refine (C.out.1 _ H0.out.2).mono ?_
 rintro e w1 ⟨rfl,b⟩
 have H1:=Lib.hid (And.intro (H0.out.1.next b) (H0.out.2.trans (b.mono H0.out.2.size)));clear b H0
 go_wp2_with fail
 refine (C.out.2.1 _ H1.out.2).mono ?_
 rintro e w2 ⟨rfl,b⟩
 have H2:=Lib.hid (And.intro (H1.out.1.next b) (H1.out.2.trans (b.mono H1.out.2.size)));clear b H1
 go_wp2_with fail
 refine (C.out.2.2.1 _ H2.out.2).mono ?_
 rintro e w3 ⟨rfl,b⟩
 have H3:=Lib.hid (And.intro (H2.out.1.next b) (H2.out.2.trans (b.mono H2.out.2.size)));clear b H2
 have q0:=H3.out.1.cell 0 (.string ⟨#[]⟩) rfl
 have q1:=H3.out.1.cell 1 (.int .i64 0) rfl
 have q2:=H3.out.1.cell 2 (.string ⟨#[]⟩) rfl
 have q3:=H3.out.1.cell 3 (.int .i64 0) rfl
 have f0:=H3.out.1.free 0
 have f1:=H3.out.1.free 1
 have f2:=H3.out.1.free 2
 have f3:=H3.out.1.free 3
 have HP:=Lib.hid (H3.out.1.put4 (.string ⟨#[]⟩) (.int .i64 0) (.string ⟨#[]⟩) (.int .i64 0))
 have HL:=Lib.hid (below_put4 H3.out.2 (l:=w.heap.size) (Nat.le_refl _) (.string ⟨#[]⟩) (.int .i64 0) (.string ⟨#[]⟩) (.int .i64 0))
 have g0:=HP.out.cell 0 (.string ⟨#[]⟩) rfl
 have g1:=HP.out.cell 1 (.int .i64 0) rfl
 have g2:=HP.out.cell 2 (.string ⟨#[]⟩) rfl
 have g3:=HP.out.cell 3 (.int .i64 0) rfl
 go_wp2
 refine bodyPost_ret (v := .tuple #[.agg #[.string ⟨#[]⟩,.int .i64 0,.string ⟨#[]⟩,.int .i64 0],.int .i64 4]) (by simp [results,Tryz.results70,go_sem,g0,g1,g2,g3]) rfl ?_
 exact ⟨rfl,HL.out⟩
theorem rl_d (s n d:ByteArray) (c1:Int) (f:Bool) (w:World) (a1:(c1==11)=false) (a1':(c1 != 11)=true)
  (hcut:CqB w 98 #[.string s] (.tuple #[.string n,.string d,.bool f]))
  (hk1:CqB w 99 #[.string n] (.int .i64 c1))
  (hk2:CqB w 99 #[.string d] (.int .i64 11)) :
  Calls Tryz.prog 70 #[.string s] w fun e W'=>e = .returned (.tuple #[.agg #[.string ⟨#[]⟩,.int .i64 0,.string ⟨#[]⟩,.int .i64 0],.int .i64 11])∧Below w.heap.size w W':=by
 have C:=Lib.hid (And.intro hcut (And.intro hk1 (And.intro hk2 trivial)));clear hcut hk1 hk2
 go_enter Tryz.func70,Tryz.ntmps70
 go_wp2_with fail
 have hb0:=Blk.new w #[.string ⟨#[]⟩,.int .i64 0,.string ⟨#[]⟩,.int .i64 0] 87
 have hB0:Below w.heap.size w (w.alloc (.cells #[.string ⟨#[]⟩,.int .i64 0,.string ⟨#[]⟩,.int .i64 0] 87)):=(Below.refl _ w).alloc (Nat.le_refl _) _
 generalize w.alloc (.cells #[.string ⟨#[]⟩,.int .i64 0,.string ⟨#[]⟩,.int .i64 0] 87)=W0 at *
 have H0:=Lib.hid (And.intro hb0 hB0);clear hb0 hB0
 refine (C.out.1 _ H0.out.2).mono ?_
 rintro e w1 ⟨rfl,b⟩
 have H1:=Lib.hid (And.intro (H0.out.1.next b) (H0.out.2.trans (b.mono H0.out.2.size)));clear b H0
 go_wp2_with fail
 refine (C.out.2.1 _ H1.out.2).mono ?_
 rintro e w2 ⟨rfl,b⟩
 have H2:=Lib.hid (And.intro (H1.out.1.next b) (H1.out.2.trans (b.mono H1.out.2.size)));clear b H1
 go_wp2_with fail
 refine (C.out.2.2.1 _ H2.out.2).mono ?_
 rintro e w3 ⟨rfl,b⟩
 have H3:=Lib.hid (And.intro (H2.out.1.next b) (H2.out.2.trans (b.mono H2.out.2.size)));clear b H2
 have q0:=H3.out.1.cell 0 (.string ⟨#[]⟩) rfl
 have q1:=H3.out.1.cell 1 (.int .i64 0) rfl
 have q2:=H3.out.1.cell 2 (.string ⟨#[]⟩) rfl
 have q3:=H3.out.1.cell 3 (.int .i64 0) rfl
 have f0:=H3.out.1.free 0
 have f1:=H3.out.1.free 1
 have f2:=H3.out.1.free 2
 have f3:=H3.out.1.free 3
 have HP:=Lib.hid (H3.out.1.put4 (.string ⟨#[]⟩) (.int .i64 0) (.string ⟨#[]⟩) (.int .i64 0))
 have HL:=Lib.hid (below_put4 H3.out.2 (l:=w.heap.size) (Nat.le_refl _) (.string ⟨#[]⟩) (.int .i64 0) (.string ⟨#[]⟩) (.int .i64 0))
 have g0:=HP.out.cell 0 (.string ⟨#[]⟩) rfl
 have g1:=HP.out.cell 1 (.int .i64 0) rfl
 have g2:=HP.out.cell 2 (.string ⟨#[]⟩) rfl
 have g3:=HP.out.cell 3 (.int .i64 0) rfl
 go_wp2
 refine bodyPost_ret (v := .tuple #[.agg #[.string ⟨#[]⟩,.int .i64 0,.string ⟨#[]⟩,.int .i64 0],.int .i64 11]) (by simp [results,Tryz.results70,go_sem,g0,g1,g2,g3]) rfl ?_
 exact ⟨rfl,HL.out⟩
theorem rl_a0 (s n d:ByteArray) (c1:Int) (c2:Int) (w:World) (a1:(c1==11)=false) (a1':(c1 != 11)=true) (a2:(c2==11)=false) (a2':(c2 != 11)=true) (hp:0<d.size) (hp':(0:Int)<d.size) (hm:((d[0].toNat:Int)==45)=false) (hm':((d[0].toNat:Int) != 45)=true) (h0:(d.toList == [48])=false) (h0':(d.toList != [48])=true) (b1:(c1==0)=false) (b1':(c1 != 0)=true)
  (hcut:CqB w 98 #[.string s] (.tuple #[.string n,.string d,.bool false]))
  (hk1:CqB w 99 #[.string n] (.int .i64 c1))
  (hk2:CqB w 99 #[.string d] (.int .i64 c2)) :
  Calls Tryz.prog 70 #[.string s] w fun e W'=>e = .returned (.tuple #[.agg #[.string ⟨#[]⟩,.int .i64 0,.string ⟨#[]⟩,.int .i64 0],.int .i64 4])∧Below w.heap.size w W':=by
 have C:=Lib.hid (And.intro hcut (And.intro hk1 (And.intro hk2 trivial)));clear hcut hk1 hk2
 go_enter Tryz.func70,Tryz.ntmps70
 go_wp2_with fail
 have hb0:=Blk.new w #[.string ⟨#[]⟩,.int .i64 0,.string ⟨#[]⟩,.int .i64 0] 87
 have hB0:Below w.heap.size w (w.alloc (.cells #[.string ⟨#[]⟩,.int .i64 0,.string ⟨#[]⟩,.int .i64 0] 87)):=(Below.refl _ w).alloc (Nat.le_refl _) _
 generalize w.alloc (.cells #[.string ⟨#[]⟩,.int .i64 0,.string ⟨#[]⟩,.int .i64 0] 87)=W0 at *
 have H0:=Lib.hid (And.intro hb0 hB0);clear hb0 hB0
 refine (C.out.1 _ H0.out.2).mono ?_
 rintro e w1 ⟨rfl,b⟩
 have H1:=Lib.hid (And.intro (H0.out.1.next b) (H0.out.2.trans (b.mono H0.out.2.size)));clear b H0
 go_wp2_with fail
 refine (C.out.2.1 _ H1.out.2).mono ?_
 rintro e w2 ⟨rfl,b⟩
 have H2:=Lib.hid (And.intro (H1.out.1.next b) (H1.out.2.trans (b.mono H1.out.2.size)));clear b H1
 go_wp2_with fail
 refine (C.out.2.2.1 _ H2.out.2).mono ?_
 rintro e w3 ⟨rfl,b⟩
 have H3:=Lib.hid (And.intro (H2.out.1.next b) (H2.out.2.trans (b.mono H2.out.2.size)));clear b H2
 have q0:=H3.out.1.cell 0 (.string ⟨#[]⟩) rfl
 have q1:=H3.out.1.cell 1 (.int .i64 0) rfl
 have q2:=H3.out.1.cell 2 (.string ⟨#[]⟩) rfl
 have q3:=H3.out.1.cell 3 (.int .i64 0) rfl
 have f0:=H3.out.1.free 0
 have f1:=H3.out.1.free 1
 have f2:=H3.out.1.free 2
 have f3:=H3.out.1.free 3
 have HP:=Lib.hid (H3.out.1.put4 (.string ⟨#[]⟩) (.int .i64 0) (.string ⟨#[]⟩) (.int .i64 0))
 have HL:=Lib.hid (below_put4 H3.out.2 (l:=w.heap.size) (Nat.le_refl _) (.string ⟨#[]⟩) (.int .i64 0) (.string ⟨#[]⟩) (.int .i64 0))
 have g0:=HP.out.cell 0 (.string ⟨#[]⟩) rfl
 have g1:=HP.out.cell 1 (.int .i64 0) rfl
 have g2:=HP.out.cell 2 (.string ⟨#[]⟩) rfl
 have g3:=HP.out.cell 3 (.int .i64 0) rfl
 go_wp2
 refine bodyPost_ret (v := .tuple #[.agg #[.string ⟨#[]⟩,.int .i64 0,.string ⟨#[]⟩,.int .i64 0],.int .i64 4]) (by simp [results,Tryz.results70,go_sem,g0,g1,g2,g3]) rfl ?_
 exact ⟨rfl,HL.out⟩
theorem rl_ok (s n d:ByteArray) (w:World) (hp:0<d.size) (hp':(0:Int)<d.size) (hm:((d[0].toNat:Int)==45)=false) (hm':((d[0].toNat:Int) != 45)=true) (h0:(d.toList == [48])=false) (h0':(d.toList != [48])=true)
  (hcut:CqB w 98 #[.string s] (.tuple #[.string n,.string d,.bool false]))
  (hk1:CqB w 99 #[.string n] (.int .i64 0))
  (hk2:CqB w 99 #[.string d] (.int .i64 0)) :
  Calls Tryz.prog 70 #[.string s] w fun e W'=>e = .returned (.tuple #[.agg #[.string n,.int .i64 0,.string d,.int .i64 0],.int .i64 0])∧Below w.heap.size w W':=by
 have C:=Lib.hid (And.intro hcut (And.intro hk1 (And.intro hk2 trivial)));clear hcut hk1 hk2
 go_enter Tryz.func70,Tryz.ntmps70
 go_wp2_with fail
 have hb0:=Blk.new w #[.string ⟨#[]⟩,.int .i64 0,.string ⟨#[]⟩,.int .i64 0] 87
 have hB0:Below w.heap.size w (w.alloc (.cells #[.string ⟨#[]⟩,.int .i64 0,.string ⟨#[]⟩,.int .i64 0] 87)):=(Below.refl _ w).alloc (Nat.le_refl _) _
 generalize w.alloc (.cells #[.string ⟨#[]⟩,.int .i64 0,.string ⟨#[]⟩,.int .i64 0] 87)=W0 at *
 have H0:=Lib.hid (And.intro hb0 hB0);clear hb0 hB0
 refine (C.out.1 _ H0.out.2).mono ?_
 rintro e w1 ⟨rfl,b⟩
 have H1:=Lib.hid (And.intro (H0.out.1.next b) (H0.out.2.trans (b.mono H0.out.2.size)));clear b H0
 go_wp2_with fail
 refine (C.out.2.1 _ H1.out.2).mono ?_
 rintro e w2 ⟨rfl,b⟩
 have H2:=Lib.hid (And.intro (H1.out.1.next b) (H1.out.2.trans (b.mono H1.out.2.size)));clear b H1
 go_wp2_with fail
 refine (C.out.2.2.1 _ H2.out.2).mono ?_
 rintro e w3 ⟨rfl,b⟩
 have H3:=Lib.hid (And.intro (H2.out.1.next b) (H2.out.2.trans (b.mono H2.out.2.size)));clear b H2
 have H4:=Lib.hid (show Blk (w3.alloc (.cells #[.string n,.int .i64 0,.string d,.int .i64 0] 87)) w.heap.size #[.string ⟨#[]⟩,.int .i64 0,.string ⟨#[]⟩,.int .i64 0]∧Below w.heap.size w (w3.alloc (.cells #[.string n,.int .i64 0,.string d,.int .i64 0] 87))∧Blk (w3.alloc (.cells #[.string n,.int .i64 0,.string d,.int .i64 0] 87)) w3.heap.size #[.string n,.int .i64 0,.string d,.int .i64 0]∧w.heap.size<w3.heap.size from ⟨H3.out.1.alloc _,H3.out.2.alloc H3.out.2.size _,Blk.new w3 _ _,H3.out.1.lt⟩)
 have e0:=H4.out.2.2.1.cell 0 (.string n) rfl
 have e1:=H4.out.2.2.1.cell 1 (.int .i64 0) rfl
 have e2:=H4.out.2.2.1.cell 2 (.string d) rfl
 have e3:=H4.out.2.2.1.cell 3 (.int .i64 0) rfl
 have H5:=Lib.hid (And.intro H4.out.1 H4.out.2.1);clear H4
 have q0:=H5.out.1.cell 0 (.string ⟨#[]⟩) rfl
 have q1:=H5.out.1.cell 1 (.int .i64 0) rfl
 have q2:=H5.out.1.cell 2 (.string ⟨#[]⟩) rfl
 have q3:=H5.out.1.cell 3 (.int .i64 0) rfl
 have f0:=H5.out.1.free 0
 have f1:=H5.out.1.free 1
 have f2:=H5.out.1.free 2
 have f3:=H5.out.1.free 3
 have HP:=Lib.hid (H5.out.1.put4 (.string n) (.int .i64 0) (.string d) (.int .i64 0))
 have HL:=Lib.hid (below_put4 H5.out.2 (l:=w.heap.size) (Nat.le_refl _) (.string n) (.int .i64 0) (.string d) (.int .i64 0))
 have g0:=HP.out.cell 0 (.string n) rfl
 have g1:=HP.out.cell 1 (.int .i64 0) rfl
 have g2:=HP.out.cell 2 (.string d) rfl
 have g3:=HP.out.cell 3 (.int .i64 0) rfl
 go_wp2
 refine bodyPost_ret (v := .tuple #[.agg #[.string n,.int .i64 0,.string d,.int .i64 0],.int .i64 0]) (by simp [results,Tryz.results70,go_sem,g0,g1,g2,g3]) rfl ?_
 exact ⟨rfl,HL.out⟩
theorem rl_m (s n d:ByteArray) (c1:Int) (c2:Int) (f:Bool) (w:World) (a1:(c1==11)=false) (a1':(c1 != 11)=true) (a2:(c2==11)=false) (a2':(c2 != 11)=true) (hp:0<d.size) (hp':(0:Int)<d.size) (hm:((d[0].toNat:Int)==45)=true) (hm':((d[0].toNat:Int) != 45)=false)
  (hcut:CqB w 98 #[.string s] (.tuple #[.string n,.string d,.bool f]))
  (hk1:CqB w 99 #[.string n] (.int .i64 c1))
  (hk2:CqB w 99 #[.string d] (.int .i64 c2)) :
  Calls Tryz.prog 70 #[.string s] w fun e W'=>e = .returned (.tuple #[.agg #[.string ⟨#[]⟩,.int .i64 0,.string ⟨#[]⟩,.int .i64 0],.int .i64 11])∧Below w.heap.size w W':=by
 have C:=Lib.hid (And.intro hcut (And.intro hk1 (And.intro hk2 trivial)));clear hcut hk1 hk2
 go_enter Tryz.func70,Tryz.ntmps70
 go_wp2_with fail
 have hb0:=Blk.new w #[.string ⟨#[]⟩,.int .i64 0,.string ⟨#[]⟩,.int .i64 0] 87
 have hB0:Below w.heap.size w (w.alloc (.cells #[.string ⟨#[]⟩,.int .i64 0,.string ⟨#[]⟩,.int .i64 0] 87)):=(Below.refl _ w).alloc (Nat.le_refl _) _
 generalize w.alloc (.cells #[.string ⟨#[]⟩,.int .i64 0,.string ⟨#[]⟩,.int .i64 0] 87)=W0 at *
 have H0:=Lib.hid (And.intro hb0 hB0);clear hb0 hB0
 refine (C.out.1 _ H0.out.2).mono ?_
 rintro e w1 ⟨rfl,b⟩
 have H1:=Lib.hid (And.intro (H0.out.1.next b) (H0.out.2.trans (b.mono H0.out.2.size)));clear b H0
 go_wp2_with fail
 refine (C.out.2.1 _ H1.out.2).mono ?_
 rintro e w2 ⟨rfl,b⟩
 have H2:=Lib.hid (And.intro (H1.out.1.next b) (H1.out.2.trans (b.mono H1.out.2.size)));clear b H1
 go_wp2_with fail
 refine (C.out.2.2.1 _ H2.out.2).mono ?_
 rintro e w3 ⟨rfl,b⟩
 have H3:=Lib.hid (And.intro (H2.out.1.next b) (H2.out.2.trans (b.mono H2.out.2.size)));clear b H2
 have q0:=H3.out.1.cell 0 (.string ⟨#[]⟩) rfl
 have q1:=H3.out.1.cell 1 (.int .i64 0) rfl
 have q2:=H3.out.1.cell 2 (.string ⟨#[]⟩) rfl
 have q3:=H3.out.1.cell 3 (.int .i64 0) rfl
 have f0:=H3.out.1.free 0
 have f1:=H3.out.1.free 1
 have f2:=H3.out.1.free 2
 have f3:=H3.out.1.free 3
 have HP:=Lib.hid (H3.out.1.put4 (.string ⟨#[]⟩) (.int .i64 0) (.string ⟨#[]⟩) (.int .i64 0))
 have HL:=Lib.hid (below_put4 H3.out.2 (l:=w.heap.size) (Nat.le_refl _) (.string ⟨#[]⟩) (.int .i64 0) (.string ⟨#[]⟩) (.int .i64 0))
 have g0:=HP.out.cell 0 (.string ⟨#[]⟩) rfl
 have g1:=HP.out.cell 1 (.int .i64 0) rfl
 have g2:=HP.out.cell 2 (.string ⟨#[]⟩) rfl
 have g3:=HP.out.cell 3 (.int .i64 0) rfl
 go_wp2
 refine bodyPost_ret (v := .tuple #[.agg #[.string ⟨#[]⟩,.int .i64 0,.string ⟨#[]⟩,.int .i64 0],.int .i64 11]) (by simp [results,Tryz.results70,go_sem,g0,g1,g2,g3]) rfl ?_
 exact ⟨rfl,HL.out⟩
theorem rl_a1 (s n d:ByteArray) (c1:Int) (c2:Int) (w:World) (a1:(c1==11)=false) (a1':(c1 != 11)=true) (a2:(c2==11)=false) (a2':(c2 != 11)=true) (hp:0<d.size) (hp':(0:Int)<d.size) (hm:((d[0].toNat:Int)==45)=false) (hm':((d[0].toNat:Int) != 45)=true) (h0:(d.toList == [48])=false) (h0':(d.toList != [48])=true) (h1:(d.toList == [49])=false) (b1:(c1==0)=false) (b1':(c1 != 0)=true)
  (hcut:CqB w 98 #[.string s] (.tuple #[.string n,.string d,.bool true]))
  (hk1:CqB w 99 #[.string n] (.int .i64 c1))
  (hk2:CqB w 99 #[.string d] (.int .i64 c2)) :
  Calls Tryz.prog 70 #[.string s] w fun e W'=>e = .returned (.tuple #[.agg #[.string ⟨#[]⟩,.int .i64 0,.string ⟨#[]⟩,.int .i64 0],.int .i64 4])∧Below w.heap.size w W':=by
 have C:=Lib.hid (And.intro hcut (And.intro hk1 (And.intro hk2 trivial)));clear hcut hk1 hk2
 go_enter Tryz.func70,Tryz.ntmps70
 go_wp2_with fail
 have hb0:=Blk.new w #[.string ⟨#[]⟩,.int .i64 0,.string ⟨#[]⟩,.int .i64 0] 87
 have hB0:Below w.heap.size w (w.alloc (.cells #[.string ⟨#[]⟩,.int .i64 0,.string ⟨#[]⟩,.int .i64 0] 87)):=(Below.refl _ w).alloc (Nat.le_refl _) _
 generalize w.alloc (.cells #[.string ⟨#[]⟩,.int .i64 0,.string ⟨#[]⟩,.int .i64 0] 87)=W0 at *
 have H0:=Lib.hid (And.intro hb0 hB0);clear hb0 hB0
 refine (C.out.1 _ H0.out.2).mono ?_
 rintro e w1 ⟨rfl,b⟩
 have H1:=Lib.hid (And.intro (H0.out.1.next b) (H0.out.2.trans (b.mono H0.out.2.size)));clear b H0
 go_wp2_with fail
 refine (C.out.2.1 _ H1.out.2).mono ?_
 rintro e w2 ⟨rfl,b⟩
 have H2:=Lib.hid (And.intro (H1.out.1.next b) (H1.out.2.trans (b.mono H1.out.2.size)));clear b H1
 go_wp2_with fail
 refine (C.out.2.2.1 _ H2.out.2).mono ?_
 rintro e w3 ⟨rfl,b⟩
 have H3:=Lib.hid (And.intro (H2.out.1.next b) (H2.out.2.trans (b.mono H2.out.2.size)));clear b H2
 have q0:=H3.out.1.cell 0 (.string ⟨#[]⟩) rfl
 have q1:=H3.out.1.cell 1 (.int .i64 0) rfl
 have q2:=H3.out.1.cell 2 (.string ⟨#[]⟩) rfl
 have q3:=H3.out.1.cell 3 (.int .i64 0) rfl
 have f0:=H3.out.1.free 0
 have f1:=H3.out.1.free 1
 have f2:=H3.out.1.free 2
 have f3:=H3.out.1.free 3
 have HP:=Lib.hid (H3.out.1.put4 (.string ⟨#[]⟩) (.int .i64 0) (.string ⟨#[]⟩) (.int .i64 0))
 have HL:=Lib.hid (below_put4 H3.out.2 (l:=w.heap.size) (Nat.le_refl _) (.string ⟨#[]⟩) (.int .i64 0) (.string ⟨#[]⟩) (.int .i64 0))
 have g0:=HP.out.cell 0 (.string ⟨#[]⟩) rfl
 have g1:=HP.out.cell 1 (.int .i64 0) rfl
 have g2:=HP.out.cell 2 (.string ⟨#[]⟩) rfl
 have g3:=HP.out.cell 3 (.int .i64 0) rfl
 go_wp2
 refine bodyPost_ret (v := .tuple #[.agg #[.string ⟨#[]⟩,.int .i64 0,.string ⟨#[]⟩,.int .i64 0],.int .i64 4]) (by simp [results,Tryz.results70,go_sem,g0,g1,g2,g3]) rfl ?_
 exact ⟨rfl,HL.out⟩
theorem rl_g (s n d g:ByteArray) (w:World) (hp:0<d.size) (hp':(0:Int)<d.size) (hm:((d[0].toNat:Int)==45)=false) (hm':((d[0].toNat:Int) != 45)=true) (h0:(d.toList == [48])=false) (h0':(d.toList != [48])=true) (h1:(d.toList == [49])=false)
  (hcut:CqB w 98 #[.string s] (.tuple #[.string n,.string d,.bool true]))
  (hk1:CqB w 99 #[.string n] (.int .i64 0))
  (hk2:CqB w 99 #[.string d] (.int .i64 0))
  (hdv:CqB w 100 #[.agg #[.string n,.int .i64 0],.agg #[.string d,.int .i64 0]] (.agg #[.string g,.int .i64 0]))
  (hon:CqB w 101 #[.agg #[.string g,.int .i64 0]] (.bool false)) :
  Calls Tryz.prog 70 #[.string s] w fun e W'=>e = .returned (.tuple #[.agg #[.string ⟨#[]⟩,.int .i64 0,.string ⟨#[]⟩,.int .i64 0],.int .i64 11])∧Below w.heap.size w W':=by
 have C:=Lib.hid (And.intro hcut (And.intro hk1 (And.intro hk2 (And.intro hdv hon))));clear hcut hk1 hk2 hdv hon
 go_enter Tryz.func70,Tryz.ntmps70
 go_wp2_with fail
 have hb0:=Blk.new w #[.string ⟨#[]⟩,.int .i64 0,.string ⟨#[]⟩,.int .i64 0] 87
 have hB0:Below w.heap.size w (w.alloc (.cells #[.string ⟨#[]⟩,.int .i64 0,.string ⟨#[]⟩,.int .i64 0] 87)):=(Below.refl _ w).alloc (Nat.le_refl _) _
 generalize w.alloc (.cells #[.string ⟨#[]⟩,.int .i64 0,.string ⟨#[]⟩,.int .i64 0] 87)=W0 at *
 have H0:=Lib.hid (And.intro hb0 hB0);clear hb0 hB0
 refine (C.out.1 _ H0.out.2).mono ?_
 rintro e w1 ⟨rfl,b⟩
 have H1:=Lib.hid (And.intro (H0.out.1.next b) (H0.out.2.trans (b.mono H0.out.2.size)));clear b H0
 go_wp2_with fail
 refine (C.out.2.1 _ H1.out.2).mono ?_
 rintro e w2 ⟨rfl,b⟩
 have H2:=Lib.hid (And.intro (H1.out.1.next b) (H1.out.2.trans (b.mono H1.out.2.size)));clear b H1
 go_wp2_with fail
 refine (C.out.2.2.1 _ H2.out.2).mono ?_
 rintro e w3 ⟨rfl,b⟩
 have H3:=Lib.hid (And.intro (H2.out.1.next b) (H2.out.2.trans (b.mono H2.out.2.size)));clear b H2
 have H4:=Lib.hid (show Blk (w3.alloc (.cells #[.string n,.int .i64 0,.string d,.int .i64 0] 87)) w.heap.size #[.string ⟨#[]⟩,.int .i64 0,.string ⟨#[]⟩,.int .i64 0]∧Below w.heap.size w (w3.alloc (.cells #[.string n,.int .i64 0,.string d,.int .i64 0] 87))∧Blk (w3.alloc (.cells #[.string n,.int .i64 0,.string d,.int .i64 0] 87)) w3.heap.size #[.string n,.int .i64 0,.string d,.int .i64 0]∧w.heap.size<w3.heap.size from ⟨H3.out.1.alloc _,H3.out.2.alloc H3.out.2.size _,Blk.new w3 _ _,H3.out.1.lt⟩)
 have e0:=H4.out.2.2.1.cell 0 (.string n) rfl
 have e1:=H4.out.2.2.1.cell 1 (.int .i64 0) rfl
 have e2:=H4.out.2.2.1.cell 2 (.string d) rfl
 have e3:=H4.out.2.2.1.cell 3 (.int .i64 0) rfl
 go_wp2_with fail
 generalize w3.alloc (.cells #[.string n,.int .i64 0,.string d,.int .i64 0] 87)=w4 at *
 generalize w3.heap.size=j at *
 clear e0 e1 e2 e3 H3
 refine (C.out.2.2.2.1 _ H4.out.2.1).mono ?_
 rintro e w5 ⟨rfl,b⟩
 have H5:=Lib.hid (And.intro (H4.out.1.next b) (And.intro (H4.out.2.1.trans (b.mono H4.out.2.1.size)) (H4.out.2.2.1.next b)));clear b H4
 go_wp2_with fail
 refine (C.out.2.2.2.2 _ H5.out.2.1).mono ?_
 rintro e w6 ⟨rfl,b⟩
 have H6:=Lib.hid (And.intro (H5.out.1.next b) (H5.out.2.1.trans (b.mono H5.out.2.1.size)))
 have H7:=Lib.hid (H5.out.2.2.next b);clear b H5
 have e0:=H7.out.cell 0 (.string n) rfl
 have e1:=H7.out.cell 1 (.int .i64 0) rfl
 have e2:=H7.out.cell 2 (.string d) rfl
 have e3:=H7.out.cell 3 (.int .i64 0) rfl
 have q0:=H6.out.1.cell 0 (.string ⟨#[]⟩) rfl
 have q1:=H6.out.1.cell 1 (.int .i64 0) rfl
 have q2:=H6.out.1.cell 2 (.string ⟨#[]⟩) rfl
 have q3:=H6.out.1.cell 3 (.int .i64 0) rfl
 have f0:=H6.out.1.free 0
 have f1:=H6.out.1.free 1
 have f2:=H6.out.1.free 2
 have f3:=H6.out.1.free 3
 have HP:=Lib.hid (H6.out.1.put4 (.string ⟨#[]⟩) (.int .i64 0) (.string ⟨#[]⟩) (.int .i64 0))
 have HL:=Lib.hid (below_put4 H6.out.2 (l:=w.heap.size) (Nat.le_refl _) (.string ⟨#[]⟩) (.int .i64 0) (.string ⟨#[]⟩) (.int .i64 0))
 have g0:=HP.out.cell 0 (.string ⟨#[]⟩) rfl
 have g1:=HP.out.cell 1 (.int .i64 0) rfl
 have g2:=HP.out.cell 2 (.string ⟨#[]⟩) rfl
 have g3:=HP.out.cell 3 (.int .i64 0) rfl
 go_wp2
 refine bodyPost_ret (v := .tuple #[.agg #[.string ⟨#[]⟩,.int .i64 0,.string ⟨#[]⟩,.int .i64 0],.int .i64 11]) (by simp [results,Tryz.results70,go_sem,g0,g1,g2,g3]) rfl ?_
 exact ⟨rfl,HL.out⟩
theorem rl_0 (s n d:ByteArray) (c1:Int) (c2:Int) (f:Bool) (w:World) (a1:(c1==11)=false) (a1':(c1 != 11)=true) (a2:(c2==11)=false) (a2':(c2 != 11)=true) (hp:0<d.size) (hp':(0:Int)<d.size) (hm:((d[0].toNat:Int)==45)=false) (hm':((d[0].toNat:Int) != 45)=true) (h0:(d.toList == [48])=true) (h0':(d.toList != [48])=false)
  (hcut:CqB w 98 #[.string s] (.tuple #[.string n,.string d,.bool f]))
  (hk1:CqB w 99 #[.string n] (.int .i64 c1))
  (hk2:CqB w 99 #[.string d] (.int .i64 c2)) :
  Calls Tryz.prog 70 #[.string s] w fun e W'=>e = .returned (.tuple #[.agg #[.string ⟨#[]⟩,.int .i64 0,.string ⟨#[]⟩,.int .i64 0],.int .i64 11])∧Below w.heap.size w W':=by
 have C:=Lib.hid (And.intro hcut (And.intro hk1 (And.intro hk2 trivial)));clear hcut hk1 hk2
 go_enter Tryz.func70,Tryz.ntmps70
 go_wp2_with fail
 have hb0:=Blk.new w #[.string ⟨#[]⟩,.int .i64 0,.string ⟨#[]⟩,.int .i64 0] 87
 have hB0:Below w.heap.size w (w.alloc (.cells #[.string ⟨#[]⟩,.int .i64 0,.string ⟨#[]⟩,.int .i64 0] 87)):=(Below.refl _ w).alloc (Nat.le_refl _) _
 generalize w.alloc (.cells #[.string ⟨#[]⟩,.int .i64 0,.string ⟨#[]⟩,.int .i64 0] 87)=W0 at *
 have H0:=Lib.hid (And.intro hb0 hB0);clear hb0 hB0
 refine (C.out.1 _ H0.out.2).mono ?_
 rintro e w1 ⟨rfl,b⟩
 have H1:=Lib.hid (And.intro (H0.out.1.next b) (H0.out.2.trans (b.mono H0.out.2.size)));clear b H0
 go_wp2_with fail
 refine (C.out.2.1 _ H1.out.2).mono ?_
 rintro e w2 ⟨rfl,b⟩
 have H2:=Lib.hid (And.intro (H1.out.1.next b) (H1.out.2.trans (b.mono H1.out.2.size)));clear b H1
 go_wp2_with fail
 refine (C.out.2.2.1 _ H2.out.2).mono ?_
 rintro e w3 ⟨rfl,b⟩
 have H3:=Lib.hid (And.intro (H2.out.1.next b) (H2.out.2.trans (b.mono H2.out.2.size)));clear b H2
 have q0:=H3.out.1.cell 0 (.string ⟨#[]⟩) rfl
 have q1:=H3.out.1.cell 1 (.int .i64 0) rfl
 have q2:=H3.out.1.cell 2 (.string ⟨#[]⟩) rfl
 have q3:=H3.out.1.cell 3 (.int .i64 0) rfl
 have f0:=H3.out.1.free 0
 have f1:=H3.out.1.free 1
 have f2:=H3.out.1.free 2
 have f3:=H3.out.1.free 3
 have HP:=Lib.hid (H3.out.1.put4 (.string ⟨#[]⟩) (.int .i64 0) (.string ⟨#[]⟩) (.int .i64 0))
 have HL:=Lib.hid (below_put4 H3.out.2 (l:=w.heap.size) (Nat.le_refl _) (.string ⟨#[]⟩) (.int .i64 0) (.string ⟨#[]⟩) (.int .i64 0))
 have g0:=HP.out.cell 0 (.string ⟨#[]⟩) rfl
 have g1:=HP.out.cell 1 (.int .i64 0) rfl
 have g2:=HP.out.cell 2 (.string ⟨#[]⟩) rfl
 have g3:=HP.out.cell 3 (.int .i64 0) rfl
 go_wp2
 refine bodyPost_ret (v := .tuple #[.agg #[.string ⟨#[]⟩,.int .i64 0,.string ⟨#[]⟩,.int .i64 0],.int .i64 11]) (by simp [results,Tryz.results70,go_sem,g0,g1,g2,g3]) rfl ?_
 exact ⟨rfl,HL.out⟩
theorem rl_b0 (s n d:ByteArray) (c2:Int) (w:World) (a2:(c2==11)=false) (a2':(c2 != 11)=true) (hp:0<d.size) (hp':(0:Int)<d.size) (hm:((d[0].toNat:Int)==45)=false) (hm':((d[0].toNat:Int) != 45)=true) (h0:(d.toList == [48])=false) (h0':(d.toList != [48])=true) (b2:(c2==0)=false) (b2':(c2 != 0)=true)
  (hcut:CqB w 98 #[.string s] (.tuple #[.string n,.string d,.bool false]))
  (hk1:CqB w 99 #[.string n] (.int .i64 0))
  (hk2:CqB w 99 #[.string d] (.int .i64 c2)) :
  Calls Tryz.prog 70 #[.string s] w fun e W'=>e = .returned (.tuple #[.agg #[.string ⟨#[]⟩,.int .i64 0,.string ⟨#[]⟩,.int .i64 0],.int .i64 4])∧Below w.heap.size w W':=by
 have C:=Lib.hid (And.intro hcut (And.intro hk1 (And.intro hk2 trivial)));clear hcut hk1 hk2
 go_enter Tryz.func70,Tryz.ntmps70
 go_wp2_with fail
 have hb0:=Blk.new w #[.string ⟨#[]⟩,.int .i64 0,.string ⟨#[]⟩,.int .i64 0] 87
 have hB0:Below w.heap.size w (w.alloc (.cells #[.string ⟨#[]⟩,.int .i64 0,.string ⟨#[]⟩,.int .i64 0] 87)):=(Below.refl _ w).alloc (Nat.le_refl _) _
 generalize w.alloc (.cells #[.string ⟨#[]⟩,.int .i64 0,.string ⟨#[]⟩,.int .i64 0] 87)=W0 at *
 have H0:=Lib.hid (And.intro hb0 hB0);clear hb0 hB0
 refine (C.out.1 _ H0.out.2).mono ?_
 rintro e w1 ⟨rfl,b⟩
 have H1:=Lib.hid (And.intro (H0.out.1.next b) (H0.out.2.trans (b.mono H0.out.2.size)));clear b H0
 go_wp2_with fail
 refine (C.out.2.1 _ H1.out.2).mono ?_
 rintro e w2 ⟨rfl,b⟩
 have H2:=Lib.hid (And.intro (H1.out.1.next b) (H1.out.2.trans (b.mono H1.out.2.size)));clear b H1
 go_wp2_with fail
 refine (C.out.2.2.1 _ H2.out.2).mono ?_
 rintro e w3 ⟨rfl,b⟩
 have H3:=Lib.hid (And.intro (H2.out.1.next b) (H2.out.2.trans (b.mono H2.out.2.size)));clear b H2
 have q0:=H3.out.1.cell 0 (.string ⟨#[]⟩) rfl
 have q1:=H3.out.1.cell 1 (.int .i64 0) rfl
 have q2:=H3.out.1.cell 2 (.string ⟨#[]⟩) rfl
 have q3:=H3.out.1.cell 3 (.int .i64 0) rfl
 have f0:=H3.out.1.free 0
 have f1:=H3.out.1.free 1
 have f2:=H3.out.1.free 2
 have f3:=H3.out.1.free 3
 have HP:=Lib.hid (H3.out.1.put4 (.string ⟨#[]⟩) (.int .i64 0) (.string ⟨#[]⟩) (.int .i64 0))
 have HL:=Lib.hid (below_put4 H3.out.2 (l:=w.heap.size) (Nat.le_refl _) (.string ⟨#[]⟩) (.int .i64 0) (.string ⟨#[]⟩) (.int .i64 0))
 have g0:=HP.out.cell 0 (.string ⟨#[]⟩) rfl
 have g1:=HP.out.cell 1 (.int .i64 0) rfl
 have g2:=HP.out.cell 2 (.string ⟨#[]⟩) rfl
 have g3:=HP.out.cell 3 (.int .i64 0) rfl
 go_wp2
 refine bodyPost_ret (v := .tuple #[.agg #[.string ⟨#[]⟩,.int .i64 0,.string ⟨#[]⟩,.int .i64 0],.int .i64 4]) (by simp [results,Tryz.results70,go_sem,g0,g1,g2,g3]) rfl ?_
 exact ⟨rfl,HL.out⟩
theorem rl_ok2 (s n d g:ByteArray) (w:World) (hp:0<d.size) (hp':(0:Int)<d.size) (hm:((d[0].toNat:Int)==45)=false) (hm':((d[0].toNat:Int) != 45)=true) (h0:(d.toList == [48])=false) (h0':(d.toList != [48])=true) (h1:(d.toList == [49])=false)
  (hcut:CqB w 98 #[.string s] (.tuple #[.string n,.string d,.bool true]))
  (hk1:CqB w 99 #[.string n] (.int .i64 0))
  (hk2:CqB w 99 #[.string d] (.int .i64 0))
  (hdv:CqB w 100 #[.agg #[.string n,.int .i64 0],.agg #[.string d,.int .i64 0]] (.agg #[.string g,.int .i64 0]))
  (hon:CqB w 101 #[.agg #[.string g,.int .i64 0]] (.bool true)) :
  Calls Tryz.prog 70 #[.string s] w fun e W'=>e = .returned (.tuple #[.agg #[.string n,.int .i64 0,.string d,.int .i64 0],.int .i64 0])∧Below w.heap.size w W':=by
 have C:=Lib.hid (And.intro hcut (And.intro hk1 (And.intro hk2 (And.intro hdv hon))));clear hcut hk1 hk2 hdv hon
 go_enter Tryz.func70,Tryz.ntmps70
 go_wp2_with fail
 have hb0:=Blk.new w #[.string ⟨#[]⟩,.int .i64 0,.string ⟨#[]⟩,.int .i64 0] 87
 have hB0:Below w.heap.size w (w.alloc (.cells #[.string ⟨#[]⟩,.int .i64 0,.string ⟨#[]⟩,.int .i64 0] 87)):=(Below.refl _ w).alloc (Nat.le_refl _) _
 generalize w.alloc (.cells #[.string ⟨#[]⟩,.int .i64 0,.string ⟨#[]⟩,.int .i64 0] 87)=W0 at *
 have H0:=Lib.hid (And.intro hb0 hB0);clear hb0 hB0
 refine (C.out.1 _ H0.out.2).mono ?_
 rintro e w1 ⟨rfl,b⟩
 have H1:=Lib.hid (And.intro (H0.out.1.next b) (H0.out.2.trans (b.mono H0.out.2.size)));clear b H0
 go_wp2_with fail
 refine (C.out.2.1 _ H1.out.2).mono ?_
 rintro e w2 ⟨rfl,b⟩
 have H2:=Lib.hid (And.intro (H1.out.1.next b) (H1.out.2.trans (b.mono H1.out.2.size)));clear b H1
 go_wp2_with fail
 refine (C.out.2.2.1 _ H2.out.2).mono ?_
 rintro e w3 ⟨rfl,b⟩
 have H3:=Lib.hid (And.intro (H2.out.1.next b) (H2.out.2.trans (b.mono H2.out.2.size)));clear b H2
 have H4:=Lib.hid (show Blk (w3.alloc (.cells #[.string n,.int .i64 0,.string d,.int .i64 0] 87)) w.heap.size #[.string ⟨#[]⟩,.int .i64 0,.string ⟨#[]⟩,.int .i64 0]∧Below w.heap.size w (w3.alloc (.cells #[.string n,.int .i64 0,.string d,.int .i64 0] 87))∧Blk (w3.alloc (.cells #[.string n,.int .i64 0,.string d,.int .i64 0] 87)) w3.heap.size #[.string n,.int .i64 0,.string d,.int .i64 0]∧w.heap.size<w3.heap.size from ⟨H3.out.1.alloc _,H3.out.2.alloc H3.out.2.size _,Blk.new w3 _ _,H3.out.1.lt⟩)
 have e0:=H4.out.2.2.1.cell 0 (.string n) rfl
 have e1:=H4.out.2.2.1.cell 1 (.int .i64 0) rfl
 have e2:=H4.out.2.2.1.cell 2 (.string d) rfl
 have e3:=H4.out.2.2.1.cell 3 (.int .i64 0) rfl
 go_wp2_with fail
 generalize w3.alloc (.cells #[.string n,.int .i64 0,.string d,.int .i64 0] 87)=w4 at *
 generalize w3.heap.size=j at *
 clear e0 e1 e2 e3 H3
 refine (C.out.2.2.2.1 _ H4.out.2.1).mono ?_
 rintro e w5 ⟨rfl,b⟩
 have H5:=Lib.hid (And.intro (H4.out.1.next b) (And.intro (H4.out.2.1.trans (b.mono H4.out.2.1.size)) (H4.out.2.2.1.next b)));clear b H4
 go_wp2_with fail
 refine (C.out.2.2.2.2 _ H5.out.2.1).mono ?_
 rintro e w6 ⟨rfl,b⟩
 have H6:=Lib.hid (And.intro (H5.out.1.next b) (H5.out.2.1.trans (b.mono H5.out.2.1.size)))
 have H7:=Lib.hid (H5.out.2.2.next b);clear b H5
 have e0:=H7.out.cell 0 (.string n) rfl
 have e1:=H7.out.cell 1 (.int .i64 0) rfl
 have e2:=H7.out.cell 2 (.string d) rfl
 have e3:=H7.out.cell 3 (.int .i64 0) rfl
 have q0:=H6.out.1.cell 0 (.string ⟨#[]⟩) rfl
 have q1:=H6.out.1.cell 1 (.int .i64 0) rfl
 have q2:=H6.out.1.cell 2 (.string ⟨#[]⟩) rfl
 have q3:=H6.out.1.cell 3 (.int .i64 0) rfl
 have f0:=H6.out.1.free 0
 have f1:=H6.out.1.free 1
 have f2:=H6.out.1.free 2
 have f3:=H6.out.1.free 3
 have HP:=Lib.hid (H6.out.1.put4 (.string n) (.int .i64 0) (.string d) (.int .i64 0))
 have HL:=Lib.hid (below_put4 H6.out.2 (l:=w.heap.size) (Nat.le_refl _) (.string n) (.int .i64 0) (.string d) (.int .i64 0))
 have g0:=HP.out.cell 0 (.string n) rfl
 have g1:=HP.out.cell 1 (.int .i64 0) rfl
 have g2:=HP.out.cell 2 (.string d) rfl
 have g3:=HP.out.cell 3 (.int .i64 0) rfl
 go_wp2
 refine bodyPost_ret (v := .tuple #[.agg #[.string n,.int .i64 0,.string d,.int .i64 0],.int .i64 0]) (by simp [results,Tryz.results70,go_sem,g0,g1,g2,g3]) rfl ?_
 exact ⟨rfl,HL.out⟩
end Go.Proofs.YtjdfjgfdbgmbiaaGreatDoor
