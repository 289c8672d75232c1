/- Parts of the proof of the text YtpkloolckbhdaaaGreatDoorQT38. -/
import Derived.Test.YtpkloolckbhdaaaGreatDoorQT1
import Derived.Test.YtpkloolckbhdaaaGreatDoorQT14
import Derived.Test.YtpkloolckbhdaaaGreatDoorQT16
import Derived.Test.YtpkloolckbhdaaaGreatDoorQT17
import Derived.Test.YtpkloolckbhdaaaGreatDoorQT20
import Derived.Test.YtpkloolckbhdaaaGreatDoorQT21
import Derived.Test.YtpkloolckbhdaaaGreatDoorQT7
set_option linter.all false
set_option maxRecDepth 100000
set_option maxHeartbeats 8000000
namespace Go.Proofs.YtpkloolckbhdaaaGreatDoor
open Go.RowKit
theorem computeN_short (ks kl:FuncId) (p q:Nat) (a b:ByteArray) (x0 x1 y0 y1:Int) (r:ByteArray) (w:World)
  (hm:CqB w 90 #[.string a,.string b] (.tuple #[.agg #[.int .i64 x0,.int .i64 x1],.agg #[.int .i64 y0,.int .i64 y1],.bool true]))
  (es:∀ args W,(callFunc ks args).run Tryz.prog W = .ok (.enter ks args) W)
  (hs:CqB w ks #[.agg #[.int .i64 x0,.int .i64 x1],.agg #[.int .i64 y0,.int .i64 y1],.pointer (some ⟨p,0,none⟩)] (.tuple #[.string r,.int .i64 0])) :
  Calls Tryz.prog 46 #[.string a,.string b,(.func (.func ks) #[] #[.pointer (some ⟨p,0,none⟩)]),(.func (.func kl) #[] #[.pointer (some ⟨q,0,none⟩)])] w fun e W'=>e = .returned (.tuple #[.string r,.int .i64 0])∧Below w.heap.size w W':=by
 have C:=Lib.hid ((And.intro hm (And.intro hs trivial)));clear hm hs
 go_enter Tryz.func46,Tryz.ntmps46
 go_wp2_with fail
 refine (C.out.1 _ (Below.refl _ _)).mono ?_
 rintro e w1 ⟨rfl,b⟩
 have q0:=(Blk.new w1 #[.int .i64 x0,.int .i64 x1] 105).alloc (.cells #[.int .i64 y0,.int .i64 y1] 105)
 have q1:=Blk.new (w1.alloc (.cells #[.int .i64 x0,.int .i64 x1] 105)) #[.int .i64 y0,.int .i64 y1] 105
 rw [World.size_alloc] at q1
 have c0:=q0.cell 0 (.int .i64 x0) rfl
 have c1:=q0.cell 1 (.int .i64 x1) rfl
 have c2:=q1.cell 0 (.int .i64 y0) rfl
 have c3:=q1.cell 1 (.int .i64 y1) rfl
 have hB:=(b.alloc b.size (.cells #[.int .i64 x0,.int .i64 x1] 105)).alloc (by have:=b.size;simp;omega) (.cells #[.int .i64 y0,.int .i64 y1] 105)
 clear q0 q1
 go_wp2_with fail
 generalize (w1.alloc (.cells #[.int .i64 x0,.int .i64 x1] 105)).alloc (.cells #[.int .i64 y0,.int .i64 y1] 105)=w2 at *
 have H2:=Lib.hid hB;clear hB b c0 c1 c2 c3
 refine (C.out.2.1 _ H2.out).mono ?_
 rintro e w3 ⟨rfl,b⟩
 have H3:=Lib.hid (H2.out.trans (b.mono H2.out.size));clear b H2
 go_wp2
 go_ret2
 exact ⟨rfl,H3.out⟩
theorem computeN_both (ks kl:FuncId) (p q:Nat) (a b:ByteArray) (x0 x1 y0 y1:Int) (n d m f:ByteArray) (r' r:ByteArray) (e' e0:Int) (w:World) (n1:(e'==0)=false) (n2:(e' != 0)=true)
  (hm:CqB w 90 #[.string a,.string b] (.tuple #[.agg #[.int .i64 x0,.int .i64 x1],.agg #[.int .i64 y0,.int .i64 y1],.bool true]))
  (es:∀ args W,(callFunc ks args).run Tryz.prog W = .ok (.enter ks args) W)
  (hs:CqB w ks #[.agg #[.int .i64 x0,.int .i64 x1],.agg #[.int .i64 y0,.int .i64 y1],.pointer (some ⟨p,0,none⟩)] (.tuple #[.string r',.int .i64 e']))
  (hra:CqB w 70 #[.string a] (.tuple #[.agg #[.string n,.int .i64 0,.string d,.int .i64 0],.int .i64 0]))
  (hrb:CqB w 70 #[.string b] (.tuple #[.agg #[.string m,.int .i64 0,.string f,.int .i64 0],.int .i64 0]))
  (el:∀ args W,(callFunc kl args).run Tryz.prog W = .ok (.enter kl args) W)
  (hl:CqB w kl #[.agg #[.string n,.int .i64 0,.string d,.int .i64 0],.agg #[.string m,.int .i64 0,.string f,.int .i64 0],.pointer (some ⟨q,0,none⟩)] (.tuple #[.string r,.int .i64 e0])) :
  Calls Tryz.prog 46 #[.string a,.string b,(.func (.func ks) #[] #[.pointer (some ⟨p,0,none⟩)]),(.func (.func kl) #[] #[.pointer (some ⟨q,0,none⟩)])] w fun e W'=>e = .returned (.tuple #[.string r,.int .i64 e0])∧Below w.heap.size w W':=by
 have C:=Lib.hid ((And.intro hm (And.intro hs (And.intro hra (And.intro hrb hl)))));clear hm hs hra hrb hl
 go_enter Tryz.func46,Tryz.ntmps46
 go_wp2_with fail
 refine (C.out.1 _ (Below.refl _ _)).mono ?_
 rintro e w1 ⟨rfl,b⟩
 have q0:=(Blk.new w1 #[.int .i64 x0,.int .i64 x1] 105).alloc (.cells #[.int .i64 y0,.int .i64 y1] 105)
 have q1:=Blk.new (w1.alloc (.cells #[.int .i64 x0,.int .i64 x1] 105)) #[.int .i64 y0,.int .i64 y1] 105
 rw [World.size_alloc] at q1
 have c0:=q0.cell 0 (.int .i64 x0) rfl
 have c1:=q0.cell 1 (.int .i64 x1) rfl
 have c2:=q1.cell 0 (.int .i64 y0) rfl
 have c3:=q1.cell 1 (.int .i64 y1) rfl
 have hB:=(b.alloc b.size (.cells #[.int .i64 x0,.int .i64 x1] 105)).alloc (by have:=b.size;simp;omega) (.cells #[.int .i64 y0,.int .i64 y1] 105)
 clear q0 q1
 go_wp2_with fail
 generalize (w1.alloc (.cells #[.int .i64 x0,.int .i64 x1] 105)).alloc (.cells #[.int .i64 y0,.int .i64 y1] 105)=w2 at *
 have H2:=Lib.hid hB;clear hB b c0 c1 c2 c3
 refine (C.out.2.1 _ H2.out).mono ?_
 rintro e w3 ⟨rfl,b⟩
 have H3:=Lib.hid (H2.out.trans (b.mono H2.out.size));clear b H2
 go_wp2_with fail
 refine (C.out.2.2.1 _ H3.out).mono ?_
 rintro e w4 ⟨rfl,b⟩
 have H4:=Lib.hid (H3.out.trans (b.mono H3.out.size));clear b H3
 go_wp2_with fail
 have q0:=Blk.new w4 #[.string n,.int .i64 0,.string d,.int .i64 0] 109
 have hB:=H4.out.alloc H4.out.size (.cells #[.string n,.int .i64 0,.string d,.int .i64 0] 109)
 generalize w4.alloc (.cells #[.string n,.int .i64 0,.string d,.int .i64 0] 109)=w5 at *
 generalize w4.heap.size=j at *
 have H5:=Lib.hid (And.intro hB q0);clear hB q0 H4
 refine (C.out.2.2.2.1 _ H5.out.1).mono ?_
 rintro e w6 ⟨rfl,b⟩
 have q0:=(H5.out.2.next b).alloc (.cells #[.string m,.int .i64 0,.string f,.int .i64 0] 109)
 have q1:=Blk.new w6 #[.string m,.int .i64 0,.string f,.int .i64 0] 109
 have hB:=(H5.out.1.trans (b.mono H5.out.1.size)).alloc (Nat.le_trans H5.out.1.size b.size) (.cells #[.string m,.int .i64 0,.string f,.int .i64 0] 109)
 have c0:=q0.cell 0 (.string n) rfl
 have c1:=q0.cell 1 (.int .i64 0) rfl
 have c2:=q0.cell 2 (.string d) rfl
 have c3:=q0.cell 3 (.int .i64 0) rfl
 have c4:=q1.cell 0 (.string m) rfl
 have c5:=q1.cell 1 (.int .i64 0) rfl
 have c6:=q1.cell 2 (.string f) rfl
 have c7:=q1.cell 3 (.int .i64 0) rfl
 clear b H5 q0 q1
 go_wp2_with fail
 generalize w6.alloc (.cells #[.string m,.int .i64 0,.string f,.int .i64 0] 109)=w7 at *
 have H7:=Lib.hid hB;clear hB c0 c1 c2 c3 c4 c5 c6 c7
 refine (C.out.2.2.2.2 _ H7.out).mono ?_
 rintro e w8 ⟨rfl,b⟩
 have H8:=Lib.hid (H7.out.trans (b.mono H7.out.size));clear b H7
 go_wp2
 go_ret2
 exact ⟨rfl,H8.out⟩
theorem computeN_long (ks kl:FuncId) (p q:Nat) (a b:ByteArray) (n d m f:ByteArray) (r:ByteArray) (e0:Int) (w:World)
  (hm:∀ W,Below w.heap.size w W→Calls Tryz.prog 90 #[.string a,.string b] W fun e W'=>(∃ x y z u,e = .returned (.tuple #[.agg #[.int .i64 x,.int .i64 y],.agg #[.int .i64 z,.int .i64 u],.bool false]))∧Below W.heap.size W W')
  (hra:CqB w 70 #[.string a] (.tuple #[.agg #[.string n,.int .i64 0,.string d,.int .i64 0],.int .i64 0]))
  (hrb:CqB w 70 #[.string b] (.tuple #[.agg #[.string m,.int .i64 0,.string f,.int .i64 0],.int .i64 0]))
  (el:∀ args W,(callFunc kl args).run Tryz.prog W = .ok (.enter kl args) W)
  (hl:CqB w kl #[.agg #[.string n,.int .i64 0,.string d,.int .i64 0],.agg #[.string m,.int .i64 0,.string f,.int .i64 0],.pointer (some ⟨q,0,none⟩)] (.tuple #[.string r,.int .i64 e0])) :
  Calls Tryz.prog 46 #[.string a,.string b,(.func (.func ks) #[] #[.pointer (some ⟨p,0,none⟩)]),(.func (.func kl) #[] #[.pointer (some ⟨q,0,none⟩)])] w fun e W'=>e = .returned (.tuple #[.string r,.int .i64 e0])∧Below w.heap.size w W':=by
 have C:=Lib.hid ((And.intro hm (And.intro hra (And.intro hrb hl))));clear hm hra hrb hl
 go_enter Tryz.func46,Tryz.ntmps46
 go_wp2_with fail
 refine (C.out.1 _ (Below.refl _ _)).mono ?_
 rintro e w1 ⟨⟨x,y,z,u,rfl⟩,b⟩
 go_wp2_with fail
 have H3:=Lib.hid ((b.alloc b.size (.cells #[.int .i64 x,.int .i64 y] 105)).alloc (by have:=b.size;simp;omega) (.cells #[.int .i64 z,.int .i64 u] 105));clear b
 generalize (w1.alloc (.cells #[.int .i64 x,.int .i64 y] 105)).alloc (.cells #[.int .i64 z,.int .i64 u] 105)=w3 at *
 go_wp2_with fail
 refine (C.out.2.1 _ H3.out).mono ?_
 rintro e w4 ⟨rfl,b⟩
 have H4:=Lib.hid (H3.out.trans (b.mono H3.out.size));clear b H3
 go_wp2_with fail
 have q0:=Blk.new w4 #[.string n,.int .i64 0,.string d,.int .i64 0] 109
 have hB:=H4.out.alloc H4.out.size (.cells #[.string n,.int .i64 0,.string d,.int .i64 0] 109)
 generalize w4.alloc (.cells #[.string n,.int .i64 0,.string d,.int .i64 0] 109)=w5 at *
 generalize w4.heap.size=j at *
 have H5:=Lib.hid (And.intro hB q0);clear hB q0 H4
 refine (C.out.2.2.1 _ H5.out.1).mono ?_
 rintro e w6 ⟨rfl,b⟩
 have q0:=(H5.out.2.next b).alloc (.cells #[.string m,.int .i64 0,.string f,.int .i64 0] 109)
 have q1:=Blk.new w6 #[.string m,.int .i64 0,.string f,.int .i64 0] 109
 have hB:=(H5.out.1.trans (b.mono H5.out.1.size)).alloc (Nat.le_trans H5.out.1.size b.size) (.cells #[.string m,.int .i64 0,.string f,.int .i64 0] 109)
 have c0:=q0.cell 0 (.string n) rfl
 have c1:=q0.cell 1 (.int .i64 0) rfl
 have c2:=q0.cell 2 (.string d) rfl
 have c3:=q0.cell 3 (.int .i64 0) rfl
 have c4:=q1.cell 0 (.string m) rfl
 have c5:=q1.cell 1 (.int .i64 0) rfl
 have c6:=q1.cell 2 (.string f) rfl
 have c7:=q1.cell 3 (.int .i64 0) rfl
 clear b H5 q0 q1
 go_wp2_with fail
 generalize w6.alloc (.cells #[.string m,.int .i64 0,.string f,.int .i64 0] 109)=w7 at *
 have H7:=Lib.hid hB;clear hB c0 c1 c2 c3 c4 c5 c6 c7
 refine (C.out.2.2.2 _ H7.out).mono ?_
 rintro e w8 ⟨rfl,b⟩
 have H8:=Lib.hid (H7.out.trans (b.mono H7.out.size));clear b H7
 go_wp2
 go_ret2
 exact ⟨rfl,H8.out⟩
theorem lowestM_n1 (n d n' d':Int) (en : -n=n') (ed : -d=d') (w:World) (n0 : -9223372036854775808<n) (n1:n≤9223372036854775807) (d0 : -9223372036854775808<d) (d1:d≤9223372036854775807) (hd:d<0) (hg:gcdZ n' d'=1) (ht:Tab w) (ht2:Tab64 w) :
  Calls Tryz.prog 92 #[.agg #[.int .i64 n,.int .i64 d]] w fun e W'=>e = .returned (.tuple #[.string (strT n' d'),.int .i64 0])∧Below w.heap.size w W':=by
 have cf:=fun W=>fitM_any n d W
 rw [if_neg (show ¬ (n=tooL∨d=tooL) by unfold tooL;omega)] at cf
 have cn:=fun W=>mach_neg d W
 rw [decide_eq_true hd] at cn
 have co1:=fun W=>still (mach_opp n W n0 n1)
 have co2:=fun W=>still (mach_opp d W d0 d1)
 rw [en] at co1
 rw [ed] at co2
 have cg:=fun W (hW:Below w.heap.size w W)=>mach_divisor n' d' W (by omega) (by omega) (by omega) (by omega) (TabQ_next ht2 hW)
 have c1:=fun W=>mach_one (gcdZ n' d') W
 rw [show (gcdZ n' d'==1)=true by simpa using hg] at c1
 have cv1:=trivial
 have cv2:=trivial
 have ct:=fun W (hW:Below w.heap.size w W)=>textM_any n' d' W (by omega) (by omega) (by omega) (by omega) (ht.next hW)
 have C:=Lib.hid (And.intro cf (And.intro cn (And.intro co1 (And.intro co2 (And.intro cg (And.intro c1 (And.intro cv1 (And.intro cv2 ct))))))))
 clear en ed cf cn co1 co2 cg c1 cv1 cv2 ct ht ht2 n0 n1 d0 d1 hd hg
 rw [show ((Nat.gcd (n').natAbs (d').natAbs:Nat):Int)=gcdZ n' d' from rfl] at C
 generalize gcdZ n' d'=g at *
 go_enter Tryz.func92,Tryz.ntmps92
 go_wp2_with fail
 have hb:=Cell2.new w (.int .i64 n) (.int .i64 d) 105
 generalize w.alloc (.cells #[.int .i64 n,.int .i64 d] 105)=W0 at *
 generalize hk:w.heap.size=k at *
 have HK:=Lib.hid hk;clear hk
 have HB:=Lib.hid hb;clear hb
 refine (C.out.1 _).mono ?_
 rintro e w1 ⟨rfl,b⟩
 have H1:=Lib.hid (HB.out.next b);clear b HB
 have c0:=H1.out.c0
 have c1:=H1.out.c1
 go_wp2_with fail
 refine (C.out.2.1 _).mono ?_
 rintro e w' ⟨rfl,rfl⟩
 have f0:=H1.out.f0
 have f1:=H1.out.f1
 go_wp2
 have H2:=Lib.hid (show Cell2 w k _ _ w1.drew from H1.out.next (Below.refl _ _).drew)
 clear H1
 have c0:=H2.out.c0
 have c1:=H2.out.c1
 have mt:=mth_opp
 have en1:∀ args W,(callFunc 291 args).run Tryz.prog W = .ok (.enter 291 args) W:=enters_of Tryz.func291 (by kernel_rfl) rfl
 go_still_tail 8,(by kernel_rfl)
 still_call (C.out.2.2.1 _)
 repeat still_step
 still_call (C.out.2.2.2.1 _)
 repeat still_step
 refine wpStill_nil ?_
 change wpList _ _ _ _ _ w1.drew
 clear c0 c1 f0 f1 mt en1
 generalize w1.drew=w1 at *
 have f0:=H2.out.f0
 have f1:=H2.out.f1
 have H1:=Lib.hid (H2.out.put2 (.int .i64 n') (.int .i64 d'))
 have c0:=H1.out.c0
 have c1:=H1.out.c1
 have d0:=H2.out.c0
 have d1:=H2.out.c1
 obtain ⟨g0,g1⟩:=two_back d0 d1 (.int .i64 n') (.int .i64 d')
 clear H2
 go_wp2_with fail
 clear f0 f1 d0 d1 g0 g1
 generalize (w1.setCell ⟨k,0,none⟩ (.int .i64 n')).setCell ⟨k,1,none⟩ (.int .i64 d')=w1 at *
 go_wp2_with fail
 refine (C.out.2.2.2.2.1 _ (by have:=H1.out.below;rwa [HK.out] at this)).mono ?_
 rintro e w' ⟨rfl,rfl⟩
 go_wp2_with fail
 refine (C.out.2.2.2.2.2.1 _).mono ?_
 rintro e w' ⟨rfl,rfl⟩
 go_wp2_with fail
 refine (C.out.2.2.2.2.2.2.2.2 _ (by have:=H1.out.below;rwa [HK.out] at this)).mono ?_
 rintro e w2 ⟨rfl,b⟩
 have H2:=Lib.hid (H1.out.below.trans (b.mono H1.out.below.size))
 clear b c0 c1
 go_wp2
 go_ret2
 exact ⟨rfl,by have:=H2.out;rwa [HK.out] at this ⊢⟩
theorem lowestM_ng (n d n' d':Int) (en : -n=n') (ed : -d=d') (w:World) (n0 : -9223372036854775808<n) (n1:n≤9223372036854775807) (d0 : -9223372036854775808<d) (d1:d≤9223372036854775807) (hd:d<0) (hg:¬ gcdZ n' d'=1) (ht:Tab w) (ht2:Tab64 w) :
  Calls Tryz.prog 92 #[.agg #[.int .i64 n,.int .i64 d]] w fun e W'=>e = .returned (.tuple #[.string (strT (n'.tdiv (gcdZ n' d')) (d'.tdiv (gcdZ n' d'))),.int .i64 0])∧Below w.heap.size w W':=by
 have cf:=fun W=>fitM_any n d W
 rw [if_neg (show ¬ (n=tooL∨d=tooL) by unfold tooL;omega)] at cf
 have cn:=fun W=>mach_neg d W
 rw [decide_eq_true hd] at cn
 have co1:=fun W=>still (mach_opp n W n0 n1)
 have co2:=fun W=>still (mach_opp d W d0 d1)
 rw [en] at co1
 rw [ed] at co2
 have cg:=fun W (hW:Below w.heap.size w W)=>mach_divisor n' d' W (by omega) (by omega) (by omega) (by omega) (TabQ_next ht2 hW)
 have c1:=fun W=>mach_one (gcdZ n' d') W
 rw [show (gcdZ n' d'==1)=false by simpa using hg] at c1
 have hgp:=gcdZ_pos (n:=n') (d:=d') (by omega)
 have hgl:gcdZ n' d'≤9223372036854775807:=by
  have:gcdZ n' d'≤d':=Int.le_of_dvd (by omega) (gcdZ_dvd n' d').2
  omega
 have bn:=tdiv_b (n:=n') hgp (by omega) (by omega)
 have bd:=tdiv_b (n:=d') hgp (by omega) (by omega)
 have cv1:=fun W=>still (mach_over n' (gcdZ n' d') W (by omega) (by omega) hgp hgl)
 have cv2:=fun W=>still (mach_over d' (gcdZ n' d') W (by omega) (by omega) hgp hgl)
 have ct:=fun W (hW:Below w.heap.size w W)=>textM_any (n'.tdiv (gcdZ n' d')) (d'.tdiv (gcdZ n' d')) W bn.1 bn.2 bd.1 bd.2 (ht.next hW)
 clear hgp hgl bn bd
 have C:=Lib.hid (And.intro cf (And.intro cn (And.intro co1 (And.intro co2 (And.intro cg (And.intro c1 (And.intro cv1 (And.intro cv2 ct))))))))
 clear en ed cf cn co1 co2 cg c1 cv1 cv2 ct ht ht2 n0 n1 d0 d1 hd hg
 rw [show ((Nat.gcd (n').natAbs (d').natAbs:Nat):Int)=gcdZ n' d' from rfl] at C
 generalize gcdZ n' d'=g at *
 go_enter Tryz.func92,Tryz.ntmps92
 go_wp2_with fail
 have hb:=Cell2.new w (.int .i64 n) (.int .i64 d) 105
 generalize w.alloc (.cells #[.int .i64 n,.int .i64 d] 105)=W0 at *
 generalize hk:w.heap.size=k at *
 have HK:=Lib.hid hk;clear hk
 have HB:=Lib.hid hb;clear hb
 refine (C.out.1 _).mono ?_
 rintro e w1 ⟨rfl,b⟩
 have H1:=Lib.hid (HB.out.next b);clear b HB
 have c0:=H1.out.c0
 have c1:=H1.out.c1
 go_wp2_with fail
 refine (C.out.2.1 _).mono ?_
 rintro e w' ⟨rfl,rfl⟩
 have f0:=H1.out.f0
 have f1:=H1.out.f1
 go_wp2
 have H2:=Lib.hid (show Cell2 w k _ _ w1.drew from H1.out.next (Below.refl _ _).drew)
 clear H1
 have c0:=H2.out.c0
 have c1:=H2.out.c1
 have mt:=mth_opp
 have en1:∀ args W,(callFunc 291 args).run Tryz.prog W = .ok (.enter 291 args) W:=enters_of Tryz.func291 (by kernel_rfl) rfl
 go_still_tail 8,(by kernel_rfl)
 still_call (C.out.2.2.1 _)
 repeat still_step
 still_call (C.out.2.2.2.1 _)
 repeat still_step
 refine wpStill_nil ?_
 change wpList _ _ _ _ _ w1.drew
 clear c0 c1 f0 f1 mt en1
 generalize w1.drew=w1 at *
 have f0:=H2.out.f0
 have f1:=H2.out.f1
 have H1:=Lib.hid (H2.out.put2 (.int .i64 n') (.int .i64 d'))
 have c0:=H1.out.c0
 have c1:=H1.out.c1
 have d0:=H2.out.c0
 have d1:=H2.out.c1
 obtain ⟨g0,g1⟩:=two_back d0 d1 (.int .i64 n') (.int .i64 d')
 clear H2
 go_wp2_with fail
 clear f0 f1 d0 d1 g0 g1
 generalize (w1.setCell ⟨k,0,none⟩ (.int .i64 n')).setCell ⟨k,1,none⟩ (.int .i64 d')=w1 at *
 go_wp2_with fail
 refine (C.out.2.2.2.2.1 _ (by have:=H1.out.below;rwa [HK.out] at this)).mono ?_
 rintro e w' ⟨rfl,rfl⟩
 go_wp2_with fail
 refine (C.out.2.2.2.2.2.1 _).mono ?_
 rintro e w' ⟨rfl,rfl⟩
 have f0:=H1.out.f0
 have f1:=H1.out.f1
 go_wp2
 have H2:=Lib.hid (show Cell2 w k _ _ w1.drew from H1.out.next (Below.refl _ _).drew)
 clear H1
 have c0:=H2.out.c0
 have c1:=H2.out.c1
 have mt:=mth_over
 have en1:∀ args W,(callFunc 292 args).run Tryz.prog W = .ok (.enter 292 args) W:=enters_of Tryz.func292 (by kernel_rfl) rfl
 go_still_tail 10,(by kernel_rfl)
 still_call (C.out.2.2.2.2.2.2.1 _)
 repeat still_step
 still_call (C.out.2.2.2.2.2.2.2.1 _)
 repeat still_step
 refine wpStill_nil ?_
 change wpList _ _ _ _ _ w1.drew
 clear c0 c1 f0 f1 mt en1
 generalize w1.drew=w1 at *
 have f0:=H2.out.f0
 have f1:=H2.out.f1
 have H1:=Lib.hid (H2.out.put2 (.int .i64 (n'.tdiv g)) (.int .i64 (d'.tdiv g)))
 have c0:=H1.out.c0
 have c1:=H1.out.c1
 have d0:=H2.out.c0
 have d1:=H2.out.c1
 obtain ⟨g0,g1⟩:=two_back d0 d1 (.int .i64 (n'.tdiv g)) (.int .i64 (d'.tdiv g))
 clear H2
 go_wp2_with fail
 clear f0 f1 d0 d1 g0 g1
 generalize (w1.setCell ⟨k,0,none⟩ (.int .i64 (n'.tdiv g))).setCell ⟨k,1,none⟩ (.int .i64 (d'.tdiv g))=w1 at *
 go_wp2_with fail
 refine (C.out.2.2.2.2.2.2.2.2 _ (by have:=H1.out.below;rwa [HK.out] at this)).mono ?_
 rintro e w2 ⟨rfl,b⟩
 have H2:=Lib.hid (H1.out.below.trans (b.mono H1.out.below.size))
 clear b c0 c1
 go_wp2
 go_ret2
 exact ⟨rfl,by have:=H2.out;rwa [HK.out] at this ⊢⟩
def lowRE (n d:Int):Int:=if n=tooL∨d=tooL then 4 else 0
theorem lowestM_any (n d:Int) (w:World) (n0 : -9223372036854775808≤n) (n1:n≤9223372036854775807) (d0 : -9223372036854775808≤d) (d1:d≤9223372036854775807) (hd:d≠0) (ht:Tab w) (ht2:Tab64 w) :
  Calls Tryz.prog 92 #[.agg #[.int .i64 n,.int .i64 d]] w fun e W'=>e = .returned (.tuple #[.string (lowR n d),.int .i64 (lowRE n d)])∧Below w.heap.size w W':=by
 by_cases h:n=tooL∨d=tooL
 ·have c:=lowestM_bad n d w h
  unfold lowR lowRE
  rw [if_pos h,if_pos h];exact c
 ·unfold lowR lowRE
  rw [if_neg h,if_neg h]
  have hn : -9223372036854775808<n:=by
   have:n≠tooL:=fun e=>h (.inl e)
   unfold tooL at this;omega
  have hd2 : -9223372036854775808<d:=by
   have:d≠tooL:=fun e=>h (.inr e)
   unfold tooL at this;omega
  rcases Int.lt_or_gt_of_ne hd with hs | hs
  ·have hp:0 < -d:=by omega
   by_cases hg:gcdZ (-n) (-d)=1
   ·have c:=lowestM_n1 n d (-n) (-d) rfl rfl w hn n1 hd2 d1 hs hg ht ht2
    rwa [low_1 hp hg,Rat.neg_divInt_neg] at c
   ·have c:=lowestM_ng n d (-n) (-d) rfl rfl w hn n1 hd2 d1 hs hg ht ht2
    rwa [low_t hp,Rat.neg_divInt_neg] at c
  ·by_cases hg:gcdZ n d=1
   ·have c:=lowestM_p1 n d w hn n1 hd2 d1 hs hg ht ht2
    rwa [low_1 hs hg] at c
   ·have c:=lowestM_pg n d w hn n1 hd2 d1 hs hg ht ht2
    rwa [low_t hs] at c
theorem lowestL_gcd (n d N D:Int) (o:Bool) (w:World) (hn:short n) (hd:short d) (hN:short N) (hD:short D) (hs:0<D) (ho:decide (d<0)=o) (hS:(o=true∧N = -n∧D = -d)∨(o=false∧N=n∧D=d)) (hg:¬ gcdZ N D=1) (ht:Tab w) :
  Calls Tryz.prog 94 #[.agg #[.string (strB n),.int .i64 0,.string (strB d),.int .i64 0]] w fun e W'=>e = .returned (.tuple #[.string (strT (N.fdiv (gcdZ N D)) (D.fdiv (gcdZ N D))),.int .i64 0])∧Below w.heap.size w W':=by
 have cf:∀ W,Calls Tryz.prog 96 #[.agg #[.string (strB n),.int .i64 0,.string (strB d),.int .i64 0]] W fun e W'=>e = .returned (.int .i64 0)∧Below W.heap.size W W':=fun W=>fitL_some n (some d) W
 have cn:=fun W=>long_neg d W
 rw [ho] at cn
 have co1:=fun W (hW:Below w.heap.size w W)=>long_opp1 n W hn (ht.next hW)
 have co2:=fun W (hW:Below w.heap.size w W)=>long_opp1 d W hd (ht.next hW)
 have cg:=fun W (hW:Below w.heap.size w W)=>long_div1 N D W hN hD (ht.next hW)
 have c1:=fun W=>long_one (gcdZ N D) W
 rw [show (decide (gcdZ N D=1))=false by simpa using hg] at c1
 have hgp:=gcdZ_pos (n:=N) (d:=D) (by omega)
 have hgs:=gcdZ_short hN hD
 have cv1:=fun W (hW:Below w.heap.size w W)=>long_over1 N (gcdZ N D) W hN hgs (by omega) (ht.next hW)
 have cv2:=fun W (hW:Below w.heap.size w W)=>long_over1 D (gcdZ N D) W hD hgs (by omega) (ht.next hW)
 have ct:=fun W (_:Below w.heap.size w W)=>textL_any (N.fdiv (gcdZ N D)) (D.fdiv (gcdZ N D)) W (fdiv_short hN (by omega)) (fdiv_short hD (by omega))
 clear hgp hgs
 have hT:(o=true∧strB (-n)=strB N∧strB (-d)=strB D)∨(o=false∧strB n=strB N∧strB d=strB D):=by
  rcases hS with ⟨h1,h2,h3⟩ | ⟨h1,h2,h3⟩
  ·exact .inl ⟨h1,by rw [h2],by rw [h3]⟩
  ·exact .inr ⟨h1,by rw [h2],by rw [h3]⟩
 have C:=Lib.hid (And.intro cf (And.intro cn (And.intro co1 (And.intro co2 (And.intro cg (And.intro c1 (And.intro cv1 (And.intro cv2 ct))))))))
 clear cf cn co1 co2 cg c1 cv1 cv2 ct ht hn hd hN hD hs hg ho hS
 generalize strT (N.fdiv (gcdZ N D)) (D.fdiv (gcdZ N D))=res at *
 generalize strB (N.fdiv (gcdZ N D))=qn at *
 generalize strB (D.fdiv (gcdZ N D))=qd at *
 generalize strB (gcdZ N D)=sg at *
 generalize strB (-n)=mn at *
 generalize strB (-d)=md at *
 generalize strB N=tn at *
 generalize strB D=td at *
 generalize strB n=sn at *
 generalize strB d=sd at *
 go_enter Tryz.func94,Tryz.ntmps94
 go_wp2_with fail
 have hb:BB w w.heap.size #[.string sn,.int .i64 0,.string sd,.int .i64 0] (w.alloc (.cells #[.string sn,.int .i64 0,.string sd,.int .i64 0] 109)):=BB.new w _ _
 generalize w.alloc (.cells #[.string sn,.int .i64 0,.string sd,.int .i64 0] 109)=W0 at *
 generalize hk:w.heap.size=k at *
 have HK:=Lib.hid hk;clear hk
 have HB:=Lib.hid hb;clear hb
 refine (C.out.1 _).mono ?_
 rintro e w1 ⟨rfl,b⟩
 have H1:=Lib.hid (HB.out.next b);clear b HB
 have c0:=H1.out.blk.cell 0 (.string sn) rfl;have c1:=H1.out.blk.cell 1 (.int .i64 0) rfl;have c2:=H1.out.blk.cell 2 (.string sd) rfl;have c3:=H1.out.blk.cell 3 (.int .i64 0) rfl
 go_wp2_with fail
 refine (C.out.2.1 _).mono ?_
 rintro e w2 ⟨rfl,b⟩
 have H2:=Lib.hid (H1.out.next b);clear b H1;have H1:=H2;clear H2
 clear c0 c1 c2 c3
 go_upto_if 14 with fail
 go_cut [] from 15 to 23 (fun wx=>BB w k #[.string tn,.int .i64 0,.string td,.int .i64 0] wx)
 case first =>
  rcases hT with ⟨rfl,rfl,rfl⟩ | ⟨rfl,rfl,rfl⟩
  ·have c0:=H1.out.blk.cell 0 (.string sn) rfl;have c1:=H1.out.blk.cell 1 (.int .i64 0) rfl;have c2:=H1.out.blk.cell 2 (.string sd) rfl;have c3:=H1.out.blk.cell 3 (.int .i64 0) rfl
   have f0:=H1.out.blk.free 0;have f1:=H1.out.blk.free 1;have f2:=H1.out.blk.free 2;have f3:=H1.out.blk.free 3
   go_wp2_with fail
   skip
   have HD:=Lib.hid (H1.out.next (Below.refl _ _).drew);clear H1;have H1:=HD;clear HD
   have c0:=H1.out.blk.cell 0 (.string sn) rfl;have c1:=H1.out.blk.cell 1 (.int .i64 0) rfl;have c2:=H1.out.blk.cell 2 (.string sd) rfl;have c3:=H1.out.blk.cell 3 (.int .i64 0) rfl
   have f0:=H1.out.blk.free 0;have f1:=H1.out.blk.free 1;have f2:=H1.out.blk.free 2;have f3:=H1.out.blk.free 3
   go_region_with (first | (go_at_call 304;refine (C.out.2.2.1 _ (by have:=H1.out.below;rwa [HK.out] at this)).mono ?_;rintro e wr ⟨rfl,hbw⟩;have HN:=Lib.hid (H1.out.next hbw);clear H1 hbw;have H1:=HN;clear HN;have c0:=H1.out.blk.cell 0 (.string sn) rfl;have c1:=H1.out.blk.cell 1 (.int .i64 0) rfl;have c2:=H1.out.blk.cell 2 (.string sd) rfl;have c3:=H1.out.blk.cell 3 (.int .i64 0) rfl;have f0:=H1.out.blk.free 0;have f1:=H1.out.blk.free 1;have f2:=H1.out.blk.free 2;have f3:=H1.out.blk.free 3) | (go_at_call 304;refine (C.out.2.2.2.1 _ (by have:=H1.out.below;rwa [HK.out] at this)).mono ?_;rintro e wr ⟨rfl,hbw⟩;have HN:=Lib.hid (H1.out.next hbw);clear H1 hbw;have H1:=HN;clear HN;have c0:=H1.out.blk.cell 0 (.string sn) rfl;have c1:=H1.out.blk.cell 1 (.int .i64 0) rfl;have c2:=H1.out.blk.cell 2 (.string sd) rfl;have c3:=H1.out.blk.cell 3 (.int .i64 0) rfl;have f0:=H1.out.blk.free 0;have f1:=H1.out.blk.free 1;have f2:=H1.out.blk.free 2;have f3:=H1.out.blk.free 3))
   all_goals
    have HP:=Lib.hid (H1.out.put4 (.string mn) (.int .i64 0) (.string md) (.int .i64 0))
    go_wp2_with fail
    go_meet
    exact HP.out
  ·go_wp2_with fail
   go_meet
   exact H1.out
 case rest =>
 clear H1
 have H1:=Lib.hid hcut;clear hcut hT
 have c0:=H1.out.blk.cell 0 (.string tn) rfl;have c1:=H1.out.blk.cell 1 (.int .i64 0) rfl;have c2:=H1.out.blk.cell 2 (.string td) rfl;have c3:=H1.out.blk.cell 3 (.int .i64 0) rfl
 go_wp2_with fail
 refine (C.out.2.2.2.2.1 _ (by have:=H1.out.below;rwa [HK.out] at this)).mono ?_
 rintro e w3 ⟨rfl,b⟩
 have H2:=Lib.hid (H1.out.next b);clear b H1;have H1:=H2;clear H2
 have c0:=H1.out.blk.cell 0 (.string tn) rfl;have c1:=H1.out.blk.cell 1 (.int .i64 0) rfl;have c2:=H1.out.blk.cell 2 (.string td) rfl;have c3:=H1.out.blk.cell 3 (.int .i64 0) rfl
 go_wp2_with fail
 have HM:=Lib.hid (Blk.new w3 #[.string sg,.int .i64 0] 88)
 have H2:=Lib.hid (H1.out.next ((Below.refl _ w3).alloc (Nat.le_refl _) (.cells #[.string sg,.int .i64 0] 88)))
 have hkj:k≠w3.heap.size:=by have:=H1.out.blk.lt;omega
 clear H1 c0 c1 c2 c3;have H1:=H2;clear H2
 generalize w3.alloc (.cells #[.string sg,.int .i64 0] 88)=w3' at *
 generalize w3.heap.size=j at *
 refine (C.out.2.2.2.2.2.1 _).mono ?_
 rintro e w4 ⟨rfl,b⟩
 have H2:=Lib.hid (H1.out.next b);clear H1;have H1:=H2;clear H2
 have HM2:=Lib.hid (HM.out.next b);clear HM b;have HM:=HM2;clear HM2
 have c0:=H1.out.blk.cell 0 (.string tn) rfl;have c1:=H1.out.blk.cell 1 (.int .i64 0) rfl;have c2:=H1.out.blk.cell 2 (.string td) rfl;have c3:=H1.out.blk.cell 3 (.int .i64 0) rfl
 have f0:=H1.out.blk.free 0;have f1:=H1.out.blk.free 1;have f2:=H1.out.blk.free 2;have f3:=H1.out.blk.free 3
 have m0:=HM.out.cell 0 (.string sg) rfl;have m1:=HM.out.cell 1 (.int .i64 0) rfl
 go_upto_region 8 with fail
 go_cut [] from 34 to 44 (fun wx=>BB w k #[.string qn,.int .i64 0,.string qd,.int .i64 0] wx)
 case first =>
  have HMN:=Lib.hid (HM.out.next (Below.refl _ _).drew);clear HM;have HM:=HMN;clear HMN;have m0:=HM.out.cell 0 (.string sg) rfl;have m1:=HM.out.cell 1 (.int .i64 0) rfl
  have HD:=Lib.hid (H1.out.next (Below.refl _ _).drew);clear H1;have H1:=HD;clear HD
  have c0:=H1.out.blk.cell 0 (.string tn) rfl;have c1:=H1.out.blk.cell 1 (.int .i64 0) rfl;have c2:=H1.out.blk.cell 2 (.string td) rfl;have c3:=H1.out.blk.cell 3 (.int .i64 0) rfl
  have f0:=H1.out.blk.free 0;have f1:=H1.out.blk.free 1;have f2:=H1.out.blk.free 2;have f3:=H1.out.blk.free 3
  go_region_with (first | (go_at_call 305;refine (C.out.2.2.2.2.2.2.1 _ (by have:=H1.out.below;rwa [HK.out] at this)).mono ?_;rintro e wr ⟨rfl,hbw⟩;have HMN:=Lib.hid (HM.out.next hbw);clear HM;have HM:=HMN;clear HMN;have m0:=HM.out.cell 0 (.string sg) rfl;have m1:=HM.out.cell 1 (.int .i64 0) rfl;have HN:=Lib.hid (H1.out.next hbw);clear H1 hbw;have H1:=HN;clear HN;have c0:=H1.out.blk.cell 0 (.string tn) rfl;have c1:=H1.out.blk.cell 1 (.int .i64 0) rfl;have c2:=H1.out.blk.cell 2 (.string td) rfl;have c3:=H1.out.blk.cell 3 (.int .i64 0) rfl;have f0:=H1.out.blk.free 0;have f1:=H1.out.blk.free 1;have f2:=H1.out.blk.free 2;have f3:=H1.out.blk.free 3) | (go_at_call 305;refine (C.out.2.2.2.2.2.2.2.1 _ (by have:=H1.out.below;rwa [HK.out] at this)).mono ?_;rintro e wr ⟨rfl,hbw⟩;have HMN:=Lib.hid (HM.out.next hbw);clear HM;have HM:=HMN;clear HMN;have m0:=HM.out.cell 0 (.string sg) rfl;have m1:=HM.out.cell 1 (.int .i64 0) rfl;have HN:=Lib.hid (H1.out.next hbw);clear H1 hbw;have H1:=HN;clear HN;have c0:=H1.out.blk.cell 0 (.string tn) rfl;have c1:=H1.out.blk.cell 1 (.int .i64 0) rfl;have c2:=H1.out.blk.cell 2 (.string td) rfl;have c3:=H1.out.blk.cell 3 (.int .i64 0) rfl;have f0:=H1.out.blk.free 0;have f1:=H1.out.blk.free 1;have f2:=H1.out.blk.free 2;have f3:=H1.out.blk.free 3))
  all_goals
   have HP:=Lib.hid (H1.out.put4 (.string qn) (.int .i64 0) (.string qd) (.int .i64 0))
   go_wp2_with fail
   go_meet
   exact HP.out
 case rest =>
 clear H1 c0 c1 c2 c3 f0 f1 f2 f3 HM m0 m1
 have H1:=Lib.hid hcut;clear hcut
 have c0:=H1.out.blk.cell 0 (.string qn) rfl;have c1:=H1.out.blk.cell 1 (.int .i64 0) rfl;have c2:=H1.out.blk.cell 2 (.string qd) rfl;have c3:=H1.out.blk.cell 3 (.int .i64 0) rfl
 go_wp2_with fail
 refine (C.out.2.2.2.2.2.2.2.2 _ (by have:=H1.out.below;rwa [HK.out] at this)).mono ?_
 rintro e w5 ⟨rfl,b⟩
 have H2:=Lib.hid (H1.out.below.trans (b.mono H1.out.below.size))
 clear b c0 c1 c2 c3
 go_wp2
 go_ret2
 exact ⟨rfl,by have:=H2.out;rwa [HK.out] at this ⊢⟩
def lowOB:Option Int→Option Int→ByteArray
 | some n,some d=>strQ (Rat.divInt n d)
 | _,_=>⟨#[]⟩
def lowOE:Option Int→Option Int→Int
 | some _,some _=>0
 | _,_=>4
theorem lowestL_any (o p:Option Int) (w:World) (ho:Lwf o) (hp:Lwf p) (h0:p≠some 0) (ht:Tab w) :
  Calls Tryz.prog 94 #[.agg #[.string (LB o),.int .i64 (LE o),.string (LB p),.int .i64 (LE p)]] w fun e W'=>e = .returned (.tuple #[.string (lowOB o p),.int .i64 (lowOE o p)])∧Below w.heap.size w W':=by
 cases o with
 | none=>exact lowestL_bad none p w (.inl rfl)
 | some n =>
  cases p with
  | none=>exact lowestL_bad (some n) none w (.inr rfl)
  | some d =>
   have hn:=ho n rfl
   have hd:=hp d rfl
   have hz:d≠0:=fun e=>h0 (by rw [e])
   show Calls _ _ _ _ (fun e W'=>e = .returned (.tuple #[.string (strQ (Rat.divInt n d)),.int .i64 0])∧_)
   have key:∀ (N D:Int) (o:Bool),short N→short D→0<D→decide (d<0)=o→((o=true∧N = -n∧D = -d)∨(o=false∧N=n∧D=d))→Calls Tryz.prog 94 #[.agg #[.string (strB n),.int .i64 0,.string (strB d),.int .i64 0]] w fun e W'=>e = .returned (.tuple #[.string (strQ (Rat.divInt N D)),.int .i64 0])∧Below w.heap.size w W':=by
    intro N D o hN hD hs ho hS
    by_cases hg:gcdZ N D=1
    ·have c:=lowestL_one n d N D o w hn hd hN hD hs ho hS hg ht
     rw [low_1 hs hg] at c;exact c
    ·have c:=lowestL_gcd n d N D o w hn hd hN hD hs ho hS hg ht
     rw [low_f hs] at c;exact c
   rcases Int.lt_or_gt_of_ne hz with hs | hs
   ·have c:=key (-n) (-d) true (neg_short hn) (neg_short hd) (by omega) (decide_eq_true hs) (.inl ⟨rfl,rfl,rfl⟩)
    rw [Rat.neg_divInt_neg] at c;exact c
   ·exact key n d false hn hd hs (decide_eq_false (by omega)) (.inr ⟨rfl,rfl,rfl⟩)
theorem productM_any (a b c d:Int) (w:World) (ha:B18 a) (hb:B18 b) (hc:B18 c) (hd:B18 d) :
  Calls Tryz.prog 97 #[.agg #[.int .i64 a,.int .i64 b],.agg #[.int .i64 c,.int .i64 d]] w fun e W'=>e = .returned (.agg #[.int .i64 (timesM a c),.int .i64 (timesM b d)])∧Below w.heap.size w W':=by
 have q0:=fun W=>still (mach_times a c W ha.lo ha.hi hc.lo hc.hi)
 have q1:=fun W=>still (mach_times b d W hb.lo hb.hi hd.lo hd.hi)
 have C:=Lib.hid (And.intro q0 (And.intro q1 trivial))
 clear q0 q1 ha hb hc hd
 go_enter Tryz.func97,Tryz.ntmps97
 go_wp2
 have hbx:=boxes_new w (.int .i64 a) (.int .i64 b) (.int .i64 c) (.int .i64 d) (.int .i64 0) (.int .i64 0) 105
 generalize ((w.alloc (.cells #[.int .i64 a,.int .i64 b] 105)).alloc (.cells #[.int .i64 c,.int .i64 d] 105)).alloc (.cells #[.int .i64 0,.int .i64 0] 105)=W0 at *
 generalize hk:w.heap.size=k at *
 have HK:=Lib.hid hk;clear hk
 have HBD:=Lib.hid hbx.drew
 clear hbx
 obtain ⟨c1,c2,c3,c4,c5,c6,f5,f6,_,_⟩:=HBD.out
 have m1:=mth_times
 have m3:=mth_minus
 have en1:∀ args W,(callFunc 294 args).run Tryz.prog W = .ok (.enter 294 args) W:=enters_of Tryz.func294 (by kernel_rfl) rfl
 have en3:∀ args W,(callFunc 290 args).run Tryz.prog W = .ok (.enter 290 args) W:=enters_of Tryz.func290 (by kernel_rfl) rfl
 go_still_tail 12,(by kernel_rfl)
 still_call (C.out.1 _)
 repeat still_step
 still_call (C.out.2.1 _)
 repeat still_step
 refine wpStill_nil ?_
 change wpList _ _ _ _ _ W0.drew
 clear c1 c2 c3 c4
 generalize W0.drew=W2 at *
 obtain ⟨g5,g6⟩:=two_back c5 c6 (.int .i64 (timesM a c)) (.int .i64 (timesM b d))
 go_wp2
 refine bodyPost_ret (v := .agg #[.int .i64 (timesM a c),.int .i64 (timesM b d)]) (by simp [results,Tryz.results97,go_sem,g5,g6]) rfl ?_
 refine ⟨rfl,?_⟩
 rw [HK.out]
 exact ((HBD.out.below).setCell (p:=⟨k+1+1,0,none⟩) (by show k≤k+1+1;omega) _).setCell (p:=⟨k+1+1,1,none⟩) (by show k≤k+1+1;omega) _
theorem ratioM_any (a b c d:Int) (w:World) (ha:B18 a) (hb:B18 b) (hc:B18 c) (hd:B18 d) :
  Calls Tryz.prog 48 #[.agg #[.int .i64 a,.int .i64 b],.agg #[.int .i64 c,.int .i64 d]] w fun e W'=>e = .returned (.agg #[.int .i64 (timesM a d),.int .i64 (timesM c b)])∧Below w.heap.size w W':=by
 have q0:=fun W=>still (mach_times a d W ha.lo ha.hi hd.lo hd.hi)
 have q1:=fun W=>still (mach_times c b W hc.lo hc.hi hb.lo hb.hi)
 have C:=Lib.hid (And.intro q0 (And.intro q1 trivial))
 clear q0 q1 ha hb hc hd
 go_enter Tryz.func48,Tryz.ntmps48
 go_wp2
 have hbx:=boxes_new w (.int .i64 a) (.int .i64 b) (.int .i64 c) (.int .i64 d) (.int .i64 0) (.int .i64 0) 105
 generalize ((w.alloc (.cells #[.int .i64 a,.int .i64 b] 105)).alloc (.cells #[.int .i64 c,.int .i64 d] 105)).alloc (.cells #[.int .i64 0,.int .i64 0] 105)=W0 at *
 generalize hk:w.heap.size=k at *
 have HK:=Lib.hid hk;clear hk
 have HBD:=Lib.hid hbx.drew
 clear hbx
 obtain ⟨c1,c2,c3,c4,c5,c6,f5,f6,_,_⟩:=HBD.out
 have m1:=mth_times
 have m3:=mth_minus
 have en1:∀ args W,(callFunc 294 args).run Tryz.prog W = .ok (.enter 294 args) W:=enters_of Tryz.func294 (by kernel_rfl) rfl
 have en3:∀ args W,(callFunc 290 args).run Tryz.prog W = .ok (.enter 290 args) W:=enters_of Tryz.func290 (by kernel_rfl) rfl
 go_still_tail 12,(by kernel_rfl)
 still_call (C.out.1 _)
 repeat still_step
 still_call (C.out.2.1 _)
 repeat still_step
 refine wpStill_nil ?_
 change wpList _ _ _ _ _ W0.drew
 clear c1 c2 c3 c4
 generalize W0.drew=W2 at *
 obtain ⟨g5,g6⟩:=two_back c5 c6 (.int .i64 (timesM a d)) (.int .i64 (timesM c b))
 go_wp2
 refine bodyPost_ret (v := .agg #[.int .i64 (timesM a d),.int .i64 (timesM c b)]) (by simp [results,Tryz.results48,go_sem,g5,g6]) rfl ?_
 refine ⟨rfl,?_⟩
 rw [HK.out]
 exact ((HBD.out.below).setCell (p:=⟨k+1+1,0,none⟩) (by show k≤k+1+1;omega) _).setCell (p:=⟨k+1+1,1,none⟩) (by show k≤k+1+1;omega) _
theorem short_m {z:Int} (h:z.natAbs<9223372036854775808):short z :=
 Nat.lt_of_lt_of_le (Nat.lt_of_lt_of_le h (by decide:9223372036854775808≤tenTo 19)) (tenTo_mono (by decide:19≤300))
theorem timesM_n {a b:Int} (h:timesM a b≠tooL):timesM a b=a*b∧(a*b).natAbs<4611686018427387904:=by
 unfold timesM at h ⊢
 by_cases c:(a*b).natAbs<4611686018427387904
 ·rw [if_pos c];exact ⟨rfl,c⟩
 ·rw [if_neg c] at h;exact absurd rfl h
theorem MOK.lo {x:Int} (h:MOK x) : -9223372036854775808≤x:=by
 rcases h with h | h
 ·rw [h];unfold tooL;omega
 ·omega
theorem MOK.hi {x:Int} (h:MOK x):x≤9223372036854775807:=by
 rcases h with h | h
 ·rw [h];unfold tooL;omega
 ·omega
theorem plusM_lo {x y:Int} (hx:MOK x) (hy:MOK y) : -9223372036854775808≤plusM x y∧plusM x y≤9223372036854775807:=by
 unfold plusM
 split
 ·unfold tooL;omega
 ·rename_i h
  rw [not_or] at h
  have h1:=hx.resolve_left h.1
  have h2:=hy.resolve_left h.2
  omega
theorem plusM_n {x y:Int} (h:plusM x y≠tooL):x≠tooL∧y≠tooL∧plusM x y=x+y:=by
 unfold plusM at h ⊢
 by_cases c:x=tooL∨y=tooL
 ·rw [if_pos c] at h;exact absurd rfl h
 ·rw [if_neg c];rw [not_or] at c;exact ⟨c.1,c.2,rfl⟩
theorem lowRE_ne {n d:Int} (h:lowRE n d=0):n≠tooL∧d≠tooL:=by
 unfold lowRE at h
 by_cases c:n=tooL∨d=tooL
 ·rw [if_pos c] at h;cases h
 ·rwa [not_or] at c
theorem lowR_ne {n d:Int} (h1:n≠tooL) (h2:d≠tooL):lowR n d=strQ (Rat.divInt n d):=if_neg (by rintro (h | h);exact h1 h;exact h2 h)
theorem timesM_0 {a b:Int} (ha:a≠0) (hb:b≠0):timesM a b≠0:=by
 unfold timesM
 split
 ·intro h
  rcases Int.mul_eq_zero.1 h with h | h
  ·exact ha h
  ·exact hb h
 ·unfold tooL;omega
theorem den_0 (x:Rat):(x.den:Int)≠0:=by have:=x.den_nz;omega
theorem lowB_pos {n d:Int} (h1:short n) (h2:short d):lowB n d=strQ (Rat.divInt n d)∧lowE n d=0:=⟨if_pos ⟨h1,h2⟩,if_pos ⟨h1,h2⟩⟩
theorem addM_ok (x y:Rat) (h:lowRE (plusM (timesM x.num y.den) (timesM y.num x.den)) (timesM x.den y.den)=0):lowR (plusM (timesM x.num y.den) (timesM y.num x.den)) (timesM x.den y.den)=qaddB x y∧qaddE x y=0:=by
 obtain ⟨h1,h2⟩:=lowRE_ne h
 obtain ⟨h3,h4,e1⟩:=plusM_n h1
 rw [lowR_ne h1 h2,e1]
 obtain ⟨e3,b3⟩:=timesM_n h3
 obtain ⟨e4,b4⟩:=timesM_n h4
 obtain ⟨e2,b2⟩:=timesM_n h2
 rw [e2,e3,e4]
 have hc:crossOK x y:=⟨short_m (by omega),short_m (by omega)⟩
 obtain ⟨l1,l2⟩:=lowB_pos (n:=x.num*y.den+y.num*x.den) (d:=x.den*y.den) (short_m (by omega)) (short_m (by omega))
 unfold qaddB qaddE
 rw [if_pos hc,if_pos hc,l1,l2]
 exact ⟨rfl,rfl⟩
theorem mulM_ok (x y:Rat) (h:lowRE (timesM x.num y.num) (timesM x.den y.den)=0):lowR (timesM x.num y.num) (timesM x.den y.den)=qmulB x y∧qmulE x y=0:=by
 obtain ⟨h1,h2⟩:=lowRE_ne h
 rw [lowR_ne h1 h2]
 obtain ⟨e1,b1⟩:=timesM_n h1
 obtain ⟨e2,b2⟩:=timesM_n h2
 rw [e1,e2]
 obtain ⟨l1,l2⟩:=lowB_pos (n:=x.num*y.num) (d:=x.den*y.den) (short_m (by omega)) (short_m (by omega))
 unfold qmulB qmulE
 rw [l1,l2]
 exact ⟨rfl,rfl⟩
theorem divM_ok (x y:Rat) (h:lowRE (timesM x.num y.den) (timesM y.num x.den)=0):lowR (timesM x.num y.den) (timesM y.num x.den)=qdivB x y∧qdivE x y=0:=by
 obtain ⟨h1,h2⟩:=lowRE_ne h
 rw [lowR_ne h1 h2]
 obtain ⟨e1,b1⟩:=timesM_n h1
 obtain ⟨e2,b2⟩:=timesM_n h2
 rw [e1,e2]
 obtain ⟨l1,l2⟩:=lowB_pos (n:=x.num*y.den) (d:=y.num*x.den) (short_m (by omega)) (short_m (by omega))
 unfold qdivB qdivE
 rw [l1,l2]
 exact ⟨rfl,rfl⟩
theorem opL_some (f:Int→Int→Int) (a b:Int):opL f (some a) (some b)=mkL (f a b):=rfl
theorem lowO_none (o:Option Int):lowOB none o=⟨#[]⟩∧lowOE none o=4:=by cases o <;> exact ⟨rfl,rfl⟩
theorem lowO_mk (n d:Int):lowOB (mkL n) (mkL d)=lowB n d∧lowOE (mkL n) (mkL d)=lowE n d:=by
 unfold lowB lowE mkL
 by_cases h1:short n
 ·by_cases h2:short d
  ·rw [if_pos h1,if_pos h2,if_pos (show short n∧short d from ⟨h1,h2⟩),if_pos (show short n∧short d from ⟨h1,h2⟩)];exact ⟨rfl,rfl⟩
  ·rw [if_pos h1,if_neg h2,if_neg (show ¬ (short n∧short d) from fun h=>h2 h.2),if_neg (show ¬ (short n∧short d) from fun h=>h2 h.2)];exact ⟨rfl,rfl⟩
 ·rw [if_neg h1,if_neg (show ¬ (short n∧short d) from fun h=>h1 h.1),if_neg (show ¬ (short n∧short d) from fun h=>h1 h.1)];exact lowO_none _
theorem opL_mk (f:Int→Int→Int) (a b:Int):opL f (mkL a) (mkL b)=if short a∧short b then mkL (f a b) else none:=by
 by_cases h1:short a
 ·by_cases h2:short b
  ·rw [if_pos ⟨h1,h2⟩,mkL_some h1,mkL_some h2];rfl
  ·rw [if_neg (fun h=>h2 h.2),show mkL b=none from if_neg h2,opL_none]
 ·rw [if_neg (fun h=>h1 h.1),show mkL a=none from if_neg h1];rfl
theorem addL_ok (x y:Rat):lowOB (opL (· + ·) (opL (· * ·) (some x.num) (some y.den)) (opL (· * ·) (some y.num) (some x.den))) (opL (· * ·) (some x.den) (some y.den))=qaddB x y∧lowOE (opL (· + ·) (opL (· * ·) (some x.num) (some y.den)) (opL (· * ·) (some y.num) (some x.den))) (opL (· * ·) (some x.den) (some y.den))=qaddE x y:=by
 rw [opL_some,opL_some,opL_some,opL_mk]
 unfold qaddB qaddE
 by_cases hc:crossOK x y
 ·rw [if_pos hc,if_pos hc,if_pos (show short (x.num*y.den)∧short (y.num*x.den) from hc)]
  exact lowO_mk _ _
 ·rw [if_neg hc,if_neg hc,if_neg (show ¬ (short (x.num*y.den)∧short (y.num*x.den)) from hc)]
  exact lowO_none _
theorem mulL_ok (x y:Rat):lowOB (opL (· * ·) (some x.num) (some y.num)) (opL (· * ·) (some x.den) (some y.den))=qmulB x y∧lowOE (opL (· * ·) (some x.num) (some y.num)) (opL (· * ·) (some x.den) (some y.den))=qmulE x y:=by
 rw [opL_some,opL_some]
 exact lowO_mk _ _
theorem divL_ok (x y:Rat):lowOB (opL (· * ·) (some x.num) (some y.den)) (opL (· * ·) (some y.num) (some x.den))=qdivB x y∧lowOE (opL (· * ·) (some x.num) (some y.den)) (opL (· * ·) (some y.num) (some x.den))=qdivE x y:=by
 rw [opL_some,opL_some]
 exact lowO_mk _ _
end Go.Proofs.YtpkloolckbhdaaaGreatDoor
