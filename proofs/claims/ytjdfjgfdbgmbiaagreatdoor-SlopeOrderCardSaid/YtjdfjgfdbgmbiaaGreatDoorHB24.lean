/- Parts of the proof of the text YtjdfjgfdbgmbiaaGreatDoorHB39. -/
import Derived.Test.YtjdfjgfdbgmbiaaGreatDoorHB1
import Derived.Test.YtjdfjgfdbgmbiaaGreatDoorHB18
import Derived.Test.YtjdfjgfdbgmbiaaGreatDoorHB21
set_option linter.all false
set_option maxRecDepth 100000
set_option maxHeartbeats 8000000
namespace Go.Proofs.YtjdfjgfdbgmbiaaGreatDoor
open Go.RowKit
theorem computeN_short (ks kl:FuncId) (p q:Nat) (a b:ByteArray) (x0 x1 y0 y1:Int) (r:ByteArray) (w:World)
  (hm:CqB w 69 #[.string a,.string b] (.tuple #[.agg #[.int .i64 x0,.int .i64 x1],.agg #[.int .i64 y0,.int .i64 y1],.bool true]))
  (es:∀ args W,(callFunc ks args).run Tryz.prog W = .ok (.enter ks args) W)
  (hs:CqB w ks #[.agg #[.int .i64 x0,.int .i64 x1],.agg #[.int .i64 y0,.int .i64 y1],.pointer (some ⟨p,0,none⟩)] (.tuple #[.string r,.int .i64 0])) :
  Calls Tryz.prog 35 #[.string a,.string b,(.func (.func ks) #[] #[.pointer (some ⟨p,0,none⟩)]),(.func (.func kl) #[] #[.pointer (some ⟨q,0,none⟩)])] w fun e W'=>e = .returned (.tuple #[.string r,.int .i64 0])∧Below w.heap.size w W':=by
 have C:=Lib.hid ((And.intro hm (And.intro hs trivial)));clear hm hs
 go_enter Tryz.func35,Tryz.ntmps35
 go_wp2_with fail
 refine (C.out.1 _ (Below.refl _ _)).mono ?_
 rintro e w1 ⟨rfl,b⟩
 have q0:=(Blk.new w1 #[.int .i64 x0,.int .i64 x1] 83).alloc (.cells #[.int .i64 y0,.int .i64 y1] 83)
 have q1:=Blk.new (w1.alloc (.cells #[.int .i64 x0,.int .i64 x1] 83)) #[.int .i64 y0,.int .i64 y1] 83
 rw [World.size_alloc] at q1
 have c0:=q0.cell 0 (.int .i64 x0) rfl
 have c1:=q0.cell 1 (.int .i64 x1) rfl
 have c2:=q1.cell 0 (.int .i64 y0) rfl
 have c3:=q1.cell 1 (.int .i64 y1) rfl
 have hB:=(b.alloc b.size (.cells #[.int .i64 x0,.int .i64 x1] 83)).alloc (by have:=b.size;simp;omega) (.cells #[.int .i64 y0,.int .i64 y1] 83)
 clear q0 q1
 go_wp2_with fail
 generalize (w1.alloc (.cells #[.int .i64 x0,.int .i64 x1] 83)).alloc (.cells #[.int .i64 y0,.int .i64 y1] 83)=w2 at *
 have H2:=Lib.hid hB;clear hB b c0 c1 c2 c3
 refine (C.out.2.1 _ H2.out).mono ?_
 rintro e w3 ⟨rfl,b⟩
 have H3:=Lib.hid (H2.out.trans (b.mono H2.out.size));clear b H2
 go_wp2
 go_ret2
 exact ⟨rfl,H3.out⟩
theorem computeN_both (ks kl:FuncId) (p q:Nat) (a b:ByteArray) (x0 x1 y0 y1:Int) (n d m f:ByteArray) (r' r:ByteArray) (e' e0:Int) (w:World) (n1:(e'==0)=false) (n2:(e' != 0)=true)
  (hm:CqB w 69 #[.string a,.string b] (.tuple #[.agg #[.int .i64 x0,.int .i64 x1],.agg #[.int .i64 y0,.int .i64 y1],.bool true]))
  (es:∀ args W,(callFunc ks args).run Tryz.prog W = .ok (.enter ks args) W)
  (hs:CqB w ks #[.agg #[.int .i64 x0,.int .i64 x1],.agg #[.int .i64 y0,.int .i64 y1],.pointer (some ⟨p,0,none⟩)] (.tuple #[.string r',.int .i64 e']))
  (hra:CqB w 70 #[.string a] (.tuple #[.agg #[.string n,.int .i64 0,.string d,.int .i64 0],.int .i64 0]))
  (hrb:CqB w 70 #[.string b] (.tuple #[.agg #[.string m,.int .i64 0,.string f,.int .i64 0],.int .i64 0]))
  (el:∀ args W,(callFunc kl args).run Tryz.prog W = .ok (.enter kl args) W)
  (hl:CqB w kl #[.agg #[.string n,.int .i64 0,.string d,.int .i64 0],.agg #[.string m,.int .i64 0,.string f,.int .i64 0],.pointer (some ⟨q,0,none⟩)] (.tuple #[.string r,.int .i64 e0])) :
  Calls Tryz.prog 35 #[.string a,.string b,(.func (.func ks) #[] #[.pointer (some ⟨p,0,none⟩)]),(.func (.func kl) #[] #[.pointer (some ⟨q,0,none⟩)])] w fun e W'=>e = .returned (.tuple #[.string r,.int .i64 e0])∧Below w.heap.size w W':=by
 have C:=Lib.hid ((And.intro hm (And.intro hs (And.intro hra (And.intro hrb hl)))));clear hm hs hra hrb hl
 go_enter Tryz.func35,Tryz.ntmps35
 go_wp2_with fail
 refine (C.out.1 _ (Below.refl _ _)).mono ?_
 rintro e w1 ⟨rfl,b⟩
 have q0:=(Blk.new w1 #[.int .i64 x0,.int .i64 x1] 83).alloc (.cells #[.int .i64 y0,.int .i64 y1] 83)
 have q1:=Blk.new (w1.alloc (.cells #[.int .i64 x0,.int .i64 x1] 83)) #[.int .i64 y0,.int .i64 y1] 83
 rw [World.size_alloc] at q1
 have c0:=q0.cell 0 (.int .i64 x0) rfl
 have c1:=q0.cell 1 (.int .i64 x1) rfl
 have c2:=q1.cell 0 (.int .i64 y0) rfl
 have c3:=q1.cell 1 (.int .i64 y1) rfl
 have hB:=(b.alloc b.size (.cells #[.int .i64 x0,.int .i64 x1] 83)).alloc (by have:=b.size;simp;omega) (.cells #[.int .i64 y0,.int .i64 y1] 83)
 clear q0 q1
 go_wp2_with fail
 generalize (w1.alloc (.cells #[.int .i64 x0,.int .i64 x1] 83)).alloc (.cells #[.int .i64 y0,.int .i64 y1] 83)=w2 at *
 have H2:=Lib.hid hB;clear hB b c0 c1 c2 c3
 refine (C.out.2.1 _ H2.out).mono ?_
 rintro e w3 ⟨rfl,b⟩
 have H3:=Lib.hid (H2.out.trans (b.mono H2.out.size));clear b H2
 go_wp2_with fail
 refine (C.out.2.2.1 _ H3.out).mono ?_
 rintro e w4 ⟨rfl,b⟩
 have H4:=Lib.hid (H3.out.trans (b.mono H3.out.size));clear b H3
 go_wp2_with fail
 have q0:=Blk.new w4 #[.string n,.int .i64 0,.string d,.int .i64 0] 87
 have hB:=H4.out.alloc H4.out.size (.cells #[.string n,.int .i64 0,.string d,.int .i64 0] 87)
 generalize w4.alloc (.cells #[.string n,.int .i64 0,.string d,.int .i64 0] 87)=w5 at *
 generalize w4.heap.size=j at *
 have H5:=Lib.hid (And.intro hB q0);clear hB q0 H4
 refine (C.out.2.2.2.1 _ H5.out.1).mono ?_
 rintro e w6 ⟨rfl,b⟩
 have q0:=(H5.out.2.next b).alloc (.cells #[.string m,.int .i64 0,.string f,.int .i64 0] 87)
 have q1:=Blk.new w6 #[.string m,.int .i64 0,.string f,.int .i64 0] 87
 have hB:=(H5.out.1.trans (b.mono H5.out.1.size)).alloc (Nat.le_trans H5.out.1.size b.size) (.cells #[.string m,.int .i64 0,.string f,.int .i64 0] 87)
 have c0:=q0.cell 0 (.string n) rfl
 have c1:=q0.cell 1 (.int .i64 0) rfl
 have c2:=q0.cell 2 (.string d) rfl
 have c3:=q0.cell 3 (.int .i64 0) rfl
 have c4:=q1.cell 0 (.string m) rfl
 have c5:=q1.cell 1 (.int .i64 0) rfl
 have c6:=q1.cell 2 (.string f) rfl
 have c7:=q1.cell 3 (.int .i64 0) rfl
 clear b H5 q0 q1
 go_wp2_with fail
 generalize w6.alloc (.cells #[.string m,.int .i64 0,.string f,.int .i64 0] 87)=w7 at *
 have H7:=Lib.hid hB;clear hB c0 c1 c2 c3 c4 c5 c6 c7
 refine (C.out.2.2.2.2 _ H7.out).mono ?_
 rintro e w8 ⟨rfl,b⟩
 have H8:=Lib.hid (H7.out.trans (b.mono H7.out.size));clear b H7
 go_wp2
 go_ret2
 exact ⟨rfl,H8.out⟩
theorem computeN_long (ks kl:FuncId) (p q:Nat) (a b:ByteArray) (n d m f:ByteArray) (r:ByteArray) (e0:Int) (w:World)
  (hm:∀ W,Below w.heap.size w W→Calls Tryz.prog 69 #[.string a,.string b] W fun e W'=>(∃ x y z u,e = .returned (.tuple #[.agg #[.int .i64 x,.int .i64 y],.agg #[.int .i64 z,.int .i64 u],.bool false]))∧Below W.heap.size W W')
  (hra:CqB w 70 #[.string a] (.tuple #[.agg #[.string n,.int .i64 0,.string d,.int .i64 0],.int .i64 0]))
  (hrb:CqB w 70 #[.string b] (.tuple #[.agg #[.string m,.int .i64 0,.string f,.int .i64 0],.int .i64 0]))
  (el:∀ args W,(callFunc kl args).run Tryz.prog W = .ok (.enter kl args) W)
  (hl:CqB w kl #[.agg #[.string n,.int .i64 0,.string d,.int .i64 0],.agg #[.string m,.int .i64 0,.string f,.int .i64 0],.pointer (some ⟨q,0,none⟩)] (.tuple #[.string r,.int .i64 e0])) :
  Calls Tryz.prog 35 #[.string a,.string b,(.func (.func ks) #[] #[.pointer (some ⟨p,0,none⟩)]),(.func (.func kl) #[] #[.pointer (some ⟨q,0,none⟩)])] w fun e W'=>e = .returned (.tuple #[.string r,.int .i64 e0])∧Below w.heap.size w W':=by
 have C:=Lib.hid ((And.intro hm (And.intro hra (And.intro hrb hl))));clear hm hra hrb hl
 go_enter Tryz.func35,Tryz.ntmps35
 go_wp2_with fail
 refine (C.out.1 _ (Below.refl _ _)).mono ?_
 rintro e w1 ⟨⟨x,y,z,u,rfl⟩,b⟩
 go_wp2_with fail
 have H3:=Lib.hid ((b.alloc b.size (.cells #[.int .i64 x,.int .i64 y] 83)).alloc (by have:=b.size;simp;omega) (.cells #[.int .i64 z,.int .i64 u] 83));clear b
 generalize (w1.alloc (.cells #[.int .i64 x,.int .i64 y] 83)).alloc (.cells #[.int .i64 z,.int .i64 u] 83)=w3 at *
 go_wp2_with fail
 refine (C.out.2.1 _ H3.out).mono ?_
 rintro e w4 ⟨rfl,b⟩
 have H4:=Lib.hid (H3.out.trans (b.mono H3.out.size));clear b H3
 go_wp2_with fail
 have q0:=Blk.new w4 #[.string n,.int .i64 0,.string d,.int .i64 0] 87
 have hB:=H4.out.alloc H4.out.size (.cells #[.string n,.int .i64 0,.string d,.int .i64 0] 87)
 generalize w4.alloc (.cells #[.string n,.int .i64 0,.string d,.int .i64 0] 87)=w5 at *
 generalize w4.heap.size=j at *
 have H5:=Lib.hid (And.intro hB q0);clear hB q0 H4
 refine (C.out.2.2.1 _ H5.out.1).mono ?_
 rintro e w6 ⟨rfl,b⟩
 have q0:=(H5.out.2.next b).alloc (.cells #[.string m,.int .i64 0,.string f,.int .i64 0] 87)
 have q1:=Blk.new w6 #[.string m,.int .i64 0,.string f,.int .i64 0] 87
 have hB:=(H5.out.1.trans (b.mono H5.out.1.size)).alloc (Nat.le_trans H5.out.1.size b.size) (.cells #[.string m,.int .i64 0,.string f,.int .i64 0] 87)
 have c0:=q0.cell 0 (.string n) rfl
 have c1:=q0.cell 1 (.int .i64 0) rfl
 have c2:=q0.cell 2 (.string d) rfl
 have c3:=q0.cell 3 (.int .i64 0) rfl
 have c4:=q1.cell 0 (.string m) rfl
 have c5:=q1.cell 1 (.int .i64 0) rfl
 have c6:=q1.cell 2 (.string f) rfl
 have c7:=q1.cell 3 (.int .i64 0) rfl
 clear b H5 q0 q1
 go_wp2_with fail
 generalize w6.alloc (.cells #[.string m,.int .i64 0,.string f,.int .i64 0] 87)=w7 at *
 have H7:=Lib.hid hB;clear hB c0 c1 c2 c3 c4 c5 c6 c7
 refine (C.out.2.2.2 _ H7.out).mono ?_
 rintro e w8 ⟨rfl,b⟩
 have H8:=Lib.hid (H7.out.trans (b.mono H7.out.size));clear b H7
 go_wp2
 go_ret2
 exact ⟨rfl,H8.out⟩
theorem computeI_short (ks kl:FuncId) (a b:ByteArray) (x0 x1 y0 y1:Int) (r:Int) (w:World)
  (hm:CqB w 69 #[.string a,.string b] (.tuple #[.agg #[.int .i64 x0,.int .i64 x1],.agg #[.int .i64 y0,.int .i64 y1],.bool true]))
  (es:∀ args W,(callFunc ks args).run Tryz.prog W = .ok (.enter ks args) W)
  (hs:CqB w ks #[.agg #[.int .i64 x0,.int .i64 x1],.agg #[.int .i64 y0,.int .i64 y1]] (.tuple #[.int .i64 r,.int .i64 0])) :
  Calls Tryz.prog 44 #[.string a,.string b,(.func (.func ks) #[] #[]),(.func (.func kl) #[] #[])] w fun e W'=>e = .returned (.tuple #[.int .i64 r,.int .i64 0])∧Below w.heap.size w W':=by
 have C:=Lib.hid ((And.intro hm (And.intro hs trivial)));clear hm hs
 go_enter Tryz.func44,Tryz.ntmps44
 go_wp2_with fail
 refine (C.out.1 _ (Below.refl _ _)).mono ?_
 rintro e w1 ⟨rfl,b⟩
 have q0:=(Blk.new w1 #[.int .i64 x0,.int .i64 x1] 83).alloc (.cells #[.int .i64 y0,.int .i64 y1] 83)
 have q1:=Blk.new (w1.alloc (.cells #[.int .i64 x0,.int .i64 x1] 83)) #[.int .i64 y0,.int .i64 y1] 83
 rw [World.size_alloc] at q1
 have c0:=q0.cell 0 (.int .i64 x0) rfl
 have c1:=q0.cell 1 (.int .i64 x1) rfl
 have c2:=q1.cell 0 (.int .i64 y0) rfl
 have c3:=q1.cell 1 (.int .i64 y1) rfl
 have hB:=(b.alloc b.size (.cells #[.int .i64 x0,.int .i64 x1] 83)).alloc (by have:=b.size;simp;omega) (.cells #[.int .i64 y0,.int .i64 y1] 83)
 clear q0 q1
 go_wp2_with fail
 generalize (w1.alloc (.cells #[.int .i64 x0,.int .i64 x1] 83)).alloc (.cells #[.int .i64 y0,.int .i64 y1] 83)=w2 at *
 have H2:=Lib.hid hB;clear hB b c0 c1 c2 c3
 refine (C.out.2.1 _ H2.out).mono ?_
 rintro e w3 ⟨rfl,b⟩
 have H3:=Lib.hid (H2.out.trans (b.mono H2.out.size));clear b H2
 go_wp2
 go_ret2
 exact ⟨rfl,H3.out⟩
theorem computeI_both (ks kl:FuncId) (a b:ByteArray) (x0 x1 y0 y1:Int) (n d m f:ByteArray) (r' r:Int) (e' e0:Int) (w:World) (n1:(e'==0)=false) (n2:(e' != 0)=true)
  (hm:CqB w 69 #[.string a,.string b] (.tuple #[.agg #[.int .i64 x0,.int .i64 x1],.agg #[.int .i64 y0,.int .i64 y1],.bool true]))
  (es:∀ args W,(callFunc ks args).run Tryz.prog W = .ok (.enter ks args) W)
  (hs:CqB w ks #[.agg #[.int .i64 x0,.int .i64 x1],.agg #[.int .i64 y0,.int .i64 y1]] (.tuple #[.int .i64 r',.int .i64 e']))
  (hra:CqB w 70 #[.string a] (.tuple #[.agg #[.string n,.int .i64 0,.string d,.int .i64 0],.int .i64 0]))
  (hrb:CqB w 70 #[.string b] (.tuple #[.agg #[.string m,.int .i64 0,.string f,.int .i64 0],.int .i64 0]))
  (el:∀ args W,(callFunc kl args).run Tryz.prog W = .ok (.enter kl args) W)
  (hl:CqB w kl #[.agg #[.string n,.int .i64 0,.string d,.int .i64 0],.agg #[.string m,.int .i64 0,.string f,.int .i64 0]] (.tuple #[.int .i64 r,.int .i64 e0])) :
  Calls Tryz.prog 44 #[.string a,.string b,(.func (.func ks) #[] #[]),(.func (.func kl) #[] #[])] w fun e W'=>e = .returned (.tuple #[.int .i64 r,.int .i64 e0])∧Below w.heap.size w W':=by
 have C:=Lib.hid ((And.intro hm (And.intro hs (And.intro hra (And.intro hrb hl)))));clear hm hs hra hrb hl
 go_enter Tryz.func44,Tryz.ntmps44
 go_wp2_with fail
 refine (C.out.1 _ (Below.refl _ _)).mono ?_
 rintro e w1 ⟨rfl,b⟩
 have q0:=(Blk.new w1 #[.int .i64 x0,.int .i64 x1] 83).alloc (.cells #[.int .i64 y0,.int .i64 y1] 83)
 have q1:=Blk.new (w1.alloc (.cells #[.int .i64 x0,.int .i64 x1] 83)) #[.int .i64 y0,.int .i64 y1] 83
 rw [World.size_alloc] at q1
 have c0:=q0.cell 0 (.int .i64 x0) rfl
 have c1:=q0.cell 1 (.int .i64 x1) rfl
 have c2:=q1.cell 0 (.int .i64 y0) rfl
 have c3:=q1.cell 1 (.int .i64 y1) rfl
 have hB:=(b.alloc b.size (.cells #[.int .i64 x0,.int .i64 x1] 83)).alloc (by have:=b.size;simp;omega) (.cells #[.int .i64 y0,.int .i64 y1] 83)
 clear q0 q1
 go_wp2_with fail
 generalize (w1.alloc (.cells #[.int .i64 x0,.int .i64 x1] 83)).alloc (.cells #[.int .i64 y0,.int .i64 y1] 83)=w2 at *
 have H2:=Lib.hid hB;clear hB b c0 c1 c2 c3
 refine (C.out.2.1 _ H2.out).mono ?_
 rintro e w3 ⟨rfl,b⟩
 have H3:=Lib.hid (H2.out.trans (b.mono H2.out.size));clear b H2
 go_wp2_with fail
 refine (C.out.2.2.1 _ H3.out).mono ?_
 rintro e w4 ⟨rfl,b⟩
 have H4:=Lib.hid (H3.out.trans (b.mono H3.out.size));clear b H3
 go_wp2_with fail
 have q0:=Blk.new w4 #[.string n,.int .i64 0,.string d,.int .i64 0] 87
 have hB:=H4.out.alloc H4.out.size (.cells #[.string n,.int .i64 0,.string d,.int .i64 0] 87)
 generalize w4.alloc (.cells #[.string n,.int .i64 0,.string d,.int .i64 0] 87)=w5 at *
 generalize w4.heap.size=j at *
 have H5:=Lib.hid (And.intro hB q0);clear hB q0 H4
 refine (C.out.2.2.2.1 _ H5.out.1).mono ?_
 rintro e w6 ⟨rfl,b⟩
 have q0:=(H5.out.2.next b).alloc (.cells #[.string m,.int .i64 0,.string f,.int .i64 0] 87)
 have q1:=Blk.new w6 #[.string m,.int .i64 0,.string f,.int .i64 0] 87
 have hB:=(H5.out.1.trans (b.mono H5.out.1.size)).alloc (Nat.le_trans H5.out.1.size b.size) (.cells #[.string m,.int .i64 0,.string f,.int .i64 0] 87)
 have c0:=q0.cell 0 (.string n) rfl
 have c1:=q0.cell 1 (.int .i64 0) rfl
 have c2:=q0.cell 2 (.string d) rfl
 have c3:=q0.cell 3 (.int .i64 0) rfl
 have c4:=q1.cell 0 (.string m) rfl
 have c5:=q1.cell 1 (.int .i64 0) rfl
 have c6:=q1.cell 2 (.string f) rfl
 have c7:=q1.cell 3 (.int .i64 0) rfl
 clear b H5 q0 q1
 go_wp2_with fail
 generalize w6.alloc (.cells #[.string m,.int .i64 0,.string f,.int .i64 0] 87)=w7 at *
 have H7:=Lib.hid hB;clear hB c0 c1 c2 c3 c4 c5 c6 c7
 refine (C.out.2.2.2.2 _ H7.out).mono ?_
 rintro e w8 ⟨rfl,b⟩
 have H8:=Lib.hid (H7.out.trans (b.mono H7.out.size));clear b H7
 go_wp2
 go_ret2
 exact ⟨rfl,H8.out⟩
theorem computeI_long (ks kl:FuncId) (a b:ByteArray) (n d m f:ByteArray) (r:Int) (e0:Int) (w:World)
  (hm:∀ W,Below w.heap.size w W→Calls Tryz.prog 69 #[.string a,.string b] W fun e W'=>(∃ x y z u,e = .returned (.tuple #[.agg #[.int .i64 x,.int .i64 y],.agg #[.int .i64 z,.int .i64 u],.bool false]))∧Below W.heap.size W W')
  (hra:CqB w 70 #[.string a] (.tuple #[.agg #[.string n,.int .i64 0,.string d,.int .i64 0],.int .i64 0]))
  (hrb:CqB w 70 #[.string b] (.tuple #[.agg #[.string m,.int .i64 0,.string f,.int .i64 0],.int .i64 0]))
  (el:∀ args W,(callFunc kl args).run Tryz.prog W = .ok (.enter kl args) W)
  (hl:CqB w kl #[.agg #[.string n,.int .i64 0,.string d,.int .i64 0],.agg #[.string m,.int .i64 0,.string f,.int .i64 0]] (.tuple #[.int .i64 r,.int .i64 e0])) :
  Calls Tryz.prog 44 #[.string a,.string b,(.func (.func ks) #[] #[]),(.func (.func kl) #[] #[])] w fun e W'=>e = .returned (.tuple #[.int .i64 r,.int .i64 e0])∧Below w.heap.size w W':=by
 have C:=Lib.hid ((And.intro hm (And.intro hra (And.intro hrb hl))));clear hm hra hrb hl
 go_enter Tryz.func44,Tryz.ntmps44
 go_wp2_with fail
 refine (C.out.1 _ (Below.refl _ _)).mono ?_
 rintro e w1 ⟨⟨x,y,z,u,rfl⟩,b⟩
 go_wp2_with fail
 have H3:=Lib.hid ((b.alloc b.size (.cells #[.int .i64 x,.int .i64 y] 83)).alloc (by have:=b.size;simp;omega) (.cells #[.int .i64 z,.int .i64 u] 83));clear b
 generalize (w1.alloc (.cells #[.int .i64 x,.int .i64 y] 83)).alloc (.cells #[.int .i64 z,.int .i64 u] 83)=w3 at *
 go_wp2_with fail
 refine (C.out.2.1 _ H3.out).mono ?_
 rintro e w4 ⟨rfl,b⟩
 have H4:=Lib.hid (H3.out.trans (b.mono H3.out.size));clear b H3
 go_wp2_with fail
 have q0:=Blk.new w4 #[.string n,.int .i64 0,.string d,.int .i64 0] 87
 have hB:=H4.out.alloc H4.out.size (.cells #[.string n,.int .i64 0,.string d,.int .i64 0] 87)
 generalize w4.alloc (.cells #[.string n,.int .i64 0,.string d,.int .i64 0] 87)=w5 at *
 generalize w4.heap.size=j at *
 have H5:=Lib.hid (And.intro hB q0);clear hB q0 H4
 refine (C.out.2.2.1 _ H5.out.1).mono ?_
 rintro e w6 ⟨rfl,b⟩
 have q0:=(H5.out.2.next b).alloc (.cells #[.string m,.int .i64 0,.string f,.int .i64 0] 87)
 have q1:=Blk.new w6 #[.string m,.int .i64 0,.string f,.int .i64 0] 87
 have hB:=(H5.out.1.trans (b.mono H5.out.1.size)).alloc (Nat.le_trans H5.out.1.size b.size) (.cells #[.string m,.int .i64 0,.string f,.int .i64 0] 87)
 have c0:=q0.cell 0 (.string n) rfl
 have c1:=q0.cell 1 (.int .i64 0) rfl
 have c2:=q0.cell 2 (.string d) rfl
 have c3:=q0.cell 3 (.int .i64 0) rfl
 have c4:=q1.cell 0 (.string m) rfl
 have c5:=q1.cell 1 (.int .i64 0) rfl
 have c6:=q1.cell 2 (.string f) rfl
 have c7:=q1.cell 3 (.int .i64 0) rfl
 clear b H5 q0 q1
 go_wp2_with fail
 generalize w6.alloc (.cells #[.string m,.int .i64 0,.string f,.int .i64 0] 87)=w7 at *
 have H7:=Lib.hid hB;clear hB c0 c1 c2 c3 c4 c5 c6 c7
 refine (C.out.2.2.2 _ H7.out).mono ?_
 rintro e w8 ⟨rfl,b⟩
 have H8:=Lib.hid (H7.out.trans (b.mono H7.out.size));clear b H7
 go_wp2
 go_ret2
 exact ⟨rfl,H8.out⟩
theorem orderM_bad (a b c d n m:Int) (x:Int) (n1:(x==0)=false) (n2:(x != 0)=true) (w:World)
  (hr:CqB w 77 #[.agg #[.int .i64 a,.int .i64 b],.agg #[.int .i64 c,.int .i64 d]] (.agg #[.int .i64 n,.int .i64 m]))
  (hf:CqB w 78 #[.agg #[.int .i64 n,.int .i64 m]] (.int .i64 x)) :
  Calls Tryz.prog 45 #[.agg #[.int .i64 a,.int .i64 b],.agg #[.int .i64 c,.int .i64 d]] w fun e W'=>e = .returned (.tuple #[.int .i64 0,.int .i64 x])∧Below w.heap.size w W':=by
 have C:=Lib.hid (And.intro hr (And.intro hf trivial));clear hr hf
 have hB:Below w.heap.size w ((w.alloc (.cells #[.int .i64 a,.int .i64 b] 83)).alloc (.cells #[.int .i64 c,.int .i64 d] 83)):=((Below.refl _ w).alloc (Nat.le_refl _) _).alloc (by simp) _
 go_enter Tryz.func45,Tryz.ntmps45
 go_wp2_with fail
 generalize (w.alloc (.cells #[.int .i64 a,.int .i64 b] 83)).alloc (.cells #[.int .i64 c,.int .i64 d] 83)=W0 at *
 have HB:=Lib.hid hB;clear hB
 refine (C.out.1 _ HB.out).mono ?_
 rintro e w1 ⟨rfl,b⟩
 have q0:=Blk.new w1 #[.int .i64 n,.int .i64 m] 83
 have hB:=(HB.out.trans (b.mono HB.out.size)).alloc (Nat.le_trans HB.out.size b.size) (.cells #[.int .i64 n,.int .i64 m] 83)
 have c0:=q0.cell 0 (.int .i64 n) rfl
 have c1:=q0.cell 1 (.int .i64 m) rfl
 clear b HB
 go_wp2_with fail
 generalize w1.alloc (.cells #[.int .i64 n,.int .i64 m] 83)=w2 at *
 generalize w1.heap.size=j at *
 have H2:=Lib.hid (And.intro hB q0);clear hB q0 c0 c1
 refine (C.out.2.1 _ H2.out.1).mono ?_
 rintro e w3 ⟨rfl,b⟩
 have H3:=Lib.hid (And.intro (H2.out.1.trans (b.mono H2.out.1.size)) (H2.out.2.next b));clear b H2
 have c0:=H3.out.2.cell 0 (.int .i64 n) rfl
 have c1:=H3.out.2.cell 1 (.int .i64 m) rfl
 go_wp2
 go_ret2
 exact ⟨rfl,H3.out.1⟩
theorem orderM_ok (a b c d n m:Int) (r:Int) (w:World)
  (hr:CqB w 77 #[.agg #[.int .i64 a,.int .i64 b],.agg #[.int .i64 c,.int .i64 d]] (.agg #[.int .i64 n,.int .i64 m]))
  (hf:CqB w 78 #[.agg #[.int .i64 n,.int .i64 m]] (.int .i64 0))
  (hc:CqB w 290 #[.int .i64 n,.int .i64 m] (.int .i64 r)) :
  Calls Tryz.prog 45 #[.agg #[.int .i64 a,.int .i64 b],.agg #[.int .i64 c,.int .i64 d]] w fun e W'=>e = .returned (.tuple #[.int .i64 r,.int .i64 0])∧Below w.heap.size w W':=by
 have C:=Lib.hid (And.intro hr (And.intro hf hc));clear hr hf hc
 have hB:Below w.heap.size w ((w.alloc (.cells #[.int .i64 a,.int .i64 b] 83)).alloc (.cells #[.int .i64 c,.int .i64 d] 83)):=((Below.refl _ w).alloc (Nat.le_refl _) _).alloc (by simp) _
 go_enter Tryz.func45,Tryz.ntmps45
 go_wp2_with fail
 generalize (w.alloc (.cells #[.int .i64 a,.int .i64 b] 83)).alloc (.cells #[.int .i64 c,.int .i64 d] 83)=W0 at *
 have HB:=Lib.hid hB;clear hB
 refine (C.out.1 _ HB.out).mono ?_
 rintro e w1 ⟨rfl,b⟩
 have q0:=Blk.new w1 #[.int .i64 n,.int .i64 m] 83
 have hB:=(HB.out.trans (b.mono HB.out.size)).alloc (Nat.le_trans HB.out.size b.size) (.cells #[.int .i64 n,.int .i64 m] 83)
 have c0:=q0.cell 0 (.int .i64 n) rfl
 have c1:=q0.cell 1 (.int .i64 m) rfl
 clear b HB
 go_wp2_with fail
 generalize w1.alloc (.cells #[.int .i64 n,.int .i64 m] 83)=w2 at *
 generalize w1.heap.size=j at *
 have H2:=Lib.hid (And.intro hB q0);clear hB q0 c0 c1
 refine (C.out.2.1 _ H2.out.1).mono ?_
 rintro e w3 ⟨rfl,b⟩
 have H3:=Lib.hid (And.intro (H2.out.1.trans (b.mono H2.out.1.size)) (H2.out.2.next b));clear b H2
 have c0:=H3.out.2.cell 0 (.int .i64 n) rfl
 have c1:=H3.out.2.cell 1 (.int .i64 m) rfl
 go_wp2_with fail
 refine (C.out.2.2 _ H3.out.1).mono ?_
 rintro e w4 ⟨rfl,b⟩
 have H4:=Lib.hid (H3.out.1.trans (b.mono H3.out.1.size));clear b
 go_wp2
 go_ret2
 exact ⟨rfl,H4.out⟩
theorem orderL_bad (a b c d n m:ByteArray) (a' b' c' d' n' m':Int) (x:Int) (n1:(x==0)=false) (n2:(x != 0)=true) (w:World)
  (hr:CqB w 79 #[.agg #[.string a,.int .i64 a',.string b,.int .i64 b'],.agg #[.string c,.int .i64 c',.string d,.int .i64 d']] (.agg #[.string n,.int .i64 n',.string m,.int .i64 m']))
  (hf:CqB w 80 #[.agg #[.string n,.int .i64 n',.string m,.int .i64 m']] (.int .i64 x)) :
  Calls Tryz.prog 46 #[.agg #[.string a,.int .i64 a',.string b,.int .i64 b'],.agg #[.string c,.int .i64 c',.string d,.int .i64 d']] w fun e W'=>e = .returned (.tuple #[.int .i64 0,.int .i64 x])∧Below w.heap.size w W':=by
 have C:=Lib.hid (And.intro hr (And.intro hf trivial));clear hr hf
 have hB:Below w.heap.size w ((w.alloc (.cells #[.string a,.int .i64 a',.string b,.int .i64 b'] 87)).alloc (.cells #[.string c,.int .i64 c',.string d,.int .i64 d'] 87)):=((Below.refl _ w).alloc (Nat.le_refl _) _).alloc (by simp) _
 go_enter Tryz.func46,Tryz.ntmps46
 go_wp2_with fail
 generalize (w.alloc (.cells #[.string a,.int .i64 a',.string b,.int .i64 b'] 87)).alloc (.cells #[.string c,.int .i64 c',.string d,.int .i64 d'] 87)=W0 at *
 have HB:=Lib.hid hB;clear hB
 refine (C.out.1 _ HB.out).mono ?_
 rintro e w1 ⟨rfl,b⟩
 have q0:=Blk.new w1 #[.string n,.int .i64 n',.string m,.int .i64 m'] 87
 have hB:=(HB.out.trans (b.mono HB.out.size)).alloc (Nat.le_trans HB.out.size b.size) (.cells #[.string n,.int .i64 n',.string m,.int .i64 m'] 87)
 have c0:=q0.cell 0 (.string n) rfl
 have c1:=q0.cell 1 (.int .i64 n') rfl
 have c2:=q0.cell 2 (.string m) rfl
 have c3:=q0.cell 3 (.int .i64 m') rfl
 clear b HB
 go_wp2_with fail
 generalize w1.alloc (.cells #[.string n,.int .i64 n',.string m,.int .i64 m'] 87)=w2 at *
 generalize w1.heap.size=j at *
 have H2:=Lib.hid (And.intro hB q0);clear hB q0 c0 c1 c2 c3
 refine (C.out.2.1 _ H2.out.1).mono ?_
 rintro e w3 ⟨rfl,b⟩
 have H3:=Lib.hid (And.intro (H2.out.1.trans (b.mono H2.out.1.size)) (H2.out.2.next b));clear b H2
 have c0:=H3.out.2.cell 0 (.string n) rfl
 have c1:=H3.out.2.cell 1 (.int .i64 n') rfl
 have c2:=H3.out.2.cell 2 (.string m) rfl
 have c3:=H3.out.2.cell 3 (.int .i64 m') rfl
 go_wp2
 go_ret2
 exact ⟨rfl,H3.out.1⟩
theorem orderL_ok (a b c d n m:ByteArray) (a' b' c' d' n' m':Int) (r:Int) (w:World)
  (hr:CqB w 79 #[.agg #[.string a,.int .i64 a',.string b,.int .i64 b'],.agg #[.string c,.int .i64 c',.string d,.int .i64 d']] (.agg #[.string n,.int .i64 n',.string m,.int .i64 m']))
  (hf:CqB w 80 #[.agg #[.string n,.int .i64 n',.string m,.int .i64 m']] (.int .i64 0))
  (hc:CqB w 303 #[.agg #[.string n,.int .i64 n'],.agg #[.string m,.int .i64 m']] (.int .i64 r)) :
  Calls Tryz.prog 46 #[.agg #[.string a,.int .i64 a',.string b,.int .i64 b'],.agg #[.string c,.int .i64 c',.string d,.int .i64 d']] w fun e W'=>e = .returned (.tuple #[.int .i64 r,.int .i64 0])∧Below w.heap.size w W':=by
 have C:=Lib.hid (And.intro hr (And.intro hf hc));clear hr hf hc
 have hB:Below w.heap.size w ((w.alloc (.cells #[.string a,.int .i64 a',.string b,.int .i64 b'] 87)).alloc (.cells #[.string c,.int .i64 c',.string d,.int .i64 d'] 87)):=((Below.refl _ w).alloc (Nat.le_refl _) _).alloc (by simp) _
 go_enter Tryz.func46,Tryz.ntmps46
 go_wp2_with fail
 generalize (w.alloc (.cells #[.string a,.int .i64 a',.string b,.int .i64 b'] 87)).alloc (.cells #[.string c,.int .i64 c',.string d,.int .i64 d'] 87)=W0 at *
 have HB:=Lib.hid hB;clear hB
 refine (C.out.1 _ HB.out).mono ?_
 rintro e w1 ⟨rfl,b⟩
 have q0:=Blk.new w1 #[.string n,.int .i64 n',.string m,.int .i64 m'] 87
 have hB:=(HB.out.trans (b.mono HB.out.size)).alloc (Nat.le_trans HB.out.size b.size) (.cells #[.string n,.int .i64 n',.string m,.int .i64 m'] 87)
 have c0:=q0.cell 0 (.string n) rfl
 have c1:=q0.cell 1 (.int .i64 n') rfl
 have c2:=q0.cell 2 (.string m) rfl
 have c3:=q0.cell 3 (.int .i64 m') rfl
 clear b HB
 go_wp2_with fail
 generalize w1.alloc (.cells #[.string n,.int .i64 n',.string m,.int .i64 m'] 87)=w2 at *
 generalize w1.heap.size=j at *
 have H2:=Lib.hid (And.intro hB q0);clear hB q0 c0 c1 c2 c3
 refine (C.out.2.1 _ H2.out.1).mono ?_
 rintro e w3 ⟨rfl,b⟩
 have H3:=Lib.hid (And.intro (H2.out.1.trans (b.mono H2.out.1.size)) (H2.out.2.next b));clear b H2
 have c0:=H3.out.2.cell 0 (.string n) rfl
 have c1:=H3.out.2.cell 1 (.int .i64 n') rfl
 have c2:=H3.out.2.cell 2 (.string m) rfl
 have c3:=H3.out.2.cell 3 (.int .i64 m') rfl
 go_wp2_with fail
 refine (C.out.2.2 _ H3.out.1).mono ?_
 rintro e w4 ⟨rfl,b⟩
 have H4:=Lib.hid (H3.out.1.trans (b.mono H3.out.1.size));clear b
 go_wp2
 go_ret2
 exact ⟨rfl,H4.out⟩
theorem lowestM_n1 (n d n' d':Int) (en : -n=n') (ed : -d=d') (w:World) (n0 : -9223372036854775808<n) (n1:n≤9223372036854775807) (d0 : -9223372036854775808<d) (d1:d≤9223372036854775807) (hd:d<0) (hg:gcdZ n' d'=1) (ht:Tab w) (ht2:Tab64 w) :
  Calls Tryz.prog 60 #[.agg #[.int .i64 n,.int .i64 d]] w fun e W'=>e = .returned (.tuple #[.string (strT n' d'),.int .i64 0])∧Below w.heap.size w W':=by
 have cf:=fun W=>fitM_any n d W
 rw [if_neg (show ¬ (n=tooL∨d=tooL) by unfold tooL;omega)] at cf
 have cn:=fun W=>mach_neg d W
 rw [decide_eq_true hd] at cn
 have co1:=fun W=>still (mach_opp n W n0 n1)
 have co2:=fun W=>still (mach_opp d W d0 d1)
 rw [en] at co1
 rw [ed] at co2
 have cg:=fun W (hW:Below w.heap.size w W)=>mach_divisor n' d' W (by omega) (by omega) (by omega) (by omega) (TabQ_next ht2 hW)
 have c1:=fun W=>mach_one (gcdZ n' d') W
 rw [show (gcdZ n' d'==1)=true by simpa using hg] at c1
 have cv1:=trivial
 have cv2:=trivial
 have ct:=fun W (hW:Below w.heap.size w W)=>textM_any n' d' W (by omega) (by omega) (by omega) (by omega) (ht.next hW)
 have C:=Lib.hid (And.intro cf (And.intro cn (And.intro co1 (And.intro co2 (And.intro cg (And.intro c1 (And.intro cv1 (And.intro cv2 ct))))))))
 clear en ed cf cn co1 co2 cg c1 cv1 cv2 ct ht ht2 n0 n1 d0 d1 hd hg
 rw [show ((Nat.gcd (n').natAbs (d').natAbs:Nat):Int)=gcdZ n' d' from rfl] at C
 generalize gcdZ n' d'=g at *
 go_enter Tryz.func60,Tryz.ntmps60
 go_wp2_with fail
 have hb:=Cell2.new w (.int .i64 n) (.int .i64 d) 83
 generalize w.alloc (.cells #[.int .i64 n,.int .i64 d] 83)=W0 at *
 generalize hk:w.heap.size=k at *
 have HK:=Lib.hid hk;clear hk
 have HB:=Lib.hid hb;clear hb
 refine (C.out.1 _).mono ?_
 rintro e w1 ⟨rfl,b⟩
 have H1:=Lib.hid (HB.out.next b);clear b HB
 have c0:=H1.out.c0
 have c1:=H1.out.c1
 go_wp2_with fail
 refine (C.out.2.1 _).mono ?_
 rintro e w' ⟨rfl,rfl⟩
 have f0:=H1.out.f0
 have f1:=H1.out.f1
 go_wp2
 have H2:=Lib.hid (show Cell2 w k _ _ w1.drew from H1.out.next (Below.refl _ _).drew)
 clear H1
 have c0:=H2.out.c0
 have c1:=H2.out.c1
 have mt:=mth_opp
 have en1:∀ args W,(callFunc 294 args).run Tryz.prog W = .ok (.enter 294 args) W:=enters_of Tryz.func294 (by kernel_rfl) rfl
 go_still_tail 8,(by kernel_rfl)
 still_call (C.out.2.2.1 _)
 repeat still_step
 still_call (C.out.2.2.2.1 _)
 repeat still_step
 refine wpStill_nil ?_
 change wpList _ _ _ _ _ w1.drew
 clear c0 c1 f0 f1 mt en1
 generalize w1.drew=w1 at *
 have f0:=H2.out.f0
 have f1:=H2.out.f1
 have H1:=Lib.hid (H2.out.put2 (.int .i64 n') (.int .i64 d'))
 have c0:=H1.out.c0
 have c1:=H1.out.c1
 have d0:=H2.out.c0
 have d1:=H2.out.c1
 obtain ⟨g0,g1⟩:=two_back d0 d1 (.int .i64 n') (.int .i64 d')
 clear H2
 go_wp2_with fail
 clear f0 f1 d0 d1 g0 g1
 generalize (w1.setCell ⟨k,0,none⟩ (.int .i64 n')).setCell ⟨k,1,none⟩ (.int .i64 d')=w1 at *
 go_wp2_with fail
 refine (C.out.2.2.2.2.1 _ (by have:=H1.out.below;rwa [HK.out] at this)).mono ?_
 rintro e w' ⟨rfl,rfl⟩
 go_wp2_with fail
 refine (C.out.2.2.2.2.2.1 _).mono ?_
 rintro e w' ⟨rfl,rfl⟩
 go_wp2_with fail
 refine (C.out.2.2.2.2.2.2.2.2 _ (by have:=H1.out.below;rwa [HK.out] at this)).mono ?_
 rintro e w2 ⟨rfl,b⟩
 have H2:=Lib.hid (H1.out.below.trans (b.mono H1.out.below.size))
 clear b c0 c1
 go_wp2
 go_ret2
 exact ⟨rfl,by have:=H2.out;rwa [HK.out] at this ⊢⟩
theorem lowestM_ng (n d n' d':Int) (en : -n=n') (ed : -d=d') (w:World) (n0 : -9223372036854775808<n) (n1:n≤9223372036854775807) (d0 : -9223372036854775808<d) (d1:d≤9223372036854775807) (hd:d<0) (hg:¬ gcdZ n' d'=1) (ht:Tab w) (ht2:Tab64 w) :
  Calls Tryz.prog 60 #[.agg #[.int .i64 n,.int .i64 d]] w fun e W'=>e = .returned (.tuple #[.string (strT (n'.tdiv (gcdZ n' d')) (d'.tdiv (gcdZ n' d'))),.int .i64 0])∧Below w.heap.size w W':=by
 have cf:=fun W=>fitM_any n d W
 rw [if_neg (show ¬ (n=tooL∨d=tooL) by unfold tooL;omega)] at cf
 have cn:=fun W=>mach_neg d W
 rw [decide_eq_true hd] at cn
 have co1:=fun W=>still (mach_opp n W n0 n1)
 have co2:=fun W=>still (mach_opp d W d0 d1)
 rw [en] at co1
 rw [ed] at co2
 have cg:=fun W (hW:Below w.heap.size w W)=>mach_divisor n' d' W (by omega) (by omega) (by omega) (by omega) (TabQ_next ht2 hW)
 have c1:=fun W=>mach_one (gcdZ n' d') W
 rw [show (gcdZ n' d'==1)=false by simpa using hg] at c1
 have hgp:=gcdZ_pos (n:=n') (d:=d') (by omega)
 have hgl:gcdZ n' d'≤9223372036854775807:=by
  have:gcdZ n' d'≤d':=Int.le_of_dvd (by omega) (gcdZ_dvd n' d').2
  omega
 have bn:=tdiv_b (n:=n') hgp (by omega) (by omega)
 have bd:=tdiv_b (n:=d') hgp (by omega) (by omega)
 have cv1:=fun W=>still (mach_over n' (gcdZ n' d') W (by omega) (by omega) hgp hgl)
 have cv2:=fun W=>still (mach_over d' (gcdZ n' d') W (by omega) (by omega) hgp hgl)
 have ct:=fun W (hW:Below w.heap.size w W)=>textM_any (n'.tdiv (gcdZ n' d')) (d'.tdiv (gcdZ n' d')) W bn.1 bn.2 bd.1 bd.2 (ht.next hW)
 clear hgp hgl bn bd
 have C:=Lib.hid (And.intro cf (And.intro cn (And.intro co1 (And.intro co2 (And.intro cg (And.intro c1 (And.intro cv1 (And.intro cv2 ct))))))))
 clear en ed cf cn co1 co2 cg c1 cv1 cv2 ct ht ht2 n0 n1 d0 d1 hd hg
 rw [show ((Nat.gcd (n').natAbs (d').natAbs:Nat):Int)=gcdZ n' d' from rfl] at C
 generalize gcdZ n' d'=g at *
 go_enter Tryz.func60,Tryz.ntmps60
 go_wp2_with fail
 have hb:=Cell2.new w (.int .i64 n) (.int .i64 d) 83
 generalize w.alloc (.cells #[.int .i64 n,.int .i64 d] 83)=W0 at *
 generalize hk:w.heap.size=k at *
 have HK:=Lib.hid hk;clear hk
 have HB:=Lib.hid hb;clear hb
 refine (C.out.1 _).mono ?_
 rintro e w1 ⟨rfl,b⟩
 have H1:=Lib.hid (HB.out.next b);clear b HB
 have c0:=H1.out.c0
 have c1:=H1.out.c1
 go_wp2_with fail
 refine (C.out.2.1 _).mono ?_
 rintro e w' ⟨rfl,rfl⟩
 have f0:=H1.out.f0
 have f1:=H1.out.f1
 go_wp2
 have H2:=Lib.hid (show Cell2 w k _ _ w1.drew from H1.out.next (Below.refl _ _).drew)
 clear H1
 have c0:=H2.out.c0
 have c1:=H2.out.c1
 have mt:=mth_opp
 have en1:∀ args W,(callFunc 294 args).run Tryz.prog W = .ok (.enter 294 args) W:=enters_of Tryz.func294 (by kernel_rfl) rfl
 go_still_tail 8,(by kernel_rfl)
 still_call (C.out.2.2.1 _)
 repeat still_step
 still_call (C.out.2.2.2.1 _)
 repeat still_step
 refine wpStill_nil ?_
 change wpList _ _ _ _ _ w1.drew
 clear c0 c1 f0 f1 mt en1
 generalize w1.drew=w1 at *
 have f0:=H2.out.f0
 have f1:=H2.out.f1
 have H1:=Lib.hid (H2.out.put2 (.int .i64 n') (.int .i64 d'))
 have c0:=H1.out.c0
 have c1:=H1.out.c1
 have d0:=H2.out.c0
 have d1:=H2.out.c1
 obtain ⟨g0,g1⟩:=two_back d0 d1 (.int .i64 n') (.int .i64 d')
 clear H2
 go_wp2_with fail
 clear f0 f1 d0 d1 g0 g1
 generalize (w1.setCell ⟨k,0,none⟩ (.int .i64 n')).setCell ⟨k,1,none⟩ (.int .i64 d')=w1 at *
 go_wp2_with fail
 refine (C.out.2.2.2.2.1 _ (by have:=H1.out.below;rwa [HK.out] at this)).mono ?_
 rintro e w' ⟨rfl,rfl⟩
 go_wp2_with fail
 refine (C.out.2.2.2.2.2.1 _).mono ?_
 rintro e w' ⟨rfl,rfl⟩
 have f0:=H1.out.f0
 have f1:=H1.out.f1
 go_wp2
 have H2:=Lib.hid (show Cell2 w k _ _ w1.drew from H1.out.next (Below.refl _ _).drew)
 clear H1
 have c0:=H2.out.c0
 have c1:=H2.out.c1
 have mt:=mth_over
 have en1:∀ args W,(callFunc 295 args).run Tryz.prog W = .ok (.enter 295 args) W:=enters_of Tryz.func295 (by kernel_rfl) rfl
 go_still_tail 10,(by kernel_rfl)
 still_call (C.out.2.2.2.2.2.2.1 _)
 repeat still_step
 still_call (C.out.2.2.2.2.2.2.2.1 _)
 repeat still_step
 refine wpStill_nil ?_
 change wpList _ _ _ _ _ w1.drew
 clear c0 c1 f0 f1 mt en1
 generalize w1.drew=w1 at *
 have f0:=H2.out.f0
 have f1:=H2.out.f1
 have H1:=Lib.hid (H2.out.put2 (.int .i64 (n'.tdiv g)) (.int .i64 (d'.tdiv g)))
 have c0:=H1.out.c0
 have c1:=H1.out.c1
 have d0:=H2.out.c0
 have d1:=H2.out.c1
 obtain ⟨g0,g1⟩:=two_back d0 d1 (.int .i64 (n'.tdiv g)) (.int .i64 (d'.tdiv g))
 clear H2
 go_wp2_with fail
 clear f0 f1 d0 d1 g0 g1
 generalize (w1.setCell ⟨k,0,none⟩ (.int .i64 (n'.tdiv g))).setCell ⟨k,1,none⟩ (.int .i64 (d'.tdiv g))=w1 at *
 go_wp2_with fail
 refine (C.out.2.2.2.2.2.2.2.2 _ (by have:=H1.out.below;rwa [HK.out] at this)).mono ?_
 rintro e w2 ⟨rfl,b⟩
 have H2:=Lib.hid (H1.out.below.trans (b.mono H1.out.below.size))
 clear b c0 c1
 go_wp2
 go_ret2
 exact ⟨rfl,by have:=H2.out;rwa [HK.out] at this ⊢⟩
def lowRE (n d:Int):Int:=if n=tooL∨d=tooL then 4 else 0
theorem lowestM_any (n d:Int) (w:World) (n0 : -9223372036854775808≤n) (n1:n≤9223372036854775807) (d0 : -9223372036854775808≤d) (d1:d≤9223372036854775807) (hd:d≠0) (ht:Tab w) (ht2:Tab64 w) :
  Calls Tryz.prog 60 #[.agg #[.int .i64 n,.int .i64 d]] w fun e W'=>e = .returned (.tuple #[.string (lowR n d),.int .i64 (lowRE n d)])∧Below w.heap.size w W':=by
 by_cases h:n=tooL∨d=tooL
 ·have c:=lowestM_bad n d w h
  unfold lowR lowRE
  rw [if_pos h,if_pos h];exact c
 ·unfold lowR lowRE
  rw [if_neg h,if_neg h]
  have hn : -9223372036854775808<n:=by
   have:n≠tooL:=fun e=>h (.inl e)
   unfold tooL at this;omega
  have hd2 : -9223372036854775808<d:=by
   have:d≠tooL:=fun e=>h (.inr e)
   unfold tooL at this;omega
  rcases Int.lt_or_gt_of_ne hd with hs | hs
  ·have hp:0 < -d:=by omega
   by_cases hg:gcdZ (-n) (-d)=1
   ·have c:=lowestM_n1 n d (-n) (-d) rfl rfl w hn n1 hd2 d1 hs hg ht ht2
    rwa [low_1 hp hg,Rat.neg_divInt_neg] at c
   ·have c:=lowestM_ng n d (-n) (-d) rfl rfl w hn n1 hd2 d1 hs hg ht ht2
    rwa [low_t hp,Rat.neg_divInt_neg] at c
  ·by_cases hg:gcdZ n d=1
   ·have c:=lowestM_p1 n d w hn n1 hd2 d1 hs hg ht ht2
    rwa [low_1 hs hg] at c
   ·have c:=lowestM_pg n d w hn n1 hd2 d1 hs hg ht ht2
    rwa [low_t hs] at c
end Go.Proofs.YtjdfjgfdbgmbiaaGreatDoor
