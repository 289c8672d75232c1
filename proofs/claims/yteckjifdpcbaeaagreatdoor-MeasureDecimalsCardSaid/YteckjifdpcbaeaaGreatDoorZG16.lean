/- Parts of the proof of the text YteckjifdpcbaeaaGreatDoorZG38. -/
import Derived.StillTailTactics
import Derived.Test.YteckjifdpcbaeaaGreatDoorZG1
import Derived.Test.YteckjifdpcbaeaaGreatDoorZG15
import Derived.Test.YteckjifdpcbaeaaGreatDoorZG5
import Derived.Test.YteckjifdpcbaeaaGreatDoorZG8
import Derived.Test.YteckjifdpcbaeaaGreatDoorZG9
set_option linter.all false
set_option maxRecDepth 100000
set_option maxHeartbeats 8000000
namespace Go.Proofs.YteckjifdpcbaeaaGreatDoor
open Go.RowKit
def LB:Option Int→ByteArray
 | some z=>strB z
 | none=>⟨#[]⟩
def LE:Option Int→Int
 | some _=>0
 | none=>4
def mkL (z:Int):Option Int:=if short z then some z else none
def Lwf (o:Option Int):Prop:=∀ z,o=some z→short z
def opL (f:Int→Int→Int) (o p:Option Int):Option Int:=match o,p with
 | some x,some y=>mkL (f x y)
 | _,_=>none
theorem mkL_wf (z:Int):Lwf (mkL z):=fun y h=>by
 unfold mkL at h
 split at h
 ·rw [←Option.some.inj h];assumption
 ·cases h
theorem opL_wf (f:Int→Int→Int) (o p:Option Int):Lwf (opL f o p):=by
 unfold opL
 split
 ·exact mkL_wf _
 ·intro z h;cases h
theorem opL_none (f:Int→Int→Int) (o:Option Int):opL f o none=none:=by unfold opL;split <;> first | rfl | contradiction
theorem some_wf {z:Int} (h:short z):Lwf (some z):=fun y hy=>by rw [←Option.some.inj hy];exact h
theorem mkL_some {z:Int} (h:short z):mkL z=some z:=if_pos h
theorem resB_mk (z:Int):resB z=LB (mkL z):=by
 unfold resB mkL
 by_cases h:short z
 ·rw [if_pos (show z.natAbs<lim from h),if_pos h];rfl
 ·rw [if_neg (show ¬ z.natAbs<lim from h),if_neg h];rfl
theorem resE_mk (z:Int):resE z=LE (mkL z):=by
 unfold resE mkL
 by_cases h:short z
 ·rw [if_pos (show z.natAbs<lim from h),if_pos h];rfl
 ·rw [if_neg (show ¬ z.natAbs<lim from h),if_neg h];rfl
theorem Add_res (x y:Int) (w:World) (hx:short x) (hy:short y) (ht:Tab w) :
  Calls Tryz.prog 83 #[.string (strB x),.string (strB y)] w fun e W'=>e = .returned (.tuple #[.string (LB (mkL (x+y))),.int .i64 (LE (mkL (x+y)))])∧Below w.heap.size w W':=by
 have c:=Add_any (strB x) (strB y) w (by have:=strB_size hx;unfold maxLen;omega) (by have:=strB_size hy;unfold maxLen;omega) ht
 rwa [strB_chk2 hx hy,strB_val,strB_val,outB_ok,outE_ok,resB_mk,resE_mk] at c
theorem Sub_res (x y:Int) (w:World) (hx:short x) (hy:short y) (ht:Tab w) :
  Calls Tryz.prog 278 #[.string (strB x),.string (strB y)] w fun e W'=>e = .returned (.tuple #[.string (LB (mkL (x - y))),.int .i64 (LE (mkL (x - y)))])∧Below w.heap.size w W':=by
 have c:=Sub_any (strB x) (strB y) w (by have:=strB_size hx;unfold maxLen;omega) (by have:=strB_size hy;unfold maxLen;omega) ht
 rwa [strB_chk2 hx hy,strB_val,strB_val,outB_ok,outE_ok,resB_mk,resE_mk] at c
theorem MulL_res (x y:Int) (w:World) (hx:short x) (hy:short y) (ht:Tab w) :
  Calls Tryz.prog 82 #[.string (strB x),.string (strB y)] w fun e W'=>e = .returned (.tuple #[.string (LB (mkL (x*y))),.int .i64 (LE (mkL (x*y)))])∧Below w.heap.size w W':=by
 have c:=Mul_any (strB x) (strB y) w (by have:=strB_size hx;unfold maxLen;omega) (by have:=strB_size hy;unfold maxLen;omega) ht
 rwa [strB_chk2 hx hy,strB_val,strB_val,outB_ok,outE_ok,resB_mk,resE_mk] at c
theorem with_any (o p r:Option Int) (k:Nat) (w:World) (eg:∀ args W,(callFunc k args).run Tryz.prog W = .ok (.enter k args) W) (h0:o=none→r=none) (h1:p=none→r=none)
  (H:∀ x y,o=some x→p=some y→CqB w k #[.string (strB x),.string (strB y)] (.tuple #[.string (LB r),.int .i64 (LE r)])) :
  Calls Tryz.prog 194 #[.agg #[.string (LB o),.int .i64 (LE o)],.agg #[.string (LB p),.int .i64 (LE p)],.func (.func k) #[] #[]] w fun e W'=>e = .returned (.agg #[.string (LB r),.int .i64 (LE r)])∧Below w.heap.size w W':=by
 cases o with
 | none =>
  rw [h0 rfl]
  clear H
  generalize LB p=pb
  generalize LE p=pe
  simp only [LB,LE]
  go_enter Tryz.func194,Tryz.ntmps194
  go_wp2
  refine bodyPost_ret (v := .agg #[.string ⟨#[]⟩,.int .i64 4]) (by simp [results,Tryz.results194,go_sem]) rfl ?_
  exact ⟨rfl,by go_grown⟩
 | some x =>
  cases p with
  | none =>
   rw [h1 rfl]
   clear H
   simp only [LB,LE]
   generalize strB x=sx
   go_enter Tryz.func194,Tryz.ntmps194
   go_wp2
   refine bodyPost_ret (v := .agg #[.string ⟨#[]⟩,.int .i64 4]) (by simp [results,Tryz.results194,go_sem]) rfl ?_
   exact ⟨rfl,by go_grown⟩
  | some y =>
   have C:=Lib.hid (H x y rfl rfl)
   clear H h0 h1
   generalize LB r=rb at *
   generalize LE r=re at *
   simp only [LB,LE]
   generalize strB x=sx at *
   generalize strB y=sy at *
   go_enter Tryz.func194,Tryz.ntmps194
   go_wp2_with fail
   have hbx:=boxes_new w (.string sx) (.int .i64 0) (.string sy) (.int .i64 0) (.string ⟨#[]⟩) (.int .i64 0) 86
   generalize ((w.alloc (.cells #[.string sx,.int .i64 0] 86)).alloc (.cells #[.string sy,.int .i64 0] 86)).alloc (.cells #[.string ⟨#[]⟩,.int .i64 0] 86)=W0 at *
   have c:=C.out W0 hbx.below
   have CC:=Lib.hid c
   clear c C
   generalize hk:w.heap.size=k at *
   have HK:=Lib.hid hk;clear hk
   have HB:=Lib.hid hbx
   clear hbx
   refine CC.out.mono ?_
   rintro e w1 ⟨rfl,b⟩
   have HB1:=Lib.hid (HB.out.next b)
   clear b CC HB
   obtain ⟨_,_,_,_,c5,c6,f5,f6,_,_⟩:=HB1.out
   obtain ⟨g5,g6⟩:=two_back c5 c6 (.string rb) (.int .i64 re)
   go_wp2
   refine bodyPost_ret (v := .agg #[.string rb,.int .i64 re]) (by simp [results,Tryz.results194,go_sem,g5,g6]) rfl ?_
   refine ⟨rfl,?_⟩
   rw [HK.out]
   exact ((HB1.out.below).setCell (p:=⟨k+1+1,0,none⟩) (by show k≤k+1+1;omega) _).setCell (p:=⟨k+1+1,1,none⟩) (by show k≤k+1+1;omega) _
theorem long_plus (o p:Option Int) (w:World) (ho:Lwf o) (hp:Lwf p) (ht:Tab w) :
  Calls Tryz.prog 274 #[.agg #[.string (LB o),.int .i64 (LE o)],.agg #[.string (LB p),.int .i64 (LE p)]] w fun e W'=>e = .returned (.agg #[.string (LB (opL (· + ·) o p)),.int .i64 (LE (opL (· + ·) o p))])∧Below w.heap.size w W':=by
 have c:=fun W (hW:Below w.heap.size w W)=>with_any o p (opL (· + ·) o p) 83 W (enters_of Tryz.func83 (by kernel_rfl) rfl) (fun h=>by rw [h];rfl) (fun h=>by rw [h];exact opL_none _ _)
  (fun x y hx hy W' hW'=>by
   have hb:=hW.trans (hW'.mono hW.size)
   subst hx;subst hy
   exact Add_res x y W' (ho x rfl) (hp y rfl) (ht.next hb))
 have C:=Lib.hid c;clear c ho hp ht
 generalize opL (· + ·) o p=r at *
 generalize LB o=ob at *
 generalize LE o=oe at *
 generalize LB p=pb at *
 generalize LE p=pe at *
 generalize LB r=rb at *
 generalize LE r=re at *
 go_enter Tryz.func274,Tryz.ntmps274
 go_wp2_with fail
 have hbx:=boxes_new w (.string ob) (.int .i64 oe) (.string pb) (.int .i64 pe) (.string ⟨#[]⟩) (.int .i64 0) 86
 generalize ((w.alloc (.cells #[.string ob,.int .i64 oe] 86)).alloc (.cells #[.string pb,.int .i64 pe] 86)).alloc (.cells #[.string ⟨#[]⟩,.int .i64 0] 86)=W0 at *
 have CC:=Lib.hid (C.out W0 hbx.below)
 clear C
 generalize hk:w.heap.size=k at *
 have HK:=Lib.hid hk;clear hk
 have HB:=Lib.hid hbx
 clear hbx
 refine CC.out.mono ?_
 rintro e w1 ⟨rfl,b⟩
 have HB1:=Lib.hid (HB.out.next b)
 clear b CC HB
 obtain ⟨_,_,_,_,c5,c6,f5,f6,_,_⟩:=HB1.out
 obtain ⟨g5,g6⟩:=two_back c5 c6 (.string rb) (.int .i64 re)
 go_wp2
 refine bodyPost_ret (v := .agg #[.string rb,.int .i64 re]) (by simp [results,Tryz.results274,go_sem,g5,g6]) rfl ?_
 refine ⟨rfl,?_⟩
 rw [HK.out]
 exact ((HB1.out.below).setCell (p:=⟨k+1+1,0,none⟩) (by show k≤k+1+1;omega) _).setCell (p:=⟨k+1+1,1,none⟩) (by show k≤k+1+1;omega) _
theorem long_minus (o p:Option Int) (w:World) (ho:Lwf o) (hp:Lwf p) (ht:Tab w) :
  Calls Tryz.prog 276 #[.agg #[.string (LB o),.int .i64 (LE o)],.agg #[.string (LB p),.int .i64 (LE p)]] w fun e W'=>e = .returned (.agg #[.string (LB (opL (· - ·) o p)),.int .i64 (LE (opL (· - ·) o p))])∧Below w.heap.size w W':=by
 have c:=fun W (hW:Below w.heap.size w W)=>with_any o p (opL (· - ·) o p) 278 W (enters_of Tryz.func278 (by kernel_rfl) rfl) (fun h=>by rw [h];rfl) (fun h=>by rw [h];exact opL_none _ _)
  (fun x y hx hy W' hW'=>by
   have hb:=hW.trans (hW'.mono hW.size)
   subst hx;subst hy
   exact Sub_res x y W' (ho x rfl) (hp y rfl) (ht.next hb))
 have C:=Lib.hid c;clear c ho hp ht
 generalize opL (· - ·) o p=r at *
 generalize LB o=ob at *
 generalize LE o=oe at *
 generalize LB p=pb at *
 generalize LE p=pe at *
 generalize LB r=rb at *
 generalize LE r=re at *
 go_enter Tryz.func276,Tryz.ntmps276
 go_wp2_with fail
 have hbx:=boxes_new w (.string ob) (.int .i64 oe) (.string pb) (.int .i64 pe) (.string ⟨#[]⟩) (.int .i64 0) 86
 generalize ((w.alloc (.cells #[.string ob,.int .i64 oe] 86)).alloc (.cells #[.string pb,.int .i64 pe] 86)).alloc (.cells #[.string ⟨#[]⟩,.int .i64 0] 86)=W0 at *
 have CC:=Lib.hid (C.out W0 hbx.below)
 clear C
 generalize hk:w.heap.size=k at *
 have HK:=Lib.hid hk;clear hk
 have HB:=Lib.hid hbx
 clear hbx
 refine CC.out.mono ?_
 rintro e w1 ⟨rfl,b⟩
 have HB1:=Lib.hid (HB.out.next b)
 clear b CC HB
 obtain ⟨_,_,_,_,c5,c6,f5,f6,_,_⟩:=HB1.out
 obtain ⟨g5,g6⟩:=two_back c5 c6 (.string rb) (.int .i64 re)
 go_wp2
 refine bodyPost_ret (v := .agg #[.string rb,.int .i64 re]) (by simp [results,Tryz.results276,go_sem,g5,g6]) rfl ?_
 refine ⟨rfl,?_⟩
 rw [HK.out]
 exact ((HB1.out.below).setCell (p:=⟨k+1+1,0,none⟩) (by show k≤k+1+1;omega) _).setCell (p:=⟨k+1+1,1,none⟩) (by show k≤k+1+1;omega) _
theorem long_times (o p:Option Int) (w:World) (ho:Lwf o) (hp:Lwf p) (ht:Tab w) :
  Calls Tryz.prog 275 #[.agg #[.string (LB o),.int .i64 (LE o)],.agg #[.string (LB p),.int .i64 (LE p)]] w fun e W'=>e = .returned (.agg #[.string (LB (opL (· * ·) o p)),.int .i64 (LE (opL (· * ·) o p))])∧Below w.heap.size w W':=by
 have c:=fun W (hW:Below w.heap.size w W)=>with_any o p (opL (· * ·) o p) 82 W (enters_of Tryz.func82 (by kernel_rfl) rfl) (fun h=>by rw [h];rfl) (fun h=>by rw [h];exact opL_none _ _)
  (fun x y hx hy W' hW'=>by
   have hb:=hW.trans (hW'.mono hW.size)
   subst hx;subst hy
   exact MulL_res x y W' (ho x rfl) (hp y rfl) (ht.next hb))
 have C:=Lib.hid c;clear c ho hp ht
 generalize opL (· * ·) o p=r at *
 generalize LB o=ob at *
 generalize LE o=oe at *
 generalize LB p=pb at *
 generalize LE p=pe at *
 generalize LB r=rb at *
 generalize LE r=re at *
 go_enter Tryz.func275,Tryz.ntmps275
 go_wp2_with fail
 have hbx:=boxes_new w (.string ob) (.int .i64 oe) (.string pb) (.int .i64 pe) (.string ⟨#[]⟩) (.int .i64 0) 86
 generalize ((w.alloc (.cells #[.string ob,.int .i64 oe] 86)).alloc (.cells #[.string pb,.int .i64 pe] 86)).alloc (.cells #[.string ⟨#[]⟩,.int .i64 0] 86)=W0 at *
 have CC:=Lib.hid (C.out W0 hbx.below)
 clear C
 generalize hk:w.heap.size=k at *
 have HK:=Lib.hid hk;clear hk
 have HB:=Lib.hid hbx
 clear hbx
 refine CC.out.mono ?_
 rintro e w1 ⟨rfl,b⟩
 have HB1:=Lib.hid (HB.out.next b)
 clear b CC HB
 obtain ⟨_,_,_,_,c5,c6,f5,f6,_,_⟩:=HB1.out
 obtain ⟨g5,g6⟩:=two_back c5 c6 (.string rb) (.int .i64 re)
 go_wp2
 refine bodyPost_ret (v := .agg #[.string rb,.int .i64 re]) (by simp [results,Tryz.results275,go_sem,g5,g6]) rfl ?_
 refine ⟨rfl,?_⟩
 rw [HK.out]
 exact ((HB1.out.below).setCell (p:=⟨k+1+1,0,none⟩) (by show k≤k+1+1;omega) _).setCell (p:=⟨k+1+1,1,none⟩) (by show k≤k+1+1;omega) _
def gcdZ (x y:Int):Int:=(Nat.gcd x.natAbs y.natAbs:Nat)
theorem gcdZ_short {x y:Int} (hx:short x) (hy:short y):short (gcdZ x y):=by
 show Int.natAbs _<lim
 unfold gcdZ
 rw [Int.natAbs_natCast]
 by_cases h0:x.natAbs=0
 ·rw [h0,Nat.gcd_zero_left];exact hy
 ·exact Nat.lt_of_le_of_lt (Nat.gcd_le_left _ (by omega)) hx
theorem GcdL_res (x y:Int) (w:World) (hx:short x) (hy:short y) (ht:Tab w) :
  Calls Tryz.prog 195 #[.string (strB x),.string (strB y)] w fun e W'=>e = .returned (.tuple #[.string (LB (mkL (gcdZ x y))),.int .i64 (LE (mkL (gcdZ x y)))])∧Below w.heap.size w W':=by
 rw [mkL_some (gcdZ_short hx hy)]
 exact Gcd_strs2 x y w hx hy ht
theorem fdiv_short {x y:Int} (hx:short x) (h0:y≠0):short (x.fdiv y):=Nat.lt_of_le_of_lt (fdiv_abs (x:=x) h0).1 hx
theorem quot_res (x y:Int) (w:World) (hx:short x) (hy:short y) (h0:y≠0) (ht:Tab w) :
  Calls Tryz.prog 277 #[.string (strB x),.string (strB y)] w fun e W'=>e = .returned (.tuple #[.string (LB (mkL (x.fdiv y))),.int .i64 (LE (mkL (x.fdiv y)))])∧Below w.heap.size w W':=by
 rw [mkL_some (fdiv_short hx h0)]
 have C:=Lib.hid (Divide_strs x y w hx hy h0 ht)
 clear hx hy h0 ht
 show Calls _ _ _ _ (fun e W'=>e = .returned (.tuple #[.string (strB (x.fdiv y)),.int .i64 0])∧_)
 generalize strB (x.fdiv y)=q at *
 generalize strB (x.fmod y)=r at *
 generalize strB x=sx at *
 generalize strB y=sy at *
 go_enter Tryz.func277,Tryz.ntmps277
 go_wp2_with fail
 refine C.out.mono ?_
 rintro e w' ⟨rfl,b⟩
 have B:=Lib.hid b;clear b C
 go_wp2
 go_ret2
 exact ⟨rfl,B.out⟩
theorem long_divisor (o p:Option Int) (w:World) (ho:Lwf o) (hp:Lwf p) (ht:Tab w) :
  Calls Tryz.prog 156 #[.agg #[.string (LB o),.int .i64 (LE o)],.agg #[.string (LB p),.int .i64 (LE p)]] w fun e W'=>e = .returned (.agg #[.string (LB (opL (gcdZ) o p)),.int .i64 (LE (opL (gcdZ) o p))])∧Below w.heap.size w W':=by
 have c:=fun W (hW:Below w.heap.size w W)=>with_any o p (opL (gcdZ) o p) 195 W (enters_of Tryz.func195 (by kernel_rfl) rfl) (fun h=>by rw [h];rfl) (fun h=>by rw [h];exact opL_none _ _)
  (fun x y hx hy W' hW'=>by
   have hb:=hW.trans (hW'.mono hW.size)
   subst hx;subst hy
   exact GcdL_res x y W' (ho x rfl) (hp y rfl) (ht.next hb))
 have C:=Lib.hid c;clear c ho hp ht
 generalize opL (gcdZ) o p=r at *
 generalize LB o=ob at *
 generalize LE o=oe at *
 generalize LB p=pb at *
 generalize LE p=pe at *
 generalize LB r=rb at *
 generalize LE r=re at *
 go_enter Tryz.func156,Tryz.ntmps156
 go_wp2_with fail
 have hbx:=boxes_new w (.string ob) (.int .i64 oe) (.string pb) (.int .i64 pe) (.string ⟨#[]⟩) (.int .i64 0) 86
 generalize ((w.alloc (.cells #[.string ob,.int .i64 oe] 86)).alloc (.cells #[.string pb,.int .i64 pe] 86)).alloc (.cells #[.string ⟨#[]⟩,.int .i64 0] 86)=W0 at *
 have CC:=Lib.hid (C.out W0 hbx.below)
 clear C
 generalize hk:w.heap.size=k at *
 have HK:=Lib.hid hk;clear hk
 have HB:=Lib.hid hbx
 clear hbx
 refine CC.out.mono ?_
 rintro e w1 ⟨rfl,b⟩
 have HB1:=Lib.hid (HB.out.next b)
 clear b CC HB
 obtain ⟨_,_,_,_,c5,c6,f5,f6,_,_⟩:=HB1.out
 obtain ⟨g5,g6⟩:=two_back c5 c6 (.string rb) (.int .i64 re)
 go_wp2
 refine bodyPost_ret (v := .agg #[.string rb,.int .i64 re]) (by simp [results,Tryz.results156,go_sem,g5,g6]) rfl ?_
 refine ⟨rfl,?_⟩
 rw [HK.out]
 exact ((HB1.out.below).setCell (p:=⟨k+1+1,0,none⟩) (by show k≤k+1+1;omega) _).setCell (p:=⟨k+1+1,1,none⟩) (by show k≤k+1+1;omega) _
theorem long_over (o p:Option Int) (w:World) (ho:Lwf o) (hp:Lwf p) (h0:p≠some 0) (ht:Tab w) :
  Calls Tryz.prog 273 #[.agg #[.string (LB o),.int .i64 (LE o)],.agg #[.string (LB p),.int .i64 (LE p)]] w fun e W'=>e = .returned (.agg #[.string (LB (opL (Int.fdiv) o p)),.int .i64 (LE (opL (Int.fdiv) o p))])∧Below w.heap.size w W':=by
 have c:=fun W (hW:Below w.heap.size w W)=>with_any o p (opL (Int.fdiv) o p) 277 W (enters_of Tryz.func277 (by kernel_rfl) rfl) (fun h=>by rw [h];rfl) (fun h=>by rw [h];exact opL_none _ _)
  (fun x y hx hy W' hW'=>by
   have hb:=hW.trans (hW'.mono hW.size)
   subst hx;subst hy
   exact quot_res x y W' (ho x rfl) (hp y rfl) (fun e=>h0 (by rw [e])) (ht.next hb))
 have C:=Lib.hid c;clear c ho hp ht
 generalize opL (Int.fdiv) o p=r at *
 generalize LB o=ob at *
 generalize LE o=oe at *
 generalize LB p=pb at *
 generalize LE p=pe at *
 generalize LB r=rb at *
 generalize LE r=re at *
 go_enter Tryz.func273,Tryz.ntmps273
 go_wp2_with fail
 have hbx:=boxes_new w (.string ob) (.int .i64 oe) (.string pb) (.int .i64 pe) (.string ⟨#[]⟩) (.int .i64 0) 86
 generalize ((w.alloc (.cells #[.string ob,.int .i64 oe] 86)).alloc (.cells #[.string pb,.int .i64 pe] 86)).alloc (.cells #[.string ⟨#[]⟩,.int .i64 0] 86)=W0 at *
 have CC:=Lib.hid (C.out W0 hbx.below)
 clear C
 generalize hk:w.heap.size=k at *
 have HK:=Lib.hid hk;clear hk
 have HB:=Lib.hid hbx
 clear hbx
 refine CC.out.mono ?_
 rintro e w1 ⟨rfl,b⟩
 have HB1:=Lib.hid (HB.out.next b)
 clear b CC HB
 obtain ⟨_,_,_,_,c5,c6,f5,f6,_,_⟩:=HB1.out
 obtain ⟨g5,g6⟩:=two_back c5 c6 (.string rb) (.int .i64 re)
 go_wp2
 refine bodyPost_ret (v := .agg #[.string rb,.int .i64 re]) (by simp [results,Tryz.results273,go_sem,g5,g6]) rfl ?_
 refine ⟨rfl,?_⟩
 rw [HK.out]
 exact ((HB1.out.below).setCell (p:=⟨k+1+1,0,none⟩) (by show k≤k+1+1;omega) _).setCell (p:=⟨k+1+1,1,none⟩) (by show k≤k+1+1;omega) _
theorem long_opp (o:Option Int) (w:World) (ho:Lwf o) (ht:Tab w) :
  Calls Tryz.prog 272 #[.agg #[.string (LB o),.int .i64 (LE o)]] w fun e W'=>e = .returned (.agg #[.string (LB (opL (· - ·) (some 0) o)),.int .i64 (LE (opL (· - ·) (some 0) o))])∧Below w.heap.size w W':=by
 have c:=fun W (hW:Below w.heap.size w W)=>long_minus (some 0) o W (some_wf (by show Int.natAbs 0<lim;exact lim_pos)) ho (ht.next hW)
 rw [show LB (some 0)=⟨#[48]⟩ from str_zero,show LE (some 0)=0 from rfl] at c
 have C:=Lib.hid c;clear c ho ht
 generalize opL (· - ·) (some 0) o=r at *
 generalize LB o=ob at *
 generalize LE o=oe at *
 generalize LB r=rb at *
 generalize LE r=re at *
 go_enter Tryz.func272,Tryz.ntmps272
 go_wp2_with fail
 have hb0:Below w.heap.size w ((w.alloc (.cells #[.string ob,.int .i64 oe] 86)).alloc (.cells #[.string ⟨#[]⟩,.int .i64 0] 86)):=by go_grown
 have c5:((w.alloc (.cells #[.string ob,.int .i64 oe] 86)).alloc (.cells #[.string ⟨#[]⟩,.int .i64 0] 86)).cell? ⟨w.heap.size+1,0,none⟩=some (.string ⟨#[]⟩):=by go_cell
 have c6:((w.alloc (.cells #[.string ob,.int .i64 oe] 86)).alloc (.cells #[.string ⟨#[]⟩,.int .i64 0] 86)).cell? ⟨w.heap.size+1,1,none⟩=some (.int .i64 0):=by go_cell
 have f5:((w.alloc (.cells #[.string ob,.int .i64 oe] 86)).alloc (.cells #[.string ⟨#[]⟩,.int .i64 0] 86)).frozen? ⟨w.heap.size+1,0,none⟩=false:=by simp [go_sem]
 have f6:((w.alloc (.cells #[.string ob,.int .i64 oe] 86)).alloc (.cells #[.string ⟨#[]⟩,.int .i64 0] 86)).frozen? ⟨w.heap.size+1,1,none⟩=false:=by simp [go_sem]
 have hs:w.heap.size+1<((w.alloc (.cells #[.string ob,.int .i64 oe] 86)).alloc (.cells #[.string ⟨#[]⟩,.int .i64 0] 86)).heap.size:=by simp
 generalize (w.alloc (.cells #[.string ob,.int .i64 oe] 86)).alloc (.cells #[.string ⟨#[]⟩,.int .i64 0] 86)=W0 at *
 have CC:=Lib.hid (C.out W0 hb0)
 clear C
 generalize hk:w.heap.size=k at *
 have HK:=Lib.hid hk;clear hk
 refine CC.out.mono ?_
 rintro e w1 ⟨rfl,b⟩
 have d5:=(b.cell (p:=⟨k+1,0,none⟩) hs).trans c5
 have d6:=(b.cell (p:=⟨k+1,1,none⟩) hs).trans c6
 have d7:=(b.frozen (p:=⟨k+1,0,none⟩) hs).trans f5
 have d8:=(b.frozen (p:=⟨k+1,1,none⟩) hs).trans f6
 have HB:=Lib.hid (hb0.trans (b.mono (by rw [←HK.out];exact hb0.size)))
 clear b CC hb0 c5 c6 f5 f6 hs
 obtain ⟨g5,g6⟩:=two_back d5 d6 (.string rb) (.int .i64 re)
 go_wp2
 refine bodyPost_ret (v := .agg #[.string rb,.int .i64 re]) (by simp [results,Tryz.results272,go_sem,g5,g6]) rfl ?_
 refine ⟨rfl,?_⟩
 rw [HK.out]
 exact ((HB.out).setCell (p:=⟨k+1,0,none⟩) (by show k≤k+1;omega) _).setCell (p:=⟨k+1,1,none⟩) (by show k≤k+1;omega) _
theorem strB_one:strB 1=⟨#[49]⟩:=str_of 1 [49] itoa_one
theorem long_one (z:Int) (w:World) :
  Calls Tryz.prog 157 #[.agg #[.string (strB z),.int .i64 0]] w fun e W'=>e = .returned (.bool (decide (z=1)))∧Below w.heap.size w W':=by
 have h:((strB z).toList == [49])=decide (z=1):=by
  rw [ByteArray.toList_eq,strB_data]
  by_cases hz:z=1
  ·subst hz;rw [decide_eq_true rfl,itoa_one];rfl
  ·rw [decide_eq_false hz,beq_eq_false_iff_ne]
   intro e;exact hz (itoa_inj (e.trans itoa_one.symm))
 have H:=Lib.hid h;clear h
 generalize strB z=s at *
 go_enter Tryz.func157,Tryz.ntmps157
 go_wp2
 go_ret
 exact ⟨ret_bool H.out,by go_grown⟩
theorem long_err (o:Option Int) (w:World) :
  Calls Tryz.prog 270 #[.agg #[.string (LB o),.int .i64 (LE o)]] w fun e W'=>e = .returned (.int .i64 (LE o))∧Below w.heap.size w W':=by
 generalize LB o=ob
 generalize LE o=oe
 go_enter Tryz.func270,Tryz.ntmps270
 go_wp2
 go_ret
 exact ⟨rfl,by go_grown⟩
theorem long_neg (z:Int) (w:World) :
  Calls Tryz.prog 271 #[.agg #[.string (strB z),.int .i64 0]] w fun e W'=>e = .returned (.bool (decide (z<0)))∧Below w.heap.size w W':=by
 have h:Lib.hasPrefix (strB z).data.toList [45]=decide (z<0):=by
  rw [←strB_neg]
  cases (strB z).data.toList with
  | nil=>rfl
  | cons a t =>
   show ((45:UInt8)==a && List.isPrefixOf [] t)=(some a==some 45)
   rw [List.isPrefixOf_nil_left,Bool.and_true]
   by_cases ha:a=45
   ·subst ha;rfl
   ·rw [show ((45:UInt8)==a)=false by rw [beq_eq_false_iff_ne];exact fun e=>ha e.symm]
    simp [ha]
 have H:=Lib.hid h;clear h
 generalize strB z=s at *
 go_enter Tryz.func271,Tryz.ntmps271
 go_wp2_with fail
 refine (Tryz.strings_HasPrefix s ⟨#[45]⟩ _).mono ?_
 rintro e w' ⟨rfl,rfl⟩
 go_wp2
 go_ret
 exact ⟨ret_bool H.out,by go_grown⟩
theorem long_append (z:Int) (l:List UInt8) (B g cap n:Nat) (hn:n=l.length) (w:World) (h:RowR B w l g cap) (hB:B≤w.heap.size) (hb:l.length+(Lib.itoa z).length≤140737488355328) :
  Calls Tryz.prog 269 #[.agg #[.string (strB z),.int .i64 0],.slice (some ⟨g,0,none⟩) n cap] w fun e W'=>∃ g' cap',e = .returned (.slice (some ⟨g',0,none⟩) (n+(Lib.itoa z).length) cap')∧RowR B W' (l++Lib.itoa z) g' cap'∧Below B w W':=by
 obtain ⟨i0,hi,hz0,hz1,hz2⟩:=info_parts info_u8
 have HI:=Lib.hid (And.intro hi (And.intro hz0 (And.intro hz1 hz2)));clear hi hz0 hz1 hz2
 have hs:=strB_data z
 have HH:=Lib.hid (And.intro (h.next ((Below.refl _ w).alloc (Nat.le_refl _) (.cells #[.string (strB z),.int .i64 0] 86))) (And.intro hs (And.intro hn hb)))
 clear h hs hn hb
 generalize Lib.itoa z=m at *
 generalize strB z=s at *
 go_enter Tryz.func269,Tryz.ntmps269
 go_wp2_with (at_builtin;refine wpList_append_rowR rfl _ _ 104 9 rfl 5 i0 Tryz.underlying104 HI.out.1 HI.out.2.1 HI.out.2.2.1 HI.out.2.2.2 HH.out.2.2.1 rfl HH.out.1 (.string s) s.data.toList rfl (src_string Tryz.underlying9 s) (by rw [HH.out.2.1];exact HH.out.2.2.2) (by simp;omega) ?_;intro w1 g1 c1 h1 hb1)
 have H1:=Lib.hid (And.intro h1 hb1);clear h1 hb1
 go_wp2
 go_ret
 have h2:=HH.out.2.1
 refine ⟨g1,c1,by rw [←h2];rfl,by have:=H1.out.1;rwa [h2] at this,?_⟩
 exact (((Below.refl B w).alloc hB _)).trans H1.out.2
def MOK (x:Int):Prop:=x=tooL∨x.natAbs<4611686018427387904
theorem timesM_ok (a b:Int):MOK (timesM a b):=by
 unfold timesM
 split
 ·exact .inr (by assumption)
 ·exact .inl rfl
theorem still {f:FuncId} {args:Array Value} {v:Value} {w:World} (h:Calls Tryz.prog f args w fun e W'=>e = .returned v∧w=W'):Calls Tryz.prog f args w fun e W'=>e = .returned v∧W'=w:=h.mono fun _ _ h=>⟨h.1,h.2.symm⟩
def plusM (x y:Int):Int:=if x=tooL∨y=tooL then tooL else x+y
theorem mach_plusM (x y:Int) (w:World) (hx:MOK x) (hy:MOK y) :
  Calls Tryz.prog 265 #[.int .i64 x,.int .i64 y] w fun e W'=>e = .returned (.int .i64 (plusM x y))∧w=W':=by
 unfold plusM
 by_cases h1:x=tooL
 ·subst h1
  rw [if_pos (.inl rfl)]
  exact mach_plus1 y w
 ·by_cases h2:y=tooL
  ·subst h2
   rw [if_pos (.inr rfl)]
   exact mach_plus2 x w
  ·rw [if_neg (by rintro (h | h);exact h1 h;exact h2 h)]
   have h3:=hx.resolve_left h1
   have h4:=hy.resolve_left h2
   exact mach_plus x y w (by omega) (by omega) (by omega) (by omega) (by omega) (by omega)
def B18 (x:Int):Prop:=x.natAbs<1000000000000000000
theorem B18.lo {x:Int} (h:B18 x) : -9223372036854775808<x:=by unfold B18 at h;omega
theorem B18.hi {x:Int} (h:B18 x):x≤9223372036854775807:=by unfold B18 at h;omega
theorem mth_times (n:Nat) (x:Int) (W:World):(method (n+1) 81 (.int .i64 x) "kingpost/rational.times").run Tryz.prog W = .ok (266,.int .i64 x) W:=by kernel_rfl
theorem mth_plus (n:Nat) (x:Int) (W:World):(method (n+1) 81 (.int .i64 x) "kingpost/rational.plus").run Tryz.prog W = .ok (265,.int .i64 x) W:=by kernel_rfl
theorem sumM_any (a b c d:Int) (w:World) (ha:B18 a) (hb:B18 b) (hc:B18 c) (hd:B18 d) :
  Calls Tryz.prog 92 #[.agg #[.int .i64 a,.int .i64 b],.agg #[.int .i64 c,.int .i64 d]] w fun e W'=>e = .returned (.agg #[.int .i64 (plusM (timesM a d) (timesM c b)),.int .i64 (timesM b d)])∧Below w.heap.size w W':=by
 have c1:=fun W=>still (mach_times a d W ha.lo ha.hi hd.lo hd.hi)
 have c2:=fun W=>still (mach_times c b W hc.lo hc.hi hb.lo hb.hi)
 have c3:=fun W=>still (mach_times b d W hb.lo hb.hi hd.lo hd.hi)
 have c4:=fun W=>still (mach_plusM (timesM a d) (timesM c b) W (timesM_ok a d) (timesM_ok c b))
 generalize timesM a d=t1 at *
 generalize timesM c b=t2 at *
 generalize timesM b d=t3 at *
 generalize plusM t1 t2=s at *
 have C:=Lib.hid (And.intro c1 (And.intro c2 (And.intro c3 c4)))
 clear c1 c2 c3 c4 ha hb hc hd
 go_enter Tryz.func92,Tryz.ntmps92
 go_wp2
 have hbx:=boxes_new w (.int .i64 a) (.int .i64 b) (.int .i64 c) (.int .i64 d) (.int .i64 0) (.int .i64 0) 124
 generalize ((w.alloc (.cells #[.int .i64 a,.int .i64 b] 124)).alloc (.cells #[.int .i64 c,.int .i64 d] 124)).alloc (.cells #[.int .i64 0,.int .i64 0] 124)=W0 at *
 generalize hk:w.heap.size=k at *
 have HK:=Lib.hid hk;clear hk
 have HBD:=Lib.hid hbx.drew
 clear hbx
 obtain ⟨c1,c2,c3,c4,c5,c6,f5,f6,_,_⟩:=HBD.out
 have m1:=mth_times
 have m2:=mth_plus
 have en1:∀ args W,(callFunc 266 args).run Tryz.prog W = .ok (.enter 266 args) W:=enters_of Tryz.func266 (by kernel_rfl) rfl
 have en2:∀ args W,(callFunc 265 args).run Tryz.prog W = .ok (.enter 265 args) W:=enters_of Tryz.func265 (by kernel_rfl) rfl
 go_still_tail 20,(by kernel_rfl)
 still_call (C.out.1 _)
 repeat still_step
 still_call (C.out.2.1 _)
 repeat still_step
 still_call (C.out.2.2.2 _)
 repeat still_step
 still_call (C.out.2.2.1 _)
 repeat still_step
 refine wpStill_nil ?_
 change wpList _ _ _ _ _ W0.drew
 clear c1 c2 c3 c4
 generalize W0.drew=W2 at *
 obtain ⟨g5,g6⟩:=two_back c5 c6 (.int .i64 s) (.int .i64 t3)
 go_wp2
 refine bodyPost_ret (v := .agg #[.int .i64 s,.int .i64 t3]) (by simp [results,Tryz.results92,go_sem,g5,g6]) rfl ?_
 refine ⟨rfl,?_⟩
 rw [HK.out]
 exact ((HBD.out.below).setCell (p:=⟨k+1+1,0,none⟩) (by show k≤k+1+1;omega) _).setCell (p:=⟨k+1+1,1,none⟩) (by show k≤k+1+1;omega) _
theorem fitM_any (a b:Int) (w:World) :
  Calls Tryz.prog 158 #[.agg #[.int .i64 a,.int .i64 b]] w fun e W'=>e = .returned (.int .i64 (if a=tooL∨b=tooL then 4 else 0))∧Below w.heap.size w W':=by
 have c1:=fun W=>mach_err a W
 have C:=Lib.hid (And.intro c1 (fun W=>mach_err b W))
 clear c1
 by_cases ha:a=tooL
 ·rw [if_pos ha] at C
  rw [if_pos (.inl ha)]
  clear ha
  go_enter Tryz.func158,Tryz.ntmps158
  go_wp2_with fail
  refine (C.out.1 _).mono ?_
  rintro e w' ⟨rfl,rfl⟩
  go_wp2
  go_ret
  exact ⟨rfl,(Below.refl _ w).alloc (Nat.le_refl _) _⟩
 ·rw [if_neg ha] at C
  have hr:(if a=tooL∨b=tooL then (4:Int) else 0)=if b=tooL then 4 else 0:=by
   by_cases hb:b=tooL
   ·rw [if_pos (.inr hb),if_pos hb]
   ·rw [if_neg (by rintro (h | h);exact ha h;exact hb h),if_neg hb]
  rw [hr]
  clear ha hr
  generalize (if b=tooL then (4:Int) else 0)=r at *
  go_enter Tryz.func158,Tryz.ntmps158
  go_wp2_with fail
  refine (C.out.1 _).mono ?_
  rintro e w' ⟨rfl,rfl⟩
  go_wp2_with fail
  refine (C.out.2 _).mono ?_
  rintro e w' ⟨rfl,rfl⟩
  go_wp2
  go_ret
  exact ⟨rfl,(Below.refl _ w).alloc (Nat.le_refl _) _⟩
def bN (s:ByteArray):ByteArray:=⟨(cutN s.data.toList).toArray⟩
def bD (s:ByteArray):ByteArray:=⟨(cutD s.data.toList).toArray⟩
theorem bN_data (s:ByteArray):(bN s).data.toList=cutN s.data.toList:=by simp [bN]
theorem bD_data (s:ByteArray):(bD s).data.toList=cutD s.data.toList:=by simp [bD]
theorem bytes_ext {s t:ByteArray} (h:s.data.toList=t.data.toList):s=t:=by
 cases s;cases t;congr 1;exact Array.ext' h
theorem bN_size (s:ByteArray):(bN s).size≤s.size:=by rw [←size_len,bN_data,←size_len];exact cutN_le _
theorem bD_size (s:ByteArray) (h:0<s.size):(bD s).size≤s.size:=by
 rw [←size_len,bD_data,←size_len]
 rcases cut_eq s.data.toList with ⟨_,_,h2⟩ | ⟨_,h2⟩
 ·rw [h2,size_len];exact h
 ·have:=congrArg List.length h2
  simp only [List.length_append,List.length_cons] at this;omega
theorem cut_no {s:ByteArray} (h:hasS s.data.toList=false):bN s=s∧bD s=⟨#[49]⟩:=by
 rcases cut_eq s.data.toList with ⟨_,h2,h3⟩ | ⟨h2,_⟩
 ·exact ⟨bytes_ext (by rw [bN_data];exact h2.symm),bytes_ext (by rw [bD_data,h3])⟩
 ·rw [h] at h2;cases h2
theorem cutN_ns (l:List UInt8):(47:UInt8) ∉ cutN l:=by
 unfold cutN
 induction l with
 | nil=>simp
 | cons a t ih =>
  by_cases ha:a=47
  ·subst ha;rw [List.takeWhile_cons_of_neg (by decide)];simp
  ·rw [List.takeWhile_cons_of_pos (by simpa using ha),List.mem_cons,not_or]
   exact ⟨fun e=>ha e.symm,ih⟩
theorem cut_yes {s:ByteArray} (h:hasS s.data.toList=true):Lib.indexByte s.data.toList 47=((bN s).size:Int)∧s.extract 0 (bN s).size=bN s∧s.extract ((bN s).size+1) s.size=bD s∧(bN s).size+1≤s.size:=by
 rcases cut_eq s.data.toList with ⟨h2,_,_⟩ | ⟨_,h2⟩
 ·rw [h] at h2;cases h2
 ·have hns:=cutN_ns s.data.toList
  have hl:(bN s).size=(cutN s.data.toList).length:=by rw [←size_len,bN_data]
  have hlen:=congrArg List.length h2
  simp only [List.length_append,List.length_cons] at hlen
  rw [size_len] at hlen
  have hbn:=bN_data s
  have hbd:=bD_data s
  rw [hl]
  generalize cutN s.data.toList=n at *
  generalize cutD s.data.toList=d at *
  refine ⟨?_,?_,?_,by omega⟩
  ·rw [h2];exact indexByte_at (c:=47) d hns
  ·apply bytes_ext
   rw [Lib.extract_data,hbn,h2]
   simp
  ·apply bytes_ext
   rw [Lib.extract_data,hbd,List.take_of_length_le (by rw [List.length_drop,size_len];omega),h2,List.drop_append,List.drop_eq_nil_of_le (by omega)]
   simp
def bA (s:ByteArray):ByteArray:=if hasS s.data.toList then bD s else ⟨#[]⟩
theorem sCut_any (s:ByteArray) (w:World) (hs:s.size≤maxLen) :
  Calls Tryz.prog 59 #[.string s,.string ⟨#[47]⟩] w fun e W'=>e = .returned (.tuple #[.string (bN s),.string (bA s),.bool (hasS s.data.toList)])∧Below w.heap.size w W':=by
 unfold maxLen at hs
 have ci:=fun W=>Tryz.stringslite_Index_one s 47 W
 cases h:hasS s.data.toList
 ·have hn:(47:UInt8) ∉ s.data.toList:=by unfold hasS at h;simpa using h
  rw [indexByte_no hn] at ci
  obtain ⟨e1,_⟩:=cut_no h
  rw [e1,show bA s=⟨#[]⟩ by unfold bA;rw [h];rfl]
  have C:=Lib.hid ci
  clear ci hn h e1
  go_enter Tryz.func59,Tryz.ntmps59
  go_wp2_with fail
  refine (C.out _).mono ?_
  rintro e w' ⟨rfl,rfl⟩
  go_wp2
  go_ret3
  exact ⟨rfl,Below.refl _ _⟩
 ·obtain ⟨e1,e2,e3,e4⟩:=cut_yes h
  rw [e1] at ci
  rw [show bA s=bD s by unfold bA;rw [h];rfl]
  have C:=Lib.hid ci
  clear ci h e1
  generalize (bN s).size=k at *
  go_enter Tryz.func59,Tryz.ntmps59
  go_wp2_with fail
  refine (C.out _).mono ?_
  rintro e w' ⟨rfl,rfl⟩
  go_wp2
  go_quiet (fail)
  go_wp2
  go_ret3
  exact ⟨rfl,⟨rfl,rfl,rfl,Nat.le_refl _,fun _ _=>rfl⟩⟩
theorem strCut_any (s:ByteArray) (w:World) (hs:s.size≤maxLen) :
  Calls Tryz.prog 29 #[.string s,.string ⟨#[47]⟩] w fun e W'=>e = .returned (.tuple #[.string (bN s),.string (bA s),.bool (hasS s.data.toList)])∧Below w.heap.size w W':=by
 have C:=Lib.hid (fun W=>sCut_any s W hs)
 clear hs
 generalize bN s=n at *
 generalize bA s=d at *
 generalize hasS s.data.toList=b at *
 go_enter Tryz.func29,Tryz.ntmps29
 go_wp2_with fail
 refine (C.out _).mono ?_
 rintro e w' ⟨rfl,hb⟩
 have B:=Lib.hid hb;clear hb
 go_wp2
 go_ret3
 exact ⟨rfl,B.out⟩
theorem cut_any (s:ByteArray) (w:World) (hs:s.size≤maxLen) :
  Calls Tryz.prog 120 #[.string s] w fun e W'=>e = .returned (.tuple #[.string (bN s),.string (bD s),.bool (hasS s.data.toList)])∧Below w.heap.size w W':=by
 have C:=Lib.hid (fun W=>strCut_any s W hs)
 clear hs
 cases h:hasS s.data.toList
 ·obtain ⟨e1,e2⟩:=cut_no h
  rw [e1,h] at C
  rw [e1,e2]
  clear e1 e2 h
  generalize bA s=d at *
  go_enter Tryz.func120,Tryz.ntmps120
  go_wp2_with fail
  refine (C.out _).mono ?_
  rintro e w' ⟨rfl,hb⟩
  have B:=Lib.hid hb;clear hb
  go_wp2
  go_ret3
  exact ⟨rfl,B.out⟩
 ·rw [show bA s=bD s by unfold bA;rw [h];rfl,h] at C
  clear h
  generalize bN s=n at *
  generalize bD s=d at *
  go_enter Tryz.func120,Tryz.ntmps120
  go_wp2_with fail
  refine (C.out _).mono ?_
  rintro e w' ⟨rfl,hb⟩
  have B:=Lib.hid hb;clear hb
  go_wp2
  go_ret3
  exact ⟨rfl,B.out⟩
def mOK (l:List UInt8):Bool:=dOK (cutN l) && (!hasS l || (dOK (cutD l) && decide (1<valOf (cutD l)) && decide (Nat.gcd (valOf (cutN l)).natAbs (valOf (cutD l)).natAbs=1)))
theorem dOK_parts {l:List UInt8} (h:dOK l=true):chk l=0∧B18 (valOf l):=by
 unfold dOK at h
 simp only [Bool.and_eq_true,beq_iff_eq,decide_eq_true_eq] at h
 refine ⟨h.1,?_⟩
 unfold B18
 rw [valOf_abs]
 exact natOf_18 _ (chk_dig h.1) h.2
theorem mOK_chk {l:List UInt8} (h:mOK l=true):chkQ l=0∧B18 (valOf (cutN l))∧B18 (valOf (cutD l)):=by
 unfold mOK at h
 simp only [Bool.and_eq_true,Bool.or_eq_true,Bool.not_eq_true',decide_eq_true_eq] at h
 obtain ⟨h1,h2⟩:=h
 obtain ⟨k1,b1⟩:=dOK_parts h1
 cases hs:hasS l
 ·have hd:cutD l = [49]:=by unfold cutD;rw [hs];rfl
  have k2:chk (cutD l)=0:=by rw [hd];decide
  refine ⟨?_,b1,by rw [hd,valOf_one];unfold B18;decide⟩
  have hf:formQ l=true:=by unfold formQ;rw [k1,k2,hs,hd];rfl
  unfold chkQ
  rw [hf,if_neg (by decide),if_neg (by rw [k1,k2];simp),if_pos (by rw [hd,natOf_one,Nat.gcd_one_right])]
 ·rcases h2 with h2 | ⟨⟨h3,h4⟩,h5⟩
  ·rw [hs] at h2;cases h2
  ·obtain ⟨k2,b2⟩:=dOK_parts h3
   have hneg:isNeg (cutD l)=false:=by rw [isNeg_val k2];exact decide_eq_false (by omega)
   have h48:cutD l ≠ [48]:=fun e=>by rw [e] at h4;revert h4;decide
   have h49:(cutD l == [49])=false:=by rw [beq_eq_false_iff_ne];intro e;rw [e,valOf_one] at h4;omega
   refine ⟨?_,b1,b2⟩
   have hf:formQ l=true:=by unfold formQ;rw [k1,k2,hneg,h49,Bool.and_false];simp [h48]
   unfold chkQ
   rw [hf,if_neg (by decide),if_neg (by rw [k1,k2];simp),if_pos (by rw [←natOf_val hneg,Int.natAbs_natCast] at h5;exact h5)]
end Go.Proofs.YteckjifdpcbaeaaGreatDoor
