/- Parts of the proof of the text YtocalfjfjjljnaaGreatDoorZO44. -/
import Derived.StillTailTactics
import Derived.Test.YtocalfjfjjljnaaGreatDoorZO1
import Derived.Test.YtocalfjfjjljnaaGreatDoorZO15
import Derived.Test.YtocalfjfjjljnaaGreatDoorZO5
import Derived.Test.YtocalfjfjjljnaaGreatDoorZO8
import Derived.Test.YtocalfjfjjljnaaGreatDoorZO9
set_option linter.all false
set_option maxRecDepth 100000
set_option maxHeartbeats 8000000
namespace Go.Proofs.YtocalfjfjjljnaaGreatDoor
open Go.RowKit
def LB:Option Int→ByteArray
 | some z=>aa z
 | none=>⟨#[]⟩
def LE:Option Int→Int
 | some _=>0
 | none=>4
def mkL (z:Int):Option Int:=if short z then some z else none
def Lwf (o:Option Int):Prop:=∀ z,o=some z→short z
def opL (f:Int→Int→Int) (o p:Option Int):Option Int:=match o,p with
 | some x,some y=>mkL (f x y)
 | _,_=>none
theorem Cf (z:Int):Lwf (mkL z):=fun y h=>by
 unfold mkL at h
 split at h
 ·rw [←Option.some.inj h];assumption
 ·cases h
theorem eh (f:Int→Int→Int) (o p:Option Int):Lwf (opL f o p):=by
 unfold opL
 split
 ·exact Cf _
 ·intro z h;cases h
theorem hO (f:Int→Int→Int) (o:Option Int):opL f o none=none:=by unfold opL;split <;> first | rfl | contradiction
theorem gD {z:Int} (h:short z):Lwf (some z):=fun y hy=>by rw [←Option.some.inj hy];exact h
theorem et {z:Int} (h:short z):mkL z=some z:=if_pos h
theorem kZ (z:Int):fH z=LB (mkL z):=by
 unfold fH mkL
 by_cases h:short z
 ·rw [if_pos (show z.natAbs<lim from h),if_pos h];rfl
 ·rw [if_neg (show ¬ z.natAbs<lim from h),if_neg h];rfl
theorem k9 (z:Int):fI z=LE (mkL z):=by
 unfold fI mkL
 by_cases h:short z
 ·rw [if_pos (show z.natAbs<lim from h),if_pos h];rfl
 ·rw [if_neg (show ¬ z.natAbs<lim from h),if_neg h];rfl
theorem zZ (x y:Int) (w:World) (hx:short x) (hy:short y) (ht:Tab w) :
  Calls Tryz.prog 69 #[.string (aa x),.string (aa y)] w fun e W'=>e = .returned (.tuple #[.string (LB (mkL (x+y))),.int .i64 (LE (mkL (x+y)))])∧Below w.heap.size w W':=by
 have c:=Add_any (aa x) (aa y) w (by have:=aJ hx;unfold maxLen;omega) (by have:=aJ hy;unfold maxLen;omega) ht
 rwa [dG hx hy,aW,aW,fw,fx,kZ,k9] at c
theorem z8 (x y:Int) (w:World) (hx:short x) (hy:short y) (ht:Tab w) :
  Calls Tryz.prog 256 #[.string (aa x),.string (aa y)] w fun e W'=>e = .returned (.tuple #[.string (LB (mkL (x - y))),.int .i64 (LE (mkL (x - y)))])∧Below w.heap.size w W':=by
 have c:=Bx (aa x) (aa y) w (by have:=aJ hx;unfold maxLen;omega) (by have:=aJ hy;unfold maxLen;omega) ht
 rwa [dG hx hy,aW,aW,fw,fx,kZ,k9] at c
theorem xJ (x y:Int) (w:World) (hx:short x) (hy:short y) (ht:Tab w) :
  Calls Tryz.prog 67 #[.string (aa x),.string (aa y)] w fun e W'=>e = .returned (.tuple #[.string (LB (mkL (x*y))),.int .i64 (LE (mkL (x*y)))])∧Below w.heap.size w W':=by
 have c:=Mul_any (aa x) (aa y) w (by have:=aJ hx;unfold maxLen;omega) (by have:=aJ hy;unfold maxLen;omega) ht
 rwa [dG hx hy,aW,aW,fw,fx,kZ,k9] at c
theorem ja (o p r:Option Int) (k:Nat) (w:World) (eg:∀ args W,(callFunc k args).run Tryz.prog W = .ok (.enter k args) W) (h0:o=none→r=none) (h1:p=none→r=none)
  (H:∀ x y,o=some x→p=some y→CqB w k #[.string (aa x),.string (aa y)] (.tuple #[.string (LB r),.int .i64 (LE r)])) :
  Calls Tryz.prog 168 #[.agg #[.string (LB o),.int .i64 (LE o)],.agg #[.string (LB p),.int .i64 (LE p)],.func (.func k) #[] #[]] w fun e W'=>e = .returned (.agg #[.string (LB r),.int .i64 (LE r)])∧Below w.heap.size w W':=by
 cases o with
 | none =>
  rw [h0 rfl]
  clear H
  generalize LB p=pb
  generalize LE p=pe
  simp only [LB,LE]
  go_enter Tryz.func168,Tryz.ntmps168
  go_wp2
  refine bodyPost_ret (v := .agg #[.string ⟨#[]⟩,.int .i64 4]) (by simp [results,Tryz.results168,go_sem]) rfl ?_
  exact ⟨rfl,by go_grown⟩
 | some x =>
  cases p with
  | none =>
   rw [h1 rfl]
   clear H
   simp only [LB,LE]
   generalize aa x=sx
   go_enter Tryz.func168,Tryz.ntmps168
   go_wp2
   refine bodyPost_ret (v := .agg #[.string ⟨#[]⟩,.int .i64 4]) (by simp [results,Tryz.results168,go_sem]) rfl ?_
   exact ⟨rfl,by go_grown⟩
  | some y =>
   have C:=Ha (H x y rfl rfl)
   clear H h0 h1
   generalize LB r=rb at *
   generalize LE r=re at *
   simp only [LB,LE]
   generalize aa x=sx at *
   generalize aa y=sy at *
   go_enter Tryz.func168,Tryz.ntmps168
   go_wp2_with fail
   have hbx:=bK w (.string sx) (.int .i64 0) (.string sy) (.int .i64 0) (.string ⟨#[]⟩) (.int .i64 0) 69
   generalize ((w.alloc (.cells #[.string sx,.int .i64 0] 69)).alloc (.cells #[.string sy,.int .i64 0] 69)).alloc (.cells #[.string ⟨#[]⟩,.int .i64 0] 69)=W0 at *
   have c:=C.out W0 hbx.below
   have CC:=Ha c
   clear c C
   generalize hk:w.heap.size=k at *
   have HK:=Ha hk;clear hk
   have HB:=Ha hbx
   clear hbx
   refine CC.out.mono ?_
   rintro e w1 ⟨rfl,b⟩
   have HB1:=Ha (HB.out.next b)
   clear b CC HB
   obtain ⟨_,_,_,_,c5,c6,f5,f6,_,_⟩:=HB1.out
   obtain ⟨g5,g6⟩:=ap c5 c6 (.string rb) (.int .i64 re)
   go_wp2
   refine bodyPost_ret (v := .agg #[.string rb,.int .i64 re]) (by simp [results,Tryz.results168,go_sem,g5,g6]) rfl ?_
   refine ⟨rfl,?_⟩
   rw [HK.out]
   exact ((HB1.out.below).setCell (p:=⟨k+1+1,0,none⟩) (by show k≤k+1+1;omega) _).setCell (p:=⟨k+1+1,1,none⟩) (by show k≤k+1+1;omega) _
theorem l5 (o p:Option Int) (w:World) (ho:Lwf o) (hp:Lwf p) (ht:Tab w) :
  Calls Tryz.prog 252 #[.agg #[.string (LB o),.int .i64 (LE o)],.agg #[.string (LB p),.int .i64 (LE p)]] w fun e W'=>e = .returned (.agg #[.string (LB (opL (· + ·) o p)),.int .i64 (LE (opL (· + ·) o p))])∧Below w.heap.size w W':=by
 have c:=fun W (hW:Below w.heap.size w W)=>ja o p (opL (· + ·) o p) 69 W (enters_of Tryz.func69 (by kernel_rfl) rfl) (fun h=>by rw [h];rfl) (fun h=>by rw [h];exact hO _ _)
  (fun x y hx hy W' hW'=>by
   have hb:=hW.trans (hW'.mono hW.size)
   subst hx;subst hy
   exact zZ x y W' (ho x rfl) (hp y rfl) (ht.next hb))
 have C:=Ha c;clear c ho hp ht
 generalize opL (· + ·) o p=r at *
 generalize LB o=ob at *
 generalize LE o=oe at *
 generalize LB p=pb at *
 generalize LE p=pe at *
 generalize LB r=rb at *
 generalize LE r=re at *
 go_enter Tryz.func252,Tryz.ntmps252
 go_wp2_with fail
 have hbx:=bK w (.string ob) (.int .i64 oe) (.string pb) (.int .i64 pe) (.string ⟨#[]⟩) (.int .i64 0) 69
 generalize ((w.alloc (.cells #[.string ob,.int .i64 oe] 69)).alloc (.cells #[.string pb,.int .i64 pe] 69)).alloc (.cells #[.string ⟨#[]⟩,.int .i64 0] 69)=W0 at *
 have CC:=Ha (C.out W0 hbx.below)
 clear C
 generalize hk:w.heap.size=k at *
 have HK:=Ha hk;clear hk
 have HB:=Ha hbx
 clear hbx
 refine CC.out.mono ?_
 rintro e w1 ⟨rfl,b⟩
 have HB1:=Ha (HB.out.next b)
 clear b CC HB
 obtain ⟨_,_,_,_,c5,c6,f5,f6,_,_⟩:=HB1.out
 obtain ⟨g5,g6⟩:=ap c5 c6 (.string rb) (.int .i64 re)
 go_wp2
 refine bodyPost_ret (v := .agg #[.string rb,.int .i64 re]) (by simp [results,Tryz.results252,go_sem,g5,g6]) rfl ?_
 refine ⟨rfl,?_⟩
 rw [HK.out]
 exact ((HB1.out.below).setCell (p:=⟨k+1+1,0,none⟩) (by show k≤k+1+1;omega) _).setCell (p:=⟨k+1+1,1,none⟩) (by show k≤k+1+1;omega) _
theorem iJ (o p:Option Int) (w:World) (ho:Lwf o) (hp:Lwf p) (ht:Tab w) :
  Calls Tryz.prog 254 #[.agg #[.string (LB o),.int .i64 (LE o)],.agg #[.string (LB p),.int .i64 (LE p)]] w fun e W'=>e = .returned (.agg #[.string (LB (opL (· - ·) o p)),.int .i64 (LE (opL (· - ·) o p))])∧Below w.heap.size w W':=by
 have c:=fun W (hW:Below w.heap.size w W)=>ja o p (opL (· - ·) o p) 256 W (enters_of Tryz.func256 (by kernel_rfl) rfl) (fun h=>by rw [h];rfl) (fun h=>by rw [h];exact hO _ _)
  (fun x y hx hy W' hW'=>by
   have hb:=hW.trans (hW'.mono hW.size)
   subst hx;subst hy
   exact z8 x y W' (ho x rfl) (hp y rfl) (ht.next hb))
 have C:=Ha c;clear c ho hp ht
 generalize opL (· - ·) o p=r at *
 generalize LB o=ob at *
 generalize LE o=oe at *
 generalize LB p=pb at *
 generalize LE p=pe at *
 generalize LB r=rb at *
 generalize LE r=re at *
 go_enter Tryz.func254,Tryz.ntmps254
 go_wp2_with fail
 have hbx:=bK w (.string ob) (.int .i64 oe) (.string pb) (.int .i64 pe) (.string ⟨#[]⟩) (.int .i64 0) 69
 generalize ((w.alloc (.cells #[.string ob,.int .i64 oe] 69)).alloc (.cells #[.string pb,.int .i64 pe] 69)).alloc (.cells #[.string ⟨#[]⟩,.int .i64 0] 69)=W0 at *
 have CC:=Ha (C.out W0 hbx.below)
 clear C
 generalize hk:w.heap.size=k at *
 have HK:=Ha hk;clear hk
 have HB:=Ha hbx
 clear hbx
 refine CC.out.mono ?_
 rintro e w1 ⟨rfl,b⟩
 have HB1:=Ha (HB.out.next b)
 clear b CC HB
 obtain ⟨_,_,_,_,c5,c6,f5,f6,_,_⟩:=HB1.out
 obtain ⟨g5,g6⟩:=ap c5 c6 (.string rb) (.int .i64 re)
 go_wp2
 refine bodyPost_ret (v := .agg #[.string rb,.int .i64 re]) (by simp [results,Tryz.results254,go_sem,g5,g6]) rfl ?_
 refine ⟨rfl,?_⟩
 rw [HK.out]
 exact ((HB1.out.below).setCell (p:=⟨k+1+1,0,none⟩) (by show k≤k+1+1;omega) _).setCell (p:=⟨k+1+1,1,none⟩) (by show k≤k+1+1;omega) _
theorem ky (o p:Option Int) (w:World) (ho:Lwf o) (hp:Lwf p) (ht:Tab w) :
  Calls Tryz.prog 253 #[.agg #[.string (LB o),.int .i64 (LE o)],.agg #[.string (LB p),.int .i64 (LE p)]] w fun e W'=>e = .returned (.agg #[.string (LB (opL (· * ·) o p)),.int .i64 (LE (opL (· * ·) o p))])∧Below w.heap.size w W':=by
 have c:=fun W (hW:Below w.heap.size w W)=>ja o p (opL (· * ·) o p) 67 W (enters_of Tryz.func67 (by kernel_rfl) rfl) (fun h=>by rw [h];rfl) (fun h=>by rw [h];exact hO _ _)
  (fun x y hx hy W' hW'=>by
   have hb:=hW.trans (hW'.mono hW.size)
   subst hx;subst hy
   exact xJ x y W' (ho x rfl) (hp y rfl) (ht.next hb))
 have C:=Ha c;clear c ho hp ht
 generalize opL (· * ·) o p=r at *
 generalize LB o=ob at *
 generalize LE o=oe at *
 generalize LB p=pb at *
 generalize LE p=pe at *
 generalize LB r=rb at *
 generalize LE r=re at *
 go_enter Tryz.func253,Tryz.ntmps253
 go_wp2_with fail
 have hbx:=bK w (.string ob) (.int .i64 oe) (.string pb) (.int .i64 pe) (.string ⟨#[]⟩) (.int .i64 0) 69
 generalize ((w.alloc (.cells #[.string ob,.int .i64 oe] 69)).alloc (.cells #[.string pb,.int .i64 pe] 69)).alloc (.cells #[.string ⟨#[]⟩,.int .i64 0] 69)=W0 at *
 have CC:=Ha (C.out W0 hbx.below)
 clear C
 generalize hk:w.heap.size=k at *
 have HK:=Ha hk;clear hk
 have HB:=Ha hbx
 clear hbx
 refine CC.out.mono ?_
 rintro e w1 ⟨rfl,b⟩
 have HB1:=Ha (HB.out.next b)
 clear b CC HB
 obtain ⟨_,_,_,_,c5,c6,f5,f6,_,_⟩:=HB1.out
 obtain ⟨g5,g6⟩:=ap c5 c6 (.string rb) (.int .i64 re)
 go_wp2
 refine bodyPost_ret (v := .agg #[.string rb,.int .i64 re]) (by simp [results,Tryz.results253,go_sem,g5,g6]) rfl ?_
 refine ⟨rfl,?_⟩
 rw [HK.out]
 exact ((HB1.out.below).setCell (p:=⟨k+1+1,0,none⟩) (by show k≤k+1+1;omega) _).setCell (p:=⟨k+1+1,1,none⟩) (by show k≤k+1+1;omega) _
def aD (x y:Int):Int:=(Nat.gcd x.natAbs y.natAbs:Nat)
theorem iK {x y:Int} (hx:short x) (hy:short y):short (aD x y):=by
 show Int.natAbs _<lim
 unfold aD
 rw [Int.natAbs_natCast]
 by_cases h0:x.natAbs=0
 ·rw [h0,Nat.gcd_zero_left];exact hy
 ·exact Nat.lt_of_le_of_lt (Nat.gcd_le_left _ (by omega)) hx
theorem xK (x y:Int) (w:World) (hx:short x) (hy:short y) (ht:Tab w) :
  Calls Tryz.prog 169 #[.string (aa x),.string (aa y)] w fun e W'=>e = .returned (.tuple #[.string (LB (mkL (aD x y))),.int .i64 (LE (mkL (aD x y)))])∧Below w.heap.size w W':=by
 rw [et (iK hx hy)]
 exact vT x y w hx hy ht
theorem dR {x y:Int} (hx:short x) (h0:y≠0):short (x.fdiv y):=Nat.lt_of_le_of_lt (nJ (x:=x) h0).1 hx
theorem xL (x y:Int) (w:World) (hx:short x) (hy:short y) (h0:y≠0) (ht:Tab w) :
  Calls Tryz.prog 255 #[.string (aa x),.string (aa y)] w fun e W'=>e = .returned (.tuple #[.string (LB (mkL (x.fdiv y))),.int .i64 (LE (mkL (x.fdiv y)))])∧Below w.heap.size w W':=by
 rw [et (dR hx h0)]
 have C:=Ha (i7 x y w hx hy h0 ht)
 clear hx hy h0 ht
 show Calls _ _ _ _ (fun e W'=>e = .returned (.tuple #[.string (aa (x.fdiv y)),.int .i64 0])∧_)
 generalize aa (x.fdiv y)=q at *
 generalize aa (x.fmod y)=r at *
 generalize aa x=sx at *
 generalize aa y=sy at *
 go_enter Tryz.func255,Tryz.ntmps255
 go_wp2_with fail
 refine C.out.mono ?_
 rintro e w' ⟨rfl,b⟩
 have B:=Ha b;clear b C
 go_wp2
 go_ret2
 exact ⟨rfl,B.out⟩
theorem pW (o p:Option Int) (w:World) (ho:Lwf o) (hp:Lwf p) (ht:Tab w) :
  Calls Tryz.prog 123 #[.agg #[.string (LB o),.int .i64 (LE o)],.agg #[.string (LB p),.int .i64 (LE p)]] w fun e W'=>e = .returned (.agg #[.string (LB (opL (aD) o p)),.int .i64 (LE (opL (aD) o p))])∧Below w.heap.size w W':=by
 have c:=fun W (hW:Below w.heap.size w W)=>ja o p (opL (aD) o p) 169 W (enters_of Tryz.func169 (by kernel_rfl) rfl) (fun h=>by rw [h];rfl) (fun h=>by rw [h];exact hO _ _)
  (fun x y hx hy W' hW'=>by
   have hb:=hW.trans (hW'.mono hW.size)
   subst hx;subst hy
   exact xK x y W' (ho x rfl) (hp y rfl) (ht.next hb))
 have C:=Ha c;clear c ho hp ht
 generalize opL (aD) o p=r at *
 generalize LB o=ob at *
 generalize LE o=oe at *
 generalize LB p=pb at *
 generalize LE p=pe at *
 generalize LB r=rb at *
 generalize LE r=re at *
 go_enter Tryz.func123,Tryz.ntmps123
 go_wp2_with fail
 have hbx:=bK w (.string ob) (.int .i64 oe) (.string pb) (.int .i64 pe) (.string ⟨#[]⟩) (.int .i64 0) 69
 generalize ((w.alloc (.cells #[.string ob,.int .i64 oe] 69)).alloc (.cells #[.string pb,.int .i64 pe] 69)).alloc (.cells #[.string ⟨#[]⟩,.int .i64 0] 69)=W0 at *
 have CC:=Ha (C.out W0 hbx.below)
 clear C
 generalize hk:w.heap.size=k at *
 have HK:=Ha hk;clear hk
 have HB:=Ha hbx
 clear hbx
 refine CC.out.mono ?_
 rintro e w1 ⟨rfl,b⟩
 have HB1:=Ha (HB.out.next b)
 clear b CC HB
 obtain ⟨_,_,_,_,c5,c6,f5,f6,_,_⟩:=HB1.out
 obtain ⟨g5,g6⟩:=ap c5 c6 (.string rb) (.int .i64 re)
 go_wp2
 refine bodyPost_ret (v := .agg #[.string rb,.int .i64 re]) (by simp [results,Tryz.results123,go_sem,g5,g6]) rfl ?_
 refine ⟨rfl,?_⟩
 rw [HK.out]
 exact ((HB1.out.below).setCell (p:=⟨k+1+1,0,none⟩) (by show k≤k+1+1;omega) _).setCell (p:=⟨k+1+1,1,none⟩) (by show k≤k+1+1;omega) _
theorem vU (o p:Option Int) (w:World) (ho:Lwf o) (hp:Lwf p) (h0:p≠some 0) (ht:Tab w) :
  Calls Tryz.prog 251 #[.agg #[.string (LB o),.int .i64 (LE o)],.agg #[.string (LB p),.int .i64 (LE p)]] w fun e W'=>e = .returned (.agg #[.string (LB (opL (Int.fdiv) o p)),.int .i64 (LE (opL (Int.fdiv) o p))])∧Below w.heap.size w W':=by
 have c:=fun W (hW:Below w.heap.size w W)=>ja o p (opL (Int.fdiv) o p) 255 W (enters_of Tryz.func255 (by kernel_rfl) rfl) (fun h=>by rw [h];rfl) (fun h=>by rw [h];exact hO _ _)
  (fun x y hx hy W' hW'=>by
   have hb:=hW.trans (hW'.mono hW.size)
   subst hx;subst hy
   exact xL x y W' (ho x rfl) (hp y rfl) (fun e=>h0 (by rw [e])) (ht.next hb))
 have C:=Ha c;clear c ho hp ht
 generalize opL (Int.fdiv) o p=r at *
 generalize LB o=ob at *
 generalize LE o=oe at *
 generalize LB p=pb at *
 generalize LE p=pe at *
 generalize LB r=rb at *
 generalize LE r=re at *
 go_enter Tryz.func251,Tryz.ntmps251
 go_wp2_with fail
 have hbx:=bK w (.string ob) (.int .i64 oe) (.string pb) (.int .i64 pe) (.string ⟨#[]⟩) (.int .i64 0) 69
 generalize ((w.alloc (.cells #[.string ob,.int .i64 oe] 69)).alloc (.cells #[.string pb,.int .i64 pe] 69)).alloc (.cells #[.string ⟨#[]⟩,.int .i64 0] 69)=W0 at *
 have CC:=Ha (C.out W0 hbx.below)
 clear C
 generalize hk:w.heap.size=k at *
 have HK:=Ha hk;clear hk
 have HB:=Ha hbx
 clear hbx
 refine CC.out.mono ?_
 rintro e w1 ⟨rfl,b⟩
 have HB1:=Ha (HB.out.next b)
 clear b CC HB
 obtain ⟨_,_,_,_,c5,c6,f5,f6,_,_⟩:=HB1.out
 obtain ⟨g5,g6⟩:=ap c5 c6 (.string rb) (.int .i64 re)
 go_wp2
 refine bodyPost_ret (v := .agg #[.string rb,.int .i64 re]) (by simp [results,Tryz.results251,go_sem,g5,g6]) rfl ?_
 refine ⟨rfl,?_⟩
 rw [HK.out]
 exact ((HB1.out.below).setCell (p:=⟨k+1+1,0,none⟩) (by show k≤k+1+1;omega) _).setCell (p:=⟨k+1+1,1,none⟩) (by show k≤k+1+1;omega) _
theorem xM (o:Option Int) (w:World) (ho:Lwf o) (ht:Tab w) :
  Calls Tryz.prog 250 #[.agg #[.string (LB o),.int .i64 (LE o)]] w fun e W'=>e = .returned (.agg #[.string (LB (opL (· - ·) (some 0) o)),.int .i64 (LE (opL (· - ·) (some 0) o))])∧Below w.heap.size w W':=by
 have c:=fun W (hW:Below w.heap.size w W)=>iJ (some 0) o W (gD (by show Int.natAbs 0<lim;exact vv)) ho (ht.next hW)
 rw [show LB (some 0)=⟨#[48]⟩ from rn,show LE (some 0)=0 from rfl] at c
 have C:=Ha c;clear c ho ht
 generalize opL (· - ·) (some 0) o=r at *
 generalize LB o=ob at *
 generalize LE o=oe at *
 generalize LB r=rb at *
 generalize LE r=re at *
 go_enter Tryz.func250,Tryz.ntmps250
 go_wp2_with fail
 have hb0:Below w.heap.size w ((w.alloc (.cells #[.string ob,.int .i64 oe] 69)).alloc (.cells #[.string ⟨#[]⟩,.int .i64 0] 69)):=by go_grown
 have c5:((w.alloc (.cells #[.string ob,.int .i64 oe] 69)).alloc (.cells #[.string ⟨#[]⟩,.int .i64 0] 69)).cell? ⟨w.heap.size+1,0,none⟩=some (.string ⟨#[]⟩):=by go_cell
 have c6:((w.alloc (.cells #[.string ob,.int .i64 oe] 69)).alloc (.cells #[.string ⟨#[]⟩,.int .i64 0] 69)).cell? ⟨w.heap.size+1,1,none⟩=some (.int .i64 0):=by go_cell
 have f5:((w.alloc (.cells #[.string ob,.int .i64 oe] 69)).alloc (.cells #[.string ⟨#[]⟩,.int .i64 0] 69)).frozen? ⟨w.heap.size+1,0,none⟩=false:=by simp [go_sem]
 have f6:((w.alloc (.cells #[.string ob,.int .i64 oe] 69)).alloc (.cells #[.string ⟨#[]⟩,.int .i64 0] 69)).frozen? ⟨w.heap.size+1,1,none⟩=false:=by simp [go_sem]
 have hs:w.heap.size+1<((w.alloc (.cells #[.string ob,.int .i64 oe] 69)).alloc (.cells #[.string ⟨#[]⟩,.int .i64 0] 69)).heap.size:=by simp
 generalize (w.alloc (.cells #[.string ob,.int .i64 oe] 69)).alloc (.cells #[.string ⟨#[]⟩,.int .i64 0] 69)=W0 at *
 have CC:=Ha (C.out W0 hb0)
 clear C
 generalize hk:w.heap.size=k at *
 have HK:=Ha hk;clear hk
 refine CC.out.mono ?_
 rintro e w1 ⟨rfl,b⟩
 have d5:=(b.cell (p:=⟨k+1,0,none⟩) hs).trans c5
 have d6:=(b.cell (p:=⟨k+1,1,none⟩) hs).trans c6
 have d7:=(b.frozen (p:=⟨k+1,0,none⟩) hs).trans f5
 have d8:=(b.frozen (p:=⟨k+1,1,none⟩) hs).trans f6
 have HB:=Ha (hb0.trans (b.mono (by rw [←HK.out];exact hb0.size)))
 clear b CC hb0 c5 c6 f5 f6 hs
 obtain ⟨g5,g6⟩:=ap d5 d6 (.string rb) (.int .i64 re)
 go_wp2
 refine bodyPost_ret (v := .agg #[.string rb,.int .i64 re]) (by simp [results,Tryz.results250,go_sem,g5,g6]) rfl ?_
 refine ⟨rfl,?_⟩
 rw [HK.out]
 exact ((HB.out).setCell (p:=⟨k+1,0,none⟩) (by show k≤k+1;omega) _).setCell (p:=⟨k+1,1,none⟩) (by show k≤k+1;omega) _
theorem ia:aa 1=⟨#[49]⟩:=qR 1 [49] ec
theorem lc (z:Int) (w:World) :
  Calls Tryz.prog 124 #[.agg #[.string (aa z),.int .i64 0]] w fun e W'=>e = .returned (.bool (decide (z=1)))∧Below w.heap.size w W':=by
 have h:((aa z).toList == [49])=decide (z=1):=by
  rw [ByteArray.toList_eq,aB]
  by_cases hz:z=1
  ·subst hz;rw [decide_eq_true rfl,ec];rfl
  ·rw [decide_eq_false hz,beq_eq_false_iff_ne]
   intro e;exact hz (kO (e.trans ec.symm))
 have H:=Ha h;clear h
 generalize aa z=s at *
 go_enter Tryz.func124,Tryz.ntmps124
 go_wp2
 go_ret
 exact ⟨de H.out,by go_grown⟩
theorem nP (o:Option Int) (w:World) :
  Calls Tryz.prog 248 #[.agg #[.string (LB o),.int .i64 (LE o)]] w fun e W'=>e = .returned (.int .i64 (LE o))∧Below w.heap.size w W':=by
 generalize LB o=ob
 generalize LE o=oe
 go_enter Tryz.func248,Tryz.ntmps248
 go_wp2
 go_ret
 exact ⟨rfl,by go_grown⟩
theorem rB (z:Int) (w:World) :
  Calls Tryz.prog 249 #[.agg #[.string (aa z),.int .i64 0]] w fun e W'=>e = .returned (.bool (decide (z<0)))∧Below w.heap.size w W':=by
 have h:Lib.hasPrefix (aa z).data.toList [45]=decide (z<0):=by
  rw [←xG]
  cases (aa z).data.toList with
  | nil=>rfl
  | cons a t =>
   show ((45:UInt8)==a && List.isPrefixOf [] t)=(some a==some 45)
   rw [List.isPrefixOf_nil_left,Bool.and_true]
   by_cases ha:a=45
   ·subst ha;rfl
   ·rw [show ((45:UInt8)==a)=false by rw [beq_eq_false_iff_ne];exact fun e=>ha e.symm]
    simp [ha]
 have H:=Ha h;clear h
 generalize aa z=s at *
 go_enter Tryz.func249,Tryz.ntmps249
 go_wp2_with fail
 refine (Tryz.strings_HasPrefix s ⟨#[45]⟩ _).mono ?_
 rintro e w' ⟨rfl,rfl⟩
 go_wp2
 go_ret
 exact ⟨de H.out,by go_grown⟩
theorem mH (z:Int) (l:List UInt8) (B g cap n:Nat) (hn:n=l.length) (w:World) (h:RowR B w l g cap) (hB:B≤w.heap.size) (hb:l.length+(Lib.itoa z).length≤140737488355328) :
  Calls Tryz.prog 247 #[.agg #[.string (aa z),.int .i64 0],.slice (some ⟨g,0,none⟩) n cap] w fun e W'=>∃ g' cap',e = .returned (.slice (some ⟨g',0,none⟩) (n+(Lib.itoa z).length) cap')∧RowR B W' (l++Lib.itoa z) g' cap'∧Below B w W':=by
 obtain ⟨i0,hi,hz0,hz1,hz2⟩:=info_parts fu
 have HI:=Ha (Hb hi (Hb hz0 (Hb hz1 hz2)));clear hi hz0 hz1 hz2
 have hs:=aB z
 have HH:=Ha (Hb (h.next ((Below.refl _ w).alloc (Nat.le_refl _) (.cells #[.string (aa z),.int .i64 0] 69))) (Hb hs (Hb hn hb)))
 clear h hs hn hb
 generalize Lib.itoa z=m at *
 generalize aa z=s at *
 go_enter Tryz.func247,Tryz.ntmps247
 go_wp2_with (at_builtin;refine cZ rfl _ _ 141 9 rfl 5 i0 Tryz.underlying141 HI.out.1 HI.out.2.1 HI.out.2.2.1 HI.out.2.2.2 HH.out.2.2.1 rfl HH.out.1 (.string s) s.data.toList rfl (nO Tryz.underlying9 s) (by rw [HH.out.2.1];exact HH.out.2.2.2) (by simp;omega) ?_;intro w1 g1 c1 h1 hb1)
 have H1:=Ha (Hb h1 hb1);clear h1 hb1
 go_wp2
 go_ret
 have h2:=HH.out.2.1
 refine ⟨g1,c1,by rw [←h2];rfl,by have:=H1.out.1;rwa [h2] at this,?_⟩
 exact (((Below.refl B w).alloc hB _)).trans H1.out.2
def MOK (x:Int):Prop:=x=aY∨x.natAbs<4611686018427387904
theorem bE (a b:Int):MOK (az a b):=by
 unfold az
 split
 ·exact .inr (by assumption)
 ·exact .inl rfl
theorem still {f:FuncId} {args:Array Value} {v:Value} {w:World} (h:Calls Tryz.prog f args w fun e W'=>e = .returned v∧w=W'):Calls Tryz.prog f args w fun e W'=>e = .returned v∧W'=w:=h.mono fun _ _ h=>⟨h.1,h.2.symm⟩
def gE (x y:Int):Int:=if x=aY∨y=aY then aY else x+y
theorem tk (x y:Int) (w:World) (hx:MOK x) (hy:MOK y) :
  Calls Tryz.prog 243 #[.int .i64 x,.int .i64 y] w fun e W'=>e = .returned (.int .i64 (gE x y))∧w=W':=by
 unfold gE
 by_cases h1:x=aY
 ·subst h1
  rw [if_pos (.inl rfl)]
  exact oT y w
 ·by_cases h2:y=aY
  ·subst h2
   rw [if_pos (.inr rfl)]
   exact ux x w
  ·rw [if_neg (by rintro (h | h);exact h1 h;exact h2 h)]
   have h3:=hx.resolve_left h1
   have h4:=hy.resolve_left h2
   exact xh x y w (by omega) (by omega) (by omega) (by omega) (by omega) (by omega)
def B18 (x:Int):Prop:=x.natAbs<1000000000000000000
theorem B18.lo {x:Int} (h:B18 x) : -9223372036854775808<x:=by unfold B18 at h;omega
theorem B18.hi {x:Int} (h:B18 x):x≤9223372036854775807:=by unfold B18 at h;omega
theorem l6 (n:Nat) (x:Int) (W:World):(method (n+1) 64 (.int .i64 x) "kingpost/rational.times").run Tryz.prog W = .ok (244,.int .i64 x) W:=by kernel_rfl
theorem xN (n:Nat) (x:Int) (W:World):(method (n+1) 64 (.int .i64 x) "kingpost/rational.plus").run Tryz.prog W = .ok (243,.int .i64 x) W:=by kernel_rfl
theorem xO (a b c d:Int) (w:World) (ha:B18 a) (hb:B18 b) (hc:B18 c) (hd:B18 d) :
  Calls Tryz.prog 89 #[.agg #[.int .i64 a,.int .i64 b],.agg #[.int .i64 c,.int .i64 d]] w fun e W'=>e = .returned (.agg #[.int .i64 (gE (az a d) (az c b)),.int .i64 (az b d)])∧Below w.heap.size w W':=by
 have c1:=fun W=>still (dV a d W ha.lo ha.hi hd.lo hd.hi)
 have c2:=fun W=>still (dV c b W hc.lo hc.hi hb.lo hb.hi)
 have c3:=fun W=>still (dV b d W hb.lo hb.hi hd.lo hd.hi)
 have c4:=fun W=>still (tk (az a d) (az c b) W (bE a d) (bE c b))
 generalize az a d=t1 at *
 generalize az c b=t2 at *
 generalize az b d=t3 at *
 generalize gE t1 t2=s at *
 have C:=Ha (Hb c1 (Hb c2 (Hb c3 c4)))
 clear c1 c2 c3 c4 ha hb hc hd
 go_enter Tryz.func89,Tryz.ntmps89
 go_wp2
 have hbx:=bK w (.int .i64 a) (.int .i64 b) (.int .i64 c) (.int .i64 d) (.int .i64 0) (.int .i64 0) 94
 generalize ((w.alloc (.cells #[.int .i64 a,.int .i64 b] 94)).alloc (.cells #[.int .i64 c,.int .i64 d] 94)).alloc (.cells #[.int .i64 0,.int .i64 0] 94)=W0 at *
 generalize hk:w.heap.size=k at *
 have HK:=Ha hk;clear hk
 have HBD:=Ha hbx.drew
 clear hbx
 obtain ⟨c1,c2,c3,c4,c5,c6,f5,f6,_,_⟩:=HBD.out
 have m1:=l6
 have m2:=xN
 have en1:∀ args W,(callFunc 244 args).run Tryz.prog W = .ok (.enter 244 args) W:=enters_of Tryz.func244 (by kernel_rfl) rfl
 have en2:∀ args W,(callFunc 243 args).run Tryz.prog W = .ok (.enter 243 args) W:=enters_of Tryz.func243 (by kernel_rfl) rfl
 go_still_tail 20,(by kernel_rfl)
 still_call (C.out.1 _)
 repeat still_step
 still_call (C.out.2.1 _)
 repeat still_step
 still_call (C.out.2.2.2 _)
 repeat still_step
 still_call (C.out.2.2.1 _)
 repeat still_step
 refine wpStill_nil ?_
 change wpList _ _ _ _ _ W0.drew
 clear c1 c2 c3 c4
 generalize W0.drew=W2 at *
 obtain ⟨g5,g6⟩:=ap c5 c6 (.int .i64 s) (.int .i64 t3)
 go_wp2
 refine bodyPost_ret (v := .agg #[.int .i64 s,.int .i64 t3]) (by simp [results,Tryz.results89,go_sem,g5,g6]) rfl ?_
 refine ⟨rfl,?_⟩
 rw [HK.out]
 exact ((HBD.out.below).setCell (p:=⟨k+1+1,0,none⟩) (by show k≤k+1+1;omega) _).setCell (p:=⟨k+1+1,1,none⟩) (by show k≤k+1+1;omega) _
theorem jb (a b:Int) (w:World) :
  Calls Tryz.prog 125 #[.agg #[.int .i64 a,.int .i64 b]] w fun e W'=>e = .returned (.int .i64 (if a=aY∨b=aY then 4 else 0))∧Below w.heap.size w W':=by
 have c1:=fun W=>sV a W
 have C:=Ha (Hb c1 (fun W=>sV b W))
 clear c1
 by_cases ha:a=aY
 ·rw [if_pos ha] at C
  rw [if_pos (.inl ha)]
  clear ha
  go_enter Tryz.func125,Tryz.ntmps125
  go_wp2_with fail
  refine (C.out.1 _).mono ?_
  rintro e w' ⟨rfl,rfl⟩
  go_wp2
  go_ret
  exact ⟨rfl,(Below.refl _ w).alloc (Nat.le_refl _) _⟩
 ·rw [if_neg ha] at C
  have hr:(if a=aY∨b=aY then (4:Int) else 0)=if b=aY then 4 else 0:=by
   by_cases hb:b=aY
   ·rw [if_pos (.inr hb),if_pos hb]
   ·rw [if_neg (by rintro (h | h);exact ha h;exact hb h),if_neg hb]
  rw [hr]
  clear ha hr
  generalize (if b=aY then (4:Int) else 0)=r at *
  go_enter Tryz.func125,Tryz.ntmps125
  go_wp2_with fail
  refine (C.out.1 _).mono ?_
  rintro e w' ⟨rfl,rfl⟩
  go_wp2_with fail
  refine (C.out.2 _).mono ?_
  rintro e w' ⟨rfl,rfl⟩
  go_wp2
  go_ret
  exact ⟨rfl,(Below.refl _ w).alloc (Nat.le_refl _) _⟩
def bN (s:ByteArray):ByteArray:=⟨(bF s.data.toList).toArray⟩
def bD (s:ByteArray):ByteArray:=⟨(aH s.data.toList).toArray⟩
theorem dM (s:ByteArray):(bN s).data.toList=bF s.data.toList:=by simp [bN]
theorem cN (s:ByteArray):(bD s).data.toList=aH s.data.toList:=by simp [bD]
theorem aK {s t:ByteArray} (h:s.data.toList=t.data.toList):s=t:=by
 cases s;cases t;congr 1;exact Array.ext' h
theorem ld (s:ByteArray):(bN s).size≤s.size:=by rw [←ac,dM,←ac];exact zS _
theorem pX (s:ByteArray) (h:0<s.size):(bD s).size≤s.size:=by
 rw [←ac,cN,←ac]
 rcases lT s.data.toList with ⟨_,_,h2⟩ | ⟨_,h2⟩
 ·rw [h2,ac];exact h
 ·have:=congrArg List.length h2
  simp only [List.length_append,List.length_cons] at this;omega
theorem xP {s:ByteArray} (h:bR s.data.toList=false):bN s=s∧bD s=⟨#[49]⟩:=by
 rcases lT s.data.toList with ⟨_,h2,h3⟩ | ⟨h2,_⟩
 ·exact ⟨aK (by rw [dM];exact h2.symm),aK (by rw [cN,h3])⟩
 ·rw [h] at h2;cases h2
theorem Aa (l:List UInt8):(47:UInt8) ∉ bF l:=by
 unfold bF
 induction l with
 | nil=>simp
 | cons a t ih =>
  by_cases ha:a=47
  ·subst ha;rw [List.takeWhile_cons_of_neg (by decide)];simp
  ·rw [List.takeWhile_cons_of_pos (by simpa using ha),List.mem_cons,not_or]
   exact ⟨fun e=>ha e.symm,ih⟩
theorem Ab {s:ByteArray} (h:bR s.data.toList=true):Lib.indexByte s.data.toList 47=((bN s).size:Int)∧s.extract 0 (bN s).size=bN s∧s.extract ((bN s).size+1) s.size=bD s∧(bN s).size+1≤s.size:=by
 rcases lT s.data.toList with ⟨h2,_,_⟩ | ⟨_,h2⟩
 ·rw [h] at h2;cases h2
 ·have hns:=Aa s.data.toList
  have hl:(bN s).size=(bF s.data.toList).length:=by rw [←ac,dM]
  have hlen:=congrArg List.length h2
  simp only [List.length_append,List.length_cons] at hlen
  rw [ac] at hlen
  have hbn:=dM s
  have hbd:=cN s
  rw [hl]
  generalize bF s.data.toList=n at *
  generalize aH s.data.toList=d at *
  refine ⟨?_,?_,?_,by omega⟩
  ·rw [h2];exact kR (c:=47) d hns
  ·apply aK
   rw [Lib.extract_data,hbn,h2]
   simp
  ·apply aK
   rw [Lib.extract_data,hbd,List.take_of_length_le (by rw [List.length_drop,ac];omega),h2,List.drop_append,List.drop_eq_nil_of_le (by omega)]
   simp
def bA (s:ByteArray):ByteArray:=if bR s.data.toList then bD s else ⟨#[]⟩
theorem xQ (s:ByteArray) (w:World) (hs:s.size≤maxLen) :
  Calls Tryz.prog 110 #[.string s,.string ⟨#[47]⟩] w fun e W'=>e = .returned (.tuple #[.string (bN s),.string (bA s),.bool (bR s.data.toList)])∧Below w.heap.size w W':=by
 unfold maxLen at hs
 have ci:=fun W=>Tryz.stringslite_Index_one s 47 W
 cases h:bR s.data.toList
 ·have hn:(47:UInt8) ∉ s.data.toList:=by unfold bR at h;simpa using h
  rw [kQ hn] at ci
  obtain ⟨e1,_⟩:=xP h
  rw [e1,show bA s=⟨#[]⟩ by unfold bA;rw [h];rfl]
  have C:=Ha ci
  clear ci hn h e1
  go_enter Tryz.func110,Tryz.ntmps110
  go_wp2_with fail
  refine (C.out _).mono ?_
  rintro e w' ⟨rfl,rfl⟩
  go_wp2
  go_ret3
  exact ⟨rfl,Below.refl _ _⟩
 ·obtain ⟨e1,e2,e3,e4⟩:=Ab h
  rw [e1] at ci
  rw [show bA s=bD s by unfold bA;rw [h];rfl]
  have C:=Ha ci
  clear ci h e1
  generalize (bN s).size=k at *
  go_enter Tryz.func110,Tryz.ntmps110
  go_wp2_with fail
  refine (C.out _).mono ?_
  rintro e w' ⟨rfl,rfl⟩
  go_wp2
  go_quiet (fail)
  go_wp2
  go_ret3
  exact ⟨rfl,⟨rfl,rfl,rfl,Nat.le_refl _,fun _ _=>rfl⟩⟩
theorem tl (s:ByteArray) (w:World) (hs:s.size≤maxLen) :
  Calls Tryz.prog 66 #[.string s,.string ⟨#[47]⟩] w fun e W'=>e = .returned (.tuple #[.string (bN s),.string (bA s),.bool (bR s.data.toList)])∧Below w.heap.size w W':=by
 have C:=Ha (fun W=>xQ s W hs)
 clear hs
 generalize bN s=n at *
 generalize bA s=d at *
 generalize bR s.data.toList=b at *
 go_enter Tryz.func66,Tryz.ntmps66
 go_wp2_with fail
 refine (C.out _).mono ?_
 rintro e w' ⟨rfl,hb⟩
 have B:=Ha hb;clear hb
 go_wp2
 go_ret3
 exact ⟨rfl,B.out⟩
theorem jJ (s:ByteArray) (w:World) (hs:s.size≤maxLen) :
  Calls Tryz.prog 80 #[.string s] w fun e W'=>e = .returned (.tuple #[.string (bN s),.string (bD s),.bool (bR s.data.toList)])∧Below w.heap.size w W':=by
 have C:=Ha (fun W=>tl s W hs)
 clear hs
 cases h:bR s.data.toList
 ·obtain ⟨e1,e2⟩:=xP h
  rw [e1,h] at C
  rw [e1,e2]
  clear e1 e2 h
  generalize bA s=d at *
  go_enter Tryz.func80,Tryz.ntmps80
  go_wp2_with fail
  refine (C.out _).mono ?_
  rintro e w' ⟨rfl,hb⟩
  have B:=Ha hb;clear hb
  go_wp2
  go_ret3
  exact ⟨rfl,B.out⟩
 ·rw [show bA s=bD s by unfold bA;rw [h];rfl,h] at C
  clear h
  generalize bN s=n at *
  generalize bD s=d at *
  go_enter Tryz.func80,Tryz.ntmps80
  go_wp2_with fail
  refine (C.out _).mono ?_
  rintro e w' ⟨rfl,hb⟩
  have B:=Ha hb;clear hb
  go_wp2
  go_ret3
  exact ⟨rfl,B.out⟩
def mOK (l:List UInt8):Bool:=dOK (bF l) && (!bR l || (dOK (aH l) && decide (1<valOf (aH l)) && decide (Nat.gcd (valOf (bF l)).natAbs (valOf (aH l)).natAbs=1)))
theorem jK {l:List UInt8} (h:dOK l=true):chk l=0∧B18 (valOf l):=by
 unfold dOK at h
 simp only [Bool.and_eq_true,beq_iff_eq,decide_eq_true_eq] at h
 refine ⟨h.1,?_⟩
 unfold B18
 rw [jC]
 exact jl _ (cP h.1) h.2
theorem uM {l:List UInt8} (h:mOK l=true):aM l=0∧B18 (valOf (bF l))∧B18 (valOf (aH l)):=by
 unfold mOK at h
 simp only [Bool.and_eq_true,Bool.or_eq_true,Bool.not_eq_true',decide_eq_true_eq] at h
 obtain ⟨h1,h2⟩:=h
 obtain ⟨k1,b1⟩:=jK h1
 cases hs:bR l
 ·have hd:aH l = [49]:=by unfold aH;rw [hs];rfl
  have k2:chk (aH l)=0:=by rw [hd];decide
  refine ⟨?_,b1,by rw [hd,jD];unfold B18;decide⟩
  have hf:dp l=true:=by unfold dp;rw [k1,k2,hs,hd];rfl
  unfold aM
  rw [hf,if_neg (by decide),if_neg (by rw [k1,k2];simp),if_pos (by rw [hd,lU,Nat.gcd_one_right])]
 ·rcases h2 with h2 | ⟨⟨h3,h4⟩,h5⟩
  ·rw [hs] at h2;cases h2
  ·obtain ⟨k2,b2⟩:=jK h3
   have hneg:af (aH l)=false:=by rw [xf k2];exact decide_eq_false (by omega)
   have h48:aH l ≠ [48]:=fun e=>by rw [e] at h4;revert h4;decide
   have h49:(aH l == [49])=false:=by rw [beq_eq_false_iff_ne];intro e;rw [e,jD] at h4;omega
   refine ⟨?_,b1,b2⟩
   have hf:dp l=true:=by unfold dp;rw [k1,k2,hneg,h49,Bool.and_false];simp [h48]
   unfold aM
   rw [hf,if_neg (by decide),if_neg (by rw [k1,k2];simp),if_pos (by rw [←fV hneg,Int.natAbs_natCast] at h5;exact h5)]
end Go.Proofs.YtocalfjfjjljnaaGreatDoor
