/- Parts of the proof of the text YtjdomibbaemdnaaGreatDoorZK42. -/
import Derived.StillTailTactics
import Derived.Test.YtjdomibbaemdnaaGreatDoorZK1
import Derived.Test.YtjdomibbaemdnaaGreatDoorZK16
import Derived.Test.YtjdomibbaemdnaaGreatDoorZK5
import Derived.Test.YtjdomibbaemdnaaGreatDoorZK7
import Derived.Test.YtjdomibbaemdnaaGreatDoorZK8
import Derived.Test.YtjdomibbaemdnaaGreatDoorZK9
set_option linter.all false
set_option maxRecDepth 100000
set_option maxHeartbeats 8000000
namespace Go.Proofs.YtjdomibbaemdnaaGreatDoor
open Go.RowKit
def LB:Option Int→ByteArray
 | some z=>aa z
 | none=>⟨#[]⟩
def LE:Option Int→Int
 | some _=>0
 | none=>4
def mkL (z:Int):Option Int:=if short z then some z else none
def Lwf (o:Option Int):Prop:=∀ z,o=some z→short z
def opL (f:Int→Int→Int) (o p:Option Int):Option Int:=match o,p with
 | some x,some y=>mkL (f x y)
 | _,_=>none
theorem zQ (z:Int):Lwf (mkL z):=fun y h=>by
 unfold mkL at h
 split at h
 ·rw [←Option.some.inj h];assumption
 ·cases h
theorem iD (f:Int→Int→Int) (o p:Option Int):Lwf (opL f o p):=by
 unfold opL
 split
 ·exact zQ _
 ·intro z h;cases h
theorem jT (f:Int→Int→Int) (o:Option Int):opL f o none=none:=by unfold opL;split <;> first | rfl | contradiction
theorem fU {z:Int} (h:short z):Lwf (some z):=fun y hy=>by rw [←Option.some.inj hy];exact h
theorem fG {z:Int} (h:short z):mkL z=some z:=if_pos h
theorem o8 (z:Int):fj z=LB (mkL z):=by
 unfold fj mkL
 by_cases h:short z
 ·rw [if_pos (show z.natAbs<lim from h),if_pos h];rfl
 ·rw [if_neg (show ¬ z.natAbs<lim from h),if_neg h];rfl
theorem o9 (z:Int):fk z=LE (mkL z):=by
 unfold fk mkL
 by_cases h:short z
 ·rw [if_pos (show z.natAbs<lim from h),if_pos h];rfl
 ·rw [if_neg (show ¬ z.natAbs<lim from h),if_neg h];rfl
theorem yf (x y:Int) (w:World) (hx:short x) (hy:short y) (ht:Tab w) :
  Calls Tryz.prog 288 #[.string (aa x),.string (aa y)] w fun e W'=>e = .returned (.tuple #[.string (LB (mkL (x - y))),.int .i64 (LE (mkL (x - y)))])∧Below w.heap.size w W':=by
 have c:=zm (aa x) (aa y) w (by have:=aG hx;unfold maxLen;omega) (by have:=aG hy;unfold maxLen;omega) ht
 rwa [fx hx hy,bB,bB,jo,jp,o8,o9] at c
theorem wa (x y:Int) (w:World) (hx:short x) (hy:short y) (ht:Tab w) :
  Calls Tryz.prog 113 #[.string (aa x),.string (aa y)] w fun e W'=>e = .returned (.tuple #[.string (LB (mkL (x*y))),.int .i64 (LE (mkL (x*y)))])∧Below w.heap.size w W':=by
 have c:=Mul_any (aa x) (aa y) w (by have:=aG hx;unfold maxLen;omega) (by have:=aG hy;unfold maxLen;omega) ht
 rwa [fx hx hy,bB,bB,jo,jp,o8,o9] at c
theorem jU (o p r:Option Int) (k:Nat) (w:World) (eg:∀ args W,(callFunc k args).run Tryz.prog W = .ok (.enter k args) W) (h0:o=none→r=none) (h1:p=none→r=none)
  (H:∀ x y,o=some x→p=some y→CqB w k #[.string (aa x),.string (aa y)] (.tuple #[.string (LB r),.int .i64 (LE r)])) :
  Calls Tryz.prog 189 #[.agg #[.string (LB o),.int .i64 (LE o)],.agg #[.string (LB p),.int .i64 (LE p)],.func (.func k) #[] #[]] w fun e W'=>e = .returned (.agg #[.string (LB r),.int .i64 (LE r)])∧Below w.heap.size w W':=by
 cases o with
 | none =>
  rw [h0 rfl]
  clear H
  generalize LB p=pb
  generalize LE p=pe
  simp only [LB,LE]
  go_enter Tryz.func189,Tryz.ntmps189
  go_wp2
  refine bodyPost_ret (v := .agg #[.string ⟨#[]⟩,.int .i64 4]) (by simp [results,Tryz.results189,go_sem]) rfl ?_
  exact ⟨rfl,by go_grown⟩
 | some x =>
  cases p with
  | none =>
   rw [h1 rfl]
   clear H
   simp only [LB,LE]
   generalize aa x=sx
   go_enter Tryz.func189,Tryz.ntmps189
   go_wp2
   refine bodyPost_ret (v := .agg #[.string ⟨#[]⟩,.int .i64 4]) (by simp [results,Tryz.results189,go_sem]) rfl ?_
   exact ⟨rfl,by go_grown⟩
  | some y =>
   have C:=Ha (H x y rfl rfl)
   clear H h0 h1
   generalize LB r=rb at *
   generalize LE r=re at *
   simp only [LB,LE]
   generalize aa x=sx at *
   generalize aa y=sy at *
   go_enter Tryz.func189,Tryz.ntmps189
   go_wp2_with fail
   have hbx:=bR w (.string sx) (.int .i64 0) (.string sy) (.int .i64 0) (.string ⟨#[]⟩) (.int .i64 0) 103
   generalize ((w.alloc (.cells #[.string sx,.int .i64 0] 103)).alloc (.cells #[.string sy,.int .i64 0] 103)).alloc (.cells #[.string ⟨#[]⟩,.int .i64 0] 103)=W0 at *
   have c:=C.out W0 hbx.below
   have CC:=Ha c
   clear c C
   generalize hk:w.heap.size=k at *
   have HK:=Ha hk;clear hk
   have HB:=Ha hbx
   clear hbx
   refine CC.out.mono ?_
   rintro e w1 ⟨rfl,b⟩
   have HB1:=Ha (HB.out.next b)
   clear b CC HB
   obtain ⟨_,_,_,_,c5,c6,f5,f6,_,_⟩:=HB1.out
   obtain ⟨g5,g6⟩:=au c5 c6 (.string rb) (.int .i64 re)
   go_wp2
   refine bodyPost_ret (v := .agg #[.string rb,.int .i64 re]) (by simp [results,Tryz.results189,go_sem,g5,g6]) rfl ?_
   refine ⟨rfl,?_⟩
   rw [HK.out]
   exact ((HB1.out.below).setCell (p:=⟨k+1+1,0,none⟩) (by show k≤k+1+1;omega) _).setCell (p:=⟨k+1+1,1,none⟩) (by show k≤k+1+1;omega) _
theorem se (o p:Option Int) (w:World) (ho:Lwf o) (hp:Lwf p) (ht:Tab w) :
  Calls Tryz.prog 286 #[.agg #[.string (LB o),.int .i64 (LE o)],.agg #[.string (LB p),.int .i64 (LE p)]] w fun e W'=>e = .returned (.agg #[.string (LB (opL (· - ·) o p)),.int .i64 (LE (opL (· - ·) o p))])∧Below w.heap.size w W':=by
 have c:=fun W (hW:Below w.heap.size w W)=>jU o p (opL (· - ·) o p) 288 W (enters_of Tryz.func288 (by kernel_rfl) rfl) (fun h=>by rw [h];rfl) (fun h=>by rw [h];exact jT _ _)
  (fun x y hx hy W' hW'=>by
   have hb:=hW.trans (hW'.mono hW.size)
   subst hx;subst hy
   exact yf x y W' (ho x rfl) (hp y rfl) (ht.next hb))
 have C:=Ha c;clear c ho hp ht
 generalize opL (· - ·) o p=r at *
 generalize LB o=ob at *
 generalize LE o=oe at *
 generalize LB p=pb at *
 generalize LE p=pe at *
 generalize LB r=rb at *
 generalize LE r=re at *
 go_enter Tryz.func286,Tryz.ntmps286
 go_wp2_with fail
 have hbx:=bR w (.string ob) (.int .i64 oe) (.string pb) (.int .i64 pe) (.string ⟨#[]⟩) (.int .i64 0) 103
 generalize ((w.alloc (.cells #[.string ob,.int .i64 oe] 103)).alloc (.cells #[.string pb,.int .i64 pe] 103)).alloc (.cells #[.string ⟨#[]⟩,.int .i64 0] 103)=W0 at *
 have CC:=Ha (C.out W0 hbx.below)
 clear C
 generalize hk:w.heap.size=k at *
 have HK:=Ha hk;clear hk
 have HB:=Ha hbx
 clear hbx
 refine CC.out.mono ?_
 rintro e w1 ⟨rfl,b⟩
 have HB1:=Ha (HB.out.next b)
 clear b CC HB
 obtain ⟨_,_,_,_,c5,c6,f5,f6,_,_⟩:=HB1.out
 obtain ⟨g5,g6⟩:=au c5 c6 (.string rb) (.int .i64 re)
 go_wp2
 refine bodyPost_ret (v := .agg #[.string rb,.int .i64 re]) (by simp [results,Tryz.results286,go_sem,g5,g6]) rfl ?_
 refine ⟨rfl,?_⟩
 rw [HK.out]
 exact ((HB1.out.below).setCell (p:=⟨k+1+1,0,none⟩) (by show k≤k+1+1;omega) _).setCell (p:=⟨k+1+1,1,none⟩) (by show k≤k+1+1;omega) _
theorem mM (o p:Option Int) (w:World) (ho:Lwf o) (hp:Lwf p) (ht:Tab w) :
  Calls Tryz.prog 285 #[.agg #[.string (LB o),.int .i64 (LE o)],.agg #[.string (LB p),.int .i64 (LE p)]] w fun e W'=>e = .returned (.agg #[.string (LB (opL (· * ·) o p)),.int .i64 (LE (opL (· * ·) o p))])∧Below w.heap.size w W':=by
 have c:=fun W (hW:Below w.heap.size w W)=>jU o p (opL (· * ·) o p) 113 W (enters_of Tryz.func113 (by kernel_rfl) rfl) (fun h=>by rw [h];rfl) (fun h=>by rw [h];exact jT _ _)
  (fun x y hx hy W' hW'=>by
   have hb:=hW.trans (hW'.mono hW.size)
   subst hx;subst hy
   exact wa x y W' (ho x rfl) (hp y rfl) (ht.next hb))
 have C:=Ha c;clear c ho hp ht
 generalize opL (· * ·) o p=r at *
 generalize LB o=ob at *
 generalize LE o=oe at *
 generalize LB p=pb at *
 generalize LE p=pe at *
 generalize LB r=rb at *
 generalize LE r=re at *
 go_enter Tryz.func285,Tryz.ntmps285
 go_wp2_with fail
 have hbx:=bR w (.string ob) (.int .i64 oe) (.string pb) (.int .i64 pe) (.string ⟨#[]⟩) (.int .i64 0) 103
 generalize ((w.alloc (.cells #[.string ob,.int .i64 oe] 103)).alloc (.cells #[.string pb,.int .i64 pe] 103)).alloc (.cells #[.string ⟨#[]⟩,.int .i64 0] 103)=W0 at *
 have CC:=Ha (C.out W0 hbx.below)
 clear C
 generalize hk:w.heap.size=k at *
 have HK:=Ha hk;clear hk
 have HB:=Ha hbx
 clear hbx
 refine CC.out.mono ?_
 rintro e w1 ⟨rfl,b⟩
 have HB1:=Ha (HB.out.next b)
 clear b CC HB
 obtain ⟨_,_,_,_,c5,c6,f5,f6,_,_⟩:=HB1.out
 obtain ⟨g5,g6⟩:=au c5 c6 (.string rb) (.int .i64 re)
 go_wp2
 refine bodyPost_ret (v := .agg #[.string rb,.int .i64 re]) (by simp [results,Tryz.results285,go_sem,g5,g6]) rfl ?_
 refine ⟨rfl,?_⟩
 rw [HK.out]
 exact ((HB1.out.below).setCell (p:=⟨k+1+1,0,none⟩) (by show k≤k+1+1;omega) _).setCell (p:=⟨k+1+1,1,none⟩) (by show k≤k+1+1;omega) _
def aE (x y:Int):Int:=(Nat.gcd x.natAbs y.natAbs:Nat)
theorem ic {x y:Int} (hx:short x) (hy:short y):short (aE x y):=by
 show Int.natAbs _<lim
 unfold aE
 rw [Int.natAbs_natCast]
 by_cases h0:x.natAbs=0
 ·rw [h0,Nat.gcd_zero_left];exact hy
 ·exact Nat.lt_of_le_of_lt (Nat.gcd_le_left _ (by omega)) hx
theorem wb (x y:Int) (w:World) (hx:short x) (hy:short y) (ht:Tab w) :
  Calls Tryz.prog 190 #[.string (aa x),.string (aa y)] w fun e W'=>e = .returned (.tuple #[.string (LB (mkL (aE x y))),.int .i64 (LE (mkL (aE x y)))])∧Below w.heap.size w W':=by
 rw [fG (ic hx hy)]
 exact uH x y w hx hy ht
theorem dW {x y:Int} (hx:short x) (h0:y≠0):short (x.fdiv y):=Nat.lt_of_le_of_lt (qt (x:=x) h0).1 hx
theorem wc (x y:Int) (w:World) (hx:short x) (hy:short y) (h0:y≠0) (ht:Tab w) :
  Calls Tryz.prog 287 #[.string (aa x),.string (aa y)] w fun e W'=>e = .returned (.tuple #[.string (LB (mkL (x.fdiv y))),.int .i64 (LE (mkL (x.fdiv y)))])∧Below w.heap.size w W':=by
 rw [fG (dW hx h0)]
 have C:=Ha (lF x y w hx hy h0 ht)
 clear hx hy h0 ht
 show Calls _ _ _ _ (fun e W'=>e = .returned (.tuple #[.string (aa (x.fdiv y)),.int .i64 0])∧_)
 generalize aa (x.fdiv y)=q at *
 generalize aa (x.fmod y)=r at *
 generalize aa x=sx at *
 generalize aa y=sy at *
 go_enter Tryz.func287,Tryz.ntmps287
 go_wp2_with fail
 refine C.out.mono ?_
 rintro e w' ⟨rfl,b⟩
 have B:=Ha b;clear b C
 go_wp2
 go_ret2
 exact ⟨rfl,B.out⟩
theorem pf (o p:Option Int) (w:World) (ho:Lwf o) (hp:Lwf p) (ht:Tab w) :
  Calls Tryz.prog 151 #[.agg #[.string (LB o),.int .i64 (LE o)],.agg #[.string (LB p),.int .i64 (LE p)]] w fun e W'=>e = .returned (.agg #[.string (LB (opL (aE) o p)),.int .i64 (LE (opL (aE) o p))])∧Below w.heap.size w W':=by
 have c:=fun W (hW:Below w.heap.size w W)=>jU o p (opL (aE) o p) 190 W (enters_of Tryz.func190 (by kernel_rfl) rfl) (fun h=>by rw [h];rfl) (fun h=>by rw [h];exact jT _ _)
  (fun x y hx hy W' hW'=>by
   have hb:=hW.trans (hW'.mono hW.size)
   subst hx;subst hy
   exact wb x y W' (ho x rfl) (hp y rfl) (ht.next hb))
 have C:=Ha c;clear c ho hp ht
 generalize opL (aE) o p=r at *
 generalize LB o=ob at *
 generalize LE o=oe at *
 generalize LB p=pb at *
 generalize LE p=pe at *
 generalize LB r=rb at *
 generalize LE r=re at *
 go_enter Tryz.func151,Tryz.ntmps151
 go_wp2_with fail
 have hbx:=bR w (.string ob) (.int .i64 oe) (.string pb) (.int .i64 pe) (.string ⟨#[]⟩) (.int .i64 0) 103
 generalize ((w.alloc (.cells #[.string ob,.int .i64 oe] 103)).alloc (.cells #[.string pb,.int .i64 pe] 103)).alloc (.cells #[.string ⟨#[]⟩,.int .i64 0] 103)=W0 at *
 have CC:=Ha (C.out W0 hbx.below)
 clear C
 generalize hk:w.heap.size=k at *
 have HK:=Ha hk;clear hk
 have HB:=Ha hbx
 clear hbx
 refine CC.out.mono ?_
 rintro e w1 ⟨rfl,b⟩
 have HB1:=Ha (HB.out.next b)
 clear b CC HB
 obtain ⟨_,_,_,_,c5,c6,f5,f6,_,_⟩:=HB1.out
 obtain ⟨g5,g6⟩:=au c5 c6 (.string rb) (.int .i64 re)
 go_wp2
 refine bodyPost_ret (v := .agg #[.string rb,.int .i64 re]) (by simp [results,Tryz.results151,go_sem,g5,g6]) rfl ?_
 refine ⟨rfl,?_⟩
 rw [HK.out]
 exact ((HB1.out.below).setCell (p:=⟨k+1+1,0,none⟩) (by show k≤k+1+1;omega) _).setCell (p:=⟨k+1+1,1,none⟩) (by show k≤k+1+1;omega) _
theorem uI (o p:Option Int) (w:World) (ho:Lwf o) (hp:Lwf p) (h0:p≠some 0) (ht:Tab w) :
  Calls Tryz.prog 284 #[.agg #[.string (LB o),.int .i64 (LE o)],.agg #[.string (LB p),.int .i64 (LE p)]] w fun e W'=>e = .returned (.agg #[.string (LB (opL (Int.fdiv) o p)),.int .i64 (LE (opL (Int.fdiv) o p))])∧Below w.heap.size w W':=by
 have c:=fun W (hW:Below w.heap.size w W)=>jU o p (opL (Int.fdiv) o p) 287 W (enters_of Tryz.func287 (by kernel_rfl) rfl) (fun h=>by rw [h];rfl) (fun h=>by rw [h];exact jT _ _)
  (fun x y hx hy W' hW'=>by
   have hb:=hW.trans (hW'.mono hW.size)
   subst hx;subst hy
   exact wc x y W' (ho x rfl) (hp y rfl) (fun e=>h0 (by rw [e])) (ht.next hb))
 have C:=Ha c;clear c ho hp ht
 generalize opL (Int.fdiv) o p=r at *
 generalize LB o=ob at *
 generalize LE o=oe at *
 generalize LB p=pb at *
 generalize LE p=pe at *
 generalize LB r=rb at *
 generalize LE r=re at *
 go_enter Tryz.func284,Tryz.ntmps284
 go_wp2_with fail
 have hbx:=bR w (.string ob) (.int .i64 oe) (.string pb) (.int .i64 pe) (.string ⟨#[]⟩) (.int .i64 0) 103
 generalize ((w.alloc (.cells #[.string ob,.int .i64 oe] 103)).alloc (.cells #[.string pb,.int .i64 pe] 103)).alloc (.cells #[.string ⟨#[]⟩,.int .i64 0] 103)=W0 at *
 have CC:=Ha (C.out W0 hbx.below)
 clear C
 generalize hk:w.heap.size=k at *
 have HK:=Ha hk;clear hk
 have HB:=Ha hbx
 clear hbx
 refine CC.out.mono ?_
 rintro e w1 ⟨rfl,b⟩
 have HB1:=Ha (HB.out.next b)
 clear b CC HB
 obtain ⟨_,_,_,_,c5,c6,f5,f6,_,_⟩:=HB1.out
 obtain ⟨g5,g6⟩:=au c5 c6 (.string rb) (.int .i64 re)
 go_wp2
 refine bodyPost_ret (v := .agg #[.string rb,.int .i64 re]) (by simp [results,Tryz.results284,go_sem,g5,g6]) rfl ?_
 refine ⟨rfl,?_⟩
 rw [HK.out]
 exact ((HB1.out.below).setCell (p:=⟨k+1+1,0,none⟩) (by show k≤k+1+1;omega) _).setCell (p:=⟨k+1+1,1,none⟩) (by show k≤k+1+1;omega) _
theorem wd (o:Option Int) (w:World) (ho:Lwf o) (ht:Tab w) :
  Calls Tryz.prog 283 #[.agg #[.string (LB o),.int .i64 (LE o)]] w fun e W'=>e = .returned (.agg #[.string (LB (opL (· - ·) (some 0) o)),.int .i64 (LE (opL (· - ·) (some 0) o))])∧Below w.heap.size w W':=by
 have c:=fun W (hW:Below w.heap.size w W)=>se (some 0) o W (fU (by show Int.natAbs 0<lim;exact uh)) ho (ht.next hW)
 rw [show LB (some 0)=⟨#[48]⟩ from qs,show LE (some 0)=0 from rfl] at c
 have C:=Ha c;clear c ho ht
 generalize opL (· - ·) (some 0) o=r at *
 generalize LB o=ob at *
 generalize LE o=oe at *
 generalize LB r=rb at *
 generalize LE r=re at *
 go_enter Tryz.func283,Tryz.ntmps283
 go_wp2_with fail
 have hb0:Below w.heap.size w ((w.alloc (.cells #[.string ob,.int .i64 oe] 103)).alloc (.cells #[.string ⟨#[]⟩,.int .i64 0] 103)):=by go_grown
 have c5:((w.alloc (.cells #[.string ob,.int .i64 oe] 103)).alloc (.cells #[.string ⟨#[]⟩,.int .i64 0] 103)).cell? ⟨w.heap.size+1,0,none⟩=some (.string ⟨#[]⟩):=by go_cell
 have c6:((w.alloc (.cells #[.string ob,.int .i64 oe] 103)).alloc (.cells #[.string ⟨#[]⟩,.int .i64 0] 103)).cell? ⟨w.heap.size+1,1,none⟩=some (.int .i64 0):=by go_cell
 have f5:((w.alloc (.cells #[.string ob,.int .i64 oe] 103)).alloc (.cells #[.string ⟨#[]⟩,.int .i64 0] 103)).frozen? ⟨w.heap.size+1,0,none⟩=false:=by simp [go_sem]
 have f6:((w.alloc (.cells #[.string ob,.int .i64 oe] 103)).alloc (.cells #[.string ⟨#[]⟩,.int .i64 0] 103)).frozen? ⟨w.heap.size+1,1,none⟩=false:=by simp [go_sem]
 have hs:w.heap.size+1<((w.alloc (.cells #[.string ob,.int .i64 oe] 103)).alloc (.cells #[.string ⟨#[]⟩,.int .i64 0] 103)).heap.size:=by simp
 generalize (w.alloc (.cells #[.string ob,.int .i64 oe] 103)).alloc (.cells #[.string ⟨#[]⟩,.int .i64 0] 103)=W0 at *
 have CC:=Ha (C.out W0 hb0)
 clear C
 generalize hk:w.heap.size=k at *
 have HK:=Ha hk;clear hk
 refine CC.out.mono ?_
 rintro e w1 ⟨rfl,b⟩
 have d5:=(b.cell (p:=⟨k+1,0,none⟩) hs).trans c5
 have d6:=(b.cell (p:=⟨k+1,1,none⟩) hs).trans c6
 have d7:=(b.frozen (p:=⟨k+1,0,none⟩) hs).trans f5
 have d8:=(b.frozen (p:=⟨k+1,1,none⟩) hs).trans f6
 have HB:=Ha (hb0.trans (b.mono (by rw [←HK.out];exact hb0.size)))
 clear b CC hb0 c5 c6 f5 f6 hs
 obtain ⟨g5,g6⟩:=au d5 d6 (.string rb) (.int .i64 re)
 go_wp2
 refine bodyPost_ret (v := .agg #[.string rb,.int .i64 re]) (by simp [results,Tryz.results283,go_sem,g5,g6]) rfl ?_
 refine ⟨rfl,?_⟩
 rw [HK.out]
 exact ((HB.out).setCell (p:=⟨k+1,0,none⟩) (by show k≤k+1;omega) _).setCell (p:=⟨k+1,1,none⟩) (by show k≤k+1;omega) _
theorem we:aa 1=⟨#[49]⟩:=gp 1 [49] bK
theorem jV (z:Int) (w:World) :
  Calls Tryz.prog 152 #[.agg #[.string (aa z),.int .i64 0]] w fun e W'=>e = .returned (.bool (decide (z=1)))∧Below w.heap.size w W':=by
 have h:((aa z).toList == [49])=decide (z=1):=by
  rw [ByteArray.toList_eq,ay]
  by_cases hz:z=1
  ·subst hz;rw [decide_eq_true rfl,bK];rfl
  ·rw [decide_eq_false hz,beq_eq_false_iff_ne]
   intro e;exact hz (fD (e.trans bK.symm))
 have H:=Ha h;clear h
 generalize aa z=s at *
 go_enter Tryz.func152,Tryz.ntmps152
 go_wp2
 go_ret
 exact ⟨bL H.out,by go_grown⟩
theorem mN (o:Option Int) (w:World) :
  Calls Tryz.prog 281 #[.agg #[.string (LB o),.int .i64 (LE o)]] w fun e W'=>e = .returned (.int .i64 (LE o))∧Below w.heap.size w W':=by
 generalize LB o=ob
 generalize LE o=oe
 go_enter Tryz.func281,Tryz.ntmps281
 go_wp2
 go_ret
 exact ⟨rfl,by go_grown⟩
theorem qC (z:Int) (w:World) :
  Calls Tryz.prog 282 #[.agg #[.string (aa z),.int .i64 0]] w fun e W'=>e = .returned (.bool (decide (z<0)))∧Below w.heap.size w W':=by
 have h:Lib.hasPrefix (aa z).data.toList [45]=decide (z<0):=by
  rw [←gy]
  cases (aa z).data.toList with
  | nil=>rfl
  | cons a t =>
   show ((45:UInt8)==a && List.isPrefixOf [] t)=(some a==some 45)
   rw [List.isPrefixOf_nil_left,Bool.and_true]
   by_cases ha:a=45
   ·subst ha;rfl
   ·rw [show ((45:UInt8)==a)=false by rw [beq_eq_false_iff_ne];exact fun e=>ha e.symm]
    simp [ha]
 have H:=Ha h;clear h
 generalize aa z=s at *
 go_enter Tryz.func282,Tryz.ntmps282
 go_wp2_with fail
 refine (Tryz.strings_HasPrefix s ⟨#[45]⟩ _).mono ?_
 rintro e w' ⟨rfl,rfl⟩
 go_wp2
 go_ret
 exact ⟨bL H.out,by go_grown⟩
theorem lI (z:Int) (l:List UInt8) (B g cap n:Nat) (hn:n=l.length) (w:World) (h:RowR B w l g cap) (hB:B≤w.heap.size) (hb:l.length+(Lib.itoa z).length≤140737488355328) :
  Calls Tryz.prog 280 #[.agg #[.string (aa z),.int .i64 0],.slice (some ⟨g,0,none⟩) n cap] w fun e W'=>∃ g' cap',e = .returned (.slice (some ⟨g',0,none⟩) (n+(Lib.itoa z).length) cap')∧RowR B W' (l++Lib.itoa z) g' cap'∧Below B w W':=by
 obtain ⟨i0,hi,hz0,hz1,hz2⟩:=info_parts eh
 have HI:=Ha (Hb hi (Hb hz0 (Hb hz1 hz2)));clear hi hz0 hz1 hz2
 have hs:=ay z
 have HH:=Ha (Hb (h.next ((Below.refl _ w).alloc (Nat.le_refl _) (.cells #[.string (aa z),.int .i64 0] 103))) (Hb hs (Hb hn hb)))
 clear h hs hn hb
 generalize Lib.itoa z=m at *
 generalize aa z=s at *
 go_enter Tryz.func280,Tryz.ntmps280
 go_wp2_with (at_builtin;refine cS rfl _ _ 115 9 rfl 5 i0 Tryz.underlying115 HI.out.1 HI.out.2.1 HI.out.2.2.1 HI.out.2.2.2 HH.out.2.2.1 rfl HH.out.1 (.string s) s.data.toList rfl (mL Tryz.underlying9 s) (by rw [HH.out.2.1];exact HH.out.2.2.2) (by simp;omega) ?_;intro w1 g1 c1 h1 hb1)
 have H1:=Ha (Hb h1 hb1);clear h1 hb1
 go_wp2
 go_ret
 have h2:=HH.out.2.1
 refine ⟨g1,c1,by rw [←h2];rfl,by have:=H1.out.1;rwa [h2] at this,?_⟩
 exact (((Below.refl B w).alloc hB _)).trans H1.out.2
def MOK (x:Int):Prop:=x=bE∨x.natAbs<4611686018427387904
theorem dK (a b:Int):MOK (aN a b):=by
 unfold aN
 split
 ·exact .inr (by assumption)
 ·exact .inl rfl
theorem still {f:FuncId} {args:Array Value} {v:Value} {w:World} (h:Calls Tryz.prog f args w fun e W'=>e = .returned v∧w=W'):Calls Tryz.prog f args w fun e W'=>e = .returned v∧W'=w:=h.mono fun _ _ h=>⟨h.1,h.2.symm⟩
def B18 (x:Int):Prop:=x.natAbs<1000000000000000000
theorem B18.lo {x:Int} (h:B18 x) : -9223372036854775808<x:=by unfold B18 at h;omega
theorem B18.hi {x:Int} (h:B18 x):x≤9223372036854775807:=by unfold B18 at h;omega
theorem oD (n:Nat) (x:Int) (W:World):(method (n+1) 98 (.int .i64 x) "kingpost/rational.times").run Tryz.prog W = .ok (277,.int .i64 x) W:=by kernel_rfl
theorem iE (a b:Int) (w:World) :
  Calls Tryz.prog 175 #[.agg #[.int .i64 a,.int .i64 b]] w fun e W'=>e = .returned (.int .i64 (if a=bE∨b=bE then 4 else 0))∧Below w.heap.size w W':=by
 have c1:=fun W=>rW a W
 have C:=Ha (Hb c1 (fun W=>rW b W))
 clear c1
 by_cases ha:a=bE
 ·rw [if_pos ha] at C
  rw [if_pos (.inl ha)]
  clear ha
  go_enter Tryz.func175,Tryz.ntmps175
  go_wp2_with fail
  refine (C.out.1 _).mono ?_
  rintro e w' ⟨rfl,rfl⟩
  go_wp2
  go_ret
  exact ⟨rfl,(Below.refl _ w).alloc (Nat.le_refl _) _⟩
 ·rw [if_neg ha] at C
  have hr:(if a=bE∨b=bE then (4:Int) else 0)=if b=bE then 4 else 0:=by
   by_cases hb:b=bE
   ·rw [if_pos (.inr hb),if_pos hb]
   ·rw [if_neg (by rintro (h | h);exact ha h;exact hb h),if_neg hb]
  rw [hr]
  clear ha hr
  generalize (if b=bE then (4:Int) else 0)=r at *
  go_enter Tryz.func175,Tryz.ntmps175
  go_wp2_with fail
  refine (C.out.1 _).mono ?_
  rintro e w' ⟨rfl,rfl⟩
  go_wp2_with fail
  refine (C.out.2 _).mono ?_
  rintro e w' ⟨rfl,rfl⟩
  go_wp2
  go_ret
  exact ⟨rfl,(Below.refl _ w).alloc (Nat.le_refl _) _⟩
def bN (s:ByteArray):ByteArray:=⟨(bj s.data.toList).toArray⟩
def bD (s:ByteArray):ByteArray:=⟨(aH s.data.toList).toArray⟩
theorem dE (s:ByteArray):(bN s).data.toList=bj s.data.toList:=by simp [bN]
theorem cM (s:ByteArray):(bD s).data.toList=aH s.data.toList:=by simp [bD]
theorem aY {s t:ByteArray} (h:s.data.toList=t.data.toList):s=t:=by
 cases s;cases t;congr 1;exact Array.ext' h
theorem jW (s:ByteArray):(bN s).size≤s.size:=by rw [←ac,dE,←ac];exact zw _
theorem pg (s:ByteArray) (h:0<s.size):(bD s).size≤s.size:=by
 rw [←ac,cM,←ac]
 rcases kU s.data.toList with ⟨_,_,h2⟩ | ⟨_,h2⟩
 ·rw [h2,ac];exact h
 ·have:=congrArg List.length h2
  simp only [List.length_append,List.length_cons] at this;omega
theorem sf {s:ByteArray} (h:bI s.data.toList=false):bN s=s∧bD s=⟨#[49]⟩:=by
 rcases kU s.data.toList with ⟨_,h2,h3⟩ | ⟨h2,_⟩
 ·exact ⟨aY (by rw [dE];exact h2.symm),aY (by rw [cM,h3])⟩
 ·rw [h] at h2;cases h2
theorem yg (l:List UInt8):(47:UInt8) ∉ bj l:=by
 unfold bj
 induction l with
 | nil=>simp
 | cons a t ih =>
  by_cases ha:a=47
  ·subst ha;rw [List.takeWhile_cons_of_neg (by decide)];simp
  ·rw [List.takeWhile_cons_of_pos (by simpa using ha),List.mem_cons,not_or]
   exact ⟨fun e=>ha e.symm,ih⟩
theorem yh {s:ByteArray} (h:bI s.data.toList=true):Lib.indexByte s.data.toList 47=((bN s).size:Int)∧s.extract 0 (bN s).size=bN s∧s.extract ((bN s).size+1) s.size=bD s∧(bN s).size+1≤s.size:=by
 rcases kU s.data.toList with ⟨h2,_,_⟩ | ⟨_,h2⟩
 ·rw [h] at h2;cases h2
 ·have hns:=yg s.data.toList
  have hl:(bN s).size=(bj s.data.toList).length:=by rw [←ac,dE]
  have hlen:=congrArg List.length h2
  simp only [List.length_append,List.length_cons] at hlen
  rw [ac] at hlen
  have hbn:=dE s
  have hbd:=cM s
  rw [hl]
  generalize bj s.data.toList=n at *
  generalize aH s.data.toList=d at *
  refine ⟨?_,?_,?_,by omega⟩
  ·rw [h2];exact qe (c:=47) d hns
  ·apply aY
   rw [Lib.extract_data,hbn,h2]
   simp
  ·apply aY
   rw [Lib.extract_data,hbd,List.take_of_length_le (by rw [List.length_drop,ac];omega),h2,List.drop_append,List.drop_eq_nil_of_le (by omega)]
   simp
def bA (s:ByteArray):ByteArray:=if bI s.data.toList then bD s else ⟨#[]⟩
theorem wg (s:ByteArray) (w:World) (hs:s.size≤maxLen) :
  Calls Tryz.prog 108 #[.string s,.string ⟨#[47]⟩] w fun e W'=>e = .returned (.tuple #[.string (bN s),.string (bA s),.bool (bI s.data.toList)])∧Below w.heap.size w W':=by
 unfold maxLen at hs
 have ci:=fun W=>Tryz.stringslite_Index_one s 47 W
 cases h:bI s.data.toList
 ·have hn:(47:UInt8) ∉ s.data.toList:=by unfold bI at h;simpa using h
  rw [qc hn] at ci
  obtain ⟨e1,_⟩:=sf h
  rw [e1,show bA s=⟨#[]⟩ by unfold bA;rw [h];rfl]
  have C:=Ha ci
  clear ci hn h e1
  go_enter Tryz.func108,Tryz.ntmps108
  go_wp2_with fail
  refine (C.out _).mono ?_
  rintro e w' ⟨rfl,rfl⟩
  go_wp2
  go_ret3
  exact ⟨rfl,Below.refl _ _⟩
 ·obtain ⟨e1,e2,e3,e4⟩:=yh h
  rw [e1] at ci
  rw [show bA s=bD s by unfold bA;rw [h];rfl]
  have C:=Ha ci
  clear ci h e1
  generalize (bN s).size=k at *
  go_enter Tryz.func108,Tryz.ntmps108
  go_wp2_with fail
  refine (C.out _).mono ?_
  rintro e w' ⟨rfl,rfl⟩
  go_wp2
  go_quiet (fail)
  go_wp2
  go_ret3
  exact ⟨rfl,⟨rfl,rfl,rfl,Nat.le_refl _,fun _ _=>rfl⟩⟩
theorem mO (s:ByteArray) (w:World) (hs:s.size≤maxLen) :
  Calls Tryz.prog 58 #[.string s,.string ⟨#[47]⟩] w fun e W'=>e = .returned (.tuple #[.string (bN s),.string (bA s),.bool (bI s.data.toList)])∧Below w.heap.size w W':=by
 have C:=Ha (fun W=>wg s W hs)
 clear hs
 generalize bN s=n at *
 generalize bA s=d at *
 generalize bI s.data.toList=b at *
 go_enter Tryz.func58,Tryz.ntmps58
 go_wp2_with fail
 refine (C.out _).mono ?_
 rintro e w' ⟨rfl,hb⟩
 have B:=Ha hb;clear hb
 go_wp2
 go_ret3
 exact ⟨rfl,B.out⟩
theorem jX (s:ByteArray) (w:World) (hs:s.size≤maxLen) :
  Calls Tryz.prog 147 #[.string s] w fun e W'=>e = .returned (.tuple #[.string (bN s),.string (bD s),.bool (bI s.data.toList)])∧Below w.heap.size w W':=by
 have C:=Ha (fun W=>mO s W hs)
 clear hs
 cases h:bI s.data.toList
 ·obtain ⟨e1,e2⟩:=sf h
  rw [e1,h] at C
  rw [e1,e2]
  clear e1 e2 h
  generalize bA s=d at *
  go_enter Tryz.func147,Tryz.ntmps147
  go_wp2_with fail
  refine (C.out _).mono ?_
  rintro e w' ⟨rfl,hb⟩
  have B:=Ha hb;clear hb
  go_wp2
  go_ret3
  exact ⟨rfl,B.out⟩
 ·rw [show bA s=bD s by unfold bA;rw [h];rfl,h] at C
  clear h
  generalize bN s=n at *
  generalize bD s=d at *
  go_enter Tryz.func147,Tryz.ntmps147
  go_wp2_with fail
  refine (C.out _).mono ?_
  rintro e w' ⟨rfl,hb⟩
  have B:=Ha hb;clear hb
  go_wp2
  go_ret3
  exact ⟨rfl,B.out⟩
def mOK (l:List UInt8):Bool:=dOK (bj l) && (!bI l || (dOK (aH l) && decide (1<valOf (aH l)) && decide (Nat.gcd (valOf (bj l)).natAbs (valOf (aH l)).natAbs=1)))
theorem ja {l:List UInt8} (h:dOK l=true):chk l=0∧B18 (valOf l):=by
 unfold dOK at h
 simp only [Bool.and_eq_true,beq_iff_eq,decide_eq_true_eq] at h
 refine ⟨h.1,?_⟩
 unfold B18
 rw [iW]
 exact iI _ (bY h.1) h.2
theorem tH {l:List UInt8} (h:mOK l=true):aM l=0∧B18 (valOf (bj l))∧B18 (valOf (aH l)):=by
 unfold mOK at h
 simp only [Bool.and_eq_true,Bool.or_eq_true,Bool.not_eq_true',decide_eq_true_eq] at h
 obtain ⟨h1,h2⟩:=h
 obtain ⟨k1,b1⟩:=ja h1
 cases hs:bI l
 ·have hd:aH l = [49]:=by unfold aH;rw [hs];rfl
  have k2:chk (aH l)=0:=by rw [hd];decide
  refine ⟨?_,b1,by rw [hd,iX];unfold B18;decide⟩
  have hf:cX l=true:=by unfold cX;rw [k1,k2,hs,hd];rfl
  unfold aM
  rw [hf,if_neg (by decide),if_neg (by rw [k1,k2];simp),if_pos (by rw [hd,kV,Nat.gcd_one_right])]
 ·rcases h2 with h2 | ⟨⟨h3,h4⟩,h5⟩
  ·rw [hs] at h2;cases h2
  ·obtain ⟨k2,b2⟩:=ja h3
   have hneg:ap (aH l)=false:=by rw [vF k2];exact decide_eq_false (by omega)
   have h48:aH l ≠ [48]:=fun e=>by rw [e] at h4;revert h4;decide
   have h49:(aH l == [49])=false:=by rw [beq_eq_false_iff_ne];intro e;rw [e,iX] at h4;omega
   refine ⟨?_,b1,b2⟩
   have hf:cX l=true:=by unfold cX;rw [k1,k2,hneg,h49,Bool.and_false];simp [h48]
   unfold aM
   rw [hf,if_neg (by decide),if_neg (by rw [k1,k2];simp),if_pos (by rw [←gv hneg,Int.natAbs_natCast] at h5;exact h5)]
end Go.Proofs.YtjdomibbaemdnaaGreatDoor
