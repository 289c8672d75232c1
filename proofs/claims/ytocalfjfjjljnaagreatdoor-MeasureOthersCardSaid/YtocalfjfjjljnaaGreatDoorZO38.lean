/- Parts of the proof of the text YtocalfjfjjljnaaGreatDoorZO44. -/
import Derived.Test.YtocalfjfjjljnaaGreatDoorZO1
import Derived.Test.YtocalfjfjjljnaaGreatDoorZO37
set_option linter.all false
set_option maxRecDepth 100000
set_option maxHeartbeats 8000000
namespace Go.Proofs.YtocalfjfjjljnaaGreatDoor
open Go.RowKit
theorem du {z:Int} (h : -1000000000000000000<z∧z<1000000000000000000):short z:=dc (by omega)
theorem ve {z:Int} (h:z.natAbs<9223372036854775808):short z:=dc h
theorem oB {x:Rat} (h:inO x=true):(-1000000000<x.num∧x.num<1000000000)∧(0<(x.den:Int)∧(x.den:Int)<1000000000):=by
 obtain ⟨h1,h2⟩:=BX h
 have:=x.den_nz
 omega
theorem gw {x:Rat} (w:World) (hx:Sq x) (ho:inO x=true) :
  Calls Tryz.prog 55 #[.string (ag x)] w fun e w'=>e = .returned (.tuple #[.int .i64 x.num,.int .i64 (x.den:Int),.bool true])∧Below w.heap.size w w':=by
 have c:=jq x w hx
 rwa [ho,if_pos rfl,if_pos rfl] at c
theorem sC {z:Int} (h:¬ short z):LB (mkL z)=⟨#[]⟩∧LE (mkL z)=4:=by
 rw [show mkL z=none from if_neg h];exact ⟨rfl,rfl⟩
theorem mu {z:Int} (h:short z):LB (mkL z)=aa z∧LE (mkL z)=0:=by
 rw [et h];exact ⟨rfl,rfl⟩
theorem eU (a b c d:Int) (w:World) (ha:short a) (hb:short b) (hc:short c) (hd:short d) (h1:short (a*b)) (h2:short (c*d)) (ht:Tab w) :
  Calls Tryz.prog 100 #[.string (aa a),.string (aa b),.string (aa c),.string (aa d)] w fun e W'=>e = .returned (.tuple #[.string (aa (a*b)),.string (aa (c*d)),.int .i64 0])∧Below w.heap.size w W':=by
 have k:=ow a b c d w ha hb hc hd ht
 rwa [if_pos h1,if_pos h1,if_pos h1,(mu h2).1,(mu h2).2] at k
def DU (a b:Int):ByteArray:=if short (a*b) then aa (a*b) else ⟨#[]⟩
def DV (a b c d:Int):ByteArray:=if short (a*b) then LB (mkL (c*d)) else ⟨#[]⟩
theorem eV (a b c d:Int) (w:World) (ha:short a) (hb:short b) (hc:short c) (hd:short d) (h:¬ (short (a*b)∧short (c*d))) (ht:Tab w) :
  Calls Tryz.prog 100 #[.string (aa a),.string (aa b),.string (aa c),.string (aa d)] w fun e W'=>e = .returned (.tuple #[.string (DU a b),.string (DV a b c d),.int .i64 4])∧Below w.heap.size w W':=by
 have k:=ow a b c d w ha hb hc hd ht
 have e:(if short (a*b) then LE (mkL (c*d)) else 4)=4:=by
  by_cases h1:short (a*b)
  ·rw [if_pos h1,(sC (fun q=>h ⟨h1,q⟩)).2]
  ·rw [if_neg h1]
 rwa [e] at k
theorem cT:short 1:=dc (by decide)
theorem iz {x y:Rat} (h:cI x y) (h1:short (x.num*y.den+y.num*x.den)) (h2:short ((x.den:Int)*y.den)):fK x y=ag (Rat.divInt (x.num*y.den+y.num*x.den) (x.den*y.den))∧fL x y=0:=by
 unfold fK fL kL kM
 rw [if_pos h,if_pos h,if_pos ⟨h1,h2⟩,if_pos ⟨h1,h2⟩];exact ⟨rfl,rfl⟩
theorem iA {x y:Rat} (h:¬ (cI x y∧short (x.num*y.den+y.num*x.den)∧short ((x.den:Int)*y.den))):fK x y=⟨#[]⟩∧fL x y=4:=by
 unfold fK fL kL kM
 by_cases hc:cI x y
 ·have h':¬ (short (x.num*y.den+y.num*x.den)∧short ((x.den:Int)*y.den)):=fun q=>h ⟨hc,q⟩
  rw [if_pos hc,if_pos hc,if_neg h',if_neg h'];exact ⟨rfl,rfl⟩
 ·rw [if_neg hc,if_neg hc];exact ⟨rfl,rfl⟩
theorem iB {n d:Int} (h1:short n) (h2:short d):kL n d=ag (Rat.divInt n d)∧kM n d=0:=by
 unfold kL kM;rw [if_pos ⟨h1,h2⟩,if_pos ⟨h1,h2⟩];exact ⟨rfl,rfl⟩
theorem vf {n d:Int} (h:¬ (short n∧short d)):kL n d=⟨#[]⟩∧kM n d=4:=by
 unfold kL kM;rw [if_neg h,if_neg h];exact ⟨rfl,rfl⟩
theorem qF (x y:Rat):((x.den:Int)*y.den)≠0:=qW x y
theorem yU (x y:Rat):0<((x.den:Int)*y.den):=by
 have h1:=x.den_nz;have h2:=y.den_nz
 exact Int.mul_pos (by omega) (by omega)
theorem yV (x y:Rat) (w:World) (hx:Sq x) (hy:Sq y) (ht:Tab w) :
  Calls Tryz.prog 61 #[.string (ag x),.string (ag y)] w fun e W'=>e = .returned (.tuple #[.string (fK x y),.int .i64 (fL x y)])∧Below w.heap.size w W':=by
 have hi:=fun W (_:Below w.heap.size w W)=>jq x W hx
 have hj:=fun W (_:Below w.heap.size w W)=>jq y W hy
 have hp:=fun W (_:Below w.heap.size w W)=>gL x W hx
 have hr:=fun W (_:Below w.heap.size w W)=>gL y W hy
 cases ox:inO x
 ·rw [ox] at hi
  by_cases hc:cI x y
  ·have P1:=fun W (hW:Below w.heap.size w W)=>eU x.num y.den y.num x.den W hx.n hy.d hy.n hx.d hc.1 hc.2 (ht.next hW)
   by_cases h2:short ((x.den:Int)*y.den)
   ·have P2:=fun W (hW:Below w.heap.size w W)=>eU x.den y.den 1 1 W hx.d hy.d cT cT h2 cT (ht.next hW)
    rw [Int.mul_one,ia] at P2
    have A1:=fun W (hW:Below w.heap.size w W)=>sq (x.num*y.den) (y.num*x.den) W hc.1 hc.2 (ht.next hW)
    by_cases h1:short (x.num*y.den+y.num*x.den)
    ·rw [(iz hc h1 h2).1,(iz hc h1 h2).2]
     rw [(mu h1).1,(mu h1).2] at A1
     have M:=fun W (hW:Below w.heap.size w W)=>ns (x.num*y.den+y.num*x.den) (x.den*y.den) W h1 h2 (qF x y) (ht.next hW)
     exact yJ _ _ _ _ _ _ _ _ _ _ _ _ _ _ _ _ _ w hi hj hp hr P1 P2 A1 M
    ·have hn:=iA (x:=x) (y:=y) (fun q=>h1 q.2.1)
     rw [hn.1,hn.2]
     rw [(sC h1).1,(sC h1).2] at A1
     exact yI _ _ _ _ _ _ _ _ _ _ _ _ _ _ _ 4 w (by decide) (by decide) hi hj hp hr P1 P2 A1
   ·have hn:=iA (x:=x) (y:=y) (fun q=>h2 q.2.2)
    rw [hn.1,hn.2]
    have P2:=fun W (hW:Below w.heap.size w W)=>eV x.den y.den 1 1 W hx.d hy.d cT cT (fun q=>h2 q.1) (ht.next hW)
    rw [ia] at P2
    exact yH _ _ _ _ _ _ _ _ _ _ _ _ _ _ _ 4 w (by decide) (by decide) hi hj hp hr P1 P2
  ·have hn:=iA (x:=x) (y:=y) (fun q=>hc q.1)
   rw [hn.1,hn.2]
   have P1:=fun W (hW:Below w.heap.size w W)=>eV x.num y.den y.num x.den W hx.n hy.d hy.n hx.d hc (ht.next hW)
   exact yG _ _ _ _ _ _ _ _ _ _ _ _ _ 4 w (by decide) (by decide) hi hj hp hr P1
 ·cases oy:inO y
  ·rw [ox] at hi
   rw [oy] at hj
   by_cases hc:cI x y
   ·have P1:=fun W (hW:Below w.heap.size w W)=>eU x.num y.den y.num x.den W hx.n hy.d hy.n hx.d hc.1 hc.2 (ht.next hW)
    by_cases h2:short ((x.den:Int)*y.den)
    ·have P2:=fun W (hW:Below w.heap.size w W)=>eU x.den y.den 1 1 W hx.d hy.d cT cT h2 cT (ht.next hW)
     rw [Int.mul_one,ia] at P2
     have A1:=fun W (hW:Below w.heap.size w W)=>sq (x.num*y.den) (y.num*x.den) W hc.1 hc.2 (ht.next hW)
     by_cases h1:short (x.num*y.den+y.num*x.den)
     ·rw [(iz hc h1 h2).1,(iz hc h1 h2).2]
      rw [(mu h1).1,(mu h1).2] at A1
      have M:=fun W (hW:Below w.heap.size w W)=>ns (x.num*y.den+y.num*x.den) (x.den*y.den) W h1 h2 (qF x y) (ht.next hW)
      exact yN _ _ _ _ _ _ _ _ _ _ _ _ _ _ _ _ w hi hj hp hr P1 P2 A1 M
     ·have hn:=iA (x:=x) (y:=y) (fun q=>h1 q.2.1)
      rw [hn.1,hn.2]
      rw [(sC h1).1,(sC h1).2] at A1
      exact yM _ _ _ _ _ _ _ _ _ _ _ _ _ _ 4 w (by decide) (by decide) hi hj hp hr P1 P2 A1
    ·have hn:=iA (x:=x) (y:=y) (fun q=>h2 q.2.2)
     rw [hn.1,hn.2]
     have P2:=fun W (hW:Below w.heap.size w W)=>eV x.den y.den 1 1 W hx.d hy.d cT cT (fun q=>h2 q.1) (ht.next hW)
     rw [ia] at P2
     exact yL _ _ _ _ _ _ _ _ _ _ _ _ _ _ 4 w (by decide) (by decide) hi hj hp hr P1 P2
   ·have hn:=iA (x:=x) (y:=y) (fun q=>hc q.1)
    rw [hn.1,hn.2]
    have P1:=fun W (hW:Below w.heap.size w W)=>eV x.num y.den y.num x.den W hx.n hy.d hy.n hx.d hc (ht.next hW)
    exact yK _ _ _ _ _ _ _ _ _ _ _ _ 4 w (by decide) (by decide) hi hj hp hr P1
  ·have hi:=fun W (_:Below w.heap.size w W)=>gw W hx ox
   have hj:=fun W (_:Below w.heap.size w W)=>gw W hy oy
   obtain ⟨bx,cx⟩:=oB ox
   obtain ⟨bu,cu⟩:=oB oy
   have z1:=j3 (x:=x.num) (y:=y.den) (by omega) (by omega)
   have z2:=j3 (x:=y.num) (y:=x.den) (by omega) (by omega)
   have z3:=j3 (x:=x.den) (y:=y.den) (by omega) (by omega)
   have z4:=yU x y
   rw [(iz (x:=x) (y:=y) ⟨du z1,du z2⟩ (ve (by omega)) (du z3)).1,(iz (x:=x) (y:=y) ⟨du z1,du z2⟩ (ve (by omega)) (du z3)).2]
   exact Cx _ _ _ _ _ _ _ w bx cx bu cu hi hj (fun W _=>dY _ _ W (by omega) z4 (by omega))
theorem yW (n d m c:Int) (w:World) (hn:short n) (hd:short d) (hm:short m) (hc:short c) (h0:d*c≠0) (ht:Tab w) :
  Calls Tryz.prog 58 #[.string (aa n),.string (aa d),.string (aa m),.string (aa c)] w fun e W'=>e = .returned (.tuple #[.string (kL (n*m) (d*c)),.int .i64 (kM (n*m) (d*c))])∧Below w.heap.size w W':=by
 by_cases h:short (n*m)∧short (d*c)
 ·rw [(iB h.1 h.2).1,(iB h.1 h.2).2]
  exact AJ _ _ _ _ _ _ _ _ w (fun W hW=>eU n m d c W hn hm hd hc h.1 h.2 (ht.next hW)) (fun W hW=>ns _ _ W h.1 h.2 h0 (ht.next hW))
 ·rw [(vf h).1,(vf h).2]
  exact CK _ _ _ _ _ _ 4 w (by decide) (by decide) (fun W hW=>eV n m d c W hn hm hd hc h (ht.next hW))
theorem lD (a b:ByteArray) (w:World) (ha:a.size≤maxLen) (hb:b.size≤maxLen) (ht:Tab w) :
  Calls Tryz.prog 54 #[.string a,.string b] w fun e W'=>e = .returned (.int .i64 (iy a b))∧Below w.heap.size w W':=by
 have h1:=fun W (hW:Below w.heap.size w W)=>fg a W ha (ht.next hW)
 have h2:=fun W (hW:Below w.heap.size w W)=>fg b W hb (ht.next hW)
 unfold iy
 by_cases e:aM a.data.toList=0
 ·rw [if_pos e]
  rw [e] at h1
  exact wG a b _ w h1 h2
 ·rw [if_neg e]
  exact uc a b _ w (aQ e).1 (aQ e).2 h1
theorem sE (x y:Rat):fK x (-y)=sX x y∧fL x (-y)=sY x y:=by
 have hc:cI x (-y)↔cI x y:=by
  unfold cI short
  rw [Rat.neg_num,Rat.neg_den,Int.neg_mul,Int.natAbs_neg]
 have hs:x.num*((-y).den:Int)+(-y).num*x.den=x.num*y.den - y.num*x.den:=by
  rw [Rat.neg_num,Rat.neg_den,Int.neg_mul];omega
 unfold fK fL sX sY
 rw [hs,Rat.neg_den]
 by_cases h:cI x y
 ·rw [if_pos h,if_pos h,if_pos (hc.2 h),if_pos (hc.2 h)];exact ⟨rfl,rfl⟩
 ·rw [if_neg h,if_neg h,if_neg (fun q=>h (hc.1 q)),if_neg (fun q=>h (hc.1 q))];exact ⟨rfl,rfl⟩
theorem mO {y:Rat} (h:y.num<0):cW y=45::cW (-y):=by
 have e1:Lib.itoa y.num=45::Lib.itoa (-y.num):=by
  unfold Lib.itoa
  rw [if_pos h,if_neg (by omega),show (-y.num).toNat=y.num.natAbs by omega]
 unfold cW
 rw [Rat.neg_num,Rat.neg_den,e1]
 split <;> rfl
theorem yX {y:Rat} (h:y.num<0):ag y=⟨#[45]⟩++ag (-y):=by
 apply aK
 rw [gK,be,be,mO h];rfl
theorem yY {y:Rat} (h:y.num<0):(ag y).extract 1 (ag y).size=ag (-y):=by
 apply aK
 rw [Lib.extract_data,List.take_of_length_le (by rw [List.length_drop,ac];omega),be,be,mO h];rfl
theorem wH {y:Rat} (h:Sq y):(ag y).size≤1000:=by
 have h1:=aJ h.n
 have h2:=aJ h.d
 rw [←ac,aB] at h1 h2
 rw [←ac,be]
 unfold cW
 split
 ·omega
 ·rw [List.length_append,List.length_cons];omega
theorem mP {y:Rat}:y.num<0↔y<0:=by
 rw [←Rat.not_le,←Rat.num_nonneg];omega
theorem CQ (y:Rat) (w:World) (hy:Sq y) :
  Calls Tryz.prog 62 #[.string (ag y)] w fun e W'=>e = .returned (.string (ag (-y)))∧Below w.heap.size w W':=by
 have hp:=xV y
 have hp':(0:Int)<(ag y).size:=by omega
 have h45:=(au hp).trans (rK y)
 rcases Int.lt_trichotomy y.num 0 with h | h | h
 ·rw [←yY h]
  refine CH _ w ?_ hp hp' ?_
  ·rw [eH];exact decide_eq_false (fun q=>by rw [q] at h;exact absurd h (by decide))
  ·rw [h45];exact decide_eq_true (mP.1 h)
 ·have e:y=0:=Rat.num_eq_zero.1 h
  subst e
  rw [show (-0:Rat)=0 from Rat.neg_zero]
  exact CF _ w (by rw [eH];rfl)
 ·have e:=yX (y := -y) (by rw [Rat.neg_num];omega)
  rw [Rat.neg_neg] at e
  rw [e]
  refine CJ _ w (wH hy) ?_ hp hp' ?_
  ·rw [eH];exact decide_eq_false (fun q=>by rw [q] at h;exact absurd h (by decide))
  ·rw [h45];exact decide_eq_false (fun q=>by have:=mP.2 q;omega)
theorem CU {y:Rat} (h:Sq y):Sq (-y):=by
 refine ⟨?_,?_⟩
 ·rw [Rat.neg_num,Int.natAbs_neg];exact h.1
 ·rw [Rat.neg_den];exact h.2
theorem sF (a b:ByteArray) (w:World) (ha:a.size≤maxLen) (hb:b.size≤maxLen) (ht:Tab w) :
  Calls Tryz.prog 32 #[.string a,.string b] w fun e W'=>e = .returned (.tuple #[.string (opB fK a b),.int .i64 (opE fL a b)])∧Below w.heap.size w W':=by
 have hk:=fun W (hW:Below w.heap.size w W)=>lD a b W ha hb (ht.next hW)
 unfold opB opE
 by_cases h:iy a b=0
 ·rw [if_pos h,if_pos h]
  rw [h] at hk
  have sx:=eO (bU h).1
  have sy:=eO (bU h).2
  have ex:=cH (bU h).1
  have ey:=cH (bU h).2
  have c:=fun W (hW:Below w.heap.size w W)=>yV (rat a) (rat b) W sx sy (ht.next hW)
  rw [ex,ey] at c
  exact AH a b _ _ w hk c
 ·rw [if_neg h,if_neg h]
  exact yQ a b _ w (aQ h).1 (aQ h).2 hk
theorem yZ (a b:ByteArray) (w:World) (ha:a.size≤maxLen) (hb:b.size≤maxLen) (ht:Tab w) :
  Calls Tryz.prog 24 #[.string a,.string b] w fun e W'=>e = .returned (.tuple #[.string (opB sX a b),.int .i64 (opE sY a b)])∧Below w.heap.size w W':=by
 have hk:=fun W (hW:Below w.heap.size w W)=>lD a b W ha hb (ht.next hW)
 unfold opB opE
 by_cases h:iy a b=0
 ·rw [if_pos h,if_pos h]
  rw [h] at hk
  have sx:=eO (bU h).1
  have sy:=eO (bU h).2
  have ex:=cH (bU h).1
  have ey:=cH (bU h).2
  have c:=fun W (hW:Below w.heap.size w W)=>yV (rat a) (-(rat b)) W sx (CU sy) (ht.next hW)
  have n:=fun W (_:Below w.heap.size w W)=>CQ (rat b) W sy
  rw [(sE _ _).1,(sE _ _).2,ex] at c
  rw [ey] at n
  exact AI a b _ _ _ w hk n c
 ·rw [if_neg h,if_neg h]
  exact yR a b _ w (aQ h).1 (aQ h).2 hk
theorem CX (x y:Rat) (w:World) (hx:Sq x) (hy:Sq y) (h0:CqB w 54 #[.string (ag x),.string (ag y)] (.int .i64 0)) (ht:Tab w) :
  Calls Tryz.prog 63 #[.string (ag x),.string (ag y)] w fun e W'=>e = .returned (.tuple #[.string (kf x y),.int .i64 (kg x y)])∧Below w.heap.size w W':=by
 unfold kf kg
 have hi:=fun W (_:Below w.heap.size w W)=>jq x W hx
 have hj:=fun W (_:Below w.heap.size w W)=>jq y W hy
 have hp:=fun W (_:Below w.heap.size w W)=>gL x W hx
 have hr:=fun W (_:Below w.heap.size w W)=>gL y W hy
 have hm:=fun W (hW:Below w.heap.size w W)=>yW x.num x.den y.num y.den W hx.n hx.d hy.n hy.d (qF x y) (ht.next hW)
 cases ox:inO x
 ·rw [ox] at hi
  exact AM _ _ _ _ _ _ _ _ _ _ _ _ _ w h0 hi hj hp hr hm
 ·cases oy:inO y
  ·rw [ox] at hi
   rw [oy] at hj
   exact AO _ _ _ _ _ _ _ _ _ _ _ _ w h0 hi hj hp hr hm
  ·have hi:=fun W (_:Below w.heap.size w W)=>gw W hx ox
   have hj:=fun W (_:Below w.heap.size w W)=>gw W hy oy
   obtain ⟨bx,cx⟩:=oB ox
   obtain ⟨bu,cu⟩:=oB oy
   have z1:=j3 (x:=x.num) (y:=y.num) (by omega) (by omega)
   have z3:=j3 (x:=x.den) (y:=y.den) (by omega) (by omega)
   have z4:=yU x y
   rw [(iB (du z1) (du z3)).1,(iB (du z1) (du z3)).2]
   exact CN _ _ _ _ _ _ _ w bx cx bu cu h0 hi hj (fun W _=>dY _ _ W (by omega) z4 (by omega))
theorem y3 (a b:ByteArray) (w:World) (ha:a.size≤maxLen) (hb:b.size≤maxLen) (ht:Tab w) :
  Calls Tryz.prog 63 #[.string a,.string b] w fun e W'=>e = .returned (.tuple #[.string (opB kf a b),.int .i64 (opE kg a b)])∧Below w.heap.size w W':=by
 have hk:=fun W (hW:Below w.heap.size w W)=>lD a b W ha hb (ht.next hW)
 unfold opB opE
 by_cases h:iy a b=0
 ·rw [if_pos h,if_pos h]
  rw [h] at hk
  have sx:=eO (bU h).1
  have sy:=eO (bU h).2
  have ex:=cH (bU h).1
  have ey:=cH (bU h).2
  have c:=CX (rat a) (rat b) w sx sy (by rw [ex,ey];exact hk) ht
  rwa [ex,ey] at c
 ·rw [if_neg h,if_neg h]
  exact yS a b _ w (aQ h).1 (aQ h).2 hk
theorem sG (n d:Int):Rat.divInt (n * -1) (d * -1)=Rat.divInt n d:=Rat.divInt_mul_right (by decide)
theorem CY (x y:Rat) (w:World) (hx:Sq x) (hy:Sq y) (hy0:y≠0) (h0:CqB w 54 #[.string (ag x),.string (ag y)] (.int .i64 0)) (ht:Tab w) :
  Calls Tryz.prog 21 #[.string (ag x),.string (ag y)] w fun e W'=>e = .returned (.tuple #[.string (kh x y),.int .i64 (kj x y)])∧Below w.heap.size w W':=by
 have hz:((ag y).toList == [48])=false:=by rw [eH];exact decide_eq_false hy0
 have hn0:y.num≠0:=fun q=>hy0 (Rat.num_eq_zero.1 q)
 unfold kh kj
 have hi:=fun W (_:Below w.heap.size w W)=>jq x W hx
 have hj:=fun W (_:Below w.heap.size w W)=>jq y W hy
 have hp:=fun W (_:Below w.heap.size w W)=>gL x W hx
 have hr:=fun W (_:Below w.heap.size w W)=>gL y W hy
 have hm:∀ W,Below w.heap.size w W→_:=fun W (hW:Below w.heap.size w W)=>yW x.num x.den y.den y.num W hx.n hx.d hy.d hy.n (fun q=>(Int.mul_eq_zero.1 q).elim (jh x) hn0) (ht.next hW)
 rw [Int.mul_comm (x.den:Int) y.num] at hm
 cases ox:inO x
 ·rw [ox] at hi
  exact AN _ _ _ _ _ _ _ _ _ _ _ _ _ w hz h0 hi hj hp hr hm
 ·cases oy:inO y
  ·rw [ox] at hi
   rw [oy] at hj
   exact AP _ _ _ _ _ _ _ _ _ _ _ _ w hz h0 hi hj hp hr hm
  ·have hi:=fun W (_:Below w.heap.size w W)=>gw W hx ox
   have hj:=fun W (_:Below w.heap.size w W)=>gw W hy oy
   obtain ⟨bx,cx⟩:=oB ox
   obtain ⟨bu,cu⟩:=oB oy
   have z1:=j3 (x:=x.num) (y:=y.den) (by omega) (by omega)
   have z3:=j3 (x:=y.num) (y:=x.den) (by omega) (by omega)
   have d0:(0:Int)<x.den:=cx.1
   rw [(iB (du z1) (du z3)).1,(iB (du z1) (du z3)).2]
   rcases Int.lt_or_gt_of_ne hn0 with h | h
   ·have e:Rat.divInt (x.num*y.den) (y.num*x.den)=Rat.divInt (x.num * -y.den) (x.den * -y.num):=by
     rw [←sG (x.num*y.den),Int.mul_assoc,Int.mul_comm y.num,Int.mul_assoc (x.den:Int)]
     congr 2 <;> omega
    rw [e]
    have z5:0<(x.den:Int) * -y.num:=Int.mul_pos d0 (by omega)
    have z6:(x.den:Int) * -y.num = -(y.num*x.den):=by rw [Int.mul_neg,Int.mul_comm]
    have z7:x.num * -(y.den:Int) = -(x.num*y.den):=Int.mul_neg _ _
    exact AL _ _ _ _ _ _ _ w hz h bx cx bu cu h0 hi hj (fun W _=>dY _ _ W (by omega) z5 (by omega))
   ·rw [Int.mul_comm y.num]
    rw [Int.mul_comm y.num] at z3
    have z5:0<(x.den:Int)*y.num:=Int.mul_pos d0 (by omega)
    exact AK _ _ _ _ _ _ _ w hz h bx cx bu cu h0 hi hj (fun W _=>dY _ _ W (by omega) z5 (by omega))
theorem y5 (a b:ByteArray) (w:World) (ha:a.size≤maxLen) (hb:b.size≤maxLen) (ht:Tab w) :
  Calls Tryz.prog 21 #[.string a,.string b] w fun e W'=>e = .returned (.tuple #[.string (opB ua a b),.int .i64 (opE ub a b)])∧Below w.heap.size w W':=by
 have hk:=fun W (hW:Below w.heap.size w W)=>lD a b W ha hb (ht.next hW)
 unfold opB opE
 by_cases h:iy a b=0
 ·rw [if_pos h,if_pos h]
  rw [h] at hk
  have sx:=eO (bU h).1
  have sy:=eO (bU h).2
  have ex:=cH (bU h).1
  have ey:=cH (bU h).2
  unfold ua ub
  by_cases h0:rat b=0
  ·rw [if_pos h0,if_pos h0]
   exact CO a b w (by rw [←ey,eH];exact decide_eq_true h0) hk
  ·rw [if_neg h0,if_neg h0]
   have c:=CY (rat a) (rat b) w sx sy h0 (by rw [ex,ey];exact hk) ht
   rwa [ex,ey] at c
 ·rw [if_neg h,if_neg h]
  exact yT a b _ w (aQ h).1 (aQ h).2 hk
theorem ud (a:ByteArray) (f:Int) (w:World) (n1:(f==0)=false) (n2:(f != 0)=true)
  (h1:CqB w 37 #[.string a] (.int .i64 f)) :
  Calls Tryz.prog 38 #[.string a] w fun e W'=>e = .returned (.tuple #[.string ⟨#[]⟩,.string ⟨#[]⟩,.int .i64 f])∧Below w.heap.size w W':=by
 have C:=Ha h1;clear h1
 go_enter Tryz.func38,Tryz.ntmps38
 go_wp2_with fail
 refine (C.out _ (Below.refl _ _)).mono ?_
 rintro e w1 ⟨rfl,b⟩
 have H1:=Ha b;clear b
 go_wp2
 go_ret3
 exact ⟨rfl,H1.out⟩
theorem wI (a n d:ByteArray) (w:World)
  (h1:CqB w 37 #[.string a] (.int .i64 0))
  (h2:CqB w 57 #[.string a] (.tuple #[.string n,.string d])) :
  Calls Tryz.prog 38 #[.string a] w fun e W'=>e = .returned (.tuple #[.string n,.string d,.int .i64 0])∧Below w.heap.size w W':=by
 have C:=Ha (Hb h1 h2);clear h1 h2
 go_enter Tryz.func38,Tryz.ntmps38
 go_wp2_with fail
 refine (C.out.1 _ (Below.refl _ _)).mono ?_
 rintro e w1 ⟨rfl,b⟩
 have H1:=Ha b;clear b
 go_wp2_with fail
 refine (C.out.2 _ H1.out).mono ?_
 rintro e w2 ⟨rfl,b⟩
 have H2:=Ha (H1.out.trans (b.mono H1.out.size));clear b H1
 go_wp2
 go_ret3
 exact ⟨rfl,H2.out⟩
theorem y6 {a:ByteArray} (h:aM a.data.toList=0):paN a=aa (rat a).num∧paD a=aa ((rat a).den:Int):=by
 unfold paN paD
 rw [if_pos h,if_pos h,←ni,←nj,cH h];exact ⟨rfl,rfl⟩
theorem y7 {a:ByteArray} (h:aM a.data.toList≠0):paN a=⟨#[]⟩∧paD a=⟨#[]⟩:=by
 unfold paN paD;rw [if_neg h,if_neg h];exact ⟨rfl,rfl⟩
theorem ue (a:ByteArray) (w:World) (ha:a.size≤maxLen) (ht:Tab w) :
  Calls Tryz.prog 38 #[.string a] w fun e W'=>e = .returned (.tuple #[.string (paN a),.string (paD a),.int .i64 (aM a.data.toList)])∧Below w.heap.size w W':=by
 have hk:=fun W (hW:Below w.heap.size w W)=>fg a W ha (ht.next hW)
 by_cases h:aM a.data.toList=0
 ·rw [(y6 h).1,(y6 h).2]
  rw [h] at hk ⊢
  have c:=fun W (_:Below w.heap.size w W)=>gL (rat a) W (eO h)
  rw [cH h] at c
  exact wI a _ _ w hk c
 ·rw [(y7 h).1,(y7 h).2]
  exact ud a _ w (aQ h).1 (aQ h).2 hk
theorem uf (q:Int):Rat.divInt q 1=(q:Rat):=by
 have h:=Rat.num_divInt_den (q:Rat)
 rwa [Rat.num_intCast,Rat.den_intCast] at h
theorem wJ {n d:Int} (hd:0<d) (h:n.tmod d<0):n.tdiv d - 1=n.fdiv d:=by
 have h2:=Int.mul_tdiv_add_tmod n d
 have h3 : -d<n.tmod d:=by
  have:=Int.lt_tmod_of_pos n hd;exact this
 rw [Int.fdiv_eq_ediv_of_nonneg _ (by omega)]
 refine ((Int.ediv_emod_unique (a:=n) (b:=d) (r:=n.tmod d+d) (q:=n.tdiv d - 1) hd).2 ⟨?_,by omega,by omega⟩).1.symm
 rw [Int.mul_sub,Int.mul_one];omega
theorem wK {n d:Int} (hd:0<d) (h:¬ n.tmod d<0):n.tdiv d=n.fdiv d:=by
 have h1:=Int.tmod_lt_of_pos n hd
 have h2:=Int.mul_tdiv_add_tmod n d
 rw [Int.fdiv_eq_ediv_of_nonneg _ (by omega)]
 refine ((Int.ediv_emod_unique (a:=n) (b:=d) (r:=n.tmod d) (q:=n.tdiv d) hd).2 ⟨?_,by omega,h1⟩).1.symm
 omega
theorem ug (a:ByteArray) (f:Int) (w:World) (n1:(f==0)=false) (n2:(f != 0)=true)
  (h1:CqB w 37 #[.string a] (.int .i64 f)) :
  Calls Tryz.prog 23 #[.string a] w fun e W'=>e = .returned (.tuple #[.string ⟨#[]⟩,.int .i64 f])∧Below w.heap.size w W':=by
 have C:=Ha h1;clear h1
 go_enter Tryz.func23,Tryz.ntmps23
 go_wp2_with fail
 refine (C.out _ (Below.refl _ _)).mono ?_
 rintro e w1 ⟨rfl,b⟩
 have H1:=Ha b;clear b
 go_wp2
 go_ret2
 exact ⟨rfl,H1.out⟩
theorem sH (a r:ByteArray) (n d q:Int) (neg:Bool) (w:World) (hn : -1000000000<n∧n<1000000000) (hd:0<d∧d<1000000000) (hneg:decide (n.tmod d<0)=neg) (hq:(if neg=true then n.tdiv d - 1 else n.tdiv d)=q)
  (h1:CqB w 37 #[.string a] (.int .i64 0))
  (h2:CqB w 55 #[.string a] (.tuple #[.int .i64 n,.int .i64 d,.bool true]))
  (h3:CqB w 56 #[.int .i64 q,.int .i64 1] (.string r)) :
  Calls Tryz.prog 23 #[.string a] w fun e W'=>e = .returned (.tuple #[.string r,.int .i64 0])∧Below w.heap.size w W':=by
 have C:=Ha (Hb h1 (Hb h2 h3));clear h1 h2 h3
 have d0:¬ d=0:=by omega
 have d1:(d==0)=false:=by rw [beq_eq_false_iff_ne];exact d0
 have b1:(n.tdiv d).natAbs≤n.natAbs:=by rw [Int.natAbs_tdiv];exact Nat.div_le_self _ _
 have b2 : -1000000000<n.tdiv d∧n.tdiv d<1000000000:=by omega
 have b3:(n.tmod d).natAbs<1000000000:=by
  rw [Int.natAbs_tmod]
  exact Nat.lt_of_lt_of_le (Nat.mod_lt _ (by omega)) (by omega)
 have b4 : -1000000000<n.tmod d∧n.tmod d<1000000000:=by omega
 obtain ⟨b5,b6⟩:=b2
 obtain ⟨b7,b8⟩:=b4
 clear b1 b3
 cases neg
 ·have hm:=of_decide_eq_false hneg
  rw [if_neg (by decide)] at hq
  subst hq
  clear hneg hn
  go_enter Tryz.func23,Tryz.ntmps23
  go_wp2_with fail
  refine (C.out.1 _ (Below.refl _ _)).mono ?_
  rintro e w1 ⟨rfl,b⟩
  have H1:=Ha b;clear b
  go_wp2_with fail
  refine (C.out.2.1 _ H1.out).mono ?_
  rintro e w2 ⟨rfl,b⟩
  have H2:=Ha (H1.out.trans (b.mono H1.out.size));clear b H1
  go_wp2_with fail
  refine (C.out.2.2 _ H2.out).mono ?_
  rintro e w3 ⟨rfl,b⟩
  have H3:=Ha (H2.out.trans (b.mono H2.out.size));clear b H2
  go_wp2
  go_ret2
  exact ⟨rfl,H3.out⟩
 ·have hm:=of_decide_eq_true hneg
  rw [if_pos rfl] at hq
  subst hq
  clear hneg hn
  go_enter Tryz.func23,Tryz.ntmps23
  go_wp2_with fail
  refine (C.out.1 _ (Below.refl _ _)).mono ?_
  rintro e w1 ⟨rfl,b⟩
  have H1:=Ha b;clear b
  go_wp2_with fail
  refine (C.out.2.1 _ H1.out).mono ?_
  rintro e w2 ⟨rfl,b⟩
  have H2:=Ha (H1.out.trans (b.mono H1.out.size));clear b H1
  go_wp2_with fail
  refine (C.out.2.2 _ H2.out).mono ?_
  rintro e w3 ⟨rfl,b⟩
  have H3:=Ha (H2.out.trans (b.mono H2.out.size));clear b H2
  go_wp2
  go_ret2
  exact ⟨rfl,H3.out⟩
theorem y8 (a n d q r t:ByteArray) (x y:Int) (w:World)
  (h1:CqB w 37 #[.string a] (.int .i64 0))
  (h2:CqB w 55 #[.string a] (.tuple #[.int .i64 x,.int .i64 y,.bool false]))
  (h3:CqB w 57 #[.string a] (.tuple #[.string n,.string d]))
  (h4:CqB w 59 #[.string n,.string d] (.tuple #[.string q,.string r,.int .i64 0]))
  (h5:CqB w 60 #[.string q,.string ⟨#[49]⟩] (.tuple #[.string t,.int .i64 0])) :
  Calls Tryz.prog 23 #[.string a] w fun e W'=>e = .returned (.tuple #[.string t,.int .i64 0])∧Below w.heap.size w W':=by
 have C:=Ha (Hb h1 (Hb h2 (Hb h3 (Hb h4 h5))));clear h1 h2 h3 h4 h5
 go_enter Tryz.func23,Tryz.ntmps23
 go_wp2_with fail
 refine (C.out.1 _ (Below.refl _ _)).mono ?_
 rintro e w1 ⟨rfl,b⟩
 have H1:=Ha b;clear b
 go_wp2_with fail
 refine (C.out.2.1 _ H1.out).mono ?_
 rintro e w2 ⟨rfl,b⟩
 have H2:=Ha (H1.out.trans (b.mono H1.out.size));clear b H1
 go_wp2_with fail
 refine (C.out.2.2.1 _ H2.out).mono ?_
 rintro e w3 ⟨rfl,b⟩
 have H3:=Ha (H2.out.trans (b.mono H2.out.size));clear b H2
 go_wp2_with fail
 refine (C.out.2.2.2.1 _ H3.out).mono ?_
 rintro e w4 ⟨rfl,b⟩
 have H4:=Ha (H3.out.trans (b.mono H3.out.size));clear b H3
 go_wp2_with fail
 refine (C.out.2.2.2.2 _ H4.out).mono ?_
 rintro e w5 ⟨rfl,b⟩
 have H5:=Ha (H4.out.trans (b.mono H4.out.size));clear b H4
 go_wp2
 go_ret2
 exact ⟨rfl,H5.out⟩
theorem mv (q:Int):ag (Rat.divInt q 1)=aa q:=by rw [uf,cR]
theorem oC (a:ByteArray) (w:World) (ha:a.size≤maxLen) (ht:Tab w) :
  Calls Tryz.prog 23 #[.string a] w fun e W'=>e = .returned (.tuple #[.string (AG a),.int .i64 (aM a.data.toList)])∧Below w.heap.size w W':=by
 have hk:=fun W (hW:Below w.heap.size w W)=>fg a W ha (ht.next hW)
 unfold AG
 by_cases h:aM a.data.toList=0
 ·rw [if_pos h]
  rw [h] at hk ⊢
  have sx:=eO h
  have hi:=fun W (_:Below w.heap.size w W)=>jq (rat a) W sx
  have hd0:(0:Int)<(rat a).den:=by have:=(rat a).den_nz;omega
  rw [cH h] at hi
  cases ho:inO (rat a)
  ·rw [ho] at hi
   have hp:=fun W (_:Below w.heap.size w W)=>gL (rat a) W sx
   rw [cH h] at hp
   have hv:=fun W (hW:Below w.heap.size w W)=>ov (rat a).num (rat a).den W sx.n sx.d (by omega) (ht.next hW)
   have hm:=fun W (hW:Below w.heap.size w W)=>ns ((rat a).num.fdiv (rat a).den) 1 W (dR sx.n (by omega)) cT (by decide) (ht.next hW)
   rw [mv,ia] at hm
   exact y8 a _ _ _ _ _ _ _ w hk hi hp hv hm
  ·have hi:=fun W (_:Below w.heap.size w W)=>gw W sx ho
   rw [cH h] at hi
   obtain ⟨bx,cx⟩:=oB ho
   have b1:((rat a).num.tdiv (rat a).den).natAbs≤(rat a).num.natAbs:=by rw [Int.natAbs_tdiv];exact Nat.div_le_self _ _
   by_cases hneg:(rat a).num.tmod (rat a).den<0
   ·rw [←wJ hd0 hneg]
    have hq:=fun W (_:Below w.heap.size w W)=>dY ((rat a).num.tdiv (rat a).den - 1) 1 W (by omega) (by decide) (by decide)
    rw [mv] at hq
    exact sH a _ _ _ _ true w bx cx (decide_eq_true hneg) (if_pos rfl) hk hi hq
   ·rw [←wK hd0 hneg]
    have hq:=fun W (_:Below w.heap.size w W)=>dY ((rat a).num.tdiv (rat a).den) 1 W (by omega) (by decide) (by decide)
    rw [mv] at hq
    exact sH a _ _ _ _ false w bx cx (decide_eq_false hneg) (if_neg (by decide)) hk hi hq
 ·rw [if_neg h]
  exact ug a _ w (aQ h).1 (aQ h).2 hk
end Go.Proofs.YtocalfjfjjljnaaGreatDoor
