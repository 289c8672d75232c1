/- Parts of the proof of the text YteckjifdpcbaeaaGreatDoorZG38. -/
import Derived.Test.YteckjifdpcbaeaaGreatDoorZG1
import Derived.Test.YteckjifdpcbaeaaGreatDoorZG36
set_option linter.all false
set_option maxRecDepth 100000
set_option maxHeartbeats 8000000
namespace Go.Proofs.YteckjifdpcbaeaaGreatDoor
open Go.RowKit
theorem short18 {z:Int} (h : -1000000000000000000<z∧z<1000000000000000000):short z:=short_m (by omega)
theorem short19 {z:Int} (h:z.natAbs<9223372036854775808):short z:=short_m h
theorem inO_i {x:Rat} (h:inO x=true):(-1000000000<x.num∧x.num<1000000000)∧(0<(x.den:Int)∧(x.den:Int)<1000000000):=by
 obtain ⟨h1,h2⟩:=inO_b h
 have:=x.den_nz
 omega
theorem ints_yes {x:Rat} (w:World) (hx:Sq x) (ho:inO x=true) :
  Calls Tryz.prog 60 #[.string (strQ x)] w fun e w'=>e = .returned (.tuple #[.int .i64 x.num,.int .i64 (x.den:Int),.bool true])∧Below w.heap.size w w':=by
 have c:=ints_q x w hx
 rwa [ho,if_pos rfl,if_pos rfl] at c
theorem LE_no {z:Int} (h:¬ short z):LB (mkL z)=⟨#[]⟩∧LE (mkL z)=4:=by
 rw [show mkL z=none from if_neg h];exact ⟨rfl,rfl⟩
theorem LE_yes {z:Int} (h:short z):LB (mkL z)=strB z∧LE (mkL z)=0:=by
 rw [mkL_some h];exact ⟨rfl,rfl⟩
theorem products_yes (a b c d:Int) (w:World) (ha:short a) (hb:short b) (hc:short c) (hd:short d) (h1:short (a*b)) (h2:short (c*d)) (ht:Tab w) :
  Calls Tryz.prog 118 #[.string (strB a),.string (strB b),.string (strB c),.string (strB d)] w fun e W'=>e = .returned (.tuple #[.string (strB (a*b)),.string (strB (c*d)),.int .i64 0])∧Below w.heap.size w W':=by
 have k:=products_q a b c d w ha hb hc hd ht
 rwa [if_pos h1,if_pos h1,if_pos h1,(LE_yes h2).1,(LE_yes h2).2] at k
def prodX (a b:Int):ByteArray:=if short (a*b) then strB (a*b) else ⟨#[]⟩
def prodY (a b c d:Int):ByteArray:=if short (a*b) then LB (mkL (c*d)) else ⟨#[]⟩
theorem products_no' (a b c d:Int) (w:World) (ha:short a) (hb:short b) (hc:short c) (hd:short d) (h:¬ (short (a*b)∧short (c*d))) (ht:Tab w) :
  Calls Tryz.prog 118 #[.string (strB a),.string (strB b),.string (strB c),.string (strB d)] w fun e W'=>e = .returned (.tuple #[.string (prodX a b),.string (prodY a b c d),.int .i64 4])∧Below w.heap.size w W':=by
 have k:=products_q a b c d w ha hb hc hd ht
 have e:(if short (a*b) then LE (mkL (c*d)) else 4)=4:=by
  by_cases h1:short (a*b)
  ·rw [if_pos h1,(LE_no (fun q=>h ⟨h1,q⟩)).2]
  ·rw [if_neg h1]
 rwa [e] at k
theorem short_one:short 1:=short_m (by decide)
theorem qaddB_ok {x y:Rat} (h:crossOK x y) (h1:short (x.num*y.den+y.num*x.den)) (h2:short ((x.den:Int)*y.den)):qaddB x y=strQ (Rat.divInt (x.num*y.den+y.num*x.den) (x.den*y.den))∧qaddE x y=0:=by
 unfold qaddB qaddE lowB lowE
 rw [if_pos h,if_pos h,if_pos ⟨h1,h2⟩,if_pos ⟨h1,h2⟩];exact ⟨rfl,rfl⟩
theorem qaddB_no {x y:Rat} (h:¬ (crossOK x y∧short (x.num*y.den+y.num*x.den)∧short ((x.den:Int)*y.den))):qaddB x y=⟨#[]⟩∧qaddE x y=4:=by
 unfold qaddB qaddE lowB lowE
 by_cases hc:crossOK x y
 ·have h':¬ (short (x.num*y.den+y.num*x.den)∧short ((x.den:Int)*y.den)):=fun q=>h ⟨hc,q⟩
  rw [if_pos hc,if_pos hc,if_neg h',if_neg h'];exact ⟨rfl,rfl⟩
 ·rw [if_neg hc,if_neg hc];exact ⟨rfl,rfl⟩
theorem lowB_yes {n d:Int} (h1:short n) (h2:short d):lowB n d=strQ (Rat.divInt n d)∧lowE n d=0:=by
 unfold lowB lowE;rw [if_pos ⟨h1,h2⟩,if_pos ⟨h1,h2⟩];exact ⟨rfl,rfl⟩
theorem lowB_no {n d:Int} (h:¬ (short n∧short d)):lowB n d=⟨#[]⟩∧lowE n d=4:=by
 unfold lowB lowE;rw [if_neg h,if_neg h];exact ⟨rfl,rfl⟩
theorem den_nez (x y:Rat):((x.den:Int)*y.den)≠0:=den_ne x y
theorem den_pp (x y:Rat):0<((x.den:Int)*y.den):=by
 have h1:=x.den_nz;have h2:=y.den_nz
 exact Int.mul_pos (by omega) (by omega)
theorem radd_q (x y:Rat) (w:World) (hx:Sq x) (hy:Sq y) (ht:Tab w) :
  Calls Tryz.prog 76 #[.string (strQ x),.string (strQ y)] w fun e W'=>e = .returned (.tuple #[.string (qaddB x y),.int .i64 (qaddE x y)])∧Below w.heap.size w W':=by
 have hi:=fun W (_:Below w.heap.size w W)=>ints_q x W hx
 have hj:=fun W (_:Below w.heap.size w W)=>ints_q y W hy
 have hp:=fun W (_:Below w.heap.size w W)=>parts_q x W hx
 have hr:=fun W (_:Below w.heap.size w W)=>parts_q y W hy
 cases ox:inO x
 ·rw [ox] at hi
  by_cases hc:crossOK x y
  ·have P1:=fun W (hW:Below w.heap.size w W)=>products_yes x.num y.den y.num x.den W hx.n hy.d hy.n hx.d hc.1 hc.2 (ht.next hW)
   by_cases h2:short ((x.den:Int)*y.den)
   ·have P2:=fun W (hW:Below w.heap.size w W)=>products_yes x.den y.den 1 1 W hx.d hy.d short_one short_one h2 short_one (ht.next hW)
    rw [Int.mul_one,strB_one] at P2
    have A1:=fun W (hW:Below w.heap.size w W)=>AddR_res (x.num*y.den) (y.num*x.den) W hc.1 hc.2 (ht.next hW)
    by_cases h1:short (x.num*y.den+y.num*x.den)
    ·rw [(qaddB_ok hc h1 h2).1,(qaddB_ok hc h1 h2).2]
     rw [(LE_yes h1).1,(LE_yes h1).2] at A1
     have M:=fun W (hW:Below w.heap.size w W)=>make2_q (x.num*y.den+y.num*x.den) (x.den*y.den) W h1 h2 (den_nez x y) (ht.next hW)
     exact radd_okf _ _ _ _ _ _ _ _ _ _ _ _ _ _ _ _ _ w hi hj hp hr P1 P2 A1 M
    ·have hn:=qaddB_no (x:=x) (y:=y) (fun q=>h1 q.2.1)
     rw [hn.1,hn.2]
     rw [(LE_no h1).1,(LE_no h1).2] at A1
     exact radd_e3f _ _ _ _ _ _ _ _ _ _ _ _ _ _ _ 4 w (by decide) (by decide) hi hj hp hr P1 P2 A1
   ·have hn:=qaddB_no (x:=x) (y:=y) (fun q=>h2 q.2.2)
    rw [hn.1,hn.2]
    have P2:=fun W (hW:Below w.heap.size w W)=>products_no' x.den y.den 1 1 W hx.d hy.d short_one short_one (fun q=>h2 q.1) (ht.next hW)
    rw [strB_one] at P2
    exact radd_e2f _ _ _ _ _ _ _ _ _ _ _ _ _ _ _ 4 w (by decide) (by decide) hi hj hp hr P1 P2
  ·have hn:=qaddB_no (x:=x) (y:=y) (fun q=>hc q.1)
   rw [hn.1,hn.2]
   have P1:=fun W (hW:Below w.heap.size w W)=>products_no' x.num y.den y.num x.den W hx.n hy.d hy.n hx.d hc (ht.next hW)
   exact radd_e1f _ _ _ _ _ _ _ _ _ _ _ _ _ 4 w (by decide) (by decide) hi hj hp hr P1
 ·cases oy:inO y
  ·rw [ox] at hi
   rw [oy] at hj
   by_cases hc:crossOK x y
   ·have P1:=fun W (hW:Below w.heap.size w W)=>products_yes x.num y.den y.num x.den W hx.n hy.d hy.n hx.d hc.1 hc.2 (ht.next hW)
    by_cases h2:short ((x.den:Int)*y.den)
    ·have P2:=fun W (hW:Below w.heap.size w W)=>products_yes x.den y.den 1 1 W hx.d hy.d short_one short_one h2 short_one (ht.next hW)
     rw [Int.mul_one,strB_one] at P2
     have A1:=fun W (hW:Below w.heap.size w W)=>AddR_res (x.num*y.den) (y.num*x.den) W hc.1 hc.2 (ht.next hW)
     by_cases h1:short (x.num*y.den+y.num*x.den)
     ·rw [(qaddB_ok hc h1 h2).1,(qaddB_ok hc h1 h2).2]
      rw [(LE_yes h1).1,(LE_yes h1).2] at A1
      have M:=fun W (hW:Below w.heap.size w W)=>make2_q (x.num*y.den+y.num*x.den) (x.den*y.den) W h1 h2 (den_nez x y) (ht.next hW)
      exact radd_okt _ _ _ _ _ _ _ _ _ _ _ _ _ _ _ _ w hi hj hp hr P1 P2 A1 M
     ·have hn:=qaddB_no (x:=x) (y:=y) (fun q=>h1 q.2.1)
      rw [hn.1,hn.2]
      rw [(LE_no h1).1,(LE_no h1).2] at A1
      exact radd_e3t _ _ _ _ _ _ _ _ _ _ _ _ _ _ 4 w (by decide) (by decide) hi hj hp hr P1 P2 A1
    ·have hn:=qaddB_no (x:=x) (y:=y) (fun q=>h2 q.2.2)
     rw [hn.1,hn.2]
     have P2:=fun W (hW:Below w.heap.size w W)=>products_no' x.den y.den 1 1 W hx.d hy.d short_one short_one (fun q=>h2 q.1) (ht.next hW)
     rw [strB_one] at P2
     exact radd_e2t _ _ _ _ _ _ _ _ _ _ _ _ _ _ 4 w (by decide) (by decide) hi hj hp hr P1 P2
   ·have hn:=qaddB_no (x:=x) (y:=y) (fun q=>hc q.1)
    rw [hn.1,hn.2]
    have P1:=fun W (hW:Below w.heap.size w W)=>products_no' x.num y.den y.num x.den W hx.n hy.d hy.n hx.d hc (ht.next hW)
    exact radd_e1t _ _ _ _ _ _ _ _ _ _ _ _ 4 w (by decide) (by decide) hi hj hp hr P1
  ·have hi:=fun W (_:Below w.heap.size w W)=>ints_yes W hx ox
   have hj:=fun W (_:Below w.heap.size w W)=>ints_yes W hy oy
   obtain ⟨bx,cx⟩:=inO_i ox
   obtain ⟨bu,cu⟩:=inO_i oy
   have z1:=mul9 (x:=x.num) (y:=y.den) (by omega) (by omega)
   have z2:=mul9 (x:=y.num) (y:=x.den) (by omega) (by omega)
   have z3:=mul9 (x:=x.den) (y:=y.den) (by omega) (by omega)
   have z4:=den_pp x y
   rw [(qaddB_ok (x:=x) (y:=y) ⟨short18 z1,short18 z2⟩ (short19 (by omega)) (short18 z3)).1,(qaddB_ok (x:=x) (y:=y) ⟨short18 z1,short18 z2⟩ (short19 (by omega)) (short18 z3)).2]
   exact radd_s _ _ _ _ _ _ _ w bx cx bu cu hi hj (fun W _=>quick_any _ _ W (by omega) z4 (by omega))
theorem rmul_q (n d m c:Int) (w:World) (hn:short n) (hd:short d) (hm:short m) (hc:short c) (h0:d*c≠0) (ht:Tab w) :
  Calls Tryz.prog 75 #[.string (strB n),.string (strB d),.string (strB m),.string (strB c)] w fun e W'=>e = .returned (.tuple #[.string (lowB (n*m) (d*c)),.int .i64 (lowE (n*m) (d*c))])∧Below w.heap.size w W':=by
 by_cases h:short (n*m)∧short (d*c)
 ·rw [(lowB_yes h.1 h.2).1,(lowB_yes h.1 h.2).2]
  exact rmul_ok _ _ _ _ _ _ _ _ w (fun W hW=>products_yes n m d c W hn hm hd hc h.1 h.2 (ht.next hW)) (fun W hW=>make2_q _ _ W h.1 h.2 h0 (ht.next hW))
 ·rw [(lowB_no h).1,(lowB_no h).2]
  exact rmul_e _ _ _ _ _ _ 4 w (by decide) (by decide) (fun W hW=>products_no' n m d c W hn hm hd hc h (ht.next hW))
theorem rchk_any (a b:ByteArray) (w:World) (ha:a.size≤maxLen) (hb:b.size≤maxLen) (ht:Tab w) :
  Calls Tryz.prog 74 #[.string a,.string b] w fun e W'=>e = .returned (.int .i64 (chk2Q a b))∧Below w.heap.size w W':=by
 have h1:=fun W (hW:Below w.heap.size w W)=>Check2_any a W ha (ht.next hW)
 have h2:=fun W (hW:Below w.heap.size w W)=>Check2_any b W hb (ht.next hW)
 unfold chk2Q
 by_cases e:chkQ a.data.toList=0
 ·rw [if_pos e]
  rw [e] at h1
  exact check2_ok a b _ w h1 h2
 ·rw [if_neg e]
  exact check2_bad a b _ w (bool_ne e).1 (bool_ne e).2 h1
theorem rAdd_any (a b:ByteArray) (w:World) (ha:a.size≤maxLen) (hb:b.size≤maxLen) (ht:Tab w) :
  Calls Tryz.prog 38 #[.string a,.string b] w fun e W'=>e = .returned (.tuple #[.string (opB qaddB a b),.int .i64 (opE qaddE a b)])∧Below w.heap.size w W':=by
 have hk:=fun W (hW:Below w.heap.size w W)=>rchk_any a b W ha hb (ht.next hW)
 unfold opB opE
 by_cases h:chk2Q a b=0
 ·rw [if_pos h,if_pos h]
  rw [h] at hk
  have sx:=chkQ_sq (chk2Q_ok h).1
  have sy:=chkQ_sq (chk2Q_ok h).2
  have ex:=chkQ_str (chk2Q_ok h).1
  have ey:=chkQ_str (chk2Q_ok h).2
  have c:=fun W (hW:Below w.heap.size w W)=>radd_q (rat a) (rat b) W sx sy (ht.next hW)
  rw [ex,ey] at c
  exact rAdd_ok a b _ _ w hk c
 ·rw [if_neg h,if_neg h]
  exact rAdd_bad a b _ w (bool_ne h).1 (bool_ne h).2 hk
theorem rMul_q (x y:Rat) (w:World) (hx:Sq x) (hy:Sq y) (h0:CqB w 74 #[.string (strQ x),.string (strQ y)] (.int .i64 0)) (ht:Tab w) :
  Calls Tryz.prog 58 #[.string (strQ x),.string (strQ y)] w fun e W'=>e = .returned (.tuple #[.string (qmulB x y),.int .i64 (qmulE x y)])∧Below w.heap.size w W':=by
 unfold qmulB qmulE
 have hi:=fun W (_:Below w.heap.size w W)=>ints_q x W hx
 have hj:=fun W (_:Below w.heap.size w W)=>ints_q y W hy
 have hp:=fun W (_:Below w.heap.size w W)=>parts_q x W hx
 have hr:=fun W (_:Below w.heap.size w W)=>parts_q y W hy
 have hm:=fun W (hW:Below w.heap.size w W)=>rmul_q x.num x.den y.num y.den W hx.n hx.d hy.n hy.d (den_nez x y) (ht.next hW)
 cases ox:inO x
 ·rw [ox] at hi
  exact rMul_lf _ _ _ _ _ _ _ _ _ _ _ _ _ w h0 hi hj hp hr hm
 ·cases oy:inO y
  ·rw [ox] at hi
   rw [oy] at hj
   exact rMul_lt _ _ _ _ _ _ _ _ _ _ _ _ w h0 hi hj hp hr hm
  ·have hi:=fun W (_:Below w.heap.size w W)=>ints_yes W hx ox
   have hj:=fun W (_:Below w.heap.size w W)=>ints_yes W hy oy
   obtain ⟨bx,cx⟩:=inO_i ox
   obtain ⟨bu,cu⟩:=inO_i oy
   have z1:=mul9 (x:=x.num) (y:=y.num) (by omega) (by omega)
   have z3:=mul9 (x:=x.den) (y:=y.den) (by omega) (by omega)
   have z4:=den_pp x y
   rw [(lowB_yes (short18 z1) (short18 z3)).1,(lowB_yes (short18 z1) (short18 z3)).2]
   exact rMul_s _ _ _ _ _ _ _ w bx cx bu cu h0 hi hj (fun W _=>quick_any _ _ W (by omega) z4 (by omega))
theorem rMul_any (a b:ByteArray) (w:World) (ha:a.size≤maxLen) (hb:b.size≤maxLen) (ht:Tab w) :
  Calls Tryz.prog 58 #[.string a,.string b] w fun e W'=>e = .returned (.tuple #[.string (opB qmulB a b),.int .i64 (opE qmulE a b)])∧Below w.heap.size w W':=by
 have hk:=fun W (hW:Below w.heap.size w W)=>rchk_any a b W ha hb (ht.next hW)
 unfold opB opE
 by_cases h:chk2Q a b=0
 ·rw [if_pos h,if_pos h]
  rw [h] at hk
  have sx:=chkQ_sq (chk2Q_ok h).1
  have sy:=chkQ_sq (chk2Q_ok h).2
  have ex:=chkQ_str (chk2Q_ok h).1
  have ey:=chkQ_str (chk2Q_ok h).2
  have c:=rMul_q (rat a) (rat b) w sx sy (by rw [ex,ey];exact hk) ht
  rwa [ex,ey] at c
 ·rw [if_neg h,if_neg h]
  exact rMul_bad a b _ w (bool_ne h).1 (bool_ne h).2 hk
theorem divInt_swap (n d:Int):Rat.divInt (n * -1) (d * -1)=Rat.divInt n d:=Rat.divInt_mul_right (by decide)
theorem rDiv_q (x y:Rat) (w:World) (hx:Sq x) (hy:Sq y) (hy0:y≠0) (h0:CqB w 74 #[.string (strQ x),.string (strQ y)] (.int .i64 0)) (ht:Tab w) :
  Calls Tryz.prog 37 #[.string (strQ x),.string (strQ y)] w fun e W'=>e = .returned (.tuple #[.string (qdivB x y),.int .i64 (qdivE x y)])∧Below w.heap.size w W':=by
 have hz:((strQ y).toList == [48])=false:=by rw [strQ_is0];exact decide_eq_false hy0
 have hn0:y.num≠0:=fun q=>hy0 (Rat.num_eq_zero.1 q)
 unfold qdivB qdivE
 have hi:=fun W (_:Below w.heap.size w W)=>ints_q x W hx
 have hj:=fun W (_:Below w.heap.size w W)=>ints_q y W hy
 have hp:=fun W (_:Below w.heap.size w W)=>parts_q x W hx
 have hr:=fun W (_:Below w.heap.size w W)=>parts_q y W hy
 have hm:∀ W,Below w.heap.size w W→_:=fun W (hW:Below w.heap.size w W)=>rmul_q x.num x.den y.den y.num W hx.n hx.d hy.d hy.n (fun q=>(Int.mul_eq_zero.1 q).elim (den_0 x) hn0) (ht.next hW)
 rw [Int.mul_comm (x.den:Int) y.num] at hm
 cases ox:inO x
 ·rw [ox] at hi
  exact rDiv_lf _ _ _ _ _ _ _ _ _ _ _ _ _ w hz h0 hi hj hp hr hm
 ·cases oy:inO y
  ·rw [ox] at hi
   rw [oy] at hj
   exact rDiv_lt _ _ _ _ _ _ _ _ _ _ _ _ w hz h0 hi hj hp hr hm
  ·have hi:=fun W (_:Below w.heap.size w W)=>ints_yes W hx ox
   have hj:=fun W (_:Below w.heap.size w W)=>ints_yes W hy oy
   obtain ⟨bx,cx⟩:=inO_i ox
   obtain ⟨bu,cu⟩:=inO_i oy
   have z1:=mul9 (x:=x.num) (y:=y.den) (by omega) (by omega)
   have z3:=mul9 (x:=y.num) (y:=x.den) (by omega) (by omega)
   have d0:(0:Int)<x.den:=cx.1
   rw [(lowB_yes (short18 z1) (short18 z3)).1,(lowB_yes (short18 z1) (short18 z3)).2]
   rcases Int.lt_or_gt_of_ne hn0 with h | h
   ·have e:Rat.divInt (x.num*y.den) (y.num*x.den)=Rat.divInt (x.num * -y.den) (x.den * -y.num):=by
     rw [←divInt_swap (x.num*y.den),Int.mul_assoc,Int.mul_comm y.num,Int.mul_assoc (x.den:Int)]
     congr 2 <;> omega
    rw [e]
    have z5:0<(x.den:Int) * -y.num:=Int.mul_pos d0 (by omega)
    have z6:(x.den:Int) * -y.num = -(y.num*x.den):=by rw [Int.mul_neg,Int.mul_comm]
    have z7:x.num * -(y.den:Int) = -(x.num*y.den):=Int.mul_neg _ _
    exact rDiv_sn _ _ _ _ _ _ _ w hz h bx cx bu cu h0 hi hj (fun W _=>quick_any _ _ W (by omega) z5 (by omega))
   ·rw [Int.mul_comm y.num]
    rw [Int.mul_comm y.num] at z3
    have z5:0<(x.den:Int)*y.num:=Int.mul_pos d0 (by omega)
    exact rDiv_sp _ _ _ _ _ _ _ w hz h bx cx bu cu h0 hi hj (fun W _=>quick_any _ _ W (by omega) z5 (by omega))
theorem rDiv_any (a b:ByteArray) (w:World) (ha:a.size≤maxLen) (hb:b.size≤maxLen) (ht:Tab w) :
  Calls Tryz.prog 37 #[.string a,.string b] w fun e W'=>e = .returned (.tuple #[.string (opB qdivB' a b),.int .i64 (opE qdivE' a b)])∧Below w.heap.size w W':=by
 have hk:=fun W (hW:Below w.heap.size w W)=>rchk_any a b W ha hb (ht.next hW)
 unfold opB opE
 by_cases h:chk2Q a b=0
 ·rw [if_pos h,if_pos h]
  rw [h] at hk
  have sx:=chkQ_sq (chk2Q_ok h).1
  have sy:=chkQ_sq (chk2Q_ok h).2
  have ex:=chkQ_str (chk2Q_ok h).1
  have ey:=chkQ_str (chk2Q_ok h).2
  unfold qdivB' qdivE'
  by_cases h0:rat b=0
  ·rw [if_pos h0,if_pos h0]
   exact rDiv_0 a b w (by rw [←ey,strQ_is0];exact decide_eq_true h0) hk
  ·rw [if_neg h0,if_neg h0]
   have c:=rDiv_q (rat a) (rat b) w sx sy h0 (by rw [ex,ey];exact hk) ht
   rwa [ex,ey] at c
 ·rw [if_neg h,if_neg h]
  exact rDiv_bad a b _ w (bool_ne h).1 (bool_ne h).2 hk
theorem rParts_bad (a:ByteArray) (f:Int) (w:World) (n1:(f==0)=false) (n2:(f != 0)=true)
  (h1:CqB w 51 #[.string a] (.int .i64 f)) :
  Calls Tryz.prog 52 #[.string a] w fun e W'=>e = .returned (.tuple #[.string ⟨#[]⟩,.string ⟨#[]⟩,.int .i64 f])∧Below w.heap.size w W':=by
 have C:=Lib.hid h1;clear h1
 go_enter Tryz.func52,Tryz.ntmps52
 go_wp2_with fail
 refine (C.out _ (Below.refl _ _)).mono ?_
 rintro e w1 ⟨rfl,b⟩
 have H1:=Lib.hid b;clear b
 go_wp2
 go_ret3
 exact ⟨rfl,H1.out⟩
theorem rParts_ok (a n d:ByteArray) (w:World)
  (h1:CqB w 51 #[.string a] (.int .i64 0))
  (h2:CqB w 62 #[.string a] (.tuple #[.string n,.string d])) :
  Calls Tryz.prog 52 #[.string a] w fun e W'=>e = .returned (.tuple #[.string n,.string d,.int .i64 0])∧Below w.heap.size w W':=by
 have C:=Lib.hid (And.intro h1 h2);clear h1 h2
 go_enter Tryz.func52,Tryz.ntmps52
 go_wp2_with fail
 refine (C.out.1 _ (Below.refl _ _)).mono ?_
 rintro e w1 ⟨rfl,b⟩
 have H1:=Lib.hid b;clear b
 go_wp2_with fail
 refine (C.out.2 _ H1.out).mono ?_
 rintro e w2 ⟨rfl,b⟩
 have H2:=Lib.hid (H1.out.trans (b.mono H1.out.size));clear b H1
 go_wp2
 go_ret3
 exact ⟨rfl,H2.out⟩
theorem pa_num {a:ByteArray} (h:chkQ a.data.toList=0):paN a=strB (rat a).num∧paD a=strB ((rat a).den:Int):=by
 unfold paN paD
 rw [if_pos h,if_pos h,←bN_strQ,←bD_strQ,chkQ_str h];exact ⟨rfl,rfl⟩
theorem pa_bad {a:ByteArray} (h:chkQ a.data.toList≠0):paN a=⟨#[]⟩∧paD a=⟨#[]⟩:=by
 unfold paN paD;rw [if_neg h,if_neg h];exact ⟨rfl,rfl⟩
theorem rParts_any (a:ByteArray) (w:World) (ha:a.size≤maxLen) (ht:Tab w) :
  Calls Tryz.prog 52 #[.string a] w fun e W'=>e = .returned (.tuple #[.string (paN a),.string (paD a),.int .i64 (chkQ a.data.toList)])∧Below w.heap.size w W':=by
 have hk:=fun W (hW:Below w.heap.size w W)=>Check2_any a W ha (ht.next hW)
 by_cases h:chkQ a.data.toList=0
 ·rw [(pa_num h).1,(pa_num h).2]
  rw [h] at hk ⊢
  have c:=fun W (_:Below w.heap.size w W)=>parts_q (rat a) W (chkQ_sq h)
  rw [chkQ_str h] at c
  exact rParts_ok a _ _ w hk c
 ·rw [(pa_bad h).1,(pa_bad h).2]
  exact rParts_bad a _ w (bool_ne h).1 (bool_ne h).2 hk
theorem divInt_one (q:Int):Rat.divInt q 1=(q:Rat):=by
 have h:=Rat.num_divInt_den (q:Rat)
 rwa [Rat.num_intCast,Rat.den_intCast] at h
theorem floor_neg {n d:Int} (hd:0<d) (h:n.tmod d<0):n.tdiv d - 1=n.fdiv d:=by
 have h2:=Int.mul_tdiv_add_tmod n d
 have h3 : -d<n.tmod d:=by
  have:=Int.lt_tmod_of_pos n hd;exact this
 rw [Int.fdiv_eq_ediv_of_nonneg _ (by omega)]
 refine ((Int.ediv_emod_unique (a:=n) (b:=d) (r:=n.tmod d+d) (q:=n.tdiv d - 1) hd).2 ⟨?_,by omega,by omega⟩).1.symm
 rw [Int.mul_sub,Int.mul_one];omega
theorem floor_pos {n d:Int} (hd:0<d) (h:¬ n.tmod d<0):n.tdiv d=n.fdiv d:=by
 have h1:=Int.tmod_lt_of_pos n hd
 have h2:=Int.mul_tdiv_add_tmod n d
 rw [Int.fdiv_eq_ediv_of_nonneg _ (by omega)]
 refine ((Int.ediv_emod_unique (a:=n) (b:=d) (r:=n.tmod d) (q:=n.tdiv d) hd).2 ⟨?_,by omega,h1⟩).1.symm
 omega
theorem rFloor_bad (a:ByteArray) (f:Int) (w:World) (n1:(f==0)=false) (n2:(f != 0)=true)
  (h1:CqB w 51 #[.string a] (.int .i64 f)) :
  Calls Tryz.prog 30 #[.string a] w fun e W'=>e = .returned (.tuple #[.string ⟨#[]⟩,.int .i64 f])∧Below w.heap.size w W':=by
 have C:=Lib.hid h1;clear h1
 go_enter Tryz.func30,Tryz.ntmps30
 go_wp2_with fail
 refine (C.out _ (Below.refl _ _)).mono ?_
 rintro e w1 ⟨rfl,b⟩
 have H1:=Lib.hid b;clear b
 go_wp2
 go_ret2
 exact ⟨rfl,H1.out⟩
theorem rFloor_s (a r:ByteArray) (n d q:Int) (neg:Bool) (w:World) (hn : -1000000000<n∧n<1000000000) (hd:0<d∧d<1000000000) (hneg:decide (n.tmod d<0)=neg) (hq:(if neg=true then n.tdiv d - 1 else n.tdiv d)=q)
  (h1:CqB w 51 #[.string a] (.int .i64 0))
  (h2:CqB w 60 #[.string a] (.tuple #[.int .i64 n,.int .i64 d,.bool true]))
  (h3:CqB w 61 #[.int .i64 q,.int .i64 1] (.string r)) :
  Calls Tryz.prog 30 #[.string a] w fun e W'=>e = .returned (.tuple #[.string r,.int .i64 0])∧Below w.heap.size w W':=by
 have C:=Lib.hid (And.intro h1 (And.intro h2 h3));clear h1 h2 h3
 have d0:¬ d=0:=by omega
 have d1:(d==0)=false:=by rw [beq_eq_false_iff_ne];exact d0
 have b1:(n.tdiv d).natAbs≤n.natAbs:=by rw [Int.natAbs_tdiv];exact Nat.div_le_self _ _
 have b2 : -1000000000<n.tdiv d∧n.tdiv d<1000000000:=by omega
 have b3:(n.tmod d).natAbs<1000000000:=by
  rw [Int.natAbs_tmod]
  exact Nat.lt_of_lt_of_le (Nat.mod_lt _ (by omega)) (by omega)
 have b4 : -1000000000<n.tmod d∧n.tmod d<1000000000:=by omega
 obtain ⟨b5,b6⟩:=b2
 obtain ⟨b7,b8⟩:=b4
 clear b1 b3
 cases neg
 ·have hm:=of_decide_eq_false hneg
  rw [if_neg (by decide)] at hq
  subst hq
  clear hneg hn
  go_enter Tryz.func30,Tryz.ntmps30
  go_wp2_with fail
  refine (C.out.1 _ (Below.refl _ _)).mono ?_
  rintro e w1 ⟨rfl,b⟩
  have H1:=Lib.hid b;clear b
  go_wp2_with fail
  refine (C.out.2.1 _ H1.out).mono ?_
  rintro e w2 ⟨rfl,b⟩
  have H2:=Lib.hid (H1.out.trans (b.mono H1.out.size));clear b H1
  go_wp2_with fail
  refine (C.out.2.2 _ H2.out).mono ?_
  rintro e w3 ⟨rfl,b⟩
  have H3:=Lib.hid (H2.out.trans (b.mono H2.out.size));clear b H2
  go_wp2
  go_ret2
  exact ⟨rfl,H3.out⟩
 ·have hm:=of_decide_eq_true hneg
  rw [if_pos rfl] at hq
  subst hq
  clear hneg hn
  go_enter Tryz.func30,Tryz.ntmps30
  go_wp2_with fail
  refine (C.out.1 _ (Below.refl _ _)).mono ?_
  rintro e w1 ⟨rfl,b⟩
  have H1:=Lib.hid b;clear b
  go_wp2_with fail
  refine (C.out.2.1 _ H1.out).mono ?_
  rintro e w2 ⟨rfl,b⟩
  have H2:=Lib.hid (H1.out.trans (b.mono H1.out.size));clear b H1
  go_wp2_with fail
  refine (C.out.2.2 _ H2.out).mono ?_
  rintro e w3 ⟨rfl,b⟩
  have H3:=Lib.hid (H2.out.trans (b.mono H2.out.size));clear b H2
  go_wp2
  go_ret2
  exact ⟨rfl,H3.out⟩
theorem rFloor_l (a n d q r t:ByteArray) (x y:Int) (w:World)
  (h1:CqB w 51 #[.string a] (.int .i64 0))
  (h2:CqB w 60 #[.string a] (.tuple #[.int .i64 x,.int .i64 y,.bool false]))
  (h3:CqB w 62 #[.string a] (.tuple #[.string n,.string d]))
  (h4:CqB w 63 #[.string n,.string d] (.tuple #[.string q,.string r,.int .i64 0]))
  (h5:CqB w 64 #[.string q,.string ⟨#[49]⟩] (.tuple #[.string t,.int .i64 0])) :
  Calls Tryz.prog 30 #[.string a] w fun e W'=>e = .returned (.tuple #[.string t,.int .i64 0])∧Below w.heap.size w W':=by
 have C:=Lib.hid (And.intro h1 (And.intro h2 (And.intro h3 (And.intro h4 h5))));clear h1 h2 h3 h4 h5
 go_enter Tryz.func30,Tryz.ntmps30
 go_wp2_with fail
 refine (C.out.1 _ (Below.refl _ _)).mono ?_
 rintro e w1 ⟨rfl,b⟩
 have H1:=Lib.hid b;clear b
 go_wp2_with fail
 refine (C.out.2.1 _ H1.out).mono ?_
 rintro e w2 ⟨rfl,b⟩
 have H2:=Lib.hid (H1.out.trans (b.mono H1.out.size));clear b H1
 go_wp2_with fail
 refine (C.out.2.2.1 _ H2.out).mono ?_
 rintro e w3 ⟨rfl,b⟩
 have H3:=Lib.hid (H2.out.trans (b.mono H2.out.size));clear b H2
 go_wp2_with fail
 refine (C.out.2.2.2.1 _ H3.out).mono ?_
 rintro e w4 ⟨rfl,b⟩
 have H4:=Lib.hid (H3.out.trans (b.mono H3.out.size));clear b H3
 go_wp2_with fail
 refine (C.out.2.2.2.2 _ H4.out).mono ?_
 rintro e w5 ⟨rfl,b⟩
 have H5:=Lib.hid (H4.out.trans (b.mono H4.out.size));clear b H4
 go_wp2
 go_ret2
 exact ⟨rfl,H5.out⟩
theorem strQ_div1 (q:Int):strQ (Rat.divInt q 1)=strB q:=by rw [divInt_one,strQ_int]
theorem rFloor_any (a:ByteArray) (w:World) (ha:a.size≤maxLen) (ht:Tab w) :
  Calls Tryz.prog 30 #[.string a] w fun e W'=>e = .returned (.tuple #[.string (floB a),.int .i64 (chkQ a.data.toList)])∧Below w.heap.size w W':=by
 have hk:=fun W (hW:Below w.heap.size w W)=>Check2_any a W ha (ht.next hW)
 unfold floB
 by_cases h:chkQ a.data.toList=0
 ·rw [if_pos h]
  rw [h] at hk ⊢
  have sx:=chkQ_sq h
  have hi:=fun W (_:Below w.heap.size w W)=>ints_q (rat a) W sx
  have hd0:(0:Int)<(rat a).den:=by have:=(rat a).den_nz;omega
  rw [chkQ_str h] at hi
  cases ho:inO (rat a)
  ·rw [ho] at hi
   have hp:=fun W (_:Below w.heap.size w W)=>parts_q (rat a) W sx
   rw [chkQ_str h] at hp
   have hv:=fun W (hW:Below w.heap.size w W)=>DivR_res (rat a).num (rat a).den W sx.n sx.d (by omega) (ht.next hW)
   have hm:=fun W (hW:Below w.heap.size w W)=>make2_q ((rat a).num.fdiv (rat a).den) 1 W (fdiv_short sx.n (by omega)) short_one (by decide) (ht.next hW)
   rw [strQ_div1,strB_one] at hm
   exact rFloor_l a _ _ _ _ _ _ _ w hk hi hp hv hm
  ·have hi:=fun W (_:Below w.heap.size w W)=>ints_yes W sx ho
   rw [chkQ_str h] at hi
   obtain ⟨bx,cx⟩:=inO_i ho
   have b1:((rat a).num.tdiv (rat a).den).natAbs≤(rat a).num.natAbs:=by rw [Int.natAbs_tdiv];exact Nat.div_le_self _ _
   by_cases hneg:(rat a).num.tmod (rat a).den<0
   ·rw [←floor_neg hd0 hneg]
    have hq:=fun W (_:Below w.heap.size w W)=>quick_any ((rat a).num.tdiv (rat a).den - 1) 1 W (by omega) (by decide) (by decide)
    rw [strQ_div1] at hq
    exact rFloor_s a _ _ _ _ true w bx cx (decide_eq_true hneg) (if_pos rfl) hk hi hq
   ·rw [←floor_pos hd0 hneg]
    have hq:=fun W (_:Below w.heap.size w W)=>quick_any ((rat a).num.tdiv (rat a).den) 1 W (by omega) (by decide) (by decide)
    rw [strQ_div1] at hq
    exact rFloor_s a _ _ _ _ false w bx cx (decide_eq_false hneg) (if_neg (by decide)) hk hi hq
 ·rw [if_neg h]
  exact rFloor_bad a _ w (bool_ne h).1 (bool_ne h).2 hk
end Go.Proofs.YteckjifdpcbaeaaGreatDoor
