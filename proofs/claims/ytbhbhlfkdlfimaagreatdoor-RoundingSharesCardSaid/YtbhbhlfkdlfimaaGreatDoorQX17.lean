/- Parts of the proof of the text YtbhbhlfkdlfimaaGreatDoorQX29. -/
import Derived.Lib.AtoiAllCases
import Derived.Lib.SmallJoins
import Derived.Test.YtbhbhlfkdlfimaaGreatDoorQX1
import Derived.Test.YtbhbhlfkdlfimaaGreatDoorQX10
import Derived.Test.YtbhbhlfkdlfimaaGreatDoorQX11
import Derived.Test.YtbhbhlfkdlfimaaGreatDoorQX13
import Derived.Test.YtbhbhlfkdlfimaaGreatDoorQX15
import Derived.Test.YtbhbhlfkdlfimaaGreatDoorQX16
import Derived.Test.YtbhbhlfkdlfimaaGreatDoorQX5
set_option linter.all false
set_option maxRecDepth 100000
set_option maxHeartbeats 8000000
namespace Go.Proofs.YtbhbhlfkdlfimaaGreatDoor
section
open Go.RowKit
theorem xL (x:Int) (w:World) :
  Calls Tryz.prog 346 #[.int .i64 x] w fun e W'=>e = .returned (.bool false)∧w=W':=by
 go_enter Tryz.func346,Tryz.ntmps346
 go_wp2
 go_ret
 exact ⟨by simp,rfl⟩
theorem AR (x y:Int) (w:World) :
  Calls Tryz.prog 344 #[.int .i64 x,.int .i64 y] w fun e W'=>e = .returned (.int .i64 (bF x y))∧w=W':=by
 have C:=Ha (Hb (fun W=>xL x W) (fun W=>xL y W))
 have hc:(x<y∧bF x y = -1)∨(¬ x<y∧y<x∧bF x y=1)∨(¬ x<y∧¬ y<x∧bF x y=0):=by
  unfold bF
  by_cases h:x<y
  ·exact .inl ⟨h,if_pos h⟩
  ·by_cases h2:y<x
   ·exact .inr (.inl ⟨h,h2,by rw [if_neg h,if_pos h2]⟩)
   ·exact .inr (.inr ⟨h,h2,by rw [if_neg h,if_neg h2]⟩)
 rcases hc with ⟨h1,h2⟩ | ⟨h1,h3,h2⟩ | ⟨h1,h3,h2⟩
 all_goals
  rw [h2]
  clear h2
  go_enter Tryz.func344,Tryz.ntmps344
  go_wp2_with fail
  refine (C.out.1 _).mono ?_
  rintro e w' ⟨rfl,rfl⟩
  go_wp2_with fail
  refine (C.out.2 _).mono ?_
  rintro e w' ⟨rfl,rfl⟩
  go_wp2
  go_ret
  exact ⟨rfl,rfl⟩
theorem AT (x y:Int) (w:World) :
  Calls Tryz.prog 334 #[.int .i64 x,.int .i64 y] w fun e W'=>e = .returned (.int .i64 (bF x y))∧w=W':=by
 have C:=Ha (fun W=>AR x y W)
 generalize bF x y=c at *
 go_enter Tryz.func334,Tryz.ntmps334
 go_wp2_with fail
 refine (C.out _).mono ?_
 rintro e w' ⟨rfl,rfl⟩
 go_wp2
 go_ret
 exact ⟨rfl,rfl⟩
theorem se (a b c d:Int) (w:World) (ha:B18 a) (hb:B18 b) (hc:B18 c) (hd:B18 d) :
  Calls Tryz.prog 34 #[.agg #[.int .i64 a,.int .i64 b],.agg #[.int .i64 c,.int .i64 d]] w fun e W'=>e = .returned (.agg #[.int .i64 (ay a c),.int .i64 (ay b d)])∧Below w.heap.size w W':=by
 have q0:=fun W=>still (ee a c W ha.lo ha.hi hc.lo hc.hi)
 have q1:=fun W=>still (ee b d W hb.lo hb.hi hd.lo hd.hi)
 have C:=Ha (Hb q0 (Hb q1 trivial))
 clear q0 q1 ha hb hc hd
 go_enter Tryz.func34,Tryz.ntmps34
 go_wp2
 have hbx:=cX w (.int .i64 a) (.int .i64 b) (.int .i64 c) (.int .i64 d) (.int .i64 0) (.int .i64 0) 115
 generalize ((w.alloc (.cells #[.int .i64 a,.int .i64 b] 115)).alloc (.cells #[.int .i64 c,.int .i64 d] 115)).alloc (.cells #[.int .i64 0,.int .i64 0] 115)=W0 at *
 generalize hk:w.heap.size=k at *
 have HK:=Ha hk;clear hk
 have HBD:=Ha hbx.drew
 clear hbx
 obtain ⟨c1,c2,c3,c4,c5,c6,f5,f6,_,_⟩:=HBD.out
 have m1:=l5
 have m3:=qN
 have en1:∀ args W,(callFunc 342 args).run Tryz.prog W = .ok (.enter 342 args) W:=enters_of Tryz.func342 (by kernel_rfl) rfl
 have en3:∀ args W,(callFunc 338 args).run Tryz.prog W = .ok (.enter 338 args) W:=enters_of Tryz.func338 (by kernel_rfl) rfl
 go_still_tail 12,(by kernel_rfl)
 still_call (C.out.1 _)
 repeat still_step
 still_call (C.out.2.1 _)
 repeat still_step
 refine wpStill_nil ?_
 change wpList _ _ _ _ _ W0.drew
 clear c1 c2 c3 c4
 generalize W0.drew=W2 at *
 obtain ⟨g5,g6⟩:=aJ c5 c6 (.int .i64 (ay a c)) (.int .i64 (ay b d))
 go_wp2
 refine bodyPost_ret (v := .agg #[.int .i64 (ay a c),.int .i64 (ay b d)]) (by simp [results,Tryz.results34,go_sem,g5,g6]) rfl ?_
 refine ⟨rfl,?_⟩
 rw [HK.out]
 exact ((HBD.out.below).setCell (p:=⟨k+1+1,0,none⟩) (by show k≤k+1+1;omega) _).setCell (p:=⟨k+1+1,1,none⟩) (by show k≤k+1+1;omega) _
theorem oN (a b c d:Int) (w:World) (ha:B18 a) (hb:B18 b) (hc:B18 c) (hd:B18 d) :
  Calls Tryz.prog 36 #[.agg #[.int .i64 a,.int .i64 b],.agg #[.int .i64 c,.int .i64 d]] w fun e W'=>e = .returned (.agg #[.int .i64 (ay a d),.int .i64 (ay c b)])∧Below w.heap.size w W':=by
 have q0:=fun W=>still (ee a d W ha.lo ha.hi hd.lo hd.hi)
 have q1:=fun W=>still (ee c b W hc.lo hc.hi hb.lo hb.hi)
 have C:=Ha (Hb q0 (Hb q1 trivial))
 clear q0 q1 ha hb hc hd
 go_enter Tryz.func36,Tryz.ntmps36
 go_wp2
 have hbx:=cX w (.int .i64 a) (.int .i64 b) (.int .i64 c) (.int .i64 d) (.int .i64 0) (.int .i64 0) 115
 generalize ((w.alloc (.cells #[.int .i64 a,.int .i64 b] 115)).alloc (.cells #[.int .i64 c,.int .i64 d] 115)).alloc (.cells #[.int .i64 0,.int .i64 0] 115)=W0 at *
 generalize hk:w.heap.size=k at *
 have HK:=Ha hk;clear hk
 have HBD:=Ha hbx.drew
 clear hbx
 obtain ⟨c1,c2,c3,c4,c5,c6,f5,f6,_,_⟩:=HBD.out
 have m1:=l5
 have m3:=qN
 have en1:∀ args W,(callFunc 342 args).run Tryz.prog W = .ok (.enter 342 args) W:=enters_of Tryz.func342 (by kernel_rfl) rfl
 have en3:∀ args W,(callFunc 338 args).run Tryz.prog W = .ok (.enter 338 args) W:=enters_of Tryz.func338 (by kernel_rfl) rfl
 go_still_tail 12,(by kernel_rfl)
 still_call (C.out.1 _)
 repeat still_step
 still_call (C.out.2.1 _)
 repeat still_step
 refine wpStill_nil ?_
 change wpList _ _ _ _ _ W0.drew
 clear c1 c2 c3 c4
 generalize W0.drew=W2 at *
 obtain ⟨g5,g6⟩:=aJ c5 c6 (.int .i64 (ay a d)) (.int .i64 (ay c b))
 go_wp2
 refine bodyPost_ret (v := .agg #[.int .i64 (ay a d),.int .i64 (ay c b)]) (by simp [results,Tryz.results36,go_sem,g5,g6]) rfl ?_
 refine ⟨rfl,?_⟩
 rw [HK.out]
 exact ((HBD.out.below).setCell (p:=⟨k+1+1,0,none⟩) (by show k≤k+1+1;omega) _).setCell (p:=⟨k+1+1,1,none⟩) (by show k≤k+1+1;omega) _
theorem fy {z:Int} (h:z.natAbs<9223372036854775808):short z :=
 Nat.lt_of_lt_of_le (Nat.lt_of_lt_of_le h (by decide:9223372036854775808≤ak 19)) (aG (by decide:19≤300))
theorem fe {a b:Int} (h:ay a b≠aT):ay a b=a*b∧(a*b).natAbs<4611686018427387904:=by
 unfold ay at h ⊢
 by_cases c:(a*b).natAbs<4611686018427387904
 ·rw [if_pos c];exact ⟨rfl,c⟩
 ·rw [if_neg c] at h;exact absurd rfl h
theorem MOK.lo {x:Int} (h:MOK x) : -9223372036854775808≤x:=by
 rcases h with h | h
 ·rw [h];unfold aT;omega
 ·omega
theorem MOK.hi {x:Int} (h:MOK x):x≤9223372036854775807:=by
 rcases h with h | h
 ·rw [h];unfold aT;omega
 ·omega
theorem tY {x y:Int} (hx:MOK x) (hy:MOK y) : -9223372036854775808≤gJ x y∧gJ x y≤9223372036854775807:=by
 unfold gJ
 split
 ·unfold aT;omega
 ·rename_i h
  rw [not_or] at h
  have h1:=hx.resolve_left h.1
  have h2:=hy.resolve_left h.2
  omega
theorem Dq {x y:Int} (h:gJ x y≠aT):x≠aT∧y≠aT∧gJ x y=x+y:=by
 unfold gJ at h ⊢
 by_cases c:x=aT∨y=aT
 ·rw [if_pos c] at h;exact absurd rfl h
 ·rw [if_neg c];rw [not_or] at c;exact ⟨c.1,c.2,rfl⟩
theorem ld {n d:Int} (h:gy n d=0):n≠aT∧d≠aT:=by
 unfold gy at h
 by_cases c:n=aT∨d=aT
 ·rw [if_pos c] at h;cases h
 ·rwa [not_or] at c
theorem sf {n d:Int} (h1:n≠aT) (h2:d≠aT):qp n d=af (Rat.divInt n d):=if_neg (by rintro (h | h);exact h1 h;exact h2 h)
theorem oO {a b:Int} (ha:a≠0) (hb:b≠0):ay a b≠0:=by
 unfold ay
 split
 ·intro h
  rcases Int.mul_eq_zero.1 h with h | h
  ·exact ha h
  ·exact hb h
 ·unfold aT;omega
theorem lf (x:Rat):(x.den:Int)≠0:=by have:=x.den_nz;omega
theorem oP {n d:Int} (h1:short n) (h2:short d):vD n d=af (Rat.divInt n d)∧vE n d=0:=⟨if_pos ⟨h1,h2⟩,if_pos ⟨h1,h2⟩⟩
theorem Dr (x y:Rat) (h:gy (gJ (ay x.num y.den) (ay y.num x.den)) (ay x.den y.den)=0):qp (gJ (ay x.num y.den) (ay y.num x.den)) (ay x.den y.den)=kN x y∧kO x y=0:=by
 obtain ⟨h1,h2⟩:=ld h
 obtain ⟨h3,h4,e1⟩:=Dq h1
 rw [sf h1 h2,e1]
 obtain ⟨e3,b3⟩:=fe h3
 obtain ⟨e4,b4⟩:=fe h4
 obtain ⟨e2,b2⟩:=fe h2
 rw [e2,e3,e4]
 have hc:dS x y:=⟨fy (by omega),fy (by omega)⟩
 obtain ⟨l1,l2⟩:=oP (n:=x.num*y.den+y.num*x.den) (d:=x.den*y.den) (fy (by omega)) (fy (by omega))
 unfold kN kO
 rw [if_pos hc,if_pos hc,l1,l2]
 exact ⟨rfl,rfl⟩
theorem Ds (x y:Rat) (h:gy (ay x.num y.num) (ay x.den y.den)=0):qp (ay x.num y.num) (ay x.den y.den)=nZ x y∧n9 x y=0:=by
 obtain ⟨h1,h2⟩:=ld h
 rw [sf h1 h2]
 obtain ⟨e1,b1⟩:=fe h1
 obtain ⟨e2,b2⟩:=fe h2
 rw [e1,e2]
 obtain ⟨l1,l2⟩:=oP (n:=x.num*y.num) (d:=x.den*y.den) (fy (by omega)) (fy (by omega))
 unfold nZ n9
 rw [l1,l2]
 exact ⟨rfl,rfl⟩
theorem Dt (x y:Rat) (h:gy (ay x.num y.den) (ay y.num x.den)=0):qp (ay x.num y.den) (ay y.num x.den)=og x y∧oh x y=0:=by
 obtain ⟨h1,h2⟩:=ld h
 rw [sf h1 h2]
 obtain ⟨e1,b1⟩:=fe h1
 obtain ⟨e2,b2⟩:=fe h2
 rw [e1,e2]
 obtain ⟨l1,l2⟩:=oP (n:=x.num*y.den) (d:=y.num*x.den) (fy (by omega)) (fy (by omega))
 unfold og oh
 rw [l1,l2]
 exact ⟨rfl,rfl⟩
def AU (n d:Int):Int:=if n=aT∨d=aT then 0 else bF n d
theorem Du (x y:Rat) (h:gy (ay x.num y.den) (ay y.num x.den)=0):AU (ay x.num y.den) (ay y.num x.den)=oi x y∧oj x y=0:=by
 obtain ⟨h1,h2⟩:=ld h
 unfold AU
 rw [if_neg (by rintro (h | h);exact h1 h;exact h2 h)]
 obtain ⟨e1,b1⟩:=fe h1
 obtain ⟨e2,b2⟩:=fe h2
 rw [e1,e2]
 have hc:dS x y:=⟨fy (by omega),fy (by omega)⟩
 unfold oi oj
 rw [if_pos hc,if_pos hc]
 exact ⟨rfl,rfl⟩
theorem dB (f:Int→Int→Int) (a b:Int):opL f (some a) (some b)=mkL (f a b):=rfl
theorem mr (o:Option Int):GR none o=⟨#[]⟩∧GQ none o=4:=by cases o <;> exact ⟨rfl,rfl⟩
theorem sh (n d:Int):GR (mkL n) (mkL d)=vD n d∧GQ (mkL n) (mkL d)=vE n d:=by
 unfold vD vE mkL
 by_cases h1:short n
 ·by_cases h2:short d
  ·rw [if_pos h1,if_pos h2,if_pos (show short n∧short d from ⟨h1,h2⟩),if_pos (show short n∧short d from ⟨h1,h2⟩)];exact ⟨rfl,rfl⟩
  ·rw [if_pos h1,if_neg h2,if_neg (show ¬ (short n∧short d) from fun h=>h2 h.2),if_neg (show ¬ (short n∧short d) from fun h=>h2 h.2)];exact ⟨rfl,rfl⟩
 ·rw [if_neg h1,if_neg (show ¬ (short n∧short d) from fun h=>h1 h.1),if_neg (show ¬ (short n∧short d) from fun h=>h1 h.1)];exact mr _
theorem E2 (f:Int→Int→Int) (a b:Int):opL f (mkL a) (mkL b)=if short a∧short b then mkL (f a b) else none:=by
 by_cases h1:short a
 ·by_cases h2:short b
  ·rw [if_pos ⟨h1,h2⟩,i8 h1,i8 h2];rfl
  ·rw [if_neg (fun h=>h2 h.2),show mkL b=none from if_neg h2,i7]
 ·rw [if_neg (fun h=>h1 h.1),show mkL a=none from if_neg h1];rfl
theorem xM (x y:Rat):GR (opL (· + ·) (opL (· * ·) (some x.num) (some y.den)) (opL (· * ·) (some y.num) (some x.den))) (opL (· * ·) (some x.den) (some y.den))=kN x y∧GQ (opL (· + ·) (opL (· * ·) (some x.num) (some y.den)) (opL (· * ·) (some y.num) (some x.den))) (opL (· * ·) (some x.den) (some y.den))=kO x y:=by
 rw [dB,dB,dB,E2]
 unfold kN kO
 by_cases hc:dS x y
 ·rw [if_pos hc,if_pos hc,if_pos (show short (x.num*y.den)∧short (y.num*x.den) from hc)]
  exact sh _ _
 ·rw [if_neg hc,if_neg hc,if_neg (show ¬ (short (x.num*y.den)∧short (y.num*x.den)) from hc)]
  exact mr _
theorem xN (x y:Rat):GR (opL (· * ·) (some x.num) (some y.num)) (opL (· * ·) (some x.den) (some y.den))=nZ x y∧GQ (opL (· * ·) (some x.num) (some y.num)) (opL (· * ·) (some x.den) (some y.den))=n9 x y:=by
 rw [dB,dB]
 exact sh _ _
theorem xO (x y:Rat):GR (opL (· * ·) (some x.num) (some y.den)) (opL (· * ·) (some y.num) (some x.den))=og x y∧GQ (opL (· * ·) (some x.num) (some y.den)) (opL (· * ·) (some y.num) (some x.den))=oh x y:=by
 rw [dB,dB]
 exact sh _ _
def F4:Option Int→Option Int→Int
 | some n,some d=>bF n d
 | _,_=>0
theorem xP (x y:Rat):F4 (opL (· * ·) (some x.num) (some y.den)) (opL (· * ·) (some y.num) (some x.den))=oi x y∧GQ (opL (· * ·) (some x.num) (some y.den)) (opL (· * ·) (some y.num) (some x.den))=oj x y:=by
 rw [dB,dB]
 unfold oi oj mkL
 by_cases h1:short (x.num*y.den)
 ·by_cases h2:short (y.num*x.den)
  ·have hc:dS x y:=⟨h1,h2⟩
   rw [if_pos h1,if_pos h2,if_pos hc,if_pos hc];exact ⟨rfl,rfl⟩
  ·have hc:¬ dS x y:=fun h=>h2 h.2
   rw [if_pos h1,if_neg h2,if_neg hc,if_neg hc];exact ⟨rfl,rfl⟩
 ·have hc:¬ dS x y:=fun h=>h1 h.1
  rw [if_neg h1,if_neg hc,if_neg hc]
  cases (if short (y.num*x.den) then some (y.num*x.den) else none) <;> exact ⟨rfl,rfl⟩
theorem AV (a b c d:Option Int) (w:World) (ha:Lwf a) (hb:Lwf b) (hc:Lwf c) (hd:Lwf d) (ht:Tab w) :
  Calls Tryz.prog 33 #[.agg #[.string (LB a),.int .i64 (LE a),.string (LB b),.int .i64 (LE b)],.agg #[.string (LB c),.int .i64 (LE c),.string (LB d),.int .i64 (LE d)]] w fun e W'=>e = .returned (.agg #[.string (LB (opL (· + ·) (opL (· * ·) a d) (opL (· * ·) c b))),.int .i64 (LE (opL (· + ·) (opL (· * ·) a d) (opL (· * ·) c b))),.string (LB (opL (· * ·) b d)),.int .i64 (LE (opL (· * ·) b d))])∧Below w.heap.size w W':=by
 have ct:=fun o p W (ho:Lwf o) (hp:Lwf p) (hW:Below w.heap.size w W)=>kj o p W ho hp (ht.next hW)
 have cp:=fun o p W (ho:Lwf o) (hp:Lwf p) (hW:Below w.heap.size w W)=>lZ o p W ho hp (ht.next hW)
 have cm:=fun o p W (ho:Lwf o) (hp:Lwf p) (hW:Below w.heap.size w W)=>iD o p W ho hp (ht.next hW)
 have C:=Ha (Hb ct (Hb cp cm))
 clear ct cp cm ht
 go_enter Tryz.func33,Tryz.ntmps33
 go_wp2
 have hbx:Bxs w w.heap.size [[.string (LB a),.int .i64 (LE a),.string (LB b),.int .i64 (LE b)],[.string (LB c),.int .i64 (LE c),.string (LB d),.int .i64 (LE d)],[.string ⟨#[]⟩,.int .i64 0,.string ⟨#[]⟩,.int .i64 0]] (((w.alloc (.cells #[.string (LB a),.int .i64 (LE a),.string (LB b),.int .i64 (LE b)] 119)).alloc (.cells #[.string (LB c),.int .i64 (LE c),.string (LB d),.int .i64 (LE d)] 119)).alloc (.cells #[.string ⟨#[]⟩,.int .i64 0,.string ⟨#[]⟩,.int .i64 0] 119)):=(((Bxs.nil w w (Below.refl _ _)).push rfl [.string (LB a),.int .i64 (LE a),.string (LB b),.int .i64 (LE b)] 119).push (by simp) [.string (LB c),.int .i64 (LE c),.string (LB d),.int .i64 (LE d)] 119).push (by simp) [.string ⟨#[]⟩,.int .i64 0,.string ⟨#[]⟩,.int .i64 0] 119
 generalize ((w.alloc (.cells #[.string (LB a),.int .i64 (LE a),.string (LB b),.int .i64 (LE b)] 119)).alloc (.cells #[.string (LB c),.int .i64 (LE c),.string (LB d),.int .i64 (LE d)] 119)).alloc (.cells #[.string ⟨#[]⟩,.int .i64 0,.string ⟨#[]⟩,.int .i64 0] 119)=W0 at *
 generalize hk:w.heap.size=k at *
 have HK:=Ha hk;clear hk
 have HB:=Ha (hbx.next (Below.refl _ _).drew)
 clear hbx
 have e0:=(show _=some (.string (LB a)) from HB.out.cells 0 _ rfl 0 _ rfl);have e1:=(show _=some (.int .i64 (LE a)) from HB.out.cells 0 _ rfl 1 _ rfl);have e2:=(show _=some (.string (LB b)) from HB.out.cells 0 _ rfl 2 _ rfl);have e3:=(show _=some (.int .i64 (LE b)) from HB.out.cells 0 _ rfl 3 _ rfl);have e4:=(show _=some (.string (LB c)) from HB.out.cells 1 _ rfl 0 _ rfl);have e5:=(show _=some (.int .i64 (LE c)) from HB.out.cells 1 _ rfl 1 _ rfl);have e6:=(show _=some (.string (LB d)) from HB.out.cells 1 _ rfl 2 _ rfl);have e7:=(show _=some (.int .i64 (LE d)) from HB.out.cells 1 _ rfl 3 _ rfl);have z0:=(show World.cell? _ ⟨k+1+1,0,none⟩=some (.string ⟨#[]⟩) from HB.out.cells 2 _ rfl 0 _ rfl);have f0:=(show World.frozen? _ ⟨k+1+1,0,none⟩=false from HB.out.frozen 2 (by simp) 0);have z1:=(show World.cell? _ ⟨k+1+1,1,none⟩=some (.int .i64 0) from HB.out.cells 2 _ rfl 1 _ rfl);have f1:=(show World.frozen? _ ⟨k+1+1,1,none⟩=false from HB.out.frozen 2 (by simp) 1);have z2:=(show World.cell? _ ⟨k+1+1,2,none⟩=some (.string ⟨#[]⟩) from HB.out.cells 2 _ rfl 2 _ rfl);have f2:=(show World.frozen? _ ⟨k+1+1,2,none⟩=false from HB.out.frozen 2 (by simp) 2);have z3:=(show World.cell? _ ⟨k+1+1,3,none⟩=some (.int .i64 0) from HB.out.cells 2 _ rfl 3 _ rfl);have f3:=(show World.frozen? _ ⟨k+1+1,3,none⟩=false from HB.out.frozen 2 (by simp) 3)
 go_region_held3 (fun w'=>w'.cell? ⟨k,0,none⟩=some (.string (LB a))∧w'.cell? ⟨k,1,none⟩=some (.int .i64 (LE a))∧w'.cell? ⟨k,2,none⟩=some (.string (LB b))∧w'.cell? ⟨k,3,none⟩=some (.int .i64 (LE b))∧w'.cell? ⟨k+1,0,none⟩=some (.string (LB c))∧w'.cell? ⟨k+1,1,none⟩=some (.int .i64 (LE c))∧w'.cell? ⟨k+1,2,none⟩=some (.string (LB d))∧w'.cell? ⟨k+1,3,none⟩=some (.int .i64 (LE d))) (first | exact ⟨e0,e1,e2,e3,e4,e5,e6,e7⟩ | (go_keep;done) | ((try dsimp only);refine ⟨?_,?_,?_,?_,?_,?_,?_,?_⟩ <;> (exact ES (by omega) (by assumption))))
  (first | (go_at_call 355;refine (C.out.1 _ _ _ (by first | assumption | exact dO _ _ _) (by first | assumption | exact dO _ _ _) (by have:=HB.out.below;rwa [HK.out] at this)).mono ?_;rintro e w1 ⟨rfl,hbw⟩;replace HB:=Ha (HB.out.next hbw);clear hbw;have e0:=(show _=some (.string (LB a)) from HB.out.cells 0 _ rfl 0 _ rfl);have e1:=(show _=some (.int .i64 (LE a)) from HB.out.cells 0 _ rfl 1 _ rfl);have e2:=(show _=some (.string (LB b)) from HB.out.cells 0 _ rfl 2 _ rfl);have e3:=(show _=some (.int .i64 (LE b)) from HB.out.cells 0 _ rfl 3 _ rfl);have e4:=(show _=some (.string (LB c)) from HB.out.cells 1 _ rfl 0 _ rfl);have e5:=(show _=some (.int .i64 (LE c)) from HB.out.cells 1 _ rfl 1 _ rfl);have e6:=(show _=some (.string (LB d)) from HB.out.cells 1 _ rfl 2 _ rfl);have e7:=(show _=some (.int .i64 (LE d)) from HB.out.cells 1 _ rfl 3 _ rfl);have z0:=(show World.cell? _ ⟨k+1+1,0,none⟩=some (.string ⟨#[]⟩) from HB.out.cells 2 _ rfl 0 _ rfl);have f0:=(show World.frozen? _ ⟨k+1+1,0,none⟩=false from HB.out.frozen 2 (by simp) 0);have z1:=(show World.cell? _ ⟨k+1+1,1,none⟩=some (.int .i64 0) from HB.out.cells 2 _ rfl 1 _ rfl);have f1:=(show World.frozen? _ ⟨k+1+1,1,none⟩=false from HB.out.frozen 2 (by simp) 1);have z2:=(show World.cell? _ ⟨k+1+1,2,none⟩=some (.string ⟨#[]⟩) from HB.out.cells 2 _ rfl 2 _ rfl);have f2:=(show World.frozen? _ ⟨k+1+1,2,none⟩=false from HB.out.frozen 2 (by simp) 2);have z3:=(show World.cell? _ ⟨k+1+1,3,none⟩=some (.int .i64 0) from HB.out.cells 2 _ rfl 3 _ rfl);have f3:=(show World.frozen? _ ⟨k+1+1,3,none⟩=false from HB.out.frozen 2 (by simp) 3)) | (go_at_call 354;refine (C.out.2.1 _ _ _ (by first | assumption | exact dO _ _ _) (by first | assumption | exact dO _ _ _) (by have:=HB.out.below;rwa [HK.out] at this)).mono ?_;rintro e w1 ⟨rfl,hbw⟩;replace HB:=Ha (HB.out.next hbw);clear hbw;have e0:=(show _=some (.string (LB a)) from HB.out.cells 0 _ rfl 0 _ rfl);have e1:=(show _=some (.int .i64 (LE a)) from HB.out.cells 0 _ rfl 1 _ rfl);have e2:=(show _=some (.string (LB b)) from HB.out.cells 0 _ rfl 2 _ rfl);have e3:=(show _=some (.int .i64 (LE b)) from HB.out.cells 0 _ rfl 3 _ rfl);have e4:=(show _=some (.string (LB c)) from HB.out.cells 1 _ rfl 0 _ rfl);have e5:=(show _=some (.int .i64 (LE c)) from HB.out.cells 1 _ rfl 1 _ rfl);have e6:=(show _=some (.string (LB d)) from HB.out.cells 1 _ rfl 2 _ rfl);have e7:=(show _=some (.int .i64 (LE d)) from HB.out.cells 1 _ rfl 3 _ rfl);have z0:=(show World.cell? _ ⟨k+1+1,0,none⟩=some (.string ⟨#[]⟩) from HB.out.cells 2 _ rfl 0 _ rfl);have f0:=(show World.frozen? _ ⟨k+1+1,0,none⟩=false from HB.out.frozen 2 (by simp) 0);have z1:=(show World.cell? _ ⟨k+1+1,1,none⟩=some (.int .i64 0) from HB.out.cells 2 _ rfl 1 _ rfl);have f1:=(show World.frozen? _ ⟨k+1+1,1,none⟩=false from HB.out.frozen 2 (by simp) 1);have z2:=(show World.cell? _ ⟨k+1+1,2,none⟩=some (.string ⟨#[]⟩) from HB.out.cells 2 _ rfl 2 _ rfl);have f2:=(show World.frozen? _ ⟨k+1+1,2,none⟩=false from HB.out.frozen 2 (by simp) 2);have z3:=(show World.cell? _ ⟨k+1+1,3,none⟩=some (.int .i64 0) from HB.out.cells 2 _ rfl 3 _ rfl);have f3:=(show World.frozen? _ ⟨k+1+1,3,none⟩=false from HB.out.frozen 2 (by simp) 3)))
 have e0:=(show _=some (.string (LB a)) from HB.out.cells 0 _ rfl 0 _ rfl);have e1:=(show _=some (.int .i64 (LE a)) from HB.out.cells 0 _ rfl 1 _ rfl);have e2:=(show _=some (.string (LB b)) from HB.out.cells 0 _ rfl 2 _ rfl);have e3:=(show _=some (.int .i64 (LE b)) from HB.out.cells 0 _ rfl 3 _ rfl);have e4:=(show _=some (.string (LB c)) from HB.out.cells 1 _ rfl 0 _ rfl);have e5:=(show _=some (.int .i64 (LE c)) from HB.out.cells 1 _ rfl 1 _ rfl);have e6:=(show _=some (.string (LB d)) from HB.out.cells 1 _ rfl 2 _ rfl);have e7:=(show _=some (.int .i64 (LE d)) from HB.out.cells 1 _ rfl 3 _ rfl);have z0:=(show World.cell? _ ⟨k+1+1,0,none⟩=some (.string ⟨#[]⟩) from HB.out.cells 2 _ rfl 0 _ rfl);have f0:=(show World.frozen? _ ⟨k+1+1,0,none⟩=false from HB.out.frozen 2 (by simp) 0);have z1:=(show World.cell? _ ⟨k+1+1,1,none⟩=some (.int .i64 0) from HB.out.cells 2 _ rfl 1 _ rfl);have f1:=(show World.frozen? _ ⟨k+1+1,1,none⟩=false from HB.out.frozen 2 (by simp) 1);have z2:=(show World.cell? _ ⟨k+1+1,2,none⟩=some (.string ⟨#[]⟩) from HB.out.cells 2 _ rfl 2 _ rfl);have f2:=(show World.frozen? _ ⟨k+1+1,2,none⟩=false from HB.out.frozen 2 (by simp) 2);have z3:=(show World.cell? _ ⟨k+1+1,3,none⟩=some (.int .i64 0) from HB.out.cells 2 _ rfl 3 _ rfl);have f3:=(show World.frozen? _ ⟨k+1+1,3,none⟩=false from HB.out.frozen 2 (by simp) 3)
 obtain ⟨g0,g1,g2,g3⟩:=kt z0 z1 z2 z3 (.string (LB (opL (· + ·) (opL (· * ·) a d) (opL (· * ·) c b)))) (.int .i64 (LE (opL (· + ·) (opL (· * ·) a d) (opL (· * ·) c b)))) (.string (LB (opL (· * ·) b d))) (.int .i64 (LE (opL (· * ·) b d)))
 go_wp2
 refine bodyPost_ret (v := .agg #[.string (LB (opL (· + ·) (opL (· * ·) a d) (opL (· * ·) c b))),.int .i64 (LE (opL (· + ·) (opL (· * ·) a d) (opL (· * ·) c b))),.string (LB (opL (· * ·) b d)),.int .i64 (LE (opL (· * ·) b d))]) (by simp [results,Tryz.results33,go_sem,g0,g1,g2,g3]) rfl ?_
 refine ⟨rfl,?_⟩
 have hbl:=HB.out.below
 rw [HK.out] at hbl ⊢
 exact (((hbl.setCell (p:=⟨k+1+1,0,none⟩) (by show k≤k+1+1;omega) _).setCell (p:=⟨k+1+1,1,none⟩) (by show k≤k+1+1;omega) _).setCell (p:=⟨k+1+1,2,none⟩) (by show k≤k+1+1;omega) _).setCell (p:=⟨k+1+1,3,none⟩) (by show k≤k+1+1;omega) _
end
section
open Go.Lib
theorem ji (z:Int):af (z:Rat)=aa z:=by
 unfold af aa cG
 rw [Rat.den_intCast,if_pos rfl,Rat.num_intCast]
theorem gg:af 0=⟨#[48]⟩:=by
 have h:=ji 0
 rw [Rat.intCast_zero] at h
 rw [h];exact iO 0 [48] fZ
theorem ig:af 1=⟨#[49]⟩:=by
 have h:=ji 1
 rw [Rat.intCast_one] at h
 rw [h];exact iO 1 [49] bU
theorem y6 (l m:List UInt8) (h:l ≠ []):aw (l++m)=aw l:=by
 cases l with
 | nil=>exact absurd rfl h
 | cons a t=>rfl
theorem si (z:Int):itoa z ≠ []:=fun h=>by
 have h1:=gm z
 rw [h,show chk []=11 by decide] at h1
 split at h1 <;> omega
theorem AW (q:Rat):aw (af q).data.toList=decide (q<0):=by
 have h:decide (q<0)=decide (q.num<0):=by
  apply decide_eq_decide.2
  rw [←Rat.not_le,←Rat.num_nonneg];omega
 rw [cC,h]
 unfold cG
 split
 ·rw [bH]
 ·rw [y6 _ _ (si _),bH]
theorem AX (q:Rat):0<(af q).size:=by
 rw [←ag,cC]
 have h:=List.length_pos_iff.2 (si q.num)
 unfold cG
 split
 ·exact h
 ·rw [List.length_append];omega
theorem tZ (x y:Rat):((af x).toList==(af y).toList)=decide (x=y):=by
 by_cases h:x=y
 ·subst h;simp
 ·rw [decide_eq_false h,beq_eq_false_iff_ne,ByteArray.toList_eq,ByteArray.toList_eq,cC,cC]
  exact fun e=>h (yN e)
theorem oQ (x:Rat):((af x).toList == [48])=decide (x=0):=by
 have h:=tZ x 0
 rw [gg,ByteArray.toList_eq ⟨#[48]⟩] at h
 exact h
theorem wc {k:Nat} {z:Int} (hk:1≤k) (h:Bd k z):Bq k (z:Rat):=by
 refine ⟨by rw [Rat.num_intCast];exact h,?_⟩
 rw [Rat.den_intCast]
 exact Nat.lt_of_lt_of_le (by decide) (aG hk)
theorem jR:Bq 1 0:=by have:=wc (k:=1) (z:=0) (by omega) (by show Int.natAbs 0<ak 1;decide);rwa [Rat.intCast_zero] at this
theorem so:Bq 1 1:=by have:=wc (k:=1) (z:=1) (by omega) (by show Int.natAbs 1<ak 1;decide);rwa [Rat.intCast_one] at this
theorem oR (x y:Rat):dn x y = -1∧x<y∨dn x y=0∧x=y∨dn x y=1∧y<x:=by
 rcases kh x y with h | h | h
 ·exact .inl ⟨eO h,h⟩
 ·subst h;exact .inr (.inl ⟨dJ x,rfl⟩)
 ·exact .inr (.inr ⟨eU h,h⟩)
theorem y7 {x y a b:Rat} (h1:x<y↔a<b) (h2:y<x↔b<a):dn x y=dn a b:=by
 rcases kh a b with h | h | h
 ·rw [eO h,eO (h1.2 h)]
 ·subst h
  rcases kh x y with q | q | q
  ·exact absurd (h1.1 q) Rat.lt_irrefl
  ·subst q;rw [dJ,dJ]
  ·exact absurd (h2.1 q) Rat.lt_irrefl
 ·rw [eU h,eU (h2.2 h)]
theorem AY (x y z:Rat):dn (x+z) (y+z)=dn x y :=
 y7 Rat.add_lt_add_right Rat.add_lt_add_right
end
section
open Go.RowKit
def Sq (x:Rat):Prop:=x.num.natAbs<lim∧x.den<lim
theorem Sq.n {x:Rat} (h:Sq x):short x.num:=h.1
theorem Sq.d {x:Rat} (h:Sq x):short (x.den:Int):=by show Int.natAbs _<lim;rw [Int.natAbs_natCast];exact h.2
theorem sw (x:Rat):bN (af x)=aa x.num:=aU (by rw [dK,cC,aF,(dI x).1])
theorem sA (x:Rat):bD (af x)=aa (x.den:Int):=aU (by rw [cI,cC,aF,(dI x).2.1])
theorem dP (x:Rat):valOf (be (af x).data.toList)=x.num∧valOf (aK (af x).data.toList)=x.den:=by
 rw [cC,(dI x).1,(dI x).2.1,cM,cM];exact ⟨rfl,rfl⟩
theorem Sq.chk {x:Rat} (h:Sq x):bB (af x).data.toList=0:=tF h.1 h.2
theorem Sq.size {x:Rat} (h:Sq x):(af x).size≤maxLen:=by
 have h1:=aM h.n
 have h2:=aM h.d
 rw [←ag,aF] at h1 h2
 rw [←ag,cC]
 unfold cG maxLen
 split
 ·omega
 ·rw [List.length_append,List.length_cons];omega
theorem iH (x:Rat) (w:World) (hx:Sq x) (ht:Tab w) :
  Calls Tryz.prog 75 #[.string (af x)] w fun e W'=>e = .returned (.tuple #[.agg #[.string (aa x.num),.int .i64 0,.string (aa (x.den:Int)),.int .i64 0],.int .i64 0])∧Below w.heap.size w W':=by
 have c:=k6 (af x) w hx.size ht
 obtain ⟨q1,q2⟩:=rY hx.chk
 rwa [q1,q2,sw,sA,hx.chk] at c
theorem mX {x:Rat} (h:mOK (af x).data.toList=true):B18 x.num∧B18 (x.den:Int):=by
 have:=(xC h).2
 rwa [(dP x).1,(dP x).2] at this
theorem kA (x y:Rat) (p q:Nat) (rM:ByteArray) (eM:Int) (B:ByteArray) (E:Int) (w:World) (hx:Sq x) (hy:Sq y) (ht:Tab w) (ht2:aH w)
  (hs:B18 x.num→B18 (x.den:Int)→B18 y.num→B18 (y.den:Int)→CqB w 76 #[.agg #[.int .i64 x.num,.int .i64 (x.den:Int)],.agg #[.int .i64 y.num,.int .i64 (y.den:Int)],.pointer (some ⟨p,0,none⟩)] (.tuple #[.string rM,.int .i64 eM]))
  (hok:eM=0→rM=B∧E=0)
  (hl:CqB w 78 #[.agg #[.string (aa x.num),.int .i64 0,.string (aa (x.den:Int)),.int .i64 0],.agg #[.string (aa y.num),.int .i64 0,.string (aa (y.den:Int)),.int .i64 0],.pointer (some ⟨q,0,none⟩)] (.tuple #[.string B,.int .i64 E])) :
  Calls Tryz.prog 29 #[.string (af x),.string (af y),.func (.func 76) #[] #[.pointer (some ⟨p,0,none⟩)],.func (.func 78) #[] #[.pointer (some ⟨q,0,none⟩)]] w fun e W'=>e = .returned (.tuple #[.string B,.int .i64 E])∧Below w.heap.size w W':=by
 have el:∀ args W,(callFunc 78 args).run Tryz.prog W = .ok (.enter 78 args) W:=enters_of Tryz.func78 (by kernel_rfl) rfl
 have es:∀ args W,(callFunc 76 args).run Tryz.prog W = .ok (.enter 76 args) W:=enters_of Tryz.func76 (by kernel_rfl) rfl
 have ra:=fun W (hW:Below w.heap.size w W)=>iH x W hx (ht.next hW)
 have rb:=fun W (hW:Below w.heap.size w W)=>iH y W hy (ht.next hW)
 by_cases o:mOK (af x).data.toList=true∧mOK (af y).data.toList=true
 ·have hm:=fun W (hW:Below w.heap.size w W)=>ic (af x) (af y) W hx.size hy.size o.1 o.2 (ae ht2 hW)
  simp only [(dP x).1,(dP x).2,(dP y).1,(dP y).2] at hm
  have hs:=hs (mX o.1).1 (mX o.1).2 (mX o.2).1 (mX o.2).2
  by_cases he:eM=0
  ·obtain ⟨h1,h2⟩:=hok he
   subst h1;subst h2;subst he
   exact oK _ _ p q _ _ _ _ _ _ _ w hm es hs
  ·exact qs _ _ p q _ _ _ _ _ _ _ _ _ _ _ _ _ _ w (cJ he).1 (cJ he).2 hm es hs ra rb el hl
 ·have hm:=fun W (hW:Below w.heap.size w W)=>iS (af x) (af y) W hx.size hy.size o (ae ht2 hW)
  exact qt _ _ p q _ _ _ _ _ _ _ _ w hm ra rb el hl
theorem wd (x y:Rat) (ks kl:FuncId) (es:∀ args W,(callFunc ks args).run Tryz.prog W = .ok (.enter ks args) W) (el:∀ args W,(callFunc kl args).run Tryz.prog W = .ok (.enter kl args) W) (rM eM B E:Int) (w:World) (hx:Sq x) (hy:Sq y) (ht:Tab w) (ht2:aH w)
  (hs:B18 x.num→B18 (x.den:Int)→B18 y.num→B18 (y.den:Int)→CqB w ks #[.agg #[.int .i64 x.num,.int .i64 (x.den:Int)],.agg #[.int .i64 y.num,.int .i64 (y.den:Int)]] (.tuple #[.int .i64 rM,.int .i64 eM]))
  (hok:eM=0→rM=B∧E=0)
  (hl:CqB w kl #[.agg #[.string (aa x.num),.int .i64 0,.string (aa (x.den:Int)),.int .i64 0],.agg #[.string (aa y.num),.int .i64 0,.string (aa (y.den:Int)),.int .i64 0]] (.tuple #[.int .i64 B,.int .i64 E])) :
  Calls Tryz.prog 39 #[.string (af x),.string (af y),.func (.func ks) #[] #[],.func (.func kl) #[] #[]] w fun e W'=>e = .returned (.tuple #[.int .i64 B,.int .i64 E])∧Below w.heap.size w W':=by
 have ra:=fun W (hW:Below w.heap.size w W)=>iH x W hx (ht.next hW)
 have rb:=fun W (hW:Below w.heap.size w W)=>iH y W hy (ht.next hW)
 by_cases o:mOK (af x).data.toList=true∧mOK (af y).data.toList=true
 ·have hm:=fun W (hW:Below w.heap.size w W)=>ic (af x) (af y) W hx.size hy.size o.1 o.2 (ae ht2 hW)
  simp only [(dP x).1,(dP x).2,(dP y).1,(dP y).2] at hm
  have hs:=hs (mX o.1).1 (mX o.1).2 (mX o.2).1 (mX o.2).2
  by_cases he:eM=0
  ·obtain ⟨h1,h2⟩:=hok he
   subst h1;subst h2;subst he
   exact oL _ _ _ _ _ _ _ _ _ w hm es hs
  ·exact qu _ _ _ _ _ _ _ _ _ _ _ _ _ _ _ _ w (cJ he).1 (cJ he).2 hm es hs ra rb el hl
 ·have hm:=fun W (hW:Below w.heap.size w W)=>iS (af x) (af y) W hx.size hy.size o (ae ht2 hW)
  exact qv _ _ _ _ _ _ _ _ _ _ w hm ra rb el hl
theorem B18.ok {z:Int} (h:B18 z):z.natAbs<4611686018427387904:=by unfold B18 at h;omega
theorem jk {x:Rat} (h:Sq x):Lwf (some (x.den:Int)):=jJ h.d
theorem jl {x:Rat} (h:Sq x):Lwf (some x.num):=jJ h.n
theorem xQ (x y:Rat):opL (· * ·) (some (x.den:Int)) (some (y.den:Int))≠some 0:=by
 rw [dB]
 unfold mkL
 intro h
 split at h
 ·have h1:=Option.some.inj h
  rcases Int.mul_eq_zero.1 h1 with q | q
  ·exact lf x q
  ·exact lf y q
 ·cases h
theorem Dv {x y:Rat} (hy:y≠0):opL (· * ·) (some y.num) (some (x.den:Int))≠some 0:=by
 rw [dB]
 unfold mkL
 intro h
 split at h
 ·have h1:=Option.some.inj h
  rcases Int.mul_eq_zero.1 h1 with q | q
  ·exact hy (Rat.num_eq_zero.1 q)
  ·exact lf x q
 ·cases h
theorem y8 (x y:Rat) (p:Nat) (w:World) (bx:B18 x.num) (cx:B18 (x.den:Int)) (by_:B18 y.num) (cy:B18 (y.den:Int)) (hb:Blk w p #[.func (.func 31) #[] #[]]) (ht:Tab w) (ht2:aH w) :
  Calls Tryz.prog 76 #[.agg #[.int .i64 x.num,.int .i64 (x.den:Int)],.agg #[.int .i64 y.num,.int .i64 (y.den:Int)],.pointer (some ⟨p,0,none⟩)] w fun e W'=>e = .returned (.tuple #[.string (qp (gJ (ay x.num y.den) (ay y.num x.den)) (ay x.den y.den)),.int .i64 (gy (gJ (ay x.num y.den) (ay y.num x.den)) (ay x.den y.den))])∧Below w.heap.size w W' :=
 mm 31 p _ _ _ _ _ _ _ _ w (enters_of Tryz.func31 (by kernel_rfl) rfl) hb (fun W _=>Az _ _ _ _ W bx cx by_ cy)
  (fun W hW=>jg _ _ W (tY (bv _ _) (bv _ _)).1 (tY (bv _ _) (bv _ _)).2 (bv _ _).lo (bv _ _).hi (oO (lf x) (lf y)) (ht.next hW) (ae ht2 hW))
theorem zd (x y:Rat) (q:Nat) (w:World) (hx:Sq x) (hy:Sq y) (hb:Blk w q #[.func (.func 33) #[] #[]]) (ht:Tab w) :
  Calls Tryz.prog 78 #[.agg #[.string (aa x.num),.int .i64 0,.string (aa (x.den:Int)),.int .i64 0],.agg #[.string (aa y.num),.int .i64 0,.string (aa (y.den:Int)),.int .i64 0],.pointer (some ⟨q,0,none⟩)] w fun e W'=>e = .returned (.tuple #[.string (kN x y),.int .i64 (kO x y)])∧Below w.heap.size w W':=by
 have c:=mq 33 q (aa x.num) (aa (x.den:Int)) (aa y.num) (aa (y.den:Int)) _ _ 0 0 0 0 _ _ _ _ w (enters_of Tryz.func33 (by kernel_rfl) rfl) hb
  (fun W hW=>AV (some x.num) (some (x.den:Int)) (some y.num) (some (y.den:Int)) W (jl hx) (jk hx) (jl hy) (jk hy) (ht.next hW))
  (fun W hW=>jh (opL (· + ·) (opL (· * ·) (some x.num) (some (y.den:Int))) (opL (· * ·) (some y.num) (some (x.den:Int)))) (opL (· * ·) (some (x.den:Int)) (some (y.den:Int))) W (dO _ _ _) (dO _ _ _) (xQ x y) (ht.next hW))
 rwa [(xM x y).1,(xM x y).2] at c
theorem ze (a b r:ByteArray) (e0:Int) (w:World)
  (h:∀ W p q,Below w.heap.size w W→Blk W p #[.func (.func 31) #[] #[]]→Blk W q #[.func (.func 33) #[] #[]]→Calls Tryz.prog 29 #[.string a,.string b,.func (.func 76) #[] #[.pointer (some ⟨p,0,none⟩)],.func (.func 78) #[] #[.pointer (some ⟨q,0,none⟩)]] W fun e W'=>e = .returned (.tuple #[.string r,.int .i64 e0])∧Below W.heap.size W W') :
  Calls Tryz.prog 9 #[.string a,.string b] w fun e W'=>e = .returned (.tuple #[.string r,.int .i64 e0])∧Below w.heap.size w W':=by
 have C:=Ha (Hb h (Hb (fun W=>je 31 W) (fun W=>jf 33 W)));clear h
 go_enter Tryz.func9,Tryz.ntmps9
 go_wp2_with fail
 refine (C.out.2.1 _).mono ?_
 rintro e w1 ⟨rfl,k0,b⟩
 have H1:=Ha (Hb k0 b);clear k0 b
 go_wp2_with fail
 refine (C.out.2.2 _).mono ?_
 rintro e w2 ⟨rfl,k1,b⟩
 have H2:=Ha (Hb (H1.out.1.next b) (Hb k1 (H1.out.2.trans (b.mono H1.out.2.size))));clear k1 b H1
 go_wp2_with fail
 refine (C.out.1 _ _ _ H2.out.2.2 H2.out.1 H2.out.2.1).mono ?_
 rintro e w3 ⟨rfl,b⟩
 have H3:=Ha (H2.out.2.2.trans (b.mono H2.out.2.2.size));clear b
 go_wp2
 go_ret2
 exact ⟨rfl,H3.out⟩
theorem j5 (x y:Rat) (w:World) (hx:Sq x) (hy:Sq y) (ht:Tab w) (ht2:aH w) :
  Calls Tryz.prog 9 #[.string (af x),.string (af y)] w fun e W'=>e = .returned (.tuple #[.string (kN x y),.int .i64 (kO x y)])∧Below w.heap.size w W':=by
 refine ze _ _ _ _ w (fun W p q hW k0 k1 => ?_)
 exact kA x y p q _ _ _ _ W hx hy (ht.next hW) (ae ht2 hW)
  (fun b1 c1 b2 c2 W' hW'=>y8 x y p W' b1 c1 b2 c2 (k0.next hW') ((ht.next hW).next hW') (ae (ae ht2 hW) hW'))
  (fun he=>Dr x y he)
  (fun W' hW'=>zd x y q W' hx hy (k1.next hW') ((ht.next hW).next hW'))
theorem zf (x y:Rat) (p:Nat) (w:World) (bx:B18 x.num) (cx:B18 (x.den:Int)) (by_:B18 y.num) (cy:B18 (y.den:Int)) (hb:Blk w p #[.func (.func 34) #[] #[]]) (ht:Tab w) (ht2:aH w) :
  Calls Tryz.prog 76 #[.agg #[.int .i64 x.num,.int .i64 (x.den:Int)],.agg #[.int .i64 y.num,.int .i64 (y.den:Int)],.pointer (some ⟨p,0,none⟩)] w fun e W'=>e = .returned (.tuple #[.string (qp (ay x.num y.num) (ay x.den y.den)),.int .i64 (gy (ay x.num y.num) (ay x.den y.den))])∧Below w.heap.size w W' :=
 mm 34 p _ _ _ _ _ _ _ _ w (enters_of Tryz.func34 (by kernel_rfl) rfl) hb (fun W _=>se _ _ _ _ W bx cx by_ cy)
  (fun W hW=>jg _ _ W (bv _ _).lo (bv _ _).hi (bv _ _).lo (bv _ _).hi (oO (lf x) (lf y)) (ht.next hW) (ae ht2 hW))
theorem zg (x y:Rat) (q:Nat) (w:World) (hx:Sq x) (hy:Sq y) (hb:Blk w q #[.func (.func 35) #[] #[]]) (ht:Tab w) :
  Calls Tryz.prog 78 #[.agg #[.string (aa x.num),.int .i64 0,.string (aa (x.den:Int)),.int .i64 0],.agg #[.string (aa y.num),.int .i64 0,.string (aa (y.den:Int)),.int .i64 0],.pointer (some ⟨q,0,none⟩)] w fun e W'=>e = .returned (.tuple #[.string (nZ x y),.int .i64 (n9 x y)])∧Below w.heap.size w W':=by
 have c:=mq 35 q (aa x.num) (aa (x.den:Int)) (aa y.num) (aa (y.den:Int)) _ _ 0 0 0 0 _ _ _ _ w (enters_of Tryz.func35 (by kernel_rfl) rfl) hb
  (fun W hW=>rV (some x.num) (some (x.den:Int)) (some y.num) (some (y.den:Int)) W (jl hx) (jk hx) (jl hy) (jk hy) (ht.next hW))
  (fun W hW=>jh (opL (· * ·) (some x.num) (some y.num)) (opL (· * ·) (some (x.den:Int)) (some (y.den:Int))) W (dO _ _ _) (dO _ _ _) (xQ x y) (ht.next hW))
 rwa [(xN x y).1,(xN x y).2] at c
theorem zh (a b r:ByteArray) (e0:Int) (w:World)
  (h:∀ W p q,Below w.heap.size w W→Blk W p #[.func (.func 34) #[] #[]]→Blk W q #[.func (.func 35) #[] #[]]→Calls Tryz.prog 29 #[.string a,.string b,.func (.func 76) #[] #[.pointer (some ⟨p,0,none⟩)],.func (.func 78) #[] #[.pointer (some ⟨q,0,none⟩)]] W fun e W'=>e = .returned (.tuple #[.string r,.int .i64 e0])∧Below W.heap.size W W') :
  Calls Tryz.prog 10 #[.string a,.string b] w fun e W'=>e = .returned (.tuple #[.string r,.int .i64 e0])∧Below w.heap.size w W':=by
 have C:=Ha (Hb h (Hb (fun W=>je 34 W) (fun W=>jf 35 W)));clear h
 go_enter Tryz.func10,Tryz.ntmps10
 go_wp2_with fail
 refine (C.out.2.1 _).mono ?_
 rintro e w1 ⟨rfl,k0,b⟩
 have H1:=Ha (Hb k0 b);clear k0 b
 go_wp2_with fail
 refine (C.out.2.2 _).mono ?_
 rintro e w2 ⟨rfl,k1,b⟩
 have H2:=Ha (Hb (H1.out.1.next b) (Hb k1 (H1.out.2.trans (b.mono H1.out.2.size))));clear k1 b H1
 go_wp2_with fail
 refine (C.out.1 _ _ _ H2.out.2.2 H2.out.1 H2.out.2.1).mono ?_
 rintro e w3 ⟨rfl,b⟩
 have H3:=Ha (H2.out.2.2.trans (b.mono H2.out.2.2.size));clear b
 go_wp2
 go_ret2
 exact ⟨rfl,H3.out⟩
theorem gz (x y:Rat) (w:World) (hx:Sq x) (hy:Sq y) (ht:Tab w) (ht2:aH w) :
  Calls Tryz.prog 10 #[.string (af x),.string (af y)] w fun e W'=>e = .returned (.tuple #[.string (nZ x y),.int .i64 (n9 x y)])∧Below w.heap.size w W':=by
 refine zh _ _ _ _ w (fun W p q hW k0 k1 => ?_)
 exact kA x y p q _ _ _ _ W hx hy (ht.next hW) (ae ht2 hW)
  (fun b1 c1 b2 c2 W' hW'=>zf x y p W' b1 c1 b2 c2 (k0.next hW') ((ht.next hW).next hW') (ae (ae ht2 hW) hW'))
  (fun he=>Ds x y he)
  (fun W' hW'=>zg x y q W' hx hy (k1.next hW') ((ht.next hW).next hW'))
theorem zi (x y:Rat) (p:Nat) (w:World) (bx:B18 x.num) (cx:B18 (x.den:Int)) (by_:B18 y.num) (cy:B18 (y.den:Int)) (h0:y≠0) (hb:Blk w p #[.func (.func 36) #[] #[]]) (ht:Tab w) (ht2:aH w) :
  Calls Tryz.prog 76 #[.agg #[.int .i64 x.num,.int .i64 (x.den:Int)],.agg #[.int .i64 y.num,.int .i64 (y.den:Int)],.pointer (some ⟨p,0,none⟩)] w fun e W'=>e = .returned (.tuple #[.string (qp (ay x.num y.den) (ay y.num x.den)),.int .i64 (gy (ay x.num y.den) (ay y.num x.den))])∧Below w.heap.size w W' :=
 mm 36 p _ _ _ _ _ _ _ _ w (enters_of Tryz.func36 (by kernel_rfl) rfl) hb (fun W _=>oN _ _ _ _ W bx cx by_ cy)
  (fun W hW=>jg _ _ W (bv _ _).lo (bv _ _).hi (bv _ _).lo (bv _ _).hi (oO (fun e=>h0 (Rat.num_eq_zero.1 e)) (lf x)) (ht.next hW) (ae ht2 hW))
theorem zj (x y:Rat) (q:Nat) (w:World) (hx:Sq x) (hy:Sq y) (h0:y≠0) (hb:Blk w q #[.func (.func 37) #[] #[]]) (ht:Tab w) :
  Calls Tryz.prog 78 #[.agg #[.string (aa x.num),.int .i64 0,.string (aa (x.den:Int)),.int .i64 0],.agg #[.string (aa y.num),.int .i64 0,.string (aa (y.den:Int)),.int .i64 0],.pointer (some ⟨q,0,none⟩)] w fun e W'=>e = .returned (.tuple #[.string (og x y),.int .i64 (oh x y)])∧Below w.heap.size w W':=by
 have c:=mq 37 q (aa x.num) (aa (x.den:Int)) (aa y.num) (aa (y.den:Int)) _ _ 0 0 0 0 _ _ _ _ w (enters_of Tryz.func37 (by kernel_rfl) rfl) hb
  (fun W hW=>oz (some x.num) (some (x.den:Int)) (some y.num) (some (y.den:Int)) W (jl hx) (jk hx) (jl hy) (jk hy) (ht.next hW))
  (fun W hW=>jh (opL (· * ·) (some x.num) (some (y.den:Int))) (opL (· * ·) (some y.num) (some (x.den:Int))) W (dO _ _ _) (dO _ _ _) (Dv h0) (ht.next hW))
 rwa [(xO x y).1,(xO x y).2] at c
theorem zk (a b r:ByteArray) (e0:Int) (hz:(b.toList == [48])=false) (hz':(b.toList != [48])=true) (w:World)
  (h:∀ W p q,Below w.heap.size w W→Blk W p #[.func (.func 36) #[] #[]]→Blk W q #[.func (.func 37) #[] #[]]→Calls Tryz.prog 29 #[.string a,.string b,.func (.func 76) #[] #[.pointer (some ⟨p,0,none⟩)],.func (.func 78) #[] #[.pointer (some ⟨q,0,none⟩)]] W fun e W'=>e = .returned (.tuple #[.string r,.int .i64 e0])∧Below W.heap.size W W') :
  Calls Tryz.prog 11 #[.string a,.string b] w fun e W'=>e = .returned (.tuple #[.string r,.int .i64 e0])∧Below w.heap.size w W':=by
 have C:=Ha (Hb h (Hb (fun W=>je 36 W) (fun W=>jf 37 W)));clear h
 go_enter Tryz.func11,Tryz.ntmps11
 go_wp2_with fail
 refine (C.out.2.1 _).mono ?_
 rintro e w1 ⟨rfl,k0,b⟩
 have H1:=Ha (Hb k0 b);clear k0 b
 go_wp2_with fail
 refine (C.out.2.2 _).mono ?_
 rintro e w2 ⟨rfl,k1,b⟩
 have H2:=Ha (Hb (H1.out.1.next b) (Hb k1 (H1.out.2.trans (b.mono H1.out.2.size))));clear k1 b H1
 go_wp2_with fail
 refine (C.out.1 _ _ _ H2.out.2.2 H2.out.1 H2.out.2.1).mono ?_
 rintro e w3 ⟨rfl,b⟩
 have H3:=Ha (H2.out.2.2.trans (b.mono H2.out.2.2.size));clear b
 go_wp2
 go_ret2
 exact ⟨rfl,H3.out⟩
theorem xR (x y:Rat) (w:World) (hx:Sq x) (hy:Sq y) (h0:y≠0) (ht:Tab w) (ht2:aH w) :
  Calls Tryz.prog 11 #[.string (af x),.string (af y)] w fun e W'=>e = .returned (.tuple #[.string (og x y),.int .i64 (oh x y)])∧Below w.heap.size w W':=by
 have hz:((af y).toList == [48])=false:=by rw [oQ];exact decide_eq_false h0
 refine zk _ _ _ _ hz (by rw [bne,hz];rfl) w (fun W p q hW k0 k1 => ?_)
 exact kA x y p q _ _ _ _ W hx hy (ht.next hW) (ae ht2 hW)
  (fun b1 c1 b2 c2 W' hW'=>zi x y p W' b1 c1 b2 c2 h0 (k0.next hW') ((ht.next hW).next hW') (ae (ae ht2 hW) hW'))
  (fun he=>Dt x y he)
  (fun W' hW'=>zj x y q W' hx hy h0 (k1.next hW') ((ht.next hW).next hW'))
theorem AZ (x y:Rat) (w:World) (bx:B18 x.num) (cx:B18 (x.den:Int)) (by_:B18 y.num) (cy:B18 (y.den:Int)) :
  Calls Tryz.prog 40 #[.agg #[.int .i64 x.num,.int .i64 (x.den:Int)],.agg #[.int .i64 y.num,.int .i64 (y.den:Int)]] w fun e W'=>e = .returned (.tuple #[.int .i64 (AU (ay x.num y.den) (ay y.num x.den)),.int .i64 (gy (ay x.num y.den) (ay y.num x.den))])∧Below w.heap.size w W':=by
 have hr:=fun W (_:Below w.heap.size w W)=>oN x.num x.den y.num y.den W bx cx by_ cy
 have hf:=fun W (_:Below w.heap.size w W)=>gY (ay x.num y.den) (ay y.num x.den) W
 by_cases h:ay x.num y.den=aT∨ay y.num x.den=aT
 ·unfold AU gy
  rw [if_pos h,if_pos h]
  rw [if_pos h] at hf
  exact vZ _ _ _ _ _ _ 4 (by decide) (by decide) w hr hf
 ·unfold AU gy
  rw [if_neg h,if_neg h]
  rw [if_neg h] at hf
  exact y3 _ _ _ _ _ _ _ w hr hf (fun W _=>(AT _ _ W).mono fun e W' h=>⟨h.1,by rw [←h.2];exact Below.refl _ _⟩)
theorem A0 (x y:Rat) (w:World) (hx:Sq x) (hy:Sq y) (ht:Tab w) :
  Calls Tryz.prog 41 #[.agg #[.string (aa x.num),.int .i64 0,.string (aa (x.den:Int)),.int .i64 0],.agg #[.string (aa y.num),.int .i64 0,.string (aa (y.den:Int)),.int .i64 0]] w fun e W'=>e = .returned (.tuple #[.int .i64 (oi x y),.int .i64 (oj x y)])∧Below w.heap.size w W':=by
 rw [←(xP x y).1,←(xP x y).2]
 have hr:=fun W (hW:Below w.heap.size w W)=>oz (some x.num) (some (x.den:Int)) (some y.num) (some (y.den:Int)) W (jl hx) (jk hx) (jl hy) (jk hy) (ht.next hW)
 have w1:=dO (· * ·) (some x.num) (some (y.den:Int))
 have w2:=dO (· * ·) (some y.num) (some (x.den:Int))
 generalize opL (· * ·) (some x.num) (some (y.den:Int))=o at *
 generalize opL (· * ·) (some y.num) (some (x.den:Int))=p at *
 cases o with
 | none =>
  have hf:=fun W (_:Below w.heap.size w W)=>qQ p W
  have c:=oM (aa x.num) (aa (x.den:Int)) (aa y.num) (aa (y.den:Int)) _ _ 0 0 0 0 _ _ 4 (by decide) (by decide) w hr hf
  rw [(mr p).2]
  exact c
 | some n =>
  have hf:=fun W (_:Below w.heap.size w W)=>jN n p W
  cases p with
  | none=>exact oM (aa x.num) (aa (x.den:Int)) (aa y.num) (aa (y.den:Int)) _ _ 0 0 0 0 _ _ 4 (by decide) (by decide) w hr hf
  | some d=>exact y4 (aa x.num) (aa (x.den:Int)) (aa y.num) (aa (y.den:Int)) _ _ 0 0 0 0 _ _ _ w hr hf (fun W _=>Ax n d W (w1 n rfl) (w2 d rfl))
theorem qw (a b:ByteArray) (r e0:Int) (w:World)
  (h:CqB w 39 #[.string a,.string b,.func (.func 40) #[] #[],.func (.func 41) #[] #[]] (.tuple #[.int .i64 r,.int .i64 e0])) :
  Calls Tryz.prog 12 #[.string a,.string b] w fun e W'=>e = .returned (.tuple #[.int .i64 r,.int .i64 e0])∧Below w.heap.size w W':=by
 have C:=Ha h;clear h
 go_enter Tryz.func12,Tryz.ntmps12
 go_wp2_with fail
 refine (C.out _ (Below.refl _ _)).mono ?_
 rintro e w1 ⟨rfl,b⟩
 have H1:=Ha b;clear b
 go_wp2
 go_ret2
 exact ⟨rfl,H1.out⟩
theorem jS (x y:Rat) (w:World) (hx:Sq x) (hy:Sq y) (ht:Tab w) (ht2:aH w) :
  Calls Tryz.prog 12 #[.string (af x),.string (af y)] w fun e W'=>e = .returned (.tuple #[.int .i64 (oi x y),.int .i64 (oj x y)])∧Below w.heap.size w W':=by
 refine qw _ _ _ _ w (fun W hW => ?_)
 exact wd x y _ _ (enters_of Tryz.func40 (by kernel_rfl) rfl) (enters_of Tryz.func41 (by kernel_rfl) rfl) _ _ _ _ W hx hy (ht.next hW) (ae ht2 hW)
  (fun b1 c1 b2 c2 W' _=>AZ x y W' b1 c1 b2 c2) (fun he=>Du x y he) (fun W' hW'=>A0 x y W' hx hy ((ht.next hW).next hW'))
theorem jT (x:Rat) (w:World) (hx:Sq x) (ht:Tab w) (ht2:aH w) :
  Calls Tryz.prog 38 #[.string (af x)] w fun e W'=>e = .returned (.int .i64 0)∧Below w.heap.size w W':=by
 have c:=oC (af x) w hx.size ht ht2
 rwa [hx.chk] at c
theorem nQ (x:Rat) (w:World) (hx:Sq x) (ht:Tab w) (ht2:aH w) :
  Calls Tryz.prog 13 #[.string (af x)] w fun e W'=>e = .returned (.tuple #[.string (aa x.num),.string (aa (x.den:Int)),.int .i64 0])∧Below w.heap.size w W':=by
 have c:=vT (af x) w hx.size ht ht2
 unfold paN paD at c
 rwa [if_pos hx.chk,if_pos hx.chk,sw,sA,hx.chk] at c
theorem t6 (a n d q r:ByteArray) (w:World)
  (hp:CqB w 13 #[.string a] (.tuple #[.string n,.string d,.int .i64 0]))
  (hd:CqB w 222 #[.string n,.string d] (.tuple #[.string q,.string r,.int .i64 0])) :
  Calls Tryz.prog 179 #[.string a] w fun e W'=>e = .returned (.tuple #[.string q,.int .i64 0])∧Below w.heap.size w W':=by
 have C:=Ha (Hb hp hd);clear hp hd
 go_enter Tryz.func179,Tryz.ntmps179
 go_wp2_with fail
 refine (C.out.1 _ (Below.refl _ _)).mono ?_
 rintro e w1 ⟨rfl,b⟩
 have H1:=Ha b;clear b
 go_wp2_with fail
 refine (C.out.2 _ H1.out).mono ?_
 rintro e w2 ⟨rfl,b⟩
 have H2:=Ha (H1.out.trans (b.mono H1.out.size));clear b
 go_wp2
 go_ret2
 exact ⟨rfl,H2.out⟩
theorem Floor_q (x:Rat) (w:World) (hx:Sq x) (ht:Tab w) (ht2:aH w) :
  Calls Tryz.prog 179 #[.string (af x)] w fun e W'=>e = .returned (.tuple #[.string (aa (x.num.fdiv x.den)),.int .i64 0])∧Below w.heap.size w W' :=
 t6 _ _ _ _ _ w (fun W hW=>nQ x W hx (ht.next hW) (ae ht2 hW)) (fun W hW=>jD x.num x.den W hx.n hx.d (lf x) (ht.next hW))
theorem A1 (x:Rat) (w:World) (hx:Sq x) (ht:Tab w) (ht2:aH w) :
  Calls Tryz.prog 11 #[.string (af x),.string ⟨#[48]⟩] w fun e W'=>e = .returned (.tuple #[.string ⟨#[]⟩,.int .i64 12])∧Below w.heap.size w W':=by
 have C:=Ha (jT x w hx ht ht2);clear hx ht ht2
 generalize af x=s at *
 have hz:((⟨#[48]⟩:ByteArray).toList == [48])=true:=by rw [ByteArray.toList_eq];rfl
 have hz':((⟨#[48]⟩:ByteArray).toList != [48])=false:=by rw [bne,hz];rfl
 generalize (⟨#[48]⟩:ByteArray)=z at *
 go_enter Tryz.func11,Tryz.ntmps11
 go_wp2_with fail
 refine C.out.mono ?_
 rintro e w1 ⟨rfl,b⟩
 have H1:=Ha b;clear b
 go_wp2
 go_ret2
 exact ⟨rfl,H1.out⟩
def I64 (z:Int):Prop := -9223372036854775808≤z∧z≤9223372036854775807
theorem I64.short {z:Int} (h:I64 z):short z :=
 Nat.lt_of_le_of_lt (show z.natAbs≤9223372036854775808 by unfold I64 at h;omega) (Nat.lt_of_lt_of_le (by decide:9223372036854775808<ak 19) (aG (by decide:19≤300)))
end

section
open Go.Lib
theorem t7 (c:UInt8) (r:List UInt8):ah (c::r)=(c.toNat - 48)*10 ^ r.length+ah r:=by
 have h:=eI [c] r
 rw [show [c]++r=c::r from rfl] at h
 rw [h]
 have h2:ah [c]=c.toNat - 48:=by simp [ah]
 rw [h2]
theorem Dw {c:UInt8} (h:aA c=true):48≤c.toNat∧c.toNat≤57:=(az c).1 h
end
section
open Go.RowKit
theorem sB (b:ByteArray):((b.toList == [48])=true)↔b=⟨#[48]⟩:=by
 rw [ByteArray.toList_eq,beq_iff_eq]
 constructor
 ·intro h;exact aU h
 ·intro h;rw [h]
end
namespace T
open Go.Proofs.YtbhbhlfkdlfimaaGreatDoor Go Go.RowKit Go.Lib
theorem A2 (l:List UInt8):bz l=bz (szL l)∧(bz l=true→aK l=aK (szL l)):=by
 cases hn:aw l
 ·rw [a7 hn];exact ⟨rfl,fun _=>rfl⟩
 ·obtain ⟨t,rfl,hs⟩:=iC hn
  rw [hs]
  have h1:bz (45::t)=bz t:=by unfold bz;simp
  refine ⟨h1,fun h => ?_⟩
  unfold aK
  rw [h,←h1,h,if_pos rfl,if_pos rfl,List.dropWhile_cons_of_pos (by decide)]
theorem xS {n k:Nat} (h:n<ak k) (hk:1≤k):nDigits n≤k:=(cL n k hk).2 h
theorem t8 {q:Rat} {k:Nat} (hq:Bq k q) (hk:1≤k):(bN (szB (af q))).size≤k∧(bA (szB (af q))).size≤k:=by
 have hd:(szB (af q)).data.toList=szL (cG q):=by unfold szB;rw [cC]
 constructor
 ·rw [←ag,dK,hd]
  have h:=(rI (cG q)).2
  unfold Go.Proofs.YtbhbhlfkdlfimaaGreatDoor.sN at h
  show (be (szL (cG q))).length≤k
  unfold be
  rw [←h,(dI q).1,iX,decDigits_length]
  exact xS hq.1 hk
 ·unfold bA
  split
  ·next h =>
   rw [←ag,cI,hd]
   rw [hd] at h
   have e:=A2 (cG q)
   rw [←e.2 (e.1.trans h),(dI q).2.1,itoa_nonneg,decDigits_length]
   exact xS hq.2 hk
  ·exact Nat.zero_le _
theorem mY (q:Rat) (k:Nat) (w:World) (hq:Bq k q) (hk:1≤k) (h9:k≤300) :
  Calls Tryz.prog 217 #[.string (af q),.int .i64 k] w fun e W'=>e = .returned (.bool true)∧Below w.heap.size w W':=by
 obtain ⟨z1,z2⟩:=t8 hq hk
 have hs:(szB (af q)).size≤maxLen:=by
  have hsq:Sq q:=hq.lim (by omega)
  have h1:=hsq.size
  refine Nat.le_trans ?_ h1
  rw [←ag,←ag]
  show (szL (af q).data.toList).toArray.toList.length≤_
  simp only [List.toList_toArray]
  unfold szL;split <;> simp
 have c1:=fun W=>(Tryz.strings_TrimPrefix (af q) ⟨#[45]⟩ W).mono (R':=fun e W'=>e = .returned (.string (szB (af q)))∧W=W') (fun e W' h=>⟨by rw [h.1,show (⟨#[45]⟩:ByteArray).data.toList = [45] from rfl,oy];rfl,h.2.symm⟩)
 have c2:=fun W=>kq (szB (af q)) W hs
 clear hs hq h9
 generalize bz (szB (af q)).data.toList=f at *
 generalize bN (szB (af q))=n at *
 generalize bA (szB (af q))=d at *
 generalize szB (af q)=u at *
 generalize af q=s at *
 have y1:¬ (k:Int)<n.size:=by omega
 have y2:¬ (k:Int)<d.size:=by omega
 have O:=Ha (Hb c1 c2);clear c1 c2 hk
 go_enter Tryz.func217,Tryz.ntmps217
 go_wp2_with fail
 refine (O.out.1 _).mono ?_
 rintro e v1 ⟨rfl,rfl⟩
 go_wp2_with fail
 refine (O.out.2 _).mono ?_
 rintro e v2 ⟨rfl,b⟩
 have B2:=Ha b;clear b
 go_wp2
 go_ret
 exact ⟨rfl,B2.out⟩
theorem oS (c r:ByteArray) (w:World)
  (h1:∀ W,Below w.heap.size w W→Calls Tryz.prog 217 #[.string c,.int .i64 60] W fun e W'=>e = .returned (.bool true)∧Below W.heap.size W W')
  (h2:∀ W,Below w.heap.size w W→Calls Tryz.prog 217 #[.string r,.int .i64 40] W fun e W'=>e = .returned (.bool true)∧Below W.heap.size W W') :
  Calls Tryz.prog 174 #[.agg #[.string c,.string r]] w fun e W'=>e = .returned (.bool false)∧Below w.heap.size w W':=by
 have O:=Ha (Hb h1 h2);clear h1 h2
 go_enter Tryz.func174,Tryz.ntmps174
 go_wp2_with fail
 have HB:=Ha (Hb (Blk.new w #[.string c,.string r] 43) ((Below.refl _ w).alloc (Nat.le_refl _) (.cells #[.string c,.string r] 43)))
 generalize w.alloc (.cells #[.string c,.string r] 43)=W0 at *
 generalize hk:w.heap.size=k at *
 have HK:=Ha hk;clear hk
 have e0:=HB.out.1.cell 0 (.string c) rfl;have e1:=HB.out.1.cell 1 (.string r) rfl
 refine (O.out.1 _ HB.out.2).mono ?_
 rintro e v1 ⟨rfl,b⟩
 replace HB:=Ha (Hb (HB.out.1.next b) (HB.out.2.trans (b.mono (by have h1:=HB.out.2.size;have h2:=HK.out;omega))));clear b;have e0:=HB.out.1.cell 0 (.string c) rfl;have e1:=HB.out.1.cell 1 (.string r) rfl
 go_wp2_with fail
 refine (O.out.2 _ HB.out.2).mono ?_
 rintro e v2 ⟨rfl,b⟩
 replace HB:=Ha (Hb (HB.out.1.next b) (HB.out.2.trans (b.mono (by have h1:=HB.out.2.size;have h2:=HK.out;omega))));clear b;have e0:=HB.out.1.cell 0 (.string c) rfl;have e1:=HB.out.1.cell 1 (.string r) rfl
 go_wp2
 go_ret
 have hb:=HB.out.2
 rw [←HK.out] at hb
 exact ⟨rfl,hb⟩
theorem li (c q:Rat) (w:World) (hc:Bq 60 c) (hq:Bq 40 q) :
  Calls Tryz.prog 174 #[.agg #[.string (af c),.string (af q)]] w fun e W'=>e = .returned (.bool false)∧Below w.heap.size w W' :=
 oS _ _ w (fun W _=>mY c 60 W hc (by decide) (by decide)) (fun W _=>mY q 40 W hq (by decide) (by decide))
end T
end Go.Proofs.YtbhbhlfkdlfimaaGreatDoor
