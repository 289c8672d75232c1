/- Parts of the proof of the text YtocalfjfjjljnaaGreatDoorZO44. -/
import Derived.Test.YtocalfjfjjljnaaGreatDoorZO1
import Derived.Test.YtocalfjfjjljnaaGreatDoorZO16
import Derived.Test.YtocalfjfjjljnaaGreatDoorZO19
import Derived.Test.YtocalfjfjjljnaaGreatDoorZO20
import Derived.Test.YtocalfjfjjljnaaGreatDoorZO21
import Derived.Test.YtocalfjfjjljnaaGreatDoorZO7
import Derived.Test.YtocalfjfjjljnaaGreatDoorZO8
import Derived.Test.YtocalfjfjjljnaaGreatDoorZO9
set_option linter.all false
set_option maxRecDepth 100000
set_option maxHeartbeats 8000000
namespace Go.Proofs.YtocalfjfjjljnaaGreatDoor
section
open Go.RowKit
def px:Option Int→Option Int→ByteArray
 | some n,some d=>ag (Rat.divInt n d)
 | _,_=>⟨#[]⟩
def py:Option Int→Option Int→Int
 | some _,some _=>0
 | _,_=>4
theorem p9 (a b c d:Int) (w:World) (ha:B18 a) (hb:B18 b) (hc:B18 c) (hd:B18 d) :
  Calls Tryz.prog 70 #[.agg #[.int .i64 a,.int .i64 b],.agg #[.int .i64 c,.int .i64 d]] w fun e W'=>e = .returned (.agg #[.int .i64 (az a c),.int .i64 (az b d)])∧Below w.heap.size w W':=by
 have q0:=fun W=>still (dV a c W ha.lo ha.hi hc.lo hc.hi)
 have q1:=fun W=>still (dV b d W hb.lo hb.hi hd.lo hd.hi)
 have C:=Ha (Hb q0 (Hb q1 trivial))
 clear q0 q1 ha hb hc hd
 go_enter Tryz.func70,Tryz.ntmps70
 go_wp2
 have hbx:=bK w (.int .i64 a) (.int .i64 b) (.int .i64 c) (.int .i64 d) (.int .i64 0) (.int .i64 0) 94
 generalize ((w.alloc (.cells #[.int .i64 a,.int .i64 b] 94)).alloc (.cells #[.int .i64 c,.int .i64 d] 94)).alloc (.cells #[.int .i64 0,.int .i64 0] 94)=W0 at *
 generalize hk:w.heap.size=k at *
 have HK:=Ha hk;clear hk
 have HBD:=Ha hbx.drew
 clear hbx
 obtain ⟨c1,c2,c3,c4,c5,c6,f5,f6,_,_⟩:=HBD.out
 have m1:=l6
 have en1:∀ args W,(callFunc 244 args).run Tryz.prog W = .ok (.enter 244 args) W:=enters_of Tryz.func244 (by kernel_rfl) rfl
 go_still_tail 12,(by kernel_rfl)
 still_call (C.out.1 _)
 repeat still_step
 still_call (C.out.2.1 _)
 repeat still_step
 refine wpStill_nil ?_
 change wpList _ _ _ _ _ W0.drew
 clear c1 c2 c3 c4
 generalize W0.drew=W2 at *
 obtain ⟨g5,g6⟩:=ap c5 c6 (.int .i64 (az a c)) (.int .i64 (az b d))
 go_wp2
 refine bodyPost_ret (v := .agg #[.int .i64 (az a c),.int .i64 (az b d)]) (by simp [results,Tryz.results70,go_sem,g5,g6]) rfl ?_
 refine ⟨rfl,?_⟩
 rw [HK.out]
 exact ((HBD.out.below).setCell (p:=⟨k+1+1,0,none⟩) (by show k≤k+1+1;omega) _).setCell (p:=⟨k+1+1,1,none⟩) (by show k≤k+1+1;omega) _
theorem tD (a b c d:Int) (w:World) (ha:B18 a) (hb:B18 b) (hc:B18 c) (hd:B18 d) :
  Calls Tryz.prog 46 #[.agg #[.int .i64 a,.int .i64 b],.agg #[.int .i64 c,.int .i64 d]] w fun e W'=>e = .returned (.agg #[.int .i64 (az a d),.int .i64 (az c b)])∧Below w.heap.size w W':=by
 have q0:=fun W=>still (dV a d W ha.lo ha.hi hd.lo hd.hi)
 have q1:=fun W=>still (dV c b W hc.lo hc.hi hb.lo hb.hi)
 have C:=Ha (Hb q0 (Hb q1 trivial))
 clear q0 q1 ha hb hc hd
 go_enter Tryz.func46,Tryz.ntmps46
 go_wp2
 have hbx:=bK w (.int .i64 a) (.int .i64 b) (.int .i64 c) (.int .i64 d) (.int .i64 0) (.int .i64 0) 94
 generalize ((w.alloc (.cells #[.int .i64 a,.int .i64 b] 94)).alloc (.cells #[.int .i64 c,.int .i64 d] 94)).alloc (.cells #[.int .i64 0,.int .i64 0] 94)=W0 at *
 generalize hk:w.heap.size=k at *
 have HK:=Ha hk;clear hk
 have HBD:=Ha hbx.drew
 clear hbx
 obtain ⟨c1,c2,c3,c4,c5,c6,f5,f6,_,_⟩:=HBD.out
 have m1:=l6
 have en1:∀ args W,(callFunc 244 args).run Tryz.prog W = .ok (.enter 244 args) W:=enters_of Tryz.func244 (by kernel_rfl) rfl
 go_still_tail 12,(by kernel_rfl)
 still_call (C.out.1 _)
 repeat still_step
 still_call (C.out.2.1 _)
 repeat still_step
 refine wpStill_nil ?_
 change wpList _ _ _ _ _ W0.drew
 clear c1 c2 c3 c4
 generalize W0.drew=W2 at *
 obtain ⟨g5,g6⟩:=ap c5 c6 (.int .i64 (az a d)) (.int .i64 (az c b))
 go_wp2
 refine bodyPost_ret (v := .agg #[.int .i64 (az a d),.int .i64 (az c b)]) (by simp [results,Tryz.results46,go_sem,g5,g6]) rfl ?_
 refine ⟨rfl,?_⟩
 rw [HK.out]
 exact ((HBD.out.below).setCell (p:=⟨k+1+1,0,none⟩) (by show k≤k+1+1;omega) _).setCell (p:=⟨k+1+1,1,none⟩) (by show k≤k+1+1;omega) _
theorem dc {z:Int} (h:z.natAbs<9223372036854775808):short z :=
 Nat.lt_of_lt_of_le (Nat.lt_of_lt_of_le h (by decide:9223372036854775808≤aA 19)) (ay (by decide:19≤300))
theorem gm {a b:Int} (h:az a b≠aY):az a b=a*b∧(a*b).natAbs<4611686018427387904:=by
 unfold az at h ⊢
 by_cases c:(a*b).natAbs<4611686018427387904
 ·rw [if_pos c];exact ⟨rfl,c⟩
 ·rw [if_neg c] at h;exact absurd rfl h
theorem MOK.lo {x:Int} (h:MOK x) : -9223372036854775808≤x:=by
 rcases h with h | h
 ·rw [h];unfold aY;omega
 ·omega
theorem MOK.hi {x:Int} (h:MOK x):x≤9223372036854775807:=by
 rcases h with h | h
 ·rw [h];unfold aY;omega
 ·omega
theorem rJ {x y:Int} (hx:MOK x) (hy:MOK y) : -9223372036854775808≤gE x y∧gE x y≤9223372036854775807:=by
 unfold gE
 split
 ·unfold aY;omega
 ·rename_i h
  rw [not_or] at h
  have h1:=hx.resolve_left h.1
  have h2:=hy.resolve_left h.2
  omega
theorem Ad {x y:Int} (h:gE x y≠aY):x≠aY∧y≠aY∧gE x y=x+y:=by
 unfold gE at h ⊢
 by_cases c:x=aY∨y=aY
 ·rw [if_pos c] at h;exact absurd rfl h
 ·rw [if_neg c];rw [not_or] at c;exact ⟨c.1,c.2,rfl⟩
theorem nU {n d:Int} (h:je n d=0):n≠aY∧d≠aY:=by
 unfold je at h
 by_cases c:n=aY∨d=aY
 ·rw [if_pos c] at h;cases h
 ·rwa [not_or] at c
theorem qa {n d:Int} (h1:n≠aY) (h2:d≠aY):o3 n d=ag (Rat.divInt n d):=if_neg (by rintro (h | h);exact h1 h;exact h2 h)
theorem nV {a b:Int} (ha:a≠0) (hb:b≠0):az a b≠0:=by
 unfold az
 split
 ·intro h
  rcases Int.mul_eq_zero.1 h with h | h
  ·exact ha h
  ·exact hb h
 ·unfold aY;omega
theorem jh (x:Rat):(x.den:Int)≠0:=by have:=x.den_nz;omega
theorem nW {n d:Int} (h1:short n) (h2:short d):kL n d=ag (Rat.divInt n d)∧kM n d=0:=⟨if_pos ⟨h1,h2⟩,if_pos ⟨h1,h2⟩⟩
theorem Ae (x y:Rat) (h:je (gE (az x.num y.den) (az y.num x.den)) (az x.den y.den)=0):o3 (gE (az x.num y.den) (az y.num x.den)) (az x.den y.den)=fK x y∧fL x y=0:=by
 obtain ⟨h1,h2⟩:=nU h
 obtain ⟨h3,h4,e1⟩:=Ad h1
 rw [qa h1 h2,e1]
 obtain ⟨e3,b3⟩:=gm h3
 obtain ⟨e4,b4⟩:=gm h4
 obtain ⟨e2,b2⟩:=gm h2
 rw [e2,e3,e4]
 have hc:cI x y:=⟨dc (by omega),dc (by omega)⟩
 obtain ⟨l1,l2⟩:=nW (n:=x.num*y.den+y.num*x.den) (d:=x.den*y.den) (dc (by omega)) (dc (by omega))
 unfold fK fL
 rw [if_pos hc,if_pos hc,l1,l2]
 exact ⟨rfl,rfl⟩
theorem Af (x y:Rat) (h:je (az x.num y.num) (az x.den y.den)=0):o3 (az x.num y.num) (az x.den y.den)=kf x y∧kg x y=0:=by
 obtain ⟨h1,h2⟩:=nU h
 rw [qa h1 h2]
 obtain ⟨e1,b1⟩:=gm h1
 obtain ⟨e2,b2⟩:=gm h2
 rw [e1,e2]
 obtain ⟨l1,l2⟩:=nW (n:=x.num*y.num) (d:=x.den*y.den) (dc (by omega)) (dc (by omega))
 unfold kf kg
 rw [l1,l2]
 exact ⟨rfl,rfl⟩
theorem Ag (x y:Rat) (h:je (az x.num y.den) (az y.num x.den)=0):o3 (az x.num y.den) (az y.num x.den)=kh x y∧kj x y=0:=by
 obtain ⟨h1,h2⟩:=nU h
 rw [qa h1 h2]
 obtain ⟨e1,b1⟩:=gm h1
 obtain ⟨e2,b2⟩:=gm h2
 rw [e1,e2]
 obtain ⟨l1,l2⟩:=nW (n:=x.num*y.den) (d:=y.num*x.den) (dc (by omega)) (dc (by omega))
 unfold kh kj
 rw [l1,l2]
 exact ⟨rfl,rfl⟩
theorem eE (f:Int→Int→Int) (a b:Int):opL f (some a) (some b)=mkL (f a b):=rfl
theorem pz (o:Option Int):px none o=⟨#[]⟩∧py none o=4:=by cases o <;> exact ⟨rfl,rfl⟩
theorem qb (n d:Int):px (mkL n) (mkL d)=kL n d∧py (mkL n) (mkL d)=kM n d:=by
 unfold kL kM mkL
 by_cases h1:short n
 ·by_cases h2:short d
  ·rw [if_pos h1,if_pos h2,if_pos (show short n∧short d from ⟨h1,h2⟩),if_pos (show short n∧short d from ⟨h1,h2⟩)];exact ⟨rfl,rfl⟩
  ·rw [if_pos h1,if_neg h2,if_neg (show ¬ (short n∧short d) from fun h=>h2 h.2),if_neg (show ¬ (short n∧short d) from fun h=>h2 h.2)];exact ⟨rfl,rfl⟩
 ·rw [if_neg h1,if_neg (show ¬ (short n∧short d) from fun h=>h1 h.1),if_neg (show ¬ (short n∧short d) from fun h=>h1 h.1)];exact pz _
theorem Ci (f:Int→Int→Int) (a b:Int):opL f (mkL a) (mkL b)=if short a∧short b then mkL (f a b) else none:=by
 by_cases h1:short a
 ·by_cases h2:short b
  ·rw [if_pos ⟨h1,h2⟩,et h1,et h2];rfl
  ·rw [if_neg (fun h=>h2 h.2),show mkL b=none from if_neg h2,hO]
 ·rw [if_neg (fun h=>h1 h.1),show mkL a=none from if_neg h1];rfl
theorem uP (x y:Rat):px (opL (· + ·) (opL (· * ·) (some x.num) (some y.den)) (opL (· * ·) (some y.num) (some x.den))) (opL (· * ·) (some x.den) (some y.den))=fK x y∧py (opL (· + ·) (opL (· * ·) (some x.num) (some y.den)) (opL (· * ·) (some y.num) (some x.den))) (opL (· * ·) (some x.den) (some y.den))=fL x y:=by
 rw [eE,eE,eE,Ci]
 unfold fK fL
 by_cases hc:cI x y
 ·rw [if_pos hc,if_pos hc,if_pos (show short (x.num*y.den)∧short (y.num*x.den) from hc)]
  exact qb _ _
 ·rw [if_neg hc,if_neg hc,if_neg (show ¬ (short (x.num*y.den)∧short (y.num*x.den)) from hc)]
  exact pz _
theorem uQ (x y:Rat):px (opL (· * ·) (some x.num) (some y.num)) (opL (· * ·) (some x.den) (some y.den))=kf x y∧py (opL (· * ·) (some x.num) (some y.num)) (opL (· * ·) (some x.den) (some y.den))=kg x y:=by
 rw [eE,eE]
 exact qb _ _
theorem uR (x y:Rat):px (opL (· * ·) (some x.num) (some y.den)) (opL (· * ·) (some y.num) (some x.den))=kh x y∧py (opL (· * ·) (some x.num) (some y.den)) (opL (· * ·) (some y.num) (some x.den))=kj x y:=by
 rw [eE,eE]
 exact qb _ _
theorem xT (a b c d:Option Int) (w:World) (ha:Lwf a) (hb:Lwf b) (hc:Lwf c) (hd:Lwf d) (ht:Tab w) :
  Calls Tryz.prog 90 #[.agg #[.string (LB a),.int .i64 (LE a),.string (LB b),.int .i64 (LE b)],.agg #[.string (LB c),.int .i64 (LE c),.string (LB d),.int .i64 (LE d)]] w fun e W'=>e = .returned (.agg #[.string (LB (opL (· + ·) (opL (· * ·) a d) (opL (· * ·) c b))),.int .i64 (LE (opL (· + ·) (opL (· * ·) a d) (opL (· * ·) c b))),.string (LB (opL (· * ·) b d)),.int .i64 (LE (opL (· * ·) b d))])∧Below w.heap.size w W':=by
 have ct:=fun o p W (ho:Lwf o) (hp:Lwf p) (hW:Below w.heap.size w W)=>ky o p W ho hp (ht.next hW)
 have cp:=fun o p W (ho:Lwf o) (hp:Lwf p) (hW:Below w.heap.size w W)=>l5 o p W ho hp (ht.next hW)
 have cm:=fun o p W (ho:Lwf o) (hp:Lwf p) (hW:Below w.heap.size w W)=>iJ o p W ho hp (ht.next hW)
 have C:=Ha (Hb ct (Hb cp cm))
 clear ct cp cm ht
 go_enter Tryz.func90,Tryz.ntmps90
 go_wp2
 have hbx:Bxs w w.heap.size [[.string (LB a),.int .i64 (LE a),.string (LB b),.int .i64 (LE b)],[.string (LB c),.int .i64 (LE c),.string (LB d),.int .i64 (LE d)],[.string ⟨#[]⟩,.int .i64 0,.string ⟨#[]⟩,.int .i64 0]] (((w.alloc (.cells #[.string (LB a),.int .i64 (LE a),.string (LB b),.int .i64 (LE b)] 98)).alloc (.cells #[.string (LB c),.int .i64 (LE c),.string (LB d),.int .i64 (LE d)] 98)).alloc (.cells #[.string ⟨#[]⟩,.int .i64 0,.string ⟨#[]⟩,.int .i64 0] 98)):=(((Bxs.nil w w (Below.refl _ _)).push rfl [.string (LB a),.int .i64 (LE a),.string (LB b),.int .i64 (LE b)] 98).push (by simp) [.string (LB c),.int .i64 (LE c),.string (LB d),.int .i64 (LE d)] 98).push (by simp) [.string ⟨#[]⟩,.int .i64 0,.string ⟨#[]⟩,.int .i64 0] 98
 generalize ((w.alloc (.cells #[.string (LB a),.int .i64 (LE a),.string (LB b),.int .i64 (LE b)] 98)).alloc (.cells #[.string (LB c),.int .i64 (LE c),.string (LB d),.int .i64 (LE d)] 98)).alloc (.cells #[.string ⟨#[]⟩,.int .i64 0,.string ⟨#[]⟩,.int .i64 0] 98)=W0 at *
 generalize hk:w.heap.size=k at *
 have HK:=Ha hk;clear hk
 have HB:=Ha (hbx.next (Below.refl _ _).drew)
 clear hbx
 have e0:=(show _=some (.string (LB a)) from HB.out.cells 0 _ rfl 0 _ rfl);have e1:=(show _=some (.int .i64 (LE a)) from HB.out.cells 0 _ rfl 1 _ rfl);have e2:=(show _=some (.string (LB b)) from HB.out.cells 0 _ rfl 2 _ rfl);have e3:=(show _=some (.int .i64 (LE b)) from HB.out.cells 0 _ rfl 3 _ rfl);have e4:=(show _=some (.string (LB c)) from HB.out.cells 1 _ rfl 0 _ rfl);have e5:=(show _=some (.int .i64 (LE c)) from HB.out.cells 1 _ rfl 1 _ rfl);have e6:=(show _=some (.string (LB d)) from HB.out.cells 1 _ rfl 2 _ rfl);have e7:=(show _=some (.int .i64 (LE d)) from HB.out.cells 1 _ rfl 3 _ rfl);have z0:=(show World.cell? _ ⟨k+1+1,0,none⟩=some (.string ⟨#[]⟩) from HB.out.cells 2 _ rfl 0 _ rfl);have f0:=(show World.frozen? _ ⟨k+1+1,0,none⟩=false from HB.out.frozen 2 (by simp) 0);have z1:=(show World.cell? _ ⟨k+1+1,1,none⟩=some (.int .i64 0) from HB.out.cells 2 _ rfl 1 _ rfl);have f1:=(show World.frozen? _ ⟨k+1+1,1,none⟩=false from HB.out.frozen 2 (by simp) 1);have z2:=(show World.cell? _ ⟨k+1+1,2,none⟩=some (.string ⟨#[]⟩) from HB.out.cells 2 _ rfl 2 _ rfl);have f2:=(show World.frozen? _ ⟨k+1+1,2,none⟩=false from HB.out.frozen 2 (by simp) 2);have z3:=(show World.cell? _ ⟨k+1+1,3,none⟩=some (.int .i64 0) from HB.out.cells 2 _ rfl 3 _ rfl);have f3:=(show World.frozen? _ ⟨k+1+1,3,none⟩=false from HB.out.frozen 2 (by simp) 3)
 go_region_held3 (fun w'=>w'.cell? ⟨k,0,none⟩=some (.string (LB a))∧w'.cell? ⟨k,1,none⟩=some (.int .i64 (LE a))∧w'.cell? ⟨k,2,none⟩=some (.string (LB b))∧w'.cell? ⟨k,3,none⟩=some (.int .i64 (LE b))∧w'.cell? ⟨k+1,0,none⟩=some (.string (LB c))∧w'.cell? ⟨k+1,1,none⟩=some (.int .i64 (LE c))∧w'.cell? ⟨k+1,2,none⟩=some (.string (LB d))∧w'.cell? ⟨k+1,3,none⟩=some (.int .i64 (LE d))) (first | exact ⟨e0,e1,e2,e3,e4,e5,e6,e7⟩ | (go_keep;done) | ((try dsimp only);refine ⟨?_,?_,?_,?_,?_,?_,?_,?_⟩ <;> (exact Ch (by omega) (by assumption))))
  (first | (go_at_call 253;refine (C.out.1 _ _ _ (by first | assumption | exact eh _ _ _) (by first | assumption | exact eh _ _ _) (by have:=HB.out.below;rwa [HK.out] at this)).mono ?_;rintro e w1 ⟨rfl,hbw⟩;replace HB:=Ha (HB.out.next hbw);clear hbw;have e0:=(show _=some (.string (LB a)) from HB.out.cells 0 _ rfl 0 _ rfl);have e1:=(show _=some (.int .i64 (LE a)) from HB.out.cells 0 _ rfl 1 _ rfl);have e2:=(show _=some (.string (LB b)) from HB.out.cells 0 _ rfl 2 _ rfl);have e3:=(show _=some (.int .i64 (LE b)) from HB.out.cells 0 _ rfl 3 _ rfl);have e4:=(show _=some (.string (LB c)) from HB.out.cells 1 _ rfl 0 _ rfl);have e5:=(show _=some (.int .i64 (LE c)) from HB.out.cells 1 _ rfl 1 _ rfl);have e6:=(show _=some (.string (LB d)) from HB.out.cells 1 _ rfl 2 _ rfl);have e7:=(show _=some (.int .i64 (LE d)) from HB.out.cells 1 _ rfl 3 _ rfl);have z0:=(show World.cell? _ ⟨k+1+1,0,none⟩=some (.string ⟨#[]⟩) from HB.out.cells 2 _ rfl 0 _ rfl);have f0:=(show World.frozen? _ ⟨k+1+1,0,none⟩=false from HB.out.frozen 2 (by simp) 0);have z1:=(show World.cell? _ ⟨k+1+1,1,none⟩=some (.int .i64 0) from HB.out.cells 2 _ rfl 1 _ rfl);have f1:=(show World.frozen? _ ⟨k+1+1,1,none⟩=false from HB.out.frozen 2 (by simp) 1);have z2:=(show World.cell? _ ⟨k+1+1,2,none⟩=some (.string ⟨#[]⟩) from HB.out.cells 2 _ rfl 2 _ rfl);have f2:=(show World.frozen? _ ⟨k+1+1,2,none⟩=false from HB.out.frozen 2 (by simp) 2);have z3:=(show World.cell? _ ⟨k+1+1,3,none⟩=some (.int .i64 0) from HB.out.cells 2 _ rfl 3 _ rfl);have f3:=(show World.frozen? _ ⟨k+1+1,3,none⟩=false from HB.out.frozen 2 (by simp) 3)) | (go_at_call 252;refine (C.out.2.1 _ _ _ (by first | assumption | exact eh _ _ _) (by first | assumption | exact eh _ _ _) (by have:=HB.out.below;rwa [HK.out] at this)).mono ?_;rintro e w1 ⟨rfl,hbw⟩;replace HB:=Ha (HB.out.next hbw);clear hbw;have e0:=(show _=some (.string (LB a)) from HB.out.cells 0 _ rfl 0 _ rfl);have e1:=(show _=some (.int .i64 (LE a)) from HB.out.cells 0 _ rfl 1 _ rfl);have e2:=(show _=some (.string (LB b)) from HB.out.cells 0 _ rfl 2 _ rfl);have e3:=(show _=some (.int .i64 (LE b)) from HB.out.cells 0 _ rfl 3 _ rfl);have e4:=(show _=some (.string (LB c)) from HB.out.cells 1 _ rfl 0 _ rfl);have e5:=(show _=some (.int .i64 (LE c)) from HB.out.cells 1 _ rfl 1 _ rfl);have e6:=(show _=some (.string (LB d)) from HB.out.cells 1 _ rfl 2 _ rfl);have e7:=(show _=some (.int .i64 (LE d)) from HB.out.cells 1 _ rfl 3 _ rfl);have z0:=(show World.cell? _ ⟨k+1+1,0,none⟩=some (.string ⟨#[]⟩) from HB.out.cells 2 _ rfl 0 _ rfl);have f0:=(show World.frozen? _ ⟨k+1+1,0,none⟩=false from HB.out.frozen 2 (by simp) 0);have z1:=(show World.cell? _ ⟨k+1+1,1,none⟩=some (.int .i64 0) from HB.out.cells 2 _ rfl 1 _ rfl);have f1:=(show World.frozen? _ ⟨k+1+1,1,none⟩=false from HB.out.frozen 2 (by simp) 1);have z2:=(show World.cell? _ ⟨k+1+1,2,none⟩=some (.string ⟨#[]⟩) from HB.out.cells 2 _ rfl 2 _ rfl);have f2:=(show World.frozen? _ ⟨k+1+1,2,none⟩=false from HB.out.frozen 2 (by simp) 2);have z3:=(show World.cell? _ ⟨k+1+1,3,none⟩=some (.int .i64 0) from HB.out.cells 2 _ rfl 3 _ rfl);have f3:=(show World.frozen? _ ⟨k+1+1,3,none⟩=false from HB.out.frozen 2 (by simp) 3)))
 have e0:=(show _=some (.string (LB a)) from HB.out.cells 0 _ rfl 0 _ rfl);have e1:=(show _=some (.int .i64 (LE a)) from HB.out.cells 0 _ rfl 1 _ rfl);have e2:=(show _=some (.string (LB b)) from HB.out.cells 0 _ rfl 2 _ rfl);have e3:=(show _=some (.int .i64 (LE b)) from HB.out.cells 0 _ rfl 3 _ rfl);have e4:=(show _=some (.string (LB c)) from HB.out.cells 1 _ rfl 0 _ rfl);have e5:=(show _=some (.int .i64 (LE c)) from HB.out.cells 1 _ rfl 1 _ rfl);have e6:=(show _=some (.string (LB d)) from HB.out.cells 1 _ rfl 2 _ rfl);have e7:=(show _=some (.int .i64 (LE d)) from HB.out.cells 1 _ rfl 3 _ rfl);have z0:=(show World.cell? _ ⟨k+1+1,0,none⟩=some (.string ⟨#[]⟩) from HB.out.cells 2 _ rfl 0 _ rfl);have f0:=(show World.frozen? _ ⟨k+1+1,0,none⟩=false from HB.out.frozen 2 (by simp) 0);have z1:=(show World.cell? _ ⟨k+1+1,1,none⟩=some (.int .i64 0) from HB.out.cells 2 _ rfl 1 _ rfl);have f1:=(show World.frozen? _ ⟨k+1+1,1,none⟩=false from HB.out.frozen 2 (by simp) 1);have z2:=(show World.cell? _ ⟨k+1+1,2,none⟩=some (.string ⟨#[]⟩) from HB.out.cells 2 _ rfl 2 _ rfl);have f2:=(show World.frozen? _ ⟨k+1+1,2,none⟩=false from HB.out.frozen 2 (by simp) 2);have z3:=(show World.cell? _ ⟨k+1+1,3,none⟩=some (.int .i64 0) from HB.out.cells 2 _ rfl 3 _ rfl);have f3:=(show World.frozen? _ ⟨k+1+1,3,none⟩=false from HB.out.frozen 2 (by simp) 3)
 obtain ⟨g0,g1,g2,g3⟩:=kz z0 z1 z2 z3 (.string (LB (opL (· + ·) (opL (· * ·) a d) (opL (· * ·) c b)))) (.int .i64 (LE (opL (· + ·) (opL (· * ·) a d) (opL (· * ·) c b)))) (.string (LB (opL (· * ·) b d))) (.int .i64 (LE (opL (· * ·) b d)))
 go_wp2
 refine bodyPost_ret (v := .agg #[.string (LB (opL (· + ·) (opL (· * ·) a d) (opL (· * ·) c b))),.int .i64 (LE (opL (· + ·) (opL (· * ·) a d) (opL (· * ·) c b))),.string (LB (opL (· * ·) b d)),.int .i64 (LE (opL (· * ·) b d))]) (by simp [results,Tryz.results90,go_sem,g0,g1,g2,g3]) rfl ?_
 refine ⟨rfl,?_⟩
 have hbl:=HB.out.below
 rw [HK.out] at hbl ⊢
 exact (((hbl.setCell (p:=⟨k+1+1,0,none⟩) (by show k≤k+1+1;omega) _).setCell (p:=⟨k+1+1,1,none⟩) (by show k≤k+1+1;omega) _).setCell (p:=⟨k+1+1,2,none⟩) (by show k≤k+1+1;omega) _).setCell (p:=⟨k+1+1,3,none⟩) (by show k≤k+1+1;omega) _
end
section
open Go.Lib
theorem cR (z:Int):ag (z:Rat)=aa z:=by
 unfold ag aa cW
 rw [Rat.den_intCast,if_pos rfl,Rat.num_intCast]
theorem vW:ag 0=⟨#[48]⟩:=by
 have h:=cR 0
 rw [Rat.intCast_zero] at h
 rw [h];exact qR 0 [48] fU
theorem xU:ag 1=⟨#[49]⟩:=by
 have h:=cR 1
 rw [Rat.intCast_one] at h
 rw [h];exact qR 1 [49] ec
theorem vX (l m:List UInt8) (h:l ≠ []):af (l++m)=af l:=by
 cases l with
 | nil=>exact absurd rfl h
 | cons a t=>rfl
theorem qc (z:Int):itoa z ≠ []:=fun h=>by
 have h1:=fy z
 rw [h,show chk []=11 by decide] at h1
 split at h1 <;> omega
theorem rK (q:Rat):af (ag q).data.toList=decide (q<0):=by
 have h:decide (q<0)=decide (q.num<0):=by
  apply decide_eq_decide.2
  rw [←Rat.not_le,←Rat.num_nonneg];omega
 rw [be,h]
 unfold cW
 split
 ·rw [aN]
 ·rw [vX _ _ (qc _),aN]
theorem xV (q:Rat):0<(ag q).size:=by
 rw [←ac,be]
 have h:=List.length_pos_iff.2 (qc q.num)
 unfold cW
 split
 ·exact h
 ·rw [List.length_append];omega
theorem rL (x y:Rat):((ag x).toList==(ag y).toList)=decide (x=y):=by
 by_cases h:x=y
 ·subst h;simp
 ·rw [decide_eq_false h,beq_eq_false_iff_ne,ByteArray.toList_eq,ByteArray.toList_eq,be,be]
  exact fun e=>h (vK e)
theorem eH (x:Rat):((ag x).toList == [48])=decide (x=0):=by
 have h:=rL x 0
 rw [vW,ByteArray.toList_eq ⟨#[48]⟩] at h
 exact h
theorem mg {k:Nat} {z:Int} (hk:1≤k) (h:Bd k z):Bq k (z:Rat):=by
 refine ⟨by rw [Rat.num_intCast];exact h,?_⟩
 rw [Rat.den_intCast]
 exact Nat.lt_of_lt_of_le (by decide) (ay hk)
theorem Cj:Bq 1 1:=by have:=mg (k:=1) (z:=1) (by omega) (by show Int.natAbs 1<aA 1;decide);rwa [Rat.intCast_one] at this
theorem lj (z:Int):0<(aa z).size:=by
 rw [←ac,aB]
 exact List.length_pos_iff.2 (qc z)
theorem neg_den (x:Rat):af (aa (x.den:Int)).data.toList=false:=by
 rw [aB,aN];simp
end
section
open Go.RowKit
end
end Go.Proofs.YtocalfjfjjljnaaGreatDoor
