/- Parts of the proof of the text YtjdomibbaemdnaaGreatDoorZK42. -/
import Derived.Shelf.Strconv.AppendUint10
import Derived.Deep.AppendLies
import Derived.Test.YtjdomibbaemdnaaGreatDoorZK1
import Derived.Test.YtjdomibbaemdnaaGreatDoorZK16
import Derived.Test.YtjdomibbaemdnaaGreatDoorZK17
import Derived.Test.YtjdomibbaemdnaaGreatDoorZK18
import Derived.Test.YtjdomibbaemdnaaGreatDoorZK2
import Derived.Test.YtjdomibbaemdnaaGreatDoorZK6
import Derived.Test.YtjdomibbaemdnaaGreatDoorZK9
set_option linter.all false
set_option maxRecDepth 100000
set_option maxHeartbeats 8000000
namespace Go.Proofs.YtjdomibbaemdnaaGreatDoor
section
open Go.RowKit
theorem A7 {w:World} {k j o:Nat} {a b c d:Value} (hne:j≠k) {v:Value} (h:w.cell? ⟨k,o,none⟩=some v):((((w.setCell ⟨j,0,none⟩ a).setCell ⟨j,1,none⟩ b).setCell ⟨j,2,none⟩ c).setCell ⟨j,3,none⟩ d).cell? ⟨k,o,none⟩=some v:=by
 have hh:∀ (W:World) (o':Nat) (u:Value),(W.setCell ⟨j,o',none⟩ u).cell? ⟨k,o,none⟩=W.cell? ⟨k,o,none⟩:=fun W o' u=>World.cell?_of_block (Below.heap_setCell _ _ _ _ (by show k≠j;omega))
 rw [hh,hh,hh,hh];exact h
theorem mP {w:World} {b:Nat} {x0 x1 x2 x3:Value} (c0:w.cell? ⟨b,0,none⟩=some x0) (c1:w.cell? ⟨b,1,none⟩=some x1) (c2:w.cell? ⟨b,2,none⟩=some x2) (c3:w.cell? ⟨b,3,none⟩=some x3) (X Y Z T:Value) :
  ((((w.setCell ⟨b,0,none⟩ X).setCell ⟨b,1,none⟩ Y).setCell ⟨b,2,none⟩ Z).setCell ⟨b,3,none⟩ T).cell? ⟨b,0,none⟩=some X∧((((w.setCell ⟨b,0,none⟩ X).setCell ⟨b,1,none⟩ Y).setCell ⟨b,2,none⟩ Z).setCell ⟨b,3,none⟩ T).cell? ⟨b,1,none⟩=some Y ∧
  ((((w.setCell ⟨b,0,none⟩ X).setCell ⟨b,1,none⟩ Y).setCell ⟨b,2,none⟩ Z).setCell ⟨b,3,none⟩ T).cell? ⟨b,2,none⟩=some Z∧((((w.setCell ⟨b,0,none⟩ X).setCell ⟨b,1,none⟩ Y).setCell ⟨b,2,none⟩ Z).setCell ⟨b,3,none⟩ T).cell? ⟨b,3,none⟩=some T:=by
 refine ⟨by go_cell,by go_cell,by go_cell,by go_cell⟩
theorem ph (a b c d:Option Int) (w:World) (ha:Lwf a) (hb:Lwf b) (hc:Lwf c) (hd:Lwf d) (ht:Tab w) :
  Calls Tryz.prog 142 #[.agg #[.string (LB a),.int .i64 (LE a),.string (LB b),.int .i64 (LE b)],.agg #[.string (LB c),.int .i64 (LE c),.string (LB d),.int .i64 (LE d)]] w fun e W'=>e = .returned (.agg #[.string (LB (opL (· * ·) a c)),.int .i64 (LE (opL (· * ·) a c)),.string (LB (opL (· * ·) b d)),.int .i64 (LE (opL (· * ·) b d))])∧Below w.heap.size w W':=by
 have ct:=fun o p W (ho:Lwf o) (hp:Lwf p) (hW:Below w.heap.size w W)=>mM o p W ho hp (ht.next hW)
 have C:=Ha (Hb ct True.intro)
 clear ct ht
 go_enter Tryz.func142,Tryz.ntmps142
 go_wp2
 have hbx:Bxs w w.heap.size [[.string (LB a),.int .i64 (LE a),.string (LB b),.int .i64 (LE b)],[.string (LB c),.int .i64 (LE c),.string (LB d),.int .i64 (LE d)],[.string ⟨#[]⟩,.int .i64 0,.string ⟨#[]⟩,.int .i64 0]] (((w.alloc (.cells #[.string (LB a),.int .i64 (LE a),.string (LB b),.int .i64 (LE b)] 140)).alloc (.cells #[.string (LB c),.int .i64 (LE c),.string (LB d),.int .i64 (LE d)] 140)).alloc (.cells #[.string ⟨#[]⟩,.int .i64 0,.string ⟨#[]⟩,.int .i64 0] 140)):=(((Bxs.nil w w (Below.refl _ _)).push rfl [.string (LB a),.int .i64 (LE a),.string (LB b),.int .i64 (LE b)] 140).push (by simp) [.string (LB c),.int .i64 (LE c),.string (LB d),.int .i64 (LE d)] 140).push (by simp) [.string ⟨#[]⟩,.int .i64 0,.string ⟨#[]⟩,.int .i64 0] 140
 generalize ((w.alloc (.cells #[.string (LB a),.int .i64 (LE a),.string (LB b),.int .i64 (LE b)] 140)).alloc (.cells #[.string (LB c),.int .i64 (LE c),.string (LB d),.int .i64 (LE d)] 140)).alloc (.cells #[.string ⟨#[]⟩,.int .i64 0,.string ⟨#[]⟩,.int .i64 0] 140)=W0 at *
 generalize hk:w.heap.size=k at *
 have HK:=Ha hk;clear hk
 have HB:=Ha (hbx.next (Below.refl _ _).drew)
 clear hbx
 have e0:=(show _=some (.string (LB a)) from HB.out.cells 0 _ rfl 0 _ rfl);have e1:=(show _=some (.int .i64 (LE a)) from HB.out.cells 0 _ rfl 1 _ rfl);have e2:=(show _=some (.string (LB b)) from HB.out.cells 0 _ rfl 2 _ rfl);have e3:=(show _=some (.int .i64 (LE b)) from HB.out.cells 0 _ rfl 3 _ rfl);have e4:=(show _=some (.string (LB c)) from HB.out.cells 1 _ rfl 0 _ rfl);have e5:=(show _=some (.int .i64 (LE c)) from HB.out.cells 1 _ rfl 1 _ rfl);have e6:=(show _=some (.string (LB d)) from HB.out.cells 1 _ rfl 2 _ rfl);have e7:=(show _=some (.int .i64 (LE d)) from HB.out.cells 1 _ rfl 3 _ rfl);have z0:=(show World.cell? _ ⟨k+1+1,0,none⟩=some (.string ⟨#[]⟩) from HB.out.cells 2 _ rfl 0 _ rfl);have f0:=(show World.frozen? _ ⟨k+1+1,0,none⟩=false from HB.out.frozen 2 (by simp) 0);have z1:=(show World.cell? _ ⟨k+1+1,1,none⟩=some (.int .i64 0) from HB.out.cells 2 _ rfl 1 _ rfl);have f1:=(show World.frozen? _ ⟨k+1+1,1,none⟩=false from HB.out.frozen 2 (by simp) 1);have z2:=(show World.cell? _ ⟨k+1+1,2,none⟩=some (.string ⟨#[]⟩) from HB.out.cells 2 _ rfl 2 _ rfl);have f2:=(show World.frozen? _ ⟨k+1+1,2,none⟩=false from HB.out.frozen 2 (by simp) 2);have z3:=(show World.cell? _ ⟨k+1+1,3,none⟩=some (.int .i64 0) from HB.out.cells 2 _ rfl 3 _ rfl);have f3:=(show World.frozen? _ ⟨k+1+1,3,none⟩=false from HB.out.frozen 2 (by simp) 3)
 go_region_held3 (fun w'=>w'.cell? ⟨k,0,none⟩=some (.string (LB a))∧w'.cell? ⟨k,1,none⟩=some (.int .i64 (LE a))∧w'.cell? ⟨k,2,none⟩=some (.string (LB b))∧w'.cell? ⟨k,3,none⟩=some (.int .i64 (LE b))∧w'.cell? ⟨k+1,0,none⟩=some (.string (LB c))∧w'.cell? ⟨k+1,1,none⟩=some (.int .i64 (LE c))∧w'.cell? ⟨k+1,2,none⟩=some (.string (LB d))∧w'.cell? ⟨k+1,3,none⟩=some (.int .i64 (LE d))) (first | exact ⟨e0,e1,e2,e3,e4,e5,e6,e7⟩ | (go_keep;done) | ((try dsimp only);refine ⟨?_,?_,?_,?_,?_,?_,?_,?_⟩ <;> (exact A7 (by omega) (by assumption))))
  (first | (go_at_call 285;refine (C.out.1 _ _ _ (by first | assumption | exact iD _ _ _) (by first | assumption | exact iD _ _ _) (by have:=HB.out.below;rwa [HK.out] at this)).mono ?_;rintro e w1 ⟨rfl,hbw⟩;replace HB:=Ha (HB.out.next hbw);clear hbw;have e0:=(show _=some (.string (LB a)) from HB.out.cells 0 _ rfl 0 _ rfl);have e1:=(show _=some (.int .i64 (LE a)) from HB.out.cells 0 _ rfl 1 _ rfl);have e2:=(show _=some (.string (LB b)) from HB.out.cells 0 _ rfl 2 _ rfl);have e3:=(show _=some (.int .i64 (LE b)) from HB.out.cells 0 _ rfl 3 _ rfl);have e4:=(show _=some (.string (LB c)) from HB.out.cells 1 _ rfl 0 _ rfl);have e5:=(show _=some (.int .i64 (LE c)) from HB.out.cells 1 _ rfl 1 _ rfl);have e6:=(show _=some (.string (LB d)) from HB.out.cells 1 _ rfl 2 _ rfl);have e7:=(show _=some (.int .i64 (LE d)) from HB.out.cells 1 _ rfl 3 _ rfl);have z0:=(show World.cell? _ ⟨k+1+1,0,none⟩=some (.string ⟨#[]⟩) from HB.out.cells 2 _ rfl 0 _ rfl);have f0:=(show World.frozen? _ ⟨k+1+1,0,none⟩=false from HB.out.frozen 2 (by simp) 0);have z1:=(show World.cell? _ ⟨k+1+1,1,none⟩=some (.int .i64 0) from HB.out.cells 2 _ rfl 1 _ rfl);have f1:=(show World.frozen? _ ⟨k+1+1,1,none⟩=false from HB.out.frozen 2 (by simp) 1);have z2:=(show World.cell? _ ⟨k+1+1,2,none⟩=some (.string ⟨#[]⟩) from HB.out.cells 2 _ rfl 2 _ rfl);have f2:=(show World.frozen? _ ⟨k+1+1,2,none⟩=false from HB.out.frozen 2 (by simp) 2);have z3:=(show World.cell? _ ⟨k+1+1,3,none⟩=some (.int .i64 0) from HB.out.cells 2 _ rfl 3 _ rfl);have f3:=(show World.frozen? _ ⟨k+1+1,3,none⟩=false from HB.out.frozen 2 (by simp) 3)))
 have e0:=(show _=some (.string (LB a)) from HB.out.cells 0 _ rfl 0 _ rfl);have e1:=(show _=some (.int .i64 (LE a)) from HB.out.cells 0 _ rfl 1 _ rfl);have e2:=(show _=some (.string (LB b)) from HB.out.cells 0 _ rfl 2 _ rfl);have e3:=(show _=some (.int .i64 (LE b)) from HB.out.cells 0 _ rfl 3 _ rfl);have e4:=(show _=some (.string (LB c)) from HB.out.cells 1 _ rfl 0 _ rfl);have e5:=(show _=some (.int .i64 (LE c)) from HB.out.cells 1 _ rfl 1 _ rfl);have e6:=(show _=some (.string (LB d)) from HB.out.cells 1 _ rfl 2 _ rfl);have e7:=(show _=some (.int .i64 (LE d)) from HB.out.cells 1 _ rfl 3 _ rfl);have z0:=(show World.cell? _ ⟨k+1+1,0,none⟩=some (.string ⟨#[]⟩) from HB.out.cells 2 _ rfl 0 _ rfl);have f0:=(show World.frozen? _ ⟨k+1+1,0,none⟩=false from HB.out.frozen 2 (by simp) 0);have z1:=(show World.cell? _ ⟨k+1+1,1,none⟩=some (.int .i64 0) from HB.out.cells 2 _ rfl 1 _ rfl);have f1:=(show World.frozen? _ ⟨k+1+1,1,none⟩=false from HB.out.frozen 2 (by simp) 1);have z2:=(show World.cell? _ ⟨k+1+1,2,none⟩=some (.string ⟨#[]⟩) from HB.out.cells 2 _ rfl 2 _ rfl);have f2:=(show World.frozen? _ ⟨k+1+1,2,none⟩=false from HB.out.frozen 2 (by simp) 2);have z3:=(show World.cell? _ ⟨k+1+1,3,none⟩=some (.int .i64 0) from HB.out.cells 2 _ rfl 3 _ rfl);have f3:=(show World.frozen? _ ⟨k+1+1,3,none⟩=false from HB.out.frozen 2 (by simp) 3)
 obtain ⟨g0,g1,g2,g3⟩:=mP z0 z1 z2 z3 (.string (LB (opL (· * ·) a c))) (.int .i64 (LE (opL (· * ·) a c))) (.string (LB (opL (· * ·) b d))) (.int .i64 (LE (opL (· * ·) b d)))
 go_wp2
 refine bodyPost_ret (v := .agg #[.string (LB (opL (· * ·) a c)),.int .i64 (LE (opL (· * ·) a c)),.string (LB (opL (· * ·) b d)),.int .i64 (LE (opL (· * ·) b d))]) (by simp [results,Tryz.results142,go_sem,g0,g1,g2,g3]) rfl ?_
 refine ⟨rfl,?_⟩
 have hbl:=HB.out.below
 rw [HK.out] at hbl ⊢
 exact (((hbl.setCell (p:=⟨k+1+1,0,none⟩) (by show k≤k+1+1;omega) _).setCell (p:=⟨k+1+1,1,none⟩) (by show k≤k+1+1;omega) _).setCell (p:=⟨k+1+1,2,none⟩) (by show k≤k+1+1;omega) _).setCell (p:=⟨k+1+1,3,none⟩) (by show k≤k+1+1;omega) _
theorem sh (a b c d:Option Int) (w:World) (ha:Lwf a) (hb:Lwf b) (hc:Lwf c) (hd:Lwf d) (ht:Tab w) :
  Calls Tryz.prog 75 #[.agg #[.string (LB a),.int .i64 (LE a),.string (LB b),.int .i64 (LE b)],.agg #[.string (LB c),.int .i64 (LE c),.string (LB d),.int .i64 (LE d)]] w fun e W'=>e = .returned (.agg #[.string (LB (opL (· * ·) a d)),.int .i64 (LE (opL (· * ·) a d)),.string (LB (opL (· * ·) c b)),.int .i64 (LE (opL (· * ·) c b))])∧Below w.heap.size w W':=by
 have ct:=fun o p W (ho:Lwf o) (hp:Lwf p) (hW:Below w.heap.size w W)=>mM o p W ho hp (ht.next hW)
 have C:=Ha (Hb ct True.intro)
 clear ct ht
 go_enter Tryz.func75,Tryz.ntmps75
 go_wp2
 have hbx:Bxs w w.heap.size [[.string (LB a),.int .i64 (LE a),.string (LB b),.int .i64 (LE b)],[.string (LB c),.int .i64 (LE c),.string (LB d),.int .i64 (LE d)],[.string ⟨#[]⟩,.int .i64 0,.string ⟨#[]⟩,.int .i64 0]] (((w.alloc (.cells #[.string (LB a),.int .i64 (LE a),.string (LB b),.int .i64 (LE b)] 140)).alloc (.cells #[.string (LB c),.int .i64 (LE c),.string (LB d),.int .i64 (LE d)] 140)).alloc (.cells #[.string ⟨#[]⟩,.int .i64 0,.string ⟨#[]⟩,.int .i64 0] 140)):=(((Bxs.nil w w (Below.refl _ _)).push rfl [.string (LB a),.int .i64 (LE a),.string (LB b),.int .i64 (LE b)] 140).push (by simp) [.string (LB c),.int .i64 (LE c),.string (LB d),.int .i64 (LE d)] 140).push (by simp) [.string ⟨#[]⟩,.int .i64 0,.string ⟨#[]⟩,.int .i64 0] 140
 generalize ((w.alloc (.cells #[.string (LB a),.int .i64 (LE a),.string (LB b),.int .i64 (LE b)] 140)).alloc (.cells #[.string (LB c),.int .i64 (LE c),.string (LB d),.int .i64 (LE d)] 140)).alloc (.cells #[.string ⟨#[]⟩,.int .i64 0,.string ⟨#[]⟩,.int .i64 0] 140)=W0 at *
 generalize hk:w.heap.size=k at *
 have HK:=Ha hk;clear hk
 have HB:=Ha (hbx.next (Below.refl _ _).drew)
 clear hbx
 have e0:=(show _=some (.string (LB a)) from HB.out.cells 0 _ rfl 0 _ rfl);have e1:=(show _=some (.int .i64 (LE a)) from HB.out.cells 0 _ rfl 1 _ rfl);have e2:=(show _=some (.string (LB b)) from HB.out.cells 0 _ rfl 2 _ rfl);have e3:=(show _=some (.int .i64 (LE b)) from HB.out.cells 0 _ rfl 3 _ rfl);have e4:=(show _=some (.string (LB c)) from HB.out.cells 1 _ rfl 0 _ rfl);have e5:=(show _=some (.int .i64 (LE c)) from HB.out.cells 1 _ rfl 1 _ rfl);have e6:=(show _=some (.string (LB d)) from HB.out.cells 1 _ rfl 2 _ rfl);have e7:=(show _=some (.int .i64 (LE d)) from HB.out.cells 1 _ rfl 3 _ rfl);have z0:=(show World.cell? _ ⟨k+1+1,0,none⟩=some (.string ⟨#[]⟩) from HB.out.cells 2 _ rfl 0 _ rfl);have f0:=(show World.frozen? _ ⟨k+1+1,0,none⟩=false from HB.out.frozen 2 (by simp) 0);have z1:=(show World.cell? _ ⟨k+1+1,1,none⟩=some (.int .i64 0) from HB.out.cells 2 _ rfl 1 _ rfl);have f1:=(show World.frozen? _ ⟨k+1+1,1,none⟩=false from HB.out.frozen 2 (by simp) 1);have z2:=(show World.cell? _ ⟨k+1+1,2,none⟩=some (.string ⟨#[]⟩) from HB.out.cells 2 _ rfl 2 _ rfl);have f2:=(show World.frozen? _ ⟨k+1+1,2,none⟩=false from HB.out.frozen 2 (by simp) 2);have z3:=(show World.cell? _ ⟨k+1+1,3,none⟩=some (.int .i64 0) from HB.out.cells 2 _ rfl 3 _ rfl);have f3:=(show World.frozen? _ ⟨k+1+1,3,none⟩=false from HB.out.frozen 2 (by simp) 3)
 go_region_held3 (fun w'=>w'.cell? ⟨k,0,none⟩=some (.string (LB a))∧w'.cell? ⟨k,1,none⟩=some (.int .i64 (LE a))∧w'.cell? ⟨k,2,none⟩=some (.string (LB b))∧w'.cell? ⟨k,3,none⟩=some (.int .i64 (LE b))∧w'.cell? ⟨k+1,0,none⟩=some (.string (LB c))∧w'.cell? ⟨k+1,1,none⟩=some (.int .i64 (LE c))∧w'.cell? ⟨k+1,2,none⟩=some (.string (LB d))∧w'.cell? ⟨k+1,3,none⟩=some (.int .i64 (LE d))) (first | exact ⟨e0,e1,e2,e3,e4,e5,e6,e7⟩ | (go_keep;done) | ((try dsimp only);refine ⟨?_,?_,?_,?_,?_,?_,?_,?_⟩ <;> (exact A7 (by omega) (by assumption))))
  (first | (go_at_call 285;refine (C.out.1 _ _ _ (by first | assumption | exact iD _ _ _) (by first | assumption | exact iD _ _ _) (by have:=HB.out.below;rwa [HK.out] at this)).mono ?_;rintro e w1 ⟨rfl,hbw⟩;replace HB:=Ha (HB.out.next hbw);clear hbw;have e0:=(show _=some (.string (LB a)) from HB.out.cells 0 _ rfl 0 _ rfl);have e1:=(show _=some (.int .i64 (LE a)) from HB.out.cells 0 _ rfl 1 _ rfl);have e2:=(show _=some (.string (LB b)) from HB.out.cells 0 _ rfl 2 _ rfl);have e3:=(show _=some (.int .i64 (LE b)) from HB.out.cells 0 _ rfl 3 _ rfl);have e4:=(show _=some (.string (LB c)) from HB.out.cells 1 _ rfl 0 _ rfl);have e5:=(show _=some (.int .i64 (LE c)) from HB.out.cells 1 _ rfl 1 _ rfl);have e6:=(show _=some (.string (LB d)) from HB.out.cells 1 _ rfl 2 _ rfl);have e7:=(show _=some (.int .i64 (LE d)) from HB.out.cells 1 _ rfl 3 _ rfl);have z0:=(show World.cell? _ ⟨k+1+1,0,none⟩=some (.string ⟨#[]⟩) from HB.out.cells 2 _ rfl 0 _ rfl);have f0:=(show World.frozen? _ ⟨k+1+1,0,none⟩=false from HB.out.frozen 2 (by simp) 0);have z1:=(show World.cell? _ ⟨k+1+1,1,none⟩=some (.int .i64 0) from HB.out.cells 2 _ rfl 1 _ rfl);have f1:=(show World.frozen? _ ⟨k+1+1,1,none⟩=false from HB.out.frozen 2 (by simp) 1);have z2:=(show World.cell? _ ⟨k+1+1,2,none⟩=some (.string ⟨#[]⟩) from HB.out.cells 2 _ rfl 2 _ rfl);have f2:=(show World.frozen? _ ⟨k+1+1,2,none⟩=false from HB.out.frozen 2 (by simp) 2);have z3:=(show World.cell? _ ⟨k+1+1,3,none⟩=some (.int .i64 0) from HB.out.cells 2 _ rfl 3 _ rfl);have f3:=(show World.frozen? _ ⟨k+1+1,3,none⟩=false from HB.out.frozen 2 (by simp) 3)))
 have e0:=(show _=some (.string (LB a)) from HB.out.cells 0 _ rfl 0 _ rfl);have e1:=(show _=some (.int .i64 (LE a)) from HB.out.cells 0 _ rfl 1 _ rfl);have e2:=(show _=some (.string (LB b)) from HB.out.cells 0 _ rfl 2 _ rfl);have e3:=(show _=some (.int .i64 (LE b)) from HB.out.cells 0 _ rfl 3 _ rfl);have e4:=(show _=some (.string (LB c)) from HB.out.cells 1 _ rfl 0 _ rfl);have e5:=(show _=some (.int .i64 (LE c)) from HB.out.cells 1 _ rfl 1 _ rfl);have e6:=(show _=some (.string (LB d)) from HB.out.cells 1 _ rfl 2 _ rfl);have e7:=(show _=some (.int .i64 (LE d)) from HB.out.cells 1 _ rfl 3 _ rfl);have z0:=(show World.cell? _ ⟨k+1+1,0,none⟩=some (.string ⟨#[]⟩) from HB.out.cells 2 _ rfl 0 _ rfl);have f0:=(show World.frozen? _ ⟨k+1+1,0,none⟩=false from HB.out.frozen 2 (by simp) 0);have z1:=(show World.cell? _ ⟨k+1+1,1,none⟩=some (.int .i64 0) from HB.out.cells 2 _ rfl 1 _ rfl);have f1:=(show World.frozen? _ ⟨k+1+1,1,none⟩=false from HB.out.frozen 2 (by simp) 1);have z2:=(show World.cell? _ ⟨k+1+1,2,none⟩=some (.string ⟨#[]⟩) from HB.out.cells 2 _ rfl 2 _ rfl);have f2:=(show World.frozen? _ ⟨k+1+1,2,none⟩=false from HB.out.frozen 2 (by simp) 2);have z3:=(show World.cell? _ ⟨k+1+1,3,none⟩=some (.int .i64 0) from HB.out.cells 2 _ rfl 3 _ rfl);have f3:=(show World.frozen? _ ⟨k+1+1,3,none⟩=false from HB.out.frozen 2 (by simp) 3)
 obtain ⟨g0,g1,g2,g3⟩:=mP z0 z1 z2 z3 (.string (LB (opL (· * ·) a d))) (.int .i64 (LE (opL (· * ·) a d))) (.string (LB (opL (· * ·) c b))) (.int .i64 (LE (opL (· * ·) c b)))
 go_wp2
 refine bodyPost_ret (v := .agg #[.string (LB (opL (· * ·) a d)),.int .i64 (LE (opL (· * ·) a d)),.string (LB (opL (· * ·) c b)),.int .i64 (LE (opL (· * ·) c b))]) (by simp [results,Tryz.results75,go_sem,g0,g1,g2,g3]) rfl ?_
 refine ⟨rfl,?_⟩
 have hbl:=HB.out.below
 rw [HK.out] at hbl ⊢
 exact (((hbl.setCell (p:=⟨k+1+1,0,none⟩) (by show k≤k+1+1;omega) _).setCell (p:=⟨k+1+1,1,none⟩) (by show k≤k+1+1;omega) _).setCell (p:=⟨k+1+1,2,none⟩) (by show k≤k+1+1;omega) _).setCell (p:=⟨k+1+1,3,none⟩) (by show k≤k+1+1;omega) _
end
section
open Go.RowKit Go.Sort
theorem gE:Tryz.prog.underlying 115=some (.slice 5):=Tryz.underlying115
theorem oj (B u n:Nat) (l:List UInt8) (g cap:Nat) (hn:n=l.length) (hu:u<100) (w:World) (h:RowR B w l g cap) (hB:B≤w.heap.size) (hb:l.length+20≤140737488355328) :
  Calls Tryz.prog 231 #[.slice (some ⟨g,0,none⟩) n cap,.int .u64 u,.int .i64 10] w fun e W'=>∃ g' cap',e = .returned (.slice (some ⟨g',0,none⟩) (n+(Lib.decDigits u).length) cap')∧RowR B W' (l++Lib.decDigits u) g' cap'∧Below B w W':=by
 obtain ⟨i0,hi,hz0,hz1,hz2⟩:=info_parts eh
 have HI:=Ha (Hb hi (Hb hz0 (Hb hz1 hz2)));clear hi hz0 hz1 hz2
 have hlen:(Lib.decDigits u).length≤20:=by
  rw [Lib.decDigits_length]
  exact (aJ u 20 (by decide)).2 (Nat.lt_of_lt_of_le hu (by decide))
 have cs:=fun W=>Tryz.internal_strconv_small u hu W
 obtain ⟨s,hs⟩:∃ s:ByteArray,s=⟨(Lib.decDigits u).toArray⟩:=⟨_,rfl⟩
 rw [←hs] at cs
 have hsd:s.data.toList=Lib.decDigits u:=by rw [hs]
 have HH:=Ha (Hb h (Hb hsd (Hb hn hlen)))
 have iu:¬ (100:Int)≤(u:Int):=by omega
 have C:=Ha cs
 clear h hs hsd hn hlen cs
 generalize Lib.decDigits u=m at *
 go_enter Tryz.func231,Tryz.ntmps231
 go_wp2_with (first
  | (go_at_call 197;refine (C.out _).mono ?_;rintro e w' ⟨rfl,rfl⟩)
  | (at_builtin;refine cS rfl _ _ 115 9 rfl 5 i0 gE HI.out.1 HI.out.2.1 HI.out.2.2.1 HI.out.2.2.2 HH.out.2.2.1 rfl HH.out.1 (.string s) s.data.toList rfl (mL Tryz.underlying9 s) (by rw [HH.out.2.1];have:=HH.out.2.2.2;omega) hB ?_;intro w1 g1 c1 h1 hb1))
 have H1:=Ha (Hb h1 hb1);clear h1 hb1
 go_wp2
 go_ret
 have h2:=HH.out.2.1
 exact ⟨g1,c1,by rw [←h2];rfl,by have:=H1.out.1;rwa [h2] at this,H1.out.2⟩
theorem qE (B u n:Nat) (l:List UInt8) (g cap:Nat) (hn:n=l.length) (hu:100≤u) (hu64:u<18446744073709551616) (w:World) (h:RowR B w l g cap) (hB:B≤w.heap.size) (hb:l.length+20≤140737488355328) (ht:Tab w) :
  Calls Tryz.prog 231 #[.slice (some ⟨g,0,none⟩) n cap,.int .u64 u,.int .i64 10] w fun e W'=>∃ g' cap',e = .returned (.slice (some ⟨g',0,none⟩) (n+(Lib.decDigits u).length) cap')∧RowR B W' (l++Lib.decDigits u) g' cap'∧Below B w W':=by
 obtain ⟨i0,hi,hz0,hz1,hz2⟩:=info_parts eh
 have HI:=Ha (Hb hi (Hb hz0 (Hb hz1 hz2)));clear hi hz0 hz1 hz2
 have hu1:1≤u:=by omega
 have hnd20:Lib.nDigits u≤20:=(aJ u 20 (by decide)).2 (Nat.lt_of_lt_of_le hu64 (by decide))
 have hal:Tryz.prog.arrayLen 219=24:=by simp [Program.arrayLen,Tryz.underlying219]
 have hsl:∀ W,(Instr.sliceAt 219 (.pointer (some ⟨w.heap.size,0,none⟩)) none (some (.int .i64 (Lib.nDigits u:Int))) none).run Tryz.prog W = .ok (.slice (some ⟨w.heap.size,0,none⟩) (Lib.nDigits u) 24) W:=fun W=>by
  rw [run_sliceAt_array_h W 219 ⟨w.heap.size,0,none⟩ (by simp [Program.arrayLen,Program.elem,Tryz.underlying219]) .i64 (Lib.nDigits u:Int) (by omega) (by rw [hal];omega)]
  go_simp
 have hH0:=Lib.holds_zero0 w 219 (Lib.nDigits u) (by omega)
 have hfmt:=Tryz.internal_strconv_formatBase10 w.heap.size 0 24 u (Array.replicate (Lib.nDigits u) 0) (w.alloc (.cells Lib.zeros24 219)) hH0 (by rw [Array.size_replicate];exact Lib.lt_pow_nDigits u) hu64 (by rw [Array.size_replicate];omega)
 rw [Array.size_replicate] at hfmt
 have hnum:=fun W hW=>Tryz.internal_strconv_numDigits u hu1 hu64 W hW
 have HH0:=Ha (Hb hH0 (Hb hfmt hnum))
 have HH:=Ha (Hb h (Hb hn ht))
 have iu:(100:Int)≤(u:Int):=by omega
 clear hH0 hal hfmt h hn ht hnum
 go_enter Tryz.func231,Tryz.ntmps231
 go_wp2_with (first
  | (go_at_call 198;refine (HH0.out.2.2 _ (Lib.tabIs_alloc HH.out.2.2 _)).mono ?_;rintro e w' ⟨rfl,rfl⟩))
 go_at_call 199
 refine HH0.out.2.1.mono ?_
 rintro e w' ⟨rfl,k,v',dk,rfl,hF⟩
 have hcells:∀ j u',(Lib.byteCells (Lib.decDigits u))[j]? = some u'→((putRow (fun (b:UInt8)=>Value.int .u8 (b.toNat:Int)) (w.alloc (.cells Lib.zeros24 219)) w.heap.size 0 dk).drewN k).cell? ⟨w.heap.size,j,none⟩=some u':=by
  intro j u' hj
  have hjl:j<(Lib.decDigits u).length:=by
   have h5:=(List.getElem?_eq_some_iff.1 hj).1
   rwa [Lib.byteCells_length] at h5
  have e5:(Lib.byteCells (Lib.decDigits u))[j]? = some (Value.int .u8 ((Lib.decDigits u)[j].toNat:Int)):=by simp [Lib.byteCells,hjl]
  rw [e5] at hj
  cases hj
  rw [Lib.row_is_numeral hF j hjl,World.cell?_drewN]
  have:=cell?_putRow (fun (b:UInt8)=>Value.int .u8 (b.toNat:Int)) _ w.heap.size 0 _ dk HH0.out.1 (by rw [hF.size,Array.size_replicate]) j (by rw [hF.size];rw [Lib.decDigits_length] at hjl;exact hjl)
  rwa [Nat.zero_add] at this
 obtain ⟨os,eo⟩:=Lib.fin_at w (.cells Lib.zeros24 219) dk k 0
 have hnx2:Below w.heap.size w ((putRow (fun (b:UInt8)=>Value.int .u8 (b.toNat:Int)) (w.alloc (.cells Lib.zeros24 219)) w.heap.size 0 dk).drewN k):=by rw [eo];exact Lib.below_grow w.heap.size w (Nat.le_refl _) k os
 generalize (putRow (fun (b:UInt8)=>Value.int .u8 (b.toNat:Int)) (w.alloc (.cells Lib.zeros24 219)) w.heap.size 0 dk).drewN k=W2 at *
 have HX:=Ha (Hb (HH.out.1.next hnx2) (Hb hcells hnx2))
 have hdl:=Lib.decDigits_length u
 clear eo hcells hnx2 hF
 have hB2:B≤W2.heap.size:=Nat.le_trans hB HX.out.2.2.size
 generalize hm:Lib.decDigits u=m at *
 have HM:=Ha hm
 clear hm
 generalize Lib.nDigits u=nd at *
 subst hdl
 go_wp2_with (at_builtin;refine cS rfl _ _ 115 115 rfl 5 i0 gE HI.out.1 HI.out.2.1 HI.out.2.2.1 HI.out.2.2.2 HH.out.2.1 rfl HX.out.1 _ m rfl (i8 gE w.heap.size 24 m _ rfl HX.out.2.1) (by omega) hB2 ?_;intro w1 g1 c1 h1 hb1)
 have H1:=Ha (Hb h1 hb1);clear h1 hb1
 go_wp2
 go_ret
 rw [HM.out]
 exact ⟨g1,c1,rfl,H1.out.1,(HX.out.2.2.mono hB).trans H1.out.2⟩
theorem lL (B u n:Nat) (l:List UInt8) (g cap:Nat) (hn:n=l.length) (hu64:u<18446744073709551616) (w:World) (h:RowR B w l g cap) (hB:B≤w.heap.size) (hb:l.length+20≤140737488355328) (ht:Tab w) :
  Calls Tryz.prog 231 #[.slice (some ⟨g,0,none⟩) n cap,.int .u64 u,.int .i64 10] w fun e W'=>∃ g' cap',e = .returned (.slice (some ⟨g',0,none⟩) (n+(Lib.decDigits u).length) cap')∧RowR B W' (l++Lib.decDigits u) g' cap'∧Below B w W':=by
 by_cases hu:u<100
 ·exact oj B u n l g cap hn hu w h hB hb
 ·exact qE B u n l g cap hn (by omega) hu64 w h hB hb ht
theorem qF (B n:Nat) (z:Int) (l:List UInt8) (g cap:Nat) (hn:n=l.length) (h0 : -9223372036854775808<z) (h1:z≤9223372036854775807) (w:World) (h:RowR B w l g cap) (hB:B≤w.heap.size) (hb:l.length+30≤140737488355328) (ht:Tab w) (hBt:Tab w→∀ W,Below B w W→Tab W) :
  Calls Tryz.prog 279 #[.slice (some ⟨g,0,none⟩) n cap,.int .i64 z,.int .i64 10] w fun e W'=>∃ g' cap',e = .returned (.slice (some ⟨g',0,none⟩) (n+(Lib.itoa z).length) cap')∧RowR B W' (l++Lib.itoa z) g' cap'∧Below B w W':=by
 obtain ⟨i0,hi,hz0,hz1,hz2⟩:=info_parts eh
 have HI:=Ha (Hb hi (Hb hz0 (Hb hz1 hz2)));clear hi hz0 hz1 hz2
 by_cases hz:z<0
 ·have hit:Lib.itoa z = [45]++Lib.decDigits z.natAbs:=by
   have:=Lib.itoa_neg z.natAbs (by omega)
   rw [show (-(z.natAbs:Int))=z by omega] at this
   exact this
  have c:=fun W g' c' (hr:RowR B W (l ++ [45]) g' c') (hw:Below B w W)=>lL B z.natAbs (n+1) (l ++ [45]) g' c' (by rw [hn];simp) (by omega) W hr (Nat.le_trans hB hw.size) (by simp;omega) (hBt ht W hw)
  have HH:=Ha (Hb (h.next ((Below.refl _ w).alloc (Nat.le_refl _) (.cells #[.int .u8 45] 5))) (Hb hn hb))
  have C:=Ha c
  have HT:=Ha hit
  have hB1:B≤(w.alloc (.cells #[.int .u8 45] 5)).heap.size:=by simp;omega
  have hb1:Below B w (w.alloc (.cells #[.int .u8 45] 5)):=(Below.refl B w).alloc hB _
  clear h hn hb ht hBt hit c
  have hcell:∀ j u,(Lib.byteCells [45])[j]? = some u→(w.alloc (.cells #[.int .u8 45] 5)).cell? ⟨w.heap.size,j,none⟩=some u:=by
   intro j u hj
   match j with
   | 0=>rw [show u=Value.int .u8 45 from (Option.some.inj hj).symm];go_cell
   | j+1=>simp [Lib.byteCells] at hj
  have HC:=Ha hcell
  clear hcell
  have ew:IntKind.u64.wrap (-(IntKind.u64.wrap z))=(z.natAbs:Int):=by rw [IntKind.wrap_u64,IntKind.wrap_u64];omega
  go_enter Tryz.func279,Tryz.ntmps279
  go_wp2_with (at_builtin;refine cS rfl _ _ 115 115 rfl 5 i0 gE HI.out.1 HI.out.2.1 HI.out.2.2.1 HI.out.2.2.2 HH.out.2.1 rfl HH.out.1 _ [45] rfl (i8 gE w.heap.size 1 [45] 1 rfl HC.out) (by have:=HH.out.2.2;simp;omega) hB1 ?_;intro w1 g1 c1 hr1 hb2)
  have H1:=Ha (Hb hr1 (hb1.trans hb2));clear hr1 hb2
  refine (C.out w1 g1 c1 H1.out.1 H1.out.2).mono ?_
  rintro e w2 ⟨g2,c2,rfl,h2,b2⟩
  have H2:=Ha (Hb h2 (H1.out.2.trans b2));clear h2 b2
  go_wp2
  go_ret
  rw [HT.out]
  exact ⟨g2,c2,by rw [List.length_append,Nat.add_assoc];rfl,by have:=H2.out.1;rwa [List.append_assoc] at this,H2.out.2⟩
 ·have hit:Lib.itoa z=Lib.decDigits z.natAbs:=by
   have:=Lib.itoa_nonneg z.natAbs
   rwa [show ((z.natAbs:Nat):Int)=z by omega] at this
  have c:=lL B z.natAbs n l g cap hn (by omega) w h hB (by omega) ht
  have C:=Ha c
  have HT:=Ha hit
  have ew:IntKind.u64.wrap z=(z.natAbs:Int):=by rw [IntKind.wrap_u64];omega
  clear h hn hb ht hBt hit c
  go_enter Tryz.func279,Tryz.ntmps279
  go_wp2_with fail
  refine C.out.mono ?_
  rintro e w2 ⟨g2,c2,rfl,h2,b2⟩
  have H2:=Ha (Hb h2 b2);clear h2 b2
  go_wp2
  go_ret
  rw [HT.out]
  exact ⟨g2,c2,rfl,H2.out.1,H2.out.2⟩
theorem si (B n:Nat) (z:Int) (l:List UInt8) (g cap:Nat) (hn:n=l.length) (h0 : -9223372036854775808<z) (h1:z≤9223372036854775807) (w:World) (h:RowR B w l g cap) (hB:B≤w.heap.size) (hb:l.length+30≤140737488355328) (ht:Tab w) (hBt:Tab w→∀ W,Below B w W→Tab W) :
  Calls Tryz.prog 278 #[.slice (some ⟨g,0,none⟩) n cap,.int .i64 z,.int .i64 10] w fun e W'=>∃ g' cap',e = .returned (.slice (some ⟨g',0,none⟩) (n+(Lib.itoa z).length) cap')∧RowR B W' (l++Lib.itoa z) g' cap'∧Below B w W':=by
 have C:=Ha (qF B n z l g cap hn h0 h1 w h hB hb ht hBt)
 clear h hn hb ht hBt h0 h1
 go_enter Tryz.func278,Tryz.ntmps278
 go_wp2_with fail
 refine C.out.mono ?_
 rintro e w2 ⟨g2,c2,rfl,h2,b2⟩
 have H2:=Ha (Hb h2 b2);clear h2 b2
 go_wp2
 go_ret
 exact ⟨g2,c2,rfl,H2.out.1,H2.out.2⟩
theorem lM (B n:Nat) (z:Int) (l:List UInt8) (g cap:Nat) (hn:n=l.length) (h0 : -9223372036854775808<z) (h1:z≤9223372036854775807) (w:World) (h:RowR B w l g cap) (hB:B≤w.heap.size) (hb:l.length+30≤140737488355328) (ht:Tab w) (hBt:Tab w→∀ W,Below B w W→Tab W) :
  Calls Tryz.prog 271 #[.int .i64 z,.slice (some ⟨g,0,none⟩) n cap] w fun e W'=>∃ g' cap',e = .returned (.slice (some ⟨g',0,none⟩) (n+(Lib.itoa z).length) cap')∧RowR B W' (l++Lib.itoa z) g' cap'∧Below B w W':=by
 have C:=Ha (si B n z l g cap hn h0 h1 w h hB hb ht hBt)
 clear h hn hb ht hBt h0 h1
 go_enter Tryz.func271,Tryz.ntmps271
 go_wp2_with fail
 refine C.out.mono ?_
 rintro e w2 ⟨g2,c2,rfl,h2,b2⟩
 have H2:=Ha (Hb h2 b2);clear h2 b2
 go_wp2
 go_ret
 exact ⟨g2,c2,rfl,H2.out.1,H2.out.2⟩
end
section
open Go.RowKit
def mQ (n d:Int):List UInt8:=if d=1 then Lib.itoa n else Lib.itoa n++47::Lib.itoa d
def dc (n d:Int):ByteArray:=⟨(mQ n d).toArray⟩
theorem pj (n:Nat) (x:Int) (W:World):(method (n+1) 98 (.int .i64 x) "kingpost/rational.appendTo").run Tryz.prog W = .ok (271,.int .i64 x) W:=by kernel_rfl
theorem gF {w:World} {o:Obj} {a:Addr} {u:Value} (h:w.cell? a=some u):(w.alloc o).cell? a=some u:=iR (Below.refl _ _) h
theorem yi {z:Int} (h0 : -9223372036854775808<z) (h1:z≤9223372036854775807):(Lib.itoa z).length≤30:=by
 have:Lib.nDigits z.natAbs≤20:=(aJ _ 20 (by decide)).2 (Nat.lt_of_lt_of_le (show z.natAbs<9223372036854775809 by omega) (by decide))
 unfold Lib.itoa
 split
 ·rw [List.length_cons,Lib.decDigits_length];omega
 ·rw [Lib.decDigits_length,show z.toNat=z.natAbs by omega];omega
theorem jb (n d:Int) (w:World) (n0 : -9223372036854775808<n) (n1:n≤9223372036854775807) (d0 : -9223372036854775808<d) (d1:d≤9223372036854775807) (ht:Tab w) :
  Calls Tryz.prog 176 #[.agg #[.int .i64 n,.int .i64 d]] w fun e W'=>e = .returned (.string (dc n d))∧Below w.heap.size w W':=by
 have hn3:=yi n0 n1
 have ca:∀ W g c,RowR (w.heap.size+1) W [] g c→w.heap.size+1≤W.heap.size→Below w.heap.size w W→Calls Tryz.prog 271 #[.int .i64 n,.slice (some ⟨g,0,none⟩) 0 c] W fun e W'=>∃ g' c',e = .returned (.slice (some ⟨g',0,none⟩) (Lib.itoa n).length c')∧RowR (w.heap.size+1) W' (Lib.itoa n) g' c'∧Below (w.heap.size+1) W W':=fun W g c hr hB hb =>
  (lM (w.heap.size+1) 0 n [] g c rfl n0 n1 W hr hB (by simp) (ht.next hb) (fun _ W' hb'=>ht.next (hb.trans (hb'.mono (Nat.le_succ _))))).mono fun e W' ⟨g',c',h1,h2,h3⟩=>⟨g',c',by rw [h1,Nat.zero_add],h2,h3⟩
 have cb:∀ W g c,RowR (w.heap.size+1) W (Lib.itoa n ++ [47]) g c→w.heap.size+1≤W.heap.size→Below w.heap.size w W→Calls Tryz.prog 271 #[.int .i64 d,.slice (some ⟨g,0,none⟩) ((Lib.itoa n).length+1) c] W fun e W'=>∃ g' c',e = .returned (.slice (some ⟨g',0,none⟩) ((Lib.itoa n).length+1+(Lib.itoa d).length) c')∧RowR (w.heap.size+1) W' (Lib.itoa n ++ [47]++Lib.itoa d) g' c'∧Below (w.heap.size+1) W W':=fun W g c hr hB hb =>
  lM (w.heap.size+1) ((Lib.itoa n).length+1) d (Lib.itoa n ++ [47]) g c (by simp) d0 d1 W hr hB (by simp;omega) (ht.next hb) (fun _ W' hb'=>ht.next (hb.trans (hb'.mono (Nat.le_succ _))))
 have C:=Ha (Hb ca (Hb (fun W=>iU d W) (Hb cb hn3)))
 clear ca cb ht n0 n1 d0 d1 hn3
 have hal:Tryz.prog.arrayLen 243=40:=by simp [Program.arrayLen,Tryz.underlying243]
 have hsl:∀ W,(Instr.sliceAt 243 (.pointer (some ⟨w.heap.size+1,0,none⟩)) none (some (.int .i64 0)) none).run Tryz.prog W = .ok (.slice (some ⟨w.heap.size+1,0,none⟩) 0 40) W:=fun W=>by
  rw [run_sliceAt_array_h W 243 ⟨w.heap.size+1,0,none⟩ (by simp [Program.arrayLen,Program.elem,Tryz.underlying243]) .i64 0 (by omega) (by rw [hal];omega)]
  go_simp
 clear hal
 obtain ⟨i0,hi,hz0,hz1,hz2⟩:=info_parts eh
 have HI:=Ha (Hb hi (Hb hz0 (Hb hz1 hz2)));clear hi hz0 hz1 hz2
 go_enter Tryz.func176,Tryz.ntmps176
 go_wp2
 have c0:((w.alloc (.cells #[.int .i64 n,.int .i64 d] 136)).alloc (.cells #[.int .u8 0,.int .u8 0,.int .u8 0,.int .u8 0,.int .u8 0,.int .u8 0,.int .u8 0,.int .u8 0,.int .u8 0,.int .u8 0,.int .u8 0,.int .u8 0,.int .u8 0,.int .u8 0,.int .u8 0,.int .u8 0,.int .u8 0,.int .u8 0,.int .u8 0,.int .u8 0,.int .u8 0,.int .u8 0,.int .u8 0,.int .u8 0,.int .u8 0,.int .u8 0,.int .u8 0,.int .u8 0,.int .u8 0,.int .u8 0,.int .u8 0,.int .u8 0,.int .u8 0,.int .u8 0,.int .u8 0,.int .u8 0,.int .u8 0,.int .u8 0,.int .u8 0,.int .u8 0] 243)).cell? ⟨w.heap.size,0,none⟩=some (.int .i64 n):=gF (by go_cell)
 have c1:((w.alloc (.cells #[.int .i64 n,.int .i64 d] 136)).alloc (.cells #[.int .u8 0,.int .u8 0,.int .u8 0,.int .u8 0,.int .u8 0,.int .u8 0,.int .u8 0,.int .u8 0,.int .u8 0,.int .u8 0,.int .u8 0,.int .u8 0,.int .u8 0,.int .u8 0,.int .u8 0,.int .u8 0,.int .u8 0,.int .u8 0,.int .u8 0,.int .u8 0,.int .u8 0,.int .u8 0,.int .u8 0,.int .u8 0,.int .u8 0,.int .u8 0,.int .u8 0,.int .u8 0,.int .u8 0,.int .u8 0,.int .u8 0,.int .u8 0,.int .u8 0,.int .u8 0,.int .u8 0,.int .u8 0,.int .u8 0,.int .u8 0,.int .u8 0,.int .u8 0] 243)).cell? ⟨w.heap.size,1,none⟩=some (.int .i64 d):=gF (by go_cell)
 have hrow:RowR (w.heap.size+1) ((w.alloc (.cells #[.int .i64 n,.int .i64 d] 136)).alloc (.cells #[.int .u8 0,.int .u8 0,.int .u8 0,.int .u8 0,.int .u8 0,.int .u8 0,.int .u8 0,.int .u8 0,.int .u8 0,.int .u8 0,.int .u8 0,.int .u8 0,.int .u8 0,.int .u8 0,.int .u8 0,.int .u8 0,.int .u8 0,.int .u8 0,.int .u8 0,.int .u8 0,.int .u8 0,.int .u8 0,.int .u8 0,.int .u8 0,.int .u8 0,.int .u8 0,.int .u8 0,.int .u8 0,.int .u8 0,.int .u8 0,.int .u8 0,.int .u8 0,.int .u8 0,.int .u8 0,.int .u8 0,.int .u8 0,.int .u8 0,.int .u8 0,.int .u8 0,.int .u8 0] 243)) [] (w.heap.size+1) 40:=by
  have h:=heap_alloc_new (w.alloc (.cells #[.int .i64 n,.int .i64 d] 136)) (.cells #[.int .u8 0,.int .u8 0,.int .u8 0,.int .u8 0,.int .u8 0,.int .u8 0,.int .u8 0,.int .u8 0,.int .u8 0,.int .u8 0,.int .u8 0,.int .u8 0,.int .u8 0,.int .u8 0,.int .u8 0,.int .u8 0,.int .u8 0,.int .u8 0,.int .u8 0,.int .u8 0,.int .u8 0,.int .u8 0,.int .u8 0,.int .u8 0,.int .u8 0,.int .u8 0,.int .u8 0,.int .u8 0,.int .u8 0,.int .u8 0,.int .u8 0,.int .u8 0,.int .u8 0,.int .u8 0,.int .u8 0,.int .u8 0,.int .u8 0,.int .u8 0,.int .u8 0,.int .u8 0] 243)
  rw [World.size_alloc] at h
  exact RowR.new h rfl (by unfold maxLen;omega)
 have hbel:Below w.heap.size w ((w.alloc (.cells #[.int .i64 n,.int .i64 d] 136)).alloc (.cells #[.int .u8 0,.int .u8 0,.int .u8 0,.int .u8 0,.int .u8 0,.int .u8 0,.int .u8 0,.int .u8 0,.int .u8 0,.int .u8 0,.int .u8 0,.int .u8 0,.int .u8 0,.int .u8 0,.int .u8 0,.int .u8 0,.int .u8 0,.int .u8 0,.int .u8 0,.int .u8 0,.int .u8 0,.int .u8 0,.int .u8 0,.int .u8 0,.int .u8 0,.int .u8 0,.int .u8 0,.int .u8 0,.int .u8 0,.int .u8 0,.int .u8 0,.int .u8 0,.int .u8 0,.int .u8 0,.int .u8 0,.int .u8 0,.int .u8 0,.int .u8 0,.int .u8 0,.int .u8 0] 243)):=((Below.refl _ w).alloc (Nat.le_refl _) _).alloc (by rw [World.size_alloc];omega) _
 have hbel1:((w.alloc (.cells #[.int .i64 n,.int .i64 d] 136)).alloc (.cells #[.int .u8 0,.int .u8 0,.int .u8 0,.int .u8 0,.int .u8 0,.int .u8 0,.int .u8 0,.int .u8 0,.int .u8 0,.int .u8 0,.int .u8 0,.int .u8 0,.int .u8 0,.int .u8 0,.int .u8 0,.int .u8 0,.int .u8 0,.int .u8 0,.int .u8 0,.int .u8 0,.int .u8 0,.int .u8 0,.int .u8 0,.int .u8 0,.int .u8 0,.int .u8 0,.int .u8 0,.int .u8 0,.int .u8 0,.int .u8 0,.int .u8 0,.int .u8 0,.int .u8 0,.int .u8 0,.int .u8 0,.int .u8 0,.int .u8 0,.int .u8 0,.int .u8 0,.int .u8 0] 243)).heap.size=w.heap.size+2:=by rw [World.size_alloc,World.size_alloc]
 obtain ⟨W1,hW1⟩:∃ W,W=(w.alloc (.cells #[.int .i64 n,.int .i64 d] 136)).alloc (.cells #[.int .u8 0,.int .u8 0,.int .u8 0,.int .u8 0,.int .u8 0,.int .u8 0,.int .u8 0,.int .u8 0,.int .u8 0,.int .u8 0,.int .u8 0,.int .u8 0,.int .u8 0,.int .u8 0,.int .u8 0,.int .u8 0,.int .u8 0,.int .u8 0,.int .u8 0,.int .u8 0,.int .u8 0,.int .u8 0,.int .u8 0,.int .u8 0,.int .u8 0,.int .u8 0,.int .u8 0,.int .u8 0,.int .u8 0,.int .u8 0,.int .u8 0,.int .u8 0,.int .u8 0,.int .u8 0,.int .u8 0,.int .u8 0,.int .u8 0,.int .u8 0,.int .u8 0,.int .u8 0] 243):=⟨_,rfl⟩
 rw [←hW1] at hrow hbel hbel1 c0 c1 ⊢
 clear hW1
 generalize hk:w.heap.size=k at *
 have HK:=Ha hk;clear hk
 have HR:=Ha (Hb (hrow.next (Below.refl _ W1).drew) (Hb (show Below k w W1.drew from hbel.drew) hbel1))
 clear hrow hbel hbel1
 have mt:=pj
 have en1:∀ args W,(callFunc 271 args).run Tryz.prog W = .ok (.enter 271 args) W:=enters_of Tryz.func271 (by kernel_rfl) rfl
 go_still_tail 4,(by kernel_rfl)
 change wpList _ _ _ _ _ W1.drew
 have d0:W1.drew.cell? ⟨k,0,none⟩=some (.int .i64 n):=c0;have d1:W1.drew.cell? ⟨k,1,none⟩=some (.int .i64 d):=c1
 clear c0 c1
 have hsz2:W1.drew.heap.size=k+2:=HR.out.2.2
 generalize W1.drew=W2 at *
 go_wp2_with fail
 refine (C.out.1 W2 (k+1) 40 HR.out.1 (by rw [hsz2];omega) HR.out.2.1).mono ?_
 rintro e w1 ⟨g1,c1,rfl,hr1,b1⟩
 have e0:=(b1.cell (p:=⟨k,0,none⟩) (Nat.lt_succ_self k)).trans d0;have e1:=(b1.cell (p:=⟨k,1,none⟩) (Nat.lt_succ_self k)).trans d1
 have H1:=Ha (Hb hr1 (HR.out.2.1.trans (b1.mono (Nat.le_succ k))))
 have hs1:k+1≤w1.heap.size:=Nat.le_trans (by rw [hsz2];omega) b1.size
 clear hr1 b1 d0 d1 HR mt en1 hsl hsz2
 by_cases h1:d=1
 ·have HT:=Ha (show dc n d=⟨(Lib.itoa n).toArray⟩ by unfold dc mQ;rw [if_pos h1])
  have hone:((d:Int)==1)=true:=by simp [h1]
  clear h1
  go_wp2_with fail
  refine (C.out.2.1 _).mono ?_
  rintro e w1 ⟨rfl,rfl⟩
  have H2:=H1
  rw [hone]
  clear hone
  obtain ⟨m,hm⟩:∃ m,Lib.itoa n=m:=⟨_,rfl⟩
  rw [hm] at HT
  have hconv:=run_convert_bytes_back (P:=Tryz.prog) w1 115 22 5 ⟨g1,0,none⟩ c1 m gE Tryz.underlying5 Tryz.underlying22 (fun j hj=>by
   have:=H2.out.1.holds j (.int .u8 (m[j].toNat:Int)) (by rw [hm];simp [Lib.byteCells,List.getElem?_eq_getElem hj])
   rwa [←addr_add] at this)
  rw [hm]
  have H3:=Ha H2.out.2
  clear H2 hm
  go_wp2
  go_ret
  refine ⟨?_,by rw [HK.out];exact H3.out⟩
  rw [HT.out];rfl
 ·have HT:=Ha (show dc n d=⟨(Lib.itoa n ++ [47]++Lib.itoa d).toArray⟩ by unfold dc mQ;rw [if_neg h1];simp)
  have hone:((d:Int)==1)=false:=by simp [h1]
  clear h1
  go_wp2_with fail
  refine (C.out.2.1 _).mono ?_
  rintro e w1 ⟨rfl,rfl⟩
  have H2:=H1
  rw [hone]
  clear hone
  have hs2:k+1≤w1.heap.size:=hs1
  have hnl:=C.out.2.2.2
  go_wp2_with fail
  have HW:=Ha (H2.out.1.next (Below.refl _ w1).drew)
  go_region_held3 (fun w'=>w'.cell? ⟨k,0,none⟩=some (.int .i64 n)∧w'.cell? ⟨k,1,none⟩=some (.int .i64 d)) (first | exact ⟨e0,e1⟩ | (go_keep;done))
   (first
    | (refine gB rfl _ _ 115 115 rfl 5 i0 gE HI.out.1 HI.out.2.1 HI.out.2.2.1 HI.out.2.2.2 rfl rfl (H2.out.1.next (by go_grown)) _ [47] rfl (i8 gE w1.heap.size 1 [47] 1 rfl (by
      intro j u hj
      match j with
      | 0=>rw [show u=Value.int .u8 47 from (Option.some.inj hj).symm];go_cell
      | j+1=>simp [Lib.byteCells] at hj)) (by simp;omega) (by simp;omega) ?_;intro w3 g3 c3 h3 b3;have bw:=(show Below (k+1) w1 _ from by go_grown).trans b3;have e0:=(bw.cell (p:=⟨k,0,none⟩) (Nat.lt_succ_self k)).trans e0;have e1:=(bw.cell (p:=⟨k,1,none⟩) (Nat.lt_succ_self k)).trans e1;have H3:=Ha (Hb h3 (H2.out.2.trans (bw.mono (Nat.le_succ k))));have hs3:k+1≤w3.heap.size:=Nat.le_trans hs2 bw.size;clear h3 b3 bw)
    | (go_at_call 271;refine (C.out.2.2.1 w3 g3 c3 H3.out.1 hs3 H3.out.2).mono ?_;rintro e w4 ⟨g4,c4,rfl,h4,b4⟩;have e0:=(b4.cell (p:=⟨k,0,none⟩) (Nat.lt_succ_self k)).trans e0;have e1:=(b4.cell (p:=⟨k,1,none⟩) (Nat.lt_succ_self k)).trans e1;have H4:=Ha (Hb h4 (H3.out.2.trans (b4.mono (Nat.le_succ k))));clear h4 b4))
  have hconv:=run_convert_bytes_back (P:=Tryz.prog) w4 115 22 5 ⟨g4,0,none⟩ c4 (Lib.itoa n ++ [47]++Lib.itoa d) gE Tryz.underlying5 Tryz.underlying22 (fun j hj=>by
   have:=H4.out.1.holds j (.int .u8 ((Lib.itoa n ++ [47]++Lib.itoa d)[j].toNat:Int)) (by simp only [Lib.byteCells,List.getElem?_map,List.getElem?_eq_getElem hj];rfl)
   rwa [←addr_add] at this)
  have hlen3:(Lib.itoa n ++ [47]++Lib.itoa d).length=(Lib.itoa n).length+1+(Lib.itoa d).length:=by rw [List.length_append,List.length_append];rfl
  rw [hlen3] at hconv
  clear hlen3
  have H5:=Ha H4.out.2
  rw [←HT.out] at hconv
  clear H4 HT
  go_wp2
  go_ret
  exact ⟨rfl,by rw [HK.out];exact H5.out⟩
end
end Go.Proofs.YtjdomibbaemdnaaGreatDoor
