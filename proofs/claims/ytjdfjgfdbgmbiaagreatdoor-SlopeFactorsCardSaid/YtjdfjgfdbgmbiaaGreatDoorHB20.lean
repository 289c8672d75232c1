/- Parts of the proof of the text YtjdfjgfdbgmbiaaGreatDoorHB39. -/
import Derived.Deep.RegionHeld3
import Derived.BigRegion
import Derived.Shelf.Strconv.AppendUint10
import Derived.Test.YtjdfjgfdbgmbiaaGreatDoorHB1
import Derived.Test.YtjdfjgfdbgmbiaaGreatDoorHB16
import Derived.Test.YtjdfjgfdbgmbiaaGreatDoorHB17
import Derived.Test.YtjdfjgfdbgmbiaaGreatDoorHB18
import Derived.Test.YtjdfjgfdbgmbiaaGreatDoorHB2
set_option linter.all false
set_option maxRecDepth 100000
set_option maxHeartbeats 8000000
namespace Go.Proofs.YtjdfjgfdbgmbiaaGreatDoor
open Go.RowKit
theorem readMachines_no1 (a b:ByteArray) (w:World)
  (ha:∀ W,Below w.heap.size w W→Calls Tryz.prog 97 #[.string a] W fun e W'=>(∃ x y,e = .returned (.tuple #[.agg #[.int .i64 x,.int .i64 y],.bool false]))∧Below W.heap.size W W') :
  Calls Tryz.prog 69 #[.string a,.string b] w fun e W'=>(∃ x y z u,e = .returned (.tuple #[.agg #[.int .i64 x,.int .i64 y],.agg #[.int .i64 z,.int .i64 u],.bool false]))∧Below w.heap.size w W':=by
 have C:=Lib.hid ha;clear ha
 have hB:Below w.heap.size w ((w.alloc (.cells #[.int .i64 0,.int .i64 0] 83)).alloc (.cells #[.int .i64 0,.int .i64 0] 83)):=((Below.refl _ w).alloc (Nat.le_refl _) _).alloc (by simp) _
 have k0:=(Blk.new w #[.int .i64 0,.int .i64 0] 83).alloc (.cells #[.int .i64 0,.int .i64 0] 83)
 have k1:=Blk.new (w.alloc (.cells #[.int .i64 0,.int .i64 0] 83)) #[.int .i64 0,.int .i64 0] 83
 rw [World.size_alloc] at k1
 go_enter Tryz.func69,Tryz.ntmps69
 go_wp2_with fail
 generalize (w.alloc (.cells #[.int .i64 0,.int .i64 0] 83)).alloc (.cells #[.int .i64 0,.int .i64 0] 83)=W0 at *
 have HB:=Lib.hid (And.intro hB (And.intro k0 k1));clear hB k0 k1
 refine (C.out _ HB.out.1).mono ?_
 rintro e w1 ⟨⟨x,y,rfl⟩,b⟩
 have H1:=Lib.hid (And.intro (HB.out.1.trans (b.mono HB.out.1.size)) (And.intro (HB.out.2.1.next b) (HB.out.2.2.next b)));clear b HB
 go_wp2_with fail
 obtain ⟨hB,k0,k1⟩:=H1.out
 have n0:w.heap.size≠w1.heap.size:=by have:=k0.lt;omega
 have n1:w.heap.size+1≠w1.heap.size:=by have:=k1.lt;omega
 have k2:=Blk.new w1 #[.int .i64 x,.int .i64 y] 83
 have K0:=k0.alloc (.cells #[.int .i64 x,.int .i64 y] 83)
 have K1:=k1.alloc (.cells #[.int .i64 x,.int .i64 y] 83)
 have hW:=hB.alloc hB.size (.cells #[.int .i64 x,.int .i64 y] 83)
 generalize w1.alloc (.cells #[.int .i64 x,.int .i64 y] 83)=W1 at *
 generalize w1.heap.size=j at *
 clear hB k0 k1 H1
 have c0:=k2.cell 0 (.int .i64 x) rfl
 have c1:=k2.cell 1 (.int .i64 y) rfl
 clear k2
 generalize hk:w.heap.size=k at *
 have HK:=Lib.hid hk;clear hk
 have f0:=K0.free 0
 have f1:=K0.free 1
 have f2:=K1.free 0
 have f3:=K1.free 1
 have d0:=K0.cell 0 (.int .i64 0) rfl
 have d1:=K0.cell 1 (.int .i64 0) rfl
 have d2:=K1.cell 0 (.int .i64 0) rfl
 have d3:=K1.cell 1 (.int .i64 0) rfl
 have HW:=Lib.hid (And.intro hW (And.intro ((K0.put2 (.int .i64 x) (.int .i64 y)).other2 (l:=k+1) (by omega) (.int .i64 x) (.int .i64 y)).drew ((K1.other2 (l:=k) (by omega) (.int .i64 x) (.int .i64 y)).put2 (.int .i64 x) (.int .i64 y)).drew));clear hW K0 K1
 go_region_held3 (fun w'=>w'.cell? ⟨j,0,none⟩=some (.int .i64 x)∧w'.cell? ⟨j,1,none⟩=some (.int .i64 y)) (first | exact ⟨c0,c1⟩ | (go_keep;done)) (first | fail)
 clear f0 f1 f2 f3 d0 d1 d2 d3
 have g0:=HW.out.2.1.cell 0 _ rfl
 have g1:=HW.out.2.1.cell 1 _ rfl
 have g2:=HW.out.2.2.cell 0 _ rfl
 have g3:=HW.out.2.2.cell 1 _ rfl
 have HL:=Lib.hid ((below_put2 (below_put2 HW.out.1 (l:=k) (Nat.le_refl _) (.int .i64 x) (.int .i64 y)) (l:=k+1) (Nat.le_succ _) (.int .i64 x) (.int .i64 y)).drew)
 go_wp2
 refine bodyPost_ret (v := .tuple #[.agg #[.int .i64 x,.int .i64 y],.agg #[.int .i64 x,.int .i64 y],.bool false]) (by simp [results,Tryz.results69,go_sem,g0,g1,g2,g3]) rfl ?_
 exact ⟨⟨_,_,_,_,rfl⟩,by rw [HK.out];exact HL.out⟩
theorem readMachines_two (a b:ByteArray) (x y:Int) (o:Bool) (R:Int→Int→Prop) (w:World)
  (ha:CqB w 97 #[.string a] (.tuple #[.agg #[.int .i64 x,.int .i64 y],.bool true]))
  (hb:∀ W,Below w.heap.size w W→Calls Tryz.prog 97 #[.string b] W fun e W'=>(∃ z u,R z u∧e = .returned (.tuple #[.agg #[.int .i64 z,.int .i64 u],.bool o]))∧Below W.heap.size W W') :
  Calls Tryz.prog 69 #[.string a,.string b] w fun e W'=>(∃ z u,R z u∧e = .returned (.tuple #[.agg #[.int .i64 x,.int .i64 y],.agg #[.int .i64 z,.int .i64 u],.bool o]))∧Below w.heap.size w W':=by
 have C:=Lib.hid (And.intro ha hb);clear ha hb
 have hB:Below w.heap.size w ((w.alloc (.cells #[.int .i64 0,.int .i64 0] 83)).alloc (.cells #[.int .i64 0,.int .i64 0] 83)):=((Below.refl _ w).alloc (Nat.le_refl _) _).alloc (by simp) _
 have k0:=(Blk.new w #[.int .i64 0,.int .i64 0] 83).alloc (.cells #[.int .i64 0,.int .i64 0] 83)
 have k1:=Blk.new (w.alloc (.cells #[.int .i64 0,.int .i64 0] 83)) #[.int .i64 0,.int .i64 0] 83
 rw [World.size_alloc] at k1
 go_enter Tryz.func69,Tryz.ntmps69
 go_wp2_with fail
 generalize (w.alloc (.cells #[.int .i64 0,.int .i64 0] 83)).alloc (.cells #[.int .i64 0,.int .i64 0] 83)=W0 at *
 have HB:=Lib.hid (And.intro hB (And.intro k0 k1));clear hB k0 k1
 refine (C.out.1 _ HB.out.1).mono ?_
 rintro e w1 ⟨rfl,b⟩
 have H1:=Lib.hid (And.intro (HB.out.1.trans (b.mono HB.out.1.size)) (And.intro (HB.out.2.1.next b) (HB.out.2.2.next b)));clear b HB
 go_wp2_with fail
 obtain ⟨hB,k0,k1⟩:=H1.out
 have n0:w.heap.size≠w1.heap.size:=by have:=k0.lt;omega
 have n1:w.heap.size+1≠w1.heap.size:=by have:=k1.lt;omega
 have k2:=Blk.new w1 #[.int .i64 x,.int .i64 y] 83
 have K0:=k0.alloc (.cells #[.int .i64 x,.int .i64 y] 83)
 have K1:=k1.alloc (.cells #[.int .i64 x,.int .i64 y] 83)
 have hW:=hB.alloc hB.size (.cells #[.int .i64 x,.int .i64 y] 83)
 generalize w1.alloc (.cells #[.int .i64 x,.int .i64 y] 83)=W1 at *
 generalize w1.heap.size=j at *
 clear hB k0 k1 H1
 have HB:=Lib.hid (And.intro hW (And.intro K0 (And.intro K1 k2)));clear hW K0 K1 k2
 refine (C.out.2 _ HB.out.1).mono ?_
 rintro e w2 ⟨⟨z,u,hR,rfl⟩,b⟩
 have H2:=Lib.hid (And.intro (HB.out.1.trans (b.mono HB.out.1.size)) (And.intro (HB.out.2.1.next b) (And.intro (HB.out.2.2.1.next b) (HB.out.2.2.2.next b))));clear b HB
 have HR:=Lib.hid hR;clear hR
 go_wp2_with fail
 obtain ⟨hB,k0,k1,k2⟩:=H2.out
 have n2:w.heap.size≠w2.heap.size:=by have:=k0.lt;omega
 have n3:w.heap.size+1≠w2.heap.size:=by have:=k1.lt;omega
 have k3:=Blk.new w2 #[.int .i64 z,.int .i64 u] 83
 have K0:=k0.alloc (.cells #[.int .i64 z,.int .i64 u] 83)
 have K1:=k1.alloc (.cells #[.int .i64 z,.int .i64 u] 83)
 have K2:=k2.alloc (.cells #[.int .i64 z,.int .i64 u] 83)
 have hW:=hB.alloc hB.size (.cells #[.int .i64 z,.int .i64 u] 83)
 generalize w2.alloc (.cells #[.int .i64 z,.int .i64 u] 83)=W2 at *
 generalize w2.heap.size=i at *
 clear hB k0 k1 k2 H2 C
 have c0:=K2.cell 0 (.int .i64 x) rfl
 have c1:=K2.cell 1 (.int .i64 y) rfl
 have c2:=k3.cell 0 (.int .i64 z) rfl
 have c3:=k3.cell 1 (.int .i64 u) rfl
 clear K2 k3
 generalize hk:w.heap.size=k at *
 have HK:=Lib.hid hk;clear hk
 have f0:=K0.free 0
 have f1:=K0.free 1
 have f2:=K1.free 0
 have f3:=K1.free 1
 have d0:=K0.cell 0 (.int .i64 0) rfl
 have d1:=K0.cell 1 (.int .i64 0) rfl
 have d2:=K1.cell 0 (.int .i64 0) rfl
 have d3:=K1.cell 1 (.int .i64 0) rfl
 have HW:=Lib.hid (And.intro hW (And.intro ((K0.put2 (.int .i64 x) (.int .i64 y)).other2 (l:=k+1) (by omega) (.int .i64 z) (.int .i64 u)).drew ((K1.other2 (l:=k) (by omega) (.int .i64 x) (.int .i64 y)).put2 (.int .i64 z) (.int .i64 u)).drew));clear hW K0 K1
 go_region_held3 (fun w'=>w'.cell? ⟨j,0,none⟩=some (.int .i64 x)∧w'.cell? ⟨j,1,none⟩=some (.int .i64 y)∧w'.cell? ⟨i,0,none⟩=some (.int .i64 z)∧w'.cell? ⟨i,1,none⟩=some (.int .i64 u)) (first | exact ⟨c0,c1,c2,c3⟩ | (go_keep;done)) (first | fail)
 clear f0 f1 f2 f3 d0 d1 d2 d3
 have g0:=HW.out.2.1.cell 0 _ rfl
 have g1:=HW.out.2.1.cell 1 _ rfl
 have g2:=HW.out.2.2.cell 0 _ rfl
 have g3:=HW.out.2.2.cell 1 _ rfl
 have HL:=Lib.hid ((below_put2 (below_put2 HW.out.1 (l:=k) (Nat.le_refl _) (.int .i64 x) (.int .i64 y)) (l:=k+1) (Nat.le_succ _) (.int .i64 z) (.int .i64 u)).drew)
 go_wp2
 refine bodyPost_ret (v := .tuple #[.agg #[.int .i64 x,.int .i64 y],.agg #[.int .i64 z,.int .i64 u],.bool o]) (by simp [results,Tryz.results69,go_sem,g0,g1,g2,g3]) rfl ?_
 exact ⟨⟨_,_,HR.out,rfl⟩,by rw [HK.out];exact HL.out⟩
theorem far4 {w:World} {k j o:Nat} {a b c d:Value} (hne:j≠k) {v:Value} (h:w.cell? ⟨k,o,none⟩=some v):((((w.setCell ⟨j,0,none⟩ a).setCell ⟨j,1,none⟩ b).setCell ⟨j,2,none⟩ c).setCell ⟨j,3,none⟩ d).cell? ⟨k,o,none⟩=some v:=by
 have hh:∀ (W:World) (o':Nat) (u:Value),(W.setCell ⟨j,o',none⟩ u).cell? ⟨k,o,none⟩=W.cell? ⟨k,o,none⟩:=fun W o' u=>World.cell?_of_block (Below.heap_setCell _ _ _ _ (by show k≠j;omega))
 rw [hh,hh,hh,hh];exact h
theorem fourB_back {w:World} {b:Nat} {x0 x1 x2 x3:Value} (c0:w.cell? ⟨b,0,none⟩=some x0) (c1:w.cell? ⟨b,1,none⟩=some x1) (c2:w.cell? ⟨b,2,none⟩=some x2) (c3:w.cell? ⟨b,3,none⟩=some x3) (X Y Z T:Value) :
  ((((w.setCell ⟨b,0,none⟩ X).setCell ⟨b,1,none⟩ Y).setCell ⟨b,2,none⟩ Z).setCell ⟨b,3,none⟩ T).cell? ⟨b,0,none⟩=some X∧((((w.setCell ⟨b,0,none⟩ X).setCell ⟨b,1,none⟩ Y).setCell ⟨b,2,none⟩ Z).setCell ⟨b,3,none⟩ T).cell? ⟨b,1,none⟩=some Y ∧
  ((((w.setCell ⟨b,0,none⟩ X).setCell ⟨b,1,none⟩ Y).setCell ⟨b,2,none⟩ Z).setCell ⟨b,3,none⟩ T).cell? ⟨b,2,none⟩=some Z∧((((w.setCell ⟨b,0,none⟩ X).setCell ⟨b,1,none⟩ Y).setCell ⟨b,2,none⟩ Z).setCell ⟨b,3,none⟩ T).cell? ⟨b,3,none⟩=some T:=by
 refine ⟨by go_cell,by go_cell,by go_cell,by go_cell⟩
theorem productL_any (a b c d:Option Int) (w:World) (ha:Lwf a) (hb:Lwf b) (hc:Lwf c) (hd:Lwf d) (ht:Tab w) :
  Calls Tryz.prog 57 #[.agg #[.string (LB a),.int .i64 (LE a),.string (LB b),.int .i64 (LE b)],.agg #[.string (LB c),.int .i64 (LE c),.string (LB d),.int .i64 (LE d)]] w fun e W'=>e = .returned (.agg #[.string (LB (opL (· * ·) a c)),.int .i64 (LE (opL (· * ·) a c)),.string (LB (opL (· * ·) b d)),.int .i64 (LE (opL (· * ·) b d))])∧Below w.heap.size w W':=by
 have ct:=fun o p W (ho:Lwf o) (hp:Lwf p) (hW:Below w.heap.size w W)=>long_times o p W ho hp (ht.next hW)
 have cp:=fun o p W (ho:Lwf o) (hp:Lwf p) (hW:Below w.heap.size w W)=>long_plus o p W ho hp (ht.next hW)
 have cm:=fun o p W (ho:Lwf o) (hp:Lwf p) (hW:Below w.heap.size w W)=>long_minus o p W ho hp (ht.next hW)
 have C:=Lib.hid (And.intro ct (And.intro cp cm))
 clear ct cp cm ht
 go_enter Tryz.func57,Tryz.ntmps57
 go_wp2
 have hbx:Bxs w w.heap.size [[.string (LB a),.int .i64 (LE a),.string (LB b),.int .i64 (LE b)],[.string (LB c),.int .i64 (LE c),.string (LB d),.int .i64 (LE d)],[.string ⟨#[]⟩,.int .i64 0,.string ⟨#[]⟩,.int .i64 0]] (((w.alloc (.cells #[.string (LB a),.int .i64 (LE a),.string (LB b),.int .i64 (LE b)] 87)).alloc (.cells #[.string (LB c),.int .i64 (LE c),.string (LB d),.int .i64 (LE d)] 87)).alloc (.cells #[.string ⟨#[]⟩,.int .i64 0,.string ⟨#[]⟩,.int .i64 0] 87)):=(((Bxs.nil w w (Below.refl _ _)).push rfl [.string (LB a),.int .i64 (LE a),.string (LB b),.int .i64 (LE b)] 87).push (by simp) [.string (LB c),.int .i64 (LE c),.string (LB d),.int .i64 (LE d)] 87).push (by simp) [.string ⟨#[]⟩,.int .i64 0,.string ⟨#[]⟩,.int .i64 0] 87
 generalize ((w.alloc (.cells #[.string (LB a),.int .i64 (LE a),.string (LB b),.int .i64 (LE b)] 87)).alloc (.cells #[.string (LB c),.int .i64 (LE c),.string (LB d),.int .i64 (LE d)] 87)).alloc (.cells #[.string ⟨#[]⟩,.int .i64 0,.string ⟨#[]⟩,.int .i64 0] 87)=W0 at *
 generalize hk:w.heap.size=k at *
 have HK:=Lib.hid hk;clear hk
 have HB:=Lib.hid (hbx.next (Below.refl _ _).drew)
 clear hbx
 have e0:=(show _=some (.string (LB a)) from HB.out.cells 0 _ rfl 0 _ rfl);have e1:=(show _=some (.int .i64 (LE a)) from HB.out.cells 0 _ rfl 1 _ rfl);have e2:=(show _=some (.string (LB b)) from HB.out.cells 0 _ rfl 2 _ rfl);have e3:=(show _=some (.int .i64 (LE b)) from HB.out.cells 0 _ rfl 3 _ rfl);have e4:=(show _=some (.string (LB c)) from HB.out.cells 1 _ rfl 0 _ rfl);have e5:=(show _=some (.int .i64 (LE c)) from HB.out.cells 1 _ rfl 1 _ rfl);have e6:=(show _=some (.string (LB d)) from HB.out.cells 1 _ rfl 2 _ rfl);have e7:=(show _=some (.int .i64 (LE d)) from HB.out.cells 1 _ rfl 3 _ rfl);have z0:=(show World.cell? _ ⟨k+1+1,0,none⟩=some (.string ⟨#[]⟩) from HB.out.cells 2 _ rfl 0 _ rfl);have f0:=(show World.frozen? _ ⟨k+1+1,0,none⟩=false from HB.out.frozen 2 (by simp) 0);have z1:=(show World.cell? _ ⟨k+1+1,1,none⟩=some (.int .i64 0) from HB.out.cells 2 _ rfl 1 _ rfl);have f1:=(show World.frozen? _ ⟨k+1+1,1,none⟩=false from HB.out.frozen 2 (by simp) 1);have z2:=(show World.cell? _ ⟨k+1+1,2,none⟩=some (.string ⟨#[]⟩) from HB.out.cells 2 _ rfl 2 _ rfl);have f2:=(show World.frozen? _ ⟨k+1+1,2,none⟩=false from HB.out.frozen 2 (by simp) 2);have z3:=(show World.cell? _ ⟨k+1+1,3,none⟩=some (.int .i64 0) from HB.out.cells 2 _ rfl 3 _ rfl);have f3:=(show World.frozen? _ ⟨k+1+1,3,none⟩=false from HB.out.frozen 2 (by simp) 3)
 go_region_held3 (fun w'=>w'.cell? ⟨k,0,none⟩=some (.string (LB a))∧w'.cell? ⟨k,1,none⟩=some (.int .i64 (LE a))∧w'.cell? ⟨k,2,none⟩=some (.string (LB b))∧w'.cell? ⟨k,3,none⟩=some (.int .i64 (LE b))∧w'.cell? ⟨k+1,0,none⟩=some (.string (LB c))∧w'.cell? ⟨k+1,1,none⟩=some (.int .i64 (LE c))∧w'.cell? ⟨k+1,2,none⟩=some (.string (LB d))∧w'.cell? ⟨k+1,3,none⟩=some (.int .i64 (LE d))) (first | exact ⟨e0,e1,e2,e3,e4,e5,e6,e7⟩ | (go_keep;done) | ((try dsimp only);refine ⟨?_,?_,?_,?_,?_,?_,?_,?_⟩ <;> (exact far4 (by omega) (by assumption))))
  (first | (go_at_call 309;refine (C.out.1 _ _ _ (by first | assumption | exact opL_wf _ _ _) (by first | assumption | exact opL_wf _ _ _) (by have:=HB.out.below;rwa [HK.out] at this)).mono ?_;rintro e w1 ⟨rfl,hbw⟩;have HN:=Lib.hid (HB.out.next hbw);clear HB hbw;have HB:=HN;clear HN;have e0:=(show _=some (.string (LB a)) from HB.out.cells 0 _ rfl 0 _ rfl);have e1:=(show _=some (.int .i64 (LE a)) from HB.out.cells 0 _ rfl 1 _ rfl);have e2:=(show _=some (.string (LB b)) from HB.out.cells 0 _ rfl 2 _ rfl);have e3:=(show _=some (.int .i64 (LE b)) from HB.out.cells 0 _ rfl 3 _ rfl);have e4:=(show _=some (.string (LB c)) from HB.out.cells 1 _ rfl 0 _ rfl);have e5:=(show _=some (.int .i64 (LE c)) from HB.out.cells 1 _ rfl 1 _ rfl);have e6:=(show _=some (.string (LB d)) from HB.out.cells 1 _ rfl 2 _ rfl);have e7:=(show _=some (.int .i64 (LE d)) from HB.out.cells 1 _ rfl 3 _ rfl);have z0:=(show World.cell? _ ⟨k+1+1,0,none⟩=some (.string ⟨#[]⟩) from HB.out.cells 2 _ rfl 0 _ rfl);have f0:=(show World.frozen? _ ⟨k+1+1,0,none⟩=false from HB.out.frozen 2 (by simp) 0);have z1:=(show World.cell? _ ⟨k+1+1,1,none⟩=some (.int .i64 0) from HB.out.cells 2 _ rfl 1 _ rfl);have f1:=(show World.frozen? _ ⟨k+1+1,1,none⟩=false from HB.out.frozen 2 (by simp) 1);have z2:=(show World.cell? _ ⟨k+1+1,2,none⟩=some (.string ⟨#[]⟩) from HB.out.cells 2 _ rfl 2 _ rfl);have f2:=(show World.frozen? _ ⟨k+1+1,2,none⟩=false from HB.out.frozen 2 (by simp) 2);have z3:=(show World.cell? _ ⟨k+1+1,3,none⟩=some (.int .i64 0) from HB.out.cells 2 _ rfl 3 _ rfl);have f3:=(show World.frozen? _ ⟨k+1+1,3,none⟩=false from HB.out.frozen 2 (by simp) 3)))
 have e0:=(show _=some (.string (LB a)) from HB.out.cells 0 _ rfl 0 _ rfl);have e1:=(show _=some (.int .i64 (LE a)) from HB.out.cells 0 _ rfl 1 _ rfl);have e2:=(show _=some (.string (LB b)) from HB.out.cells 0 _ rfl 2 _ rfl);have e3:=(show _=some (.int .i64 (LE b)) from HB.out.cells 0 _ rfl 3 _ rfl);have e4:=(show _=some (.string (LB c)) from HB.out.cells 1 _ rfl 0 _ rfl);have e5:=(show _=some (.int .i64 (LE c)) from HB.out.cells 1 _ rfl 1 _ rfl);have e6:=(show _=some (.string (LB d)) from HB.out.cells 1 _ rfl 2 _ rfl);have e7:=(show _=some (.int .i64 (LE d)) from HB.out.cells 1 _ rfl 3 _ rfl);have z0:=(show World.cell? _ ⟨k+1+1,0,none⟩=some (.string ⟨#[]⟩) from HB.out.cells 2 _ rfl 0 _ rfl);have f0:=(show World.frozen? _ ⟨k+1+1,0,none⟩=false from HB.out.frozen 2 (by simp) 0);have z1:=(show World.cell? _ ⟨k+1+1,1,none⟩=some (.int .i64 0) from HB.out.cells 2 _ rfl 1 _ rfl);have f1:=(show World.frozen? _ ⟨k+1+1,1,none⟩=false from HB.out.frozen 2 (by simp) 1);have z2:=(show World.cell? _ ⟨k+1+1,2,none⟩=some (.string ⟨#[]⟩) from HB.out.cells 2 _ rfl 2 _ rfl);have f2:=(show World.frozen? _ ⟨k+1+1,2,none⟩=false from HB.out.frozen 2 (by simp) 2);have z3:=(show World.cell? _ ⟨k+1+1,3,none⟩=some (.int .i64 0) from HB.out.cells 2 _ rfl 3 _ rfl);have f3:=(show World.frozen? _ ⟨k+1+1,3,none⟩=false from HB.out.frozen 2 (by simp) 3)
 obtain ⟨g0,g1,g2,g3⟩:=fourB_back z0 z1 z2 z3 (.string (LB (opL (· * ·) a c))) (.int .i64 (LE (opL (· * ·) a c))) (.string (LB (opL (· * ·) b d))) (.int .i64 (LE (opL (· * ·) b d)))
 go_wp2
 refine bodyPost_ret (v := .agg #[.string (LB (opL (· * ·) a c)),.int .i64 (LE (opL (· * ·) a c)),.string (LB (opL (· * ·) b d)),.int .i64 (LE (opL (· * ·) b d))]) (by simp [results,Tryz.results57,go_sem,g0,g1,g2,g3]) rfl ?_
 refine ⟨rfl,?_⟩
 have hbl:=HB.out.below
 rw [HK.out] at hbl ⊢
 exact (((hbl.setCell (p:=⟨k+1+1,0,none⟩) (by show k≤k+1+1;omega) _).setCell (p:=⟨k+1+1,1,none⟩) (by show k≤k+1+1;omega) _).setCell (p:=⟨k+1+1,2,none⟩) (by show k≤k+1+1;omega) _).setCell (p:=⟨k+1+1,3,none⟩) (by show k≤k+1+1;omega) _
theorem ratioL_any (a b c d:Option Int) (w:World) (ha:Lwf a) (hb:Lwf b) (hc:Lwf c) (hd:Lwf d) (ht:Tab w) :
  Calls Tryz.prog 79 #[.agg #[.string (LB a),.int .i64 (LE a),.string (LB b),.int .i64 (LE b)],.agg #[.string (LB c),.int .i64 (LE c),.string (LB d),.int .i64 (LE d)]] w fun e W'=>e = .returned (.agg #[.string (LB (opL (· * ·) a d)),.int .i64 (LE (opL (· * ·) a d)),.string (LB (opL (· * ·) c b)),.int .i64 (LE (opL (· * ·) c b))])∧Below w.heap.size w W':=by
 have ct:=fun o p W (ho:Lwf o) (hp:Lwf p) (hW:Below w.heap.size w W)=>long_times o p W ho hp (ht.next hW)
 have cp:=fun o p W (ho:Lwf o) (hp:Lwf p) (hW:Below w.heap.size w W)=>long_plus o p W ho hp (ht.next hW)
 have cm:=fun o p W (ho:Lwf o) (hp:Lwf p) (hW:Below w.heap.size w W)=>long_minus o p W ho hp (ht.next hW)
 have C:=Lib.hid (And.intro ct (And.intro cp cm))
 clear ct cp cm ht
 go_enter Tryz.func79,Tryz.ntmps79
 go_wp2
 have hbx:Bxs w w.heap.size [[.string (LB a),.int .i64 (LE a),.string (LB b),.int .i64 (LE b)],[.string (LB c),.int .i64 (LE c),.string (LB d),.int .i64 (LE d)],[.string ⟨#[]⟩,.int .i64 0,.string ⟨#[]⟩,.int .i64 0]] (((w.alloc (.cells #[.string (LB a),.int .i64 (LE a),.string (LB b),.int .i64 (LE b)] 87)).alloc (.cells #[.string (LB c),.int .i64 (LE c),.string (LB d),.int .i64 (LE d)] 87)).alloc (.cells #[.string ⟨#[]⟩,.int .i64 0,.string ⟨#[]⟩,.int .i64 0] 87)):=(((Bxs.nil w w (Below.refl _ _)).push rfl [.string (LB a),.int .i64 (LE a),.string (LB b),.int .i64 (LE b)] 87).push (by simp) [.string (LB c),.int .i64 (LE c),.string (LB d),.int .i64 (LE d)] 87).push (by simp) [.string ⟨#[]⟩,.int .i64 0,.string ⟨#[]⟩,.int .i64 0] 87
 generalize ((w.alloc (.cells #[.string (LB a),.int .i64 (LE a),.string (LB b),.int .i64 (LE b)] 87)).alloc (.cells #[.string (LB c),.int .i64 (LE c),.string (LB d),.int .i64 (LE d)] 87)).alloc (.cells #[.string ⟨#[]⟩,.int .i64 0,.string ⟨#[]⟩,.int .i64 0] 87)=W0 at *
 generalize hk:w.heap.size=k at *
 have HK:=Lib.hid hk;clear hk
 have HB:=Lib.hid (hbx.next (Below.refl _ _).drew)
 clear hbx
 have e0:=(show _=some (.string (LB a)) from HB.out.cells 0 _ rfl 0 _ rfl);have e1:=(show _=some (.int .i64 (LE a)) from HB.out.cells 0 _ rfl 1 _ rfl);have e2:=(show _=some (.string (LB b)) from HB.out.cells 0 _ rfl 2 _ rfl);have e3:=(show _=some (.int .i64 (LE b)) from HB.out.cells 0 _ rfl 3 _ rfl);have e4:=(show _=some (.string (LB c)) from HB.out.cells 1 _ rfl 0 _ rfl);have e5:=(show _=some (.int .i64 (LE c)) from HB.out.cells 1 _ rfl 1 _ rfl);have e6:=(show _=some (.string (LB d)) from HB.out.cells 1 _ rfl 2 _ rfl);have e7:=(show _=some (.int .i64 (LE d)) from HB.out.cells 1 _ rfl 3 _ rfl);have z0:=(show World.cell? _ ⟨k+1+1,0,none⟩=some (.string ⟨#[]⟩) from HB.out.cells 2 _ rfl 0 _ rfl);have f0:=(show World.frozen? _ ⟨k+1+1,0,none⟩=false from HB.out.frozen 2 (by simp) 0);have z1:=(show World.cell? _ ⟨k+1+1,1,none⟩=some (.int .i64 0) from HB.out.cells 2 _ rfl 1 _ rfl);have f1:=(show World.frozen? _ ⟨k+1+1,1,none⟩=false from HB.out.frozen 2 (by simp) 1);have z2:=(show World.cell? _ ⟨k+1+1,2,none⟩=some (.string ⟨#[]⟩) from HB.out.cells 2 _ rfl 2 _ rfl);have f2:=(show World.frozen? _ ⟨k+1+1,2,none⟩=false from HB.out.frozen 2 (by simp) 2);have z3:=(show World.cell? _ ⟨k+1+1,3,none⟩=some (.int .i64 0) from HB.out.cells 2 _ rfl 3 _ rfl);have f3:=(show World.frozen? _ ⟨k+1+1,3,none⟩=false from HB.out.frozen 2 (by simp) 3)
 go_region_held3 (fun w'=>w'.cell? ⟨k,0,none⟩=some (.string (LB a))∧w'.cell? ⟨k,1,none⟩=some (.int .i64 (LE a))∧w'.cell? ⟨k,2,none⟩=some (.string (LB b))∧w'.cell? ⟨k,3,none⟩=some (.int .i64 (LE b))∧w'.cell? ⟨k+1,0,none⟩=some (.string (LB c))∧w'.cell? ⟨k+1,1,none⟩=some (.int .i64 (LE c))∧w'.cell? ⟨k+1,2,none⟩=some (.string (LB d))∧w'.cell? ⟨k+1,3,none⟩=some (.int .i64 (LE d))) (first | exact ⟨e0,e1,e2,e3,e4,e5,e6,e7⟩ | (go_keep;done) | ((try dsimp only);refine ⟨?_,?_,?_,?_,?_,?_,?_,?_⟩ <;> (exact far4 (by omega) (by assumption))))
  (first | (go_at_call 309;refine (C.out.1 _ _ _ (by first | assumption | exact opL_wf _ _ _) (by first | assumption | exact opL_wf _ _ _) (by have:=HB.out.below;rwa [HK.out] at this)).mono ?_;rintro e w1 ⟨rfl,hbw⟩;have HN:=Lib.hid (HB.out.next hbw);clear HB hbw;have HB:=HN;clear HN;have e0:=(show _=some (.string (LB a)) from HB.out.cells 0 _ rfl 0 _ rfl);have e1:=(show _=some (.int .i64 (LE a)) from HB.out.cells 0 _ rfl 1 _ rfl);have e2:=(show _=some (.string (LB b)) from HB.out.cells 0 _ rfl 2 _ rfl);have e3:=(show _=some (.int .i64 (LE b)) from HB.out.cells 0 _ rfl 3 _ rfl);have e4:=(show _=some (.string (LB c)) from HB.out.cells 1 _ rfl 0 _ rfl);have e5:=(show _=some (.int .i64 (LE c)) from HB.out.cells 1 _ rfl 1 _ rfl);have e6:=(show _=some (.string (LB d)) from HB.out.cells 1 _ rfl 2 _ rfl);have e7:=(show _=some (.int .i64 (LE d)) from HB.out.cells 1 _ rfl 3 _ rfl);have z0:=(show World.cell? _ ⟨k+1+1,0,none⟩=some (.string ⟨#[]⟩) from HB.out.cells 2 _ rfl 0 _ rfl);have f0:=(show World.frozen? _ ⟨k+1+1,0,none⟩=false from HB.out.frozen 2 (by simp) 0);have z1:=(show World.cell? _ ⟨k+1+1,1,none⟩=some (.int .i64 0) from HB.out.cells 2 _ rfl 1 _ rfl);have f1:=(show World.frozen? _ ⟨k+1+1,1,none⟩=false from HB.out.frozen 2 (by simp) 1);have z2:=(show World.cell? _ ⟨k+1+1,2,none⟩=some (.string ⟨#[]⟩) from HB.out.cells 2 _ rfl 2 _ rfl);have f2:=(show World.frozen? _ ⟨k+1+1,2,none⟩=false from HB.out.frozen 2 (by simp) 2);have z3:=(show World.cell? _ ⟨k+1+1,3,none⟩=some (.int .i64 0) from HB.out.cells 2 _ rfl 3 _ rfl);have f3:=(show World.frozen? _ ⟨k+1+1,3,none⟩=false from HB.out.frozen 2 (by simp) 3)))
 have e0:=(show _=some (.string (LB a)) from HB.out.cells 0 _ rfl 0 _ rfl);have e1:=(show _=some (.int .i64 (LE a)) from HB.out.cells 0 _ rfl 1 _ rfl);have e2:=(show _=some (.string (LB b)) from HB.out.cells 0 _ rfl 2 _ rfl);have e3:=(show _=some (.int .i64 (LE b)) from HB.out.cells 0 _ rfl 3 _ rfl);have e4:=(show _=some (.string (LB c)) from HB.out.cells 1 _ rfl 0 _ rfl);have e5:=(show _=some (.int .i64 (LE c)) from HB.out.cells 1 _ rfl 1 _ rfl);have e6:=(show _=some (.string (LB d)) from HB.out.cells 1 _ rfl 2 _ rfl);have e7:=(show _=some (.int .i64 (LE d)) from HB.out.cells 1 _ rfl 3 _ rfl);have z0:=(show World.cell? _ ⟨k+1+1,0,none⟩=some (.string ⟨#[]⟩) from HB.out.cells 2 _ rfl 0 _ rfl);have f0:=(show World.frozen? _ ⟨k+1+1,0,none⟩=false from HB.out.frozen 2 (by simp) 0);have z1:=(show World.cell? _ ⟨k+1+1,1,none⟩=some (.int .i64 0) from HB.out.cells 2 _ rfl 1 _ rfl);have f1:=(show World.frozen? _ ⟨k+1+1,1,none⟩=false from HB.out.frozen 2 (by simp) 1);have z2:=(show World.cell? _ ⟨k+1+1,2,none⟩=some (.string ⟨#[]⟩) from HB.out.cells 2 _ rfl 2 _ rfl);have f2:=(show World.frozen? _ ⟨k+1+1,2,none⟩=false from HB.out.frozen 2 (by simp) 2);have z3:=(show World.cell? _ ⟨k+1+1,3,none⟩=some (.int .i64 0) from HB.out.cells 2 _ rfl 3 _ rfl);have f3:=(show World.frozen? _ ⟨k+1+1,3,none⟩=false from HB.out.frozen 2 (by simp) 3)
 obtain ⟨g0,g1,g2,g3⟩:=fourB_back z0 z1 z2 z3 (.string (LB (opL (· * ·) a d))) (.int .i64 (LE (opL (· * ·) a d))) (.string (LB (opL (· * ·) c b))) (.int .i64 (LE (opL (· * ·) c b)))
 go_wp2
 refine bodyPost_ret (v := .agg #[.string (LB (opL (· * ·) a d)),.int .i64 (LE (opL (· * ·) a d)),.string (LB (opL (· * ·) c b)),.int .i64 (LE (opL (· * ·) c b))]) (by simp [results,Tryz.results79,go_sem,g0,g1,g2,g3]) rfl ?_
 refine ⟨rfl,?_⟩
 have hbl:=HB.out.below
 rw [HK.out] at hbl ⊢
 exact (((hbl.setCell (p:=⟨k+1+1,0,none⟩) (by show k≤k+1+1;omega) _).setCell (p:=⟨k+1+1,1,none⟩) (by show k≤k+1+1;omega) _).setCell (p:=⟨k+1+1,2,none⟩) (by show k≤k+1+1;omega) _).setCell (p:=⟨k+1+1,3,none⟩) (by show k≤k+1+1;omega) _
end Go.Proofs.YtjdfjgfdbgmbiaaGreatDoor
namespace Go.Proofs.YtjdfjgfdbgmbiaaGreatDoor
open Go.RowKit Go.Sort
theorem u8_ty:Tryz.prog.underlying 152=some (.slice 5):=Tryz.underlying152
theorem appUint_small (B u n:Nat) (l:List UInt8) (g cap:Nat) (hn:n=l.length) (hu:u<100) (w:World) (h:RowR B w l g cap) (hB:B≤w.heap.size) (hb:l.length+20≤140737488355328) :
  Calls Tryz.prog 240 #[.slice (some ⟨g,0,none⟩) n cap,.int .u64 u,.int .i64 10] w fun e W'=>∃ g' cap',e = .returned (.slice (some ⟨g',0,none⟩) (n+(Lib.decDigits u).length) cap')∧RowR B W' (l++Lib.decDigits u) g' cap'∧Below B w W':=by
 obtain ⟨i0,hi,hz0,hz1,hz2⟩:=info_parts info_u8
 have HI:=Lib.hid (And.intro hi (And.intro hz0 (And.intro hz1 hz2)));clear hi hz0 hz1 hz2
 have hlen:(Lib.decDigits u).length≤20:=by
  rw [Lib.decDigits_length]
  exact (nDigits_le_iff u 20 (by decide)).2 (Nat.lt_of_lt_of_le hu (by decide))
 have cs:=fun W=>Tryz.internal_strconv_small u hu W
 obtain ⟨s,hs⟩:∃ s:ByteArray,s=⟨(Lib.decDigits u).toArray⟩:=⟨_,rfl⟩
 rw [←hs] at cs
 have hsd:s.data.toList=Lib.decDigits u:=by rw [hs]
 have HH:=Lib.hid (And.intro h (And.intro hsd (And.intro hn hlen)))
 have iu:¬ (100:Int)≤(u:Int):=by omega
 have C:=Lib.hid cs
 clear h hs hsd hn hlen cs
 generalize Lib.decDigits u=m at *
 go_enter Tryz.func240,Tryz.ntmps240
 go_wp2_with (first
  | (go_at_call 143;refine (C.out _).mono ?_;rintro e w' ⟨rfl,rfl⟩)
  | (at_builtin;refine wpList_append_rowR rfl _ _ 152 9 rfl 5 i0 u8_ty HI.out.1 HI.out.2.1 HI.out.2.2.1 HI.out.2.2.2 HH.out.2.2.1 rfl HH.out.1 (.string s) s.data.toList rfl (src_string Tryz.underlying9 s) (by rw [HH.out.2.1];have:=HH.out.2.2.2;omega) hB ?_;intro w1 g1 c1 h1 hb1))
 have H1:=Lib.hid (And.intro h1 hb1);clear h1 hb1
 go_wp2
 go_ret
 have h2:=HH.out.2.1
 exact ⟨g1,c1,by rw [←h2];rfl,by have:=H1.out.1;rwa [h2] at this,H1.out.2⟩
theorem appUint_big (B u n:Nat) (l:List UInt8) (g cap:Nat) (hn:n=l.length) (hu:100≤u) (hu64:u<18446744073709551616) (w:World) (h:RowR B w l g cap) (hB:B≤w.heap.size) (hb:l.length+20≤140737488355328) (ht:Tab w) :
  Calls Tryz.prog 240 #[.slice (some ⟨g,0,none⟩) n cap,.int .u64 u,.int .i64 10] w fun e W'=>∃ g' cap',e = .returned (.slice (some ⟨g',0,none⟩) (n+(Lib.decDigits u).length) cap')∧RowR B W' (l++Lib.decDigits u) g' cap'∧Below B w W':=by
 obtain ⟨i0,hi,hz0,hz1,hz2⟩:=info_parts info_u8
 have HI:=Lib.hid (And.intro hi (And.intro hz0 (And.intro hz1 hz2)));clear hi hz0 hz1 hz2
 have hu1:1≤u:=by omega
 have hnd20:Lib.nDigits u≤20:=(nDigits_le_iff u 20 (by decide)).2 (Nat.lt_of_lt_of_le hu64 (by decide))
 have hal:Tryz.prog.arrayLen 178=24:=by simp [Program.arrayLen,Tryz.underlying178]
 have hsl:∀ W,(Instr.sliceAt 178 (.pointer (some ⟨w.heap.size,0,none⟩)) none (some (.int .i64 (Lib.nDigits u:Int))) none).run Tryz.prog W = .ok (.slice (some ⟨w.heap.size,0,none⟩) (Lib.nDigits u) 24) W:=fun W=>by
  rw [run_sliceAt_array_h W 178 ⟨w.heap.size,0,none⟩ (by simp [Program.arrayLen,Program.elem,Tryz.underlying178]) .i64 (Lib.nDigits u:Int) (by omega) (by rw [hal];omega)]
  go_simp
 have hH0:=Lib.holds_zero0 w 178 (Lib.nDigits u) (by omega)
 have hfmt:=Tryz.internal_strconv_formatBase10 w.heap.size 0 24 u (Array.replicate (Lib.nDigits u) 0) (w.alloc (.cells Lib.zeros24 178)) hH0 (by rw [Array.size_replicate];exact Lib.lt_pow_nDigits u) hu64 (by rw [Array.size_replicate];omega)
 rw [Array.size_replicate] at hfmt
 have hnum:=fun W hW=>Tryz.internal_strconv_numDigits u hu1 hu64 W hW
 have HH0:=Lib.hid (And.intro hH0 (And.intro hfmt hnum))
 have HH:=Lib.hid (And.intro h (And.intro hn ht))
 have iu:(100:Int)≤(u:Int):=by omega
 clear hH0 hal hfmt h hn ht hnum
 go_enter Tryz.func240,Tryz.ntmps240
 go_wp2_with (first
  | (go_at_call 144;refine (HH0.out.2.2 _ (Lib.tabIs_alloc HH.out.2.2 _)).mono ?_;rintro e w' ⟨rfl,rfl⟩))
 go_at_call 145
 refine HH0.out.2.1.mono ?_
 rintro e w' ⟨rfl,k,v',dk,rfl,hF⟩
 have hcells:∀ j u',(Lib.byteCells (Lib.decDigits u))[j]? = some u'→((putRow (fun (b:UInt8)=>Value.int .u8 (b.toNat:Int)) (w.alloc (.cells Lib.zeros24 178)) w.heap.size 0 dk).drewN k).cell? ⟨w.heap.size,j,none⟩=some u':=by
  intro j u' hj
  have hjl:j<(Lib.decDigits u).length:=by
   have h5:=(List.getElem?_eq_some_iff.1 hj).1
   rwa [Lib.byteCells_length] at h5
  have e5:(Lib.byteCells (Lib.decDigits u))[j]? = some (Value.int .u8 ((Lib.decDigits u)[j].toNat:Int)):=by simp [Lib.byteCells,hjl]
  rw [e5] at hj
  cases hj
  rw [Lib.row_is_numeral hF j hjl,World.cell?_drewN]
  have:=cell?_putRow (fun (b:UInt8)=>Value.int .u8 (b.toNat:Int)) _ w.heap.size 0 _ dk HH0.out.1 (by rw [hF.size,Array.size_replicate]) j (by rw [hF.size];rw [Lib.decDigits_length] at hjl;exact hjl)
  rwa [Nat.zero_add] at this
 obtain ⟨os,eo⟩:=Lib.fin_at w (.cells Lib.zeros24 178) dk k 0
 have hnx2:Below w.heap.size w ((putRow (fun (b:UInt8)=>Value.int .u8 (b.toNat:Int)) (w.alloc (.cells Lib.zeros24 178)) w.heap.size 0 dk).drewN k):=by rw [eo];exact Lib.below_grow w.heap.size w (Nat.le_refl _) k os
 generalize (putRow (fun (b:UInt8)=>Value.int .u8 (b.toNat:Int)) (w.alloc (.cells Lib.zeros24 178)) w.heap.size 0 dk).drewN k=W2 at *
 have HX:=Lib.hid (And.intro (HH.out.1.next hnx2) (And.intro hcells hnx2))
 have hdl:=Lib.decDigits_length u
 clear eo hcells hnx2 hF
 have hB2:B≤W2.heap.size:=Nat.le_trans hB HX.out.2.2.size
 generalize hm:Lib.decDigits u=m at *
 have HM:=Lib.hid hm
 clear hm
 generalize Lib.nDigits u=nd at *
 subst hdl
 go_wp2_with (at_builtin;refine wpList_append_rowR rfl _ _ 152 152 rfl 5 i0 u8_ty HI.out.1 HI.out.2.1 HI.out.2.2.1 HI.out.2.2.2 HH.out.2.1 rfl HX.out.1 _ m rfl (src_bytes u8_ty w.heap.size 24 m _ rfl HX.out.2.1) (by omega) hB2 ?_;intro w1 g1 c1 h1 hb1)
 have H1:=Lib.hid (And.intro h1 hb1);clear h1 hb1
 go_wp2
 go_ret
 rw [HM.out]
 exact ⟨g1,c1,rfl,H1.out.1,(HX.out.2.2.mono hB).trans H1.out.2⟩
theorem appUint_any (B u n:Nat) (l:List UInt8) (g cap:Nat) (hn:n=l.length) (hu64:u<18446744073709551616) (w:World) (h:RowR B w l g cap) (hB:B≤w.heap.size) (hb:l.length+20≤140737488355328) (ht:Tab w) :
  Calls Tryz.prog 240 #[.slice (some ⟨g,0,none⟩) n cap,.int .u64 u,.int .i64 10] w fun e W'=>∃ g' cap',e = .returned (.slice (some ⟨g',0,none⟩) (n+(Lib.decDigits u).length) cap')∧RowR B W' (l++Lib.decDigits u) g' cap'∧Below B w W':=by
 by_cases hu:u<100
 ·exact appUint_small B u n l g cap hn hu w h hB hb
 ·exact appUint_big B u n l g cap hn (by omega) hu64 w h hB hb ht
theorem iAppInt_any (B n:Nat) (z:Int) (l:List UInt8) (g cap:Nat) (hn:n=l.length) (h0 : -9223372036854775808<z) (h1:z≤9223372036854775807) (w:World) (h:RowR B w l g cap) (hB:B≤w.heap.size) (hb:l.length+30≤140737488355328) (ht:Tab w) (hBt:Tab w→∀ W,Below B w W→Tab W) :
  Calls Tryz.prog 300 #[.slice (some ⟨g,0,none⟩) n cap,.int .i64 z,.int .i64 10] w fun e W'=>∃ g' cap',e = .returned (.slice (some ⟨g',0,none⟩) (n+(Lib.itoa z).length) cap')∧RowR B W' (l++Lib.itoa z) g' cap'∧Below B w W':=by
 obtain ⟨i0,hi,hz0,hz1,hz2⟩:=info_parts info_u8
 have HI:=Lib.hid (And.intro hi (And.intro hz0 (And.intro hz1 hz2)));clear hi hz0 hz1 hz2
 by_cases hz:z<0
 ·have hit:Lib.itoa z = [45]++Lib.decDigits z.natAbs:=by
   have:=Lib.itoa_neg z.natAbs (by omega)
   rw [show (-(z.natAbs:Int))=z by omega] at this
   exact this
  have c:=fun W g' c' (hr:RowR B W (l ++ [45]) g' c') (hw:Below B w W)=>appUint_any B z.natAbs (n+1) (l ++ [45]) g' c' (by rw [hn];simp) (by omega) W hr (Nat.le_trans hB hw.size) (by simp;omega) (hBt ht W hw)
  have HH:=Lib.hid (And.intro (h.next ((Below.refl _ w).alloc (Nat.le_refl _) (.cells #[.int .u8 45] 5))) (And.intro hn hb))
  have C:=Lib.hid c
  have HT:=Lib.hid hit
  have hB1:B≤(w.alloc (.cells #[.int .u8 45] 5)).heap.size:=by simp;omega
  have hb1:Below B w (w.alloc (.cells #[.int .u8 45] 5)):=(Below.refl B w).alloc hB _
  clear h hn hb ht hBt hit c
  have hcell:∀ j u,(Lib.byteCells [45])[j]? = some u→(w.alloc (.cells #[.int .u8 45] 5)).cell? ⟨w.heap.size,j,none⟩=some u:=by
   intro j u hj
   match j with
   | 0=>rw [show u=Value.int .u8 45 from (Option.some.inj hj).symm];go_cell
   | j+1=>simp [Lib.byteCells] at hj
  have HC:=Lib.hid hcell
  clear hcell
  have ew:IntKind.u64.wrap (-(IntKind.u64.wrap z))=(z.natAbs:Int):=by rw [IntKind.wrap_u64,IntKind.wrap_u64];omega
  go_enter Tryz.func300,Tryz.ntmps300
  go_wp2_with (at_builtin;refine wpList_append_rowR rfl _ _ 152 152 rfl 5 i0 u8_ty HI.out.1 HI.out.2.1 HI.out.2.2.1 HI.out.2.2.2 HH.out.2.1 rfl HH.out.1 _ [45] rfl (src_bytes u8_ty w.heap.size 1 [45] 1 rfl HC.out) (by have:=HH.out.2.2;simp;omega) hB1 ?_;intro w1 g1 c1 hr1 hb2)
  have H1:=Lib.hid (And.intro hr1 (hb1.trans hb2));clear hr1 hb2
  refine (C.out w1 g1 c1 H1.out.1 H1.out.2).mono ?_
  rintro e w2 ⟨g2,c2,rfl,h2,b2⟩
  have H2:=Lib.hid (And.intro h2 (H1.out.2.trans b2));clear h2 b2
  go_wp2
  go_ret
  rw [HT.out]
  exact ⟨g2,c2,by rw [List.length_append,Nat.add_assoc];rfl,by have:=H2.out.1;rwa [List.append_assoc] at this,H2.out.2⟩
 ·have hit:Lib.itoa z=Lib.decDigits z.natAbs:=by
   have:=Lib.itoa_nonneg z.natAbs
   rwa [show ((z.natAbs:Nat):Int)=z by omega] at this
  have c:=appUint_any B z.natAbs n l g cap hn (by omega) w h hB (by omega) ht
  have C:=Lib.hid c
  have HT:=Lib.hid hit
  have ew:IntKind.u64.wrap z=(z.natAbs:Int):=by rw [IntKind.wrap_u64];omega
  clear h hn hb ht hBt hit c
  go_enter Tryz.func300,Tryz.ntmps300
  go_wp2_with fail
  refine C.out.mono ?_
  rintro e w2 ⟨g2,c2,rfl,h2,b2⟩
  have H2:=Lib.hid (And.intro h2 b2);clear h2 b2
  go_wp2
  go_ret
  rw [HT.out]
  exact ⟨g2,c2,rfl,H2.out.1,H2.out.2⟩
theorem appInt_any (B n:Nat) (z:Int) (l:List UInt8) (g cap:Nat) (hn:n=l.length) (h0 : -9223372036854775808<z) (h1:z≤9223372036854775807) (w:World) (h:RowR B w l g cap) (hB:B≤w.heap.size) (hb:l.length+30≤140737488355328) (ht:Tab w) (hBt:Tab w→∀ W,Below B w W→Tab W) :
  Calls Tryz.prog 298 #[.slice (some ⟨g,0,none⟩) n cap,.int .i64 z,.int .i64 10] w fun e W'=>∃ g' cap',e = .returned (.slice (some ⟨g',0,none⟩) (n+(Lib.itoa z).length) cap')∧RowR B W' (l++Lib.itoa z) g' cap'∧Below B w W':=by
 have C:=Lib.hid (iAppInt_any B n z l g cap hn h0 h1 w h hB hb ht hBt)
 clear h hn hb ht hBt h0 h1
 go_enter Tryz.func298,Tryz.ntmps298
 go_wp2_with fail
 refine C.out.mono ?_
 rintro e w2 ⟨g2,c2,rfl,h2,b2⟩
 have H2:=Lib.hid (And.intro h2 b2);clear h2 b2
 go_wp2
 go_ret
 exact ⟨g2,c2,rfl,H2.out.1,H2.out.2⟩
theorem mach_append (B n:Nat) (z:Int) (l:List UInt8) (g cap:Nat) (hn:n=l.length) (h0 : -9223372036854775808<z) (h1:z≤9223372036854775807) (w:World) (h:RowR B w l g cap) (hB:B≤w.heap.size) (hb:l.length+30≤140737488355328) (ht:Tab w) (hBt:Tab w→∀ W,Below B w W→Tab W) :
  Calls Tryz.prog 289 #[.int .i64 z,.slice (some ⟨g,0,none⟩) n cap] w fun e W'=>∃ g' cap',e = .returned (.slice (some ⟨g',0,none⟩) (n+(Lib.itoa z).length) cap')∧RowR B W' (l++Lib.itoa z) g' cap'∧Below B w W':=by
 have C:=Lib.hid (appInt_any B n z l g cap hn h0 h1 w h hB hb ht hBt)
 clear h hn hb ht hBt h0 h1
 go_enter Tryz.func289,Tryz.ntmps289
 go_wp2_with fail
 refine C.out.mono ?_
 rintro e w2 ⟨g2,c2,rfl,h2,b2⟩
 have H2:=Lib.hid (And.intro h2 b2);clear h2 b2
 go_wp2
 go_ret
 exact ⟨g2,c2,rfl,H2.out.1,H2.out.2⟩
end Go.Proofs.YtjdfjgfdbgmbiaaGreatDoor
