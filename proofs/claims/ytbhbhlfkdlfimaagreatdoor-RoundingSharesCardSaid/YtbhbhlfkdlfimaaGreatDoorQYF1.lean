/- Layer 6: awake. -/
import Derived.Test.YtbhbhlfkdlfimaaGreatDoorQX1
import Derived.Test.YtbhbhlfkdlfimaaGreatDoorQX10
import Derived.Test.YtbhbhlfkdlfimaaGreatDoorQX11
import Derived.Test.YtbhbhlfkdlfimaaGreatDoorQX12
import Derived.Test.YtbhbhlfkdlfimaaGreatDoorQX13
import Derived.Test.YtbhbhlfkdlfimaaGreatDoorQX14
import Derived.Test.YtbhbhlfkdlfimaaGreatDoorQX15
import Derived.Test.YtbhbhlfkdlfimaaGreatDoorQX16
import Derived.Test.YtbhbhlfkdlfimaaGreatDoorQX17
import Derived.Test.YtbhbhlfkdlfimaaGreatDoorQX18
import Derived.Test.YtbhbhlfkdlfimaaGreatDoorQX19
import Derived.Test.YtbhbhlfkdlfimaaGreatDoorQX2
import Derived.Test.YtbhbhlfkdlfimaaGreatDoorQX20
import Derived.Test.YtbhbhlfkdlfimaaGreatDoorQX21
import Derived.Test.YtbhbhlfkdlfimaaGreatDoorQX22
import Derived.Test.YtbhbhlfkdlfimaaGreatDoorQX23
import Derived.Test.YtbhbhlfkdlfimaaGreatDoorQX24
import Derived.Test.YtbhbhlfkdlfimaaGreatDoorQX25
import Derived.Test.YtbhbhlfkdlfimaaGreatDoorQX3
import Derived.Test.YtbhbhlfkdlfimaaGreatDoorQX4
import Derived.Test.YtbhbhlfkdlfimaaGreatDoorQX5
import Derived.Test.YtbhbhlfkdlfimaaGreatDoorQX6
import Derived.Test.YtbhbhlfkdlfimaaGreatDoorQX7
import Derived.Test.YtbhbhlfkdlfimaaGreatDoorQX8
import Derived.Test.YtbhbhlfkdlfimaaGreatDoorQX9
import Derived.Test.YtbhbhlfkdlfimaaGreatDoorQY1
import Derived.Test.YtbhbhlfkdlfimaaGreatDoorQY2
import Derived.Test.YtbhbhlfkdlfimaaGreatDoorQY3
set_option linter.all false
set_option maxRecDepth 100000
set_option maxHeartbeats 8000000
namespace Go.Proofs.YtbhbhlfkdlfimaaGreatDoor.T
open Go.Proofs.YtbhbhlfkdlfimaaGreatDoor Go Go.RowKit
theorem Hw {F:List Nat} (h:Shr 10 [1,1,1] F):F[0]?.getD 0=4∧F[1]?.getD 0=3∧F[2]?.getD 0=3:=by
 have hl:F.length=3:=h.len
 match F,hl with
 | [a,b,c],_ =>
  have s:a+b+c=10:=by have:=h.sum;simp at this;omega
  have n0:=h.near 0 (by decide)
  have n1:=h.near 1 (by decide)
  have n2:=h.near 2 (by decide)
  have m0:=h.mono 0 1 (by decide) (by decide) (.inr ⟨rfl,by decide⟩)
  have m1:=h.mono 1 2 (by decide) (by decide) (.inr ⟨rfl,by decide⟩)
  simp at n0 n1 n2 m0 m1 ⊢
  omega
theorem G9 (b:Nat) (w:World) (hb:Blk w b #[.int .i64 1,.int .i64 1,.int .i64 1]) :
  Calls Tryz.prog 6 #[.int .i64 10,.slice (some ⟨b,0,none⟩) 3 3] w fun e W'=>∃ o,e = .returned (.tuple #[.slice (some ⟨o,0,none⟩) 3 3,.int .i64 0]) ∧
   (W'.cell? ⟨o,0,none⟩=some (.int .i64 4)∧W'.cell? ⟨o,1,none⟩=some (.int .i64 3)∧W'.cell? ⟨o,2,none⟩=some (.int .i64 3)∧o<W'.heap.size)∧Below w.heap.size w W':=by
 have hg:Gaw w (some ⟨b,0,none⟩) 3 [1,1,1]:=⟨rfl,fun j hj=>by
   have:j=0∨j=1∨j=2:=by omega
   rcases this with rfl | rfl | rfl <;> decide,fun h=>absurd h (by decide),fun _=>⟨b,rfl,hb.lt,fun j hj=>by
   have:j=0∨j=1∨j=2:=by omega
   rcases this with rfl | rfl | rfl <;> exact hb.cell _ _ rfl⟩⟩
 refine (G2 10 3 3 _ [1,1,1] w (by decide) (by decide) (fun h=>absurd h (by decide)) hg).mono ?_
 rintro e W' ⟨⟨z,_⟩ | ⟨_,o,F,rfl,i,s⟩,b1⟩
 ·exact absurd z (by decide)
 ·obtain ⟨f0,f1,f2⟩:=Hw s
  have c0:=i.c 0 (by decide)
  have c1:=i.c 1 (by decide)
  have c2:=i.c 2 (by decide)
  rw [f0] at c0;rw [f1] at c1;rw [f2] at c2
  exact ⟨o,rfl,⟨c0,c1,c2,i.lt⟩,b1⟩
theorem Ik (o q:Nat) (w:World) (h0:w.cell? ⟨o,0,none⟩=some (.int .i64 4)) (h1:w.cell? ⟨o,1,none⟩=some (.int .i64 3)) (h2:w.cell? ⟨o,2,none⟩=some (.int .i64 3)) (hq:Blk w q #[.int .i64 4,.int .i64 3,.int .i64 3]) :
  Calls Tryz.prog 19 #[.slice (some ⟨o,0,none⟩) 3 3,.slice (some ⟨q,0,none⟩) 3 3] w fun e W'=>e = .returned (.bool true)∧Below w.heap.size w W':=by
 refine (Tryz.slices_Equal_int o 0 3 3 q 0 3 3 [4,3,3] [4,3,3] w (by decide) (by decide) (by decide) (by decide) (fun j hj => ?_) (fun j hj => ?_)).mono fun e W' ⟨e1,k,e2⟩=>⟨e1,by rw [e2];exact Below.drewK _ _ _⟩
 ·have:j=0∨j=1∨j=2:=by simp at hj;omega
  rcases this with rfl | rfl | rfl
  ·exact h0
  ·exact h1
  ·exact h2
 ·have:j=0∨j=1∨j=2:=by simp at hj;omega
  rcases this with rfl | rfl | rfl <;> exact hq.cell _ _ rfl
theorem Hy (w:World) (ht:Tab w) (ht2:aH w) (hS:Sm w):Calls Tryz.prog 5 #[] w fun e W'=>e = .returned (.bool true)∧Below w.heap.size w W':=by
 have A:Alw w:=⟨ht,ht2,hS⟩
 have c1:=fun b W (h:Below w.heap.size w W) (k:Blk W b #[.string ⟨#[49]⟩,.string ⟨#[50]⟩])=>Ho b W (A.next h) k
 have c2:=fun b W (h:Below w.heap.size w W) (k:Blk W b #[.string ⟨#[49]⟩,.string ⟨#[50]⟩])=>Ih b W (A.next h) k
 have c3:=fun b W (h:Below w.heap.size w W) (k:Blk W b #[.string ⟨#[49]⟩,.string ⟨#[50]⟩])=>Hq b W (A.next h) k
 have O:=Ha (Hb c1 (Hb c2 (Hb c3 (Hb G9 Ik))));clear c1 c2 c3 A ht ht2 hS
 have K1:=Blk.new w #[.string ⟨#[49]⟩,.string ⟨#[50]⟩] 43
 have HB:=Ha (Hb K1 ((Below.refl _ w).alloc (Nat.le_refl _) (.cells #[.string ⟨#[49]⟩,.string ⟨#[50]⟩] 43)));clear K1
 go_enter Tryz.func5,Tryz.ntmps5
 go_wp2_with fail
 generalize w.alloc (.cells #[.string ⟨#[49]⟩,.string ⟨#[50]⟩] 43)=W0 at *
 generalize hg:w.heap.size=g at *
 have HG:=Ha hg;clear hg
 refine (O.out.1 _ _ HB.out.2 HB.out.1).mono ?_
 rintro e w1 ⟨rfl,b⟩
 replace HB:=Ha (Hb (HB.out.1.next b) (HB.out.2.trans (b.mono (Nat.le_of_lt HB.out.1.lt))));clear b
 go_wp2_with fail
 refine (O.out.2.1 _ _ HB.out.2 HB.out.1).mono ?_
 rintro e w2 ⟨rfl,b⟩
 replace HB:=Ha (Hb (HB.out.1.next b) (HB.out.2.trans (b.mono (Nat.le_of_lt HB.out.1.lt))));clear b
 go_wp2_with fail
 refine (O.out.2.2.1 _ _ HB.out.2 HB.out.1).mono ?_
 rintro e w3 ⟨rfl,b⟩
 replace HB:=Ha (Hb (HB.out.1.next b) (HB.out.2.trans (b.mono (Nat.le_of_lt HB.out.1.lt))));clear b
 go_wp2_with fail
 replace HB:=Ha (Hb (Blk.new w3 #[.int .i64 1,.int .i64 1,.int .i64 1] 3) (HB.out.2.alloc (Nat.le_of_lt HB.out.1.lt) (.cells #[.int .i64 1,.int .i64 1,.int .i64 1] 3)))
 refine (O.out.2.2.2.1 _ _ HB.out.1).mono ?_
 rintro e w4 ⟨o,rfl,f,b⟩
 replace HB:=Ha (Hb f (HB.out.2.trans (b.mono (by have:=HB.out.2.size;have:=HG.out;omega))));clear b f
 go_wp2_with fail
 have hgs:g≤w4.heap.size:=by have:=HB.out.2.size;have:=HG.out;omega
 have hA:Below w4.heap.size w4 (w4.alloc (.cells #[.int .i64 4,.int .i64 3,.int .i64 3] 3)):=(Below.refl _ w4).alloc (Nat.le_refl _) _
 refine (O.out.2.2.2.2 o _ _ ((hA.cell (p:=⟨o,0,none⟩) HB.out.1.2.2.2).trans HB.out.1.1) ((hA.cell (p:=⟨o,1,none⟩) HB.out.1.2.2.2).trans HB.out.1.2.1) ((hA.cell (p:=⟨o,2,none⟩) HB.out.1.2.2.2).trans HB.out.1.2.2.1) (Blk.new w4 _ _)).mono ?_
 rintro e w5 ⟨rfl,b⟩
 replace HB:=Ha ((HB.out.2.trans (hA.mono hgs)).trans (b.mono (by rw [World.size_alloc];omega)));clear b hA hgs
 go_wp2_with fail
 go_ret
 exact ⟨rfl,by rw [HG.out];exact HB.out⟩
end Go.Proofs.YtbhbhlfkdlfimaaGreatDoor.T
