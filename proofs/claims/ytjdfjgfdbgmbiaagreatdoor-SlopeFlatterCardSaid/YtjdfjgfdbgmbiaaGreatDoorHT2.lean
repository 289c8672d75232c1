/- Parts of the proofs of the texts YtjdfjgfdbgmbiaaGreatDoorHT. -/
import Derived.Test.YtjdfjgfdbgmbiaaGreatDoorHB1
import Derived.Test.YtjdfjgfdbgmbiaaGreatDoorHB10
import Derived.Test.YtjdfjgfdbgmbiaaGreatDoorHB11
import Derived.Test.YtjdfjgfdbgmbiaaGreatDoorHB12
import Derived.Test.YtjdfjgfdbgmbiaaGreatDoorHB13
import Derived.Test.YtjdfjgfdbgmbiaaGreatDoorHB14
import Derived.Test.YtjdfjgfdbgmbiaaGreatDoorHB15
import Derived.Test.YtjdfjgfdbgmbiaaGreatDoorHB16
import Derived.Test.YtjdfjgfdbgmbiaaGreatDoorHB17
import Derived.Test.YtjdfjgfdbgmbiaaGreatDoorHB18
import Derived.Test.YtjdfjgfdbgmbiaaGreatDoorHB19
import Derived.Test.YtjdfjgfdbgmbiaaGreatDoorHB2
import Derived.Test.YtjdfjgfdbgmbiaaGreatDoorHB20
import Derived.Test.YtjdfjgfdbgmbiaaGreatDoorHB21
import Derived.Test.YtjdfjgfdbgmbiaaGreatDoorHB22
import Derived.Test.YtjdfjgfdbgmbiaaGreatDoorHB23
import Derived.Test.YtjdfjgfdbgmbiaaGreatDoorHB24
import Derived.Test.YtjdfjgfdbgmbiaaGreatDoorHB25
import Derived.Test.YtjdfjgfdbgmbiaaGreatDoorHB26
import Derived.Test.YtjdfjgfdbgmbiaaGreatDoorHB27
import Derived.Test.YtjdfjgfdbgmbiaaGreatDoorHB28
import Derived.Test.YtjdfjgfdbgmbiaaGreatDoorHB29
import Derived.Test.YtjdfjgfdbgmbiaaGreatDoorHB3
import Derived.Test.YtjdfjgfdbgmbiaaGreatDoorHB30
import Derived.Test.YtjdfjgfdbgmbiaaGreatDoorHB31
import Derived.Test.YtjdfjgfdbgmbiaaGreatDoorHB32
import Derived.Test.YtjdfjgfdbgmbiaaGreatDoorHB33
import Derived.Test.YtjdfjgfdbgmbiaaGreatDoorHB34
import Derived.Test.YtjdfjgfdbgmbiaaGreatDoorHB35
import Derived.Test.YtjdfjgfdbgmbiaaGreatDoorHB36
import Derived.Test.YtjdfjgfdbgmbiaaGreatDoorHB37
import Derived.Test.YtjdfjgfdbgmbiaaGreatDoorHB38
import Derived.Test.YtjdfjgfdbgmbiaaGreatDoorHB39
import Derived.Test.YtjdfjgfdbgmbiaaGreatDoorHB4
import Derived.Test.YtjdfjgfdbgmbiaaGreatDoorHB5
import Derived.Test.YtjdfjgfdbgmbiaaGreatDoorHB6
import Derived.Test.YtjdfjgfdbgmbiaaGreatDoorHB7
import Derived.Test.YtjdfjgfdbgmbiaaGreatDoorHB8
import Derived.Test.YtjdfjgfdbgmbiaaGreatDoorHB9
import Derived.Test.YtjdfjgfdbgmbiaaGreatDoorHT1
set_option linter.all false
set_option maxRecDepth 100000
set_option maxHeartbeats 8000000
namespace Go.Proofs.YtjdfjgfdbgmbiaaGreatDoor.T
open Go.Proofs.YtjdfjgfdbgmbiaaGreatDoor Go Go.RowKit
theorem awake8_core (l1 l2 l3 l4:List Tm) (w:World)
  (h1:∀ (W:World),Below w.heap.size w W→Calls Tryz.prog 11 #[.string ⟨#[51,47,52]⟩] W fun e W'=>∃ v,e = .returned (.tuple #[v,.int .i64 0])∧Sv W' l1 v∧Below W.heap.size W W')
  (h2:∀ (W:World),Below w.heap.size w W→Calls Tryz.prog 17 #[.string ⟨#[49]⟩,.string ⟨#[49]⟩] W fun e W'=>∃ v,e = .returned (.tuple #[v,.int .i64 0])∧Sv W' l2 v∧Below W.heap.size W W')
  (h3:∀ (W:World),Below w.heap.size w W→Calls Tryz.prog 20 #[.string ⟨#[49]⟩,.string ⟨#[49]⟩] W fun e W'=>∃ v,e = .returned (.tuple #[v,.int .i64 0])∧Sv W' l3 v∧Below W.heap.size W W')
  (h4:∀ (W:World),Below w.heap.size w W→Calls Tryz.prog 19 #[.string ⟨#[49]⟩,.string ⟨#[49]⟩] W fun e W'=>e = .returned (.tuple #[.string ⟨#[49]⟩,.int .i64 0])∧Below W.heap.size W W')
  (h5:∀ (W:World),Below w.heap.size w W→Calls Tryz.prog 22 #[.string ⟨#[49]⟩,.string ⟨#[49]⟩] W fun e W'=>∃ v,e = .returned (.tuple #[v,.int .i64 0])∧Sv W' l4 v∧Below W.heap.size W W')
  (h6:∀ (W:World),Below w.heap.size w W→Calls Tryz.prog 26 #[.string ⟨#[53,47,52]⟩,.string ⟨#[49]⟩] W fun e W'=>∃ v,e = .returned (v)∧Sv W' l1 v∧Below W.heap.size W W')
  (h7:∀ (W:World) (v1 v5:Value),Below w.heap.size w W→Sv W l1 v1→Sv W l1 v5→Calls Tryz.prog 23 #[v1,v5] W fun e W'=>e = .returned (.bool true)∧Below W.heap.size W W')
  (h8:∀ (W:World),Below w.heap.size w W→Calls Tryz.prog 26 #[.string ⟨#[49,47,50]⟩,.string ⟨#[50]⟩] W fun e W'=>∃ v,e = .returned (v)∧Sv W' l2 v∧Below W.heap.size W W')
  (h9:∀ (W:World) (v2 v6:Value),Below w.heap.size w W→Sv W l2 v2→Sv W l2 v6→Calls Tryz.prog 23 #[v2,v6] W fun e W'=>e = .returned (.bool true)∧Below W.heap.size W W')
  (h10:∀ (W:World),Below w.heap.size w W→Calls Tryz.prog 26 #[.string ⟨#[49]⟩,.string ⟨#[51]⟩] W fun e W'=>∃ v,e = .returned (v)∧Sv W' l3 v∧Below W.heap.size W W')
  (h11:∀ (W:World) (v3 v7:Value),Below w.heap.size w W→Sv W l3 v3→Sv W l3 v7→Calls Tryz.prog 23 #[v3,v7] W fun e W'=>e = .returned (.bool true)∧Below W.heap.size W W')
  (h12:∀ (W:World),Below w.heap.size w W→Calls Tryz.prog 26 #[.string ⟨#[49,47,50]⟩,.string ⟨#[49]⟩] W fun e W'=>∃ v,e = .returned (v)∧Sv W' l4 v∧Below W.heap.size W W')
  (h13:∀ (W:World) (v4 v8:Value),Below w.heap.size w W→Sv W l4 v4→Sv W l4 v8→Calls Tryz.prog 23 #[v4,v8] W fun e W'=>e = .returned (.bool true)∧Below W.heap.size W W')
  : Calls Tryz.prog 16 #[] w fun e W'=>e = .returned (.bool true)∧Below w.heap.size w W':=by
 have O:=Lib.hid (And.intro h1 (And.intro h2 (And.intro h3 (And.intro h4 (And.intro h5 (And.intro h6 (And.intro h7 (And.intro h8 (And.intro h9 (And.intro h10 (And.intro h11 (And.intro h12 (h13)))))))))))));clear h1 h2 h3 h4 h5 h6 h7 h8 h9 h10 h11 h12 h13
 have hm:=max5_8
 go_enter Tryz.func16,Tryz.ntmps16
 have HB:=Lib.hid (Below.refl w.heap.size w)
 go_wp2_with fail
 refine (O.out.1 _ HB.out).mono ?_
 rintro e w1 ⟨v1,rfl,s,b⟩
 have Lv1:=Lib.hid s;clear s
 have N:=Lib.hid (HB.out.trans (b.mono HB.out.size));clear HB b;have HB:=N;clear N
 go_wp2_with fail
 refine (O.out.2.1 _ HB.out).mono ?_
 rintro e w2 ⟨v2,rfl,s,b⟩
 have N:=Lib.hid (Lv1.out.next b);clear Lv1;have Lv1:=N;clear N
 have Lv2:=Lib.hid s;clear s
 have N:=Lib.hid (HB.out.trans (b.mono HB.out.size));clear HB b;have HB:=N;clear N
 go_wp2_with fail
 refine (O.out.2.2.1 _ HB.out).mono ?_
 rintro e w3 ⟨v3,rfl,s,b⟩
 have N:=Lib.hid (Lv1.out.next b);clear Lv1;have Lv1:=N;clear N
 have N:=Lib.hid (Lv2.out.next b);clear Lv2;have Lv2:=N;clear N
 have Lv3:=Lib.hid s;clear s
 have N:=Lib.hid (HB.out.trans (b.mono HB.out.size));clear HB b;have HB:=N;clear N
 go_wp2_with fail
 refine (O.out.2.2.2.1 _ HB.out).mono ?_
 rintro e w4 ⟨rfl,b⟩
 have N:=Lib.hid (Lv1.out.next b);clear Lv1;have Lv1:=N;clear N
 have N:=Lib.hid (Lv2.out.next b);clear Lv2;have Lv2:=N;clear N
 have N:=Lib.hid (Lv3.out.next b);clear Lv3;have Lv3:=N;clear N
 have N:=Lib.hid (HB.out.trans (b.mono HB.out.size));clear HB b;have HB:=N;clear N
 go_wp2_with fail
 refine (O.out.2.2.2.2.1 _ HB.out).mono ?_
 rintro e w5 ⟨v4,rfl,s,b⟩
 have N:=Lib.hid (Lv1.out.next b);clear Lv1;have Lv1:=N;clear N
 have N:=Lib.hid (Lv2.out.next b);clear Lv2;have Lv2:=N;clear N
 have N:=Lib.hid (Lv3.out.next b);clear Lv3;have Lv3:=N;clear N
 have Lv4:=Lib.hid s;clear s
 have N:=Lib.hid (HB.out.trans (b.mono HB.out.size));clear HB b;have HB:=N;clear N
 go_wp2_with fail
 refine (O.out.2.2.2.2.2.1 _ HB.out).mono ?_
 rintro e w6 ⟨v5,rfl,s,b⟩
 have N:=Lib.hid (Lv1.out.next b);clear Lv1;have Lv1:=N;clear N
 have N:=Lib.hid (Lv2.out.next b);clear Lv2;have Lv2:=N;clear N
 have N:=Lib.hid (Lv3.out.next b);clear Lv3;have Lv3:=N;clear N
 have N:=Lib.hid (Lv4.out.next b);clear Lv4;have Lv4:=N;clear N
 have Lv5:=Lib.hid s;clear s
 have N:=Lib.hid (HB.out.trans (b.mono HB.out.size));clear HB b;have HB:=N;clear N
 go_wp2_with fail
 refine (O.out.2.2.2.2.2.2.1 _ _ _ HB.out Lv1.out Lv5.out).mono ?_
 rintro e w7 ⟨rfl,b⟩
 have N:=Lib.hid (Lv1.out.next b);clear Lv1;have Lv1:=N;clear N
 have N:=Lib.hid (Lv2.out.next b);clear Lv2;have Lv2:=N;clear N
 have N:=Lib.hid (Lv3.out.next b);clear Lv3;have Lv3:=N;clear N
 have N:=Lib.hid (Lv4.out.next b);clear Lv4;have Lv4:=N;clear N
 have N:=Lib.hid (Lv5.out.next b);clear Lv5;have Lv5:=N;clear N
 have N:=Lib.hid (HB.out.trans (b.mono HB.out.size));clear HB b;have HB:=N;clear N
 clear Lv1
 clear Lv5
 go_wp2_with fail
 refine (O.out.2.2.2.2.2.2.2.1 _ HB.out).mono ?_
 rintro e w8 ⟨v6,rfl,s,b⟩
 have N:=Lib.hid (Lv2.out.next b);clear Lv2;have Lv2:=N;clear N
 have N:=Lib.hid (Lv3.out.next b);clear Lv3;have Lv3:=N;clear N
 have N:=Lib.hid (Lv4.out.next b);clear Lv4;have Lv4:=N;clear N
 have Lv6:=Lib.hid s;clear s
 have N:=Lib.hid (HB.out.trans (b.mono HB.out.size));clear HB b;have HB:=N;clear N
 go_wp2_with fail
 refine (O.out.2.2.2.2.2.2.2.2.1 _ _ _ HB.out Lv2.out Lv6.out).mono ?_
 rintro e w9 ⟨rfl,b⟩
 have N:=Lib.hid (Lv2.out.next b);clear Lv2;have Lv2:=N;clear N
 have N:=Lib.hid (Lv3.out.next b);clear Lv3;have Lv3:=N;clear N
 have N:=Lib.hid (Lv4.out.next b);clear Lv4;have Lv4:=N;clear N
 have N:=Lib.hid (Lv6.out.next b);clear Lv6;have Lv6:=N;clear N
 have N:=Lib.hid (HB.out.trans (b.mono HB.out.size));clear HB b;have HB:=N;clear N
 clear Lv2
 clear Lv6
 go_wp2_with fail
 refine (O.out.2.2.2.2.2.2.2.2.2.1 _ HB.out).mono ?_
 rintro e w10 ⟨v7,rfl,s,b⟩
 have N:=Lib.hid (Lv3.out.next b);clear Lv3;have Lv3:=N;clear N
 have N:=Lib.hid (Lv4.out.next b);clear Lv4;have Lv4:=N;clear N
 have Lv7:=Lib.hid s;clear s
 have N:=Lib.hid (HB.out.trans (b.mono HB.out.size));clear HB b;have HB:=N;clear N
 go_wp2_with fail
 refine (O.out.2.2.2.2.2.2.2.2.2.2.1 _ _ _ HB.out Lv3.out Lv7.out).mono ?_
 rintro e w11 ⟨rfl,b⟩
 have N:=Lib.hid (Lv3.out.next b);clear Lv3;have Lv3:=N;clear N
 have N:=Lib.hid (Lv4.out.next b);clear Lv4;have Lv4:=N;clear N
 have N:=Lib.hid (Lv7.out.next b);clear Lv7;have Lv7:=N;clear N
 have N:=Lib.hid (HB.out.trans (b.mono HB.out.size));clear HB b;have HB:=N;clear N
 clear Lv3
 clear Lv7
 go_wp2_with fail
 refine (O.out.2.2.2.2.2.2.2.2.2.2.2.1 _ HB.out).mono ?_
 rintro e w12 ⟨v8,rfl,s,b⟩
 have N:=Lib.hid (Lv4.out.next b);clear Lv4;have Lv4:=N;clear N
 have Lv8:=Lib.hid s;clear s
 have N:=Lib.hid (HB.out.trans (b.mono HB.out.size));clear HB b;have HB:=N;clear N
 go_wp2_with fail
 refine (O.out.2.2.2.2.2.2.2.2.2.2.2.2 _ _ _ HB.out Lv4.out Lv8.out).mono ?_
 rintro e w13 ⟨rfl,b⟩
 have N:=Lib.hid (Lv4.out.next b);clear Lv4;have Lv4:=N;clear N
 have N:=Lib.hid (Lv8.out.next b);clear Lv8;have Lv8:=N;clear N
 have N:=Lib.hid (HB.out.trans (b.mono HB.out.size));clear HB b;have HB:=N;clear N
 clear Lv4
 clear Lv8
 go_wp2
 go_ret
 exact ⟨rfl,HB.out⟩
theorem n54:R1 (facQ (Rat.divInt 3 4)) = [(Rat.divInt 5 4,((1:Nat):Rat))] :=
 root_is (by decide+kernel) ((nN_one (by decide+kernel)).2 ⟨Rat.divInt 5 4,by decide+kernel⟩) (by decide+kernel) (by decide+kernel) (by decide)
theorem R1_lit {x c:Rat} {n:Nat} (c0:0<c) (hn:Nrm n) (ln:n<10000) (k:nN x<10000) (e:c*c*(n:Rat)=x):R1 x = [(c,(n:Rat))]:=by
 have n1:=nat_pos hn.1
 have x0:0<x:=by rw [←e];exact Rat.mul_pos (Rat.mul_pos c0 c0) n1
 have r:Rl ((nN x:Nat):Rat) ((n:Nat):Rat):=(nrm_rl (Rat.le_of_lt x0) (by grind)).trans ⟨c,c0,e.symm⟩
 have q:=rl_eq (nrm_of (Rat.le_of_lt x0)) hn k ln r
 exact root_is (Rat.le_of_lt c0) q (Rat.le_of_lt x0) e hn.1
theorem n12:R1 (hipQ 1 1) = [(Rat.divInt 1 2,((2:Nat):Rat))] :=
 R1_lit (by decide+kernel) nrm2 (by decide) (Nat.lt_of_lt_of_le (nN_lt (k:=1) (by decide) ⟨by decide+kernel,by decide+kernel⟩) (by decide+kernel)) (by decide+kernel)
theorem n3:R1 (lenQ 1 1) = [(1,((3:Nat):Rat))] :=
 R1_lit (by decide+kernel) nrm3 (by decide) (Nat.lt_of_lt_of_le (nN_lt (k:=1) (by decide) ⟨by decide+kernel,by decide+kernel⟩) (by decide+kernel)) (by decide+kernel)
theorem nh:R1 (dihQ 1 1) = [(Rat.divInt 1 2,((1:Nat):Rat))] :=
 R1_lit (by decide+kernel) nrm1 (by decide) (Nat.lt_of_lt_of_le (nN_lt (k:=1) (by decide) ⟨by decide+kernel,by decide+kernel⟩) (by decide+kernel)) (by decide+kernel)
theorem sq34:strQ (Rat.divInt 3 4)=⟨#[51,47,52]⟩:=by decide+kernel
theorem sq54:strQ (Rat.divInt 5 4)=⟨#[53,47,52]⟩:=by decide+kernel
theorem sqh:strQ (Rat.divInt 1 2)=⟨#[49,47,50]⟩:=by decide+kernel
theorem sqn1:strQ ((1:Nat):Rat)=⟨#[49]⟩:=strQ_one
theorem sqn2:strQ ((2:Nat):Rat)=⟨#[50]⟩:=sq2
theorem sqn3:strQ ((3:Nat):Rat)=⟨#[51]⟩:=sq3
theorem pt34:Pt (Rat.divInt 3 4):=⟨by decide+kernel,by decide+kernel,by decide+kernel⟩
theorem awake8_any (w:World) (ht:Tab w) (ht2:Tab64 w) (hS:Sm w):Calls Tryz.prog 16 #[] w fun e W'=>e = .returned (.bool true)∧Below w.heap.size w W' :=
 awake8_core [(Rat.divInt 5 4,((1:Nat):Rat))] [(Rat.divInt 1 2,((2:Nat):Rat))] [(1,((3:Nat):Rat))] [(Rat.divInt 1 2,((1:Nat):Rat))] w
  (fun W h=>by rw [←sq34,←n54];exact Factor_q pt34 W (ht.next h) (TabQ_next ht2 h) (hS.next h))
  (fun W h=>by rw [←sq1,←n12];exact Hip_q pt1 pt1 W (ht.next h) (TabQ_next ht2 h) (hS.next h))
  (fun W h=>by rw [←sq1,←n3];exact Length_q pt1 pt1 W (ht.next h) (TabQ_next ht2 h) (hS.next h))
  (fun W h=>by
   have:=Plan_q pt1 pt1 W (ht.next h) (TabQ_next ht2 h)
   rwa [show (1:Rat) / 1=1 by decide+kernel,sq1] at this)
  (fun W h=>by rw [←sq1,←nh];exact Dihedral_q pt1 pt1 W (ht.next h) (TabQ_next ht2 h) (hS.next h))
  (fun W _=>one_sv _ 1 _ _ sq54 sqn1 (by decide+kernel) ⟨by decide+kernel,by decide+kernel⟩ nrm1 (by decide) W) (fun W v1 v5 _ s t=>Same_1 _ W v1 v5 s t)
  (fun W _=>one_sv _ 2 _ _ sqh sqn2 (by decide+kernel) ⟨by decide+kernel,by decide+kernel⟩ nrm2 (by decide) W) (fun W v1 v5 _ s t=>Same_1 _ W v1 v5 s t)
  (fun W _=>one_sv 1 3 _ _ sq1 sqn3 (by decide+kernel) ⟨by decide+kernel,by decide+kernel⟩ nrm3 (by decide) W) (fun W v1 v5 _ s t=>Same_1 _ W v1 v5 s t)
  (fun W _=>one_sv _ 1 _ _ sqh sqn1 (by decide+kernel) ⟨by decide+kernel,by decide+kernel⟩ nrm1 (by decide) W) (fun W v1 v5 _ s t=>Same_1 _ W v1 v5 s t)
end Go.Proofs.YtjdfjgfdbgmbiaaGreatDoor.T
namespace Go.Proofs.YtjdfjgfdbgmbiaaGreatDoor.T
open Go.Proofs.YtjdfjgfdbgmbiaaGreatDoor Go Go.RowKit
theorem flatter_core8 (a b c d:Int) (p pp q qq n m:ByteArray) (l1 l2:List Tm) (w:World)
  (h1:∀ (W:World),Below w.heap.size w W→Calls Tryz.prog 10 #[.int .u8 a,.int .u8 b] W fun e W'=>e = .returned (.tuple #[.string p,.string pp,.bool true])∧Below W.heap.size W W')
  (h2:∀ (W:World),Below w.heap.size w W→Calls Tryz.prog 10 #[.int .u8 c,.int .u8 d] W fun e W'=>e = .returned (.tuple #[.string q,.string qq,.bool true])∧Below W.heap.size W W')
  (h3:∀ (W:World),Below w.heap.size w W→Calls Tryz.prog 17 #[.string p,.string q] W fun e W'=>∃ v,e = .returned (.tuple #[v,.int .i64 0])∧Sv W' l1 v∧Below W.heap.size W W')
  (h4:∀ (W:World) (v1:Value),Below w.heap.size w W→Sv W l1 v1→Calls Tryz.prog 12 #[v1,.int .i64 0] W fun e W'=>e = .returned (.tuple #[.string n,.bool true])∧Below W.heap.size W W')
  (h5:∀ (W:World) (v1:Value),Below w.heap.size w W→Sv W l1 v1→Calls Tryz.prog 18 #[v1] W fun e W'=>e = .returned (.tuple #[.int .i64 1,.int .i64 0])∧Below W.heap.size W W')
  (h6:∀ (W:World),Below w.heap.size w W→Calls Tryz.prog 15 #[.string n,.string pp] W fun e W'=>e = .returned (.tuple #[.int .i64 (-1),.int .i64 0])∧Below W.heap.size W W')
  (h7:∀ (W:World),Below w.heap.size w W→Calls Tryz.prog 15 #[.string n,.string qq] W fun e W'=>e = .returned (.tuple #[.int .i64 (-1),.int .i64 0])∧Below W.heap.size W W')
  (h8:∀ (W:World),Below w.heap.size w W→Calls Tryz.prog 17 #[.string p,.string p] W fun e W'=>∃ v,e = .returned (.tuple #[v,.int .i64 0])∧Sv W' l2 v∧Below W.heap.size W W')
  (h9:∀ (W:World) (v2:Value),Below w.heap.size w W→Sv W l2 v2→Calls Tryz.prog 12 #[v2,.int .i64 0] W fun e W'=>e = .returned (.tuple #[.string m,.bool true])∧Below W.heap.size W W')
  (h10:∀ (W:World),Below w.heap.size w W→Calls Tryz.prog 13 #[.string m,.string m] W fun e W'=>e = .returned (.tuple #[.string pp,.int .i64 0])∧Below W.heap.size W W')
  (h11:∀ (W:World),Below w.heap.size w W→Calls Tryz.prog 19 #[.string p,.string p] W fun e W'=>e = .returned (.tuple #[.string ⟨#[49]⟩,.int .i64 0])∧Below W.heap.size W W')
  (h12:∀ (W:World),Below w.heap.size w W→Calls Tryz.prog 16 #[] W fun e W'=>e = .returned (.bool true)∧Below W.heap.size W W')
  : Calls Tryz.prog 4 #[.int .u8 a,.int .u8 b,.int .u8 c,.int .u8 d] w fun e W'=>e = .returned (.bool true)∧Below w.heap.size w W':=by
 have O:=Lib.hid (And.intro h1 (And.intro h2 (And.intro h3 (And.intro h4 (And.intro h5 (And.intro h6 (And.intro h7 (And.intro h8 (And.intro h9 (And.intro h10 (And.intro h11 (h12))))))))))));clear h1 h2 h3 h4 h5 h6 h7 h8 h9 h10 h11 h12
 have hm:=max3_8
 go_enter Tryz.func4,Tryz.ntmps4
 have HB:=Lib.hid (Below.refl w.heap.size w)
 go_wp2_with fail
 refine (O.out.1 _ HB.out).mono ?_
 rintro e w1 ⟨rfl,b⟩
 have N:=Lib.hid (HB.out.trans (b.mono HB.out.size));clear HB b;have HB:=N;clear N
 go_wp2_with fail
 refine (O.out.2.1 _ HB.out).mono ?_
 rintro e w2 ⟨rfl,b⟩
 have N:=Lib.hid (HB.out.trans (b.mono HB.out.size));clear HB b;have HB:=N;clear N
 go_wp2_with fail
 refine (O.out.2.2.1 _ HB.out).mono ?_
 rintro e w3 ⟨v1,rfl,s,b⟩
 have Lv1:=Lib.hid s;clear s
 have N:=Lib.hid (HB.out.trans (b.mono HB.out.size));clear HB b;have HB:=N;clear N
 go_wp2_with fail
 refine (O.out.2.2.2.1 _ _ HB.out Lv1.out).mono ?_
 rintro e w4 ⟨rfl,b⟩
 have N:=Lib.hid (Lv1.out.next b);clear Lv1;have Lv1:=N;clear N
 have N:=Lib.hid (HB.out.trans (b.mono HB.out.size));clear HB b;have HB:=N;clear N
 go_wp2_with fail
 refine (O.out.2.2.2.2.1 _ _ HB.out Lv1.out).mono ?_
 rintro e w5 ⟨rfl,b⟩
 have N:=Lib.hid (Lv1.out.next b);clear Lv1;have Lv1:=N;clear N
 have N:=Lib.hid (HB.out.trans (b.mono HB.out.size));clear HB b;have HB:=N;clear N
 clear Lv1
 go_wp2_with fail
 refine (O.out.2.2.2.2.2.1 _ HB.out).mono ?_
 rintro e w6 ⟨rfl,b⟩
 have N:=Lib.hid (HB.out.trans (b.mono HB.out.size));clear HB b;have HB:=N;clear N
 go_wp2_with fail
 refine (O.out.2.2.2.2.2.2.1 _ HB.out).mono ?_
 rintro e w7 ⟨rfl,b⟩
 have N:=Lib.hid (HB.out.trans (b.mono HB.out.size));clear HB b;have HB:=N;clear N
 go_wp2_with fail
 refine (O.out.2.2.2.2.2.2.2.1 _ HB.out).mono ?_
 rintro e w8 ⟨v2,rfl,s,b⟩
 have Lv2:=Lib.hid s;clear s
 have N:=Lib.hid (HB.out.trans (b.mono HB.out.size));clear HB b;have HB:=N;clear N
 go_wp2_with fail
 refine (O.out.2.2.2.2.2.2.2.2.1 _ _ HB.out Lv2.out).mono ?_
 rintro e w9 ⟨rfl,b⟩
 have N:=Lib.hid (Lv2.out.next b);clear Lv2;have Lv2:=N;clear N
 have N:=Lib.hid (HB.out.trans (b.mono HB.out.size));clear HB b;have HB:=N;clear N
 clear Lv2
 go_wp2_with fail
 refine (O.out.2.2.2.2.2.2.2.2.2.1 _ HB.out).mono ?_
 rintro e w10 ⟨rfl,b⟩
 have N:=Lib.hid (HB.out.trans (b.mono HB.out.size));clear HB b;have HB:=N;clear N
 go_wp2_with fail
 refine (O.out.2.2.2.2.2.2.2.2.2.2.1 _ HB.out).mono ?_
 rintro e w11 ⟨rfl,b⟩
 have N:=Lib.hid (HB.out.trans (b.mono HB.out.size));clear HB b;have HB:=N;clear N
 go_wp2_with fail
 refine (O.out.2.2.2.2.2.2.2.2.2.2.2 _ HB.out).mono ?_
 rintro e w12 ⟨rfl,b⟩
 have N:=Lib.hid (HB.out.trans (b.mono HB.out.size));clear HB b;have HB:=N;clear N
 go_wp2
 go_ret
 exact ⟨rfl,HB.out⟩
theorem self_div {x:Rat} (h:x≠0):x / x=1:=by rw [Rat.div_def,Rat.mul_inv_cancel x h]
theorem hip_lt {p q:Rat} (hp:Pt p) (hq:Pt q):hipQ p q<p*p∧hipQ p q<q*q:=by
 have a0:=hp.sq0
 have b0:=hq.sq0
 have s0:=sum0 hp hq
 have i0:=hp.inv0
 have j0:=hq.inv0
 have e1:1 / (p*p)*(p*p)=1:=Rat.div_mul_cancel (by grind)
 have e2:1 / (q*q)*(q*q)=1:=Rat.div_mul_cancel (by grind)
 have e3:hipQ p q*(1 / (p*p)+1 / (q*q))=1:=Rat.div_mul_cancel (by grind)
 generalize hipQ p q=h at *
 generalize p*p=x at *
 generalize q*q=y at *
 generalize 1 / x=i at *
 generalize 1 / y=j at *
 constructor
 ·refine Rat.lt_of_mul_lt_mul_right (c:=i+j) ?_ (Rat.le_of_lt s0)
  have:=Rat.mul_pos a0 j0
  grind
 ·refine Rat.lt_of_mul_lt_mul_right (c:=i+j) ?_ (Rat.le_of_lt s0)
  have:=Rat.mul_pos b0 i0
  grind
theorem hip_half {p:Rat} (hp:Pt p):hipQ p p+hipQ p p=p*p:=by
 have i0:=hp.inv0
 have a0:=hp.sq0
 have e1:1 / (p*p)*(p*p)=1:=Rat.div_mul_cancel (by grind)
 have e3:hipQ p p*(1 / (p*p)+1 / (p*p))=1:=Rat.div_mul_cancel (by have:=sum0 hp hp;grind)
 generalize hipQ p p=h at *
 generalize p*p=x at *
 generalize 1 / x=i at *
 have:(h+h - x)*i=0:=by grind
 rcases Rat.mul_eq_zero.1 this with z | z
 ·grind
 ·grind
theorem SlopeFlatter_any (a b c d:Int) (w:World) (ha:(Lit.int .u8 a).wf=true) (hb:(Lit.int .u8 b).wf=true) (hc:(Lit.int .u8 c).wf=true) (hd:(Lit.int .u8 d).wf=true) (ht:Tab w) (ht2:Tab64 w) (hS:Sm w) :
  Calls Tryz.prog 4 #[.int .u8 a,.int .u8 b,.int .u8 c,.int .u8 d] w fun e W'=>e = .returned (.bool true)∧Below w.heap.size w W':=by
 have r1:0≤a∧a≤255:=by simpa [Lit.wf,IntKind.min,IntKind.max,IntKind.signed,IntKind.bits] using ha
 have r2:0≤b∧b≤255:=by simpa [Lit.wf,IntKind.min,IntKind.max,IntKind.signed,IntKind.bits] using hb
 have r3:0≤c∧c≤255:=by simpa [Lit.wf,IntKind.min,IntKind.max,IntKind.signed,IntKind.bits] using hc
 have r4:0≤d∧d≤255:=by simpa [Lit.wf,IntKind.min,IntKind.max,IntKind.signed,IntKind.bits] using hd
 have p1:=pi_pt a b
 have p2:=pi_pt c d
 have x0:=hip_0 p1 p2
 have xb:=hip_bq p1 p2
 exact flatter_core8 a b c d _ _ _ _ _ _ _ _ w (fun W h=>pitch_q a b r1.1 r2.1 r1.2 r2.2 W (ht.next h) (TabQ_next ht2 h)) (fun W h=>pitch_q c d r3.1 r4.1 r3.2 r4.2 W (ht.next h) (TabQ_next ht2 h))
  (fun W h=>Hip_q p1 p2 W (ht.next h) (TabQ_next ht2 h) (hS.next h)) (fun W v1 h s=>lsquare_r _ x0 xb W v1 s (ht.next h) (TabQ_next ht2 h) (hS.next h))
  (fun W v1 h s=>Sign_1 _ _ W v1 s (by have:=nC_nonneg (hipQ (piQ a b) (piQ c d));have:=nC_ne x0;grind) ((nC_bq xb).up (by decide)) (nN_pos _) (ht.next h) (TabQ_next ht2 h) (hS.next h))
  (fun W h=>by
   have:=rcmp 10 4 xb p1.sq (by decide) W (ht.next h) (TabQ_next ht2 h)
   rwa [cmpQ_lt (hip_lt p1 p2).1] at this)
  (fun W h=>by
   have:=rcmp 10 4 xb p2.sq (by decide) W (ht.next h) (TabQ_next ht2 h)
   rwa [cmpQ_lt (hip_lt p1 p2).2] at this)
  (fun W h=>Hip_q p1 p1 W (ht.next h) (TabQ_next ht2 h) (hS.next h)) (fun W v1 h s=>lsquare_r _ (hip_0 p1 p1) (hip_bq p1 p1) W v1 s (ht.next h) (TabQ_next ht2 h) (hS.next h))
  (fun W h=>by
   have:=radd 10 10 (hip_bq p1 p1) (hip_bq p1 p1) (by decide) W (ht.next h) (TabQ_next ht2 h)
   rwa [hip_half p1] at this)
  (fun W h=>by
   have:=Plan_q p1 p1 W (ht.next h) (TabQ_next ht2 h)
   rwa [self_div p1.ne,sq1] at this) (fun W h=>awake8_any W (ht.next h) (TabQ_next ht2 h) (hS.next h))
end Go.Proofs.YtjdfjgfdbgmbiaaGreatDoor.T
