/- Parts of the proofs of the texts YtjdfjgfdbgmbiaaGreatDoorHI. -/
import Derived.Test.YtjdfjgfdbgmbiaaGreatDoorHB1
import Derived.Test.YtjdfjgfdbgmbiaaGreatDoorHB10
import Derived.Test.YtjdfjgfdbgmbiaaGreatDoorHB11
import Derived.Test.YtjdfjgfdbgmbiaaGreatDoorHB12
import Derived.Test.YtjdfjgfdbgmbiaaGreatDoorHB13
import Derived.Test.YtjdfjgfdbgmbiaaGreatDoorHB14
import Derived.Test.YtjdfjgfdbgmbiaaGreatDoorHB15
import Derived.Test.YtjdfjgfdbgmbiaaGreatDoorHB16
import Derived.Test.YtjdfjgfdbgmbiaaGreatDoorHB17
import Derived.Test.YtjdfjgfdbgmbiaaGreatDoorHB18
import Derived.Test.YtjdfjgfdbgmbiaaGreatDoorHB19
import Derived.Test.YtjdfjgfdbgmbiaaGreatDoorHB2
import Derived.Test.YtjdfjgfdbgmbiaaGreatDoorHB20
import Derived.Test.YtjdfjgfdbgmbiaaGreatDoorHB21
import Derived.Test.YtjdfjgfdbgmbiaaGreatDoorHB22
import Derived.Test.YtjdfjgfdbgmbiaaGreatDoorHB23
import Derived.Test.YtjdfjgfdbgmbiaaGreatDoorHB24
import Derived.Test.YtjdfjgfdbgmbiaaGreatDoorHB25
import Derived.Test.YtjdfjgfdbgmbiaaGreatDoorHB26
import Derived.Test.YtjdfjgfdbgmbiaaGreatDoorHB27
import Derived.Test.YtjdfjgfdbgmbiaaGreatDoorHB28
import Derived.Test.YtjdfjgfdbgmbiaaGreatDoorHB29
import Derived.Test.YtjdfjgfdbgmbiaaGreatDoorHB3
import Derived.Test.YtjdfjgfdbgmbiaaGreatDoorHB30
import Derived.Test.YtjdfjgfdbgmbiaaGreatDoorHB31
import Derived.Test.YtjdfjgfdbgmbiaaGreatDoorHB32
import Derived.Test.YtjdfjgfdbgmbiaaGreatDoorHB33
import Derived.Test.YtjdfjgfdbgmbiaaGreatDoorHB34
import Derived.Test.YtjdfjgfdbgmbiaaGreatDoorHB35
import Derived.Test.YtjdfjgfdbgmbiaaGreatDoorHB36
import Derived.Test.YtjdfjgfdbgmbiaaGreatDoorHB37
import Derived.Test.YtjdfjgfdbgmbiaaGreatDoorHB38
import Derived.Test.YtjdfjgfdbgmbiaaGreatDoorHB39
import Derived.Test.YtjdfjgfdbgmbiaaGreatDoorHB4
import Derived.Test.YtjdfjgfdbgmbiaaGreatDoorHB5
import Derived.Test.YtjdfjgfdbgmbiaaGreatDoorHB6
import Derived.Test.YtjdfjgfdbgmbiaaGreatDoorHB7
import Derived.Test.YtjdfjgfdbgmbiaaGreatDoorHB8
import Derived.Test.YtjdfjgfdbgmbiaaGreatDoorHB9
import Derived.Test.YtjdfjgfdbgmbiaaGreatDoorHI1
set_option linter.all false
set_option maxRecDepth 100000
set_option maxHeartbeats 8000000
namespace Go.Proofs.YtjdfjgfdbgmbiaaGreatDoor.T
open Go.Proofs.YtjdfjgfdbgmbiaaGreatDoor Go Go.RowKit
theorem awake8_core (l1 l2 l3 l4:List Tm) (w:World)
  (h1:∀ (W:World),Below w.heap.size w W→Calls Tryz.prog 11 #[.string ⟨#[51,47,52]⟩] W fun e W'=>∃ v,e = .returned (.tuple #[v,.int .i64 0])∧Sv W' l1 v∧Below W.heap.size W W')
  (h2:∀ (W:World),Below w.heap.size w W→Calls Tryz.prog 17 #[.string ⟨#[49]⟩,.string ⟨#[49]⟩] W fun e W'=>∃ v,e = .returned (.tuple #[v,.int .i64 0])∧Sv W' l2 v∧Below W.heap.size W W')
  (h3:∀ (W:World),Below w.heap.size w W→Calls Tryz.prog 20 #[.string ⟨#[49]⟩,.string ⟨#[49]⟩] W fun e W'=>∃ v,e = .returned (.tuple #[v,.int .i64 0])∧Sv W' l3 v∧Below W.heap.size W W')
  (h4:∀ (W:World),Below w.heap.size w W→Calls Tryz.prog 19 #[.string ⟨#[49]⟩,.string ⟨#[49]⟩] W fun e W'=>e = .returned (.tuple #[.string ⟨#[49]⟩,.int .i64 0])∧Below W.heap.size W W')
  (h5:∀ (W:World),Below w.heap.size w W→Calls Tryz.prog 22 #[.string ⟨#[49]⟩,.string ⟨#[49]⟩] W fun e W'=>∃ v,e = .returned (.tuple #[v,.int .i64 0])∧Sv W' l4 v∧Below W.heap.size W W')
  (h6:∀ (W:World),Below w.heap.size w W→Calls Tryz.prog 26 #[.string ⟨#[53,47,52]⟩,.string ⟨#[49]⟩] W fun e W'=>∃ v,e = .returned (v)∧Sv W' l1 v∧Below W.heap.size W W')
  (h7:∀ (W:World) (v1 v5:Value),Below w.heap.size w W→Sv W l1 v1→Sv W l1 v5→Calls Tryz.prog 23 #[v1,v5] W fun e W'=>e = .returned (.bool true)∧Below W.heap.size W W')
  (h8:∀ (W:World),Below w.heap.size w W→Calls Tryz.prog 26 #[.string ⟨#[49,47,50]⟩,.string ⟨#[50]⟩] W fun e W'=>∃ v,e = .returned (v)∧Sv W' l2 v∧Below W.heap.size W W')
  (h9:∀ (W:World) (v2 v6:Value),Below w.heap.size w W→Sv W l2 v2→Sv W l2 v6→Calls Tryz.prog 23 #[v2,v6] W fun e W'=>e = .returned (.bool true)∧Below W.heap.size W W')
  (h10:∀ (W:World),Below w.heap.size w W→Calls Tryz.prog 26 #[.string ⟨#[49]⟩,.string ⟨#[51]⟩] W fun e W'=>∃ v,e = .returned (v)∧Sv W' l3 v∧Below W.heap.size W W')
  (h11:∀ (W:World) (v3 v7:Value),Below w.heap.size w W→Sv W l3 v3→Sv W l3 v7→Calls Tryz.prog 23 #[v3,v7] W fun e W'=>e = .returned (.bool true)∧Below W.heap.size W W')
  (h12:∀ (W:World),Below w.heap.size w W→Calls Tryz.prog 26 #[.string ⟨#[49,47,50]⟩,.string ⟨#[49]⟩] W fun e W'=>∃ v,e = .returned (v)∧Sv W' l4 v∧Below W.heap.size W W')
  (h13:∀ (W:World) (v4 v8:Value),Below w.heap.size w W→Sv W l4 v4→Sv W l4 v8→Calls Tryz.prog 23 #[v4,v8] W fun e W'=>e = .returned (.bool true)∧Below W.heap.size W W')
  : Calls Tryz.prog 16 #[] w fun e W'=>e = .returned (.bool true)∧Below w.heap.size w W':=by
 have O:=Lib.hid (And.intro h1 (And.intro h2 (And.intro h3 (And.intro h4 (And.intro h5 (And.intro h6 (And.intro h7 (And.intro h8 (And.intro h9 (And.intro h10 (And.intro h11 (And.intro h12 (h13)))))))))))));clear h1 h2 h3 h4 h5 h6 h7 h8 h9 h10 h11 h12 h13
 have hm:=max5_8
 go_enter Tryz.func16,Tryz.ntmps16
 have HB:=Lib.hid (Below.refl w.heap.size w)
 go_wp2_with fail
 refine (O.out.1 _ HB.out).mono ?_
 rintro e w1 ⟨v1,rfl,s,b⟩
 have Lv1:=Lib.hid s;clear s
 have N:=Lib.hid (HB.out.trans (b.mono HB.out.size));clear HB b;have HB:=N;clear N
 go_wp2_with fail
 refine (O.out.2.1 _ HB.out).mono ?_
 rintro e w2 ⟨v2,rfl,s,b⟩
 have N:=Lib.hid (Lv1.out.next b);clear Lv1;have Lv1:=N;clear N
 have Lv2:=Lib.hid s;clear s
 have N:=Lib.hid (HB.out.trans (b.mono HB.out.size));clear HB b;have HB:=N;clear N
 go_wp2_with fail
 refine (O.out.2.2.1 _ HB.out).mono ?_
 rintro e w3 ⟨v3,rfl,s,b⟩
 have N:=Lib.hid (Lv1.out.next b);clear Lv1;have Lv1:=N;clear N
 have N:=Lib.hid (Lv2.out.next b);clear Lv2;have Lv2:=N;clear N
 have Lv3:=Lib.hid s;clear s
 have N:=Lib.hid (HB.out.trans (b.mono HB.out.size));clear HB b;have HB:=N;clear N
 go_wp2_with fail
 refine (O.out.2.2.2.1 _ HB.out).mono ?_
 rintro e w4 ⟨rfl,b⟩
 have N:=Lib.hid (Lv1.out.next b);clear Lv1;have Lv1:=N;clear N
 have N:=Lib.hid (Lv2.out.next b);clear Lv2;have Lv2:=N;clear N
 have N:=Lib.hid (Lv3.out.next b);clear Lv3;have Lv3:=N;clear N
 have N:=Lib.hid (HB.out.trans (b.mono HB.out.size));clear HB b;have HB:=N;clear N
 go_wp2_with fail
 refine (O.out.2.2.2.2.1 _ HB.out).mono ?_
 rintro e w5 ⟨v4,rfl,s,b⟩
 have N:=Lib.hid (Lv1.out.next b);clear Lv1;have Lv1:=N;clear N
 have N:=Lib.hid (Lv2.out.next b);clear Lv2;have Lv2:=N;clear N
 have N:=Lib.hid (Lv3.out.next b);clear Lv3;have Lv3:=N;clear N
 have Lv4:=Lib.hid s;clear s
 have N:=Lib.hid (HB.out.trans (b.mono HB.out.size));clear HB b;have HB:=N;clear N
 go_wp2_with fail
 refine (O.out.2.2.2.2.2.1 _ HB.out).mono ?_
 rintro e w6 ⟨v5,rfl,s,b⟩
 have N:=Lib.hid (Lv1.out.next b);clear Lv1;have Lv1:=N;clear N
 have N:=Lib.hid (Lv2.out.next b);clear Lv2;have Lv2:=N;clear N
 have N:=Lib.hid (Lv3.out.next b);clear Lv3;have Lv3:=N;clear N
 have N:=Lib.hid (Lv4.out.next b);clear Lv4;have Lv4:=N;clear N
 have Lv5:=Lib.hid s;clear s
 have N:=Lib.hid (HB.out.trans (b.mono HB.out.size));clear HB b;have HB:=N;clear N
 go_wp2_with fail
 refine (O.out.2.2.2.2.2.2.1 _ _ _ HB.out Lv1.out Lv5.out).mono ?_
 rintro e w7 ⟨rfl,b⟩
 have N:=Lib.hid (Lv1.out.next b);clear Lv1;have Lv1:=N;clear N
 have N:=Lib.hid (Lv2.out.next b);clear Lv2;have Lv2:=N;clear N
 have N:=Lib.hid (Lv3.out.next b);clear Lv3;have Lv3:=N;clear N
 have N:=Lib.hid (Lv4.out.next b);clear Lv4;have Lv4:=N;clear N
 have N:=Lib.hid (Lv5.out.next b);clear Lv5;have Lv5:=N;clear N
 have N:=Lib.hid (HB.out.trans (b.mono HB.out.size));clear HB b;have HB:=N;clear N
 clear Lv1
 clear Lv5
 go_wp2_with fail
 refine (O.out.2.2.2.2.2.2.2.1 _ HB.out).mono ?_
 rintro e w8 ⟨v6,rfl,s,b⟩
 have N:=Lib.hid (Lv2.out.next b);clear Lv2;have Lv2:=N;clear N
 have N:=Lib.hid (Lv3.out.next b);clear Lv3;have Lv3:=N;clear N
 have N:=Lib.hid (Lv4.out.next b);clear Lv4;have Lv4:=N;clear N
 have Lv6:=Lib.hid s;clear s
 have N:=Lib.hid (HB.out.trans (b.mono HB.out.size));clear HB b;have HB:=N;clear N
 go_wp2_with fail
 refine (O.out.2.2.2.2.2.2.2.2.1 _ _ _ HB.out Lv2.out Lv6.out).mono ?_
 rintro e w9 ⟨rfl,b⟩
 have N:=Lib.hid (Lv2.out.next b);clear Lv2;have Lv2:=N;clear N
 have N:=Lib.hid (Lv3.out.next b);clear Lv3;have Lv3:=N;clear N
 have N:=Lib.hid (Lv4.out.next b);clear Lv4;have Lv4:=N;clear N
 have N:=Lib.hid (Lv6.out.next b);clear Lv6;have Lv6:=N;clear N
 have N:=Lib.hid (HB.out.trans (b.mono HB.out.size));clear HB b;have HB:=N;clear N
 clear Lv2
 clear Lv6
 go_wp2_with fail
 refine (O.out.2.2.2.2.2.2.2.2.2.1 _ HB.out).mono ?_
 rintro e w10 ⟨v7,rfl,s,b⟩
 have N:=Lib.hid (Lv3.out.next b);clear Lv3;have Lv3:=N;clear N
 have N:=Lib.hid (Lv4.out.next b);clear Lv4;have Lv4:=N;clear N
 have Lv7:=Lib.hid s;clear s
 have N:=Lib.hid (HB.out.trans (b.mono HB.out.size));clear HB b;have HB:=N;clear N
 go_wp2_with fail
 refine (O.out.2.2.2.2.2.2.2.2.2.2.1 _ _ _ HB.out Lv3.out Lv7.out).mono ?_
 rintro e w11 ⟨rfl,b⟩
 have N:=Lib.hid (Lv3.out.next b);clear Lv3;have Lv3:=N;clear N
 have N:=Lib.hid (Lv4.out.next b);clear Lv4;have Lv4:=N;clear N
 have N:=Lib.hid (Lv7.out.next b);clear Lv7;have Lv7:=N;clear N
 have N:=Lib.hid (HB.out.trans (b.mono HB.out.size));clear HB b;have HB:=N;clear N
 clear Lv3
 clear Lv7
 go_wp2_with fail
 refine (O.out.2.2.2.2.2.2.2.2.2.2.2.1 _ HB.out).mono ?_
 rintro e w12 ⟨v8,rfl,s,b⟩
 have N:=Lib.hid (Lv4.out.next b);clear Lv4;have Lv4:=N;clear N
 have Lv8:=Lib.hid s;clear s
 have N:=Lib.hid (HB.out.trans (b.mono HB.out.size));clear HB b;have HB:=N;clear N
 go_wp2_with fail
 refine (O.out.2.2.2.2.2.2.2.2.2.2.2.2 _ _ _ HB.out Lv4.out Lv8.out).mono ?_
 rintro e w13 ⟨rfl,b⟩
 have N:=Lib.hid (Lv4.out.next b);clear Lv4;have Lv4:=N;clear N
 have N:=Lib.hid (Lv8.out.next b);clear Lv8;have Lv8:=N;clear N
 have N:=Lib.hid (HB.out.trans (b.mono HB.out.size));clear HB b;have HB:=N;clear N
 clear Lv4
 clear Lv8
 go_wp2
 go_ret
 exact ⟨rfl,HB.out⟩
theorem n54:R1 (facQ (Rat.divInt 3 4)) = [(Rat.divInt 5 4,((1:Nat):Rat))] :=
 root_is (by decide+kernel) ((nN_one (by decide+kernel)).2 ⟨Rat.divInt 5 4,by decide+kernel⟩) (by decide+kernel) (by decide+kernel) (by decide)
theorem R1_lit {x c:Rat} {n:Nat} (c0:0<c) (hn:Nrm n) (ln:n<10000) (k:nN x<10000) (e:c*c*(n:Rat)=x):R1 x = [(c,(n:Rat))]:=by
 have n1:=nat_pos hn.1
 have x0:0<x:=by rw [←e];exact Rat.mul_pos (Rat.mul_pos c0 c0) n1
 have r:Rl ((nN x:Nat):Rat) ((n:Nat):Rat):=(nrm_rl (Rat.le_of_lt x0) (by grind)).trans ⟨c,c0,e.symm⟩
 have q:=rl_eq (nrm_of (Rat.le_of_lt x0)) hn k ln r
 exact root_is (Rat.le_of_lt c0) q (Rat.le_of_lt x0) e hn.1
theorem n12:R1 (hipQ 1 1) = [(Rat.divInt 1 2,((2:Nat):Rat))] :=
 R1_lit (by decide+kernel) nrm2 (by decide) (Nat.lt_of_lt_of_le (nN_lt (k:=1) (by decide) ⟨by decide+kernel,by decide+kernel⟩) (by decide+kernel)) (by decide+kernel)
theorem n3:R1 (lenQ 1 1) = [(1,((3:Nat):Rat))] :=
 R1_lit (by decide+kernel) nrm3 (by decide) (Nat.lt_of_lt_of_le (nN_lt (k:=1) (by decide) ⟨by decide+kernel,by decide+kernel⟩) (by decide+kernel)) (by decide+kernel)
theorem nh:R1 (dihQ 1 1) = [(Rat.divInt 1 2,((1:Nat):Rat))] :=
 R1_lit (by decide+kernel) nrm1 (by decide) (Nat.lt_of_lt_of_le (nN_lt (k:=1) (by decide) ⟨by decide+kernel,by decide+kernel⟩) (by decide+kernel)) (by decide+kernel)
theorem sq34:strQ (Rat.divInt 3 4)=⟨#[51,47,52]⟩:=by decide+kernel
theorem sq54:strQ (Rat.divInt 5 4)=⟨#[53,47,52]⟩:=by decide+kernel
theorem sqh:strQ (Rat.divInt 1 2)=⟨#[49,47,50]⟩:=by decide+kernel
theorem sqn1:strQ ((1:Nat):Rat)=⟨#[49]⟩:=strQ_one
theorem sqn2:strQ ((2:Nat):Rat)=⟨#[50]⟩:=sq2
theorem sqn3:strQ ((3:Nat):Rat)=⟨#[51]⟩:=sq3
theorem pt34:Pt (Rat.divInt 3 4):=⟨by decide+kernel,by decide+kernel,by decide+kernel⟩
theorem awake8_any (w:World) (ht:Tab w) (ht2:Tab64 w) (hS:Sm w):Calls Tryz.prog 16 #[] w fun e W'=>e = .returned (.bool true)∧Below w.heap.size w W' :=
 awake8_core [(Rat.divInt 5 4,((1:Nat):Rat))] [(Rat.divInt 1 2,((2:Nat):Rat))] [(1,((3:Nat):Rat))] [(Rat.divInt 1 2,((1:Nat):Rat))] w
  (fun W h=>by rw [←sq34,←n54];exact Factor_q pt34 W (ht.next h) (TabQ_next ht2 h) (hS.next h))
  (fun W h=>by rw [←sq1,←n12];exact Hip_q pt1 pt1 W (ht.next h) (TabQ_next ht2 h) (hS.next h))
  (fun W h=>by rw [←sq1,←n3];exact Length_q pt1 pt1 W (ht.next h) (TabQ_next ht2 h) (hS.next h))
  (fun W h=>by
   have:=Plan_q pt1 pt1 W (ht.next h) (TabQ_next ht2 h)
   rwa [show (1:Rat) / 1=1 by decide+kernel,sq1] at this)
  (fun W h=>by rw [←sq1,←nh];exact Dihedral_q pt1 pt1 W (ht.next h) (TabQ_next ht2 h) (hS.next h))
  (fun W _=>one_sv _ 1 _ _ sq54 sqn1 (by decide+kernel) ⟨by decide+kernel,by decide+kernel⟩ nrm1 (by decide) W) (fun W v1 v5 _ s t=>Same_1 _ W v1 v5 s t)
  (fun W _=>one_sv _ 2 _ _ sqh sqn2 (by decide+kernel) ⟨by decide+kernel,by decide+kernel⟩ nrm2 (by decide) W) (fun W v1 v5 _ s t=>Same_1 _ W v1 v5 s t)
  (fun W _=>one_sv 1 3 _ _ sq1 sqn3 (by decide+kernel) ⟨by decide+kernel,by decide+kernel⟩ nrm3 (by decide) W) (fun W v1 v5 _ s t=>Same_1 _ W v1 v5 s t)
  (fun W _=>one_sv _ 1 _ _ sqh sqn1 (by decide+kernel) ⟨by decide+kernel,by decide+kernel⟩ nrm1 (by decide) W) (fun W v1 v5 _ s t=>Same_1 _ W v1 v5 s t)
end Go.Proofs.YtjdfjgfdbgmbiaaGreatDoor.T
namespace Go.Proofs.YtjdfjgfdbgmbiaaGreatDoor.T
open Go.Proofs.YtjdfjgfdbgmbiaaGreatDoor Go Go.RowKit
theorem Mul_inv (c d:Rat) (n m:Nat) (W:World) (v u:Value) (hv:Sv W [(c,(n:Rat))] v) (hu:Sv W [(d,(m:Rat))] u) (c0:0<c*d) (n0:0<n) (m0:0<m) (bcd:Bq 100 (c*d)) (ln:n<tenTo 40) (lm:m<tenTo 40)
  (e:c*c*(n:Rat)*(d*d*(m:Rat))=1) (ht:Tab W) (ht2:Tab64 W) (hS:Sm W) :
  Calls Tryz.prog 25 #[v,u] W fun e W'=>∃ v,e = .returned (.tuple #[v,.int .i64 0])∧Sv W' [(1,((1:Nat):Rat))] v∧Below W.heap.size W W':=by
 have q0:(0:Rat)≤((n*m:Nat):Rat):=castn_nonneg _
 have cne:c*d≠0:=by grind
 have i1:1 / (c*d)*(c*d)=1:=Rat.div_mul_cancel cne
 have en:nN ((n*m:Nat):Rat)=1:=(nN_one q0).2 ⟨1 / (c*d),by
  have h:(1 / (c*d)*(1 / (c*d)) - ((n*m:Nat):Rat))*(c*d*(c*d))=0:=by
   rw [Rat.natCast_mul]
   generalize 1 / (c*d)=i at *
   have:i*i*(c*d*(c*d))=1:=by
    have:i*i*(c*d*(c*d))=i*(c*d)*(i*(c*d)):=by grind
    rw [this,i1];grind
   grind
  rcases Rat.mul_eq_zero.1 h with z | z
  ·grind
  ·exact absurd ((Rat.mul_eq_zero.1 z).elim id id) cne⟩
 have s:=nC_sq q0
 rw [en] at s
 have o1:((1:Nat):Rat)=1:=rfl
 rw [o1,Rat.mul_one] at s
 have k0:=nC_nonneg ((n*m:Nat):Rat)
 have ec:c*d*nC ((n*m:Nat):Rat)=1:=by
  generalize nC ((n*m:Nat):Rat)=k at *
  refine sq_inj (Rat.mul_nonneg (Rat.le_of_lt c0) k0) (by decide) ?_
  have:c*d*k*(c*d*k)=c*d*(c*d)*(k*k):=by grind
  rw [this,s,Rat.natCast_mul,←e];grind
 have c1:c≠0:=fun z=>cne (by rw [z];grind)
 have d1:d≠0:=fun z=>cne (by rw [z];grind)
 have:=Mul_1 c d n m W v u hv hu c1 d1 n0 m0 bcd ln lm (by rw [ec];exact Bq_one.up (by decide)) (by rw [en];decide+kernel) ht ht2 hS
 rwa [ec,en] at this
end Go.Proofs.YtjdfjgfdbgmbiaaGreatDoor.T
namespace Go.Proofs.YtjdfjgfdbgmbiaaGreatDoor.T
open Go.Proofs.YtjdfjgfdbgmbiaaGreatDoor Go Go.RowKit
theorem inverses_core8 (a b n y z:Int) (c r:ByteArray) (l1 l2 l3:List Tm) (w:World) (n0:¬ a=0) (ey:b+1=y) (ez:n+1=z) (a1 : -128≤a) (a2:a≤127) (b1:0≤b) (b2:b≤255) (m1:0≤n) (m2:n≤255)
  (h1:∀ (W:World),Below w.heap.size w W→Calls Tryz.prog 27 #[.int .i64 a,.int .i64 y] W fun e W'=>e = .returned (.tuple #[.string c,.int .i64 0])∧Below W.heap.size W W')
  (h2:∀ (W:World),Below w.heap.size w W→Calls Tryz.prog 27 #[.int .i64 z,.int .i64 1] W fun e W'=>e = .returned (.tuple #[.string r,.int .i64 0])∧Below W.heap.size W W')
  (h3:∀ (W:World) (kb:Nat),Below w.heap.size w W→Blk W kb #[.string c,.string r]→Calls Tryz.prog 28 #[.slice (some ⟨kb,0,none⟩) 1 1] W fun e W'=>∃ v,e = .returned (.tuple #[v,.int .i64 0])∧Sv W' l1 v∧Below W.heap.size W W')
  (h4:∀ (W:World) (v1:Value),Below w.heap.size w W→Sv W l1 v1→Calls Tryz.prog 21 #[v1] W fun e W'=>∃ v,e = .returned (.tuple #[v,.int .i64 0])∧Sv W' l2 v∧Below W.heap.size W W')
  (h5:∀ (W:World) (v1 v2:Value),Below w.heap.size w W→Sv W l1 v1→Sv W l2 v2→Calls Tryz.prog 25 #[v1,v2] W fun e W'=>∃ v,e = .returned (.tuple #[v,.int .i64 0])∧Sv W' l3 v∧Below W.heap.size W W')
  (h6:∀ (W:World) (v2:Value),Below w.heap.size w W→Sv W l2 v2→Calls Tryz.prog 21 #[v2] W fun e W'=>∃ v,e = .returned (.tuple #[v,.int .i64 0])∧Sv W' l1 v∧Below W.heap.size W W')
  (h7:∀ (W:World),Below w.heap.size w W→Calls Tryz.prog 26 #[.string ⟨#[49]⟩,.string ⟨#[49]⟩] W fun e W'=>∃ v,e = .returned (v)∧Sv W' l3 v∧Below W.heap.size W W')
  (h8:∀ (W:World) (v3 v5:Value),Below w.heap.size w W→Sv W l3 v3→Sv W l3 v5→Calls Tryz.prog 23 #[v3,v5] W fun e W'=>e = .returned (.bool true)∧Below W.heap.size W W')
  (h9:∀ (W:World) (v4 v1:Value),Below w.heap.size w W→Sv W l1 v4→Sv W l1 v1→Calls Tryz.prog 23 #[v4,v1] W fun e W'=>e = .returned (.bool true)∧Below W.heap.size W W')
  (h10:∀ (W:World),Below w.heap.size w W→Calls Tryz.prog 16 #[] W fun e W'=>e = .returned (.bool true)∧Below W.heap.size W W')
  : Calls Tryz.prog 8 #[.int .i8 a,.int .u8 b,.int .u8 n] w fun e W'=>e = .returned (.bool true)∧Below w.heap.size w W':=by
 have O:=Lib.hid (And.intro h1 (And.intro h2 (And.intro h3 (And.intro h4 (And.intro h5 (And.intro h6 (And.intro h7 (And.intro h8 (And.intro h9 (h10))))))))));clear h1 h2 h3 h4 h5 h6 h7 h8 h9 h10
 have hm:=max4_8
 go_enter Tryz.func8,Tryz.ntmps8
 have HB:=Lib.hid (Below.refl w.heap.size w)
 go_wp2_with fail
 refine (O.out.1 _ HB.out).mono ?_
 rintro e w1 ⟨rfl,b⟩
 have N:=Lib.hid (HB.out.trans (b.mono HB.out.size));clear HB b;have HB:=N;clear N
 go_wp2_with fail
 refine (O.out.2.1 _ HB.out).mono ?_
 rintro e w2 ⟨rfl,b⟩
 have N:=Lib.hid (HB.out.trans (b.mono HB.out.size));clear HB b;have HB:=N;clear N
 go_wp2_with fail
 have N:=Lib.hid (HB.out.alloc HB.out.size (.cells #[.string c,.string r] 50))
 refine (O.out.2.2.1 _ _ N.out (Blk.new w2 _ _)).mono ?_
 rintro e w3 ⟨v1,rfl,s,b⟩
 have N2:=Lib.hid (N.out.trans (b.mono N.out.size));clear HB N b;have HB:=N2;clear N2
 have Lv1:=Lib.hid s;clear s
 go_wp2_with fail
 refine (O.out.2.2.2.1 _ _ HB.out Lv1.out).mono ?_
 rintro e w4 ⟨v2,rfl,s,b⟩
 have N:=Lib.hid (Lv1.out.next b);clear Lv1;have Lv1:=N;clear N
 have Lv2:=Lib.hid s;clear s
 have N:=Lib.hid (HB.out.trans (b.mono HB.out.size));clear HB b;have HB:=N;clear N
 go_wp2_with fail
 refine (O.out.2.2.2.2.1 _ _ _ HB.out Lv1.out Lv2.out).mono ?_
 rintro e w5 ⟨v3,rfl,s,b⟩
 have N:=Lib.hid (Lv1.out.next b);clear Lv1;have Lv1:=N;clear N
 have N:=Lib.hid (Lv2.out.next b);clear Lv2;have Lv2:=N;clear N
 have Lv3:=Lib.hid s;clear s
 have N:=Lib.hid (HB.out.trans (b.mono HB.out.size));clear HB b;have HB:=N;clear N
 go_wp2_with fail
 refine (O.out.2.2.2.2.2.1 _ _ HB.out Lv2.out).mono ?_
 rintro e w6 ⟨v4,rfl,s,b⟩
 have N:=Lib.hid (Lv1.out.next b);clear Lv1;have Lv1:=N;clear N
 have N:=Lib.hid (Lv2.out.next b);clear Lv2;have Lv2:=N;clear N
 have N:=Lib.hid (Lv3.out.next b);clear Lv3;have Lv3:=N;clear N
 have Lv4:=Lib.hid s;clear s
 have N:=Lib.hid (HB.out.trans (b.mono HB.out.size));clear HB b;have HB:=N;clear N
 clear Lv2
 go_wp2_with fail
 refine (O.out.2.2.2.2.2.2.1 _ HB.out).mono ?_
 rintro e w7 ⟨v5,rfl,s,b⟩
 have N:=Lib.hid (Lv1.out.next b);clear Lv1;have Lv1:=N;clear N
 have N:=Lib.hid (Lv3.out.next b);clear Lv3;have Lv3:=N;clear N
 have N:=Lib.hid (Lv4.out.next b);clear Lv4;have Lv4:=N;clear N
 have Lv5:=Lib.hid s;clear s
 have N:=Lib.hid (HB.out.trans (b.mono HB.out.size));clear HB b;have HB:=N;clear N
 go_wp2_with fail
 refine (O.out.2.2.2.2.2.2.2.1 _ _ _ HB.out Lv3.out Lv5.out).mono ?_
 rintro e w8 ⟨rfl,b⟩
 have N:=Lib.hid (Lv1.out.next b);clear Lv1;have Lv1:=N;clear N
 have N:=Lib.hid (Lv3.out.next b);clear Lv3;have Lv3:=N;clear N
 have N:=Lib.hid (Lv4.out.next b);clear Lv4;have Lv4:=N;clear N
 have N:=Lib.hid (Lv5.out.next b);clear Lv5;have Lv5:=N;clear N
 have N:=Lib.hid (HB.out.trans (b.mono HB.out.size));clear HB b;have HB:=N;clear N
 clear Lv3
 clear Lv5
 go_wp2_with fail
 refine (O.out.2.2.2.2.2.2.2.2.1 _ _ _ HB.out Lv4.out Lv1.out).mono ?_
 rintro e w9 ⟨rfl,b⟩
 have N:=Lib.hid (Lv1.out.next b);clear Lv1;have Lv1:=N;clear N
 have N:=Lib.hid (Lv4.out.next b);clear Lv4;have Lv4:=N;clear N
 have N:=Lib.hid (HB.out.trans (b.mono HB.out.size));clear HB b;have HB:=N;clear N
 clear Lv4
 clear Lv1
 go_wp2_with fail
 refine (O.out.2.2.2.2.2.2.2.2.2 _ HB.out).mono ?_
 rintro e w10 ⟨rfl,b⟩
 have N:=Lib.hid (HB.out.trans (b.mono HB.out.size));clear HB b;have HB:=N;clear N
 go_wp2
 go_ret
 exact ⟨rfl,HB.out⟩
theorem inverses_core8z (b n y z:Int) (c r:ByteArray) (l1 l2 l3:List Tm) (w:World)  (ey:b+1=y) (ez:n+1=z) (b1:0≤b) (b2:b≤255) (m1:0≤n) (m2:n≤255)
  (h1:∀ (W:World),Below w.heap.size w W→Calls Tryz.prog 27 #[.int .i64 1,.int .i64 y] W fun e W'=>e = .returned (.tuple #[.string c,.int .i64 0])∧Below W.heap.size W W')
  (h2:∀ (W:World),Below w.heap.size w W→Calls Tryz.prog 27 #[.int .i64 z,.int .i64 1] W fun e W'=>e = .returned (.tuple #[.string r,.int .i64 0])∧Below W.heap.size W W')
  (h3:∀ (W:World) (kb:Nat),Below w.heap.size w W→Blk W kb #[.string c,.string r]→Calls Tryz.prog 28 #[.slice (some ⟨kb,0,none⟩) 1 1] W fun e W'=>∃ v,e = .returned (.tuple #[v,.int .i64 0])∧Sv W' l1 v∧Below W.heap.size W W')
  (h4:∀ (W:World) (v1:Value),Below w.heap.size w W→Sv W l1 v1→Calls Tryz.prog 21 #[v1] W fun e W'=>∃ v,e = .returned (.tuple #[v,.int .i64 0])∧Sv W' l2 v∧Below W.heap.size W W')
  (h5:∀ (W:World) (v1 v2:Value),Below w.heap.size w W→Sv W l1 v1→Sv W l2 v2→Calls Tryz.prog 25 #[v1,v2] W fun e W'=>∃ v,e = .returned (.tuple #[v,.int .i64 0])∧Sv W' l3 v∧Below W.heap.size W W')
  (h6:∀ (W:World) (v2:Value),Below w.heap.size w W→Sv W l2 v2→Calls Tryz.prog 21 #[v2] W fun e W'=>∃ v,e = .returned (.tuple #[v,.int .i64 0])∧Sv W' l1 v∧Below W.heap.size W W')
  (h7:∀ (W:World),Below w.heap.size w W→Calls Tryz.prog 26 #[.string ⟨#[49]⟩,.string ⟨#[49]⟩] W fun e W'=>∃ v,e = .returned (v)∧Sv W' l3 v∧Below W.heap.size W W')
  (h8:∀ (W:World) (v3 v5:Value),Below w.heap.size w W→Sv W l3 v3→Sv W l3 v5→Calls Tryz.prog 23 #[v3,v5] W fun e W'=>e = .returned (.bool true)∧Below W.heap.size W W')
  (h9:∀ (W:World) (v4 v1:Value),Below w.heap.size w W→Sv W l1 v4→Sv W l1 v1→Calls Tryz.prog 23 #[v4,v1] W fun e W'=>e = .returned (.bool true)∧Below W.heap.size W W')
  (h10:∀ (W:World),Below w.heap.size w W→Calls Tryz.prog 16 #[] W fun e W'=>e = .returned (.bool true)∧Below W.heap.size W W')
  : Calls Tryz.prog 8 #[.int .i8 0,.int .u8 b,.int .u8 n] w fun e W'=>e = .returned (.bool true)∧Below w.heap.size w W':=by
 have O:=Lib.hid (And.intro h1 (And.intro h2 (And.intro h3 (And.intro h4 (And.intro h5 (And.intro h6 (And.intro h7 (And.intro h8 (And.intro h9 (h10))))))))));clear h1 h2 h3 h4 h5 h6 h7 h8 h9 h10
 have hm:=max4_8
 go_enter Tryz.func8,Tryz.ntmps8
 have HB:=Lib.hid (Below.refl w.heap.size w)
 go_wp2_with fail
 refine (O.out.1 _ HB.out).mono ?_
 rintro e w1 ⟨rfl,b⟩
 have N:=Lib.hid (HB.out.trans (b.mono HB.out.size));clear HB b;have HB:=N;clear N
 go_wp2_with fail
 refine (O.out.2.1 _ HB.out).mono ?_
 rintro e w2 ⟨rfl,b⟩
 have N:=Lib.hid (HB.out.trans (b.mono HB.out.size));clear HB b;have HB:=N;clear N
 go_wp2_with fail
 have N:=Lib.hid (HB.out.alloc HB.out.size (.cells #[.string c,.string r] 50))
 refine (O.out.2.2.1 _ _ N.out (Blk.new w2 _ _)).mono ?_
 rintro e w3 ⟨v1,rfl,s,b⟩
 have N2:=Lib.hid (N.out.trans (b.mono N.out.size));clear HB N b;have HB:=N2;clear N2
 have Lv1:=Lib.hid s;clear s
 go_wp2_with fail
 refine (O.out.2.2.2.1 _ _ HB.out Lv1.out).mono ?_
 rintro e w4 ⟨v2,rfl,s,b⟩
 have N:=Lib.hid (Lv1.out.next b);clear Lv1;have Lv1:=N;clear N
 have Lv2:=Lib.hid s;clear s
 have N:=Lib.hid (HB.out.trans (b.mono HB.out.size));clear HB b;have HB:=N;clear N
 go_wp2_with fail
 refine (O.out.2.2.2.2.1 _ _ _ HB.out Lv1.out Lv2.out).mono ?_
 rintro e w5 ⟨v3,rfl,s,b⟩
 have N:=Lib.hid (Lv1.out.next b);clear Lv1;have Lv1:=N;clear N
 have N:=Lib.hid (Lv2.out.next b);clear Lv2;have Lv2:=N;clear N
 have Lv3:=Lib.hid s;clear s
 have N:=Lib.hid (HB.out.trans (b.mono HB.out.size));clear HB b;have HB:=N;clear N
 go_wp2_with fail
 refine (O.out.2.2.2.2.2.1 _ _ HB.out Lv2.out).mono ?_
 rintro e w6 ⟨v4,rfl,s,b⟩
 have N:=Lib.hid (Lv1.out.next b);clear Lv1;have Lv1:=N;clear N
 have N:=Lib.hid (Lv2.out.next b);clear Lv2;have Lv2:=N;clear N
 have N:=Lib.hid (Lv3.out.next b);clear Lv3;have Lv3:=N;clear N
 have Lv4:=Lib.hid s;clear s
 have N:=Lib.hid (HB.out.trans (b.mono HB.out.size));clear HB b;have HB:=N;clear N
 clear Lv2
 go_wp2_with fail
 refine (O.out.2.2.2.2.2.2.1 _ HB.out).mono ?_
 rintro e w7 ⟨v5,rfl,s,b⟩
 have N:=Lib.hid (Lv1.out.next b);clear Lv1;have Lv1:=N;clear N
 have N:=Lib.hid (Lv3.out.next b);clear Lv3;have Lv3:=N;clear N
 have N:=Lib.hid (Lv4.out.next b);clear Lv4;have Lv4:=N;clear N
 have Lv5:=Lib.hid s;clear s
 have N:=Lib.hid (HB.out.trans (b.mono HB.out.size));clear HB b;have HB:=N;clear N
 go_wp2_with fail
 refine (O.out.2.2.2.2.2.2.2.1 _ _ _ HB.out Lv3.out Lv5.out).mono ?_
 rintro e w8 ⟨rfl,b⟩
 have N:=Lib.hid (Lv1.out.next b);clear Lv1;have Lv1:=N;clear N
 have N:=Lib.hid (Lv3.out.next b);clear Lv3;have Lv3:=N;clear N
 have N:=Lib.hid (Lv4.out.next b);clear Lv4;have Lv4:=N;clear N
 have N:=Lib.hid (Lv5.out.next b);clear Lv5;have Lv5:=N;clear N
 have N:=Lib.hid (HB.out.trans (b.mono HB.out.size));clear HB b;have HB:=N;clear N
 clear Lv3
 clear Lv5
 go_wp2_with fail
 refine (O.out.2.2.2.2.2.2.2.2.1 _ _ _ HB.out Lv4.out Lv1.out).mono ?_
 rintro e w9 ⟨rfl,b⟩
 have N:=Lib.hid (Lv1.out.next b);clear Lv1;have Lv1:=N;clear N
 have N:=Lib.hid (Lv4.out.next b);clear Lv4;have Lv4:=N;clear N
 have N:=Lib.hid (HB.out.trans (b.mono HB.out.size));clear HB b;have HB:=N;clear N
 clear Lv4
 clear Lv1
 go_wp2_with fail
 refine (O.out.2.2.2.2.2.2.2.2.2 _ HB.out).mono ?_
 rintro e w10 ⟨rfl,b⟩
 have N:=Lib.hid (HB.out.trans (b.mono HB.out.size));clear HB b;have HB:=N;clear N
 go_wp2
 go_ret
 exact ⟨rfl,HB.out⟩
theorem i8rng {a:Int} (h:(Lit.int .i8 a).wf=true) : -128≤a∧a≤127:=by simpa [Lit.wf,IntKind.min,IntKind.max,IntKind.signed,IntKind.bits] using h
theorem u8rng {a:Int} (h:(Lit.int .u8 a).wf=true):0≤a∧a≤255:=by simpa [Lit.wf,IntKind.min,IntKind.max,IntKind.signed,IntKind.bits] using h
theorem SlopeInverses_any (a b n:Int) (w:World) (ha:(Lit.int .i8 a).wf=true) (hb:(Lit.int .u8 b).wf=true) (hn:(Lit.int .u8 n).wf=true) (ht:Tab w) (ht2:Tab64 w) (hS:Sm w) :
  Calls Tryz.prog 8 #[.int .i8 a,.int .u8 b,.int .u8 n] w fun e W'=>e = .returned (.bool true)∧Below w.heap.size w W':=by
 have a1:=i8rng ha
 have b1:=u8rng hb
 have m1:=u8rng hn
 obtain ⟨x,hx,x0,xl⟩:∃ x:Int,x=(if a=0 then 1 else a)∧x≠0∧x.natAbs<tenTo 3:=⟨_,rfl,by split <;> omega,by
  have:tenTo 3=1000:=by decide
  split <;> omega⟩
 obtain ⟨q,hq⟩:∃ q:Rat,q=Rat.divInt (n+1) 1:=⟨_,rfl⟩
 obtain ⟨k,hk⟩:∃ k:Nat,n+1=k:=⟨(n+1).toNat,by omega⟩
 have qk:q=(k:Rat):=by
  rw [hq,hk,Rat.divInt_eq_div]
  have o1:((1:Int):Rat)=1:=rfl
  have h:=Rat.div_mul_cancel (a:=((k:Int):Rat)) (b:=((1:Int):Rat)) (by decide)
  rw [o1] at h ⊢
  rw [Rat.mul_one] at h
  rw [h];exact Rat.intCast_natCast k
 have k0:0<k:=by omega
 have kl:k<tenTo 3:=by
  have:tenTo 3=1000:=by decide
  omega
 have q0:0<q:=by rw [qk];exact nat_pos k0
 have qb:Bq 3 q:=by rw [qk];exact nat_bq (by decide) kl
 obtain ⟨c,hc⟩:∃ c:Rat,c=Rat.divInt x (b+1):=⟨_,rfl⟩
 have cb:Bq 3 c:=by
  rw [hc]
  refine Bq.of_int (by omega) xl ?_
  show (b+1).natAbs<tenTo 3
  have:tenTo 3=1000:=by decide
  omega
 have c0:c≠0:=fun z=>by
  have h:=Rat.divInt_eq_div x (b+1)
  rw [←hc,z] at h
  have y0:((b+1:Int):Rat)≠0:=by
   have y00:0<b+1:=by omega
   have:(0:Rat)<((b+1:Int):Rat):=by have:=Rat.intCast_lt_intCast.2 y00;exact this
   grind
  have h2:=Rat.div_mul_cancel (a:=(x:Rat)) y0
  rw [←h,Rat.zero_mul] at h2
  exact x0 (Rat.intCast_eq_zero_iff.1 h2.symm)
 have d0:=nC_pos (Rat.le_of_lt q0) (by grind)
 have db:=nC_bq qb
 have e0:c*nC q≠0:=co0 c0 q0
 have eb:=(qmul_ok cb db (by decide)).2.2
 have np:=nrm_of (Rat.le_of_lt q0)
 have nl:nN q<tenTo 20:=Nat.lt_of_lt_of_le (nN_lt (by decide) qb) (tenTo_mono (by decide))
 have xi:I64 x:=by
  have:tenTo 3=1000:=by decide
  unfold I64;omega
 have oQ1:=fun W (h:Below w.heap.size w W)=>Of_q x (b+1) W xi (by unfold I64;omega) (by omega) (ht.next h) (TabQ_next ht2 h)
 have oQ2:=fun W (h:Below w.heap.size w W)=>Of_q (n+1) 1 W (by unfold I64;omega) (by unfold I64;omega) (by omega) (ht.next h) (TabQ_next ht2 h)
 rw [←hc] at oQ1
 rw [←hq] at oQ2
 have mk:=fun (W:World) (kb:Nat) (h:Below w.heap.size w W) (k:Blk W kb #[.string (strQ c),.string (strQ q)])=>Make_1 c q W kb k c0 q0 (cb.up (by decide)) (qb.up (by decide)) (eb.up (by decide)) nl (ht.next h) (TabQ_next ht2 h) (hS.next h)
 generalize hm:nN q=m at *
 have g0:=nat_pos np.1
 generalize hf:c*nC q=f at *
 have fm0:f*(m:Rat)≠0:=fun z=>(Rat.mul_eq_zero.1 z).elim e0 (by grind)
 have fmb:=(qmul_ok eb (nat_bq (k:=20) (by decide) nl) (by decide)).2.2
 have iv:=inv_bq fmb fm0
 have e1:1 / (f*(m:Rat))*(f*(m:Rat))=1:=Rat.div_mul_cancel fm0
 have i0:1 / (f*(m:Rat))≠0:=fun z=>by rw [z] at e1;grind
 have back:1 / (1 / (f*(m:Rat))*(m:Rat))=f:=by
  have im0:1 / (f*(m:Rat))*(m:Rat)≠0:=fun z=>(Rat.mul_eq_zero.1 z).elim i0 (by grind)
  have e2:1 / (1 / (f*(m:Rat))*(m:Rat))*(1 / (f*(m:Rat))*(m:Rat))=1:=Rat.div_mul_cancel im0
  generalize 1 / (f*(m:Rat))=i at *
  generalize 1 / (i*(m:Rat))=j at *
  have:(j - f)*(i*(m:Rat))=0:=by grind
  rcases Rat.mul_eq_zero.1 this with z | z
  ·grind
  ·exact absurd z im0
 have pos:0<f*(1 / (f*(m:Rat))):=by
  have h:f*(1 / (f*(m:Rat)))*(m:Rat)=1:=by
   generalize 1 / (f*(m:Rat))=i at *
   grind
  by_cases z0:0<f*(1 / (f*(m:Rat)))
  ·exact z0
  ·have z:f*(1 / (f*(m:Rat)))≤0:=Rat.not_lt.1 z0
   have:=Rat.mul_le_mul_of_nonneg_right z (Rat.le_of_lt g0)
   rw [h,Rat.zero_mul] at this
   exact absurd this (by decide)
 have sq:f*f*(m:Rat)*(1 / (f*(m:Rat))*(1 / (f*(m:Rat)))*(m:Rat))=1:=by
  generalize 1 / (f*(m:Rat))=i at *
  have:f*f*(m:Rat)*(i*i*(m:Rat))=i*(f*(m:Rat))*(i*(f*(m:Rat))):=by grind
  rw [this,e1];grind
 have bi:=(qmul_ok eb iv (by decide)).2.2
 have g4:=fun (W:World) (v1:Value) (h:Below w.heap.size w W) (s:Sv W [(f,(m:Rat))] v1)=>Inverse_q f m 6 W v1 s e0 np (eb.up (by decide)) nl (by decide) (ht.next h) (TabQ_next ht2 h) (hS.next h)
 have g5:=fun (W:World) (v1 v2:Value) (h:Below w.heap.size w W) (s:Sv W [(f,(m:Rat))] v1) (t:Sv W [(1 / (f*(m:Rat)),(m:Rat))] v2)=>Mul_inv f _ m m W v1 v2 s t pos np.1 np.1 (bi.up (by decide)) (tenTo_up nl (by decide)) (tenTo_up nl (by decide)) sq (ht.next h) (TabQ_next ht2 h) (hS.next h)
 have g6:=fun (W:World) (v2:Value) (h:Below w.heap.size w W) (s:Sv W [(1 / (f*(m:Rat)),(m:Rat))] v2)=>Inverse_q _ m 26 W v2 s i0 np (iv.up (by decide)) nl (by decide) (ht.next h) (TabQ_next ht2 h) (hS.next h)
 rw [back] at g6
 by_cases z:a=0
 ·rw [if_pos z] at hx
  subst z
  subst hx
  exact inverses_core8z b n (b+1) (n+1) _ _ _ _ _ w rfl rfl b1.1 b1.2 m1.1 m1.2 oQ1 oQ2 mk g4 g5 g6 (fun W _=>one_sv 1 1 _ _ sq1 sqn1 (by decide+kernel) (Bq_one.up (by decide)) nrm1 (by decide) W) (fun W v1 v5 _ s t=>Same_1 _ W v1 v5 s t) (fun W v1 v5 _ s t=>Same_1 _ W v1 v5 s t) (fun W h=>awake8_any W (ht.next h) (TabQ_next ht2 h) (hS.next h))
 ·rw [if_neg z] at hx
  subst hx
  exact inverses_core8 x b n (b+1) (n+1) _ _ _ _ _ w z rfl rfl a1.1 a1.2 b1.1 b1.2 m1.1 m1.2 oQ1 oQ2 mk g4 g5 g6 (fun W _=>one_sv 1 1 _ _ sq1 sqn1 (by decide+kernel) (Bq_one.up (by decide)) nrm1 (by decide) W) (fun W v1 v5 _ s t=>Same_1 _ W v1 v5 s t) (fun W v1 v5 _ s t=>Same_1 _ W v1 v5 s t) (fun W h=>awake8_any W (ht.next h) (TabQ_next ht2 h) (hS.next h))
end Go.Proofs.YtjdfjgfdbgmbiaaGreatDoor.T
