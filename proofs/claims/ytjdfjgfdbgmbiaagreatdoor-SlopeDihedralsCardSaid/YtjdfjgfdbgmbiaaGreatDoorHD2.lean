/- Parts of the proofs of the texts YtjdfjgfdbgmbiaaGreatDoorHD. -/
import Derived.Test.YtjdfjgfdbgmbiaaGreatDoorHB1
import Derived.Test.YtjdfjgfdbgmbiaaGreatDoorHB10
import Derived.Test.YtjdfjgfdbgmbiaaGreatDoorHB11
import Derived.Test.YtjdfjgfdbgmbiaaGreatDoorHB12
import Derived.Test.YtjdfjgfdbgmbiaaGreatDoorHB13
import Derived.Test.YtjdfjgfdbgmbiaaGreatDoorHB14
import Derived.Test.YtjdfjgfdbgmbiaaGreatDoorHB15
import Derived.Test.YtjdfjgfdbgmbiaaGreatDoorHB16
import Derived.Test.YtjdfjgfdbgmbiaaGreatDoorHB17
import Derived.Test.YtjdfjgfdbgmbiaaGreatDoorHB18
import Derived.Test.YtjdfjgfdbgmbiaaGreatDoorHB19
import Derived.Test.YtjdfjgfdbgmbiaaGreatDoorHB2
import Derived.Test.YtjdfjgfdbgmbiaaGreatDoorHB20
import Derived.Test.YtjdfjgfdbgmbiaaGreatDoorHB21
import Derived.Test.YtjdfjgfdbgmbiaaGreatDoorHB22
import Derived.Test.YtjdfjgfdbgmbiaaGreatDoorHB23
import Derived.Test.YtjdfjgfdbgmbiaaGreatDoorHB24
import Derived.Test.YtjdfjgfdbgmbiaaGreatDoorHB25
import Derived.Test.YtjdfjgfdbgmbiaaGreatDoorHB26
import Derived.Test.YtjdfjgfdbgmbiaaGreatDoorHB27
import Derived.Test.YtjdfjgfdbgmbiaaGreatDoorHB28
import Derived.Test.YtjdfjgfdbgmbiaaGreatDoorHB29
import Derived.Test.YtjdfjgfdbgmbiaaGreatDoorHB3
import Derived.Test.YtjdfjgfdbgmbiaaGreatDoorHB30
import Derived.Test.YtjdfjgfdbgmbiaaGreatDoorHB31
import Derived.Test.YtjdfjgfdbgmbiaaGreatDoorHB32
import Derived.Test.YtjdfjgfdbgmbiaaGreatDoorHB33
import Derived.Test.YtjdfjgfdbgmbiaaGreatDoorHB34
import Derived.Test.YtjdfjgfdbgmbiaaGreatDoorHB35
import Derived.Test.YtjdfjgfdbgmbiaaGreatDoorHB36
import Derived.Test.YtjdfjgfdbgmbiaaGreatDoorHB37
import Derived.Test.YtjdfjgfdbgmbiaaGreatDoorHB38
import Derived.Test.YtjdfjgfdbgmbiaaGreatDoorHB39
import Derived.Test.YtjdfjgfdbgmbiaaGreatDoorHB4
import Derived.Test.YtjdfjgfdbgmbiaaGreatDoorHB5
import Derived.Test.YtjdfjgfdbgmbiaaGreatDoorHB6
import Derived.Test.YtjdfjgfdbgmbiaaGreatDoorHB7
import Derived.Test.YtjdfjgfdbgmbiaaGreatDoorHB8
import Derived.Test.YtjdfjgfdbgmbiaaGreatDoorHB9
import Derived.Test.YtjdfjgfdbgmbiaaGreatDoorHD1
set_option linter.all false
set_option maxRecDepth 100000
set_option maxHeartbeats 8000000
namespace Go.Proofs.YtjdfjgfdbgmbiaaGreatDoor.T
open Go.Proofs.YtjdfjgfdbgmbiaaGreatDoor Go Go.RowKit
theorem dihedrals_core8 (a b c d:Int) (p pp q qq:ByteArray) (l1 l2 l3 l4 l5:List Tm) (w:World)
  (h1:∀ (W:World),Below w.heap.size w W→Calls Tryz.prog 10 #[.int .u8 a,.int .u8 b] W fun e W'=>e = .returned (.tuple #[.string p,.string pp,.bool true])∧Below W.heap.size W W')
  (h2:∀ (W:World),Below w.heap.size w W→Calls Tryz.prog 10 #[.int .u8 c,.int .u8 d] W fun e W'=>e = .returned (.tuple #[.string q,.string qq,.bool true])∧Below W.heap.size W W')
  (h3:∀ (W:World),Below w.heap.size w W→Calls Tryz.prog 22 #[.string p,.string q] W fun e W'=>∃ v,e = .returned (.tuple #[v,.int .i64 0])∧Sv W' l1 v∧Below W.heap.size W W')
  (h4:∀ (W:World),Below w.heap.size w W→Calls Tryz.prog 11 #[.string p] W fun e W'=>∃ v,e = .returned (.tuple #[v,.int .i64 0])∧Sv W' l2 v∧Below W.heap.size W W')
  (h5:∀ (W:World),Below w.heap.size w W→Calls Tryz.prog 11 #[.string q] W fun e W'=>∃ v,e = .returned (.tuple #[v,.int .i64 0])∧Sv W' l3 v∧Below W.heap.size W W')
  (h6:∀ (W:World) (v2 v3:Value),Below w.heap.size w W→Sv W l2 v2→Sv W l3 v3→Calls Tryz.prog 25 #[v2,v3] W fun e W'=>∃ v,e = .returned (.tuple #[v,.int .i64 0])∧Sv W' l4 v∧Below W.heap.size W W')
  (h7:∀ (W:World) (v4 v1:Value),Below w.heap.size w W→Sv W l4 v4→Sv W l1 v1→Calls Tryz.prog 25 #[v4,v1] W fun e W'=>∃ v,e = .returned (.tuple #[v,.int .i64 0])∧Sv W' l5 v∧Below W.heap.size W W')
  (h8:∀ (W:World),Below w.heap.size w W→Calls Tryz.prog 26 #[.string ⟨#[49]⟩,.string ⟨#[49]⟩] W fun e W'=>∃ v,e = .returned (v)∧Sv W' l5 v∧Below W.heap.size W W')
  (h9:∀ (W:World) (v5 v6:Value),Below w.heap.size w W→Sv W l5 v5→Sv W l5 v6→Calls Tryz.prog 23 #[v5,v6] W fun e W'=>e = .returned (.bool true)∧Below W.heap.size W W')
  (h10:∀ (W:World),Below w.heap.size w W→Calls Tryz.prog 16 #[] W fun e W'=>e = .returned (.bool true)∧Below W.heap.size W W')
  : Calls Tryz.prog 7 #[.int .u8 a,.int .u8 b,.int .u8 c,.int .u8 d] w fun e W'=>e = .returned (.bool true)∧Below w.heap.size w W':=by
 have O:=Lib.hid (And.intro h1 (And.intro h2 (And.intro h3 (And.intro h4 (And.intro h5 (And.intro h6 (And.intro h7 (And.intro h8 (And.intro h9 (h10))))))))));clear h1 h2 h3 h4 h5 h6 h7 h8 h9 h10
 have hm:=max3_8
 go_enter Tryz.func7,Tryz.ntmps7
 have HB:=Lib.hid (Below.refl w.heap.size w)
 go_wp2_with fail
 refine (O.out.1 _ HB.out).mono ?_
 rintro e w1 ⟨rfl,b⟩
 have N:=Lib.hid (HB.out.trans (b.mono HB.out.size));clear HB b;have HB:=N;clear N
 go_wp2_with fail
 refine (O.out.2.1 _ HB.out).mono ?_
 rintro e w2 ⟨rfl,b⟩
 have N:=Lib.hid (HB.out.trans (b.mono HB.out.size));clear HB b;have HB:=N;clear N
 go_wp2_with fail
 refine (O.out.2.2.1 _ HB.out).mono ?_
 rintro e w3 ⟨v1,rfl,s,b⟩
 have Lv1:=Lib.hid s;clear s
 have N:=Lib.hid (HB.out.trans (b.mono HB.out.size));clear HB b;have HB:=N;clear N
 go_wp2_with fail
 refine (O.out.2.2.2.1 _ HB.out).mono ?_
 rintro e w4 ⟨v2,rfl,s,b⟩
 have N:=Lib.hid (Lv1.out.next b);clear Lv1;have Lv1:=N;clear N
 have Lv2:=Lib.hid s;clear s
 have N:=Lib.hid (HB.out.trans (b.mono HB.out.size));clear HB b;have HB:=N;clear N
 go_wp2_with fail
 refine (O.out.2.2.2.2.1 _ HB.out).mono ?_
 rintro e w5 ⟨v3,rfl,s,b⟩
 have N:=Lib.hid (Lv1.out.next b);clear Lv1;have Lv1:=N;clear N
 have N:=Lib.hid (Lv2.out.next b);clear Lv2;have Lv2:=N;clear N
 have Lv3:=Lib.hid s;clear s
 have N:=Lib.hid (HB.out.trans (b.mono HB.out.size));clear HB b;have HB:=N;clear N
 go_wp2_with fail
 refine (O.out.2.2.2.2.2.1 _ _ _ HB.out Lv2.out Lv3.out).mono ?_
 rintro e w6 ⟨v4,rfl,s,b⟩
 have N:=Lib.hid (Lv1.out.next b);clear Lv1;have Lv1:=N;clear N
 have N:=Lib.hid (Lv2.out.next b);clear Lv2;have Lv2:=N;clear N
 have N:=Lib.hid (Lv3.out.next b);clear Lv3;have Lv3:=N;clear N
 have Lv4:=Lib.hid s;clear s
 have N:=Lib.hid (HB.out.trans (b.mono HB.out.size));clear HB b;have HB:=N;clear N
 clear Lv2
 clear Lv3
 go_wp2_with fail
 refine (O.out.2.2.2.2.2.2.1 _ _ _ HB.out Lv4.out Lv1.out).mono ?_
 rintro e w7 ⟨v5,rfl,s,b⟩
 have N:=Lib.hid (Lv1.out.next b);clear Lv1;have Lv1:=N;clear N
 have N:=Lib.hid (Lv4.out.next b);clear Lv4;have Lv4:=N;clear N
 have Lv5:=Lib.hid s;clear s
 have N:=Lib.hid (HB.out.trans (b.mono HB.out.size));clear HB b;have HB:=N;clear N
 clear Lv4
 clear Lv1
 go_wp2_with fail
 refine (O.out.2.2.2.2.2.2.2.1 _ HB.out).mono ?_
 rintro e w8 ⟨v6,rfl,s,b⟩
 have N:=Lib.hid (Lv5.out.next b);clear Lv5;have Lv5:=N;clear N
 have Lv6:=Lib.hid s;clear s
 have N:=Lib.hid (HB.out.trans (b.mono HB.out.size));clear HB b;have HB:=N;clear N
 go_wp2_with fail
 refine (O.out.2.2.2.2.2.2.2.2.1 _ _ _ HB.out Lv5.out Lv6.out).mono ?_
 rintro e w9 ⟨rfl,b⟩
 have N:=Lib.hid (Lv5.out.next b);clear Lv5;have Lv5:=N;clear N
 have N:=Lib.hid (Lv6.out.next b);clear Lv6;have Lv6:=N;clear N
 have N:=Lib.hid (HB.out.trans (b.mono HB.out.size));clear HB b;have HB:=N;clear N
 clear Lv5
 clear Lv6
 go_wp2_with fail
 refine (O.out.2.2.2.2.2.2.2.2.2 _ HB.out).mono ?_
 rintro e w10 ⟨rfl,b⟩
 have N:=Lib.hid (HB.out.trans (b.mono HB.out.size));clear HB b;have HB:=N;clear N
 go_wp2
 go_ret
 exact ⟨rfl,HB.out⟩
theorem Mul_inv (c d:Rat) (n m:Nat) (W:World) (v u:Value) (hv:Sv W [(c,(n:Rat))] v) (hu:Sv W [(d,(m:Rat))] u) (c0:0<c*d) (n0:0<n) (m0:0<m) (bcd:Bq 100 (c*d)) (ln:n<tenTo 40) (lm:m<tenTo 40)
  (e:c*c*(n:Rat)*(d*d*(m:Rat))=1) (ht:Tab W) (ht2:Tab64 W) (hS:Sm W) :
  Calls Tryz.prog 25 #[v,u] W fun e W'=>∃ v,e = .returned (.tuple #[v,.int .i64 0])∧Sv W' [(1,((1:Nat):Rat))] v∧Below W.heap.size W W':=by
 have q0:(0:Rat)≤((n*m:Nat):Rat):=castn_nonneg _
 have cne:c*d≠0:=by grind
 have i1:1 / (c*d)*(c*d)=1:=Rat.div_mul_cancel cne
 have en:nN ((n*m:Nat):Rat)=1:=(nN_one q0).2 ⟨1 / (c*d),by
  have h:(1 / (c*d)*(1 / (c*d)) - ((n*m:Nat):Rat))*(c*d*(c*d))=0:=by
   rw [Rat.natCast_mul]
   generalize 1 / (c*d)=i at *
   have:i*i*(c*d*(c*d))=1:=by
    have:i*i*(c*d*(c*d))=i*(c*d)*(i*(c*d)):=by grind
    rw [this,i1];grind
   grind
  rcases Rat.mul_eq_zero.1 h with z | z
  ·grind
  ·exact absurd ((Rat.mul_eq_zero.1 z).elim id id) cne⟩
 have s:=nC_sq q0
 rw [en] at s
 have o1:((1:Nat):Rat)=1:=rfl
 rw [o1,Rat.mul_one] at s
 have k0:=nC_nonneg ((n*m:Nat):Rat)
 have ec:c*d*nC ((n*m:Nat):Rat)=1:=by
  generalize nC ((n*m:Nat):Rat)=k at *
  refine sq_inj (Rat.mul_nonneg (Rat.le_of_lt c0) k0) (by decide) ?_
  have:c*d*k*(c*d*k)=c*d*(c*d)*(k*k):=by grind
  rw [this,s,Rat.natCast_mul,←e];grind
 have c1:c≠0:=fun z=>cne (by rw [z];grind)
 have d1:d≠0:=fun z=>cne (by rw [z];grind)
 have:=Mul_1 c d n m W v u hv hu c1 d1 n0 m0 bcd ln lm (by rw [ec];exact Bq_one.up (by decide)) (by rw [en];decide+kernel) ht ht2 hS
 rwa [ec,en] at this
theorem SlopeDihedrals_any (a b c d:Int) (w:World) (ha:(Lit.int .u8 a).wf=true) (hb:(Lit.int .u8 b).wf=true) (hc:(Lit.int .u8 c).wf=true) (hd:(Lit.int .u8 d).wf=true) (ht:Tab w) (ht2:Tab64 w) (hS:Sm w) :
  Calls Tryz.prog 7 #[.int .u8 a,.int .u8 b,.int .u8 c,.int .u8 d] w fun e W'=>e = .returned (.bool true)∧Below w.heap.size w W':=by
 have r1:0≤a∧a≤255:=by simpa [Lit.wf,IntKind.min,IntKind.max,IntKind.signed,IntKind.bits] using ha
 have r2:0≤b∧b≤255:=by simpa [Lit.wf,IntKind.min,IntKind.max,IntKind.signed,IntKind.bits] using hb
 have r3:0≤c∧c≤255:=by simpa [Lit.wf,IntKind.min,IntKind.max,IntKind.signed,IntKind.bits] using hc
 have r4:0≤d∧d≤255:=by simpa [Lit.wf,IntKind.min,IntKind.max,IntKind.signed,IntKind.bits] using hd
 have p1:=pi_pt a b
 have p2:=pi_pt c d
 have f1:=p1.fac0
 have f2:=p2.fac0
 have b1:=p1.fac
 have b2:=p2.fac
 have z0:=dih_0 p1 p2
 have zb:=dih_bq p1 p2
 have n1:=nN_lt (by decide) b1
 have n2:=nN_lt (by decide) b2
 have n3:=nN_lt (by decide) zb
 have s1:=nC_sq (Rat.le_of_lt f1)
 have s2:=nC_sq (Rat.le_of_lt f2)
 have s3:=nC_sq (Rat.le_of_lt z0)
 have c1:=nC_bq b1
 have c2:=nC_bq b2
 have c3:=nC_bq zb
 have y1:=nC_pos (Rat.le_of_lt f1) (by grind)
 have y2:=nC_pos (Rat.le_of_lt f2) (by grind)
 have y3:=nC_pos (Rat.le_of_lt z0) (by grind)
 have o1:=nN_pos (facQ (piQ a b))
 have o2:=nN_pos (facQ (piQ c d))
 have o3:=nN_pos (dihQ (piQ a b) (piQ c d))
 have ez:dihQ (piQ a b) (piQ c d)*(facQ (piQ a b)*facQ (piQ c d))=1:=Rat.div_mul_cancel (by have:=fac2_0 p1 p2;grind)
 have core:=fun l4 g7 g8=>dihedrals_core8 a b c d _ _ _ _ _ _ _ l4 [(1,((1:Nat):Rat))] w (fun W h=>pitch_q a b r1.1 r2.1 r1.2 r2.2 W (ht.next h) (TabQ_next ht2 h)) (fun W h=>pitch_q c d r3.1 r4.1 r3.2 r4.2 W (ht.next h) (TabQ_next ht2 h))
  (fun W h=>Dihedral_q p1 p2 W (ht.next h) (TabQ_next ht2 h) (hS.next h)) (fun W h=>Factor_q p1 W (ht.next h) (TabQ_next ht2 h) (hS.next h)) (fun W h=>Factor_q p2 W (ht.next h) (TabQ_next ht2 h) (hS.next h)) g7 g8
  (fun W _=>one_sv 1 1 _ _ sq1 sqn1 (by decide+kernel) (Bq_one.up (by decide)) nrm1 (by decide) W) (fun W v1 v5 _ s t=>Same_1 _ W v1 v5 s t) (fun W h=>awake8_any W (ht.next h) (TabQ_next ht2 h) (hS.next h))
 unfold R1 at core
 generalize hx:facQ (piQ a b)=x at *
 generalize hy:facQ (piQ c d)=y at *
 generalize dihQ (piQ a b) (piQ c d)=z at *
 clear hx hy
 generalize nN x=n at *
 generalize nN y=m at *
 generalize nN z=k at *
 generalize nC x=f at *
 generalize nC y=g at *
 generalize nC z=h at *
 have lnm:n*m<tenTo 20:=by
  have:=Nat.mul_lt_mul'' n1 n2
  rwa [←tenTo_add] at this
 have nm0:0<n*m:=Nat.mul_pos o1 o2
 have q0:(0:Rat)≤((n*m:Nat):Rat):=castn_nonneg _
 have s4:=nC_sq q0
 have e4:=nN_le nm0
 have p4:=nN_pos ((n*m:Nat):Rat)
 have b4:=nCn_bq (k:=20) (by decide) lnm
 have y4:=nC_pos q0 (by have:=nat_pos nm0;grind)
 have fg:=(qmul_ok c1 c2 (by decide)).2.2
 have fgk:=(qmul_ok fg b4 (by decide)).2.2
 have y5:=Rat.mul_pos (Rat.mul_pos y1 y2) y4
 refine core _ (fun W v2 v3 hw s t=>Mul_1 f g n m W v2 v3 s t (by grind) (by grind) o1 o2 (fg.up (by decide)) (tenTo_up n1 (by decide)) (tenTo_up n2 (by decide)) (fgk.up (by decide)) (by omega) (ht.next hw) (TabQ_next ht2 hw) (hS.next hw))
  (fun W v4 v1 hw s t=>Mul_inv _ h _ k W v4 v1 s t (Rat.mul_pos y5 y3) p4 o3 ((qmul_ok fgk c3 (by decide)).2.2.up (by decide)) (tenTo_up (show _<tenTo 20 by omega) (by decide)) (tenTo_up n3 (by decide)) ?_ (ht.next hw) (TabQ_next ht2 hw) (hS.next hw))
 rw [s3]
 generalize nC ((n*m:Nat):Rat)=u at *
 generalize ((nN ((n*m:Nat):Rat):Nat):Rat)=r at *
 have e5:f*g*u*(f*g*u)*r=f*f*(g*g)*(u*u*r):=by grind
 rw [e5,s4,Rat.natCast_mul]
 have e6:f*f*(g*g)*((n:Rat)*(m:Rat))=f*f*(n:Rat)*(g*g*(m:Rat)):=by grind
 rw [e6,s1,s2]
 grind
end Go.Proofs.YtjdfjgfdbgmbiaaGreatDoor.T
