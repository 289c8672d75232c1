/- Parts of the proofs of the texts YtjdfjgfdbgmbiaaGreatDoorHX. -/
import Derived.Test.YtjdfjgfdbgmbiaaGreatDoorHB1
import Derived.Test.YtjdfjgfdbgmbiaaGreatDoorHB10
import Derived.Test.YtjdfjgfdbgmbiaaGreatDoorHB11
import Derived.Test.YtjdfjgfdbgmbiaaGreatDoorHB12
import Derived.Test.YtjdfjgfdbgmbiaaGreatDoorHB13
import Derived.Test.YtjdfjgfdbgmbiaaGreatDoorHB14
import Derived.Test.YtjdfjgfdbgmbiaaGreatDoorHB15
import Derived.Test.YtjdfjgfdbgmbiaaGreatDoorHB16
import Derived.Test.YtjdfjgfdbgmbiaaGreatDoorHB17
import Derived.Test.YtjdfjgfdbgmbiaaGreatDoorHB18
import Derived.Test.YtjdfjgfdbgmbiaaGreatDoorHB19
import Derived.Test.YtjdfjgfdbgmbiaaGreatDoorHB2
import Derived.Test.YtjdfjgfdbgmbiaaGreatDoorHB20
import Derived.Test.YtjdfjgfdbgmbiaaGreatDoorHB21
import Derived.Test.YtjdfjgfdbgmbiaaGreatDoorHB22
import Derived.Test.YtjdfjgfdbgmbiaaGreatDoorHB23
import Derived.Test.YtjdfjgfdbgmbiaaGreatDoorHB24
import Derived.Test.YtjdfjgfdbgmbiaaGreatDoorHB25
import Derived.Test.YtjdfjgfdbgmbiaaGreatDoorHB26
import Derived.Test.YtjdfjgfdbgmbiaaGreatDoorHB27
import Derived.Test.YtjdfjgfdbgmbiaaGreatDoorHB28
import Derived.Test.YtjdfjgfdbgmbiaaGreatDoorHB29
import Derived.Test.YtjdfjgfdbgmbiaaGreatDoorHB3
import Derived.Test.YtjdfjgfdbgmbiaaGreatDoorHB30
import Derived.Test.YtjdfjgfdbgmbiaaGreatDoorHB31
import Derived.Test.YtjdfjgfdbgmbiaaGreatDoorHB32
import Derived.Test.YtjdfjgfdbgmbiaaGreatDoorHB33
import Derived.Test.YtjdfjgfdbgmbiaaGreatDoorHB34
import Derived.Test.YtjdfjgfdbgmbiaaGreatDoorHB35
import Derived.Test.YtjdfjgfdbgmbiaaGreatDoorHB36
import Derived.Test.YtjdfjgfdbgmbiaaGreatDoorHB37
import Derived.Test.YtjdfjgfdbgmbiaaGreatDoorHB38
import Derived.Test.YtjdfjgfdbgmbiaaGreatDoorHB39
import Derived.Test.YtjdfjgfdbgmbiaaGreatDoorHB4
import Derived.Test.YtjdfjgfdbgmbiaaGreatDoorHB5
import Derived.Test.YtjdfjgfdbgmbiaaGreatDoorHB6
import Derived.Test.YtjdfjgfdbgmbiaaGreatDoorHB7
import Derived.Test.YtjdfjgfdbgmbiaaGreatDoorHB8
import Derived.Test.YtjdfjgfdbgmbiaaGreatDoorHB9
import Derived.Test.YtjdfjgfdbgmbiaaGreatDoorHX1
set_option linter.all false
set_option maxRecDepth 100000
set_option maxHeartbeats 8000000
namespace Go.Proofs.YtjdfjgfdbgmbiaaGreatDoor.T
open Go.Proofs.YtjdfjgfdbgmbiaaGreatDoor Go Go.RowKit
theorem exchanges_core8 (a b c d:Int) (p pp q qq x y:ByteArray) (l1 l2 l3:List Tm) (w:World)
  (h1:∀ (W:World),Below w.heap.size w W→Calls Tryz.prog 10 #[.int .u8 a,.int .u8 b] W fun e W'=>e = .returned (.tuple #[.string p,.string pp,.bool true])∧Below W.heap.size W W')
  (h2:∀ (W:World),Below w.heap.size w W→Calls Tryz.prog 10 #[.int .u8 c,.int .u8 d] W fun e W'=>e = .returned (.tuple #[.string q,.string qq,.bool true])∧Below W.heap.size W W')
  (h3:∀ (W:World),Below w.heap.size w W→Calls Tryz.prog 17 #[.string p,.string q] W fun e W'=>∃ s k,e = .returned (.tuple #[.slice s 1 k,.int .i64 0])∧Sv W' l1 (.slice s 1 k)∧Below W.heap.size W W')
  (h4:∀ (W:World),Below w.heap.size w W→Calls Tryz.prog 17 #[.string q,.string p] W fun e W'=>∃ s k,e = .returned (.tuple #[.slice s 1 k,.int .i64 0])∧Sv W' l1 (.slice s 1 k)∧Below W.heap.size W W')
  (h5:∀ (W:World),Below w.heap.size w W→Calls Tryz.prog 20 #[.string p,.string q] W fun e W'=>∃ s k,e = .returned (.tuple #[.slice s 1 k,.int .i64 0])∧Sv W' l2 (.slice s 1 k)∧Below W.heap.size W W')
  (h6:∀ (W:World),Below w.heap.size w W→Calls Tryz.prog 20 #[.string q,.string p] W fun e W'=>∃ s k,e = .returned (.tuple #[.slice s 1 k,.int .i64 0])∧Sv W' l2 (.slice s 1 k)∧Below W.heap.size W W')
  (h7:∀ (W:World),Below w.heap.size w W→Calls Tryz.prog 22 #[.string p,.string q] W fun e W'=>∃ s k,e = .returned (.tuple #[.slice s 1 k,.int .i64 0])∧Sv W' l3 (.slice s 1 k)∧Below W.heap.size W W')
  (h8:∀ (W:World),Below w.heap.size w W→Calls Tryz.prog 22 #[.string q,.string p] W fun e W'=>∃ s k,e = .returned (.tuple #[.slice s 1 k,.int .i64 0])∧Sv W' l3 (.slice s 1 k)∧Below W.heap.size W W')
  (h9:∀ (W:World) (l:List Tm) (u v:Value),Below w.heap.size w W→Sv W l u→Sv W l v→Calls Tryz.prog 23 #[u,v] W fun e W'=>e = .returned (.bool true)∧Below W.heap.size W W')
  (h10:∀ (W:World),Below w.heap.size w W→Calls Tryz.prog 19 #[.string p,.string q] W fun e W'=>e = .returned (.tuple #[.string x,.int .i64 0])∧Below W.heap.size W W')
  (h11:∀ (W:World),Below w.heap.size w W→Calls Tryz.prog 19 #[.string q,.string p] W fun e W'=>e = .returned (.tuple #[.string y,.int .i64 0])∧Below W.heap.size W W')
  (h12:∀ (W:World),Below w.heap.size w W→Calls Tryz.prog 24 #[.string x,.string y] W fun e W'=>e = .returned (.tuple #[.string ⟨#[49]⟩,.int .i64 0])∧Below W.heap.size W W')
  (h13:∀ (W:World),Below w.heap.size w W→Calls Tryz.prog 16 #[] W fun e W'=>e = .returned (.bool true)∧Below W.heap.size W W')
  : Calls Tryz.prog 6 #[.int .u8 a,.int .u8 b,.int .u8 c,.int .u8 d] w fun e W'=>e = .returned (.bool true)∧Below w.heap.size w W':=by
 have O:=Lib.hid (And.intro h1 (And.intro h2 (And.intro h3 (And.intro h4 (And.intro h5 (And.intro h6 (And.intro h7 (And.intro h8 (And.intro h9 (And.intro h10 (And.intro h11 (And.intro h12 (h13)))))))))))));clear h1 h2 h3 h4 h5 h6 h7 h8 h9 h10 h11 h12 h13
 have hm:=max3_8
 have eg1:∀ args W,(callFunc 17 args).run Tryz.prog W = .ok (.enter 17 args) W:=enters_of Tryz.func17 (by kernel_rfl) rfl
 have eg2:∀ args W,(callFunc 20 args).run Tryz.prog W = .ok (.enter 20 args) W:=enters_of Tryz.func20 (by kernel_rfl) rfl
 have eg3:∀ args W,(callFunc 22 args).run Tryz.prog W = .ok (.enter 22 args) W:=enters_of Tryz.func22 (by kernel_rfl) rfl
 go_enter Tryz.func6,Tryz.ntmps6
 have HB:=Lib.hid (Below.refl w.heap.size w)
 go_wp2_with fail
 refine (O.out.1 _ HB.out).mono ?_
 rintro e w1 ⟨rfl,b0⟩
 have N:=Lib.hid (HB.out.trans (b0.mono HB.out.size));clear HB b0;have HB:=N;clear N
 go_wp2_with fail
 refine (O.out.2.1 _ HB.out).mono ?_
 rintro e w2 ⟨rfl,b0⟩
 have N:=Lib.hid (HB.out.trans (b0.mono HB.out.size));clear HB b0;have HB:=N;clear N
 go_wp2_with fail
 have HK:=Lib.hid (Blk.new w2 #[.func (.func 17) #[] #[],.func (.func 20) #[] #[],.func (.func 22) #[] #[]] 39)
 have N:=Lib.hid (HB.out.alloc HB.out.size (.cells #[.func (.func 17) #[] #[],.func (.func 20) #[] #[],.func (.func 22) #[] #[]] 39));clear HB;have HB:=N;clear N
 generalize w2.alloc (.cells #[.func (.func 17) #[] #[],.func (.func 20) #[] #[],.func (.func 22) #[] #[]] 39)=u at *
 generalize w2.heap.size=kb at *
 go_loopw [49] (fun i wr=>∃ k:Nat,i = .int .i64 k∧k≤3∧Hid (Blk wr kb #[.func (.func 17) #[] #[],.func (.func 20) #[] #[],.func (.func 22) #[] #[]])∧Hid (Below w.heap.size w wr)) (fun i _=>3 - (intOf i).toNat)
 case atStart=>exact ⟨0,rfl,by omega,HK,HB⟩
 case round =>
  clear HB HK
  obtain ⟨k,rfl,hk,HK,HB⟩:=hrel
  have h4:k=0∨k=1∨k=2∨k=3:=by omega
  rcases h4 with rfl | rfl | rfl | rfl
  ·have ec:=(show World.cell? _ ⟨kb,0,none⟩=some (.func (.func 17) #[] #[]) from HK.out.cell 0 _ rfl)
   go_wp2_with fail
   refine (O.out.2.2.1 _ HB.out).mono ?_
   rintro e v1 ⟨s1,k1,rfl,s,b0⟩
   have A:=Lib.hid s;clear s
   have N:=Lib.hid (HK.out.next b0);clear HK;have HK:=N;clear N
   have N:=Lib.hid (HB.out.trans (b0.mono HB.out.size));clear HB b0 ec;have HB:=N;clear N
   go_wp2_with fail
   refine (O.out.2.2.2.1 _ HB.out).mono ?_
   rintro e v2 ⟨s2,k2,rfl,s,b0⟩
   have C:=Lib.hid s;clear s
   have N:=Lib.hid (A.out.next b0);clear A;have A:=N;clear N
   have N:=Lib.hid (HK.out.next b0);clear HK;have HK:=N;clear N
   have N:=Lib.hid (HB.out.trans (b0.mono HB.out.size));clear HB b0;have HB:=N;clear N
   go_wp2_with fail
   refine (O.out.2.2.2.2.2.2.2.2.1 _ _ _ _ HB.out A.out C.out).mono ?_
   rintro e v3 ⟨rfl,b0⟩
   have N:=Lib.hid (HK.out.next b0);clear HK;have HK:=N;clear N
   have N:=Lib.hid (HB.out.trans (b0.mono HB.out.size));clear HB b0 A C;have HB:=N;clear N
   go_wp2
   go_roundw
   case rel=>exact ⟨1,by go_num,by omega,HK,HB⟩
   case measure=>simp [intOf]
  ·have ec:=(show World.cell? _ ⟨kb,1,none⟩=some (.func (.func 20) #[] #[]) from HK.out.cell 1 _ rfl)
   go_wp2_with fail
   refine (O.out.2.2.2.2.1 _ HB.out).mono ?_
   rintro e v1 ⟨s1,k1,rfl,s,b0⟩
   have A:=Lib.hid s;clear s
   have N:=Lib.hid (HK.out.next b0);clear HK;have HK:=N;clear N
   have N:=Lib.hid (HB.out.trans (b0.mono HB.out.size));clear HB b0 ec;have HB:=N;clear N
   go_wp2_with fail
   refine (O.out.2.2.2.2.2.1 _ HB.out).mono ?_
   rintro e v2 ⟨s2,k2,rfl,s,b0⟩
   have C:=Lib.hid s;clear s
   have N:=Lib.hid (A.out.next b0);clear A;have A:=N;clear N
   have N:=Lib.hid (HK.out.next b0);clear HK;have HK:=N;clear N
   have N:=Lib.hid (HB.out.trans (b0.mono HB.out.size));clear HB b0;have HB:=N;clear N
   go_wp2_with fail
   refine (O.out.2.2.2.2.2.2.2.2.1 _ _ _ _ HB.out A.out C.out).mono ?_
   rintro e v3 ⟨rfl,b0⟩
   have N:=Lib.hid (HK.out.next b0);clear HK;have HK:=N;clear N
   have N:=Lib.hid (HB.out.trans (b0.mono HB.out.size));clear HB b0 A C;have HB:=N;clear N
   go_wp2
   go_roundw
   case rel=>exact ⟨2,by go_num,by omega,HK,HB⟩
   case measure=>simp [intOf]
  ·have ec:=(show World.cell? _ ⟨kb,2,none⟩=some (.func (.func 22) #[] #[]) from HK.out.cell 2 _ rfl)
   go_wp2_with fail
   refine (O.out.2.2.2.2.2.2.1 _ HB.out).mono ?_
   rintro e v1 ⟨s1,k1,rfl,s,b0⟩
   have A:=Lib.hid s;clear s
   have N:=Lib.hid (HK.out.next b0);clear HK;have HK:=N;clear N
   have N:=Lib.hid (HB.out.trans (b0.mono HB.out.size));clear HB b0 ec;have HB:=N;clear N
   go_wp2_with fail
   refine (O.out.2.2.2.2.2.2.2.1 _ HB.out).mono ?_
   rintro e v2 ⟨s2,k2,rfl,s,b0⟩
   have C:=Lib.hid s;clear s
   have N:=Lib.hid (A.out.next b0);clear A;have A:=N;clear N
   have N:=Lib.hid (HK.out.next b0);clear HK;have HK:=N;clear N
   have N:=Lib.hid (HB.out.trans (b0.mono HB.out.size));clear HB b0;have HB:=N;clear N
   go_wp2_with fail
   refine (O.out.2.2.2.2.2.2.2.2.1 _ _ _ _ HB.out A.out C.out).mono ?_
   rintro e v3 ⟨rfl,b0⟩
   have N:=Lib.hid (HK.out.next b0);clear HK;have HK:=N;clear N
   have N:=Lib.hid (HB.out.trans (b0.mono HB.out.size));clear HB b0 A C;have HB:=N;clear N
   go_wp2
   go_roundw
   case rel=>exact ⟨3,by go_num,by omega,HK,HB⟩
   case measure=>simp [intOf]
  ·clear HK hk
   go_wp2_with fail
   refine (O.out.2.2.2.2.2.2.2.2.2.1 _ HB.out).mono ?_
   rintro e w10 ⟨rfl,b0⟩
   have N:=Lib.hid (HB.out.trans (b0.mono HB.out.size));clear HB b0;have HB:=N;clear N
   go_wp2_with fail
   refine (O.out.2.2.2.2.2.2.2.2.2.2.1 _ HB.out).mono ?_
   rintro e w11 ⟨rfl,b0⟩
   have N:=Lib.hid (HB.out.trans (b0.mono HB.out.size));clear HB b0;have HB:=N;clear N
   go_wp2_with fail
   refine (O.out.2.2.2.2.2.2.2.2.2.2.2.1 _ HB.out).mono ?_
   rintro e w12 ⟨rfl,b0⟩
   have N:=Lib.hid (HB.out.trans (b0.mono HB.out.size));clear HB b0;have HB:=N;clear N
   go_wp2_with fail
   refine (O.out.2.2.2.2.2.2.2.2.2.2.2.2 _ HB.out).mono ?_
   rintro e w13 ⟨rfl,b0⟩
   have N:=Lib.hid (HB.out.trans (b0.mono HB.out.size));clear HB b0;have HB:=N;clear N
   go_wp2
   go_ret
   exact ⟨rfl,HB.out⟩
theorem hip_sym (p q:Rat):hipQ q p=hipQ p q:=by unfold hipQ;rw [Rat.add_comm]
theorem len_sym (p q:Rat):lenQ q p=lenQ p q:=by unfold lenQ;rw [Rat.add_assoc,Rat.add_assoc,Rat.add_comm (1 / (q*q))]
theorem dih_sym (p q:Rat):dihQ q p=dihQ p q:=by unfold dihQ;rw [Rat.mul_comm]
theorem sv_one {W:World} {c:Rat} {n:Nat} {v:Value} (h:Sv W [(c,(n:Rat))] v):∃ s k,v = .slice s 1 k∧Sv W [(c,(n:Rat))] (.slice s 1 k):=by
 obtain ⟨p,a,b,rfl,hs⟩:=h
 have z:a=1:=hs.sr.1
 subst z
 exact ⟨p,b,rfl,p,1,b,rfl,hs⟩
theorem to_one {fn:FuncId} {args:Array Value} {W:World} {x:Rat} (h:Calls Tryz.prog fn args W fun e W'=>∃ v,e = .returned (.tuple #[v,.int .i64 0])∧(Sv W' (R1 x) v∧Below W.heap.size W W')) :
  Calls Tryz.prog fn args W fun e W'=>∃ s k,e = .returned (.tuple #[.slice s 1 k,.int .i64 0])∧Sv W' (R1 x) (.slice s 1 k)∧Below W.heap.size W W' :=
 h.mono fun e W' ⟨v,e1,s,b⟩=>by
  obtain ⟨p,k,rfl,t⟩:=sv_one s
  exact ⟨p,k,e1,t,b⟩
theorem SlopeExchanges_any (a b c d:Int) (w:World) (ha:(Lit.int .u8 a).wf=true) (hb:(Lit.int .u8 b).wf=true) (hc:(Lit.int .u8 c).wf=true) (hd:(Lit.int .u8 d).wf=true) (ht:Tab w) (ht2:Tab64 w) (hS:Sm w) :
  Calls Tryz.prog 6 #[.int .u8 a,.int .u8 b,.int .u8 c,.int .u8 d] w fun e W'=>e = .returned (.bool true)∧Below w.heap.size w W':=by
 have r1:0≤a∧a≤255:=by simpa [Lit.wf,IntKind.min,IntKind.max,IntKind.signed,IntKind.bits] using ha
 have r2:0≤b∧b≤255:=by simpa [Lit.wf,IntKind.min,IntKind.max,IntKind.signed,IntKind.bits] using hb
 have r3:0≤c∧c≤255:=by simpa [Lit.wf,IntKind.min,IntKind.max,IntKind.signed,IntKind.bits] using hc
 have r4:0≤d∧d≤255:=by simpa [Lit.wf,IntKind.min,IntKind.max,IntKind.signed,IntKind.bits] using hd
 have p1:=pi_pt a b
 have p2:=pi_pt c d
 exact exchanges_core8 a b c d _ _ _ _ _ _ _ _ _ w (fun W h=>pitch_q a b r1.1 r2.1 r1.2 r2.2 W (ht.next h) (TabQ_next ht2 h)) (fun W h=>pitch_q c d r3.1 r4.1 r3.2 r4.2 W (ht.next h) (TabQ_next ht2 h))
  (fun W h=>to_one (Hip_q p1 p2 W (ht.next h) (TabQ_next ht2 h) (hS.next h))) (fun W h=>by rw [←hip_sym];exact to_one (Hip_q p2 p1 W (ht.next h) (TabQ_next ht2 h) (hS.next h)))
  (fun W h=>to_one (Length_q p1 p2 W (ht.next h) (TabQ_next ht2 h) (hS.next h))) (fun W h=>by rw [←len_sym];exact to_one (Length_q p2 p1 W (ht.next h) (TabQ_next ht2 h) (hS.next h)))
  (fun W h=>to_one (Dihedral_q p1 p2 W (ht.next h) (TabQ_next ht2 h) (hS.next h))) (fun W h=>by rw [←dih_sym];exact to_one (Dihedral_q p2 p1 W (ht.next h) (TabQ_next ht2 h) (hS.next h)))
  (fun W l u v _ s t=>Same_1 l W u v s t)
  (fun W h=>Plan_q p1 p2 W (ht.next h) (TabQ_next ht2 h)) (fun W h=>Plan_q p2 p1 W (ht.next h) (TabQ_next ht2 h))
  (fun W h=>by
   have:=rmul 4 4 (qdiv_ok p2.bq p1.bq (by decide) p1.ne).2.2 (qdiv_ok p1.bq p2.bq (by decide) p2.ne).2.2 (by decide) W (ht.next h) (TabQ_next ht2 h)
   have e1:=Rat.div_mul_cancel (a:=piQ c d) p1.ne
   have e2:=Rat.div_mul_cancel (a:=piQ a b) p2.ne
   have e:piQ c d / piQ a b*(piQ a b / piQ c d)=1:=by
    have z:=p1.ne
    generalize piQ a b=s at *
    generalize piQ c d=t at *
    have h2:(t / s*(s / t) - 1)*s=0:=by
     have:t / s*(s / t)*s=t / s*s*(s / t):=by grind
     rw [show (t / s*(s / t) - 1)*s=t / s*(s / t)*s - s by grind,this,e1]
     have:t*(s / t)=s / t*t:=Rat.mul_comm _ _
     rw [this,e2];grind
    rcases Rat.mul_eq_zero.1 h2 with y | y
    ·grind
    ·exact absurd y z
   rwa [e,sq1] at this) (fun W h=>awake8_any W (ht.next h) (TabQ_next ht2 h) (hS.next h))
end Go.Proofs.YtjdfjgfdbgmbiaaGreatDoor.T
