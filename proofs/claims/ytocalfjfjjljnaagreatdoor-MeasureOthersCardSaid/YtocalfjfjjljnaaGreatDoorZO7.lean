/- Parts of the proof of the text YtocalfjfjjljnaaGreatDoorZO44. -/
import Derived.Test.YtocalfjfjjljnaaGreatDoorZO1
import Derived.Test.YtocalfjfjjljnaaGreatDoorZO6
set_option linter.all false
set_option maxRecDepth 100000
set_option maxHeartbeats 8000000
namespace Go.Proofs.YtocalfjfjjljnaaGreatDoor
open Go.RowKit
def qM (e z:Int):ByteArray:=if e=0 then fH z else ByteArray.empty
def qN (e z:Int):Int:=if e=0 then fI z else e
theorem fw (z:Int):qM 0 z=fH z:=if_pos rfl
theorem fx (z:Int):qN 0 z=fI z:=if_pos rfl
theorem lJ {e:Int} (h:e≠0) (z:Int):qM e z=⟨#[]⟩:=if_neg h
theorem lK {e:Int} (h:e≠0) (z:Int):qN e z=e:=if_neg h
theorem d9 {a b:List UInt8} (h:bo a b=0):chk a=0∧chk b=0:=by
 unfold bo at h;split at h
 ·exact ⟨‹_›, h⟩
 ·exact absurd h ‹_›
theorem bQ {s:ByteArray} (h:chk s.data.toList=0):s.size≤301:=by
 have h1:(szL s.data.toList).length≤300:=by
  unfold chk at h
  by_cases h1:(szL s.data.toList).all aj
  ·simp only [h1,Bool.not_true,Bool.false_eq_true,if_false] at h
   split at h
   ·cases h
   ·split at h
    ·cases h
    ·omega
  ·simp only [h1] at h;cases h
 have h2:s.data.toList.length≤(szL s.data.toList).length+1:=by
  unfold szL;split
  ·rw [List.length_tail];omega
  ·omega
 rw [ac] at h2;omega
theorem qO:1000000000000000000000000000000000000000≤lim:=by
 have:aA 39≤aA 300:=ay (by decide)
 have h2:aA 39=1000000000000000000000000000000000000000:=by decide
 unfold lim;omega
theorem kI {z:Int} (h:z.natAbs<1000000000000000000000000000000000000000):fH z=aa z:=by unfold fH;rw [if_pos (Nat.lt_of_lt_of_le h qO)]
theorem kJ {z:Int} (h:z.natAbs<1000000000000000000000000000000000000000):fI z=0:=by unfold fI;rw [if_pos (Nat.lt_of_lt_of_le h qO)]
theorem eZ (l:List UInt8):ak (af l) (ad (szL l))=valOf l:=by rw [cF];unfold ak;rfl
theorem bW {l:List UInt8} (h:chk l=0):ad (szL l)<lim:=by
 have:=xo l h
 rw [cF] at this;split at this <;> simpa using this
theorem Bv (k:Nat):B ^ k=aA (9*k):=BW k
theorem zI:lim≤B ^ 34:=by
 rw [Bv]
 exact ay (by decide)
theorem fO {n:Nat} (h:n<lim):(dg n).length≤34:=(an n 34).2 (Nat.lt_of_lt_of_le h zI)
theorem zJ {a b n:Nat} (ha:a<lim) (hb:b<lim) (h:n≤a+b):(dg n).length≤35:=by
 rw [an]
 have h1:=zI
 have h2:B ^ 35=B ^ 34*B:=by rw [show (35:Nat)=34+1 from rfl,Nat.pow_succ]
 have h3:B ^ 34*2≤B ^ 34*B:=Nat.mul_le_mul_left _ (by decide)
 omega
theorem Dv {a b:Nat} (ha:a<lim) (hb:b<lim):(dg (a*b)).length≤68:=by
 rw [an,show B ^ 68=B ^ 34*B ^ 34 from (Nat.pow_add B 34 34)]
 have h1:=zI
 exact Nat.mul_lt_mul'' (Nat.lt_of_lt_of_le ha h1) (Nat.lt_of_lt_of_le hb h1)
theorem qP (na nb:Bool) (a b:Nat):ak (na != nb) (a*b)=ak na a*ak nb b:=by
 unfold ak;cases na <;> cases nb <;> simp [Int.mul_neg,Int.neg_mul]
theorem Bw (nb:Bool) (b:Nat):ak (!nb) b = -ak nb b:=by unfold ak;cases nb <;> simp
theorem Add_any (a b:ByteArray) (w:World) (ha:a.size≤maxLen) (hb:b.size≤maxLen) (ht:Tab w) :
  Calls Tryz.prog 69 #[.string a,.string b] w fun e W'=>e = .returned (.tuple #[.string (qM (bo a.data.toList b.data.toList) (valOf a.data.toList+valOf b.data.toList)),.int .i64 (qN (bo a.data.toList b.data.toList) (valOf a.data.toList+valOf b.data.toList))])∧Below w.heap.size w W':=by
 have cb:=bM a b w ha hb
 generalize he:bo a.data.toList b.data.toList=e at *
 have CB:=Ha cb;clear cb
 by_cases h0:e=0
 ·subst h0
  obtain ⟨k1,k2⟩:=d9 he
  have s1:=bQ k1
  have s2:=bQ k2
  have i1:=fun W=>a7 a W ha
  have i2:=fun W=>a7 b W hb
  have IS:=Ha (Hb i1 i2);clear i1 i2
  have HT:=Ha ht
  rw [fw,fx]
  have q1:(a.size:Int)≤18∨¬ (a.size:Int)≤18:=Decidable.em _
  by_cases hsh:a.size≤18∧b.size≤18
  ·obtain ⟨hs1,hs2⟩:=hsh
   have t1:decide ((a.size:Int)≤18)=true:=by simp;omega
   have t2:decide ((b.size:Int)≤18)=true:=by simp;omega
   rw [t1,t2] at IS
   clear q1
   have v1:=bX k1 (by rw [ac];omega)
   have v2:=bX k2 (by rw [ac];omega)
   have m1:=fun W=>cX a W (by omega) k1
   have m2:=fun W=>cX b W (by omega) k2
   have mo:=fun W' (h:Below w.heap.size w W')=>dj (valOf a.data.toList+valOf b.data.toList) W' (by omega) (by omega) (HT.out.next h)
   have r1:=kI (z:=valOf a.data.toList+valOf b.data.toList) (by omega)
   have r2:=kJ (z:=valOf a.data.toList+valOf b.data.toList) (by omega)
   rw [r1,r2]
   have MM:=Ha (Hb m1 (Hb m2 mo))
   clear m1 m2 mo r1 r2 he k1 k2 ht
   generalize valOf a.data.toList=x at *
   generalize valOf b.data.toList=y at *
   go_enter Tryz.func69,Tryz.ntmps69
   go_wp2_with fail
   refine CB.out.mono ?_
   rintro e w' ⟨rfl,rfl⟩
   clear CB
   go_wp2_with fail
   refine (IS.out.1 _).mono ?_
   rintro e w' ⟨rfl,rfl⟩
   go_wp2_with fail
   refine (IS.out.2 _).mono ?_
   rintro e w' ⟨rfl,rfl⟩
   clear IS
   go_wp2_with fail
   refine (MM.out.1 _).mono ?_
   rintro e w' ⟨rfl,rfl⟩
   go_wp2_with fail
   refine (MM.out.2.1 _).mono ?_
   rintro e w' ⟨rfl,rfl⟩
   go_wp2_with fail
   refine (MM.out.2.2 _ (Below.refl _ _)).mono ?_
   rintro e w' ⟨rfl,hbb⟩
   have HB:=Ha hbb;clear hbb MM
   go_wp2
   go_ret2
   exact ⟨rfl,HB.out⟩
  ·have rr1:=fun W=>bP a W (by omega) k1
   have rr2:=fun W=>bP b W (by omega) k2
   have RR:=Ha (Hb rr1 rr2)
   have NL:=Ha (Hb (bW k1) (bW k2))
   clear rr1 rr2 he k1 k2 ht
   by_cases hs1:a.size≤18
   case' pos =>
    have t1:decide ((a.size:Int)≤18)=true:=by simp;omega
    have t2:decide ((b.size:Int)≤18)=false:=by simp;omega
    rw [t1,t2] at IS
    clear q1
    go_enter Tryz.func69,Tryz.ntmps69
    go_wp2_with fail
    refine CB.out.mono ?_
    rintro e w' ⟨rfl,rfl⟩
    clear CB
    go_wp2_with fail
    refine (IS.out.1 _).mono ?_
    rintro e w' ⟨rfl,rfl⟩
    go_wp2_with fail
    refine (IS.out.2 _).mono ?_
    rintro e w' ⟨rfl,rfl⟩
   case' neg =>
    have t1:decide ((a.size:Int)≤18)=false:=by simp;omega
    rw [t1] at IS
    clear q1
    go_enter Tryz.func69,Tryz.ntmps69
    go_wp2_with fail
    refine CB.out.mono ?_
    rintro e w' ⟨rfl,rfl⟩
    clear CB
    go_wp2_with fail
    refine (IS.out.1 _).mono ?_
    rintro e w' ⟨rfl,rfl⟩
   all_goals
    go_wp2_with fail
    refine (RR.out.1 _).mono ?_
    rintro e w1 ⟨va,rfl,hva,_,hb1⟩
    have H1:=Ha (Hb hva hb1);clear hva hb1
    go_wp2_with fail
    refine (RR.out.2 _).mono ?_
    rintro e w2 ⟨vb,rfl,hvb,_,hb2⟩
    have H2:=Ha (Hb (H1.out.1.next hb2) (Hb hvb (H1.out.2.trans (hb2.mono H1.out.2.size))));clear hvb hb2 H1
    go_wp2_with fail
    refine (lp _ _ _ _ _ _ _ H2.out.1 H2.out.2.1 (Nat.le_trans (fO NL.out.1) (by decide)) (Nat.le_trans (fO NL.out.2) (by decide))).mono ?_
    rintro e w4 ⟨neg,n,v,rfl,hv,hz,_,hb4⟩
    have hzz:ak neg n=valOf a.data.toList+valOf b.data.toList:=by rw [hz.1,eZ,eZ]
    have H4:=Ha (Hb hv (H2.out.2.2.trans (hb4.mono H2.out.2.2.size)))
    have ctx:=jx neg v n w4 hv (Nat.le_trans (zJ NL.out.1 NL.out.2 hz.2) (by decide)) (HT.out.next H4.out.2)
    rw [hzz] at ctx
    have CT:=Ha ctx
    clear ctx hv hb4 hz hzz
    go_wp2_with fail
    refine CT.out.mono ?_
    rintro e w5 ⟨rfl,hb5⟩
    have HB:=Ha (H4.out.2.trans (hb5.mono H4.out.2.size));clear hb5 H4 CT
    go_wp2
    go_ret2
    exact ⟨rfl,HB.out⟩
 ·have hn:(e != 0)=true:=by simpa using h0
  rw [lJ h0,lK h0]
  clear he ht h0
  go_enter Tryz.func69,Tryz.ntmps69
  go_wp2_with fail
  refine CB.out.mono ?_
  rintro e w' ⟨rfl,rfl⟩
  clear CB
  go_wp2
  go_ret2
  exact ⟨rfl,Below.refl _ _⟩
theorem Bx (a b:ByteArray) (w:World) (ha:a.size≤maxLen) (hb:b.size≤maxLen) (ht:Tab w) :
  Calls Tryz.prog 256 #[.string a,.string b] w fun e W'=>e = .returned (.tuple #[.string (qM (bo a.data.toList b.data.toList) (valOf a.data.toList - valOf b.data.toList)),.int .i64 (qN (bo a.data.toList b.data.toList) (valOf a.data.toList - valOf b.data.toList))])∧Below w.heap.size w W':=by
 have cb:=bM a b w ha hb
 generalize he:bo a.data.toList b.data.toList=e at *
 have CB:=Ha cb;clear cb
 by_cases h0:e=0
 ·subst h0
  obtain ⟨k1,k2⟩:=d9 he
  have s1:=bQ k1
  have s2:=bQ k2
  have i1:=fun W=>a7 a W ha
  have i2:=fun W=>a7 b W hb
  have IS:=Ha (Hb i1 i2);clear i1 i2
  have HT:=Ha ht
  rw [fw,fx]
  have q1:(a.size:Int)≤18∨¬ (a.size:Int)≤18:=Decidable.em _
  by_cases hsh:a.size≤18∧b.size≤18
  ·obtain ⟨hs1,hs2⟩:=hsh
   have t1:decide ((a.size:Int)≤18)=true:=by simp;omega
   have t2:decide ((b.size:Int)≤18)=true:=by simp;omega
   rw [t1,t2] at IS
   clear q1
   have v1:=bX k1 (by rw [ac];omega)
   have v2:=bX k2 (by rw [ac];omega)
   have m1:=fun W=>cX a W (by omega) k1
   have m2:=fun W=>cX b W (by omega) k2
   have mo:=fun W' (h:Below w.heap.size w W')=>dj (valOf a.data.toList - valOf b.data.toList) W' (by omega) (by omega) (HT.out.next h)
   have r1:=kI (z:=valOf a.data.toList - valOf b.data.toList) (by omega)
   have r2:=kJ (z:=valOf a.data.toList - valOf b.data.toList) (by omega)
   rw [r1,r2]
   have MM:=Ha (Hb m1 (Hb m2 mo))
   clear m1 m2 mo r1 r2 he k1 k2 ht
   generalize valOf a.data.toList=x at *
   generalize valOf b.data.toList=y at *
   go_enter Tryz.func256,Tryz.ntmps256
   go_wp2_with fail
   refine CB.out.mono ?_
   rintro e w' ⟨rfl,rfl⟩
   clear CB
   go_wp2_with fail
   refine (IS.out.1 _).mono ?_
   rintro e w' ⟨rfl,rfl⟩
   go_wp2_with fail
   refine (IS.out.2 _).mono ?_
   rintro e w' ⟨rfl,rfl⟩
   clear IS
   go_wp2_with fail
   refine (MM.out.1 _).mono ?_
   rintro e w' ⟨rfl,rfl⟩
   go_wp2_with fail
   refine (MM.out.2.1 _).mono ?_
   rintro e w' ⟨rfl,rfl⟩
   go_wp2_with fail
   refine (MM.out.2.2 _ (Below.refl _ _)).mono ?_
   rintro e w' ⟨rfl,hbb⟩
   have HB:=Ha hbb;clear hbb MM
   go_wp2
   go_ret2
   exact ⟨rfl,HB.out⟩
  ·have rr1:=fun W=>bP a W (by omega) k1
   have rr2:=fun W=>bP b W (by omega) k2
   have RR:=Ha (Hb rr1 rr2)
   have NL:=Ha (Hb (bW k1) (bW k2))
   clear rr1 rr2 he k1 k2 ht
   by_cases hs1:a.size≤18
   case' pos =>
    have t1:decide ((a.size:Int)≤18)=true:=by simp;omega
    have t2:decide ((b.size:Int)≤18)=false:=by simp;omega
    rw [t1,t2] at IS
    clear q1
    go_enter Tryz.func256,Tryz.ntmps256
    go_wp2_with fail
    refine CB.out.mono ?_
    rintro e w' ⟨rfl,rfl⟩
    clear CB
    go_wp2_with fail
    refine (IS.out.1 _).mono ?_
    rintro e w' ⟨rfl,rfl⟩
    go_wp2_with fail
    refine (IS.out.2 _).mono ?_
    rintro e w' ⟨rfl,rfl⟩
   case' neg =>
    have t1:decide ((a.size:Int)≤18)=false:=by simp;omega
    rw [t1] at IS
    clear q1
    go_enter Tryz.func256,Tryz.ntmps256
    go_wp2_with fail
    refine CB.out.mono ?_
    rintro e w' ⟨rfl,rfl⟩
    clear CB
    go_wp2_with fail
    refine (IS.out.1 _).mono ?_
    rintro e w' ⟨rfl,rfl⟩
   all_goals
    go_wp2_with fail
    refine (RR.out.1 _).mono ?_
    rintro e w1 ⟨va,rfl,hva,_,hb1⟩
    have H1:=Ha (Hb hva hb1);clear hva hb1
    go_wp2_with fail
    refine (RR.out.2 _).mono ?_
    rintro e w2 ⟨vb,rfl,hvb,_,hb2⟩
    have H2:=Ha (Hb (H1.out.1.next hb2) (Hb hvb (H1.out.2.trans (hb2.mono H1.out.2.size))));clear hvb hb2 H1
    go_wp2_with fail
    refine (qL _ _ _ _ H2.out.2.1).mono ?_
    rintro e w3 ⟨rfl,hb3⟩
    have H3:=Ha (Hb (H2.out.1.next hb3) (Hb (H2.out.2.1.next hb3) (H2.out.2.2.trans (hb3.mono H2.out.2.2.size))));clear hb3 H2
    go_wp2_with fail
    refine (lp _ _ _ _ _ _ _ H3.out.1 H3.out.2.1 (Nat.le_trans (fO NL.out.1) (by decide)) (Nat.le_trans (fO NL.out.2) (by decide))).mono ?_
    rintro e w4 ⟨neg,n,v,rfl,hv,hz,_,hb4⟩
    have hzz:ak neg n=valOf a.data.toList - valOf b.data.toList:=by rw [hz.1,Bw,eZ,eZ];omega
    have H4:=Ha (Hb hv (H3.out.2.2.trans (hb4.mono H3.out.2.2.size)))
    have ctx:=jx neg v n w4 hv (Nat.le_trans (zJ NL.out.1 NL.out.2 hz.2) (by decide)) (HT.out.next H4.out.2)
    rw [hzz] at ctx
    have CT:=Ha ctx
    clear ctx hv hb4 hz hzz
    go_wp2_with fail
    refine CT.out.mono ?_
    rintro e w5 ⟨rfl,hb5⟩
    have HB:=Ha (H4.out.2.trans (hb5.mono H4.out.2.size));clear hb5 H4 CT
    go_wp2
    go_ret2
    exact ⟨rfl,HB.out⟩
 ·have hn:(e != 0)=true:=by simpa using h0
  rw [lJ h0,lK h0]
  clear he ht h0
  go_enter Tryz.func256,Tryz.ntmps256
  go_wp2_with fail
  refine CB.out.mono ?_
  rintro e w' ⟨rfl,rfl⟩
  clear CB
  go_wp2
  go_ret2
  exact ⟨rfl,Below.refl _ _⟩
theorem uv {a b:ByteArray} (ka:chk a.data.toList=0) (kb:chk b.data.toList=0) (h:a.size+b.size≤18) :
  -1000000000000000000<valOf a.data.toList*valOf b.data.toList∧valOf a.data.toList*valOf b.data.toList<1000000000000000000:=by
 have h1:=bg _ (cP ka)
 have h2:=bg _ (cP kb)
 have l1:=dT a.data.toList
 have l2:=dT b.data.toList
 rw [ac] at l1 l2
 have h3:ad (szL a.data.toList)*ad (szL b.data.toList)<10 ^ 18:=by
  refine Nat.lt_of_lt_of_le (Nat.mul_lt_mul'' h1 h2) ?_
  rw [←Nat.pow_add]
  exact Nat.pow_le_pow_right (by decide) (by omega)
 have h4:(valOf a.data.toList*valOf b.data.toList).natAbs=ad (szL a.data.toList)*ad (szL b.data.toList):=by
  rw [Int.natAbs_mul,cF,cF]
  congr 1 <;> split <;> simp
 omega
theorem Mul_any (a b:ByteArray) (w:World) (ha:a.size≤maxLen) (hb:b.size≤maxLen) (ht:Tab w) :
  Calls Tryz.prog 67 #[.string a,.string b] w fun e W'=>e = .returned (.tuple #[.string (qM (bo a.data.toList b.data.toList) (valOf a.data.toList*valOf b.data.toList)),.int .i64 (qN (bo a.data.toList b.data.toList) (valOf a.data.toList*valOf b.data.toList))])∧Below w.heap.size w W':=by
 have cb:=bM a b w ha hb
 generalize he:bo a.data.toList b.data.toList=e at *
 have CB:=Ha cb;clear cb
 by_cases h0:e=0
 ·subst h0
  obtain ⟨k1,k2⟩:=d9 he
  have s1:=bQ k1
  have s2:=bQ k2
  have i1:=fun W=>a7 a W ha
  have i2:=fun W=>a7 b W hb
  have IS:=Ha (Hb i1 i2);clear i1 i2
  have HT:=Ha ht
  rw [fw,fx]
  by_cases hsh:a.size+b.size≤18
  ·have hs1:a.size≤18:=by omega
   have hs2:b.size≤18:=by omega
   have hsi:(a.size:Int)+b.size≤18:=by omega
   have hprod:=uv k1 k2 hsh
   have v1:=bX k1 (by rw [ac];omega)
   have v2:=bX k2 (by rw [ac];omega)
   have m1:=fun W=>cX a W (by omega) k1
   have m2:=fun W=>cX b W (by omega) k2
   have mo:=fun W' (h:Below w.heap.size w W')=>dj (valOf a.data.toList*valOf b.data.toList) W' (by omega) (by omega) (HT.out.next h)
   have r1:=kI (z:=valOf a.data.toList*valOf b.data.toList) (by omega)
   have r2:=kJ (z:=valOf a.data.toList*valOf b.data.toList) (by omega)
   rw [r1,r2]
   have MM:=Ha (Hb m1 (Hb m2 mo))
   clear m1 m2 mo r1 r2 he k1 k2 ht
   generalize valOf a.data.toList=x at *
   generalize valOf b.data.toList=y at *
   go_enter Tryz.func67,Tryz.ntmps67
   go_wp2_with fail
   refine CB.out.mono ?_
   rintro e w' ⟨rfl,rfl⟩
   clear CB
   go_wp2_with fail
   refine (MM.out.1 _).mono ?_
   rintro e w' ⟨rfl,rfl⟩
   go_wp2_with fail
   refine (MM.out.2.1 _).mono ?_
   rintro e w' ⟨rfl,rfl⟩
   go_wp2_with fail
   refine (MM.out.2.2 _ (Below.refl _ _)).mono ?_
   rintro e w' ⟨rfl,hbb⟩
   have HB:=Ha hbb;clear hbb MM
   go_wp2
   go_ret2
   exact ⟨rfl,HB.out⟩
  ·have rr1:=fun W=>bP a W (by omega) k1
   have rr2:=fun W=>bP b W (by omega) k2
   have RR:=Ha (Hb rr1 rr2)
   have NL:=Ha (Hb (bW k1) (bW k2))
   clear rr1 rr2 he k1 k2 ht
   have hsi:¬ (a.size:Int)+b.size≤18:=by omega
   go_enter Tryz.func67,Tryz.ntmps67
   go_wp2_with fail
   refine CB.out.mono ?_
   rintro e w' ⟨rfl,rfl⟩
   clear CB
   go_wp2_with fail
   refine (RR.out.1 _).mono ?_
   rintro e w1 ⟨va,rfl,hva,_,hb1⟩
   have H1:=Ha (Hb hva hb1);clear hva hb1
   go_wp2_with fail
   refine (RR.out.2 _).mono ?_
   rintro e w2 ⟨vb,rfl,hvb,_,hb2⟩
   have H2:=Ha (Hb (H1.out.1.next hb2) (Hb hvb (H1.out.2.trans (hb2.mono H1.out.2.size))));clear hvb hb2 H1
   go_wp2_with fail
   refine (jT _ _ _ _ _ _ _ H2.out.1 H2.out.2.1 (Nat.le_trans (fO NL.out.1) (by decide)) (Nat.le_trans (fO NL.out.2) (by decide))).mono ?_
   rintro e w4 ⟨v,rfl,hv,_,hb4⟩
   have hzz:ak (af a.data.toList != af b.data.toList) (ad (szL a.data.toList)*ad (szL b.data.toList))=valOf a.data.toList*valOf b.data.toList:=by rw [qP,eZ,eZ]
   have H4:=Ha (Hb hv (H2.out.2.2.trans (hb4.mono H2.out.2.2.size)))
   have ctx:=jx (af a.data.toList != af b.data.toList) v _ w4 hv (Nat.le_trans (Dv NL.out.1 NL.out.2) (by decide)) (HT.out.next H4.out.2)
   rw [hzz] at ctx
   have CT:=Ha ctx
   clear ctx hv hb4 hzz
   go_wp2_with fail
   refine CT.out.mono ?_
   rintro e w5 ⟨rfl,hb5⟩
   have HB:=Ha (H4.out.2.trans (hb5.mono H4.out.2.size));clear hb5 H4 CT
   go_wp2
   go_ret2
   exact ⟨rfl,HB.out⟩
 ·have hn:(e != 0)=true:=by simpa using h0
  rw [lJ h0,lK h0]
  clear he ht h0
  go_enter Tryz.func67,Tryz.ntmps67
  go_wp2_with fail
  refine CB.out.mono ?_
  rintro e w' ⟨rfl,rfl⟩
  clear CB
  go_wp2
  go_ret2
  exact ⟨rfl,Below.refl _ _⟩
theorem oM (c:UInt8) (t:List UInt8):ad (c::t)=(c.toNat - 48)*10 ^ t.length+ad t:=by
 have h:=dB [c] t
 rw [List.singleton_append] at h
 rw [h]
 show (0*10+(c.toNat - 48))*_+_=_
 rw [Nat.zero_mul,Nat.zero_add]
theorem xf {l:List UInt8} (h:chk l=0):af l=decide (valOf l<0):=by
 have:=aN (valOf l)
 rwa [cY l h] at this
theorem Below.drewN' {w:World} (n:Nat):Below w.heap.size w (w.drewN n):=⟨rfl,rfl,rfl,Nat.le_refl _,fun _ _=>rfl⟩
theorem By (a b:Int) (hb:b≠0) (ha : -1000000000000000000<a) (ha':a<1000000000000000000) : -1000000000000000001<a.fdiv b∧a.fdiv b<1000000000000000001:=by
 have h:=qs a b ha ha'
 by_cases h0:a.tmod b=0∨((a.tmod b<0)↔(b<0))
 ·rw [(fY hb h0).1];omega
 ·rw [not_or] at h0;rw [(fe hb h0.1 h0.2).1];omega
theorem Bz (a b:Int) (hb:b≠0) (h1 : -1000000000000000000<b) (h2:b<1000000000000000000) : -1000000000000000000<a.fmod b∧a.fmod b<1000000000000000000:=by
 have h:=lz a b hb
 by_cases h0:a.tmod b=0∨((a.tmod b<0)↔(b<0))
 ·rw [(fY hb h0).2];omega
 ·rw [not_or] at h0;rw [(fe hb h0.1 h0.2).2];omega
theorem qQ (a b:ByteArray) (w:World) (k1:chk a.data.toList=0) (k2:chk b.data.toList=0) (h0:valOf b.data.toList≠0) (s1:a.size≤18) (s2:b.size≤18) (ht:Tab w) :
  Calls Tryz.prog 52 #[.string a,.string b] w fun e W'=>e = .returned (.tuple #[.string (aa ((valOf a.data.toList).fdiv (valOf b.data.toList))),.string (aa ((valOf a.data.toList).fmod (valOf b.data.toList))),.int .i64 0])∧Below w.heap.size w W':=by
 have cb:=bM a b w (by unfold maxLen;omega) (by unfold maxLen;omega)
 have hc2:bo a.data.toList b.data.toList=0:=by unfold bo;rw [if_pos k1];exact k2
 rw [hc2] at cb
 have hb48:(b.toList == [48])=false:=by
  rw [ByteArray.toList_eq,beq_eq_false_iff_ne]
  intro e;rw [e] at h0;exact h0 rfl
 have i1:=fun W=>a7 a W (by unfold maxLen;omega)
 have i2:=fun W=>a7 b W (by unfold maxLen;omega)
 have t1:decide ((a.size:Int)≤18)=true:=by simp;omega
 have t2:decide ((b.size:Int)≤18)=true:=by simp;omega
 rw [t1] at i1;rw [t2] at i2
 have m1:=fun W=>cX a W s1 k1
 have m2:=fun W=>cX b W s2 k2
 have v1:=bX k1 (by rw [ac];exact s1)
 have v2:=bX k2 (by rw [ac];exact s2)
 generalize valOf a.data.toList=x at *
 generalize valOf b.data.toList=y at *
 have dm:=fun W=>gH x y W v1.1 v1.2 v2.1 v2.2 h0
 have q:=By x y h0 v1.1 v1.2
 have r:=Bz x y h0 v2.1 v2.2
 generalize x.fdiv y=d at *
 generalize x.fmod y=m at *
 have o1:=fun W (h:Below w.heap.size w W)=>dj d W (by omega) (by omega) (ht.next h)
 have o2:=fun W (h:Below w.heap.size w W)=>dj m W (by omega) (by omega) (ht.next h)
 have C:=Ha (Hb cb (Hb i1 (Hb i2 (Hb m1 (Hb m2 (Hb dm (Hb o1 o2)))))))
 clear cb i1 i2 m1 m2 dm o1 o2 v1 v2 q r t1 t2 hc2 h0 ht k1 k2
 go_enter Tryz.func52,Tryz.ntmps52
 go_wp2_with fail
 refine C.out.1.mono ?_
 rintro e w' ⟨rfl,rfl⟩
 go_wp2_with fail
 refine (C.out.2.1 _).mono ?_
 rintro e w' ⟨rfl,rfl⟩
 go_wp2_with fail
 refine (C.out.2.2.1 _).mono ?_
 rintro e w' ⟨rfl,rfl⟩
 go_wp2_with fail
 refine (C.out.2.2.2.1 _).mono ?_
 rintro e w' ⟨rfl,rfl⟩
 go_wp2_with fail
 refine (C.out.2.2.2.2.1 _).mono ?_
 rintro e w' ⟨rfl,rfl⟩
 go_wp2_with fail
 refine (C.out.2.2.2.2.2.1 _).mono ?_
 rintro e w' ⟨rfl,nn,rfl⟩
 go_wp2_with fail
 refine (C.out.2.2.2.2.2.2.1 _ (Below.drewN' nn)).mono ?_
 rintro e w1 ⟨rfl,b1⟩
 have H1:=Ha ((Below.drewN' nn).trans (show Below w.heap.size (w.drewN nn) w1 from b1));clear b1
 go_wp2_with fail
 refine (C.out.2.2.2.2.2.2.2 _ H1.out).mono ?_
 rintro e w2 ⟨rfl,b2⟩
 have H2:=Ha (H1.out.trans (b2.mono H1.out.size));clear b2 H1 C
 go_wp2
 go_ret3
 exact ⟨rfl,H2.out⟩
theorem qR (z:Int) (l:List UInt8) (h:Lib.itoa z=l):aa z=⟨l.toArray⟩:=by unfold aa;rw [h]
theorem jy (z:Int) (w:World) (h0 : -9223372036854775808≤z) (h1:z≤9223372036854775807) (ht:Tab w) :
  Calls Tryz.prog 27 #[.int .i64 z] w fun e w'=>e = .returned (.string (aa z))∧Below w.heap.size w w' :=
 (Tryz.strconv_Itoa z h0 h1 w ht).mono fun e w' ⟨he,k,os,hw⟩=>⟨he,by rw [hw];exact Lib.below_grow _ _ (Nat.le_refl _) _ _⟩
theorem dh {z:Int} (h:z.natAbs<lim):chk (aa z).data.toList=0:=by rw [aB,fy,if_pos h]
theorem aW (z:Int):valOf (aa z).data.toList=z:=by rw [aB,cJ]
theorem aJ {z:Int} (h:z.natAbs<lim):(aa z).size≤301:=bQ (dh h)
theorem dG {x y:Int} (hx:x.natAbs<lim) (hy:y.natAbs<lim):bo (aa x).data.toList (aa y).data.toList=0:=by unfold bo;rw [if_pos (dh hx),dh hy]
theorem jY {z:Int} (h:z.natAbs<1000000000000000000000000000000000000000):z.natAbs<lim:=Nat.lt_of_lt_of_le h qO
theorem vy (x y:Int) (w:World) (hx:x.natAbs<lim) (hy:y.natAbs<lim) (hz:(x+y).natAbs<lim) (ht:Tab w) :
  Calls Tryz.prog 69 #[.string (aa x),.string (aa y)] w fun e W'=>e = .returned (.tuple #[.string (aa (x+y)),.int .i64 0])∧Below w.heap.size w W':=by
 have c:=Add_any (aa x) (aa y) w (by have:=aJ hx;unfold maxLen;omega) (by have:=aJ hy;unfold maxLen;omega) ht
 rw [dG hx hy,aW,aW,fw,fx] at c
 unfold fH fI at c
 rwa [if_pos hz,if_pos hz] at c
theorem vz (x y:Int) (w:World) (hx:x.natAbs<lim) (hy:y.natAbs<lim) (hz:(x*y).natAbs<lim) (ht:Tab w) :
  Calls Tryz.prog 67 #[.string (aa x),.string (aa y)] w fun e W'=>e = .returned (.tuple #[.string (aa (x*y)),.int .i64 0])∧Below w.heap.size w W':=by
 have c:=Mul_any (aa x) (aa y) w (by have:=aJ hx;unfold maxLen;omega) (by have:=aJ hy;unfold maxLen;omega) ht
 rw [dG hx hy,aW,aW,fw,fx] at c
 unfold fH fI at c
 rwa [if_pos hz,if_pos hz] at c
theorem sU (z:Int):(aa z).size=(Lib.itoa z).length:=by rw [←ac,aB]
theorem kK {l:List UInt8} (h:szL l = []∨((szL l).head? = some 48∧l ≠ [48])):chk l=11:=by
 unfold chk;split
 ·rfl
 ·first | rfl | exact if_pos h
theorem qS {l:List UInt8} {f:Nat} (hz:szL l=l.drop f) (ha:(l.drop f).all aj=true) (hne:f<l.length) (h48:l[f]? = some 48→l.length≤1) :
  chk l=if 300<l.length - f then 4 else 0:=by
 rw [fE (by rw [hz];exact ha),hz,if_neg,List.length_drop]
 rintro (h | ⟨h,h'⟩)
 ·have:=congrArg List.length h;rw [List.length_drop] at this;simp at this;omega
 ·rw [List.head?_drop] at h
  have h1:=h48 h
  have hf:f=0:=by omega
  subst hf
  match l,h1,h,h' with
  | [c],_,h,h'=>simp at h;exact h' (by rw [h])
theorem qT {l:List UInt8} (h:af l=true):szL l=l.drop 1:=by unfold szL;rw [if_pos h,List.drop_one]
theorem BA {l:List UInt8} (h:af l=false):szL l=l.drop 0:=by unfold szL;rw [h];rfl
theorem oN (s:ByteArray) (k:Nat) (h:k<s.size):s.data.toList[k]? = some s[k]:=by
 rw [List.getElem?_eq_getElem (by rw [ac];exact h)];rfl
theorem oO {s:ByteArray} {f k:Nat} (h:((s.data.toList.take k).drop f).all aj=true) (hf:f≤k) (hk:k<s.size) (hd:aj s[k]=true) :
  ((s.data.toList.take (k+1)).drop f).all aj=true:=by
 rw [a8 s k hk,List.drop_append_of_le_length (by rw [List.length_take,ac];omega),List.all_append,h];simp [hd]
theorem oP (k:Nat):aA (k+1)=10*aA k:=by unfold aA;rw [Nat.pow_succ,Nat.mul_comm]
theorem xg (j k:Nat):aA (j+k)=aA j*aA k:=Nat.pow_add _ _ _
def Bd (k:Nat) (z:Int):Prop:=z.natAbs<aA k
theorem Bd.add {k:Nat} {x y:Int} (hx:Bd k x) (hy:Bd k y):Bd (k+1) (x+y):=by
 unfold Bd at *; rw [oP];omega
theorem Bd.sub {k:Nat} {x y:Int} (hx:Bd k x) (hy:Bd k y):Bd (k+1) (x - y):=by
 unfold Bd at *; rw [oP];omega
theorem Bd.mul {j k:Nat} {x y:Int} (hx:Bd j x) (hy:Bd k y):Bd (j+k) (x*y):=by
 unfold Bd at *; rw [xg,Int.natAbs_mul];exact Nat.mul_lt_mul'' hx hy
theorem Bd.lt {k:Nat} {z:Int} (h:Bd k z) (hk:k≤300):z.natAbs<lim:=Nat.lt_of_lt_of_le h (ay hk)
theorem Bd.up {j k:Nat} {z:Int} (h:Bd j z) (hk:j≤k):Bd k z:=Nat.lt_of_lt_of_le h (ay hk)
theorem iC (s:ByteArray) (k f:Nat) (hf:f≤k) (h:k<s.size):s[k]∈s.data.toList.drop f:=by
 have h2:(s.data.toList.drop f)[k - f]? = some s[k]:=by
  rw [List.getElem?_drop,show f+(k - f)=k by omega];exact oN s k h
 exact List.mem_of_getElem? h2
theorem vA {s:ByteArray} {f:Nat} (hf:f<s.size) (h:((s[f].toNat:Int)==48)=true):(s.data.toList.drop f).head? = some 48:=by
 rw [List.head?_drop,oN s f hf]
 have:=mE s[f] 48 (by decide)
 rw [show ((48:Nat):Int)=48 from rfl,h] at this
 exact congrArg some (by simpa using this.symm)
theorem uw {s:ByteArray} {f:Nat} (hf:f<s.size) (h:((s[f].toNat:Int)==48)=false):s.data.toList[f]? ≠ some 48:=by
 rw [oN s f hf]
 intro e
 have e:=Option.some.inj e
 rw [e] at h
 exact absurd h (by decide)
theorem iQ (s:ByteArray) (w:World) (hs:s.size≤maxLen) :
  Calls Tryz.prog 143 #[.string s] w fun e w'=>e = .returned (.int .i64 (chk s.data.toList))∧w=w':=by
 have hm:s.size≤9223372036854775807:=by unfold maxLen at hs;omega
 clear hs
 by_cases hn:af s.data.toList=true
 ·have hz:=Ha (qT hn)
  have h0:=aT hn
  have h45:((s[0].toNat:Int)==45)=true:=(au h0).trans hn
  clear hn
  by_cases h1:s.size=1
  ·have h1':((1:Int)==s.size)=true:=by rw [h1];rfl
   go_enter Tryz.func143,Tryz.ntmps143
   go_wp2
   go_ret
   refine ⟨ah (kK (.inl ?_)).symm,rfl⟩
   rw [hz.out,List.drop_eq_nil_iff,ac];omega
  ·have h2:1<s.size:=by omega
   have h1':((1:Int)==s.size)=false:=by rw [beq_eq_false_iff_ne];omega
   by_cases hc:((s[1].toNat:Int)==48)=true
   ·have hx:=Ha (vA h2 hc)
    go_enter Tryz.func143,Tryz.ntmps143
    go_wp2
    go_ret
    refine ⟨ah (kK (.inr ⟨by rw [hz.out];exact hx.out,fun e => ?_⟩)).symm,rfl⟩
    have:=congrArg List.length e
    rw [ac] at this;simp at this;omega
   ·have hc':((s[1].toNat:Int)==48)=false:=by simpa using hc
    clear hc
    have H48:=Ha (fun h:s.data.toList[1]? = some 48=>show s.size≤1 from absurd h (uw h2 hc'))
    go_enter Tryz.func143,Tryz.ntmps143
    go_wp2
    go_loop [4] (fun i=>∃ k:Nat,1≤k∧k≤s.size∧i = .int .i64 k∧Hid (((s.data.toList.take k).drop 1).all aj=true)) (fun i=>s.size - (intOf i).toNat)
    case atStart=>exact ⟨1,Nat.le_refl _,by omega,rfl,by show ((s.data.toList.take 1).drop 1).all aj=true;rw [List.drop_eq_nil_of_le (List.length_take_le _ _)];rfl⟩
    case round =>
     obtain ⟨k,hk0,hk,rfl,hd⟩:=hrel
     by_cases hlt:k<s.size
     ·by_cases h3:(s[k].toNat:Int)<48
      ·go_wp2
       go_ret
       refine ⟨ah (cO ?_).symm,rfl⟩
       rw [hz.out,List.all_eq_false]
       exact ⟨s[k],iC s k 1 hk0 hlt,by rw [ao];omega⟩
      ·by_cases h4:(57:Int)<s[k].toNat
       ·go_wp2
        go_ret
        refine ⟨ah (cO ?_).symm,rfl⟩
        rw [hz.out,List.all_eq_false]
        exact ⟨s[k],iC s k 1 hk0 hlt,by rw [ao];omega⟩
       ·have hd':Hid (((s.data.toList.take (k+1)).drop 1).all aj=true):=oO hd.out hk0 hlt (by rw [ao];omega)
        clear hd
        go_wp2
        go_round
        case rel=>exact ⟨k+1,by omega,by omega,by go_num,hd'⟩
        case measure=>simp [intOf];omega
     ·have hE:Hid (chk s.data.toList=if 300<s.data.toList.length - 1 then 4 else 0):=qS hz.out (by have:=hd.out;rwa [List.take_of_length_le (by rw [ac];omega)] at this) (by rw [ac];omega) (fun h=>by rw [ac];exact H48.out h)
      clear hd
      go_wp2
      ·have hy:(300:Int)<s.size - 1:=by omega
       go_ret
       exact ⟨ah (by rw [hE.out,if_pos (by rw [ac];omega)]),rfl⟩
      ·have hy:(s.size:Int) - 1≤300:=by omega
       go_ret
       exact ⟨ah (by rw [hE.out,if_neg (by rw [ac];omega)]),rfl⟩
 ·have hn':af s.data.toList=false:=by simpa using hn
  clear hn
  have hz:=Ha (BA hn')
  by_cases h0:s.size=0
  ·go_enter Tryz.func143,Tryz.ntmps143
   go_wp2
   go_ret
   refine ⟨ah (kK (.inl ?_)).symm,rfl⟩
   rw [hz.out,List.drop_eq_nil_iff,ac];omega
  ·have h2:0<s.size:=by omega
   have h45:((s[0].toNat:Int)==45)=false:=(au h2).trans hn'
   have h1':((0:Int)==s.size)=false:=by rw [beq_eq_false_iff_ne];omega
   clear hn'
   by_cases hc:((s[0].toNat:Int)==48)=true∧1<s.size
   ·obtain ⟨hc,h3⟩:=hc
    have hx:=Ha (vA h2 hc)
    go_enter Tryz.func143,Tryz.ntmps143
    go_wp2
    go_ret
    refine ⟨ah (kK (.inr ⟨by rw [hz.out];exact hx.out,fun e => ?_⟩)).symm,rfl⟩
    have:=congrArg List.length e
    rw [ac] at this;simp at this;omega
   ·by_cases hc1:((s[0].toNat:Int)==48)=true
    ·have h3:s.size=1:=by
      have:¬ 1<s.size:=fun h=>hc ⟨hc1,h⟩
      omega
     have h3':¬ (1:Int)<s.size:=by omega
     have H48:=Ha (fun _:s.data.toList[0]? = some 48=>show s.size≤1 by omega)
     clear hc
     go_enter Tryz.func143,Tryz.ntmps143
     go_wp2
     go_loop [4] (fun i=>∃ k:Nat,0≤k∧k≤s.size∧i = .int .i64 k∧Hid (((s.data.toList.take k).drop 0).all aj=true)) (fun i=>s.size - (intOf i).toNat)
     case atStart=>exact ⟨0,Nat.le_refl _,by omega,rfl,by show ((s.data.toList.take 0).drop 0).all aj=true;rw [List.drop_eq_nil_of_le (List.length_take_le _ _)];rfl⟩
     case round =>
      obtain ⟨k,hk0,hk,rfl,hd⟩:=hrel
      by_cases hlt:k<s.size
      ·by_cases h3:(s[k].toNat:Int)<48
       ·go_wp2
        go_ret
        refine ⟨ah (cO ?_).symm,rfl⟩
        rw [hz.out,List.all_eq_false]
        exact ⟨s[k],iC s k 0 hk0 hlt,by rw [ao];omega⟩
       ·by_cases h4:(57:Int)<s[k].toNat
        ·go_wp2
         go_ret
         refine ⟨ah (cO ?_).symm,rfl⟩
         rw [hz.out,List.all_eq_false]
         exact ⟨s[k],iC s k 0 hk0 hlt,by rw [ao];omega⟩
        ·have hd':Hid (((s.data.toList.take (k+1)).drop 0).all aj=true):=oO hd.out hk0 hlt (by rw [ao];omega)
         clear hd
         go_wp2
         go_round
         case rel=>exact ⟨k+1,by omega,by omega,by go_num,hd'⟩
         case measure=>simp [intOf];omega
      ·have hE:Hid (chk s.data.toList=if 300<s.data.toList.length - 0 then 4 else 0):=qS hz.out (by have:=hd.out;rwa [List.take_of_length_le (by rw [ac];omega)] at this) (by rw [ac];omega) (fun h=>by rw [ac];exact H48.out h)
       clear hd
       go_wp2
       go_ret
       exact ⟨ah (by rw [hE.out,if_neg (by rw [ac];omega)]),rfl⟩
    ·have hc':((s[0].toNat:Int)==48)=false:=by simpa using hc1
     clear hc hc1
     have H48:=Ha (fun h:s.data.toList[0]? = some 48=>show s.size≤1 from absurd h (uw h2 hc'))
     go_enter Tryz.func143,Tryz.ntmps143
     go_wp2
     go_loop [4] (fun i=>∃ k:Nat,0≤k∧k≤s.size∧i = .int .i64 k∧Hid (((s.data.toList.take k).drop 0).all aj=true)) (fun i=>s.size - (intOf i).toNat)
     case atStart=>exact ⟨0,Nat.le_refl _,by omega,rfl,by show ((s.data.toList.take 0).drop 0).all aj=true;rw [List.drop_eq_nil_of_le (List.length_take_le _ _)];rfl⟩
     case round =>
      obtain ⟨k,hk0,hk,rfl,hd⟩:=hrel
      by_cases hlt:k<s.size
      ·by_cases h3:(s[k].toNat:Int)<48
       ·go_wp2
        go_ret
        refine ⟨ah (cO ?_).symm,rfl⟩
        rw [hz.out,List.all_eq_false]
        exact ⟨s[k],iC s k 0 hk0 hlt,by rw [ao];omega⟩
       ·by_cases h4:(57:Int)<s[k].toNat
        ·go_wp2
         go_ret
         refine ⟨ah (cO ?_).symm,rfl⟩
         rw [hz.out,List.all_eq_false]
         exact ⟨s[k],iC s k 0 hk0 hlt,by rw [ao];omega⟩
        ·have hd':Hid (((s.data.toList.take (k+1)).drop 0).all aj=true):=oO hd.out hk0 hlt (by rw [ao];omega)
         clear hd
         go_wp2
         go_round
         case rel=>exact ⟨k+1,by omega,by omega,by go_num,hd'⟩
         case measure=>simp [intOf];omega
      ·have hE:Hid (chk s.data.toList=if 300<s.data.toList.length - 0 then 4 else 0):=qS hz.out (by have:=hd.out;rwa [List.take_of_length_le (by rw [ac];omega)] at this) (by rw [ac];omega) (fun h=>by rw [ac];exact H48.out h)
       clear hd
       go_wp2
       ·have hy:(300:Int)<s.size:=by omega
        go_ret
        exact ⟨ah (by rw [hE.out,if_pos (by rw [ac];omega)]),rfl⟩
       ·have hy:(s.size:Int)≤300:=by omega
        go_ret
        exact ⟨ah (by rw [hE.out,if_neg (by rw [ac];omega)]),rfl⟩
end Go.Proofs.YtocalfjfjjljnaaGreatDoor
