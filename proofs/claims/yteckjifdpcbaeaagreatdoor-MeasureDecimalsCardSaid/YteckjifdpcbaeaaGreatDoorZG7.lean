/- Parts of the proof of the text YteckjifdpcbaeaaGreatDoorZG38. -/
import Derived.Test.YteckjifdpcbaeaaGreatDoorZG1
import Derived.Test.YteckjifdpcbaeaaGreatDoorZG6
set_option linter.all false
set_option maxRecDepth 100000
set_option maxHeartbeats 8000000
namespace Go.Proofs.YteckjifdpcbaeaaGreatDoor
open Go.RowKit
def outB (e z:Int):ByteArray:=if e=0 then resB z else ByteArray.empty
def outE (e z:Int):Int:=if e=0 then resE z else e
theorem outB_ok (z:Int):outB 0 z=resB z:=if_pos rfl
theorem outE_ok (z:Int):outE 0 z=resE z:=if_pos rfl
theorem outB_bad {e:Int} (h:e≠0) (z:Int):outB e z=⟨#[]⟩:=if_neg h
theorem outE_bad {e:Int} (h:e≠0) (z:Int):outE e z=e:=if_neg h
theorem chk2_zero {a b:List UInt8} (h:chk2 a b=0):chk a=0∧chk b=0:=by
 unfold chk2 at h;split at h
 ·exact ⟨‹_›, h⟩
 ·exact absurd h ‹_›
theorem chk_size {s:ByteArray} (h:chk s.data.toList=0):s.size≤301:=by
 have h1:(szL s.data.toList).length≤300:=by
  unfold chk at h
  by_cases h1:(szL s.data.toList).all isDig
  ·simp only [h1,Bool.not_true,Bool.false_eq_true,if_false] at h
   split at h
   ·cases h
   ·split at h
    ·cases h
    ·omega
  ·simp only [h1] at h;cases h
 have h2:s.data.toList.length≤(szL s.data.toList).length+1:=by
  unfold szL;split
  ·rw [List.length_tail];omega
  ·omega
 rw [size_len] at h2;omega
theorem lim_big:1000000000000000000000000000000000000000≤lim:=by
 have:tenTo 39≤tenTo 300:=tenTo_mono (by decide)
 have h2:tenTo 39=1000000000000000000000000000000000000000:=by decide
 unfold lim;omega
theorem resB_small {z:Int} (h:z.natAbs<1000000000000000000000000000000000000000):resB z=strB z:=by unfold resB;rw [if_pos (Nat.lt_of_lt_of_le h lim_big)]
theorem resE_small {z:Int} (h:z.natAbs<1000000000000000000000000000000000000000):resE z=0:=by unfold resE;rw [if_pos (Nat.lt_of_lt_of_le h lim_big)]
theorem val_sgn (l:List UInt8):sgnZ (isNeg l) (natOf (szL l))=valOf l:=by rw [valOf_szL];unfold sgnZ;rfl
theorem nat_lim {l:List UInt8} (h:chk l=0):natOf (szL l)<lim:=by
 have:=valOf_lt l h
 rw [valOf_szL] at this;split at this <;> simpa using this
theorem B_tenTo (k:Nat):B ^ k=tenTo (9*k):=B_pow k
theorem lim_B:lim≤B ^ 34:=by
 rw [B_tenTo]
 exact tenTo_mono (by decide)
theorem dg_lim {n:Nat} (h:n<lim):(dg n).length≤34:=(dg_length_le n 34).2 (Nat.lt_of_lt_of_le h lim_B)
theorem dg_sum {a b n:Nat} (ha:a<lim) (hb:b<lim) (h:n≤a+b):(dg n).length≤35:=by
 rw [dg_length_le]
 have h1:=lim_B
 have h2:B ^ 35=B ^ 34*B:=by rw [show (35:Nat)=34+1 from rfl,Nat.pow_succ]
 have h3:B ^ 34*2≤B ^ 34*B:=Nat.mul_le_mul_left _ (by decide)
 omega
theorem dg_mul {a b:Nat} (ha:a<lim) (hb:b<lim):(dg (a*b)).length≤68:=by
 rw [dg_length_le,show B ^ 68=B ^ 34*B ^ 34 from (Nat.pow_add B 34 34)]
 have h1:=lim_B
 exact Nat.mul_lt_mul'' (Nat.lt_of_lt_of_le ha h1) (Nat.lt_of_lt_of_le hb h1)
theorem sgn_mul (na nb:Bool) (a b:Nat):sgnZ (na != nb) (a*b)=sgnZ na a*sgnZ nb b:=by
 unfold sgnZ;cases na <;> cases nb <;> simp [Int.mul_neg,Int.neg_mul]
theorem sgn_not (nb:Bool) (b:Nat):sgnZ (!nb) b = -sgnZ nb b:=by unfold sgnZ;cases nb <;> simp
theorem Add_any (a b:ByteArray) (w:World) (ha:a.size≤maxLen) (hb:b.size≤maxLen) (ht:Tab w) :
  Calls Tryz.prog 83 #[.string a,.string b] w fun e W'=>e = .returned (.tuple #[.string (outB (chk2 a.data.toList b.data.toList) (valOf a.data.toList+valOf b.data.toList)),.int .i64 (outE (chk2 a.data.toList b.data.toList) (valOf a.data.toList+valOf b.data.toList))])∧Below w.heap.size w W':=by
 have cb:=checkBoth_any a b w ha hb
 generalize he:chk2 a.data.toList b.data.toList=e at *
 have CB:=Lib.hid cb;clear cb
 by_cases h0:e=0
 ·subst h0
  obtain ⟨k1,k2⟩:=chk2_zero he
  have s1:=chk_size k1
  have s2:=chk_size k2
  have i1:=fun W=>isShort_any a W ha
  have i2:=fun W=>isShort_any b W hb
  have IS:=Lib.hid (And.intro i1 i2);clear i1 i2
  have HT:=Lib.hid ht
  rw [outB_ok,outE_ok]
  have q1:(a.size:Int)≤18∨¬ (a.size:Int)≤18:=Decidable.em _
  by_cases hsh:a.size≤18∧b.size≤18
  ·obtain ⟨hs1,hs2⟩:=hsh
   have t1:decide ((a.size:Int)≤18)=true:=by simp;omega
   have t2:decide ((b.size:Int)≤18)=true:=by simp;omega
   rw [t1,t2] at IS
   clear q1
   have v1:=valOf_short k1 (by rw [size_len];omega)
   have v2:=valOf_short k2 (by rw [size_len];omega)
   have m1:=fun W=>machine_any a W (by omega) k1
   have m2:=fun W=>machine_any b W (by omega) k2
   have mo:=fun W' (h:Below w.heap.size w W')=>ofMachine_any (valOf a.data.toList+valOf b.data.toList) W' (by omega) (by omega) (HT.out.next h)
   have r1:=resB_small (z:=valOf a.data.toList+valOf b.data.toList) (by omega)
   have r2:=resE_small (z:=valOf a.data.toList+valOf b.data.toList) (by omega)
   rw [r1,r2]
   have MM:=Lib.hid (And.intro m1 (And.intro m2 mo))
   clear m1 m2 mo r1 r2 he k1 k2 ht
   generalize valOf a.data.toList=x at *
   generalize valOf b.data.toList=y at *
   go_enter Tryz.func83,Tryz.ntmps83
   go_wp2_with fail
   refine CB.out.mono ?_
   rintro e w' ⟨rfl,rfl⟩
   clear CB
   go_wp2_with fail
   refine (IS.out.1 _).mono ?_
   rintro e w' ⟨rfl,rfl⟩
   go_wp2_with fail
   refine (IS.out.2 _).mono ?_
   rintro e w' ⟨rfl,rfl⟩
   clear IS
   go_wp2_with fail
   refine (MM.out.1 _).mono ?_
   rintro e w' ⟨rfl,rfl⟩
   go_wp2_with fail
   refine (MM.out.2.1 _).mono ?_
   rintro e w' ⟨rfl,rfl⟩
   go_wp2_with fail
   refine (MM.out.2.2 _ (Below.refl _ _)).mono ?_
   rintro e w' ⟨rfl,hbb⟩
   have HB:=Lib.hid hbb;clear hbb MM
   go_wp2
   go_ret2
   exact ⟨rfl,HB.out⟩
  ·have rr1:=fun W=>read_any a W (by omega) k1
   have rr2:=fun W=>read_any b W (by omega) k2
   have RR:=Lib.hid (And.intro rr1 rr2)
   have NL:=Lib.hid (And.intro (nat_lim k1) (nat_lim k2))
   clear rr1 rr2 he k1 k2 ht
   by_cases hs1:a.size≤18
   case' pos =>
    have t1:decide ((a.size:Int)≤18)=true:=by simp;omega
    have t2:decide ((b.size:Int)≤18)=false:=by simp;omega
    rw [t1,t2] at IS
    clear q1
    go_enter Tryz.func83,Tryz.ntmps83
    go_wp2_with fail
    refine CB.out.mono ?_
    rintro e w' ⟨rfl,rfl⟩
    clear CB
    go_wp2_with fail
    refine (IS.out.1 _).mono ?_
    rintro e w' ⟨rfl,rfl⟩
    go_wp2_with fail
    refine (IS.out.2 _).mono ?_
    rintro e w' ⟨rfl,rfl⟩
   case' neg =>
    have t1:decide ((a.size:Int)≤18)=false:=by simp;omega
    rw [t1] at IS
    clear q1
    go_enter Tryz.func83,Tryz.ntmps83
    go_wp2_with fail
    refine CB.out.mono ?_
    rintro e w' ⟨rfl,rfl⟩
    clear CB
    go_wp2_with fail
    refine (IS.out.1 _).mono ?_
    rintro e w' ⟨rfl,rfl⟩
   all_goals
    go_wp2_with fail
    refine (RR.out.1 _).mono ?_
    rintro e w1 ⟨va,rfl,hva,_,hb1⟩
    have H1:=Lib.hid (And.intro hva hb1);clear hva hb1
    go_wp2_with fail
    refine (RR.out.2 _).mono ?_
    rintro e w2 ⟨vb,rfl,hvb,_,hb2⟩
    have H2:=Lib.hid (And.intro (H1.out.1.next hb2) (And.intro hvb (H1.out.2.trans (hb2.mono H1.out.2.size))));clear hvb hb2 H1
    go_wp2_with fail
    refine (plus_any _ _ _ _ _ _ _ H2.out.1 H2.out.2.1 (Nat.le_trans (dg_lim NL.out.1) (by decide)) (Nat.le_trans (dg_lim NL.out.2) (by decide))).mono ?_
    rintro e w4 ⟨neg,n,v,rfl,hv,hz,_,hb4⟩
    have hzz:sgnZ neg n=valOf a.data.toList+valOf b.data.toList:=by rw [hz.1,val_sgn,val_sgn]
    have H4:=Lib.hid (And.intro hv (H2.out.2.2.trans (hb4.mono H2.out.2.2.size)))
    have ctx:=text_any neg v n w4 hv (Nat.le_trans (dg_sum NL.out.1 NL.out.2 hz.2) (by decide)) (HT.out.next H4.out.2)
    rw [hzz] at ctx
    have CT:=Lib.hid ctx
    clear ctx hv hb4 hz hzz
    go_wp2_with fail
    refine CT.out.mono ?_
    rintro e w5 ⟨rfl,hb5⟩
    have HB:=Lib.hid (H4.out.2.trans (hb5.mono H4.out.2.size));clear hb5 H4 CT
    go_wp2
    go_ret2
    exact ⟨rfl,HB.out⟩
 ·have hn:(e != 0)=true:=by simpa using h0
  rw [outB_bad h0,outE_bad h0]
  clear he ht h0
  go_enter Tryz.func83,Tryz.ntmps83
  go_wp2_with fail
  refine CB.out.mono ?_
  rintro e w' ⟨rfl,rfl⟩
  clear CB
  go_wp2
  go_ret2
  exact ⟨rfl,Below.refl _ _⟩
theorem Sub_any (a b:ByteArray) (w:World) (ha:a.size≤maxLen) (hb:b.size≤maxLen) (ht:Tab w) :
  Calls Tryz.prog 278 #[.string a,.string b] w fun e W'=>e = .returned (.tuple #[.string (outB (chk2 a.data.toList b.data.toList) (valOf a.data.toList - valOf b.data.toList)),.int .i64 (outE (chk2 a.data.toList b.data.toList) (valOf a.data.toList - valOf b.data.toList))])∧Below w.heap.size w W':=by
 have cb:=checkBoth_any a b w ha hb
 generalize he:chk2 a.data.toList b.data.toList=e at *
 have CB:=Lib.hid cb;clear cb
 by_cases h0:e=0
 ·subst h0
  obtain ⟨k1,k2⟩:=chk2_zero he
  have s1:=chk_size k1
  have s2:=chk_size k2
  have i1:=fun W=>isShort_any a W ha
  have i2:=fun W=>isShort_any b W hb
  have IS:=Lib.hid (And.intro i1 i2);clear i1 i2
  have HT:=Lib.hid ht
  rw [outB_ok,outE_ok]
  have q1:(a.size:Int)≤18∨¬ (a.size:Int)≤18:=Decidable.em _
  by_cases hsh:a.size≤18∧b.size≤18
  ·obtain ⟨hs1,hs2⟩:=hsh
   have t1:decide ((a.size:Int)≤18)=true:=by simp;omega
   have t2:decide ((b.size:Int)≤18)=true:=by simp;omega
   rw [t1,t2] at IS
   clear q1
   have v1:=valOf_short k1 (by rw [size_len];omega)
   have v2:=valOf_short k2 (by rw [size_len];omega)
   have m1:=fun W=>machine_any a W (by omega) k1
   have m2:=fun W=>machine_any b W (by omega) k2
   have mo:=fun W' (h:Below w.heap.size w W')=>ofMachine_any (valOf a.data.toList - valOf b.data.toList) W' (by omega) (by omega) (HT.out.next h)
   have r1:=resB_small (z:=valOf a.data.toList - valOf b.data.toList) (by omega)
   have r2:=resE_small (z:=valOf a.data.toList - valOf b.data.toList) (by omega)
   rw [r1,r2]
   have MM:=Lib.hid (And.intro m1 (And.intro m2 mo))
   clear m1 m2 mo r1 r2 he k1 k2 ht
   generalize valOf a.data.toList=x at *
   generalize valOf b.data.toList=y at *
   go_enter Tryz.func278,Tryz.ntmps278
   go_wp2_with fail
   refine CB.out.mono ?_
   rintro e w' ⟨rfl,rfl⟩
   clear CB
   go_wp2_with fail
   refine (IS.out.1 _).mono ?_
   rintro e w' ⟨rfl,rfl⟩
   go_wp2_with fail
   refine (IS.out.2 _).mono ?_
   rintro e w' ⟨rfl,rfl⟩
   clear IS
   go_wp2_with fail
   refine (MM.out.1 _).mono ?_
   rintro e w' ⟨rfl,rfl⟩
   go_wp2_with fail
   refine (MM.out.2.1 _).mono ?_
   rintro e w' ⟨rfl,rfl⟩
   go_wp2_with fail
   refine (MM.out.2.2 _ (Below.refl _ _)).mono ?_
   rintro e w' ⟨rfl,hbb⟩
   have HB:=Lib.hid hbb;clear hbb MM
   go_wp2
   go_ret2
   exact ⟨rfl,HB.out⟩
  ·have rr1:=fun W=>read_any a W (by omega) k1
   have rr2:=fun W=>read_any b W (by omega) k2
   have RR:=Lib.hid (And.intro rr1 rr2)
   have NL:=Lib.hid (And.intro (nat_lim k1) (nat_lim k2))
   clear rr1 rr2 he k1 k2 ht
   by_cases hs1:a.size≤18
   case' pos =>
    have t1:decide ((a.size:Int)≤18)=true:=by simp;omega
    have t2:decide ((b.size:Int)≤18)=false:=by simp;omega
    rw [t1,t2] at IS
    clear q1
    go_enter Tryz.func278,Tryz.ntmps278
    go_wp2_with fail
    refine CB.out.mono ?_
    rintro e w' ⟨rfl,rfl⟩
    clear CB
    go_wp2_with fail
    refine (IS.out.1 _).mono ?_
    rintro e w' ⟨rfl,rfl⟩
    go_wp2_with fail
    refine (IS.out.2 _).mono ?_
    rintro e w' ⟨rfl,rfl⟩
   case' neg =>
    have t1:decide ((a.size:Int)≤18)=false:=by simp;omega
    rw [t1] at IS
    clear q1
    go_enter Tryz.func278,Tryz.ntmps278
    go_wp2_with fail
    refine CB.out.mono ?_
    rintro e w' ⟨rfl,rfl⟩
    clear CB
    go_wp2_with fail
    refine (IS.out.1 _).mono ?_
    rintro e w' ⟨rfl,rfl⟩
   all_goals
    go_wp2_with fail
    refine (RR.out.1 _).mono ?_
    rintro e w1 ⟨va,rfl,hva,_,hb1⟩
    have H1:=Lib.hid (And.intro hva hb1);clear hva hb1
    go_wp2_with fail
    refine (RR.out.2 _).mono ?_
    rintro e w2 ⟨vb,rfl,hvb,_,hb2⟩
    have H2:=Lib.hid (And.intro (H1.out.1.next hb2) (And.intro hvb (H1.out.2.trans (hb2.mono H1.out.2.size))));clear hvb hb2 H1
    go_wp2_with fail
    refine (opposite_any _ _ _ _ H2.out.2.1).mono ?_
    rintro e w3 ⟨rfl,hb3⟩
    have H3:=Lib.hid (And.intro (H2.out.1.next hb3) (And.intro (H2.out.2.1.next hb3) (H2.out.2.2.trans (hb3.mono H2.out.2.2.size))));clear hb3 H2
    go_wp2_with fail
    refine (plus_any _ _ _ _ _ _ _ H3.out.1 H3.out.2.1 (Nat.le_trans (dg_lim NL.out.1) (by decide)) (Nat.le_trans (dg_lim NL.out.2) (by decide))).mono ?_
    rintro e w4 ⟨neg,n,v,rfl,hv,hz,_,hb4⟩
    have hzz:sgnZ neg n=valOf a.data.toList - valOf b.data.toList:=by rw [hz.1,sgn_not,val_sgn,val_sgn];omega
    have H4:=Lib.hid (And.intro hv (H3.out.2.2.trans (hb4.mono H3.out.2.2.size)))
    have ctx:=text_any neg v n w4 hv (Nat.le_trans (dg_sum NL.out.1 NL.out.2 hz.2) (by decide)) (HT.out.next H4.out.2)
    rw [hzz] at ctx
    have CT:=Lib.hid ctx
    clear ctx hv hb4 hz hzz
    go_wp2_with fail
    refine CT.out.mono ?_
    rintro e w5 ⟨rfl,hb5⟩
    have HB:=Lib.hid (H4.out.2.trans (hb5.mono H4.out.2.size));clear hb5 H4 CT
    go_wp2
    go_ret2
    exact ⟨rfl,HB.out⟩
 ·have hn:(e != 0)=true:=by simpa using h0
  rw [outB_bad h0,outE_bad h0]
  clear he ht h0
  go_enter Tryz.func278,Tryz.ntmps278
  go_wp2_with fail
  refine CB.out.mono ?_
  rintro e w' ⟨rfl,rfl⟩
  clear CB
  go_wp2
  go_ret2
  exact ⟨rfl,Below.refl _ _⟩
theorem short_prod {a b:ByteArray} (ka:chk a.data.toList=0) (kb:chk b.data.toList=0) (h:a.size+b.size≤18) :
  -1000000000000000000<valOf a.data.toList*valOf b.data.toList∧valOf a.data.toList*valOf b.data.toList<1000000000000000000:=by
 have h1:=natOf_lt _ (chk_dig ka)
 have h2:=natOf_lt _ (chk_dig kb)
 have l1:=szL_length a.data.toList
 have l2:=szL_length b.data.toList
 rw [size_len] at l1 l2
 have h3:natOf (szL a.data.toList)*natOf (szL b.data.toList)<10 ^ 18:=by
  refine Nat.lt_of_lt_of_le (Nat.mul_lt_mul'' h1 h2) ?_
  rw [←Nat.pow_add]
  exact Nat.pow_le_pow_right (by decide) (by omega)
 have h4:(valOf a.data.toList*valOf b.data.toList).natAbs=natOf (szL a.data.toList)*natOf (szL b.data.toList):=by
  rw [Int.natAbs_mul,valOf_szL,valOf_szL]
  congr 1 <;> split <;> simp
 omega
theorem Mul_any (a b:ByteArray) (w:World) (ha:a.size≤maxLen) (hb:b.size≤maxLen) (ht:Tab w) :
  Calls Tryz.prog 82 #[.string a,.string b] w fun e W'=>e = .returned (.tuple #[.string (outB (chk2 a.data.toList b.data.toList) (valOf a.data.toList*valOf b.data.toList)),.int .i64 (outE (chk2 a.data.toList b.data.toList) (valOf a.data.toList*valOf b.data.toList))])∧Below w.heap.size w W':=by
 have cb:=checkBoth_any a b w ha hb
 generalize he:chk2 a.data.toList b.data.toList=e at *
 have CB:=Lib.hid cb;clear cb
 by_cases h0:e=0
 ·subst h0
  obtain ⟨k1,k2⟩:=chk2_zero he
  have s1:=chk_size k1
  have s2:=chk_size k2
  have i1:=fun W=>isShort_any a W ha
  have i2:=fun W=>isShort_any b W hb
  have IS:=Lib.hid (And.intro i1 i2);clear i1 i2
  have HT:=Lib.hid ht
  rw [outB_ok,outE_ok]
  by_cases hsh:a.size+b.size≤18
  ·have hs1:a.size≤18:=by omega
   have hs2:b.size≤18:=by omega
   have hsi:(a.size:Int)+b.size≤18:=by omega
   have hprod:=short_prod k1 k2 hsh
   have v1:=valOf_short k1 (by rw [size_len];omega)
   have v2:=valOf_short k2 (by rw [size_len];omega)
   have m1:=fun W=>machine_any a W (by omega) k1
   have m2:=fun W=>machine_any b W (by omega) k2
   have mo:=fun W' (h:Below w.heap.size w W')=>ofMachine_any (valOf a.data.toList*valOf b.data.toList) W' (by omega) (by omega) (HT.out.next h)
   have r1:=resB_small (z:=valOf a.data.toList*valOf b.data.toList) (by omega)
   have r2:=resE_small (z:=valOf a.data.toList*valOf b.data.toList) (by omega)
   rw [r1,r2]
   have MM:=Lib.hid (And.intro m1 (And.intro m2 mo))
   clear m1 m2 mo r1 r2 he k1 k2 ht
   generalize valOf a.data.toList=x at *
   generalize valOf b.data.toList=y at *
   go_enter Tryz.func82,Tryz.ntmps82
   go_wp2_with fail
   refine CB.out.mono ?_
   rintro e w' ⟨rfl,rfl⟩
   clear CB
   go_wp2_with fail
   refine (MM.out.1 _).mono ?_
   rintro e w' ⟨rfl,rfl⟩
   go_wp2_with fail
   refine (MM.out.2.1 _).mono ?_
   rintro e w' ⟨rfl,rfl⟩
   go_wp2_with fail
   refine (MM.out.2.2 _ (Below.refl _ _)).mono ?_
   rintro e w' ⟨rfl,hbb⟩
   have HB:=Lib.hid hbb;clear hbb MM
   go_wp2
   go_ret2
   exact ⟨rfl,HB.out⟩
  ·have rr1:=fun W=>read_any a W (by omega) k1
   have rr2:=fun W=>read_any b W (by omega) k2
   have RR:=Lib.hid (And.intro rr1 rr2)
   have NL:=Lib.hid (And.intro (nat_lim k1) (nat_lim k2))
   clear rr1 rr2 he k1 k2 ht
   have hsi:¬ (a.size:Int)+b.size≤18:=by omega
   go_enter Tryz.func82,Tryz.ntmps82
   go_wp2_with fail
   refine CB.out.mono ?_
   rintro e w' ⟨rfl,rfl⟩
   clear CB
   go_wp2_with fail
   refine (RR.out.1 _).mono ?_
   rintro e w1 ⟨va,rfl,hva,_,hb1⟩
   have H1:=Lib.hid (And.intro hva hb1);clear hva hb1
   go_wp2_with fail
   refine (RR.out.2 _).mono ?_
   rintro e w2 ⟨vb,rfl,hvb,_,hb2⟩
   have H2:=Lib.hid (And.intro (H1.out.1.next hb2) (And.intro hvb (H1.out.2.trans (hb2.mono H1.out.2.size))));clear hvb hb2 H1
   go_wp2_with fail
   refine (times_any _ _ _ _ _ _ _ H2.out.1 H2.out.2.1 (Nat.le_trans (dg_lim NL.out.1) (by decide)) (Nat.le_trans (dg_lim NL.out.2) (by decide))).mono ?_
   rintro e w4 ⟨v,rfl,hv,_,hb4⟩
   have hzz:sgnZ (isNeg a.data.toList != isNeg b.data.toList) (natOf (szL a.data.toList)*natOf (szL b.data.toList))=valOf a.data.toList*valOf b.data.toList:=by rw [sgn_mul,val_sgn,val_sgn]
   have H4:=Lib.hid (And.intro hv (H2.out.2.2.trans (hb4.mono H2.out.2.2.size)))
   have ctx:=text_any (isNeg a.data.toList != isNeg b.data.toList) v _ w4 hv (Nat.le_trans (dg_mul NL.out.1 NL.out.2) (by decide)) (HT.out.next H4.out.2)
   rw [hzz] at ctx
   have CT:=Lib.hid ctx
   clear ctx hv hb4 hzz
   go_wp2_with fail
   refine CT.out.mono ?_
   rintro e w5 ⟨rfl,hb5⟩
   have HB:=Lib.hid (H4.out.2.trans (hb5.mono H4.out.2.size));clear hb5 H4 CT
   go_wp2
   go_ret2
   exact ⟨rfl,HB.out⟩
 ·have hn:(e != 0)=true:=by simpa using h0
  rw [outB_bad h0,outE_bad h0]
  clear he ht h0
  go_enter Tryz.func82,Tryz.ntmps82
  go_wp2_with fail
  refine CB.out.mono ?_
  rintro e w' ⟨rfl,rfl⟩
  clear CB
  go_wp2
  go_ret2
  exact ⟨rfl,Below.refl _ _⟩
theorem isNeg_val {l:List UInt8} (h:chk l=0):isNeg l=decide (valOf l<0):=by
 have:=head_itoa_neg (valOf l)
 rwa [itoa_valOf l h] at this
theorem Below.drewN' {w:World} (n:Nat):Below w.heap.size w (w.drewN n):=⟨rfl,rfl,rfl,Nat.le_refl _,fun _ _=>rfl⟩
theorem fdiv_bd (a b:Int) (hb:b≠0) (ha : -1000000000000000000<a) (ha':a<1000000000000000000) : -1000000000000000001<a.fdiv b∧a.fdiv b<1000000000000000001:=by
 have h:=tdiv_bd a b ha ha'
 by_cases h0:a.tmod b=0∨((a.tmod b<0)↔(b<0))
 ·rw [(fdiv_same hb h0).1];omega
 ·rw [not_or] at h0;rw [(fdiv_other hb h0.1 h0.2).1];omega
theorem fmod_bd (a b:Int) (hb:b≠0) (h1 : -1000000000000000000<b) (h2:b<1000000000000000000) : -1000000000000000000<a.fmod b∧a.fmod b<1000000000000000000:=by
 have h:=tmod_lt a b hb
 by_cases h0:a.tmod b=0∨((a.tmod b<0)↔(b<0))
 ·rw [(fdiv_same hb h0).2];omega
 ·rw [not_or] at h0;rw [(fdiv_other hb h0.1 h0.2).2];omega
theorem Divide_small (a b:ByteArray) (w:World) (k1:chk a.data.toList=0) (k2:chk b.data.toList=0) (h0:valOf b.data.toList≠0) (s1:a.size≤18) (s2:b.size≤18) (ht:Tab w) :
  Calls Tryz.prog 78 #[.string a,.string b] w fun e W'=>e = .returned (.tuple #[.string (strB ((valOf a.data.toList).fdiv (valOf b.data.toList))),.string (strB ((valOf a.data.toList).fmod (valOf b.data.toList))),.int .i64 0])∧Below w.heap.size w W':=by
 have cb:=checkBoth_any a b w (by unfold maxLen;omega) (by unfold maxLen;omega)
 have hc2:chk2 a.data.toList b.data.toList=0:=by unfold chk2;rw [if_pos k1];exact k2
 rw [hc2] at cb
 have hb48:(b.toList == [48])=false:=by
  rw [ByteArray.toList_eq,beq_eq_false_iff_ne]
  intro e;rw [e] at h0;exact h0 rfl
 have i1:=fun W=>isShort_any a W (by unfold maxLen;omega)
 have i2:=fun W=>isShort_any b W (by unfold maxLen;omega)
 have t1:decide ((a.size:Int)≤18)=true:=by simp;omega
 have t2:decide ((b.size:Int)≤18)=true:=by simp;omega
 rw [t1] at i1;rw [t2] at i2
 have m1:=fun W=>machine_any a W s1 k1
 have m2:=fun W=>machine_any b W s2 k2
 have v1:=valOf_short k1 (by rw [size_len];exact s1)
 have v2:=valOf_short k2 (by rw [size_len];exact s2)
 generalize valOf a.data.toList=x at *
 generalize valOf b.data.toList=y at *
 have dm:=fun W=>divideMachine_any x y W v1.1 v1.2 v2.1 v2.2 h0
 have q:=fdiv_bd x y h0 v1.1 v1.2
 have r:=fmod_bd x y h0 v2.1 v2.2
 generalize x.fdiv y=d at *
 generalize x.fmod y=m at *
 have o1:=fun W (h:Below w.heap.size w W)=>ofMachine_any d W (by omega) (by omega) (ht.next h)
 have o2:=fun W (h:Below w.heap.size w W)=>ofMachine_any m W (by omega) (by omega) (ht.next h)
 have C:=Lib.hid (And.intro cb (And.intro i1 (And.intro i2 (And.intro m1 (And.intro m2 (And.intro dm (And.intro o1 o2)))))))
 clear cb i1 i2 m1 m2 dm o1 o2 v1 v2 q r t1 t2 hc2 h0 ht k1 k2
 go_enter Tryz.func78,Tryz.ntmps78
 go_wp2_with fail
 refine C.out.1.mono ?_
 rintro e w' ⟨rfl,rfl⟩
 go_wp2_with fail
 refine (C.out.2.1 _).mono ?_
 rintro e w' ⟨rfl,rfl⟩
 go_wp2_with fail
 refine (C.out.2.2.1 _).mono ?_
 rintro e w' ⟨rfl,rfl⟩
 go_wp2_with fail
 refine (C.out.2.2.2.1 _).mono ?_
 rintro e w' ⟨rfl,rfl⟩
 go_wp2_with fail
 refine (C.out.2.2.2.2.1 _).mono ?_
 rintro e w' ⟨rfl,rfl⟩
 go_wp2_with fail
 refine (C.out.2.2.2.2.2.1 _).mono ?_
 rintro e w' ⟨rfl,nn,rfl⟩
 go_wp2_with fail
 refine (C.out.2.2.2.2.2.2.1 _ (Below.drewN' nn)).mono ?_
 rintro e w1 ⟨rfl,b1⟩
 have H1:=Lib.hid ((Below.drewN' nn).trans (show Below w.heap.size (w.drewN nn) w1 from b1));clear b1
 go_wp2_with fail
 refine (C.out.2.2.2.2.2.2.2 _ H1.out).mono ?_
 rintro e w2 ⟨rfl,b2⟩
 have H2:=Lib.hid (H1.out.trans (b2.mono H1.out.size));clear b2 H1 C
 go_wp2
 go_ret3
 exact ⟨rfl,H2.out⟩
theorem str_of (z:Int) (l:List UInt8) (h:Lib.itoa z=l):strB z=⟨l.toArray⟩:=by unfold strB;rw [h]
theorem Itoa_any (z:Int) (w:World) (h0 : -9223372036854775808≤z) (h1:z≤9223372036854775807) (ht:Tab w) :
  Calls Tryz.prog 43 #[.int .i64 z] w fun e w'=>e = .returned (.string (strB z))∧Below w.heap.size w w' :=
 (Tryz.strconv_Itoa z h0 h1 w ht).mono fun e w' ⟨he,k,os,hw⟩=>⟨he,by rw [hw];exact Lib.below_grow _ _ (Nat.le_refl _) _ _⟩
theorem strB_chk {z:Int} (h:z.natAbs<lim):chk (strB z).data.toList=0:=by rw [strB_data,chk_itoa,if_pos h]
theorem strB_val (z:Int):valOf (strB z).data.toList=z:=by rw [strB_data,valOf_itoa]
theorem strB_size {z:Int} (h:z.natAbs<lim):(strB z).size≤301:=chk_size (strB_chk h)
theorem strB_chk2 {x y:Int} (hx:x.natAbs<lim) (hy:y.natAbs<lim):chk2 (strB x).data.toList (strB y).data.toList=0:=by unfold chk2;rw [if_pos (strB_chk hx),strB_chk hy]
theorem small_lim {z:Int} (h:z.natAbs<1000000000000000000000000000000000000000):z.natAbs<lim:=Nat.lt_of_lt_of_le h lim_big
theorem Add_str (x y:Int) (w:World) (hx:x.natAbs<lim) (hy:y.natAbs<lim) (hz:(x+y).natAbs<lim) (ht:Tab w) :
  Calls Tryz.prog 83 #[.string (strB x),.string (strB y)] w fun e W'=>e = .returned (.tuple #[.string (strB (x+y)),.int .i64 0])∧Below w.heap.size w W':=by
 have c:=Add_any (strB x) (strB y) w (by have:=strB_size hx;unfold maxLen;omega) (by have:=strB_size hy;unfold maxLen;omega) ht
 rw [strB_chk2 hx hy,strB_val,strB_val,outB_ok,outE_ok] at c
 unfold resB resE at c
 rwa [if_pos hz,if_pos hz] at c
theorem Mul_str (x y:Int) (w:World) (hx:x.natAbs<lim) (hy:y.natAbs<lim) (hz:(x*y).natAbs<lim) (ht:Tab w) :
  Calls Tryz.prog 82 #[.string (strB x),.string (strB y)] w fun e W'=>e = .returned (.tuple #[.string (strB (x*y)),.int .i64 0])∧Below w.heap.size w W':=by
 have c:=Mul_any (strB x) (strB y) w (by have:=strB_size hx;unfold maxLen;omega) (by have:=strB_size hy;unfold maxLen;omega) ht
 rw [strB_chk2 hx hy,strB_val,strB_val,outB_ok,outE_ok] at c
 unfold resB resE at c
 rwa [if_pos hz,if_pos hz] at c
theorem strB_len (z:Int):(strB z).size=(Lib.itoa z).length:=by rw [←size_len,strB_data]
theorem chk_11 {l:List UInt8} (h:szL l = []∨((szL l).head? = some 48∧l ≠ [48])):chk l=11:=by
 unfold chk;split
 ·rfl
 ·first | rfl | exact if_pos h
theorem chk_end {l:List UInt8} {f:Nat} (hz:szL l=l.drop f) (ha:(l.drop f).all isDig=true) (hne:f<l.length) (h48:l[f]? = some 48→l.length≤1) :
  chk l=if 300<l.length - f then 4 else 0:=by
 rw [chk_good (by rw [hz];exact ha),hz,if_neg,List.length_drop]
 rintro (h | ⟨h,h'⟩)
 ·have:=congrArg List.length h;rw [List.length_drop] at this;simp at this;omega
 ·rw [List.head?_drop] at h
  have h1:=h48 h
  have hf:f=0:=by omega
  subst hf
  match l,h1,h,h' with
  | [c],_,h,h'=>simp at h;exact h' (by rw [h])
theorem szL_neg {l:List UInt8} (h:isNeg l=true):szL l=l.drop 1:=by unfold szL;rw [if_pos h,List.drop_one]
theorem szL_pos {l:List UInt8} (h:isNeg l=false):szL l=l.drop 0:=by unfold szL;rw [h];rfl
theorem get_some (s:ByteArray) (k:Nat) (h:k<s.size):s.data.toList[k]? = some s[k]:=by
 rw [List.getElem?_eq_getElem (by rw [size_len];exact h)];rfl
theorem all_snoc {s:ByteArray} {f k:Nat} (h:((s.data.toList.take k).drop f).all isDig=true) (hf:f≤k) (hk:k<s.size) (hd:isDig s[k]=true) :
  ((s.data.toList.take (k+1)).drop f).all isDig=true:=by
 rw [take_snoc s k hk,List.drop_append_of_le_length (by rw [List.length_take,size_len];omega),List.all_append,h];simp [hd]
theorem tenTo_succ (k:Nat):tenTo (k+1)=10*tenTo k:=by unfold tenTo;rw [Nat.pow_succ,Nat.mul_comm]
theorem tenTo_add (j k:Nat):tenTo (j+k)=tenTo j*tenTo k:=Nat.pow_add _ _ _
def Bd (k:Nat) (z:Int):Prop:=z.natAbs<tenTo k
theorem Bd.add {k:Nat} {x y:Int} (hx:Bd k x) (hy:Bd k y):Bd (k+1) (x+y):=by
 unfold Bd at *; rw [tenTo_succ];omega
theorem Bd.mul {j k:Nat} {x y:Int} (hx:Bd j x) (hy:Bd k y):Bd (j+k) (x*y):=by
 unfold Bd at *; rw [tenTo_add,Int.natAbs_mul];exact Nat.mul_lt_mul'' hx hy
theorem Bd.lt {k:Nat} {z:Int} (h:Bd k z) (hk:k≤300):z.natAbs<lim:=Nat.lt_of_lt_of_le h (tenTo_mono hk)
theorem Bd.up {j k:Nat} {z:Int} (h:Bd j z) (hk:j≤k):Bd k z:=Nat.lt_of_lt_of_le h (tenTo_mono hk)
theorem mem_drop (s:ByteArray) (k f:Nat) (hf:f≤k) (h:k<s.size):s[k]∈s.data.toList.drop f:=by
 have h2:(s.data.toList.drop f)[k - f]? = some s[k]:=by
  rw [List.getElem?_drop,show f+(k - f)=k by omega];exact get_some s k h
 exact List.mem_of_getElem? h2
theorem head_48 {s:ByteArray} {f:Nat} (hf:f<s.size) (h:((s[f].toNat:Int)==48)=true):(s.data.toList.drop f).head? = some 48:=by
 rw [List.head?_drop,get_some s f hf]
 have:=u8_eq s[f] 48 (by decide)
 rw [show ((48:Nat):Int)=48 from rfl,h] at this
 exact congrArg some (by simpa using this.symm)
theorem not_48 {s:ByteArray} {f:Nat} (hf:f<s.size) (h:((s[f].toNat:Int)==48)=false):s.data.toList[f]? ≠ some 48:=by
 rw [get_some s f hf]
 intro e
 have e:=Option.some.inj e
 rw [e] at h
 exact absurd h (by decide)
theorem refCheck_any (s:ByteArray) (w:World) (hs:s.size≤maxLen) :
  Calls Tryz.prog 142 #[.string s] w fun e w'=>e = .returned (.int .i64 (chk s.data.toList))∧w=w':=by
 have hm:s.size≤9223372036854775807:=by unfold maxLen at hs;omega
 clear hs
 by_cases hn:isNeg s.data.toList=true
 ·have hz:=Lib.hid (szL_neg hn)
  have h0:=isNeg_size hn
  have h45:((s[0].toNat:Int)==45)=true:=(isNeg_pos h0).trans hn
  clear hn
  by_cases h1:s.size=1
  ·have h1':((1:Int)==s.size)=true:=by rw [h1];rfl
   go_enter Tryz.func142,Tryz.ntmps142
   go_wp2
   go_ret
   refine ⟨ret_int (chk_11 (.inl ?_)).symm,rfl⟩
   rw [hz.out,List.drop_eq_nil_iff,size_len];omega
  ·have h2:1<s.size:=by omega
   have h1':((1:Int)==s.size)=false:=by rw [beq_eq_false_iff_ne];omega
   by_cases hc:((s[1].toNat:Int)==48)=true
   ·have hx:=Lib.hid (head_48 h2 hc)
    go_enter Tryz.func142,Tryz.ntmps142
    go_wp2
    go_ret
    refine ⟨ret_int (chk_11 (.inr ⟨by rw [hz.out];exact hx.out,fun e => ?_⟩)).symm,rfl⟩
    have:=congrArg List.length e
    rw [size_len] at this;simp at this;omega
   ·have hc':((s[1].toNat:Int)==48)=false:=by simpa using hc
    clear hc
    have H48:=Lib.hid (fun h:s.data.toList[1]? = some 48=>show s.size≤1 from absurd h (not_48 h2 hc'))
    go_enter Tryz.func142,Tryz.ntmps142
    go_wp2
    go_loop [4] (fun i=>∃ k:Nat,1≤k∧k≤s.size∧i = .int .i64 k∧Hid (((s.data.toList.take k).drop 1).all isDig=true)) (fun i=>s.size - (intOf i).toNat)
    case atStart=>exact ⟨1,Nat.le_refl _,by omega,rfl,by show ((s.data.toList.take 1).drop 1).all isDig=true;rw [List.drop_eq_nil_of_le (List.length_take_le _ _)];rfl⟩
    case round =>
     obtain ⟨k,hk0,hk,rfl,hd⟩:=hrel
     by_cases hlt:k<s.size
     ·by_cases h3:(s[k].toNat:Int)<48
      ·go_wp2
       go_ret
       refine ⟨ret_int (chk_bad ?_).symm,rfl⟩
       rw [hz.out,List.all_eq_false]
       exact ⟨s[k],mem_drop s k 1 hk0 hlt,by rw [isDig_iff];omega⟩
      ·by_cases h4:(57:Int)<s[k].toNat
       ·go_wp2
        go_ret
        refine ⟨ret_int (chk_bad ?_).symm,rfl⟩
        rw [hz.out,List.all_eq_false]
        exact ⟨s[k],mem_drop s k 1 hk0 hlt,by rw [isDig_iff];omega⟩
       ·have hd':Hid (((s.data.toList.take (k+1)).drop 1).all isDig=true):=all_snoc hd.out hk0 hlt (by rw [isDig_iff];omega)
        clear hd
        go_wp2
        go_round
        case rel=>exact ⟨k+1,by omega,by omega,by go_num,hd'⟩
        case measure=>simp [intOf];omega
     ·have hE:Hid (chk s.data.toList=if 300<s.data.toList.length - 1 then 4 else 0):=chk_end hz.out (by have:=hd.out;rwa [List.take_of_length_le (by rw [size_len];omega)] at this) (by rw [size_len];omega) (fun h=>by rw [size_len];exact H48.out h)
      clear hd
      go_wp2
      ·have hy:(300:Int)<s.size - 1:=by omega
       go_ret
       exact ⟨ret_int (by rw [hE.out,if_pos (by rw [size_len];omega)]),rfl⟩
      ·have hy:(s.size:Int) - 1≤300:=by omega
       go_ret
       exact ⟨ret_int (by rw [hE.out,if_neg (by rw [size_len];omega)]),rfl⟩
 ·have hn':isNeg s.data.toList=false:=by simpa using hn
  clear hn
  have hz:=Lib.hid (szL_pos hn')
  by_cases h0:s.size=0
  ·go_enter Tryz.func142,Tryz.ntmps142
   go_wp2
   go_ret
   refine ⟨ret_int (chk_11 (.inl ?_)).symm,rfl⟩
   rw [hz.out,List.drop_eq_nil_iff,size_len];omega
  ·have h2:0<s.size:=by omega
   have h45:((s[0].toNat:Int)==45)=false:=(isNeg_pos h2).trans hn'
   have h1':((0:Int)==s.size)=false:=by rw [beq_eq_false_iff_ne];omega
   clear hn'
   by_cases hc:((s[0].toNat:Int)==48)=true∧1<s.size
   ·obtain ⟨hc,h3⟩:=hc
    have hx:=Lib.hid (head_48 h2 hc)
    go_enter Tryz.func142,Tryz.ntmps142
    go_wp2
    go_ret
    refine ⟨ret_int (chk_11 (.inr ⟨by rw [hz.out];exact hx.out,fun e => ?_⟩)).symm,rfl⟩
    have:=congrArg List.length e
    rw [size_len] at this;simp at this;omega
   ·by_cases hc1:((s[0].toNat:Int)==48)=true
    ·have h3:s.size=1:=by
      have:¬ 1<s.size:=fun h=>hc ⟨hc1,h⟩
      omega
     have h3':¬ (1:Int)<s.size:=by omega
     have H48:=Lib.hid (fun _:s.data.toList[0]? = some 48=>show s.size≤1 by omega)
     clear hc
     go_enter Tryz.func142,Tryz.ntmps142
     go_wp2
     go_loop [4] (fun i=>∃ k:Nat,0≤k∧k≤s.size∧i = .int .i64 k∧Hid (((s.data.toList.take k).drop 0).all isDig=true)) (fun i=>s.size - (intOf i).toNat)
     case atStart=>exact ⟨0,Nat.le_refl _,by omega,rfl,by show ((s.data.toList.take 0).drop 0).all isDig=true;rw [List.drop_eq_nil_of_le (List.length_take_le _ _)];rfl⟩
     case round =>
      obtain ⟨k,hk0,hk,rfl,hd⟩:=hrel
      by_cases hlt:k<s.size
      ·by_cases h3:(s[k].toNat:Int)<48
       ·go_wp2
        go_ret
        refine ⟨ret_int (chk_bad ?_).symm,rfl⟩
        rw [hz.out,List.all_eq_false]
        exact ⟨s[k],mem_drop s k 0 hk0 hlt,by rw [isDig_iff];omega⟩
       ·by_cases h4:(57:Int)<s[k].toNat
        ·go_wp2
         go_ret
         refine ⟨ret_int (chk_bad ?_).symm,rfl⟩
         rw [hz.out,List.all_eq_false]
         exact ⟨s[k],mem_drop s k 0 hk0 hlt,by rw [isDig_iff];omega⟩
        ·have hd':Hid (((s.data.toList.take (k+1)).drop 0).all isDig=true):=all_snoc hd.out hk0 hlt (by rw [isDig_iff];omega)
         clear hd
         go_wp2
         go_round
         case rel=>exact ⟨k+1,by omega,by omega,by go_num,hd'⟩
         case measure=>simp [intOf];omega
      ·have hE:Hid (chk s.data.toList=if 300<s.data.toList.length - 0 then 4 else 0):=chk_end hz.out (by have:=hd.out;rwa [List.take_of_length_le (by rw [size_len];omega)] at this) (by rw [size_len];omega) (fun h=>by rw [size_len];exact H48.out h)
       clear hd
       go_wp2
       go_ret
       exact ⟨ret_int (by rw [hE.out,if_neg (by rw [size_len];omega)]),rfl⟩
    ·have hc':((s[0].toNat:Int)==48)=false:=by simpa using hc1
     clear hc hc1
     have H48:=Lib.hid (fun h:s.data.toList[0]? = some 48=>show s.size≤1 from absurd h (not_48 h2 hc'))
     go_enter Tryz.func142,Tryz.ntmps142
     go_wp2
     go_loop [4] (fun i=>∃ k:Nat,0≤k∧k≤s.size∧i = .int .i64 k∧Hid (((s.data.toList.take k).drop 0).all isDig=true)) (fun i=>s.size - (intOf i).toNat)
     case atStart=>exact ⟨0,Nat.le_refl _,by omega,rfl,by show ((s.data.toList.take 0).drop 0).all isDig=true;rw [List.drop_eq_nil_of_le (List.length_take_le _ _)];rfl⟩
     case round =>
      obtain ⟨k,hk0,hk,rfl,hd⟩:=hrel
      by_cases hlt:k<s.size
      ·by_cases h3:(s[k].toNat:Int)<48
       ·go_wp2
        go_ret
        refine ⟨ret_int (chk_bad ?_).symm,rfl⟩
        rw [hz.out,List.all_eq_false]
        exact ⟨s[k],mem_drop s k 0 hk0 hlt,by rw [isDig_iff];omega⟩
       ·by_cases h4:(57:Int)<s[k].toNat
        ·go_wp2
         go_ret
         refine ⟨ret_int (chk_bad ?_).symm,rfl⟩
         rw [hz.out,List.all_eq_false]
         exact ⟨s[k],mem_drop s k 0 hk0 hlt,by rw [isDig_iff];omega⟩
        ·have hd':Hid (((s.data.toList.take (k+1)).drop 0).all isDig=true):=all_snoc hd.out hk0 hlt (by rw [isDig_iff];omega)
         clear hd
         go_wp2
         go_round
         case rel=>exact ⟨k+1,by omega,by omega,by go_num,hd'⟩
         case measure=>simp [intOf];omega
      ·have hE:Hid (chk s.data.toList=if 300<s.data.toList.length - 0 then 4 else 0):=chk_end hz.out (by have:=hd.out;rwa [List.take_of_length_le (by rw [size_len];omega)] at this) (by rw [size_len];omega) (fun h=>by rw [size_len];exact H48.out h)
       clear hd
       go_wp2
       ·have hy:(300:Int)<s.size:=by omega
        go_ret
        exact ⟨ret_int (by rw [hE.out,if_pos (by rw [size_len];omega)]),rfl⟩
       ·have hy:(s.size:Int)≤300:=by omega
        go_ret
        exact ⟨ret_int (by rw [hE.out,if_neg (by rw [size_len];omega)]),rfl⟩
end Go.Proofs.YteckjifdpcbaeaaGreatDoor
