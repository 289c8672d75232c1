/- Parts of the proof of the text YtjdfjgfdbgmbiaaGreatDoorHB39. -/
import Derived.Test.YtjdfjgfdbgmbiaaGreatDoorHB1
import Derived.Test.YtjdfjgfdbgmbiaaGreatDoorHB6
set_option linter.all false
set_option maxRecDepth 100000
set_option maxHeartbeats 8000000
namespace Go.Proofs.YtjdfjgfdbgmbiaaGreatDoor
open Go.RowKit
def outB (e z:Int):ByteArray:=if e=0 then resB z else ByteArray.empty
def outE (e z:Int):Int:=if e=0 then resE z else e
theorem outB_ok (z:Int):outB 0 z=resB z:=if_pos rfl
theorem outE_ok (z:Int):outE 0 z=resE z:=if_pos rfl
theorem outB_bad {e:Int} (h:e≠0) (z:Int):outB e z=⟨#[]⟩:=if_neg h
theorem outE_bad {e:Int} (h:e≠0) (z:Int):outE e z=e:=if_neg h
theorem chk2_zero {a b:List UInt8} (h:chk2 a b=0):chk a=0∧chk b=0:=by
 unfold chk2 at h;split at h
 ·exact ⟨‹_›, h⟩
 ·exact absurd h ‹_›
theorem chk_size {s:ByteArray} (h:chk s.data.toList=0):s.size≤301:=by
 have h1:(szL s.data.toList).length≤300:=by
  unfold chk at h
  by_cases h1:(szL s.data.toList).all isDig
  ·simp only [h1,Bool.not_true,Bool.false_eq_true,if_false] at h
   split at h
   ·cases h
   ·split at h
    ·cases h
    ·omega
  ·simp only [h1] at h;cases h
 have h2:s.data.toList.length≤(szL s.data.toList).length+1:=by
  unfold szL;split
  ·rw [List.length_tail];omega
  ·omega
 rw [size_len] at h2;omega
theorem lim_big:1000000000000000000000000000000000000000≤lim:=by
 have:tenTo 39≤tenTo 300:=tenTo_mono (by decide)
 have h2:tenTo 39=1000000000000000000000000000000000000000:=by decide
 unfold lim;omega
theorem resB_small {z:Int} (h:z.natAbs<1000000000000000000000000000000000000000):resB z=strB z:=by unfold resB;rw [if_pos (Nat.lt_of_lt_of_le h lim_big)]
theorem resE_small {z:Int} (h:z.natAbs<1000000000000000000000000000000000000000):resE z=0:=by unfold resE;rw [if_pos (Nat.lt_of_lt_of_le h lim_big)]
theorem val_sgn (l:List UInt8):sgnZ (isNeg l) (natOf (szL l))=valOf l:=by rw [valOf_szL];unfold sgnZ;rfl
theorem nat_lim {l:List UInt8} (h:chk l=0):natOf (szL l)<lim:=by
 have:=valOf_lt l h
 rw [valOf_szL] at this;split at this <;> simpa using this
theorem B_tenTo (k:Nat):B ^ k=tenTo (9*k):=B_pow k
theorem lim_B:lim≤B ^ 34:=by
 rw [B_tenTo]
 exact tenTo_mono (by decide)
theorem dg_lim {n:Nat} (h:n<lim):(dg n).length≤34:=(dg_length_le n 34).2 (Nat.lt_of_lt_of_le h lim_B)
theorem dg_sum {a b n:Nat} (ha:a<lim) (hb:b<lim) (h:n≤a+b):(dg n).length≤35:=by
 rw [dg_length_le]
 have h1:=lim_B
 have h2:B ^ 35=B ^ 34*B:=by rw [show (35:Nat)=34+1 from rfl,Nat.pow_succ]
 have h3:B ^ 34*2≤B ^ 34*B:=Nat.mul_le_mul_left _ (by decide)
 omega
theorem dg_mul {a b:Nat} (ha:a<lim) (hb:b<lim):(dg (a*b)).length≤68:=by
 rw [dg_length_le,show B ^ 68=B ^ 34*B ^ 34 from (Nat.pow_add B 34 34)]
 have h1:=lim_B
 exact Nat.mul_lt_mul'' (Nat.lt_of_lt_of_le ha h1) (Nat.lt_of_lt_of_le hb h1)
theorem sgn_mul (na nb:Bool) (a b:Nat):sgnZ (na != nb) (a*b)=sgnZ na a*sgnZ nb b:=by
 unfold sgnZ;cases na <;> cases nb <;> simp [Int.mul_neg,Int.neg_mul]
theorem sgn_not (nb:Bool) (b:Nat):sgnZ (!nb) b = -sgnZ nb b:=by unfold sgnZ;cases nb <;> simp
theorem Add_any (a b:ByteArray) (w:World) (ha:a.size≤maxLen) (hb:b.size≤maxLen) (ht:Tab w) :
  Calls Tryz.prog 128 #[.string a,.string b] w fun e W'=>e = .returned (.tuple #[.string (outB (chk2 a.data.toList b.data.toList) (valOf a.data.toList+valOf b.data.toList)),.int .i64 (outE (chk2 a.data.toList b.data.toList) (valOf a.data.toList+valOf b.data.toList))])∧Below w.heap.size w W':=by
 have cb:=checkBoth_any a b w ha hb
 generalize he:chk2 a.data.toList b.data.toList=e at *
 have CB:=Lib.hid cb;clear cb
 by_cases h0:e=0
 ·subst h0
  obtain ⟨k1,k2⟩:=chk2_zero he
  have s1:=chk_size k1
  have s2:=chk_size k2
  have i1:=fun W=>isShort_any a W ha
  have i2:=fun W=>isShort_any b W hb
  have IS:=Lib.hid (And.intro i1 i2);clear i1 i2
  have HT:=Lib.hid ht
  rw [outB_ok,outE_ok]
  have q1:(a.size:Int)≤18∨¬ (a.size:Int)≤18:=Decidable.em _
  by_cases hsh:a.size≤18∧b.size≤18
  ·obtain ⟨hs1,hs2⟩:=hsh
   have t1:decide ((a.size:Int)≤18)=true:=by simp;omega
   have t2:decide ((b.size:Int)≤18)=true:=by simp;omega
   rw [t1,t2] at IS
   clear q1
   have v1:=valOf_short k1 (by rw [size_len];omega)
   have v2:=valOf_short k2 (by rw [size_len];omega)
   have m1:=fun W=>machine_any a W (by omega) k1
   have m2:=fun W=>machine_any b W (by omega) k2
   have mo:=fun W' (h:Below w.heap.size w W')=>ofMachine_any (valOf a.data.toList+valOf b.data.toList) W' (by omega) (by omega) (HT.out.next h)
   have r1:=resB_small (z:=valOf a.data.toList+valOf b.data.toList) (by omega)
   have r2:=resE_small (z:=valOf a.data.toList+valOf b.data.toList) (by omega)
   rw [r1,r2]
   have MM:=Lib.hid (And.intro m1 (And.intro m2 mo))
   clear m1 m2 mo r1 r2 he k1 k2 ht
   generalize valOf a.data.toList=x at *
   generalize valOf b.data.toList=y at *
   go_enter Tryz.func128,Tryz.ntmps128
   go_wp2_with fail
   refine CB.out.mono ?_
   rintro e w' ⟨rfl,rfl⟩
   clear CB
   go_wp2_with fail
   refine (IS.out.1 _).mono ?_
   rintro e w' ⟨rfl,rfl⟩
   go_wp2_with fail
   refine (IS.out.2 _).mono ?_
   rintro e w' ⟨rfl,rfl⟩
   clear IS
   go_wp2_with fail
   refine (MM.out.1 _).mono ?_
   rintro e w' ⟨rfl,rfl⟩
   go_wp2_with fail
   refine (MM.out.2.1 _).mono ?_
   rintro e w' ⟨rfl,rfl⟩
   go_wp2_with fail
   refine (MM.out.2.2 _ (Below.refl _ _)).mono ?_
   rintro e w' ⟨rfl,hbb⟩
   have HB:=Lib.hid hbb;clear hbb MM
   go_wp2
   go_ret2
   exact ⟨rfl,HB.out⟩
  ·have rr1:=fun W=>read_any a W (by omega) k1
   have rr2:=fun W=>read_any b W (by omega) k2
   have RR:=Lib.hid (And.intro rr1 rr2)
   have NL:=Lib.hid (And.intro (nat_lim k1) (nat_lim k2))
   clear rr1 rr2 he k1 k2 ht
   by_cases hs1:a.size≤18
   case' pos =>
    have t1:decide ((a.size:Int)≤18)=true:=by simp;omega
    have t2:decide ((b.size:Int)≤18)=false:=by simp;omega
    rw [t1,t2] at IS
    clear q1
    go_enter Tryz.func128,Tryz.ntmps128
    go_wp2_with fail
    refine CB.out.mono ?_
    rintro e w' ⟨rfl,rfl⟩
    clear CB
    go_wp2_with fail
    refine (IS.out.1 _).mono ?_
    rintro e w' ⟨rfl,rfl⟩
    go_wp2_with fail
    refine (IS.out.2 _).mono ?_
    rintro e w' ⟨rfl,rfl⟩
   case' neg =>
    have t1:decide ((a.size:Int)≤18)=false:=by simp;omega
    rw [t1] at IS
    clear q1
    go_enter Tryz.func128,Tryz.ntmps128
    go_wp2_with fail
    refine CB.out.mono ?_
    rintro e w' ⟨rfl,rfl⟩
    clear CB
    go_wp2_with fail
    refine (IS.out.1 _).mono ?_
    rintro e w' ⟨rfl,rfl⟩
   all_goals
    go_wp2_with fail
    refine (RR.out.1 _).mono ?_
    rintro e w1 ⟨va,rfl,hva,_,hb1⟩
    have H1:=Lib.hid (And.intro hva hb1);clear hva hb1
    go_wp2_with fail
    refine (RR.out.2 _).mono ?_
    rintro e w2 ⟨vb,rfl,hvb,_,hb2⟩
    have H2:=Lib.hid (And.intro (H1.out.1.next hb2) (And.intro hvb (H1.out.2.trans (hb2.mono H1.out.2.size))));clear hvb hb2 H1
    go_wp2_with fail
    refine (plus_any _ _ _ _ _ _ _ H2.out.1 H2.out.2.1 (Nat.le_trans (dg_lim NL.out.1) (by decide)) (Nat.le_trans (dg_lim NL.out.2) (by decide))).mono ?_
    rintro e w4 ⟨neg,n,v,rfl,hv,hz,_,hb4⟩
    have hzz:sgnZ neg n=valOf a.data.toList+valOf b.data.toList:=by rw [hz.1,val_sgn,val_sgn]
    have H4:=Lib.hid (And.intro hv (H2.out.2.2.trans (hb4.mono H2.out.2.2.size)))
    have ctx:=text_any neg v n w4 hv (Nat.le_trans (dg_sum NL.out.1 NL.out.2 hz.2) (by decide)) (HT.out.next H4.out.2)
    rw [hzz] at ctx
    have CT:=Lib.hid ctx
    clear ctx hv hb4 hz hzz
    go_wp2_with fail
    refine CT.out.mono ?_
    rintro e w5 ⟨rfl,hb5⟩
    have HB:=Lib.hid (H4.out.2.trans (hb5.mono H4.out.2.size));clear hb5 H4 CT
    go_wp2
    go_ret2
    exact ⟨rfl,HB.out⟩
 ·have hn:(e != 0)=true:=by simpa using h0
  rw [outB_bad h0,outE_bad h0]
  clear he ht h0
  go_enter Tryz.func128,Tryz.ntmps128
  go_wp2_with fail
  refine CB.out.mono ?_
  rintro e w' ⟨rfl,rfl⟩
  clear CB
  go_wp2
  go_ret2
  exact ⟨rfl,Below.refl _ _⟩
theorem Sub_any (a b:ByteArray) (w:World) (ha:a.size≤maxLen) (hb:b.size≤maxLen) (ht:Tab w) :
  Calls Tryz.prog 314 #[.string a,.string b] w fun e W'=>e = .returned (.tuple #[.string (outB (chk2 a.data.toList b.data.toList) (valOf a.data.toList - valOf b.data.toList)),.int .i64 (outE (chk2 a.data.toList b.data.toList) (valOf a.data.toList - valOf b.data.toList))])∧Below w.heap.size w W':=by
 have cb:=checkBoth_any a b w ha hb
 generalize he:chk2 a.data.toList b.data.toList=e at *
 have CB:=Lib.hid cb;clear cb
 by_cases h0:e=0
 ·subst h0
  obtain ⟨k1,k2⟩:=chk2_zero he
  have s1:=chk_size k1
  have s2:=chk_size k2
  have i1:=fun W=>isShort_any a W ha
  have i2:=fun W=>isShort_any b W hb
  have IS:=Lib.hid (And.intro i1 i2);clear i1 i2
  have HT:=Lib.hid ht
  rw [outB_ok,outE_ok]
  have q1:(a.size:Int)≤18∨¬ (a.size:Int)≤18:=Decidable.em _
  by_cases hsh:a.size≤18∧b.size≤18
  ·obtain ⟨hs1,hs2⟩:=hsh
   have t1:decide ((a.size:Int)≤18)=true:=by simp;omega
   have t2:decide ((b.size:Int)≤18)=true:=by simp;omega
   rw [t1,t2] at IS
   clear q1
   have v1:=valOf_short k1 (by rw [size_len];omega)
   have v2:=valOf_short k2 (by rw [size_len];omega)
   have m1:=fun W=>machine_any a W (by omega) k1
   have m2:=fun W=>machine_any b W (by omega) k2
   have mo:=fun W' (h:Below w.heap.size w W')=>ofMachine_any (valOf a.data.toList - valOf b.data.toList) W' (by omega) (by omega) (HT.out.next h)
   have r1:=resB_small (z:=valOf a.data.toList - valOf b.data.toList) (by omega)
   have r2:=resE_small (z:=valOf a.data.toList - valOf b.data.toList) (by omega)
   rw [r1,r2]
   have MM:=Lib.hid (And.intro m1 (And.intro m2 mo))
   clear m1 m2 mo r1 r2 he k1 k2 ht
   generalize valOf a.data.toList=x at *
   generalize valOf b.data.toList=y at *
   go_enter Tryz.func314,Tryz.ntmps314
   go_wp2_with fail
   refine CB.out.mono ?_
   rintro e w' ⟨rfl,rfl⟩
   clear CB
   go_wp2_with fail
   refine (IS.out.1 _).mono ?_
   rintro e w' ⟨rfl,rfl⟩
   go_wp2_with fail
   refine (IS.out.2 _).mono ?_
   rintro e w' ⟨rfl,rfl⟩
   clear IS
   go_wp2_with fail
   refine (MM.out.1 _).mono ?_
   rintro e w' ⟨rfl,rfl⟩
   go_wp2_with fail
   refine (MM.out.2.1 _).mono ?_
   rintro e w' ⟨rfl,rfl⟩
   go_wp2_with fail
   refine (MM.out.2.2 _ (Below.refl _ _)).mono ?_
   rintro e w' ⟨rfl,hbb⟩
   have HB:=Lib.hid hbb;clear hbb MM
   go_wp2
   go_ret2
   exact ⟨rfl,HB.out⟩
  ·have rr1:=fun W=>read_any a W (by omega) k1
   have rr2:=fun W=>read_any b W (by omega) k2
   have RR:=Lib.hid (And.intro rr1 rr2)
   have NL:=Lib.hid (And.intro (nat_lim k1) (nat_lim k2))
   clear rr1 rr2 he k1 k2 ht
   by_cases hs1:a.size≤18
   case' pos =>
    have t1:decide ((a.size:Int)≤18)=true:=by simp;omega
    have t2:decide ((b.size:Int)≤18)=false:=by simp;omega
    rw [t1,t2] at IS
    clear q1
    go_enter Tryz.func314,Tryz.ntmps314
    go_wp2_with fail
    refine CB.out.mono ?_
    rintro e w' ⟨rfl,rfl⟩
    clear CB
    go_wp2_with fail
    refine (IS.out.1 _).mono ?_
    rintro e w' ⟨rfl,rfl⟩
    go_wp2_with fail
    refine (IS.out.2 _).mono ?_
    rintro e w' ⟨rfl,rfl⟩
   case' neg =>
    have t1:decide ((a.size:Int)≤18)=false:=by simp;omega
    rw [t1] at IS
    clear q1
    go_enter Tryz.func314,Tryz.ntmps314
    go_wp2_with fail
    refine CB.out.mono ?_
    rintro e w' ⟨rfl,rfl⟩
    clear CB
    go_wp2_with fail
    refine (IS.out.1 _).mono ?_
    rintro e w' ⟨rfl,rfl⟩
   all_goals
    go_wp2_with fail
    refine (RR.out.1 _).mono ?_
    rintro e w1 ⟨va,rfl,hva,_,hb1⟩
    have H1:=Lib.hid (And.intro hva hb1);clear hva hb1
    go_wp2_with fail
    refine (RR.out.2 _).mono ?_
    rintro e w2 ⟨vb,rfl,hvb,_,hb2⟩
    have H2:=Lib.hid (And.intro (H1.out.1.next hb2) (And.intro hvb (H1.out.2.trans (hb2.mono H1.out.2.size))));clear hvb hb2 H1
    go_wp2_with fail
    refine (opposite_any _ _ _ _ H2.out.2.1).mono ?_
    rintro e w3 ⟨rfl,hb3⟩
    have H3:=Lib.hid (And.intro (H2.out.1.next hb3) (And.intro (H2.out.2.1.next hb3) (H2.out.2.2.trans (hb3.mono H2.out.2.2.size))));clear hb3 H2
    go_wp2_with fail
    refine (plus_any _ _ _ _ _ _ _ H3.out.1 H3.out.2.1 (Nat.le_trans (dg_lim NL.out.1) (by decide)) (Nat.le_trans (dg_lim NL.out.2) (by decide))).mono ?_
    rintro e w4 ⟨neg,n,v,rfl,hv,hz,_,hb4⟩
    have hzz:sgnZ neg n=valOf a.data.toList - valOf b.data.toList:=by rw [hz.1,sgn_not,val_sgn,val_sgn];omega
    have H4:=Lib.hid (And.intro hv (H3.out.2.2.trans (hb4.mono H3.out.2.2.size)))
    have ctx:=text_any neg v n w4 hv (Nat.le_trans (dg_sum NL.out.1 NL.out.2 hz.2) (by decide)) (HT.out.next H4.out.2)
    rw [hzz] at ctx
    have CT:=Lib.hid ctx
    clear ctx hv hb4 hz hzz
    go_wp2_with fail
    refine CT.out.mono ?_
    rintro e w5 ⟨rfl,hb5⟩
    have HB:=Lib.hid (H4.out.2.trans (hb5.mono H4.out.2.size));clear hb5 H4 CT
    go_wp2
    go_ret2
    exact ⟨rfl,HB.out⟩
 ·have hn:(e != 0)=true:=by simpa using h0
  rw [outB_bad h0,outE_bad h0]
  clear he ht h0
  go_enter Tryz.func314,Tryz.ntmps314
  go_wp2_with fail
  refine CB.out.mono ?_
  rintro e w' ⟨rfl,rfl⟩
  clear CB
  go_wp2
  go_ret2
  exact ⟨rfl,Below.refl _ _⟩
theorem short_prod {a b:ByteArray} (ka:chk a.data.toList=0) (kb:chk b.data.toList=0) (h:a.size+b.size≤18) :
  -1000000000000000000<valOf a.data.toList*valOf b.data.toList∧valOf a.data.toList*valOf b.data.toList<1000000000000000000:=by
 have h1:=natOf_lt _ (chk_dig ka)
 have h2:=natOf_lt _ (chk_dig kb)
 have l1:=szL_length a.data.toList
 have l2:=szL_length b.data.toList
 rw [size_len] at l1 l2
 have h3:natOf (szL a.data.toList)*natOf (szL b.data.toList)<10 ^ 18:=by
  refine Nat.lt_of_lt_of_le (Nat.mul_lt_mul'' h1 h2) ?_
  rw [←Nat.pow_add]
  exact Nat.pow_le_pow_right (by decide) (by omega)
 have h4:(valOf a.data.toList*valOf b.data.toList).natAbs=natOf (szL a.data.toList)*natOf (szL b.data.toList):=by
  rw [Int.natAbs_mul,valOf_szL,valOf_szL]
  congr 1 <;> split <;> simp
 omega
theorem Mul_any (a b:ByteArray) (w:World) (ha:a.size≤maxLen) (hb:b.size≤maxLen) (ht:Tab w) :
  Calls Tryz.prog 162 #[.string a,.string b] w fun e W'=>e = .returned (.tuple #[.string (outB (chk2 a.data.toList b.data.toList) (valOf a.data.toList*valOf b.data.toList)),.int .i64 (outE (chk2 a.data.toList b.data.toList) (valOf a.data.toList*valOf b.data.toList))])∧Below w.heap.size w W':=by
 have cb:=checkBoth_any a b w ha hb
 generalize he:chk2 a.data.toList b.data.toList=e at *
 have CB:=Lib.hid cb;clear cb
 by_cases h0:e=0
 ·subst h0
  obtain ⟨k1,k2⟩:=chk2_zero he
  have s1:=chk_size k1
  have s2:=chk_size k2
  have i1:=fun W=>isShort_any a W ha
  have i2:=fun W=>isShort_any b W hb
  have IS:=Lib.hid (And.intro i1 i2);clear i1 i2
  have HT:=Lib.hid ht
  rw [outB_ok,outE_ok]
  by_cases hsh:a.size+b.size≤18
  ·have hs1:a.size≤18:=by omega
   have hs2:b.size≤18:=by omega
   have hsi:(a.size:Int)+b.size≤18:=by omega
   have hprod:=short_prod k1 k2 hsh
   have v1:=valOf_short k1 (by rw [size_len];omega)
   have v2:=valOf_short k2 (by rw [size_len];omega)
   have m1:=fun W=>machine_any a W (by omega) k1
   have m2:=fun W=>machine_any b W (by omega) k2
   have mo:=fun W' (h:Below w.heap.size w W')=>ofMachine_any (valOf a.data.toList*valOf b.data.toList) W' (by omega) (by omega) (HT.out.next h)
   have r1:=resB_small (z:=valOf a.data.toList*valOf b.data.toList) (by omega)
   have r2:=resE_small (z:=valOf a.data.toList*valOf b.data.toList) (by omega)
   rw [r1,r2]
   have MM:=Lib.hid (And.intro m1 (And.intro m2 mo))
   clear m1 m2 mo r1 r2 he k1 k2 ht
   generalize valOf a.data.toList=x at *
   generalize valOf b.data.toList=y at *
   go_enter Tryz.func162,Tryz.ntmps162
   go_wp2_with fail
   refine CB.out.mono ?_
   rintro e w' ⟨rfl,rfl⟩
   clear CB
   go_wp2_with fail
   refine (MM.out.1 _).mono ?_
   rintro e w' ⟨rfl,rfl⟩
   go_wp2_with fail
   refine (MM.out.2.1 _).mono ?_
   rintro e w' ⟨rfl,rfl⟩
   go_wp2_with fail
   refine (MM.out.2.2 _ (Below.refl _ _)).mono ?_
   rintro e w' ⟨rfl,hbb⟩
   have HB:=Lib.hid hbb;clear hbb MM
   go_wp2
   go_ret2
   exact ⟨rfl,HB.out⟩
  ·have rr1:=fun W=>read_any a W (by omega) k1
   have rr2:=fun W=>read_any b W (by omega) k2
   have RR:=Lib.hid (And.intro rr1 rr2)
   have NL:=Lib.hid (And.intro (nat_lim k1) (nat_lim k2))
   clear rr1 rr2 he k1 k2 ht
   have hsi:¬ (a.size:Int)+b.size≤18:=by omega
   go_enter Tryz.func162,Tryz.ntmps162
   go_wp2_with fail
   refine CB.out.mono ?_
   rintro e w' ⟨rfl,rfl⟩
   clear CB
   go_wp2_with fail
   refine (RR.out.1 _).mono ?_
   rintro e w1 ⟨va,rfl,hva,_,hb1⟩
   have H1:=Lib.hid (And.intro hva hb1);clear hva hb1
   go_wp2_with fail
   refine (RR.out.2 _).mono ?_
   rintro e w2 ⟨vb,rfl,hvb,_,hb2⟩
   have H2:=Lib.hid (And.intro (H1.out.1.next hb2) (And.intro hvb (H1.out.2.trans (hb2.mono H1.out.2.size))));clear hvb hb2 H1
   go_wp2_with fail
   refine (times_any _ _ _ _ _ _ _ H2.out.1 H2.out.2.1 (Nat.le_trans (dg_lim NL.out.1) (by decide)) (Nat.le_trans (dg_lim NL.out.2) (by decide))).mono ?_
   rintro e w4 ⟨v,rfl,hv,_,hb4⟩
   have hzz:sgnZ (isNeg a.data.toList != isNeg b.data.toList) (natOf (szL a.data.toList)*natOf (szL b.data.toList))=valOf a.data.toList*valOf b.data.toList:=by rw [sgn_mul,val_sgn,val_sgn]
   have H4:=Lib.hid (And.intro hv (H2.out.2.2.trans (hb4.mono H2.out.2.2.size)))
   have ctx:=text_any (isNeg a.data.toList != isNeg b.data.toList) v _ w4 hv (Nat.le_trans (dg_mul NL.out.1 NL.out.2) (by decide)) (HT.out.next H4.out.2)
   rw [hzz] at ctx
   have CT:=Lib.hid ctx
   clear ctx hv hb4 hzz
   go_wp2_with fail
   refine CT.out.mono ?_
   rintro e w5 ⟨rfl,hb5⟩
   have HB:=Lib.hid (H4.out.2.trans (hb5.mono H4.out.2.size));clear hb5 H4 CT
   go_wp2
   go_ret2
   exact ⟨rfl,HB.out⟩
 ·have hn:(e != 0)=true:=by simpa using h0
  rw [outB_bad h0,outE_bad h0]
  clear he ht h0
  go_enter Tryz.func162,Tryz.ntmps162
  go_wp2_with fail
  refine CB.out.mono ?_
  rintro e w' ⟨rfl,rfl⟩
  clear CB
  go_wp2
  go_ret2
  exact ⟨rfl,Below.refl _ _⟩
theorem natOf_cons (c:UInt8) (t:List UInt8):natOf (c::t)=(c.toNat - 48)*10 ^ t.length+natOf t:=by
 have h:=natOf_append [c] t
 rw [List.singleton_append] at h
 rw [h]
 show (0*10+(c.toNat - 48))*_+_=_
 rw [Nat.zero_mul,Nat.zero_add]
theorem cmpN_cons {x y p q r:Nat} (hp:p<r) (hq:q<r):cmpN (x*r+p) (y*r+q)=if x<y then -1 else if y<x then 1 else cmpN p q:=by
 by_cases h:x<y
 ·have h1:x*r+r≤y*r:=by rw [←Nat.succ_mul];exact Nat.mul_le_mul_right r h
  rw [if_pos h,cmpN_lt (by omega)]
 ·rw [if_neg h]
  by_cases h2:y<x
  ·have h1:y*r+r≤x*r:=by rw [←Nat.succ_mul];exact Nat.mul_le_mul_right r h2
   rw [if_pos h2,cmpN_gt (by omega)]
  ·have:x=y:=by omega
   subst this
   rw [if_neg h2]
   unfold cmpN
   simp only [Nat.add_lt_add_iff_left]
theorem cmpBytes:∀ (l m:List UInt8),l.length=m.length→(∀ c∈l,isDig c=true)→(∀ c∈m,isDig c=true)→Lib.compareBytes l m=cmpN (natOf l) (natOf m)
 | [],[],_,_,_=>rfl
 | [],_::_,h,_,_=>by simp at h
 | _::_,[],h,_,_=>by simp at h
 | a::l,b::m,h,h1,h2=>by
  have hl:l.length=m.length:=by simpa using h
  have ih:=cmpBytes l m hl (fun c hc=>h1 c (by simp [hc])) (fun c hc=>h2 c (by simp [hc]))
  have da:=(isDig_iff a).1 (h1 a (by simp))
  have db:=(isDig_iff b).1 (h2 b (by simp))
  have p:=natOf_lt l (fun c hc=>h1 c (by simp [hc]))
  have q:=natOf_lt m (fun c hc=>h2 c (by simp [hc]))
  rw [natOf_cons,natOf_cons,←hl,cmpN_cons p (by rw [hl];exact q),←ih]
  show (if a<b then (-1:Int) else if b<a then 1 else Lib.compareBytes l m)=_
  have e1:(a<b)↔(a.toNat - 48<b.toNat - 48):=by rw [UInt8.lt_iff_toNat_lt];omega
  have e2:(b<a)↔(b.toNat - 48<a.toNat - 48):=by rw [UInt8.lt_iff_toNat_lt];omega
  simp only [e1,e2]
theorem cmp_sizes {l m:List UInt8} {x y:Nat} (hl:l=Lib.decDigits x) (hm:m=Lib.decDigits y) (h:l.length≠m.length):cmpN x y=cmpN l.length m.length:=by
 subst hl hm
 rw [Lib.decDigits_length,Lib.decDigits_length] at *
 have key:∀ u v,Lib.nDigits u<Lib.nDigits v→u<v:=fun u v h=>by
  have h1:=Lib.lt_pow_nDigits u
  have h2:=(nDigits_le_iff v (Lib.nDigits u) (Lib.nDigits_pos u))
  have h3:¬ v<10 ^ Lib.nDigits u:=fun hc=>by have:=h2.2 hc;omega
  omega
 rcases Nat.lt_or_gt_of_ne h with h | h
 ·rw [cmpN_lt h,cmpN_lt (key _ _ h)]
 ·rw [cmpN_gt h,cmpN_gt (key _ _ h)]
theorem compareSizes_any (a b:ByteArray) (x y:Nat) (w:World) (ha:a.data.toList=Lib.decDigits x) (hb:b.data.toList=Lib.decDigits y) (_sa:a.size≤1000000) (_sb:b.size≤1000000) :
  Calls Tryz.prog 313 #[.string a,.string b] w fun e W'=>e = .returned (.int .i64 (cmpN x y))∧w=W':=by
 by_cases hne:a.size=b.size
 ·have hc:Lib.compareBytes a.data.toList b.data.toList=cmpN x y:=by
   rw [cmpBytes _ _ (by rw [size_len,size_len];exact hne) (by rw [ha];exact decDigits_dig x) (by rw [hb];exact decDigits_dig y),ha,hb,natOf_dec,natOf_dec]
  have HC:=Lib.hid hc;clear hc ha hb
  have hq:((a.size:Int) != b.size)=false:=by rw [hne];simp
  clear hne
  go_enter Tryz.func313,Tryz.ntmps313
  go_wp2_with fail
  refine (Tryz.strings_Compare a b _).mono ?_
  rintro e w' ⟨rfl,rfl⟩
  go_wp2
  go_ret
  exact ⟨ret_int HC.out,rfl⟩
 ·have hc:Lib.compareInt (a.size:Int) (b.size:Int)=cmpN x y:=by
   rw [cmpInt_eq,cmp_sizes ha hb (by rw [size_len,size_len];exact hne),size_len,size_len]
  have HC:=Lib.hid hc;clear hc ha hb
  have hq:((a.size:Int) != b.size)=true:=by rw [bne_iff_ne];omega
  clear hne
  go_enter Tryz.func313,Tryz.ntmps313
  go_wp2_with fail
  refine (Tryz.cmp_Compare_int _ _ _).mono ?_
  rintro e w' ⟨rfl,rfl⟩
  go_wp2
  go_ret
  exact ⟨ret_int HC.out,rfl⟩
def cmpZ (x y:Int):Int:=if x<y then -1 else if y<x then 1 else 0
theorem szL_dec {l:List UInt8} (h:chk l=0):szL l=Lib.decDigits (natOf (szL l)):=by
 have h1:=itoa_valOf l h
 have h2:=szL_itoa (valOf l)
 rw [h1] at h2
 rw [h2,natOf_dec]
theorem isNeg_val {l:List UInt8} (h:chk l=0):isNeg l=decide (valOf l<0):=by
 have:=head_itoa_neg (valOf l)
 rwa [itoa_valOf l h] at this
theorem cmpN_Z (x y:Nat):cmpN x y=cmpZ x y:=by
 rcases Nat.lt_trichotomy x y with h | h | h
 ·rw [cmpN_lt h];unfold cmpZ;rw [if_pos (by omega)]
 ·rw [cmpN_eq h];unfold cmpZ;rw [if_neg (by omega),if_neg (by omega)]
 ·rw [cmpN_gt h];unfold cmpZ;rw [if_neg (by omega),if_pos (by omega)]
theorem cmpZ_neg (x y:Int):cmpZ (-x) (-y)=cmpZ y x:=by
 unfold cmpZ
 by_cases h:y<x
 ·rw [if_pos (by omega),if_pos h]
 ·rw [if_neg (by omega),if_neg h]
  by_cases h2:x<y
  ·rw [if_pos (by omega),if_pos h2]
  ·rw [if_neg (by omega),if_neg h2]
theorem Compare_any (a b:ByteArray) (w:World) (ha:a.size≤maxLen) (hb:b.size≤maxLen) :
  Calls Tryz.prog 310 #[.string a,.string b] w fun e W'=>e = .returned (.tuple #[.int .i64 (if chk2 a.data.toList b.data.toList=0 then cmpZ (valOf a.data.toList) (valOf b.data.toList) else 0),.int .i64 (chk2 a.data.toList b.data.toList)])∧w=W':=by
 have cb:=checkBoth_any a b w ha hb
 generalize he:chk2 a.data.toList b.data.toList=e at *
 have CB:=Lib.hid cb;clear cb
 by_cases h0:e=0
 ·subst h0
  rw [if_pos rfl]
  obtain ⟨k1,k2⟩:=chk2_zero he
  have s1:=chk_size k1
  have s2:=chk_size k2
  have NA:=Lib.hid (fun W=>isNegative_any a W)
  have NB:=Lib.hid (fun W=>isNegative_any b W)
  have n1:=isNeg_val k1
  have n2:=isNeg_val k2
  have vA:=valOf_szL a.data.toList
  have vB:=valOf_szL b.data.toList
  have d1:(szB a).data.toList=Lib.decDigits (natOf (szL a.data.toList)):=by rw [szB_data];exact szL_dec k1
  have d2:(szB b).data.toList=Lib.decDigits (natOf (szL b.data.toList)):=by rw [szB_data];exact szL_dec k2
  have z1:=szB_size a
  have z2:=szB_size b
  cases na:isNeg a.data.toList <;> cases nb:isNeg b.data.toList
  ·-- both not negative
   rw [na] at NA n1 vA;rw [nb] at NB n2 vB
   have cs:=fun W=>compareSizes_any a b (natOf (szL a.data.toList)) (natOf (szL b.data.toList)) W (by rw [←d1];unfold szB;rw [na];rfl) (by rw [←d2];unfold szB;rw [nb];rfl) (by omega) (by omega)
   have hz:cmpN (natOf (szL a.data.toList)) (natOf (szL b.data.toList))=cmpZ (valOf a.data.toList) (valOf b.data.toList):=by
    rw [cmpN_Z,vA,vB];rfl
   have HS:=Lib.hid (And.intro cs hz)
   clear n1 n2 vA vB d1 d2 cs hz na nb he k1 k2 z1 z2
   go_enter Tryz.func310,Tryz.ntmps310
   go_wp2_with fail
   refine CB.out.mono ?_
   rintro e w' ⟨rfl,rfl⟩
   go_wp2_with fail
   refine (NA.out _).mono ?_
   rintro e w' ⟨rfl,rfl⟩
   go_wp2_with fail
   refine (NA.out _).mono ?_
   rintro e w' ⟨rfl,rfl⟩
   go_wp2_with fail
   refine (NB.out _).mono ?_
   rintro e w' ⟨rfl,rfl⟩
   go_wp2_with fail
   refine (HS.out.1 _).mono ?_
   rintro e w' ⟨rfl,rfl⟩
   go_wp2
   go_ret2
   exact ⟨ret_two HS.out.2 rfl,rfl⟩
  ·rw [na] at NA n1;rw [nb] at NB n2
   have hz:cmpZ (valOf a.data.toList) (valOf b.data.toList)=1:=by
    have x1:¬ valOf a.data.toList<0:=by simpa using n1.symm
    have x2:valOf b.data.toList<0:=by simpa using n2.symm
    unfold cmpZ;rw [if_neg (by omega),if_pos (by omega)]
   have HS:=Lib.hid hz
   clear n1 n2 vA vB d1 d2 hz na nb he k1 k2 z1 z2
   go_enter Tryz.func310,Tryz.ntmps310
   go_wp2_with fail
   refine CB.out.mono ?_
   rintro e w' ⟨rfl,rfl⟩
   go_wp2_with fail
   refine (NA.out _).mono ?_
   rintro e w' ⟨rfl,rfl⟩
   go_wp2_with fail
   refine (NA.out _).mono ?_
   rintro e w' ⟨rfl,rfl⟩
   go_wp2_with fail
   refine (NB.out _).mono ?_
   rintro e w' ⟨rfl,rfl⟩
   go_wp2
   go_ret2
   exact ⟨ret_two HS.out.symm rfl,rfl⟩
  ·rw [na] at NA n1;rw [nb] at NB n2
   have hz:cmpZ (valOf a.data.toList) (valOf b.data.toList) = -1:=by
    have x1:valOf a.data.toList<0:=by simpa using n1.symm
    have x2:¬ valOf b.data.toList<0:=by simpa using n2.symm
    unfold cmpZ;rw [if_pos (by omega)]
   have HS:=Lib.hid hz
   clear n1 n2 vA vB d1 d2 hz na nb he k1 k2 z1 z2
   go_enter Tryz.func310,Tryz.ntmps310
   go_wp2_with fail
   refine CB.out.mono ?_
   rintro e w' ⟨rfl,rfl⟩
   go_wp2_with fail
   refine (NA.out _).mono ?_
   rintro e w' ⟨rfl,rfl⟩
   go_wp2_with fail
   refine (NB.out _).mono ?_
   rintro e w' ⟨rfl,rfl⟩
   go_wp2_with fail
   refine (NA.out _).mono ?_
   rintro e w' ⟨rfl,rfl⟩
   go_wp2
   go_ret2
   exact ⟨ret_two HS.out.symm rfl,rfl⟩
  ·rw [na] at NA vA;rw [nb] at NB vB
   have cs:=fun W=>compareSizes_any (szB b) (szB a) (natOf (szL b.data.toList)) (natOf (szL a.data.toList)) W d2 d1 (by omega) (by omega)
   have hz:cmpN (natOf (szL b.data.toList)) (natOf (szL a.data.toList))=cmpZ (valOf a.data.toList) (valOf b.data.toList):=by
    rw [cmpN_Z,vA,vB,if_pos rfl,if_pos rfl,cmpZ_neg]
   have HS:=Lib.hid (And.intro cs hz)
   clear n1 n2 vA vB d1 d2 cs hz na nb he k1 k2 z1 z2
   go_enter Tryz.func310,Tryz.ntmps310
   go_wp2_with fail
   refine CB.out.mono ?_
   rintro e w' ⟨rfl,rfl⟩
   go_wp2_with fail
   refine (NA.out _).mono ?_
   rintro e w' ⟨rfl,rfl⟩
   go_wp2_with fail
   refine (NB.out _).mono ?_
   rintro e w' ⟨rfl,rfl⟩
   go_wp2_with fail
   refine (sizeText_any b _ hb).mono ?_
   rintro e w' ⟨rfl,rfl⟩
   go_wp2_with fail
   refine (sizeText_any a _ ha).mono ?_
   rintro e w' ⟨rfl,rfl⟩
   go_wp2_with fail
   refine (HS.out.1 _).mono ?_
   rintro e w' ⟨rfl,rfl⟩
   go_wp2
   go_ret2
   exact ⟨ret_two HS.out.2 rfl,rfl⟩
 ·have hn:(e != 0)=true:=by simpa using h0
  rw [if_neg h0]
  clear he h0
  go_enter Tryz.func310,Tryz.ntmps310
  go_wp2_with fail
  refine CB.out.mono ?_
  rintro e w' ⟨rfl,rfl⟩
  clear CB
  go_wp2
  go_ret2
  exact ⟨rfl,rfl⟩
theorem root_small (v:Value) (n:Nat) (w:World) (h:IsNat w v n) (hn:n<1000000000000000000) :
  Calls Tryz.prog 170 #[v] w fun e W'=>∃ v',e = .returned v'∧IsNat W' v' (rootN n)∧Fresh w.heap.size v'∧Below w.heap.size w W':=by
 have c1:=natMachine_any v n w h hn
 have hr:rootN n≤n:=by
  have:=(rootN_is n).1
  by_cases h0:rootN n=0
  ·omega
  ·exact Nat.le_trans (Nat.le_mul_of_pos_left _ (by omega)) this
 have c2:=rootMachine_any n w hn
 have c3:=ofValue_any (rootN n) w (by omega)
 have hl:(dg n).length≤2:=(dg_length_le n 2).2 (by rw [show B ^ 2=1000000000000000000 from rfl];exact hn)
 obtain ⟨p,cap,rfl,_⟩:=id h
 have C:=Lib.hid (And.intro c1 (And.intro c2 c3));clear c1 c2 c3 hr h
 generalize (dg n).length=l at *
 generalize rootN n=r at *
 have hl':(l:Int)≤2:=by omega
 go_enter Tryz.func170,Tryz.ntmps170
 go_wp2_with fail
 refine C.out.1.mono ?_
 rintro e w' ⟨rfl,rfl⟩
 go_wp2_with fail
 refine C.out.2.1.mono ?_
 rintro e w' ⟨rfl,rfl⟩
 go_wp2_with fail
 refine C.out.2.2.mono ?_
 rintro e w' ⟨v,rfl,hh⟩
 have H:=Lib.hid hh;clear hh C
 go_wp2
 go_ret
 exact ⟨v,rfl,H.out⟩
theorem Below.drewN' {w:World} (n:Nat):Below w.heap.size w (w.drewN n):=⟨rfl,rfl,rfl,Nat.le_refl _,fun _ _=>rfl⟩
theorem fdiv_bd (a b:Int) (hb:b≠0) (ha : -1000000000000000000<a) (ha':a<1000000000000000000) : -1000000000000000001<a.fdiv b∧a.fdiv b<1000000000000000001:=by
 have h:=tdiv_bd a b ha ha'
 by_cases h0:a.tmod b=0∨((a.tmod b<0)↔(b<0))
 ·rw [(fdiv_same hb h0).1];omega
 ·rw [not_or] at h0;rw [(fdiv_other hb h0.1 h0.2).1];omega
theorem fmod_bd (a b:Int) (hb:b≠0) (h1 : -1000000000000000000<b) (h2:b<1000000000000000000) : -1000000000000000000<a.fmod b∧a.fmod b<1000000000000000000:=by
 have h:=tmod_lt a b hb
 by_cases h0:a.tmod b=0∨((a.tmod b<0)↔(b<0))
 ·rw [(fdiv_same hb h0).2];omega
 ·rw [not_or] at h0;rw [(fdiv_other hb h0.1 h0.2).2];omega
theorem Divide_small (a b:ByteArray) (w:World) (k1:chk a.data.toList=0) (k2:chk b.data.toList=0) (h0:valOf b.data.toList≠0) (s1:a.size≤18) (s2:b.size≤18) (ht:Tab w) :
  Calls Tryz.prog 132 #[.string a,.string b] w fun e W'=>e = .returned (.tuple #[.string (strB ((valOf a.data.toList).fdiv (valOf b.data.toList))),.string (strB ((valOf a.data.toList).fmod (valOf b.data.toList))),.int .i64 0])∧Below w.heap.size w W':=by
 have cb:=checkBoth_any a b w (by unfold maxLen;omega) (by unfold maxLen;omega)
 have hc2:chk2 a.data.toList b.data.toList=0:=by unfold chk2;rw [if_pos k1];exact k2
 rw [hc2] at cb
 have hb48:(b.toList == [48])=false:=by
  rw [ByteArray.toList_eq,beq_eq_false_iff_ne]
  intro e;rw [e] at h0;exact h0 rfl
 have i1:=fun W=>isShort_any a W (by unfold maxLen;omega)
 have i2:=fun W=>isShort_any b W (by unfold maxLen;omega)
 have t1:decide ((a.size:Int)≤18)=true:=by simp;omega
 have t2:decide ((b.size:Int)≤18)=true:=by simp;omega
 rw [t1] at i1;rw [t2] at i2
 have m1:=fun W=>machine_any a W s1 k1
 have m2:=fun W=>machine_any b W s2 k2
 have v1:=valOf_short k1 (by rw [size_len];exact s1)
 have v2:=valOf_short k2 (by rw [size_len];exact s2)
 generalize valOf a.data.toList=x at *
 generalize valOf b.data.toList=y at *
 have dm:=fun W=>divideMachine_any x y W v1.1 v1.2 v2.1 v2.2 h0
 have q:=fdiv_bd x y h0 v1.1 v1.2
 have r:=fmod_bd x y h0 v2.1 v2.2
 generalize x.fdiv y=d at *
 generalize x.fmod y=m at *
 have o1:=fun W (h:Below w.heap.size w W)=>ofMachine_any d W (by omega) (by omega) (ht.next h)
 have o2:=fun W (h:Below w.heap.size w W)=>ofMachine_any m W (by omega) (by omega) (ht.next h)
 have C:=Lib.hid (And.intro cb (And.intro i1 (And.intro i2 (And.intro m1 (And.intro m2 (And.intro dm (And.intro o1 o2)))))))
 clear cb i1 i2 m1 m2 dm o1 o2 v1 v2 q r t1 t2 hc2 h0 ht k1 k2
 go_enter Tryz.func132,Tryz.ntmps132
 go_wp2_with fail
 refine C.out.1.mono ?_
 rintro e w' ⟨rfl,rfl⟩
 go_wp2_with fail
 refine (C.out.2.1 _).mono ?_
 rintro e w' ⟨rfl,rfl⟩
 go_wp2_with fail
 refine (C.out.2.2.1 _).mono ?_
 rintro e w' ⟨rfl,rfl⟩
 go_wp2_with fail
 refine (C.out.2.2.2.1 _).mono ?_
 rintro e w' ⟨rfl,rfl⟩
 go_wp2_with fail
 refine (C.out.2.2.2.2.1 _).mono ?_
 rintro e w' ⟨rfl,rfl⟩
 go_wp2_with fail
 refine (C.out.2.2.2.2.2.1 _).mono ?_
 rintro e w' ⟨rfl,nn,rfl⟩
 go_wp2_with fail
 refine (C.out.2.2.2.2.2.2.1 _ (Below.drewN' nn)).mono ?_
 rintro e w1 ⟨rfl,b1⟩
 have H1:=Lib.hid ((Below.drewN' nn).trans (show Below w.heap.size (w.drewN nn) w1 from b1));clear b1
 go_wp2_with fail
 refine (C.out.2.2.2.2.2.2.2 _ H1.out).mono ?_
 rintro e w2 ⟨rfl,b2⟩
 have H2:=Lib.hid (H1.out.trans (b2.mono H1.out.size));clear b2 H1 C
 go_wp2
 go_ret3
 exact ⟨rfl,H2.out⟩
theorem str_of (z:Int) (l:List UInt8) (h:Lib.itoa z=l):strB z=⟨l.toArray⟩:=by unfold strB;rw [h]
theorem Itoa_any (z:Int) (w:World) (h0 : -9223372036854775808≤z) (h1:z≤9223372036854775807) (ht:Tab w) :
  Calls Tryz.prog 62 #[.int .i64 z] w fun e w'=>e = .returned (.string (strB z))∧Below w.heap.size w w' :=
 (Tryz.strconv_Itoa z h0 h1 w ht).mono fun e w' ⟨he,k,os,hw⟩=>⟨he,by rw [hw];exact Lib.below_grow _ _ (Nat.le_refl _) _ _⟩
theorem strB_chk {z:Int} (h:z.natAbs<lim):chk (strB z).data.toList=0:=by rw [strB_data,chk_itoa,if_pos h]
theorem strB_val (z:Int):valOf (strB z).data.toList=z:=by rw [strB_data,valOf_itoa]
theorem strB_size {z:Int} (h:z.natAbs<lim):(strB z).size≤301:=chk_size (strB_chk h)
theorem strB_chk2 {x y:Int} (hx:x.natAbs<lim) (hy:y.natAbs<lim):chk2 (strB x).data.toList (strB y).data.toList=0:=by unfold chk2;rw [if_pos (strB_chk hx),strB_chk hy]
theorem small_lim {z:Int} (h:z.natAbs<1000000000000000000000000000000000000000):z.natAbs<lim:=Nat.lt_of_lt_of_le h lim_big
theorem Add_str (x y:Int) (w:World) (hx:x.natAbs<lim) (hy:y.natAbs<lim) (hz:(x+y).natAbs<lim) (ht:Tab w) :
  Calls Tryz.prog 128 #[.string (strB x),.string (strB y)] w fun e W'=>e = .returned (.tuple #[.string (strB (x+y)),.int .i64 0])∧Below w.heap.size w W':=by
 have c:=Add_any (strB x) (strB y) w (by have:=strB_size hx;unfold maxLen;omega) (by have:=strB_size hy;unfold maxLen;omega) ht
 rw [strB_chk2 hx hy,strB_val,strB_val,outB_ok,outE_ok] at c
 unfold resB resE at c
 rwa [if_pos hz,if_pos hz] at c
theorem Mul_str (x y:Int) (w:World) (hx:x.natAbs<lim) (hy:y.natAbs<lim) (hz:(x*y).natAbs<lim) (ht:Tab w) :
  Calls Tryz.prog 162 #[.string (strB x),.string (strB y)] w fun e W'=>e = .returned (.tuple #[.string (strB (x*y)),.int .i64 0])∧Below w.heap.size w W':=by
 have c:=Mul_any (strB x) (strB y) w (by have:=strB_size hx;unfold maxLen;omega) (by have:=strB_size hy;unfold maxLen;omega) ht
 rw [strB_chk2 hx hy,strB_val,strB_val,outB_ok,outE_ok] at c
 unfold resB resE at c
 rwa [if_pos hz,if_pos hz] at c
theorem Compare_str (x y:Int) (w:World) (hx:x.natAbs<lim) (hy:y.natAbs<lim) :
  Calls Tryz.prog 310 #[.string (strB x),.string (strB y)] w fun e W'=>e = .returned (.tuple #[.int .i64 (cmpZ x y),.int .i64 0])∧w=W':=by
 have c:=Compare_any (strB x) (strB y) w (by have:=strB_size hx;unfold maxLen;omega) (by have:=strB_size hy;unfold maxLen;omega)
 rwa [strB_chk2 hx hy,strB_val,strB_val,if_pos rfl] at c
theorem strB_len (z:Int):(strB z).size=(Lib.itoa z).length:=by rw [←size_len,strB_data]
theorem chk_11 {l:List UInt8} (h:szL l = []∨((szL l).head? = some 48∧l ≠ [48])):chk l=11:=by
 unfold chk;split
 ·rfl
 ·first | rfl | exact if_pos h
theorem tenTo_succ (k:Nat):tenTo (k+1)=10*tenTo k:=by unfold tenTo;rw [Nat.pow_succ,Nat.mul_comm]
theorem tenTo_add (j k:Nat):tenTo (j+k)=tenTo j*tenTo k:=Nat.pow_add _ _ _
def Bd (k:Nat) (z:Int):Prop:=z.natAbs<tenTo k
theorem Bd.add {k:Nat} {x y:Int} (hx:Bd k x) (hy:Bd k y):Bd (k+1) (x+y):=by
 unfold Bd at *; rw [tenTo_succ];omega
theorem Bd.mul {j k:Nat} {x y:Int} (hx:Bd j x) (hy:Bd k y):Bd (j+k) (x*y):=by
 unfold Bd at *; rw [tenTo_add,Int.natAbs_mul];exact Nat.mul_lt_mul'' hx hy
theorem Bd.lt {k:Nat} {z:Int} (h:Bd k z) (hk:k≤300):z.natAbs<lim:=Nat.lt_of_lt_of_le h (tenTo_mono hk)
theorem Bd.up {j k:Nat} {z:Int} (h:Bd j z) (hk:j≤k):Bd k z:=Nat.lt_of_lt_of_le h (tenTo_mono hk)
end Go.Proofs.YtjdfjgfdbgmbiaaGreatDoor
