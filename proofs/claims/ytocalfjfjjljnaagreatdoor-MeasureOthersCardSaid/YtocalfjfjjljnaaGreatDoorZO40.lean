/- Parts of the proof of the text YtocalfjfjjljnaaGreatDoorZO44. -/
import Derived.Test.YtocalfjfjjljnaaGreatDoorZO1
import Derived.Test.YtocalfjfjjljnaaGreatDoorZO24
import Derived.Test.YtocalfjfjjljnaaGreatDoorZO37
import Derived.Test.YtocalfjfjjljnaaGreatDoorZO39
set_option linter.all false
set_option maxRecDepth 100000
set_option maxHeartbeats 8000000
namespace Go.Proofs.YtocalfjfjjljnaaGreatDoor
namespace T
open Go.RowKit
theorem wP (a:ByteArray) (E:Int) (w:World) (e0:(E==0)=false) (e1:(E != 0)=true)
  (h1:∀ W,Below w.heap.size w W→Calls Tryz.prog 15 #[.string a] W fun e W'=>e = .returned (.int .i64 E)∧Below W.heap.size W W')
  : Calls Tryz.prog 7 #[.string a] w fun e W'=>e = .returned (.tuple #[.string ⟨#[]⟩,.int .i64 E])∧Below w.heap.size w W':=by
 have O:=Ha (h1);clear h1
 go_enter Tryz.func7,Tryz.ntmps7
 have HB:=Ha (Below.refl w.heap.size w)
 go_wp2_with fail
 refine (O.out _ HB.out).mono ?_
 rintro e w1 ⟨rfl,b⟩
 replace HB:=Ha (HB.out.trans (b.mono HB.out.size));clear b
 go_wp2
 go_ret2
 exact ⟨rfl,HB.out⟩
theorem wQ (a q s z d f m r A B:ByteArray) (k:Nat) (E1 E2 E3 E4 E5:Int) (w:World) (hp:0<s.size) (h45:((s[0].toNat:Int)==45)=true) (hz:s.extract 1 s.size=z) (hs1:(1:Int)≤(s.size:Int)) (s1:s.size≤1000) (sf:f.size≤1000) (sA:A.size≤10) (sB:B.size≤10) (k1:k≤143)
  (h1:∀ W,Below w.heap.size w W→Calls Tryz.prog 15 #[.string a] W fun e W'=>e = .returned (.int .i64 0)∧Below W.heap.size W W')
  (h2:∀ W,Below w.heap.size w W→Calls Tryz.prog 21 #[.string a,.string ⟨#[49,50,55,47,54,48]⟩] W fun e W'=>e = .returned (.tuple #[.string q,.int .i64 E1])∧Below W.heap.size W W')
  (h3:∀ W,Below w.heap.size w W→Calls Tryz.prog 22 #[.string q] W fun e W'=>e = .returned (.string s)∧Below W.heap.size W W')
  (h4:∀ W,Below w.heap.size w W→Calls Tryz.prog 21 #[.string z,.string ⟨#[49,52,52]⟩] W fun e W'=>e = .returned (.tuple #[.string d,.int .i64 E2])∧Below W.heap.size W W')
  (h5:∀ W,Below w.heap.size w W→Calls Tryz.prog 23 #[.string d] W fun e W'=>e = .returned (.tuple #[.string f,.int .i64 E3])∧Below W.heap.size W W')
  (h6:∀ W,Below w.heap.size w W→Calls Tryz.prog 25 #[.string f,.string ⟨#[49,52,52]⟩] W fun e W'=>e = .returned (.string m)∧Below W.heap.size W W')
  (h7:∀ W,Below w.heap.size w W→Calls Tryz.prog 24 #[.string z,.string m] W fun e W'=>e = .returned (.tuple #[.string r,.int .i64 E4])∧Below W.heap.size W W')
  (h8:∀ W,Below w.heap.size w W→Calls Tryz.prog 26 #[.string r] W fun e W'=>e = .returned (.tuple #[.int .i64 k,.int .i64 E5])∧Below W.heap.size W W')
  (h9:∀ j:Int,j=((k / 12:Nat):Int)→∀ W,Below w.heap.size w W→Calls Tryz.prog 27 #[.int .i64 j] W fun e W'=>e = .returned (.string A)∧Below W.heap.size W W')
  (h10:∀ j:Int,j=((k % 12:Nat):Int)→∀ W,Below w.heap.size w W→Calls Tryz.prog 27 #[.int .i64 j] W fun e W'=>e = .returned (.string B)∧Below W.heap.size W W')
  : Calls Tryz.prog 7 #[.string a] w fun e W'=>e = .returned (.tuple #[.string (⟨#[45]⟩++f++⟨#[39]⟩++A++⟨#[34]⟩++B),.int .i64 0])∧Below w.heap.size w W':=by
 have O:=Ha (Hb h1 (Hb h2 (Hb h3 (Hb h4 (Hb h5 (Hb h6 (Hb h7 (Hb h8 (Hb h9 (h10))))))))));clear h1 h2 h3 h4 h5 h6 h7 h8 h9 h10
 have hm9:s.size≤9223372036854775807:=by omega
 have q1:Int.tdiv (k:Int) 12=((k / 12:Nat):Int):=by rw [Int.tdiv_eq_ediv_of_nonneg (by omega)];omega
 have q2:Int.tmod (k:Int) 12=((k % 12:Nat):Int):=by rw [Int.tmod_eq_emod_of_nonneg (by omega)];omega
 have n0:¬ 9223372036854775807<1+f.size:=by omega
 have i0:¬ (9223372036854775807:Int)<1+(f.size:Int):=by omega
 have n1:¬ 9223372036854775807<1+f.size+1:=by omega
 have i1:¬ (9223372036854775807:Int)<1+(f.size:Int)+1:=by omega
 have n2:¬ 9223372036854775807<1+f.size+1+A.size:=by omega
 have i2:¬ (9223372036854775807:Int)<1+(f.size:Int)+1+(A.size:Int):=by omega
 have n3:¬ 9223372036854775807<1+f.size+1+A.size+1:=by omega
 have i3:¬ (9223372036854775807:Int)<1+(f.size:Int)+1+(A.size:Int)+1:=by omega
 have n4:¬ 9223372036854775807<1+f.size+1+A.size+1+B.size:=by omega
 have i4:¬ (9223372036854775807:Int)<1+(f.size:Int)+1+(A.size:Int)+1+(B.size:Int):=by omega
 go_enter Tryz.func7,Tryz.ntmps7
 have HB:=Ha (Below.refl w.heap.size w)
 go_wp2_with fail
 refine (O.out.1 _ HB.out).mono ?_
 rintro e w1 ⟨rfl,b⟩
 replace HB:=Ha (HB.out.trans (b.mono HB.out.size));clear b
 go_wp2_with fail
 refine (O.out.2.1 _ HB.out).mono ?_
 rintro e w2 ⟨rfl,b⟩
 replace HB:=Ha (HB.out.trans (b.mono HB.out.size));clear b
 go_wp2_with fail
 refine (O.out.2.2.1 _ HB.out).mono ?_
 rintro e w3 ⟨rfl,b⟩
 replace HB:=Ha (HB.out.trans (b.mono HB.out.size));clear b
 go_wp2
 have HD:=Ha HB.out.drew;clear HB;have HB:=HD;clear HD
 go_region_held3 (fun _=>True) (first | trivial | (go_keep;done)) (first | fail)
 go_wp2_with fail
 refine (O.out.2.2.2.1 _ HB.out).mono ?_
 rintro e w4 ⟨rfl,b⟩
 replace HB:=Ha (HB.out.trans (b.mono HB.out.size));clear b
 go_wp2_with fail
 refine (O.out.2.2.2.2.1 _ HB.out).mono ?_
 rintro e w5 ⟨rfl,b⟩
 replace HB:=Ha (HB.out.trans (b.mono HB.out.size));clear b
 go_wp2_with fail
 refine (O.out.2.2.2.2.2.1 _ HB.out).mono ?_
 rintro e w6 ⟨rfl,b⟩
 replace HB:=Ha (HB.out.trans (b.mono HB.out.size));clear b
 go_wp2_with fail
 refine (O.out.2.2.2.2.2.2.1 _ HB.out).mono ?_
 rintro e w7 ⟨rfl,b⟩
 replace HB:=Ha (HB.out.trans (b.mono HB.out.size));clear b
 go_wp2_with fail
 refine (O.out.2.2.2.2.2.2.2.1 _ HB.out).mono ?_
 rintro e w8 ⟨rfl,b⟩
 replace HB:=Ha (HB.out.trans (b.mono HB.out.size));clear b
 go_wp2_with fail
 refine (O.out.2.2.2.2.2.2.2.2.1 _ (by omega) _ HB.out).mono ?_
 rintro e w9 ⟨rfl,b⟩
 replace HB:=Ha (HB.out.trans (b.mono HB.out.size));clear b
 go_wp2_with fail
 refine (O.out.2.2.2.2.2.2.2.2.2 _ (by omega) _ HB.out).mono ?_
 rintro e w10 ⟨rfl,b⟩
 replace HB:=Ha (HB.out.trans (b.mono HB.out.size));clear b
 go_wp2
 go_ret2
 exact ⟨rfl,HB.out⟩
theorem wR (a q s z d f m r A B:ByteArray) (k:Nat) (E1 E2 E3 E4 E5:Int) (w:World) (hp:0<s.size) (h45:((s[0].toNat:Int)==45)=false) (s1:s.size≤1000) (sf:f.size≤1000) (sA:A.size≤10) (sB:B.size≤10) (k1:k≤143)
  (h1:∀ W,Below w.heap.size w W→Calls Tryz.prog 15 #[.string a] W fun e W'=>e = .returned (.int .i64 0)∧Below W.heap.size W W')
  (h2:∀ W,Below w.heap.size w W→Calls Tryz.prog 21 #[.string a,.string ⟨#[49,50,55,47,54,48]⟩] W fun e W'=>e = .returned (.tuple #[.string q,.int .i64 E1])∧Below W.heap.size W W')
  (h3:∀ W,Below w.heap.size w W→Calls Tryz.prog 22 #[.string q] W fun e W'=>e = .returned (.string s)∧Below W.heap.size W W')
  (h4:∀ W,Below w.heap.size w W→Calls Tryz.prog 21 #[.string s,.string ⟨#[49,52,52]⟩] W fun e W'=>e = .returned (.tuple #[.string d,.int .i64 E2])∧Below W.heap.size W W')
  (h5:∀ W,Below w.heap.size w W→Calls Tryz.prog 23 #[.string d] W fun e W'=>e = .returned (.tuple #[.string f,.int .i64 E3])∧Below W.heap.size W W')
  (h6:∀ W,Below w.heap.size w W→Calls Tryz.prog 25 #[.string f,.string ⟨#[49,52,52]⟩] W fun e W'=>e = .returned (.string m)∧Below W.heap.size W W')
  (h7:∀ W,Below w.heap.size w W→Calls Tryz.prog 24 #[.string s,.string m] W fun e W'=>e = .returned (.tuple #[.string r,.int .i64 E4])∧Below W.heap.size W W')
  (h8:∀ W,Below w.heap.size w W→Calls Tryz.prog 26 #[.string r] W fun e W'=>e = .returned (.tuple #[.int .i64 k,.int .i64 E5])∧Below W.heap.size W W')
  (h9:∀ j:Int,j=((k / 12:Nat):Int)→∀ W,Below w.heap.size w W→Calls Tryz.prog 27 #[.int .i64 j] W fun e W'=>e = .returned (.string A)∧Below W.heap.size W W')
  (h10:∀ j:Int,j=((k % 12:Nat):Int)→∀ W,Below w.heap.size w W→Calls Tryz.prog 27 #[.int .i64 j] W fun e W'=>e = .returned (.string B)∧Below W.heap.size W W')
  : Calls Tryz.prog 7 #[.string a] w fun e W'=>e = .returned (.tuple #[.string (⟨#[]⟩++f++⟨#[39]⟩++A++⟨#[34]⟩++B),.int .i64 0])∧Below w.heap.size w W':=by
 have O:=Ha (Hb h1 (Hb h2 (Hb h3 (Hb h4 (Hb h5 (Hb h6 (Hb h7 (Hb h8 (Hb h9 (h10))))))))));clear h1 h2 h3 h4 h5 h6 h7 h8 h9 h10
 have hm9:s.size≤9223372036854775807:=by omega
 have q1:Int.tdiv (k:Int) 12=((k / 12:Nat):Int):=by rw [Int.tdiv_eq_ediv_of_nonneg (by omega)];omega
 have q2:Int.tmod (k:Int) 12=((k % 12:Nat):Int):=by rw [Int.tmod_eq_emod_of_nonneg (by omega)];omega
 have n0:¬ 9223372036854775807<f.size:=by omega
 have i0:¬ (9223372036854775807:Int)<(f.size:Int):=by omega
 have n1:¬ 9223372036854775807<f.size+1:=by omega
 have i1:¬ (9223372036854775807:Int)<(f.size:Int)+1:=by omega
 have n2:¬ 9223372036854775807<f.size+1+A.size:=by omega
 have i2:¬ (9223372036854775807:Int)<(f.size:Int)+1+(A.size:Int):=by omega
 have n3:¬ 9223372036854775807<f.size+1+A.size+1:=by omega
 have i3:¬ (9223372036854775807:Int)<(f.size:Int)+1+(A.size:Int)+1:=by omega
 have n4:¬ 9223372036854775807<f.size+1+A.size+1+B.size:=by omega
 have i4:¬ (9223372036854775807:Int)<(f.size:Int)+1+(A.size:Int)+1+(B.size:Int):=by omega
 go_enter Tryz.func7,Tryz.ntmps7
 have HB:=Ha (Below.refl w.heap.size w)
 go_wp2_with fail
 refine (O.out.1 _ HB.out).mono ?_
 rintro e w1 ⟨rfl,b⟩
 replace HB:=Ha (HB.out.trans (b.mono HB.out.size));clear b
 go_wp2_with fail
 refine (O.out.2.1 _ HB.out).mono ?_
 rintro e w2 ⟨rfl,b⟩
 replace HB:=Ha (HB.out.trans (b.mono HB.out.size));clear b
 go_wp2_with fail
 refine (O.out.2.2.1 _ HB.out).mono ?_
 rintro e w3 ⟨rfl,b⟩
 replace HB:=Ha (HB.out.trans (b.mono HB.out.size));clear b
 go_wp2_with fail
 refine (O.out.2.2.2.1 _ HB.out).mono ?_
 rintro e w4 ⟨rfl,b⟩
 replace HB:=Ha (HB.out.trans (b.mono HB.out.size));clear b
 go_wp2_with fail
 refine (O.out.2.2.2.2.1 _ HB.out).mono ?_
 rintro e w5 ⟨rfl,b⟩
 replace HB:=Ha (HB.out.trans (b.mono HB.out.size));clear b
 go_wp2_with fail
 refine (O.out.2.2.2.2.2.1 _ HB.out).mono ?_
 rintro e w6 ⟨rfl,b⟩
 replace HB:=Ha (HB.out.trans (b.mono HB.out.size));clear b
 go_wp2_with fail
 refine (O.out.2.2.2.2.2.2.1 _ HB.out).mono ?_
 rintro e w7 ⟨rfl,b⟩
 replace HB:=Ha (HB.out.trans (b.mono HB.out.size));clear b
 go_wp2_with fail
 refine (O.out.2.2.2.2.2.2.2.1 _ HB.out).mono ?_
 rintro e w8 ⟨rfl,b⟩
 replace HB:=Ha (HB.out.trans (b.mono HB.out.size));clear b
 go_wp2_with fail
 refine (O.out.2.2.2.2.2.2.2.2.1 _ (by omega) _ HB.out).mono ?_
 rintro e w9 ⟨rfl,b⟩
 replace HB:=Ha (HB.out.trans (b.mono HB.out.size));clear b
 go_wp2_with fail
 refine (O.out.2.2.2.2.2.2.2.2.2 _ (by omega) _ HB.out).mono ?_
 rintro e w10 ⟨rfl,b⟩
 replace HB:=Ha (HB.out.trans (b.mono HB.out.size));clear b
 go_wp2
 go_ret2
 exact ⟨rfl,HB.out⟩
theorem B9 (x y:Rat) {j k:Nat} (w:World) (hx:Bq j x) (hy:Bq k y) (hb:j+k≤300) (h0:y≠0) (T:TabM w) :
  Calls Tryz.prog 21 #[.string (ag x),.string (ag y)] w fun e W'=>e = .returned (.tuple #[.string (ag (x / y)),.int .i64 0])∧Below w.heap.size w W':=by
 obtain ⟨a1,a2,_⟩:=nB hx hy hb h0
 have sx:Sq x:=hx.lim (by omega)
 have sy:Sq y:=hy.lim (by omega)
 have k:=y5 (ag x) (ag y) w sx.size sy.size T.1
 rw [(o8 sx sy).1,(o8 sx sy).2] at k
 unfold ua ub at k
 rwa [if_neg h0,if_neg h0,a1,a2] at k
theorem DY (x y:Rat) {j k:Nat} (w:World) (hx:Bq j x) (hy:Bq k y) (hb:j+k+1≤300) (T:TabM w) :
  Calls Tryz.prog 24 #[.string (ag x),.string (ag y)] w fun e W'=>e = .returned (.tuple #[.string (ag (x - y)),.int .i64 0])∧Below w.heap.size w W':=by
 obtain ⟨a1,a2,_⟩:=BD hx hy hb
 have sx:Sq x:=hx.lim (by omega)
 have sy:Sq y:=hy.lim (by omega)
 have k:=yZ (ag x) (ag y) w sx.size sy.size T.1
 rwa [(o8 sx sy).1,(o8 sx sy).2,a1,a2] at k
theorem Ca (x y:Rat) {j k:Nat} (w:World) (hx:Bq j x) (hy:Bq k y) (hb:j+k+1≤300) (T:TabM w) :
  Calls Tryz.prog 32 #[.string (ag x),.string (ag y)] w fun e W'=>e = .returned (.tuple #[.string (ag (x+y)),.int .i64 0])∧Below w.heap.size w W':=by
 obtain ⟨a1,a2,_⟩:=nA hx hy hb
 have sx:Sq x:=hx.lim (by omega)
 have sy:Sq y:=hy.lim (by omega)
 have k:=sF (ag x) (ag y) w sx.size sy.size T.1
 rwa [(o8 sx sy).1,(o8 sx sy).2,a1,a2] at k
theorem AY (x:Rat) {j:Nat} (w:World) (hx:Bq j x) (hb:j≤300) (T:TabM w) :
  Calls Tryz.prog 23 #[.string (ag x)] w fun e W'=>e = .returned (.tuple #[.string (aa (x.num.fdiv x.den)),.int .i64 0])∧Below w.heap.size w W':=by
 have sa:Sq x:=hx.lim hb
 have k:=oC (ag x) w sa.size T.1
 unfold AG at k
 rwa [if_pos sa.chk,sa.chk,show rat (ag x)=x from iE _] at k
theorem DZ (z:Int) (w:World) (h:z.natAbs≤1000) (T:TabM w) :
  Calls Tryz.prog 26 #[.string (ag (z:Rat))] w fun e W'=>e = .returned (.tuple #[.int .i64 z,.int .i64 0])∧Below w.heap.size w W':=by
 have sa:Sq (z:Rat):=(mg (k:=4) (by decide) (Nat.lt_of_le_of_lt h (by decide))).lim (by decide)
 have k:=zg (ag (z:Rat)) w sa.size T.1
 unfold yO yP Cy Cz at k
 rw [if_pos sa.chk,if_pos sa.chk,show rat (ag (z:Rat))=(z:Rat) from iE _,Rat.num_intCast,Rat.den_intCast,if_pos ⟨rfl,by omega,by omega⟩,if_pos rfl,if_pos (by omega)] at k
 exact k
theorem Db (m d:Nat) (hd:0<d):(((m:Int):Rat) / ((d:Int):Rat)).num.fdiv (((m:Int):Rat) / ((d:Int):Rat)).den=((m / d:Nat):Int):=by
 obtain ⟨h1,h2⟩:=Ef (((m:Int):Rat) / ((d:Int):Rat))
 generalize (((m:Int):Rat) / ((d:Int):Rat)).num.fdiv (((m:Int):Rat) / ((d:Int):Rat)).den=f at h1 h2
 have hp:=rQ hd
 have hn:=Ak (Nat.ne_of_gt hd)
 have e:(((m:Int):Rat) / ((d:Int):Rat))*((d:Int):Rat)=((m:Int):Rat):=by
  have:=Rat.mul_inv_cancel _ hn
  rw [Rat.div_def]
  grind
 have g1:(f:Rat)*((d:Int):Rat)≤((m:Int):Rat):=by
  have:=Rat.mul_le_mul_of_nonneg_right h1 (Rat.le_of_lt hp)
  rwa [e] at this
 have g2:((m:Int):Rat)<((f:Rat)+1)*((d:Int):Rat):=by
  have:=Rat.mul_lt_mul_of_pos_right h2 hp
  rwa [e] at this
 rw [←Rat.intCast_mul,Rat.intCast_le_intCast] at g1
 rw [show (f:Rat)+1=((f+1:Int):Rat) by rw [Rat.intCast_add];rfl,←Rat.intCast_mul,Rat.intCast_lt_intCast] at g2
 have k1:=Nat.div_add_mod m d
 have k2:=Nat.mod_lt m hd
 have k3:(d:Int)*((m / d:Nat):Int)+((m % d:Nat):Int)=(m:Int):=by exact_mod_cast k1
 generalize ((m / d:Nat):Int)=q at k3 ⊢
 have d0:(0:Int)<d:=by omega
 have k4:((m % d:Nat):Int)<d:=by omega
 rcases Int.lt_trichotomy f q with h | h | h
 ·have:(f+1)*(d:Int)≤q*d:=Int.mul_le_mul_of_nonneg_right (by omega) (by omega)
  have:q*(d:Int)=d*q:=Int.mul_comm _ _
  omega
 ·exact h
 ·have:(q+1)*(d:Int)≤f*d:=Int.mul_le_mul_of_nonneg_right (by omega) (by omega)
  have:(q+1)*(d:Int)=d*q+d:=by rw [Int.add_mul,Int.one_mul,Int.mul_comm]
  omega
def iP:Rat:=((144:Nat):Int)
theorem lF:ag iP=⟨#[49,52,52]⟩:=by decide+kernel
theorem gN:Bq 3 iP:=by constructor <;> decide+kernel
theorem vi:iP≠0:=by decide+kernel
theorem pK {m k:Nat} (hk:1≤k) (h:m<aA k):Bq k (((m:Nat):Int):Rat):=mg hk (by show Int.natAbs _<_;rwa [Int.natAbs_natCast])
theorem un (n:Nat) (hn:n≤1000) (j:Int) (hj:j=((n:Nat):Int)) (w:World) (T:TabM w) :
  Calls Tryz.prog 27 #[.int .i64 j] w fun e W'=>e = .returned (.string (bO (Lib.decDigits n)))∧Below w.heap.size w W':=by
 subst hj
 rw [aR]
 exact jy _ w (by omega) (by omega) T.1
theorem AZ (x:Rat) (w:World) (h:Bq 90 x) (T:TabM w) :
  Calls Tryz.prog 7 #[.string (ag x)] w fun e W'=>e = .returned (.tuple #[.string (bO (ftT (nr (x / tw)))),.int .i64 0])∧Below w.heap.size w W':=by
 obtain ⟨_,_,a3⟩:=nB h j6 (by decide) uU
 obtain ⟨_,_,b3⟩:=ji a3 (by decide)
 have sx:Sq x:=h.lim (by decide)
 have hb:=yc b3
 have kc:∀ W,Below w.heap.size w W→Calls Tryz.prog 15 #[.string (ag x)] W fun e W'=>e = .returned (.int .i64 0)∧Below W.heap.size W W':=fun W hW=>by
  have k:=zd (ag x) W sx.size (T.next hW)
  rwa [Ej h] at k
 have kd:∀ W,Below w.heap.size w W→Calls Tryz.prog 21 #[.string (ag x),.string ⟨#[49,50,55,47,54,48]⟩] W fun e W'=>e = .returned (.tuple #[.string (ag (x / tw)),.int .i64 0])∧Below W.heap.size W W':=fun W hW=>by
  have k:=B9 x tw W h j6 (by decide) uU (T.next hW)
  rwa [mj] at k
 have kn:=fun W (hW:Below w.heap.size w W)=>DW (x / tw) W a3 (by decide) (T.next hW)
 generalize nr (x / tw)=z at hb kn
 have hm:z.natAbs<aA 95:=Nat.lt_of_lt_of_le hb (ay (by decide))
 have hf:z.natAbs / 144<aA 95:=Nat.lt_of_le_of_lt (Nat.div_le_self _ _) hm
 have bm:=pK (k:=95) (by decide) hm
 have bf:=pK (k:=95) (by decide) hf
 obtain ⟨_,_,bd⟩:=nB bm gN (by decide) vi
 obtain ⟨_,_,bp⟩:=fS bf gN (by decide)
 have zs:bO (Lib.decDigits z.natAbs)=ag (((z.natAbs:Nat):Int):Rat):=by rw [aR,cR]
 have k4:∀ W,Below w.heap.size w W→Calls Tryz.prog 21 #[.string (bO (Lib.decDigits z.natAbs)),.string ⟨#[49,52,52]⟩] W fun e W'=>e = .returned (.tuple #[.string (ag ((((z.natAbs:Nat):Int):Rat) / iP)),.int .i64 0])∧Below W.heap.size W W':=fun W hW=>by
  have k:=B9 _ iP W bm gN (by decide) vi (T.next hW)
  rwa [lF,←zs] at k
 have k5:∀ W,Below w.heap.size w W→Calls Tryz.prog 23 #[.string (ag ((((z.natAbs:Nat):Int):Rat) / iP))] W fun e W'=>e = .returned (.tuple #[.string (bO (Lib.decDigits (z.natAbs / 144))),.int .i64 0])∧Below W.heap.size W W':=fun W hW=>by
  have k:=AY _ W bd (by decide) (T.next hW)
  rw [show ((((z.natAbs:Nat):Int):Rat) / iP).num.fdiv ((((z.natAbs:Nat):Int):Rat) / iP).den=((z.natAbs / 144:Nat):Int) from Db _ 144 (by decide)] at k
  rwa [aR]
 have k6:∀ W,Below w.heap.size w W→Calls Tryz.prog 25 #[.string (bO (Lib.decDigits (z.natAbs / 144))),.string ⟨#[49,52,52]⟩] W fun e W'=>e = .returned (.string (ag ((((z.natAbs / 144:Nat):Int):Rat)*iP)))∧Below W.heap.size W W':=fun W hW=>by
  have k:=oD _ iP W bf gN (by decide) (T.next hW)
  rwa [lF,cR,←aR] at k
 have e7:(((z.natAbs:Nat):Int):Rat) - (((z.natAbs / 144:Nat):Int):Rat)*iP=(((z.natAbs % 144:Nat):Int):Rat):=by
  have ei:((z.natAbs:Nat):Int) - ((z.natAbs / 144:Nat):Int)*((144:Nat):Int)=((z.natAbs % 144:Nat):Int):=by omega
  unfold iP
  rw [←Rat.intCast_mul,←Rat.intCast_sub,ei]
 have k7:∀ W,Below w.heap.size w W→Calls Tryz.prog 24 #[.string (bO (Lib.decDigits z.natAbs)),.string (ag ((((z.natAbs / 144:Nat):Int):Rat)*iP))] W fun e W'=>e = .returned (.tuple #[.string (ag (((z.natAbs % 144:Nat):Int):Rat)),.int .i64 0])∧Below W.heap.size W W':=fun W hW=>by
  have k:=DY _ _ W bm bp (by decide) (T.next hW)
  rwa [e7,←zs] at k
 have hk:z.natAbs % 144≤143:=by omega
 have k8:=fun W (hW:Below w.heap.size w W)=>DZ ((z.natAbs % 144:Nat):Int) W (by rw [Int.natAbs_natCast];omega) (T.next hW)
 have ki:∀ n:Nat,n≤143→∀ j:Int,j=((n:Nat):Int)→∀ W,Below w.heap.size w W→Calls Tryz.prog 27 #[.int .i64 j] W fun e W'=>e = .returned (.string (bO (Lib.decDigits n)))∧Below W.heap.size W W':=fun n hn j hj W hW=>un n (Nat.le_trans hn (by decide)) j hj W (T.next hW)
 have l1:=cG (k:=95) (by decide) hf
 have l2:=cG (k:=2) (m:=z.natAbs % 144 / 12) (by decide) (by show _<100;omega)
 have l3:=cG (k:=2) (m:=z.natAbs % 144 % 12) (by decide) (by show _<100;omega)
 have l4:=cG (k:=95) (by decide) hm
 have sl:(aa z).size≤1000:=by
  rw [qg,ai]
  have:=Cp (decide (z<0)) (Lib.decDigits z.natAbs)
  omega
 have ft:∀ S:List UInt8,bO S++bO (Lib.decDigits (z.natAbs / 144))++⟨#[39]⟩++bO (Lib.decDigits (z.natAbs % 144 / 12))++⟨#[34]⟩++bO (Lib.decDigits (z.natAbs % 144 % 12))=bO (S++ftU z.natAbs):=fun S=>by
  rw [show (⟨#[39]⟩:ByteArray)=bO [39] from rfl,show (⟨#[34]⟩:ByteArray)=bO [34] from rfl,ee,ee,ee,ee,ee]
  unfold ftU
  rw [show z.natAbs % 144 / 12=z.natAbs / 12 % 12 by omega,show z.natAbs % 144 % 12=z.natAbs % 12 by omega]
  simp
 by_cases hz:z<0
 ·have hn':af (aa z).data.toList=true:=by rw [fm,decide_eq_true hz]
  have hp:=aT hn'
  have c:=wQ (ag x) _ (aa z) (bO (Lib.decDigits z.natAbs)) _ _ _ _ _ _ (z.natAbs % 144) 0 0 0 0 0 w hp ((au hp).trans hn') ((dE hn').trans (nZ z)) (by omega) sl (by rw [ai];omega) (by rw [ai];omega) (by rw [ai];omega) hk kc kd kn k4 k5 k6 k7 k8 (ki (z.natAbs % 144 / 12) (by omega)) (ki (z.natAbs % 144 % 12) (by omega))
  rw [show (⟨#[45]⟩:ByteArray)=bO [45] from rfl,ft] at c
  unfold ftT
  rw [decide_eq_true hz]
  exact c
 ·have hn':af (aa z).data.toList=false:=by rw [fm,decide_eq_false hz]
  have es:aa z=bO (Lib.decDigits z.natAbs):=by rw [qg,decide_eq_false hz];rfl
  have hp:0<(aa z).size:=by rw [es,ai];exact List.length_pos_iff.2 (bL _)
  rw [←es] at k4 k7
  have c:=wR (ag x) _ (aa z) (aa z) _ _ _ _ _ _ (z.natAbs % 144) 0 0 0 0 0 w hp ((au hp).trans hn') sl (by rw [ai];omega) (by rw [ai];omega) (by rw [ai];omega) hk kc kd kn k4 k5 k6 k7 k8 (ki (z.natAbs % 144 / 12) (by omega)) (ki (z.natAbs % 144 % 12) (by omega))
  rw [show (⟨#[]⟩:ByteArray)=bO [] from rfl,ft] at c
  unfold ftT
  rw [decide_eq_false hz]
  exact c
theorem wS (a:ByteArray) (w:World) (ha:a.size≤maxLen) (h:ckV a.data.toList≠0) (T:TabM w) :
  Calls Tryz.prog 7 #[.string a] w fun e W'=>e = .returned (.tuple #[.string ⟨#[]⟩,.int .i64 (ckV a.data.toList)])∧Below w.heap.size w W':=by
 obtain ⟨e0,e1⟩:=aQ h
 exact wP a _ w e0 e1 (fun W hW=>zd a W ha (T.next hW))
end T
namespace T
open Go.RowKit
def sL (w:World):Prop:=∃ ev,w.cell? ⟨2,0,none⟩=some ev∧(ev = .nilIface∨∃ te pe,ev = .iface te pe)
theorem ch {w W:World} (h:sL w) (b:Below w.heap.size w W):sL W:=by
 obtain ⟨ev,h1,h2⟩:=h
 have hl:=World.block_lt_of_cell? w _ h1
 exact ⟨ev,(b.cell (p:=⟨2,0,none⟩) hl).trans h1,h2⟩
theorem zi {l:List UInt8} (h:dgs l=true):Lib.atoiAll l=if ad l≤9223372036854775807 then .ok (ad l:Int) else .range:=by
 have hd:=pQ h
 have hm:Lib.parseMag l=if ad l<18446744073709551616 then .ok (ad l) else .range:=by
  unfold Lib.parseMag
  rw [if_neg (ta h),oA _ 0 (by decide) hd,Nat.zero_mul,Nat.zero_add]
 cases l with
 | nil=>exact absurd rfl (ta h)
 | cons c r =>
  have hc:=vd (hd c (by simp))
  rw [Lib.atoiAll_plain c r (by omega) (by omega),hm]
  generalize ad (c::r)=m
  by_cases h1:m<18446744073709551616
  ·rw [if_pos h1]
   unfold Lib.signless
   by_cases h2:9223372036854775808≤m
   ·rw [if_neg (by omega)];simp only [if_pos h2]
   ·rw [if_pos (by omega)];simp only [if_neg h2]
  ·rw [if_neg h1,if_neg (by omega)];rfl
theorem Dc (l:List UInt8) (w:World) (hd:∀ c∈l,aj c=true) (hl:l.length≤1000) (hE:sw w) (hS:sL w) :
  Calls Tryz.prog 72 #[.string (bO l)] w fun e W'=>(∃ (k:Int) (x:Value),e = .returned (.tuple #[.int .i64 k,x]) ∧ -9223372036854775808≤k∧k≤9223372036854775807∧(l = []→k=0)∧(l ≠ []→ad l≤1000→k=ad l))∧Below w.heap.size w W':=by
 by_cases h0:l = []
 ·obtain ⟨ev,h1,h2⟩:=hS
  refine (Tryz.strconv_Atoi_syntax (bO l) (by rw [ai];omega) (by rw [aP,h0]) ev w h1 h2).mono ?_
  rintro e W' ⟨N,he,_,_,hB⟩
  exact ⟨⟨0,_,he,by decide,by decide,fun _=>rfl,fun h=>absurd h0 h⟩,hB⟩
 ·have hg:=tb hd h0
  have ha:=zi hg
  by_cases hb:ad l≤9223372036854775807
  ·rw [if_pos hb] at ha
   refine (Tryz.strconv_Atoi_ok (bO l) (by rw [ai];omega) (ad l:Int) (by rw [aP];exact ha) w).mono ?_
   rintro e W' ⟨he,hW⟩
   refine ⟨⟨_,_,he,by omega,by omega,fun h=>absurd h h0,fun _ _=>rfl⟩,?_⟩
   rcases hW with rfl | ⟨t,rfl⟩
   ·exact Below.refl _ _
   ·exact Go.Joins.below_bytesWorld _ _ _ _ (Nat.le_refl _)
  ·rw [if_neg hb] at ha
   obtain ⟨ev,h1,h2⟩:=hE
   refine (Tryz.strconv_Atoi_range (bO l) (by rw [ai];omega) (by rw [aP];exact ha) ev w h1 h2).mono ?_
   rintro e W' ⟨N,he,_,_,hB⟩
   refine ⟨⟨_,_,he,?_,?_,fun h=>absurd h h0,fun _ h=>by omega⟩,hB⟩ <;> (unfold Lib.atoiSat;split <;> decide)
theorem A0 (s D A:ByteArray) (n:Nat) (P:Int→Prop) (w:World) (s1:s.size≤1000) (b0:(0:Int)≤(n:Int)) (b1:(n:Int)≤(s.size:Int)) (fD:s.extract 0 n=D) (n1:(2:Int)<(n:Int))
  (h1:∀ W,Below w.heap.size w W→Calls Tryz.prog 30 #[.string s] W fun e W'=>e = .returned (.int .i64 n)∧Below W.heap.size W W')
  (h2:∀ W,Below w.heap.size w W→Calls Tryz.prog 72 #[.string D] W fun e W'=>(∃ (k:Int) (x:Value),e = .returned (.tuple #[.int .i64 k,x])∧P k)∧Below W.heap.size W W')
  : Calls Tryz.prog 31 #[.string s] w fun e W'=>e = .returned (.tuple #[.int .i64 0,.int .i64 0])∧Below w.heap.size w W':=by
 have O:=Ha (Hb h1 h2);clear h1 h2
 have hm9:s.size≤9223372036854775807:=by omega
 go_enter Tryz.func31,Tryz.ntmps31
 have HB:=Ha (Below.refl w.heap.size w)
 go_wp2_with fail
 refine (O.out.1 _ HB.out).mono ?_
 rintro e w1 ⟨rfl,b⟩
 replace HB:=Ha (HB.out.trans (b.mono HB.out.size));clear b
 go_wp2_with fail
 refine (O.out.2 _ HB.out).mono ?_
 rintro e w2 ⟨⟨k,x,rfl,HP⟩,b⟩
 replace HB:=Ha (HB.out.trans (b.mono HB.out.size));clear b
 go_wp2
 go_quiet (fail)
 go_wp2
 go_ret2
 exact ⟨rfl,HB.out.trans ⟨rfl,rfl,rfl,Nat.le_refl _,fun _ _=>rfl⟩⟩
theorem A2 (s D A:ByteArray) (n:Nat) (P:Int→Prop) (w:World) (s1:s.size≤1000) (b0:(0:Int)≤(n:Int)) (b1:(n:Int)≤(s.size:Int)) (fD:s.extract 0 n=D) (n2:¬ (2:Int)<(n:Int)) (n3:decide ((2:Int)<(n:Int))=false) (n4:decide (2<n)=false) (hA:(A.toList != D.toList)=true) (hA2:(A.toList==D.toList)=false)
  (h1:∀ W,Below w.heap.size w W→Calls Tryz.prog 30 #[.string s] W fun e W'=>e = .returned (.int .i64 n)∧Below W.heap.size W W')
  (h2:∀ W,Below w.heap.size w W→Calls Tryz.prog 72 #[.string D] W fun e W'=>(∃ (k:Int) (x:Value),e = .returned (.tuple #[.int .i64 k,x])∧P k)∧Below W.heap.size W W')
  (h3:∀ k,P k→∀ W,Calls Tryz.prog 27 #[.int .i64 k] W fun e W'=>e = .returned (.string A)∧W'=W)
  : Calls Tryz.prog 31 #[.string s] w fun e W'=>e = .returned (.tuple #[.int .i64 0,.int .i64 0])∧Below w.heap.size w W':=by
 have O:=Ha (Hb h1 (Hb h2 h3));clear h1 h2 h3
 have hm9:s.size≤9223372036854775807:=by omega
 go_enter Tryz.func31,Tryz.ntmps31
 have HB:=Ha (Below.refl w.heap.size w)
 go_wp2_with fail
 refine (O.out.1 _ HB.out).mono ?_
 rintro e w1 ⟨rfl,b⟩
 replace HB:=Ha (HB.out.trans (b.mono HB.out.size));clear b
 go_wp2_with fail
 refine (O.out.2.1 _ HB.out).mono ?_
 rintro e w2 ⟨⟨k,x,rfl,HP⟩,b⟩
 replace HB:=Ha (HB.out.trans (b.mono HB.out.size));clear b
 have HPP:=Ha HP;clear HP
 go_wp2
 go_quiet ((go_at_call 27;exact Calls.quiet_of_same (O.out.2.2 _ HPP.out _)))
 go_wp2
 go_ret2
 exact ⟨rfl,HB.out.trans ⟨rfl,rfl,rfl,Nat.le_refl _,fun _ _=>rfl⟩⟩
theorem zj (s D A:ByteArray) (P:Int→Prop) (w:World) (s1:s.size≤1000) (b1:(2:Int)≤(s.size:Int)) (fD:s.extract 0 2=D) (hA:(A.toList != D.toList)=false) (hA2:(A.toList==D.toList)=true) (hP:∀ k,P k→(11:Int)<k)
  (h1:∀ W,Below w.heap.size w W→Calls Tryz.prog 30 #[.string s] W fun e W'=>e = .returned (.int .i64 2)∧Below W.heap.size W W')
  (h2:∀ W,Below w.heap.size w W→Calls Tryz.prog 72 #[.string D] W fun e W'=>(∃ (k:Int) (x:Value),e = .returned (.tuple #[.int .i64 k,x])∧P k)∧Below W.heap.size W W')
  (h3:∀ k,P k→∀ W,Calls Tryz.prog 27 #[.int .i64 k] W fun e W'=>e = .returned (.string A)∧W'=W)
  : Calls Tryz.prog 31 #[.string s] w fun e W'=>e = .returned (.tuple #[.int .i64 0,.int .i64 0])∧Below w.heap.size w W':=by
 have O:=Ha (Hb h1 (Hb h2 h3));clear h1 h2 h3
 have hm9:s.size≤9223372036854775807:=by omega
 go_enter Tryz.func31,Tryz.ntmps31
 have HB:=Ha (Below.refl w.heap.size w)
 go_wp2_with fail
 refine (O.out.1 _ HB.out).mono ?_
 rintro e w1 ⟨rfl,b⟩
 replace HB:=Ha (HB.out.trans (b.mono HB.out.size));clear b
 go_wp2_with fail
 refine (O.out.2.1 _ HB.out).mono ?_
 rintro e w2 ⟨⟨k,x,rfl,HP⟩,b⟩
 replace HB:=Ha (HB.out.trans (b.mono HB.out.size));clear b
 have hk:=hP k HP
 have HPP:=Ha HP;clear HP
 go_wp2
 go_quiet ((go_at_call 27;exact Calls.quiet_of_same (O.out.2.2 _ HPP.out _)))
 go_wp2
 go_ret2
 exact ⟨rfl,HB.out.trans ⟨rfl,rfl,rfl,Nat.le_refl _,fun _ _=>rfl⟩⟩
theorem zk (s D A:ByteArray) (P:Int→Prop) (w:World) (s1:s.size≤1000) (b1:(1:Int)≤(s.size:Int)) (fD:s.extract 0 1=D) (hA:(A.toList != D.toList)=false) (hA2:(A.toList==D.toList)=true) (m:Nat) (hP:∀ k,P k→k=m) (m1:¬ (11:Int)<m) (m2:decide ((11:Int)<m)=false) (m3:decide (11<m)=false)
  (h1:∀ W,Below w.heap.size w W→Calls Tryz.prog 30 #[.string s] W fun e W'=>e = .returned (.int .i64 1)∧Below W.heap.size W W')
  (h2:∀ W,Below w.heap.size w W→Calls Tryz.prog 72 #[.string D] W fun e W'=>(∃ (k:Int) (x:Value),e = .returned (.tuple #[.int .i64 k,x])∧P k)∧Below W.heap.size W W')
  (h3:∀ k,P k→∀ W,Calls Tryz.prog 27 #[.int .i64 k] W fun e W'=>e = .returned (.string A)∧W'=W)
  : Calls Tryz.prog 31 #[.string s] w fun e W'=>e = .returned (.tuple #[.int .i64 m,.int .i64 1])∧Below w.heap.size w W':=by
 have O:=Ha (Hb h1 (Hb h2 h3));clear h1 h2 h3
 have hm9:s.size≤9223372036854775807:=by omega
 go_enter Tryz.func31,Tryz.ntmps31
 have HB:=Ha (Below.refl w.heap.size w)
 go_wp2_with fail
 refine (O.out.1 _ HB.out).mono ?_
 rintro e w1 ⟨rfl,b⟩
 replace HB:=Ha (HB.out.trans (b.mono HB.out.size));clear b
 go_wp2_with fail
 refine (O.out.2.1 _ HB.out).mono ?_
 rintro e w2 ⟨⟨k,x,rfl,HP⟩,b⟩
 replace HB:=Ha (HB.out.trans (b.mono HB.out.size));clear b
 obtain rfl:=hP k HP
 have HPP:=Ha HP;clear HP
 go_wp2
 go_quiet ((go_at_call 27;exact Calls.quiet_of_same (O.out.2.2 _ HPP.out _)))
 go_wp2
 go_ret2
 exact ⟨rfl,HB.out.trans ⟨rfl,rfl,rfl,Nat.le_refl _,fun _ _=>rfl⟩⟩
theorem zl (s D A:ByteArray) (P:Int→Prop) (w:World) (s1:s.size≤1000) (b1:(2:Int)≤(s.size:Int)) (fD:s.extract 0 2=D) (hA:(A.toList != D.toList)=false) (hA2:(A.toList==D.toList)=true) (m:Nat) (hP:∀ k,P k→k=m) (m1:¬ (11:Int)<m) (m2:decide ((11:Int)<m)=false) (m3:decide (11<m)=false)
  (h1:∀ W,Below w.heap.size w W→Calls Tryz.prog 30 #[.string s] W fun e W'=>e = .returned (.int .i64 2)∧Below W.heap.size W W')
  (h2:∀ W,Below w.heap.size w W→Calls Tryz.prog 72 #[.string D] W fun e W'=>(∃ (k:Int) (x:Value),e = .returned (.tuple #[.int .i64 k,x])∧P k)∧Below W.heap.size W W')
  (h3:∀ k,P k→∀ W,Calls Tryz.prog 27 #[.int .i64 k] W fun e W'=>e = .returned (.string A)∧W'=W)
  : Calls Tryz.prog 31 #[.string s] w fun e W'=>e = .returned (.tuple #[.int .i64 m,.int .i64 2])∧Below w.heap.size w W':=by
 have O:=Ha (Hb h1 (Hb h2 h3));clear h1 h2 h3
 have hm9:s.size≤9223372036854775807:=by omega
 go_enter Tryz.func31,Tryz.ntmps31
 have HB:=Ha (Below.refl w.heap.size w)
 go_wp2_with fail
 refine (O.out.1 _ HB.out).mono ?_
 rintro e w1 ⟨rfl,b⟩
 replace HB:=Ha (HB.out.trans (b.mono HB.out.size));clear b
 go_wp2_with fail
 refine (O.out.2.1 _ HB.out).mono ?_
 rintro e w2 ⟨⟨k,x,rfl,HP⟩,b⟩
 replace HB:=Ha (HB.out.trans (b.mono HB.out.size));clear b
 obtain rfl:=hP k HP
 have HPP:=Ha HP;clear HP
 go_wp2
 go_quiet ((go_at_call 27;exact Calls.quiet_of_same (O.out.2.2 _ HPP.out _)))
 go_wp2
 go_ret2
 exact ⟨rfl,HB.out.trans ⟨rfl,rfl,rfl,Nat.le_refl _,fun _ _=>rfl⟩⟩
end T
end Go.Proofs.YtocalfjfjjljnaaGreatDoor
