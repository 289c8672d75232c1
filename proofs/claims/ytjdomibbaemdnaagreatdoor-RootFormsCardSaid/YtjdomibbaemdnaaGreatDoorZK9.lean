/- Parts of the proof of the text YtjdomibbaemdnaaGreatDoorZK42. -/
import Derived.Lib.TrailingZeros
import Derived.Shelf.Spec.TrailingZeros
import Derived.Lib.MinMax
import Derived.Deep.RegionHeld3
import Derived.Test.YtjdomibbaemdnaaGreatDoorZK1
import Derived.Test.YtjdomibbaemdnaaGreatDoorZK2
import Derived.Test.YtjdomibbaemdnaaGreatDoorZK3
import Derived.Test.YtjdomibbaemdnaaGreatDoorZK4
import Derived.Test.YtjdomibbaemdnaaGreatDoorZK7
set_option linter.all false
set_option maxRecDepth 100000
set_option maxHeartbeats 8000000
namespace Go.Proofs.YtjdomibbaemdnaaGreatDoor
section
open Go.RowKit
def bE:Int := -9223372036854775808
theorem js (a:Int) (w:World) (h0 : -9223372036854775808<a) (h1:a≤9223372036854775807) :
  Calls Tryz.prog 187 #[.int .i64 a] w fun e W'=>e = .returned (.int .u64 (a.natAbs:Int))∧w=W':=by
 by_cases hn:a<0
 ·go_enter Tryz.func187,Tryz.ntmps187
  go_wp2
  go_ret
  exact ⟨an (by omega),rfl⟩
 ·go_enter Tryz.func187,Tryz.ntmps187
  go_wp2
  go_ret
  exact ⟨an (by omega),rfl⟩
theorem kP (a:Int) (w:World) :
  Calls Tryz.prog 273 #[.int .i64 a] w fun e W'=>e = .returned (.bool (decide (a<0)))∧w=W':=by
 go_enter Tryz.func273,Tryz.ntmps273
 go_wp2
 go_ret
 exact ⟨rfl,rfl⟩
theorem iU (a:Int) (w:World) :
  Calls Tryz.prog 274 #[.int .i64 a] w fun e W'=>e = .returned (.bool (a==1))∧w=W':=by
 go_enter Tryz.func274,Tryz.ntmps274
 go_wp2
 go_ret
 exact ⟨rfl,rfl⟩
theorem eV (a:Int) (w:World) (h0 : -9223372036854775808<a) (h1:a≤9223372036854775807) :
  Calls Tryz.prog 275 #[.int .i64 a] w fun e W'=>e = .returned (.int .i64 (-a))∧w=W':=by
 go_enter Tryz.func275,Tryz.ntmps275
 go_wp2
 go_ret
 exact ⟨an (by omega),rfl⟩
theorem rW (a:Int) (w:World) :
  Calls Tryz.prog 272 #[.int .i64 a] w fun e W'=>e = .returned (.int .i64 (if a=bE then 4 else 0))∧w=W':=by
 by_cases h:a=bE
 ·rw [if_pos h]
  unfold bE at h;subst h
  go_enter Tryz.func272,Tryz.ntmps272
  go_wp2
  go_ret
  exact ⟨rfl,rfl⟩
 ·rw [if_neg h]
  unfold bE at h
  go_enter Tryz.func272,Tryz.ntmps272
  go_wp2
  go_ret
  exact ⟨rfl,rfl⟩
theorem jt (a b:Int) (w:World) (h0 : -9223372036854775808<a) (h1:a≤9223372036854775807) (hb:0<b) (h2:b≤9223372036854775807) :
  Calls Tryz.prog 276 #[.int .i64 a,.int .i64 b] w fun e W'=>e = .returned (.int .i64 (a.tdiv b))∧w=W':=by
 have hb0:¬ b=0:=by omega
 have hb1:(b==0)=false:=by simpa using hb0
 go_enter Tryz.func276,Tryz.ntmps276
 go_wp2
 go_ret
 exact ⟨an (by omega),rfl⟩
def aN (a b:Int):Int:=if (a*b).natAbs<4611686018427387904 then a*b else bE
theorem ir (a b:Int) (w:World) (h0 : -9223372036854775808<a) (h1:a≤9223372036854775807) (h2 : -9223372036854775808<b) (h3:b≤9223372036854775807) :
  Calls Tryz.prog 277 #[.int .i64 a,.int .i64 b] w fun e W'=>e = .returned (.int .i64 (aN a b))∧w=W':=by
 have ca:=fun W=>js a W h0 h1
 have cb:=fun W=>js b W h2 h3
 have cm:=fun W=>Tryz.bits_Mul64 a.natAbs b.natAbs (by omega) (by omega) W
 have hab:(a*b).natAbs=a.natAbs*b.natAbs:=Int.natAbs_mul a b
 have C:=Ha (Hb ca (Hb cb cm))
 clear ca cb cm
 generalize hx:a.natAbs*b.natAbs=x at *
 by_cases hb:18446744073709551616≤x
 ·have e1:aN a b=bE:=if_neg (by omega)
  have d1:((x / 18446744073709551616:Nat):Int)≠0:=by omega
  rw [e1];unfold bE
  have D:=Ha d1
  clear hx hab hb e1
  generalize x / 18446744073709551616=hi at *
  generalize x % 18446744073709551616=lo at *
  go_enter Tryz.func277,Tryz.ntmps277
  go_wp2_with fail
  refine (C.out.1 _).mono ?_
  rintro e w' ⟨rfl,rfl⟩
  go_wp2_with fail
  refine (C.out.2.1 _).mono ?_
  rintro e w' ⟨rfl,rfl⟩
  go_wp2_with fail
  refine (C.out.2.2 _).mono ?_
  rintro e w' ⟨rfl,rfl⟩
  go_wp2
  go_ret
  exact ⟨rfl,rfl⟩
 ·have d1:x / 18446744073709551616=0:=by omega
  have d2:x % 18446744073709551616=x:=by omega
  rw [d1,d2] at C
  by_cases hs:4611686018427387904≤x
  ·have e1:aN a b=bE:=if_neg (by omega)
   rw [e1];unfold bE
   have hs':(4611686018427387904:Int)≤(x:Int):=by omega
   clear hx hab hb e1 d1 d2
   go_enter Tryz.func277,Tryz.ntmps277
   go_wp2_with fail
   refine (C.out.1 _).mono ?_
   rintro e w' ⟨rfl,rfl⟩
   go_wp2_with fail
   refine (C.out.2.1 _).mono ?_
   rintro e w' ⟨rfl,rfl⟩
   go_wp2_with fail
   refine (C.out.2.2 _).mono ?_
   rintro e w' ⟨rfl,rfl⟩
   go_wp2
   go_ret
   exact ⟨rfl,rfl⟩
  ·have e1:aN a b=a*b:=if_pos (by omega)
   rw [e1]
   have hs':¬ (4611686018427387904:Int)≤(x:Int):=by omega
   have l1 : -9223372036854775808≤a*b:=by omega
   have l2:a*b≤9223372036854775807:=by omega
   clear hx hab hb e1 d1 d2 hs
   generalize (x:Int)=X at *
   go_enter Tryz.func277,Tryz.ntmps277
   go_wp2_with fail
   refine (C.out.1 _).mono ?_
   rintro e w' ⟨rfl,rfl⟩
   go_wp2_with fail
   refine (C.out.2.1 _).mono ?_
   rintro e w' ⟨rfl,rfl⟩
   go_wp2_with fail
   refine (C.out.2.2 _).mono ?_
   rintro e w' ⟨rfl,rfl⟩
   go_wp2
   go_ret
   exact ⟨an (by omega),rfl⟩
end
section
open Go.Lib
theorem fT {x:Nat} (h0:x≠0) (h:x<18446744073709551616):∃ m,x=2 ^ ctz 64 x*(2*m+1)∧ctz 64 x<64:=by
 obtain ⟨m,h1,h2⟩:=ctzFrom_spec 64 x (by omega) (by simpa using h)
 exact ⟨m,by unfold ctz;rw [if_neg h0];exact h1,by unfold ctz;rw [if_neg h0];exact h2⟩
theorem ur (k m:Nat):Nat.Coprime (2 ^ k) (2*m+1):=by
 refine Nat.Coprime.pow_left k ?_
 unfold Nat.Coprime
 rw [Nat.gcd_rec,show (2*m+1) % 2=1 by omega];rfl
theorem qf (m k n:Nat):Nat.gcd (2*m+1) (2 ^ k*n)=Nat.gcd (2*m+1) n:=by
 rw [Nat.gcd_comm,Nat.Coprime.gcd_mul_left_cancel n (ur k m),Nat.gcd_comm]
theorem mz {x:Nat} (h0:x≠0) (h:x<18446744073709551616):∃ m,x / 2 ^ ctz 64 x=2*m+1∧x=2 ^ ctz 64 x*(2*m+1):=by
 obtain ⟨m,h1,_⟩:=fT h0 h
 refine ⟨m,?_,h1⟩
 have:x / 2 ^ ctz 64 x=(2 ^ ctz 64 x*(2*m+1)) / 2 ^ ctz 64 x:=congrArg (· / 2 ^ ctz 64 x) h1
 rw [this,Nat.mul_div_cancel_left _ (Nat.pow_pos (by decide))]
theorem qg {x k m c:Nat} (h:x=2 ^ c*(2*m+1)):2 ^ k∣x↔k≤c:=by
 constructor
 ·intro hd
  rcases Nat.lt_or_ge c k with q | q
  ·exfalso
   have h1:2 ^ (c+1)∣2 ^ c*(2*m+1):=by rw [←h];exact Nat.dvd_trans (Nat.pow_dvd_pow 2 q) hd
   rw [Nat.pow_succ] at h1
   have:=Nat.dvd_of_mul_dvd_mul_left (Nat.pow_pos (by decide)) h1
   omega
  ·exact q
 ·intro q
  rw [h];exact Nat.dvd_trans (Nat.pow_dvd_pow 2 q) (Nat.dvd_mul_right _ _)
theorem AT (x y k:Nat):2 ^ k∣(x ||| y)↔2 ^ k∣x∧2 ^ k∣y:=by
 rw [Nat.dvd_iff_mod_eq_zero,Nat.dvd_iff_mod_eq_zero,Nat.dvd_iff_mod_eq_zero,Nat.or_mod_two_pow,Nat.or_eq_zero_iff]
theorem AU {x y:Nat} (hx:x≠0) (hy:y≠0) (h:x<18446744073709551616) (h':y<18446744073709551616):ctz 64 (x ||| y)=min (ctz 64 x) (ctz 64 y):=by
 obtain ⟨m,h1,_⟩:=fT hx h
 obtain ⟨n,h2,_⟩:=fT hy h'
 have h3:x ||| y≠0:=fun q=>hx (Nat.or_eq_zero_iff.1 q).1
 obtain ⟨l,h4,_⟩:=fT h3 (Nat.or_lt_two_pow (n:=64) h h')
 have hk:∀ k,k≤ctz 64 (x ||| y)↔k≤ctz 64 x∧k≤ctz 64 y:=fun k=>by
  rw [←qg h4,AT,qg h1,qg h2]
 have a:=(hk (ctz 64 (x ||| y))).1 (Nat.le_refl _)
 have b:=(hk (min (ctz 64 x) (ctz 64 y))).2 ⟨Nat.min_le_left _ _,Nat.min_le_right _ _⟩
 omega
theorem vK {x y:Nat} (hx:x≠0) (hy:y≠0) (h:x<18446744073709551616) (h':y<18446744073709551616) :
  Nat.gcd x y=Nat.gcd (x / 2 ^ ctz 64 x) y*2 ^ ctz 64 (x ||| y):=by
 obtain ⟨m,h1,h2⟩:=mz hx h
 obtain ⟨n,_,h4⟩:=mz hy h'
 rw [AU hx hy h h',h1]
 generalize ctz 64 x=a at *
 generalize ctz 64 y=b at *
 subst h2;subst h4
 rw [qf]
 rcases Nat.le_total a b with q | q
 ·obtain ⟨c,rfl⟩:=Nat.exists_eq_add_of_le q
  rw [Nat.min_eq_left q,Nat.pow_add,Nat.mul_assoc,Nat.gcd_mul_left,qf,Nat.mul_comm]
 ·obtain ⟨c,rfl⟩:=Nat.exists_eq_add_of_le q
  rw [Nat.min_eq_right q,Nat.pow_add,Nat.mul_assoc,Nat.gcd_mul_left,Nat.Coprime.gcd_mul_left_cancel _ (ur c n),Nat.mul_comm]
theorem vL {x y:Nat} (hx:x % 2=1) (hy:y≠0) (h':y<18446744073709551616) :
  Nat.gcd (min x (y / 2 ^ ctz 64 y)) (max x (y / 2 ^ ctz 64 y) - min x (y / 2 ^ ctz 64 y))=Nat.gcd x y∧min x (y / 2 ^ ctz 64 y) % 2=1 ∧
   min x (y / 2 ^ ctz 64 y)+(max x (y / 2 ^ ctz 64 y) - min x (y / 2 ^ ctz 64 y))<x+y∧y / 2 ^ ctz 64 y≤y:=by
 obtain ⟨n,h3,h4⟩:=mz hy h'
 have h5:y / 2 ^ ctz 64 y≤y:=Nat.div_le_self _ _
 have h6:Nat.gcd x y=Nat.gcd x (y / 2 ^ ctz 64 y):=by
  rw [h3]
  conv=>lhs;rw [h4]
  obtain ⟨m,rfl⟩:∃ m,x=2*m+1:=⟨x / 2,by omega⟩
  exact qf _ _ _
 rw [h6]
 generalize y / 2 ^ ctz 64 y=z at *
 rcases Nat.le_total x z with q | q
 ·rw [Nat.min_eq_left q,Nat.max_eq_right q]
  exact ⟨Nat.gcd_sub_self_right q,hx,by omega,h5⟩
 ·rw [Nat.min_eq_right q,Nat.max_eq_left q]
  exact ⟨by rw [Nat.gcd_sub_self_right q,Nat.gcd_comm],by omega,by omega,h5⟩
end
section
open Go.RowKit
def aW (w:World):Prop:=TabAt 4 Lib.deBruijn64tab w
theorem zz (x k idx:Nat) (w:World) (hx0:((x:Int)==0)=false)
  (key:IntKind.u64.wrap (bits BinOp.and IntKind.u64 (x:Int) (IntKind.u64.wrap (-(x:Int)))*285870213051353865) / 288230376151711744=(idx:Int))
  (hi:idx<64) (hk:k<64) (hcell:w.cell? ⟨4,idx,none⟩=some (.int .u8 k)) :
  Calls Tryz.prog 188 #[.int .u64 x] w fun e w'=>e = .returned (.int .i64 k)∧w=w':=by
 go_enter Tryz.func188,Tryz.ntmps188
 go_wp2_with (simp only [key])
 go_ret
 exact ⟨rfl,rfl⟩
theorem tr (x:Nat) (w:World) (h0:x≠0) (hx:x<18446744073709551616) (ht:aW w) :
  Calls Tryz.prog 188 #[.int .u64 x] w fun e w'=>e = .returned (.int .i64 (Lib.ctz 64 x:Nat))∧w=w':=by
 obtain ⟨hlow,hk⟩:=Lib.lowest_bit 64 x h0 hx
 obtain ⟨hi,htab⟩:=Lib.deBruijn64_at _ hk
 have hcell:=ht _ hi
 rw [htab] at hcell
 exact zz x _ _ w (by simp;omega) (tz64_key x _ hx h0 hlow) hi hk hcell
theorem lZ (a b:Nat) (ha:a<18446744073709551616) (hb:b<18446744073709551616):bits .or .u64 (a:Int) (b:Int)=((a ||| b:Nat):Int):=by
 have hx:a ||| b<2 ^ 64:=Nat.or_lt_two_pow ha hb
 have h1:(BitVec.ofInt 64 (a:Int)).toNat=a:=by
  rw [BitVec.ofInt_natCast,BitVec.toNat_ofNat];exact Nat.mod_eq_of_lt (by omega)
 have h2:(BitVec.ofInt 64 (b:Int)).toNat=b:=by
  rw [BitVec.ofInt_natCast,BitVec.toNat_ofNat];exact Nat.mod_eq_of_lt (by omega)
 show IntKind.u64.wrap ((BitVec.ofInt 64 (a:Int) ||| BitVec.ofInt 64 (b:Int)).toNat:Int)=_
 rw [BitVec.toNat_or,h1,h2,IntKind.wrap_u64]
 omega
theorem dT (a b:Int) (w:World) (h0 : -9223372036854775808<a) (h1:a≤9223372036854775807) (h2 : -9223372036854775808<b) (h3:b≤9223372036854775807) (ht:aW w) :
  Calls Tryz.prog 149 #[.int .i64 a,.int .i64 b] w fun e W'=>e = .returned (.int .i64 (Nat.gcd a.natAbs b.natAbs:Nat))∧w=W':=by
 have ca:=fun W=>js a W h0 h1
 have cb:=fun W=>js b W h2 h3
 have ha:a.natAbs<9223372036854775808:=by omega
 have hb:b.natAbs<9223372036854775808:=by omega
 have C:=Ha (Hb ca cb)
 have HT:=Ha ht
 clear ca cb h0 h1 h2 h3 ht
 generalize a.natAbs=x at *
 generalize b.natAbs=y at *
 by_cases hz:x=0∨y=0
 ·have hg:((Nat.gcd x y:Nat):Int)=(x:Int)+(y:Int):=by
   rcases hz with h | h
   ·subst h;rw [Nat.gcd_zero_left];simp
   ·subst h;rw [Nat.gcd_zero_right];simp
  rw [hg]
  have hs1:(x:Int)+(y:Int)≤9223372036854775807:=by rcases hz with h | h <;> omega
  by_cases hx:x=0
  ·have hx':((x:Int)==0)=true:=by simp [hx]
   clear hg hz
   go_enter Tryz.func149,Tryz.ntmps149
   go_wp2_with fail
   refine (C.out.1 _).mono ?_
   rintro e w' ⟨rfl,rfl⟩
   go_wp2_with fail
   refine (C.out.2 _).mono ?_
   rintro e w' ⟨rfl,rfl⟩
   go_wp2
   go_ret
   exact ⟨an (by omega),rfl⟩
  ·have hx':((x:Int)==0)=false:=by simp [hx]
   have hy':((y:Int)==0)=true:=by have:=hz.resolve_left hx;simp [this]
   clear hg hz
   go_enter Tryz.func149,Tryz.ntmps149
   go_wp2_with fail
   refine (C.out.1 _).mono ?_
   rintro e w' ⟨rfl,rfl⟩
   go_wp2_with fail
   refine (C.out.2 _).mono ?_
   rintro e w' ⟨rfl,rfl⟩
   go_wp2
   go_ret
   exact ⟨an (by omega),rfl⟩
 ·have hx:x≠0:=fun h=>hz (.inl h)
  have hy:y≠0:=fun h=>hz (.inr h)
  have hx':((x:Int)==0)=false:=by simp [hx]
  have hy':((y:Int)==0)=false:=by simp [hy]
  have hor:bits BinOp.or IntKind.u64 (x:Int) (y:Int)=((x ||| y:Nat):Int):=lZ x y (by omega) (by omega)
  have ct:=fun W (h:aW W)=>tr (x ||| y) W (fun q=>hx (Nat.or_eq_zero_iff.1 q).1) (Nat.or_lt_two_pow (n:=64) (by omega) (by omega)) h
  have cx:=fun W (h:aW W)=>tr x W hx (by omega) h
  have hst:=vK hx hy (by omega) (by omega)
  have hmx:∃ m,x / 2 ^ Lib.ctz 64 x=2*m+1:=by obtain ⟨m,h,_⟩:=mz hx (by omega);exact ⟨m,h⟩
  have HGL:=Ha (show Nat.gcd x y<9223372036854775808 from Nat.lt_of_le_of_lt (Nat.gcd_le_left _ (by omega)) ha)
  have hle:x / 2 ^ Lib.ctz 64 x≤x:=Nat.div_le_self _ _
  have hcx:Lib.ctz 64 x<64:=by obtain ⟨_,_,h⟩:=fT hx (by omega);exact h
  have htt:Lib.ctz 64 (x ||| y)<64:=by obtain ⟨_,_,h⟩:=fT (x:=x ||| y) (fun q=>hx (Nat.or_eq_zero_iff.1 q).1) (Nat.or_lt_two_pow (n:=64) (by omega) (by omega));exact h
  have HT2:=Ha (Hb ct cx)
  clear ct cx hz hx hy
  generalize Lib.ctz 64 (x ||| y)=t at *
  have HST:=Ha (Hb hst (Hb hmx (Hb hle (Hb hcx htt))))
  clear hst hmx hle hor hcx htt
  have HOR:=Ha (lZ x y (by omega) (by omega))
  generalize x ||| y=xy at *
  go_enter Tryz.func149,Tryz.ntmps149
  go_wp2_with fail
  refine (C.out.1 _).mono ?_
  rintro e w' ⟨rfl,rfl⟩
  have HX:=Ha (Hb hx' (Hb hy' (Hb ha hb)))
  clear ha hb hx' hy'
  go_wp2_with fail
  refine (C.out.2 _).mono ?_
  rintro e w' ⟨rfl,rfl⟩
  clear C
  have hx':=HX.out.1
  have hy':=HX.out.2.1
  have hor:=HOR.out
  go_wp2_with fail
  refine (HT2.out.1 _ HT.out).mono ?_
  rintro e w' ⟨rfl,rfl⟩
  clear hor hx' hy'
  go_wp2_with fail
  refine (HT2.out.2 _ HT.out).mono ?_
  rintro e w' ⟨rfl,rfl⟩
  clear HT2
  generalize Lib.ctz 64 x=cx at *
  go_wp2_with fail
  have hst:=HST.out
  have hmin:min cx 64=cx:=by have:=hst.2.2.2.1;omega
  have e0:((x:Int) / 2 ^ cx)=((x / 2 ^ cx:Nat):Int):=by simp
  rw [hmin,e0]
  clear e0 hmin
  have HT64:=Ha hst.2.2.2.2
  clear HST
  generalize hz:x / 2 ^ cx=z at *
  have HG:=Ha hst.1
  obtain ⟨m,hm⟩:=hst.2.1
  have hzl:=hst.2.2.1
  have hx:=HX.out.2.2.1
  have hyl:=HX.out.2.2.2
  clear hst hz HX
  have HZ:=Ha (show z % 2=1∧z<9223372036854775808∧y<9223372036854775808 by omega)
  clear hx hyl hzl hm m
  go_loop [5,6] (fun u v=>∃ X Y:Nat,u = .int .u64 X∧v = .int .u64 Y∧Hid (X % 2=1∧X<9223372036854775808∧Y<9223372036854775808)∧Hid (Nat.gcd X Y=Nat.gcd z y)) (fun u v=>(intOf u+intOf v).toNat)
  case atStart=>exact ⟨z,y,rfl,rfl,HZ,rfl⟩
  case round =>
   obtain ⟨X,Y,rfl,rfl,hb,hg⟩:=hrel
   by_cases hY:Y=0
   ·have hY':((Y:Int)==0)=true:=by simp [hY]
    have hgg:=hg.out
    rw [hY,Nat.gcd_zero_right] at hgg
    have hfin:X*2 ^ t=Nat.gcd x y:=by rw [HG.out,←hgg]
    have hlt:X*2 ^ t<9223372036854775808:=by
     rw [hfin];exact HGL.out
    have HF:=Ha (Hb hfin hlt)
    clear hfin hlt hgg hY
    go_wp2
    go_ret
    refine ⟨an ?_,rfl⟩
    have h1:=HF.out.1
    have h2:=HF.out.2
    have hm:min t 64=t:=by have:=HT64.out;omega
    rw [hm,show ((X:Int)*2 ^ t)=((X*2 ^ t:Nat):Int) by simp,←h1]
    generalize X*2 ^ t=g at *
    rw [IntKind.wrap_u64]
    unfold wrap64
    omega
   ·have hY':((Y:Int)==0)=false:=by simp [hY]
    have hr:=vL hb.out.1 hY (by have:=hb.out.2.2;omega)
    have ct:=tr Y w hY (by have:=hb.out.2.2;omega) HT.out
    have hc64:Lib.ctz 64 Y<64:=by obtain ⟨_,_,h⟩:=fT hY (by have:=hb.out.2.2;omega);exact h
    have HR:=Ha (Hb hr (Hb ct hc64))
    clear hr ct hc64
    generalize Lib.ctz 64 Y=cy at *
    go_wp2_with fail
    refine HR.out.2.1.mono ?_
    rintro e w' ⟨rfl,rfl⟩
    obtain ⟨⟨r1,r2,r3,r4⟩,_,hc64⟩:=HR.out
    obtain ⟨Z,hZ⟩:∃ Z,Y / 2 ^ cy=Z:=⟨_,rfl⟩
    have e1:(Y:Int) / 2 ^ min cy 64=(Z:Int):=by rw [show min cy 64=cy by omega,←hZ];simp
    rw [hZ] at r1 r2 r3 r4
    have hX1:=hb.out.2.1
    have hY1:=hb.out.2.2
    have hX0:=hb.out.1
    by_cases hxz:X≤Z
    ·rw [Nat.min_eq_left hxz] at r1 r2 r3
     rw [Nat.max_eq_right hxz] at r1 r3
     have emin:min (X:Int) (Z:Int)=X:=by omega
     have emax:max (X:Int) (Z:Int)=Z:=by omega
     have HQ:=Ha (Hb (r1.trans hg.out) r3)
     have HW:=Ha (show X % 2=1∧X<9223372036854775808∧Z - X<9223372036854775808 by omega)
     have esub:IntKind.u64.wrap ((Z:Int) - (X:Int))=((Z - X:Nat):Int):=by rw [IntKind.wrap_u64];omega
     have HS:=Ha hxz
     clear r1 r2 r3 r4 hZ HR hb hg hX0 hX1 hY1 hc64 hxz
     go_wp2
     go_round
     case rel=>exact ⟨X,Z - X,rfl,by go_num,HW,HQ.out.1⟩
     case measure=>have:=HQ.out.2;have:=HS.out;simp [intOf];omega
    ·have hxz:Z≤X:=by omega
     rw [Nat.min_eq_right hxz] at r1 r2 r3
     rw [Nat.max_eq_left hxz] at r1 r3
     have emin:min (X:Int) (Z:Int)=Z:=by omega
     have emax:max (X:Int) (Z:Int)=X:=by omega
     have HQ:=Ha (Hb (r1.trans hg.out) r3)
     have HW:=Ha (show Z % 2=1∧Z<9223372036854775808∧X - Z<9223372036854775808 by omega)
     have esub:IntKind.u64.wrap ((X:Int) - (Z:Int))=((X - Z:Nat):Int):=by rw [IntKind.wrap_u64];omega
     have HS:=Ha hxz
     clear r1 r2 r3 r4 hZ HR hb hg hX0 hX1 hY1 hc64 hxz
     go_wp2
     go_round
     case rel=>exact ⟨Z,X - Z,rfl,by go_num,HW,HQ.out.1⟩
     case measure=>have:=HQ.out.2;have:=HS.out;simp [intOf];omega
theorem ef {l:List Nat} {j:Nat} (h:j<l.length):l.drop j=l.getD j 0::l.drop (j+1):=by
 rw [List.drop_eq_getElem_cons h,List.getD_eq_getElem?_getD,List.getElem?_eq_getElem h];rfl
theorem iV {l:List Nat} {j x:Nat} (h:j<l.length):(l.set j x).drop j=x::l.drop (j+1):=by
 rw [ef (by rw [List.length_set];exact h),List.getD_eq_getElem?_getD,List.getElem?_set_self h,List.drop_set_of_lt (Nat.lt_succ_self j)];rfl
theorem kj {la o:List Nat} {b r j:Nat} (hj:j<la.length) (hl:o.length=la.length) (h:toN (la.drop (j+1))=b*toN (o.drop (j+1))+r) :
  toN (la.drop j)=b*toN ((o.set j ((r*1000000000+la.getD j 0) / b)).drop j)+(r*1000000000+la.getD j 0) % b:=by
 rw [ef hj,iV (by omega)]
 show la.getD j 0+B*toN _=b*((r*1000000000+la.getD j 0) / b+B*toN _)+_
 rw [h]
 have e:=Nat.div_add_mod (r*1000000000+la.getD j 0) b
 generalize (r*1000000000+la.getD j 0) / b=q at *
 generalize (r*1000000000+la.getD j 0) % b=s at *
 generalize toN (o.drop (j+1))=T at *
 have hB:B=1000000000:=rfl
 rw [hB,Nat.mul_add b q,Nat.mul_add 1000000000 (b*T) r]
 have:b*(1000000000*T)=1000000000*(b*T):=Nat.mul_left_comm _ _ _
 omega
theorem pJ {b r d:Nat} (hb0:0<b) (hb:b<1000000000) (hr:r<b) (hd:d<1000000000) :
  (r*1000000000+d) / b<1000000000∧(r*1000000000+d) % b<b∧r*1000000000+d<1000000000000000000:=by
 refine ⟨?_,Nat.mod_lt _ hb0,by omega⟩
 rw [Nat.div_lt_iff_lt_mul hb0]
 have:(r+1)*1000000000≤b*1000000000:=Nat.mul_le_mul_right _ hr
 omega
theorem fe (v:Value) (la:List Nat) (b:Nat) (w:World) (ha:Nats w v la) (da:Dig la) (hla:la.length≤1000000) (hb0:0<b) (hb:b<1000000000) :
  Calls Tryz.prog 215 #[v,.int .u64 b] w fun e W'=>∃ q,e = .returned (.tuple #[q,.int .u64 (toN la % b:Nat)])∧IsNat W' q (toN la / b)∧Fresh w.heap.size q∧Below w.heap.size w W':=by
 obtain ⟨pa,capa,rfl,ha1,ha2,ha3⟩:=ha
 have HA:=Ha ha3;clear ha3
 obtain ⟨i0,hi,hz0,hz1,hz2⟩:=info_parts di
 have HI:=Ha (Hb hi (Hb hz0 (Hb hz1 hz2)));clear hi hz0 hz1 hz2
 have HD:=Ha da;clear da
 have hne:((b:Int)==0)=false:=by rw [beq_eq_false_iff_ne];omega
 have hne2:¬ (b:Int)=0:=by omega
 go_enter Tryz.func215,Tryz.ntmps215
 go_wp2_with (at_make;refine wpList_make_full _ rfl _ _ 182 rfl w.heap.size 143 i0 (.int .u64 0) 1 Tryz.underlying182 HI.out.1 HI.out.2.1 HI.out.2.2.1 .i64 .i64 _ _ (la.length) rfl rfl (by omega) (by omega) (by rw [HI.out.2.2.2];omega) (by unfold maxLen;omega) (Nat.le_refl _) ?_;intro w1 hown hgrow)
 have hrow:=Row.of_made hown
 have hB1:Below w.heap.size w w1:=(Below.refl _ w).grown hgrow (Nat.le_refl _) (fun k e=>by cases e)
 have hgl:=hrow.lt
 clear hown hgrow
 generalize hg:w.heap.size=g at *
 have HG:=Ha hg;clear hg
 go_loopw [7,8] (fun y x wr=>∃ (r j:Nat) (o:List Nat),j≤la.length∧x = .int .i64 ((j:Int) - 1)∧y = .int .u64 r∧r<b∧Row wr g o∧o.length=la.length∧Hid (Dig o)∧Hid (toN (la.drop j)=b*toN (o.drop j)+r)∧Below g w wr)
  (fun _ x _=>(intOf x+1).toNat)
 case atStart =>
  exact ⟨0,la.length,List.replicate la.length 0,Nat.le_refl _,by go_num,rfl,hb0,hrow,List.length_replicate,Dig.replicate _,by show toN _=_;rw [List.drop_length,List.drop_eq_nil_of_le (by rw [List.length_replicate];exact Nat.le_refl _)];simp [toN],hB1⟩
 case round =>
  clear hrow hB1 hgl
  obtain ⟨r,j,o,hj,rfl,rfl,hr,hrow,hlen,hdig,hval,hbel⟩:=hrel
  cases j with
  | zero =>
   have hv:toN la=b*toN o+r:=hval.out
   have hq:toN la / b=toN o:=by rw [hv,Nat.mul_add_div hb0,Nat.div_eq_of_lt hr,Nat.add_zero]
   have hm:toN la % b=r:=by rw [hv,Nat.mul_add_mod,Nat.mod_eq_of_lt hr]
   have hN0:Nats wr (.slice (some ⟨g,0,none⟩) o.length la.length) o:=hrow.nats (by omega) (by omega)
   have ct:=bv _ _ o wr hN0 hdig.out
   have hn:=hN0.take (aK hdig.out)
   rw [hlen] at ct
   rw [←hq] at ct hn
   have HM:=Ha hm
   have CT:=Ha ct
   have HN:=Ha hn
   have HBL:=Ha hbel
   clear hval ct hn hv hN0 hm hq hbel hrow
   go_wp2_with fail
   refine CT.out.mono ?_
   clear CT
   rintro e w' ⟨rfl,rfl⟩
   go_wp2
   go_ret2
   refine ⟨.slice (some ⟨g,0,none⟩) (dg (toN la / b)).length la.length,?_,HN.out,fun k hk=>by cases hk;exact Nat.le_of_eq HG.out,by rw [HG.out];exact HBL.out⟩
   show Ending.returned (.tuple #[.slice (some ⟨g,0,none⟩) (dg (toN la / b)).length la.length,.int .u64 (r:Nat)])=_
   rw [HM.out]
  | succ j =>
   obtain ⟨ab,aoff,rfl,hca⟩:=HA.out (by intro e;subst e;simp at hj)
   have ca0:=hca j (by omega)
   have cax:wr.cell? ⟨ab,aoff+j,none⟩=some (.int .u64 (la.getD j 0:Nat)):=(hbel.cell (p:=⟨ab,aoff+j,none⟩) (by rw [←HG.out];exact World.block_lt_of_cell? w _ ca0)).trans ca0
   clear ca0 hca
   have co:=hrow.cell (i:=j) (by omega)
   have fo:=hrow.frozen j
   have hst:=kj (la:=la) (o:=o) (b:=b) (r:=r) (j:=j) (by omega) hlen hval.out
   have hx:=HD.out.getD j
   have hbd:=pJ hb0 hb hr hx
   have R3:=hrow.set j ((r*1000000000+la.getD j 0) / b)
   generalize la.getD j 0=x at *
   have HS:=Ha (Hb hst (Hb hbd R3))
   clear hst hbd R3 hval
   have hr':(r:Int)≤999999998:=by omega
   go_wp2
   have ht:(r:Int)*1000000000+(x:Int)=((r*1000000000+x:Nat):Int):=by rw [Int.natCast_add,Int.natCast_mul];rfl
   rw [ht]
   clear ht
   obtain ⟨t,ht⟩:∃ t,r*1000000000+x=t:=⟨_,rfl⟩
   rw [ht] at HS
   rw [ht]
   have q1:((t / b:Nat):Int)=(t:Int) / (b:Int):=Int.natCast_ediv _ _
   have q2:((t % b:Nat):Int)=(t:Int) % (b:Int):=Int.natCast_emod _ _
   have hq:t / b<1000000000:=HS.out.2.1.1
   have hm:t % b<b:=HS.out.2.1.2.1
   have ht1:t<1000000000000000000:=HS.out.2.1.2.2
   have w1:0≤(t:Int) / (b:Int):=Int.ediv_nonneg (by omega) (by omega)
   have w2:(t:Int) / (b:Int)≤999999999:=by rw [←q1];clear q1 q2;generalize t / b=qq at hq;omega
   have hb1:¬ b=0:=by omega
   have Q:=Ha (Hb q1 q2)
   clear q1 q2 ht hr' hq hm
   have hjl:(j:Int)<(la.length:Int):=by omega
   go_region_held3 (fun w'=>w'.frozen? ⟨g,j,none⟩=false) (go_keep) (fail)
   rw [←Q.out.1]
   go_wp2
   go_roundw
   case rel =>
    obtain ⟨s1,⟨s2,s3,_⟩,s4⟩:=HS.out
    refine ⟨t % b,j,o.set j (t / b),by omega,by go_num,by rw [Q.out.2];first | done | rfl | (rw [Int.tmod_eq_emod_of_nonneg (by omega)]),s3,s4,by rw [List.length_set];exact hlen,hdig.out.set _ s2,s1,?_⟩
    exact (hbel.setCell (p:=⟨g,j,none⟩) (Nat.le_refl _) _).drew
   case measure=>simp [intOf]
end
section
theorem gW (d:Nat) (l:List Nat):toN (d::l)=d+B*toN l:=rfl
theorem xL {l:List Nat} {k:Nat} (hd:Dig l) (h:l.length=k+2) :
  ∃ low,low<B ^ k∧toN l=low+B ^ k*(l.getD (k+1) 0*B+l.getD k 0):=by
 have h1:=aB l k (by omega)
 have h2:=aB l (k+1) (by omega)
 rw [List.take_of_length_le (by omega)] at h2
 have h3:=cI (hd.take k)
 rw [List.length_take,Nat.min_eq_left (by omega)] at h3
 refine ⟨_,h3,?_⟩
 rw [h2,h1,Nat.pow_succ,Nat.mul_assoc,Nat.add_assoc,←Nat.mul_add,Nat.mul_comm B,Nat.add_comm (l.getD k 0)]
theorem xM {l:List Nat} {k:Nat} (hd:Dig l) (h:l.length=k+3) :
  ∃ low,low<B ^ k∧toN l=low+B ^ k*((l.getD (k+2) 0*B+l.getD (k+1) 0)*B+l.getD k 0):=by
 have h1:=aB l k (by omega)
 have h2:=aB l (k+1) (by omega)
 have h4:=aB l (k+2) (by omega)
 rw [List.take_of_length_le (by omega)] at h4
 have h3:=cI (hd.take k)
 rw [List.length_take,Nat.min_eq_left (by omega)] at h3
 refine ⟨_,h3,?_⟩
 rw [h4,h2,h1,show B ^ (k+2)=B ^ k*B*B by rw [Nat.pow_succ,Nat.pow_succ],Nat.pow_succ]
 generalize B ^ k=P
 generalize toN (l.take k)=z
 generalize l.getD (k+2) 0=a
 generalize l.getD (k+1) 0=b
 generalize l.getD k 0=c
 rw [Nat.mul_add P]
 have e1:P*B*b=P*(b*B):=by rw [Nat.mul_assoc,Nat.mul_comm B b]
 have e2:P*B*B*a=P*(a*B*B):=by rw [Nat.mul_assoc P,Nat.mul_assoc P,Nat.mul_comm (B*B) a,←Nat.mul_assoc a]
 have e3:P*((a*B+b)*B)=P*(a*B*B)+P*(b*B):=by rw [Nat.add_mul,Nat.mul_add]
 omega
theorem AV {W Y lw ly P U V t:Nat} (hw:W=lw+P*U) (hy:Y=ly+P*V) (hlw:lw<P) (h:U<t*V):W<t*Y:=by
 have h1:P*(U+1)≤P*(t*V):=Nat.mul_le_mul_left _ h
 have h2:t*Y=t*ly+P*(t*V):=by rw [hy,Nat.mul_add,Nat.mul_left_comm]
 rw [Nat.mul_add,Nat.mul_one] at h1
 omega
theorem AW {W Y lw ly P U V t:Nat} (hw:W=lw+P*U) (hy:Y=ly+P*V) (hly:ly<P) (hb:t≤V) (h:t*V≤U):t*Y≤W+Y:=by
 cases t with
 | zero=>omega
 | succ t =>
  have h1:t*ly≤t*P:=Nat.mul_le_mul_left _ (by omega)
  have h2:P*((t+1)*V)≤P*U:=Nat.mul_le_mul_left _ h
  have h3:P*t≤P*V:=Nat.mul_le_mul_left _ (by omega)
  have h4:(t+1)*Y=t*ly+P*(t*V)+Y:=by rw [Nat.succ_mul];conv=>lhs;lhs;rw [hy,Nat.mul_add,Nat.mul_left_comm]
  have h5:P*((t+1)*V)=P*(t*V)+P*V:=by rw [Nat.succ_mul,Nat.mul_add]
  rw [Nat.mul_comm t P] at h1
  omega
theorem zA {W Y lw ly P top d f s:Nat} (hw:W=lw+P*(top*B+d)) (hy:Y=ly+P*(f*B+s)) (hlw:lw<P) (hd:d<B) (hf:0<f) (hlt:W<B*Y) :
  W<(min (top / f) (B - 1)+1)*Y:=by
 have h1:W<(top / f+1)*Y:=by
  have h2:top<(top / f+1)*f:=by rw [Nat.mul_comm];exact Nat.lt_mul_div_succ top hf
  have h3:P*(B*(top+1))≤P*(B*((top / f+1)*f)):=Nat.mul_le_mul_left _ (Nat.mul_le_mul_left _ h2)
  have h4:(top / f+1)*Y=(top / f+1)*ly+(top / f+1)*(P*s)+P*(B*((top / f+1)*f)):=by
   generalize top / f+1=t
   rw [hy,Nat.mul_add P,Nat.mul_add,Nat.mul_add]
   have:t*(P*(f*B))=P*(B*(t*f)):=by
    rw [Nat.mul_left_comm,Nat.mul_comm f B,Nat.mul_left_comm t B]
   omega
  have h5:P*(top*B+d+1)≤P*(B*(top+1)):=Nat.mul_le_mul_left _ (by rw [Nat.mul_add,Nat.mul_one,Nat.mul_comm B top];omega)
  rw [Nat.mul_add P _ 1,Nat.mul_one] at h5
  omega
 by_cases hm:top / f≤B - 1
 ·rwa [Nat.min_eq_left hm]
 ·rw [Nat.min_eq_right (by omega),Nat.sub_add_cancel bP];exact hlt
theorem xN {W Y lw ly P top d f s t:Nat} (hw:W=lw+P*(top*B+d)) (hy:Y=ly+P*(f*B+s)) (hlw:lw<P) (hf:t*f≤top) (h:(top - t*f)*B+d<t*s):W<t*Y:=by
 refine AV hw hy hlw ?_
 rw [Nat.mul_add,←Nat.mul_assoc]
 have:top*B=t*f*B+(top - t*f)*B:=by rw [←Nat.add_mul];congr 1;omega
 omega
theorem xO {W Y lw ly P top d f s t:Nat} (hw:W=lw+P*(top*B+d)) (hy:Y=ly+P*(f*B+s)) (hly:ly<P) (hf:t*f≤top) (ht:t<B) (hs:s<B) (hf0:0<f) (h:t*s≤(top - t*f)*B+d∨B≤top - t*f):t*Y≤W+Y:=by
 refine AW hw hy hly ?_ ?_
 ·have:1*B≤f*B:=Nat.mul_le_mul_right _ hf0
  omega
 ·rw [Nat.mul_add,←Nat.mul_assoc]
  have h1:top*B=t*f*B+(top - t*f)*B:=by rw [←Nat.add_mul];congr 1;omega
  rcases h with h | h
  ·omega
  ·have h2:B*B≤(top - t*f)*B:=Nat.mul_le_mul_right _ h
   have h3:t*s≤B*B:=Nat.mul_le_mul (Nat.le_of_lt ht) (Nat.le_of_lt hs)
   omega
theorem xP {p x y t c P Yp Xp:Nat} (hx:x<1000000000) (hy:y<1000000000) (ht:t<1000000000) (hc:c<1000000000) (h:p+t*Yp=Xp+P*c) :
  let u:=t*y+c
  (x<u % 1000000000→u / 1000000000+1<1000000000∧x+1000000000 - u % 1000000000<1000000000∧p+P*(x+1000000000 - u % 1000000000)+t*(Yp+P*y)=Xp+P*x+P*B*(u / 1000000000+1)) ∧
  (u % 1000000000≤x→u / 1000000000<1000000000∧x - u % 1000000000<1000000000∧p+P*(x - u % 1000000000)+t*(Yp+P*y)=Xp+P*x+P*B*(u / 1000000000)):=by
 intro u
 have hu:u≤999999998000000001+999999999:=by have:=eZ ht hy;show t*y+c≤_;omega
 have e0:t*(Yp+P*y)=t*Yp+P*(t*y):=by rw [Nat.mul_add,Nat.mul_left_comm]
 have e1:P*u=P*(t*y)+P*c:=Nat.mul_add _ _ _
 have e2:P*u=P*B*(u / 1000000000)+P*(u % 1000000000):=by
  rw [Nat.mul_assoc,←Nat.mul_add,dH];congr 1;omega
 constructor
 ·intro hlt
  refine ⟨by omega,by omega,?_⟩
  have e3:P*(x+1000000000 - u % 1000000000)+P*(u % 1000000000)=P*x+P*B:=by
   rw [←Nat.mul_add,dH,←Nat.mul_add];congr 1;omega
  rw [Nat.mul_add (P*B),Nat.mul_one]
  omega
 ·intro hle
  refine ⟨by omega,by omega,?_⟩
  have e3:P*(x - u % 1000000000)+P*(u % 1000000000)=P*x:=by rw [←Nat.mul_add];congr 1;omega
  omega
theorem vM {x' X Y t P c top:Nat} (h:x'+t*Y=X+P*c) (hx:x'<P) (hY:Y<P) (hb:t*Y≤X+P*top+Y):c≤top+1:=by
 apply Decidable.byContradiction
 intro hc
 have:P*(top+2)≤P*c:=Nat.mul_le_mul_left _ (by omega)
 rw [Nat.mul_add] at this
 omega
theorem zB {x' X Y t P c top:Nat} (h:x'+t*Y=X+P*c) (hY:Y<P) (hup:X+P*top<(t+1)*Y) (hc:c≤top) :
  c=top∧t=(X+P*top) / Y∧x'=(X+P*top) % Y:=by
 have h1:P*c≤P*top:=Nat.mul_le_mul_left _ hc
 rw [Nat.succ_mul] at hup
 have hct:c=top:=by
  apply Decidable.byContradiction
  intro hne
  have:P*(c+1)≤P*top:=Nat.mul_le_mul_left _ (by omega)
  rw [Nat.mul_add,Nat.mul_one] at this
  omega
 subst hct
 refine ⟨rfl,?_⟩
 rw [←h]
 have hlt:x'<Y:=by omega
 constructor
 ·rw [Nat.add_mul_div_right _ _ (by omega),Nat.div_eq_of_lt hlt,Nat.zero_add]
 ·rw [Nat.add_mul_mod_self_right,Nat.mod_eq_of_lt hlt]
theorem vN {x' X Y t P top:Nat} (h:x'+t*Y=X+P*(top+1)) (hx:x'<P) (hb:t*Y≤X+P*top+Y) (ht:0<t) :
  P≤x'+Y∧t - 1=(X+P*top) / Y∧x'+Y - P=(X+P*top) % Y:=by
 rw [Nat.mul_add,Nat.mul_one] at h
 have h1:P≤x'+Y:=by omega
 refine ⟨h1,?_⟩
 obtain ⟨s,rfl⟩:∃ s,t=s+1:=⟨t - 1,by omega⟩
 rw [Nat.succ_mul] at h
 have h2:X+P*top=(x'+Y - P)+s*Y:=by omega
 have hlt:x'+Y - P<Y:=by omega
 rw [h2,Nat.add_sub_cancel]
 constructor
 ·rw [Nat.add_mul_div_right _ _ (by omega),Nat.div_eq_of_lt hlt,Nat.zero_add]
 ·rw [Nat.add_mul_mod_self_right,Nat.mod_eq_of_lt hlt]
theorem lu {v:Nat} (hv:v<1000000000):1≤1000000000 / (v+1):=by
 rw [Nat.le_div_iff_mul_le (by omega)];omega
theorem rX {v:Nat} (h0:0<v):1000000000 / (v+1)<1000000000:=Nat.div_lt_self (by decide) (by omega)
theorem nW {b n:Nat} (hn:(dg b).length=n+1):(dg (b*(1000000000 / ((dg b).getD n 0+1)))).length=n+1:=by
 have hb:b≠0:=fun e=>by rw [e,av] at hn;simp at hn
 obtain ⟨r,h1,h2,h3⟩:=fN b hb
 rw [hn,Nat.add_sub_cancel] at h1 h2 h3
 have hv:=(aq b).getD n
 generalize (dg b).getD n 0=v at *
 have hs:=lu hv
 have hm:(v+1)*(1000000000 / (v+1))≤B:=Nat.mul_div_le _ _
 generalize 1000000000 / (v+1)=s at *
 have hup:b*s<B ^ (n+1):=by
  have h4:b<B ^ n*(v+1):=by rw [Nat.mul_add,Nat.mul_one];omega
  have h5:b*s<B ^ n*(v+1)*s:=Nat.mul_lt_mul_of_pos_right h4 (by omega)
  rw [Nat.mul_assoc] at h5
  exact Nat.lt_of_lt_of_le h5 (by rw [Nat.pow_succ];exact Nat.mul_le_mul_left _ hm)
 have hlo:B ^ n≤b*s:=by
  have h4:B ^ n*1≤B ^ n*v:=Nat.mul_le_mul_left _ h2
  have h5:b*1≤b*s:=Nat.mul_le_mul_left _ hs
  omega
 have h6:=(ak (b*s) (n+1)).2 hup
 have h7:¬ (dg (b*s)).length≤n:=fun h=>by have:=(ak (b*s) n).1 h;omega
 omega
theorem kQ {b n:Nat} (hn:(dg b).length=n+1):0<(dg b).getD n 0:=by
 have hb:b≠0:=fun e=>by rw [e,av] at hn;simp at hn
 obtain ⟨r,h1,h2,h3⟩:=fN b hb
 rwa [hn,Nat.add_sub_cancel] at h2
theorem oX {S x A X Y Q P:Nat} (h:S=A+P*x+P*B*(X+Y*Q)) :
  S=A+P*((x+B*X) % Y+Y*((x+B*X) / Y+B*Q)):=by
 have e:=Nat.mod_add_div (x+B*X) Y
 rw [h,Nat.add_assoc]
 congr 1
 rw [Nat.mul_assoc,←Nat.mul_add]
 congr 1
 rw [Nat.mul_add Y,←Nat.add_assoc,e,Nat.mul_add B,Nat.add_assoc,Nat.mul_left_comm B Y Q]
theorem nX {a b s m n la:Nat} {l:List Nat} (ha:a<B ^ la) (hn:B ^ n≤b) (hs:0<s) (hl:toN l=a*s) (hll:l.length=la+1) (hm:la≤m+1+n) (hml:m≤la) :
  toN (l.drop (m+1))<b*s:=by
 have h1:toN l=toN (l.take (m+1))+B ^ (m+1)*toN (l.drop (m+1)):=by
  conv=>lhs;rw [←List.take_append_drop (m+1) l]
  rw [bJ,List.length_take,Nat.min_eq_left (by omega)]
 apply Decidable.byContradiction
 intro hc
 have h2:b*s≤toN (l.drop (m+1)):=by omega
 have h3:B ^ n*s≤toN (l.drop (m+1)):=Nat.le_trans (Nat.mul_le_mul_right _ hn) h2
 have h4:B ^ (m+1)*(B ^ n*s)≤a*s:=by
  rw [←hl,h1];exact Nat.le_trans (Nat.mul_le_mul_left _ h3) (Nat.le_add_left _ _)
 rw [←Nat.mul_assoc,←Nat.pow_add] at h4
 have h5:=Nat.le_of_mul_le_mul_right h4 hs
 have h6:B ^ la≤B ^ (m+1+n):=Nat.pow_le_pow_right bP (by omega)
 omega
theorem dt (a b s:Nat) (hs:0<s):a*s / (b*s)=a / b∧a*s % (b*s)=a % b*s:=by
 refine ⟨Nat.mul_div_mul_right a b hs,?_⟩
 rw [Nat.mul_mod_mul_right]
end
end Go.Proofs.YtjdomibbaemdnaaGreatDoor
