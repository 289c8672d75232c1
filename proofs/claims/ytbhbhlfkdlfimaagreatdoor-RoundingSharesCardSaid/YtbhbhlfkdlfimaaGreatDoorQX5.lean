/- Parts of the proof of the text YtbhbhlfkdlfimaaGreatDoorQX29. -/
import Derived.Deep.RegionHeld3
import Derived.Test.YtbhbhlfkdlfimaaGreatDoorQX1
import Derived.Test.YtbhbhlfkdlfimaaGreatDoorQX2
import Derived.Test.YtbhbhlfkdlfimaaGreatDoorQX3
import Derived.Test.YtbhbhlfkdlfimaaGreatDoorQX4
set_option linter.all false
set_option maxRecDepth 100000
set_option maxHeartbeats 8000000
namespace Go.Proofs.YtbhbhlfkdlfimaaGreatDoor
section
open Go.RowKit
theorem gx (c:UInt8) (t:List UInt8):ah (c::t)=(c.toNat - 48)*10 ^ t.length+ah t:=by
 have h:=eI [c] t
 rw [List.singleton_append] at h
 rw [h]
 show (0*10+(c.toNat - 48))*_+_=_
 rw [Nat.zero_mul,Nat.zero_add]
theorem Aa {x y p q r:Nat} (hp:p<r) (hq:q<r):bM (x*r+p) (y*r+q)=if x<y then -1 else if y<x then 1 else bM p q:=by
 by_cases h:x<y
 ·have h1:x*r+r≤y*r:=by rw [←Nat.succ_mul];exact Nat.mul_le_mul_right r h
  rw [if_pos h,cT (by omega)]
 ·rw [if_neg h]
  by_cases h2:y<x
  ·have h1:y*r+r≤x*r:=by rw [←Nat.succ_mul];exact Nat.mul_le_mul_right r h2
   rw [if_pos h2,dY (by omega)]
  ·have:x=y:=by omega
   subst this
   rw [if_neg h2]
   unfold bM
   simp only [Nat.add_lt_add_iff_left]
theorem u9:∀ (l m:List UInt8),l.length=m.length→(∀ c∈l,aA c=true)→(∀ c∈m,aA c=true)→Lib.compareBytes l m=bM (ah l) (ah m)
 | [],[],_,_,_=>rfl
 | [],_::_,h,_,_=>by simp at h
 | _::_,[],h,_,_=>by simp at h
 | a::l,b::m,h,h1,h2=>by
  have hl:l.length=m.length:=by simpa using h
  have ih:=u9 l m hl (fun c hc=>h1 c (by simp [hc])) (fun c hc=>h2 c (by simp [hc]))
  have da:=(az a).1 (h1 a (by simp))
  have db:=(az b).1 (h2 b (by simp))
  have p:=aX l (fun c hc=>h1 c (by simp [hc]))
  have q:=aX m (fun c hc=>h2 c (by simp [hc]))
  rw [gx,gx,←hl,Aa p (by rw [hl];exact q),←ih]
  show (if a<b then (-1:Int) else if b<a then 1 else Lib.compareBytes l m)=_
  have e1:(a<b)↔(a.toNat - 48<b.toNat - 48):=by rw [UInt8.lt_iff_toNat_lt];omega
  have e2:(b<a)↔(b.toNat - 48<a.toNat - 48):=by rw [UInt8.lt_iff_toNat_lt];omega
  simp only [e1,e2]
theorem Ab {l m:List UInt8} {x y:Nat} (hl:l=Lib.decDigits x) (hm:m=Lib.decDigits y) (h:l.length≠m.length):bM x y=bM l.length m.length:=by
 subst hl hm
 rw [Lib.decDigits_length,Lib.decDigits_length] at *
 have key:∀ u v,Lib.nDigits u<Lib.nDigits v→u<v:=fun u v h=>by
  have h1:=Lib.lt_pow_nDigits u
  have h2:=(bh v (Lib.nDigits u) (Lib.nDigits_pos u))
  have h3:¬ v<10 ^ Lib.nDigits u:=fun hc=>by have:=h2.2 hc;omega
  omega
 rcases Nat.lt_or_gt_of_ne h with h | h
 ·rw [cT h,cT (key _ _ h)]
 ·rw [dY h,dY (key _ _ h)]
theorem iq (a b:ByteArray) (x y:Nat) (w:World) (ha:a.data.toList=Lib.decDigits x) (hb:b.data.toList=Lib.decDigits y) (_sa:a.size≤1000000) (_sb:b.size≤1000000) :
  Calls Tryz.prog 53 #[.string a,.string b] w fun e W'=>e = .returned (.int .i64 (bM x y))∧w=W':=by
 by_cases hne:a.size=b.size
 ·have hc:Lib.compareBytes a.data.toList b.data.toList=bM x y:=by
   rw [u9 _ _ (by rw [ag,ag];exact hne) (by rw [ha];exact bg x) (by rw [hb];exact bg y),ha,hb,cU,cU]
  have HC:=Ha hc;clear hc ha hb
  have hq:((a.size:Int) != b.size)=false:=by rw [hne];simp
  clear hne
  go_enter Tryz.func53,Tryz.ntmps53
  go_wp2_with fail
  refine (Tryz.strings_Compare a b _).mono ?_
  rintro e w' ⟨rfl,rfl⟩
  go_wp2
  go_ret
  exact ⟨ao HC.out,rfl⟩
 ·have hc:Lib.compareInt (a.size:Int) (b.size:Int)=bM x y:=by
   rw [rC,Ab ha hb (by rw [ag,ag];exact hne),ag,ag]
  have HC:=Ha hc;clear hc ha hb
  have hq:((a.size:Int) != b.size)=true:=by rw [bne_iff_ne];omega
  clear hne
  go_enter Tryz.func53,Tryz.ntmps53
  go_wp2_with fail
  refine (Tryz.cmp_Compare_int _ _ _).mono ?_
  rintro e w' ⟨rfl,rfl⟩
  go_wp2
  go_ret
  exact ⟨ao HC.out,rfl⟩
def bF (x y:Int):Int:=if x<y then -1 else if y<x then 1 else 0
theorem yB {l:List UInt8} (h:chk l=0):szL l=Lib.decDigits (ah (szL l)):=by
 have h1:=dy l h
 have h2:=iX (valOf l)
 rw [h1] at h2
 rw [h2,cU]
theorem mF {l:List UInt8} (h:chk l=0):aw l=decide (valOf l<0):=by
 have:=bH (valOf l)
 rwa [dy l h] at this
theorem Ct (x y:Nat):bM x y=bF x y:=by
 rcases Nat.lt_trichotomy x y with h | h | h
 ·rw [cT h];unfold bF;rw [if_pos (by omega)]
 ·rw [lM h];unfold bF;rw [if_neg (by omega),if_neg (by omega)]
 ·rw [dY h];unfold bF;rw [if_neg (by omega),if_pos (by omega)]
theorem Cu (x y:Int):bF (-x) (-y)=bF y x:=by
 unfold bF
 by_cases h:y<x
 ·rw [if_pos (by omega),if_pos h]
 ·rw [if_neg (by omega),if_neg h]
  by_cases h2:x<y
  ·rw [if_pos (by omega),if_pos h2]
  ·rw [if_neg (by omega),if_neg h2]
theorem vc (a b:ByteArray) (w:World) (ha:a.size≤maxLen) (hb:b.size≤maxLen) :
  Calls Tryz.prog 15 #[.string a,.string b] w fun e W'=>e = .returned (.tuple #[.int .i64 (if c9 a.data.toList b.data.toList=0 then bF (valOf a.data.toList) (valOf b.data.toList) else 0),.int .i64 (c9 a.data.toList b.data.toList)])∧w=W':=by
 have cb:=bW a b w ha hb
 generalize he:c9 a.data.toList b.data.toList=e at *
 have CB:=Ha cb;clear cb
 by_cases h0:e=0
 ·subst h0
  rw [if_pos rfl]
  obtain ⟨k1,k2⟩:=ip he
  have s1:=bP k1
  have s2:=bP k2
  have NA:=Ha (fun W=>bK a W)
  have NB:=Ha (fun W=>bK b W)
  have n1:=mF k1
  have n2:=mF k2
  have vA:=bY a.data.toList
  have vB:=bY b.data.toList
  have d1:(szB a).data.toList=Lib.decDigits (ah (szL a.data.toList)):=by rw [bL];exact yB k1
  have d2:(szB b).data.toList=Lib.decDigits (ah (szL b.data.toList)):=by rw [bL];exact yB k2
  have z1:=eK a
  have z2:=eK b
  cases na:aw a.data.toList <;> cases nb:aw b.data.toList
  ·-- both not negative
   rw [na] at NA n1 vA;rw [nb] at NB n2 vB
   have cs:=fun W=>iq a b (ah (szL a.data.toList)) (ah (szL b.data.toList)) W (by rw [←d1];unfold szB;rw [na];rfl) (by rw [←d2];unfold szB;rw [nb];rfl) (by omega) (by omega)
   have hz:bM (ah (szL a.data.toList)) (ah (szL b.data.toList))=bF (valOf a.data.toList) (valOf b.data.toList):=by
    rw [Ct,vA,vB];rfl
   have HS:=Ha (Hb cs hz)
   clear n1 n2 vA vB d1 d2 cs hz na nb he k1 k2 z1 z2
   go_enter Tryz.func15,Tryz.ntmps15
   go_wp2_with fail
   refine CB.out.mono ?_
   rintro e w' ⟨rfl,rfl⟩
   go_wp2_with fail
   refine (NA.out _).mono ?_
   rintro e w' ⟨rfl,rfl⟩
   go_wp2_with fail
   refine (NA.out _).mono ?_
   rintro e w' ⟨rfl,rfl⟩
   go_wp2_with fail
   refine (NB.out _).mono ?_
   rintro e w' ⟨rfl,rfl⟩
   go_wp2_with fail
   refine (HS.out.1 _).mono ?_
   rintro e w' ⟨rfl,rfl⟩
   go_wp2
   go_ret2
   exact ⟨fg HS.out.2 rfl,rfl⟩
  ·rw [na] at NA n1;rw [nb] at NB n2
   have hz:bF (valOf a.data.toList) (valOf b.data.toList)=1:=by
    have x1:¬ valOf a.data.toList<0:=by simpa using n1.symm
    have x2:valOf b.data.toList<0:=by simpa using n2.symm
    unfold bF;rw [if_neg (by omega),if_pos (by omega)]
   have HS:=Ha hz
   clear n1 n2 vA vB d1 d2 hz na nb he k1 k2 z1 z2
   go_enter Tryz.func15,Tryz.ntmps15
   go_wp2_with fail
   refine CB.out.mono ?_
   rintro e w' ⟨rfl,rfl⟩
   go_wp2_with fail
   refine (NA.out _).mono ?_
   rintro e w' ⟨rfl,rfl⟩
   go_wp2_with fail
   refine (NA.out _).mono ?_
   rintro e w' ⟨rfl,rfl⟩
   go_wp2_with fail
   refine (NB.out _).mono ?_
   rintro e w' ⟨rfl,rfl⟩
   go_wp2
   go_ret2
   exact ⟨fg HS.out.symm rfl,rfl⟩
  ·rw [na] at NA n1;rw [nb] at NB n2
   have hz:bF (valOf a.data.toList) (valOf b.data.toList) = -1:=by
    have x1:valOf a.data.toList<0:=by simpa using n1.symm
    have x2:¬ valOf b.data.toList<0:=by simpa using n2.symm
    unfold bF;rw [if_pos (by omega)]
   have HS:=Ha hz
   clear n1 n2 vA vB d1 d2 hz na nb he k1 k2 z1 z2
   go_enter Tryz.func15,Tryz.ntmps15
   go_wp2_with fail
   refine CB.out.mono ?_
   rintro e w' ⟨rfl,rfl⟩
   go_wp2_with fail
   refine (NA.out _).mono ?_
   rintro e w' ⟨rfl,rfl⟩
   go_wp2_with fail
   refine (NB.out _).mono ?_
   rintro e w' ⟨rfl,rfl⟩
   go_wp2_with fail
   refine (NA.out _).mono ?_
   rintro e w' ⟨rfl,rfl⟩
   go_wp2
   go_ret2
   exact ⟨fg HS.out.symm rfl,rfl⟩
  ·rw [na] at NA vA;rw [nb] at NB vB
   have cs:=fun W=>iq (szB b) (szB a) (ah (szL b.data.toList)) (ah (szL a.data.toList)) W d2 d1 (by omega) (by omega)
   have hz:bM (ah (szL b.data.toList)) (ah (szL a.data.toList))=bF (valOf a.data.toList) (valOf b.data.toList):=by
    rw [Ct,vA,vB,if_pos rfl,if_pos rfl,Cu]
   have HS:=Ha (Hb cs hz)
   clear n1 n2 vA vB d1 d2 cs hz na nb he k1 k2 z1 z2
   go_enter Tryz.func15,Tryz.ntmps15
   go_wp2_with fail
   refine CB.out.mono ?_
   rintro e w' ⟨rfl,rfl⟩
   go_wp2_with fail
   refine (NA.out _).mono ?_
   rintro e w' ⟨rfl,rfl⟩
   go_wp2_with fail
   refine (NB.out _).mono ?_
   rintro e w' ⟨rfl,rfl⟩
   go_wp2_with fail
   refine (cF b _ hb).mono ?_
   rintro e w' ⟨rfl,rfl⟩
   go_wp2_with fail
   refine (cF a _ ha).mono ?_
   rintro e w' ⟨rfl,rfl⟩
   go_wp2_with fail
   refine (HS.out.1 _).mono ?_
   rintro e w' ⟨rfl,rfl⟩
   go_wp2
   go_ret2
   exact ⟨fg HS.out.2 rfl,rfl⟩
 ·have hn:(e != 0)=true:=by simpa using h0
  rw [if_neg h0]
  clear he h0
  go_enter Tryz.func15,Tryz.ntmps15
  go_wp2_with fail
  refine CB.out.mono ?_
  rintro e w' ⟨rfl,rfl⟩
  clear CB
  go_wp2
  go_ret2
  exact ⟨rfl,rfl⟩
theorem xg (v:Value) (n:Nat) (w:World) (h:IsNat w v n) (hn:n<1000000000000000000) :
  Calls Tryz.prog 300 #[v] w fun e W'=>∃ v',e = .returned v'∧IsNat W' v' (am n)∧Fresh w.heap.size v'∧Below w.heap.size w W':=by
 have c1:=dE v n w h hn
 have hr:am n≤n:=by
  have:=(bZ n).1
  by_cases h0:am n=0
  ·omega
  ·exact Nat.le_trans (Nat.le_mul_of_pos_left _ (by omega)) this
 have c2:=nF n w hn
 have c3:=gL (am n) w (by omega)
 have hl:(dg n).length≤2:=(av n 2).2 (by rw [show B ^ 2=1000000000000000000 from rfl];exact hn)
 obtain ⟨p,cap,rfl,_⟩:=id h
 have C:=Ha (Hb c1 (Hb c2 c3));clear c1 c2 c3 hr h
 generalize (dg n).length=l at *
 generalize am n=r at *
 have hl':(l:Int)≤2:=by omega
 go_enter Tryz.func300,Tryz.ntmps300
 go_wp2_with fail
 refine C.out.1.mono ?_
 rintro e w' ⟨rfl,rfl⟩
 go_wp2_with fail
 refine C.out.2.1.mono ?_
 rintro e w' ⟨rfl,rfl⟩
 go_wp2_with fail
 refine C.out.2.2.mono ?_
 rintro e w' ⟨v,rfl,hh⟩
 have H:=Ha hh;clear hh C
 go_wp2
 go_ret
 exact ⟨v,rfl,H.out⟩
theorem Below.drewN' {w:World} (n:Nat):Below w.heap.size w (w.drewN n):=⟨rfl,rfl,rfl,Nat.le_refl _,fun _ _=>rfl⟩
theorem El (a b:Int) (hb:b≠0) (ha : -1000000000000000000<a) (ha':a<1000000000000000000) : -1000000000000000001<a.fdiv b∧a.fdiv b<1000000000000000001:=by
 have h:=xW a b ha ha'
 by_cases h0:a.tmod b=0∨((a.tmod b<0)↔(b<0))
 ·rw [(lV hb h0).1];omega
 ·rw [not_or] at h0;rw [(kg hb h0.1 h0.2).1];omega
theorem Em (a b:Int) (hb:b≠0) (h1 : -1000000000000000000<b) (h2:b<1000000000000000000) : -1000000000000000000<a.fmod b∧a.fmod b<1000000000000000000:=by
 have h:=rG a b hb
 by_cases h0:a.tmod b=0∨((a.tmod b<0)↔(b<0))
 ·rw [(lV hb h0).2];omega
 ·rw [not_or] at h0;rw [(kg hb h0.1 h0.2).2];omega
theorem tk (a b:ByteArray) (w:World) (k1:chk a.data.toList=0) (k2:chk b.data.toList=0) (h0:valOf b.data.toList≠0) (s1:a.size≤18) (s2:b.size≤18) (ht:Tab w) :
  Calls Tryz.prog 222 #[.string a,.string b] w fun e W'=>e = .returned (.tuple #[.string (aa ((valOf a.data.toList).fdiv (valOf b.data.toList))),.string (aa ((valOf a.data.toList).fmod (valOf b.data.toList))),.int .i64 0])∧Below w.heap.size w W':=by
 have cb:=bW a b w (by unfold maxLen;omega) (by unfold maxLen;omega)
 have hc2:c9 a.data.toList b.data.toList=0:=by unfold c9;rw [if_pos k1];exact k2
 rw [hc2] at cb
 have hb48:(b.toList == [48])=false:=by
  rw [ByteArray.toList_eq,beq_eq_false_iff_ne]
  intro e;rw [e] at h0;exact h0 rfl
 have i1:=fun W=>aY a W (by unfold maxLen;omega)
 have i2:=fun W=>aY b W (by unfold maxLen;omega)
 have t1:decide ((a.size:Int)≤18)=true:=by simp;omega
 have t2:decide ((b.size:Int)≤18)=true:=by simp;omega
 rw [t1] at i1;rw [t2] at i2
 have m1:=fun W=>dc a W s1 k1
 have m2:=fun W=>dc b W s2 k2
 have v1:=bX k1 (by rw [ag];exact s1)
 have v2:=bX k2 (by rw [ag];exact s2)
 generalize valOf a.data.toList=x at *
 generalize valOf b.data.toList=y at *
 have dm:=fun W=>gK x y W v1.1 v1.2 v2.1 v2.2 h0
 have q:=El x y h0 v1.1 v1.2
 have r:=Em x y h0 v2.1 v2.2
 generalize x.fdiv y=d at *
 generalize x.fmod y=m at *
 have o1:=fun W (h:Below w.heap.size w W)=>dt d W (by omega) (by omega) (ht.next h)
 have o2:=fun W (h:Below w.heap.size w W)=>dt m W (by omega) (by omega) (ht.next h)
 have C:=Ha (Hb cb (Hb i1 (Hb i2 (Hb m1 (Hb m2 (Hb dm (Hb o1 o2)))))))
 clear cb i1 i2 m1 m2 dm o1 o2 v1 v2 q r t1 t2 hc2 h0 ht k1 k2
 go_enter Tryz.func222,Tryz.ntmps222
 go_wp2_with fail
 refine C.out.1.mono ?_
 rintro e w' ⟨rfl,rfl⟩
 go_wp2_with fail
 refine (C.out.2.1 _).mono ?_
 rintro e w' ⟨rfl,rfl⟩
 go_wp2_with fail
 refine (C.out.2.2.1 _).mono ?_
 rintro e w' ⟨rfl,rfl⟩
 go_wp2_with fail
 refine (C.out.2.2.2.1 _).mono ?_
 rintro e w' ⟨rfl,rfl⟩
 go_wp2_with fail
 refine (C.out.2.2.2.2.1 _).mono ?_
 rintro e w' ⟨rfl,rfl⟩
 go_wp2_with fail
 refine (C.out.2.2.2.2.2.1 _).mono ?_
 rintro e w' ⟨rfl,nn,rfl⟩
 go_wp2_with fail
 refine (C.out.2.2.2.2.2.2.1 _ (Below.drewN' nn)).mono ?_
 rintro e w1 ⟨rfl,b1⟩
 have H1:=Ha ((Below.drewN' nn).trans (show Below w.heap.size (w.drewN nn) w1 from b1));clear b1
 go_wp2_with fail
 refine (C.out.2.2.2.2.2.2.2 _ H1.out).mono ?_
 rintro e w2 ⟨rfl,b2⟩
 have H2:=Ha (H1.out.trans (b2.mono H1.out.size));clear b2 H1 C
 go_wp2
 go_ret3
 exact ⟨rfl,H2.out⟩
theorem iO (z:Int) (l:List UInt8) (h:Lib.itoa z=l):aa z=⟨l.toArray⟩:=by unfold aa;rw [h]
theorem vd (z:Int) (w:World) (h0 : -9223372036854775808≤z) (h1:z≤9223372036854775807) (ht:Tab w) :
  Calls Tryz.prog 109 #[.int .i64 z] w fun e w'=>e = .returned (.string (aa z))∧Below w.heap.size w w' :=
 (Tryz.strconv_Itoa z h0 h1 w ht).mono fun e w' ⟨he,k,os,hw⟩=>⟨he,by rw [hw];exact Lib.below_grow _ _ (Nat.le_refl _) _ _⟩
theorem dH {z:Int} (h:z.natAbs<lim):chk (aa z).data.toList=0:=by rw [aF,gm,if_pos h]
theorem bo (z:Int):valOf (aa z).data.toList=z:=by rw [aF,cM]
theorem aM {z:Int} (h:z.natAbs<lim):(aa z).size≤301:=bP (dH h)
theorem gi {x y:Int} (hx:x.natAbs<lim) (hy:y.natAbs<lim):c9 (aa x).data.toList (aa y).data.toList=0:=by unfold c9;rw [if_pos (dH hx),dH hy]
theorem fw {z:Int} (h:z.natAbs<1000000000000000000000000000000000000000):z.natAbs<lim:=Nat.lt_of_lt_of_le h ti
theorem yC (x y:Int) (w:World) (hx:x.natAbs<lim) (hy:y.natAbs<lim) (hz:(x+y).natAbs<lim) (ht:Tab w) :
  Calls Tryz.prog 288 #[.string (aa x),.string (aa y)] w fun e W'=>e = .returned (.tuple #[.string (aa (x+y)),.int .i64 0])∧Below w.heap.size w W':=by
 have c:=yz (aa x) (aa y) w (by have:=aM hx;unfold maxLen;omega) (by have:=aM hy;unfold maxLen;omega) ht
 rw [gi hx hy,bo,bo,gN,gO] at c
 unfold iM iN at c
 rwa [if_pos hz,if_pos hz] at c
theorem yD (x y:Int) (w:World) (hx:x.natAbs<lim) (hy:y.natAbs<lim) (hz:(x*y).natAbs<lim) (ht:Tab w) :
  Calls Tryz.prog 295 #[.string (aa x),.string (aa y)] w fun e W'=>e = .returned (.tuple #[.string (aa (x*y)),.int .i64 0])∧Below w.heap.size w W':=by
 have c:=yA (aa x) (aa y) w (by have:=aM hx;unfold maxLen;omega) (by have:=aM hy;unfold maxLen;omega) ht
 rw [gi hx hy,bo,bo,gN,gO] at c
 unfold iM iN at c
 rwa [if_pos hz,if_pos hz] at c
theorem nm (x y:Int) (w:World) (hx:x.natAbs<lim) (hy:y.natAbs<lim) :
  Calls Tryz.prog 15 #[.string (aa x),.string (aa y)] w fun e W'=>e = .returned (.tuple #[.int .i64 (bF x y),.int .i64 0])∧w=W':=by
 have c:=vc (aa x) (aa y) w (by have:=aM hx;unfold maxLen;omega) (by have:=aM hy;unfold maxLen;omega)
 rwa [gi hx hy,bo,bo,if_pos rfl] at c
theorem lN (z:Int):(aa z).size=(Lib.itoa z).length:=by rw [←ag,aF]
theorem kG {l:List UInt8} (h:szL l = []∨((szL l).head? = some 48∧l ≠ [48])):chk l=11:=by
 unfold chk;split
 ·rfl
 ·first | rfl | exact if_pos h
theorem tm {l:List UInt8} {f:Nat} (hz:szL l=l.drop f) (ha:(l.drop f).all aA=true) (hne:f<l.length) (h48:l[f]? = some 48→l.length≤1) :
  chk l=if 300<l.length - f then 4 else 0:=by
 rw [fG (by rw [hz];exact ha),hz,if_neg,List.length_drop]
 rintro (h | ⟨h,h'⟩)
 ·have:=congrArg List.length h;rw [List.length_drop] at this;simp at this;omega
 ·rw [List.head?_drop] at h
  have h1:=h48 h
  have hf:f=0:=by omega
  subst hf
  match l,h1,h,h' with
  | [c],_,h,h'=>simp at h;exact h' (by rw [h])
theorem yE {l:List UInt8} (h:aw l=true):szL l=l.drop 1:=by unfold szL;rw [if_pos h,List.drop_one]
theorem En {l:List UInt8} (h:aw l=false):szL l=l.drop 0:=by unfold szL;rw [h];rfl
theorem pZ (s:ByteArray) (k:Nat) (h:k<s.size):s.data.toList[k]? = some s[k]:=by
 rw [List.getElem?_eq_getElem (by rw [ag];exact h)];rfl
theorem p5 {s:ByteArray} {f k:Nat} (h:((s.data.toList.take k).drop f).all aA=true) (hf:f≤k) (hk:k<s.size) (hd:aA s[k]=true) :
  ((s.data.toList.take (k+1)).drop f).all aA=true:=by
 rw [bQ s k hk,List.drop_append_of_le_length (by rw [List.length_take,ag];omega),List.all_append,h];simp [hd]
theorem ez (k:Nat):ak (k+1)=10*ak k:=by unfold ak;rw [Nat.pow_succ,Nat.mul_comm]
theorem cE (j k:Nat):ak (j+k)=ak j*ak k:=Nat.pow_add _ _ _
def Bd (k:Nat) (z:Int):Prop:=z.natAbs<ak k
theorem Bd.add {k:Nat} {x y:Int} (hx:Bd k x) (hy:Bd k y):Bd (k+1) (x+y):=by
 unfold Bd at *; rw [ez];omega
theorem Bd.mul {j k:Nat} {x y:Int} (hx:Bd j x) (hy:Bd k y):Bd (j+k) (x*y):=by
 unfold Bd at *; rw [cE,Int.natAbs_mul];exact Nat.mul_lt_mul'' hx hy
theorem Bd.lt {k:Nat} {z:Int} (h:Bd k z) (hk:k≤300):z.natAbs<lim:=Nat.lt_of_lt_of_le h (aG hk)
theorem Bd.up {j k:Nat} {z:Int} (h:Bd j z) (hk:j≤k):Bd k z:=Nat.lt_of_lt_of_le h (aG hk)
theorem ir (s:ByteArray) (k f:Nat) (hf:f≤k) (h:k<s.size):s[k]∈s.data.toList.drop f:=by
 have h2:(s.data.toList.drop f)[k - f]? = some s[k]:=by
  rw [List.getElem?_drop,show f+(k - f)=k by omega];exact pZ s k h
 exact List.mem_of_getElem? h2
theorem yF {s:ByteArray} {f:Nat} (hf:f<s.size) (h:((s[f].toNat:Int)==48)=true):(s.data.toList.drop f).head? = some 48:=by
 rw [List.head?_drop,pZ s f hf]
 have:=mM s[f] 48 (by decide)
 rw [show ((48:Nat):Int)=48 from rfl,h] at this
 exact congrArg some (by simpa using this.symm)
theorem xh {s:ByteArray} {f:Nat} (hf:f<s.size) (h:((s[f].toNat:Int)==48)=false):s.data.toList[f]? ≠ some 48:=by
 rw [pZ s f hf]
 intro e
 have e:=Option.some.inj e
 rw [e] at h
 exact absurd h (by decide)
theorem lO (s:ByteArray) (w:World) (hs:s.size≤maxLen) :
  Calls Tryz.prog 157 #[.string s] w fun e w'=>e = .returned (.int .i64 (chk s.data.toList))∧w=w':=by
 have hm:s.size≤9223372036854775807:=by unfold maxLen at hs;omega
 clear hs
 by_cases hn:aw s.data.toList=true
 ·have hz:=Ha (yE hn)
  have h0:=iA hn
  have h45:((s[0].toNat:Int)==45)=true:=(dq h0).trans hn
  clear hn
  by_cases h1:s.size=1
  ·have h1':((1:Int)==s.size)=true:=by rw [h1];rfl
   go_enter Tryz.func157,Tryz.ntmps157
   go_wp2
   go_ret
   refine ⟨ao (kG (.inl ?_)).symm,rfl⟩
   rw [hz.out,List.drop_eq_nil_iff,ag];omega
  ·have h2:1<s.size:=by omega
   have h1':((1:Int)==s.size)=false:=by rw [beq_eq_false_iff_ne];omega
   by_cases hc:((s[1].toNat:Int)==48)=true
   ·have hx:=Ha (yF h2 hc)
    go_enter Tryz.func157,Tryz.ntmps157
    go_wp2
    go_ret
    refine ⟨ao (kG (.inr ⟨by rw [hz.out];exact hx.out,fun e => ?_⟩)).symm,rfl⟩
    have:=congrArg List.length e
    rw [ag] at this;simp at this;omega
   ·have hc':((s[1].toNat:Int)==48)=false:=by simpa using hc
    clear hc
    have H48:=Ha (fun h:s.data.toList[1]? = some 48=>show s.size≤1 from absurd h (xh h2 hc'))
    go_enter Tryz.func157,Tryz.ntmps157
    go_wp2
    go_loop [4] (fun i=>∃ k:Nat,1≤k∧k≤s.size∧i = .int .i64 k∧Hid (((s.data.toList.take k).drop 1).all aA=true)) (fun i=>s.size - (intOf i).toNat)
    case atStart=>exact ⟨1,Nat.le_refl _,by omega,rfl,by show ((s.data.toList.take 1).drop 1).all aA=true;rw [List.drop_eq_nil_of_le (List.length_take_le _ _)];rfl⟩
    case round =>
     obtain ⟨k,hk0,hk,rfl,hd⟩:=hrel
     by_cases hlt:k<s.size
     ·by_cases h3:(s[k].toNat:Int)<48
      ·go_wp2
       go_ret
       refine ⟨ao (cS ?_).symm,rfl⟩
       rw [hz.out,List.all_eq_false]
       exact ⟨s[k],ir s k 1 hk0 hlt,by rw [az];omega⟩
      ·by_cases h4:(57:Int)<s[k].toNat
       ·go_wp2
        go_ret
        refine ⟨ao (cS ?_).symm,rfl⟩
        rw [hz.out,List.all_eq_false]
        exact ⟨s[k],ir s k 1 hk0 hlt,by rw [az];omega⟩
       ·have hd':Hid (((s.data.toList.take (k+1)).drop 1).all aA=true):=p5 hd.out hk0 hlt (by rw [az];omega)
        clear hd
        go_wp2
        go_round
        case rel=>exact ⟨k+1,by omega,by omega,by go_num,hd'⟩
        case measure=>simp [intOf];omega
     ·have hE:Hid (chk s.data.toList=if 300<s.data.toList.length - 1 then 4 else 0):=tm hz.out (by have:=hd.out;rwa [List.take_of_length_le (by rw [ag];omega)] at this) (by rw [ag];omega) (fun h=>by rw [ag];exact H48.out h)
      clear hd
      go_wp2
      ·have hy:(300:Int)<s.size - 1:=by omega
       go_ret
       exact ⟨ao (by rw [hE.out,if_pos (by rw [ag];omega)]),rfl⟩
      ·have hy:(s.size:Int) - 1≤300:=by omega
       go_ret
       exact ⟨ao (by rw [hE.out,if_neg (by rw [ag];omega)]),rfl⟩
 ·have hn':aw s.data.toList=false:=by simpa using hn
  clear hn
  have hz:=Ha (En hn')
  by_cases h0:s.size=0
  ·go_enter Tryz.func157,Tryz.ntmps157
   go_wp2
   go_ret
   refine ⟨ao (kG (.inl ?_)).symm,rfl⟩
   rw [hz.out,List.drop_eq_nil_iff,ag];omega
  ·have h2:0<s.size:=by omega
   have h45:((s[0].toNat:Int)==45)=false:=(dq h2).trans hn'
   have h1':((0:Int)==s.size)=false:=by rw [beq_eq_false_iff_ne];omega
   clear hn'
   by_cases hc:((s[0].toNat:Int)==48)=true∧1<s.size
   ·obtain ⟨hc,h3⟩:=hc
    have hx:=Ha (yF h2 hc)
    go_enter Tryz.func157,Tryz.ntmps157
    go_wp2
    go_ret
    refine ⟨ao (kG (.inr ⟨by rw [hz.out];exact hx.out,fun e => ?_⟩)).symm,rfl⟩
    have:=congrArg List.length e
    rw [ag] at this;simp at this;omega
   ·by_cases hc1:((s[0].toNat:Int)==48)=true
    ·have h3:s.size=1:=by
      have:¬ 1<s.size:=fun h=>hc ⟨hc1,h⟩
      omega
     have h3':¬ (1:Int)<s.size:=by omega
     have H48:=Ha (fun _:s.data.toList[0]? = some 48=>show s.size≤1 by omega)
     clear hc
     go_enter Tryz.func157,Tryz.ntmps157
     go_wp2
     go_loop [4] (fun i=>∃ k:Nat,0≤k∧k≤s.size∧i = .int .i64 k∧Hid (((s.data.toList.take k).drop 0).all aA=true)) (fun i=>s.size - (intOf i).toNat)
     case atStart=>exact ⟨0,Nat.le_refl _,by omega,rfl,by show ((s.data.toList.take 0).drop 0).all aA=true;rw [List.drop_eq_nil_of_le (List.length_take_le _ _)];rfl⟩
     case round =>
      obtain ⟨k,hk0,hk,rfl,hd⟩:=hrel
      by_cases hlt:k<s.size
      ·by_cases h3:(s[k].toNat:Int)<48
       ·go_wp2
        go_ret
        refine ⟨ao (cS ?_).symm,rfl⟩
        rw [hz.out,List.all_eq_false]
        exact ⟨s[k],ir s k 0 hk0 hlt,by rw [az];omega⟩
       ·by_cases h4:(57:Int)<s[k].toNat
        ·go_wp2
         go_ret
         refine ⟨ao (cS ?_).symm,rfl⟩
         rw [hz.out,List.all_eq_false]
         exact ⟨s[k],ir s k 0 hk0 hlt,by rw [az];omega⟩
        ·have hd':Hid (((s.data.toList.take (k+1)).drop 0).all aA=true):=p5 hd.out hk0 hlt (by rw [az];omega)
         clear hd
         go_wp2
         go_round
         case rel=>exact ⟨k+1,by omega,by omega,by go_num,hd'⟩
         case measure=>simp [intOf];omega
      ·have hE:Hid (chk s.data.toList=if 300<s.data.toList.length - 0 then 4 else 0):=tm hz.out (by have:=hd.out;rwa [List.take_of_length_le (by rw [ag];omega)] at this) (by rw [ag];omega) (fun h=>by rw [ag];exact H48.out h)
       clear hd
       go_wp2
       go_ret
       exact ⟨ao (by rw [hE.out,if_neg (by rw [ag];omega)]),rfl⟩
    ·have hc':((s[0].toNat:Int)==48)=false:=by simpa using hc1
     clear hc hc1
     have H48:=Ha (fun h:s.data.toList[0]? = some 48=>show s.size≤1 from absurd h (xh h2 hc'))
     go_enter Tryz.func157,Tryz.ntmps157
     go_wp2
     go_loop [4] (fun i=>∃ k:Nat,0≤k∧k≤s.size∧i = .int .i64 k∧Hid (((s.data.toList.take k).drop 0).all aA=true)) (fun i=>s.size - (intOf i).toNat)
     case atStart=>exact ⟨0,Nat.le_refl _,by omega,rfl,by show ((s.data.toList.take 0).drop 0).all aA=true;rw [List.drop_eq_nil_of_le (List.length_take_le _ _)];rfl⟩
     case round =>
      obtain ⟨k,hk0,hk,rfl,hd⟩:=hrel
      by_cases hlt:k<s.size
      ·by_cases h3:(s[k].toNat:Int)<48
       ·go_wp2
        go_ret
        refine ⟨ao (cS ?_).symm,rfl⟩
        rw [hz.out,List.all_eq_false]
        exact ⟨s[k],ir s k 0 hk0 hlt,by rw [az];omega⟩
       ·by_cases h4:(57:Int)<s[k].toNat
        ·go_wp2
         go_ret
         refine ⟨ao (cS ?_).symm,rfl⟩
         rw [hz.out,List.all_eq_false]
         exact ⟨s[k],ir s k 0 hk0 hlt,by rw [az];omega⟩
        ·have hd':Hid (((s.data.toList.take (k+1)).drop 0).all aA=true):=p5 hd.out hk0 hlt (by rw [az];omega)
         clear hd
         go_wp2
         go_round
         case rel=>exact ⟨k+1,by omega,by omega,by go_num,hd'⟩
         case measure=>simp [intOf];omega
      ·have hE:Hid (chk s.data.toList=if 300<s.data.toList.length - 0 then 4 else 0):=tm hz.out (by have:=hd.out;rwa [List.take_of_length_le (by rw [ag];omega)] at this) (by rw [ag];omega) (fun h=>by rw [ag];exact H48.out h)
       clear hd
       go_wp2
       ·have hy:(300:Int)<s.size:=by omega
        go_ret
        exact ⟨ao (by rw [hE.out,if_pos (by rw [ag];omega)]),rfl⟩
       ·have hy:(s.size:Int)≤300:=by omega
        go_ret
        exact ⟨ao (by rw [hE.out,if_neg (by rw [ag];omega)]),rfl⟩
theorem fx {l:List Nat} {j:Nat} (h:j<l.length):l.drop j=l.getD j 0::l.drop (j+1):=by
 rw [List.drop_eq_getElem_cons h,List.getD_eq_getElem?_getD,List.getElem?_eq_getElem h];rfl
theorem jC {l:List Nat} {j x:Nat} (h:j<l.length):(l.set j x).drop j=x::l.drop (j+1):=by
 rw [fx (by rw [List.length_set];exact h),List.getD_eq_getElem?_getD,List.getElem?_set_self h,List.drop_set_of_lt (Nat.lt_succ_self j)];rfl
theorem lJ {la o:List Nat} {b r j:Nat} (hj:j<la.length) (hl:o.length=la.length) (h:toN (la.drop (j+1))=b*toN (o.drop (j+1))+r) :
  toN (la.drop j)=b*toN ((o.set j ((r*1000000000+la.getD j 0) / b)).drop j)+(r*1000000000+la.getD j 0) % b:=by
 rw [fx hj,jC (by omega)]
 show la.getD j 0+B*toN _=b*((r*1000000000+la.getD j 0) / b+B*toN _)+_
 rw [h]
 have e:=Nat.div_add_mod (r*1000000000+la.getD j 0) b
 generalize (r*1000000000+la.getD j 0) / b=q at *
 generalize (r*1000000000+la.getD j 0) % b=s at *
 generalize toN (o.drop (j+1))=T at *
 have hB:B=1000000000:=rfl
 rw [hB,Nat.mul_add b q,Nat.mul_add 1000000000 (b*T) r]
 have:b*(1000000000*T)=1000000000*(b*T):=Nat.mul_left_comm _ _ _
 omega
theorem s8 {b r d:Nat} (hb0:0<b) (hb:b<1000000000) (hr:r<b) (hd:d<1000000000) :
  (r*1000000000+d) / b<1000000000∧(r*1000000000+d) % b<b∧r*1000000000+d<1000000000000000000:=by
 refine ⟨?_,Nat.mod_lt _ hb0,by omega⟩
 rw [Nat.div_lt_iff_lt_mul hb0]
 have:(r+1)*1000000000≤b*1000000000:=Nat.mul_le_mul_right _ hr
 omega
theorem fV (v:Value) (la:List Nat) (b:Nat) (w:World) (ha:Nats w v la) (da:Dig la) (hla:la.length≤1000000) (hb0:0<b) (hb:b<1000000000) :
  Calls Tryz.prog 135 #[v,.int .u64 b] w fun e W'=>∃ q,e = .returned (.tuple #[q,.int .u64 (toN la % b:Nat)])∧IsNat W' q (toN la / b)∧Fresh w.heap.size q∧Below w.heap.size w W':=by
 obtain ⟨pa,capa,rfl,ha1,ha2,ha3⟩:=ha
 have HA:=Ha ha3;clear ha3
 obtain ⟨i0,hi,hz0,hz1,hz2⟩:=info_parts dF
 have HI:=Ha (Hb hi (Hb hz0 (Hb hz1 hz2)));clear hi hz0 hz1 hz2
 have HD:=Ha da;clear da
 have hne:((b:Int)==0)=false:=by rw [beq_eq_false_iff_ne];omega
 have hne2:¬ (b:Int)=0:=by omega
 go_enter Tryz.func135,Tryz.ntmps135
 go_wp2_with (at_make;refine wpList_make_full _ rfl _ _ 86 rfl w.heap.size 82 i0 (.int .u64 0) 1 Tryz.underlying86 HI.out.1 HI.out.2.1 HI.out.2.2.1 .i64 .i64 _ _ (la.length) rfl rfl (by omega) (by omega) (by rw [HI.out.2.2.2];omega) (by unfold maxLen;omega) (Nat.le_refl _) ?_;intro w1 hown hgrow)
 have hrow:=Row.of_made hown
 have hB1:Below w.heap.size w w1:=(Below.refl _ w).grown hgrow (Nat.le_refl _) (fun k e=>by cases e)
 have hgl:=hrow.lt
 clear hown hgrow
 generalize hg:w.heap.size=g at *
 have HG:=Ha hg;clear hg
 go_loopw [7,8] (fun y x wr=>∃ (r j:Nat) (o:List Nat),j≤la.length∧x = .int .i64 ((j:Int) - 1)∧y = .int .u64 r∧r<b∧Row wr g o∧o.length=la.length∧Hid (Dig o)∧Hid (toN (la.drop j)=b*toN (o.drop j)+r)∧Below g w wr)
  (fun _ x _=>(intOf x+1).toNat)
 case atStart =>
  exact ⟨0,la.length,List.replicate la.length 0,Nat.le_refl _,by go_num,rfl,hb0,hrow,List.length_replicate,Dig.replicate _,by show toN _=_;rw [List.drop_length,List.drop_eq_nil_of_le (by rw [List.length_replicate];exact Nat.le_refl _)];simp [toN],hB1⟩
 case round =>
  clear hrow hB1 hgl
  obtain ⟨r,j,o,hj,rfl,rfl,hr,hrow,hlen,hdig,hval,hbel⟩:=hrel
  cases j with
  | zero =>
   have hv:toN la=b*toN o+r:=hval.out
   have hq:toN la / b=toN o:=by rw [hv,Nat.mul_add_div hb0,Nat.div_eq_of_lt hr,Nat.add_zero]
   have hm:toN la % b=r:=by rw [hv,Nat.mul_add_mod,Nat.mod_eq_of_lt hr]
   have hN0:Nats wr (.slice (some ⟨g,0,none⟩) o.length la.length) o:=hrow.nats (by omega) (by omega)
   have ct:=bE _ _ o wr hN0 hdig.out
   have hn:=hN0.take (aO hdig.out)
   rw [hlen] at ct
   rw [←hq] at ct hn
   have HM:=Ha hm
   have CT:=Ha ct
   have HN:=Ha hn
   have HBL:=Ha hbel
   clear hval ct hn hv hN0 hm hq hbel hrow
   go_wp2_with fail
   refine CT.out.mono ?_
   clear CT
   rintro e w' ⟨rfl,rfl⟩
   go_wp2
   go_ret2
   refine ⟨.slice (some ⟨g,0,none⟩) (dg (toN la / b)).length la.length,?_,HN.out,fun k hk=>by cases hk;exact Nat.le_of_eq HG.out,by rw [HG.out];exact HBL.out⟩
   show Ending.returned (.tuple #[.slice (some ⟨g,0,none⟩) (dg (toN la / b)).length la.length,.int .u64 (r:Nat)])=_
   rw [HM.out]
  | succ j =>
   obtain ⟨ab,aoff,rfl,hca⟩:=HA.out (by intro e;subst e;simp at hj)
   have ca0:=hca j (by omega)
   have cax:wr.cell? ⟨ab,aoff+j,none⟩=some (.int .u64 (la.getD j 0:Nat)):=(hbel.cell (p:=⟨ab,aoff+j,none⟩) (by rw [←HG.out];exact World.block_lt_of_cell? w _ ca0)).trans ca0
   clear ca0 hca
   have co:=hrow.cell (i:=j) (by omega)
   have fo:=hrow.frozen j
   have hst:=lJ (la:=la) (o:=o) (b:=b) (r:=r) (j:=j) (by omega) hlen hval.out
   have hx:=HD.out.getD j
   have hbd:=s8 hb0 hb hr hx
   have R3:=hrow.set j ((r*1000000000+la.getD j 0) / b)
   generalize la.getD j 0=x at *
   have HS:=Ha (Hb hst (Hb hbd R3))
   clear hst hbd R3 hval
   have hr':(r:Int)≤999999998:=by omega
   go_wp2
   have ht:(r:Int)*1000000000+(x:Int)=((r*1000000000+x:Nat):Int):=by rw [Int.natCast_add,Int.natCast_mul];rfl
   rw [ht]
   clear ht
   obtain ⟨t,ht⟩:∃ t,r*1000000000+x=t:=⟨_,rfl⟩
   rw [ht] at HS
   rw [ht]
   have q1:((t / b:Nat):Int)=(t:Int) / (b:Int):=Int.natCast_ediv _ _
   have q2:((t % b:Nat):Int)=(t:Int) % (b:Int):=Int.natCast_emod _ _
   have hq:t / b<1000000000:=HS.out.2.1.1
   have hm:t % b<b:=HS.out.2.1.2.1
   have ht1:t<1000000000000000000:=HS.out.2.1.2.2
   have w1:0≤(t:Int) / (b:Int):=Int.ediv_nonneg (by omega) (by omega)
   have w2:(t:Int) / (b:Int)≤999999999:=by rw [←q1];clear q1 q2;generalize t / b=qq at hq;omega
   have hb1:¬ b=0:=by omega
   have Q:=Ha (Hb q1 q2)
   clear q1 q2 ht hr' hq hm
   have hjl:(j:Int)<(la.length:Int):=by omega
   go_region_held3 (fun w'=>w'.frozen? ⟨g,j,none⟩=false) (go_keep) (fail)
   rw [←Q.out.1]
   go_wp2
   go_roundw
   case rel =>
    obtain ⟨s1,⟨s2,s3,_⟩,s4⟩:=HS.out
    refine ⟨t % b,j,o.set j (t / b),by omega,by go_num,by rw [Q.out.2];first | done | rfl | (rw [Int.tmod_eq_emod_of_nonneg (by omega)]),s3,s4,by rw [List.length_set];exact hlen,hdig.out.set _ s2,s1,?_⟩
    exact (hbel.setCell (p:=⟨g,j,none⟩) (Nat.le_refl _) _).drew
   case measure=>simp [intOf]
end
section
theorem iv (d:Nat) (l:List Nat):toN (d::l)=d+B*toN l:=rfl
theorem Cv {l:List Nat} {k:Nat} (hd:Dig l) (h:l.length=k+2) :
  ∃ low,low<B ^ k∧toN l=low+B ^ k*(l.getD (k+1) 0*B+l.getD k 0):=by
 have h1:=aC l k (by omega)
 have h2:=aC l (k+1) (by omega)
 rw [List.take_of_length_le (by omega)] at h2
 have h3:=cO (hd.take k)
 rw [List.length_take,Nat.min_eq_left (by omega)] at h3
 refine ⟨_,h3,?_⟩
 rw [h2,h1,Nat.pow_succ,Nat.mul_assoc,Nat.add_assoc,←Nat.mul_add,Nat.mul_comm B,Nat.add_comm (l.getD k 0)]
theorem Cw {l:List Nat} {k:Nat} (hd:Dig l) (h:l.length=k+3) :
  ∃ low,low<B ^ k∧toN l=low+B ^ k*((l.getD (k+2) 0*B+l.getD (k+1) 0)*B+l.getD k 0):=by
 have h1:=aC l k (by omega)
 have h2:=aC l (k+1) (by omega)
 have h4:=aC l (k+2) (by omega)
 rw [List.take_of_length_le (by omega)] at h4
 have h3:=cO (hd.take k)
 rw [List.length_take,Nat.min_eq_left (by omega)] at h3
 refine ⟨_,h3,?_⟩
 rw [h4,h2,h1,show B ^ (k+2)=B ^ k*B*B by rw [Nat.pow_succ,Nat.pow_succ],Nat.pow_succ]
 generalize B ^ k=P
 generalize toN (l.take k)=z
 generalize l.getD (k+2) 0=a
 generalize l.getD (k+1) 0=b
 generalize l.getD k 0=c
 rw [Nat.mul_add P]
 have e1:P*B*b=P*(b*B):=by rw [Nat.mul_assoc,Nat.mul_comm B b]
 have e2:P*B*B*a=P*(a*B*B):=by rw [Nat.mul_assoc P,Nat.mul_assoc P,Nat.mul_comm (B*B) a,←Nat.mul_assoc a]
 have e3:P*((a*B+b)*B)=P*(a*B*B)+P*(b*B):=by rw [Nat.add_mul,Nat.mul_add]
 omega
theorem FR {W Y lw ly P U V t:Nat} (hw:W=lw+P*U) (hy:Y=ly+P*V) (hlw:lw<P) (h:U<t*V):W<t*Y:=by
 have h1:P*(U+1)≤P*(t*V):=Nat.mul_le_mul_left _ h
 have h2:t*Y=t*ly+P*(t*V):=by rw [hy,Nat.mul_add,Nat.mul_left_comm]
 rw [Nat.mul_add,Nat.mul_one] at h1
 omega
theorem FS {W Y lw ly P U V t:Nat} (hw:W=lw+P*U) (hy:Y=ly+P*V) (hly:ly<P) (hb:t≤V) (h:t*V≤U):t*Y≤W+Y:=by
 cases t with
 | zero=>omega
 | succ t =>
  have h1:t*ly≤t*P:=Nat.mul_le_mul_left _ (by omega)
  have h2:P*((t+1)*V)≤P*U:=Nat.mul_le_mul_left _ h
  have h3:P*t≤P*V:=Nat.mul_le_mul_left _ (by omega)
  have h4:(t+1)*Y=t*ly+P*(t*V)+Y:=by rw [Nat.succ_mul];conv=>lhs;lhs;rw [hy,Nat.mul_add,Nat.mul_left_comm]
  have h5:P*((t+1)*V)=P*(t*V)+P*V:=by rw [Nat.succ_mul,Nat.mul_add]
  rw [Nat.mul_comm t P] at h1
  omega
theorem Eo {W Y lw ly P top d f s:Nat} (hw:W=lw+P*(top*B+d)) (hy:Y=ly+P*(f*B+s)) (hlw:lw<P) (hd:d<B) (hf:0<f) (hlt:W<B*Y) :
  W<(min (top / f) (B - 1)+1)*Y:=by
 have h1:W<(top / f+1)*Y:=by
  have h2:top<(top / f+1)*f:=by rw [Nat.mul_comm];exact Nat.lt_mul_div_succ top hf
  have h3:P*(B*(top+1))≤P*(B*((top / f+1)*f)):=Nat.mul_le_mul_left _ (Nat.mul_le_mul_left _ h2)
  have h4:(top / f+1)*Y=(top / f+1)*ly+(top / f+1)*(P*s)+P*(B*((top / f+1)*f)):=by
   generalize top / f+1=t
   rw [hy,Nat.mul_add P,Nat.mul_add,Nat.mul_add]
   have:t*(P*(f*B))=P*(B*(t*f)):=by
    rw [Nat.mul_left_comm,Nat.mul_comm f B,Nat.mul_left_comm t B]
   omega
  have h5:P*(top*B+d+1)≤P*(B*(top+1)):=Nat.mul_le_mul_left _ (by rw [Nat.mul_add,Nat.mul_one,Nat.mul_comm B top];omega)
  rw [Nat.mul_add P _ 1,Nat.mul_one] at h5
  omega
 by_cases hm:top / f≤B - 1
 ·rwa [Nat.min_eq_left hm]
 ·rw [Nat.min_eq_right (by omega),Nat.sub_add_cancel cK];exact hlt
theorem Cx {W Y lw ly P top d f s t:Nat} (hw:W=lw+P*(top*B+d)) (hy:Y=ly+P*(f*B+s)) (hlw:lw<P) (hf:t*f≤top) (h:(top - t*f)*B+d<t*s):W<t*Y:=by
 refine FR hw hy hlw ?_
 rw [Nat.mul_add,←Nat.mul_assoc]
 have:top*B=t*f*B+(top - t*f)*B:=by rw [←Nat.add_mul];congr 1;omega
 omega
theorem Cy {W Y lw ly P top d f s t:Nat} (hw:W=lw+P*(top*B+d)) (hy:Y=ly+P*(f*B+s)) (hly:ly<P) (hf:t*f≤top) (ht:t<B) (hs:s<B) (hf0:0<f) (h:t*s≤(top - t*f)*B+d∨B≤top - t*f):t*Y≤W+Y:=by
 refine FS hw hy hly ?_ ?_
 ·have:1*B≤f*B:=Nat.mul_le_mul_right _ hf0
  omega
 ·rw [Nat.mul_add,←Nat.mul_assoc]
  have h1:top*B=t*f*B+(top - t*f)*B:=by rw [←Nat.add_mul];congr 1;omega
  rcases h with h | h
  ·omega
  ·have h2:B*B≤(top - t*f)*B:=Nat.mul_le_mul_right _ h
   have h3:t*s≤B*B:=Nat.mul_le_mul (Nat.le_of_lt ht) (Nat.le_of_lt hs)
   omega
theorem Cz {p x y t c P Yp Xp:Nat} (hx:x<1000000000) (hy:y<1000000000) (ht:t<1000000000) (hc:c<1000000000) (h:p+t*Yp=Xp+P*c) :
  let u:=t*y+c
  (x<u % 1000000000→u / 1000000000+1<1000000000∧x+1000000000 - u % 1000000000<1000000000∧p+P*(x+1000000000 - u % 1000000000)+t*(Yp+P*y)=Xp+P*x+P*B*(u / 1000000000+1)) ∧
  (u % 1000000000≤x→u / 1000000000<1000000000∧x - u % 1000000000<1000000000∧p+P*(x - u % 1000000000)+t*(Yp+P*y)=Xp+P*x+P*B*(u / 1000000000)):=by
 intro u
 have hu:u≤999999998000000001+999999999:=by have:=fU ht hy;show t*y+c≤_;omega
 have e0:t*(Yp+P*y)=t*Yp+P*(t*y):=by rw [Nat.mul_add,Nat.mul_left_comm]
 have e1:P*u=P*(t*y)+P*c:=Nat.mul_add _ _ _
 have e2:P*u=P*B*(u / 1000000000)+P*(u % 1000000000):=by
  rw [Nat.mul_assoc,←Nat.mul_add,fN];congr 1;omega
 constructor
 ·intro hlt
  refine ⟨by omega,by omega,?_⟩
  have e3:P*(x+1000000000 - u % 1000000000)+P*(u % 1000000000)=P*x+P*B:=by
   rw [←Nat.mul_add,fN,←Nat.mul_add];congr 1;omega
  rw [Nat.mul_add (P*B),Nat.mul_one]
  omega
 ·intro hle
  refine ⟨by omega,by omega,?_⟩
  have e3:P*(x - u % 1000000000)+P*(u % 1000000000)=P*x:=by rw [←Nat.mul_add];congr 1;omega
  omega
theorem Ac {x' X Y t P c top:Nat} (h:x'+t*Y=X+P*c) (hx:x'<P) (hY:Y<P) (hb:t*Y≤X+P*top+Y):c≤top+1:=by
 apply Decidable.byContradiction
 intro hc
 have:P*(top+2)≤P*c:=Nat.mul_le_mul_left _ (by omega)
 rw [Nat.mul_add] at this
 omega
theorem Ep {x' X Y t P c top:Nat} (h:x'+t*Y=X+P*c) (hY:Y<P) (hup:X+P*top<(t+1)*Y) (hc:c≤top) :
  c=top∧t=(X+P*top) / Y∧x'=(X+P*top) % Y:=by
 have h1:P*c≤P*top:=Nat.mul_le_mul_left _ hc
 rw [Nat.succ_mul] at hup
 have hct:c=top:=by
  apply Decidable.byContradiction
  intro hne
  have:P*(c+1)≤P*top:=Nat.mul_le_mul_left _ (by omega)
  rw [Nat.mul_add,Nat.mul_one] at this
  omega
 subst hct
 refine ⟨rfl,?_⟩
 rw [←h]
 have hlt:x'<Y:=by omega
 constructor
 ·rw [Nat.add_mul_div_right _ _ (by omega),Nat.div_eq_of_lt hlt,Nat.zero_add]
 ·rw [Nat.add_mul_mod_self_right,Nat.mod_eq_of_lt hlt]
theorem Ad {x' X Y t P top:Nat} (h:x'+t*Y=X+P*(top+1)) (hx:x'<P) (hb:t*Y≤X+P*top+Y) (ht:0<t) :
  P≤x'+Y∧t - 1=(X+P*top) / Y∧x'+Y - P=(X+P*top) % Y:=by
 rw [Nat.mul_add,Nat.mul_one] at h
 have h1:P≤x'+Y:=by omega
 refine ⟨h1,?_⟩
 obtain ⟨s,rfl⟩:∃ s,t=s+1:=⟨t - 1,by omega⟩
 rw [Nat.succ_mul] at h
 have h2:X+P*top=(x'+Y - P)+s*Y:=by omega
 have hlt:x'+Y - P<Y:=by omega
 rw [h2,Nat.add_sub_cancel]
 constructor
 ·rw [Nat.add_mul_div_right _ _ (by omega),Nat.div_eq_of_lt hlt,Nat.zero_add]
 ·rw [Nat.add_mul_mod_self_right,Nat.mod_eq_of_lt hlt]
theorem mG {v:Nat} (hv:v<1000000000):1≤1000000000 / (v+1):=by
 rw [Nat.le_div_iff_mul_le (by omega)];omega
theorem ve {v:Nat} (h0:0<v):1000000000 / (v+1)<1000000000:=Nat.div_lt_self (by decide) (by omega)
theorem p6 {b n:Nat} (hn:(dg b).length=n+1):(dg (b*(1000000000 / ((dg b).getD n 0+1)))).length=n+1:=by
 have hb:b≠0:=fun e=>by rw [e,aD] at hn;simp at hn
 obtain ⟨r,h1,h2,h3⟩:=gD b hb
 rw [hn,Nat.add_sub_cancel] at h1 h2 h3
 have hv:=(aB b).getD n
 generalize (dg b).getD n 0=v at *
 have hs:=mG hv
 have hm:(v+1)*(1000000000 / (v+1))≤B:=Nat.mul_div_le _ _
 generalize 1000000000 / (v+1)=s at *
 have hup:b*s<B ^ (n+1):=by
  have h4:b<B ^ n*(v+1):=by rw [Nat.mul_add,Nat.mul_one];omega
  have h5:b*s<B ^ n*(v+1)*s:=Nat.mul_lt_mul_of_pos_right h4 (by omega)
  rw [Nat.mul_assoc] at h5
  exact Nat.lt_of_lt_of_le h5 (by rw [Nat.pow_succ];exact Nat.mul_le_mul_left _ hm)
 have hlo:B ^ n≤b*s:=by
  have h4:B ^ n*1≤B ^ n*v:=Nat.mul_le_mul_left _ h2
  have h5:b*1≤b*s:=Nat.mul_le_mul_left _ hs
  omega
 have h6:=(av (b*s) (n+1)).2 hup
 have h7:¬ (dg (b*s)).length≤n:=fun h=>by have:=(av (b*s) n).1 h;omega
 omega
theorem lP {b n:Nat} (hn:(dg b).length=n+1):0<(dg b).getD n 0:=by
 have hb:b≠0:=fun e=>by rw [e,aD] at hn;simp at hn
 obtain ⟨r,h1,h2,h3⟩:=gD b hb
 rwa [hn,Nat.add_sub_cancel] at h2
theorem rD {S x A X Y Q P:Nat} (h:S=A+P*x+P*B*(X+Y*Q)) :
  S=A+P*((x+B*X) % Y+Y*((x+B*X) / Y+B*Q)):=by
 have e:=Nat.mod_add_div (x+B*X) Y
 rw [h,Nat.add_assoc]
 congr 1
 rw [Nat.mul_assoc,←Nat.mul_add]
 congr 1
 rw [Nat.mul_add Y,←Nat.add_assoc,e,Nat.mul_add B,Nat.add_assoc,Nat.mul_left_comm B Y Q]
theorem p7 {a b s m n la:Nat} {l:List Nat} (ha:a<B ^ la) (hn:B ^ n≤b) (hs:0<s) (hl:toN l=a*s) (hll:l.length=la+1) (hm:la≤m+1+n) (hml:m≤la) :
  toN (l.drop (m+1))<b*s:=by
 have h1:toN l=toN (l.take (m+1))+B ^ (m+1)*toN (l.drop (m+1)):=by
  conv=>lhs;rw [←List.take_append_drop (m+1) l]
  rw [bT,List.length_take,Nat.min_eq_left (by omega)]
 apply Decidable.byContradiction
 intro hc
 have h2:b*s≤toN (l.drop (m+1)):=by omega
 have h3:B ^ n*s≤toN (l.drop (m+1)):=Nat.le_trans (Nat.mul_le_mul_right _ hn) h2
 have h4:B ^ (m+1)*(B ^ n*s)≤a*s:=by
  rw [←hl,h1];exact Nat.le_trans (Nat.mul_le_mul_left _ h3) (Nat.le_add_left _ _)
 rw [←Nat.mul_assoc,←Nat.pow_add] at h4
 have h5:=Nat.le_of_mul_le_mul_right h4 hs
 have h6:B ^ la≤B ^ (m+1+n):=Nat.pow_le_pow_right cK (by omega)
 omega
theorem dN (a b s:Nat) (hs:0<s):a*s / (b*s)=a / b∧a*s % (b*s)=a % b*s:=by
 refine ⟨Nat.mul_div_mul_right a b hs,?_⟩
 rw [Nat.mul_mod_mul_right]
end
section
open Go.RowKit
def RowC (w:World) (g:Nat) (l:List Nat):Prop:=∃ cur,w.heap[g]? = some (.cells cur 82 (0,0))∧cur.toList.take l.length=aj l
theorem Row.rowC {w:World} {g:Nat} {l:List Nat} (h:Row w g l):RowC w g l:=⟨_,h,by rw [List.take_of_length_le (by simp [aj])]⟩
theorem RowC.cell {w:World} {g:Nat} {l:List Nat} (h:RowC w g l) {i:Nat} (hi:i<l.length):w.cell? ⟨g,i,none⟩=some (.int .u64 (l.getD i 0:Nat)):=by
 obtain ⟨cur,h1,h2⟩:=h
 rw [cell_of_row w g i _ _ (0,0) h1,←Array.getElem?_toList]
 have:(cur.toList.take l.length)[i]? = (aj l)[i]? := by rw [h2]
 rw [List.getElem?_take_of_lt hi] at this
 rw [this]
 simp [aj,hi]
theorem RowC.frozen {w:World} {g:Nat} {l:List Nat} (h:RowC w g l) (i:Nat):w.frozen? ⟨g,i,none⟩=false:=by
 obtain ⟨cur,h1,h2⟩:=h
 simp [World.frozen?, h1]
theorem RowC.set {w:World} {g:Nat} {l:List Nat} (h:RowC w g l) (i:Nat) (x:Nat):RowC (w.setCell ⟨g,i,none⟩ (.int .u64 (x:Nat))) g (l.set i x):=by
 obtain ⟨cur,h1,h2⟩:=h
 refine ⟨cur.setIfInBounds i (.int .u64 (x:Nat)),?_,?_⟩
 ·simp [World.setCell,Array.getElem?_modify,h1]
 ·rw [List.length_set,Array.toList_setIfInBounds,List.take_set,h2]
  simp [aj,List.map_set]
theorem RowC.lt {w:World} {g:Nat} {l:List Nat} (h:RowC w g l):g<w.heap.size:=by
 obtain ⟨cur,h1,h2⟩:=h
 exact (Array.getElem?_eq_some_iff.1 h1).1
theorem RowC.nats {w:World} {g:Nat} {l:List Nat} (h:RowC w g l) {cap:Nat} (h1:l.length≤cap) (h2:cap≤9223372036854775807):Nats w (.slice (some ⟨g,0,none⟩) l.length cap) l :=
 Nats.of_cells h1 h2 (fun _ hi=>h.cell hi)
theorem RowC.of_block {w w':World} {g:Nat} {l:List Nat} (h:RowC w g l) (hb:w'.heap[g]? = w.heap[g]?):RowC w' g l:=by
 obtain ⟨cur,h1,h2⟩:=h
 exact ⟨cur,hb.trans h1,h2⟩
theorem RowC.next {w w':World} {g B:Nat} {l:List Nat} (h:RowC w g l) (hb:Below B w w') (hg:g<B):RowC w' g l:=h.of_block (hb.block g hg)
theorem fX {w:World} {base:Nat} {v:Value} {l:List Nat} {n:Nat} (h:w.ownsRow base 82 1 v n (aj l)) (hne:l ≠ []):∃ g cap,v = .slice (some ⟨g,0,none⟩) l.length cap∧base≤g∧l.length≤cap∧cap≤maxLen∧RowC w g l:=by
 obtain ⟨h1,h2⟩:=h
 have hn:n=l.length:=by simpa [aj] using h1.symm
 subst hn
 rcases h2 with ⟨_,h0⟩ | ⟨g,cap,cur,rfl,hb,hh,hn,hm,hsz,htk⟩
 ·exact absurd (List.eq_nil_of_length_eq_zero h0) hne
 ·exact ⟨g,cap,rfl,hb,hn,hm,cur,hh,by rw [Nat.mul_one] at htk;exact htk⟩
structure Only (g:Nat) (w w':World):Prop where
 os:w'.os=w.os
 tape:w'.tape=w.tape
 output:w'.output=w.output
 size:w.heap.size≤w'.heap.size
 block:∀ k,k≠g→k<w.heap.size→w'.heap[k]? = w.heap[k]?
theorem Only.refl (g:Nat) (w:World):Only g w w:=⟨rfl,rfl,rfl,Nat.le_refl _,fun _ _ _=>rfl⟩
theorem Only.trans {g:Nat} {a b c:World} (h:Only g a b) (k:Only g b c):Only g a c :=
 ⟨k.os.trans h.os,k.tape.trans h.tape,k.output.trans h.output,Nat.le_trans h.size k.size,fun i hi hl=>(k.block i hi (Nat.lt_of_lt_of_le hl h.size)).trans (h.block i hi hl)⟩
theorem Only.setCell {g:Nat} {a w:World} (h:Only g a w) (o:Nat) (u:Value):Only g a (w.setCell ⟨g,o,none⟩ u) :=
 h.trans ⟨rfl,rfl,rfl,by simp [World.setCell],fun k hk _=>Below.heap_setCell _ _ _ _ (by show k≠g;exact hk)⟩
theorem Only.drew {g:Nat} {a w:World} (h:Only g a w):Only g a w.drew:=⟨h.os,h.tape,h.output,h.size,h.block⟩
theorem Only.of_below {g:Nat} {w w':World} (h:Below w.heap.size w w'):Only g w w':=⟨h.os,h.tape,h.output,h.size,fun k _ hl=>h.block k hl⟩
theorem Only.below {g B:Nat} {a w w':World} (h:Only g w w') (hb:Below B a w) (hg:B≤g) (hB:B≤w.heap.size):Below B a w' :=
 hb.trans ⟨h.os,h.tape,h.output,h.size,fun k hk=>h.block k (by omega) (by omega)⟩
theorem Only.cell {g:Nat} {w w':World} (h:Only g w w') {p:Addr} {v:Value} (hp:p.block≠g) (hc:w.cell? p=some v):w'.cell? p=some v :=
 (World.cell?_of_block (w:=w) (h.block p.block hp (World.block_lt_of_cell? w _ hc))).trans hc
theorem Only.rowC {g k:Nat} {w w':World} {l:List Nat} (h:Only g w w') (hk:k≠g) (hr:RowC w k l):RowC w' k l:=hr.of_block (h.block k hk hr.lt)
theorem Only.nats {g:Nat} {w w':World} {v:Value} {l:List Nat} (h:Only g w w') (hk:v.ownBlock≠some g) (hr:Nats w v l):Nats w' v l:=by
 obtain ⟨p,cap,rfl,h1,h2,h3⟩:=hr
 refine ⟨p,cap,rfl,h1,h2,fun hne => ?_⟩
 obtain ⟨b,off,e,hc⟩:=h3 hne
 exact ⟨b,off,e,fun i hi=>h.cell (by show b≠g;intro hb;exact hk (by rw [e,hb];rfl)) (hc i hi)⟩
theorem qG {l:List Nat} {j by' c P:Nat} (hj:j<l.length) (h:P+B ^ j*c=toN (l.take j)*by') :
  P+B ^ j*((l.getD j 0*by'+c) % 1000000000)+B ^ (j+1)*((l.getD j 0*by'+c) / 1000000000)=toN (l.take (j+1))*by':=by
 rw [aC l j hj,Nat.add_mul,←h]
 generalize l.getD j 0=x
 have e1:B ^ j*(x*by'+c)=B ^ j*((x*by'+c) % 1000000000)+B ^ (j+1)*((x*by'+c) / 1000000000):=by
  rw [Nat.pow_succ,Nat.mul_assoc,←Nat.mul_add];congr 1;rw [fN];omega
 have e2:B ^ j*(x*by'+c)=B ^ j*x*by'+B ^ j*c:=by rw [Nat.mul_add,Nat.mul_assoc]
 omega
theorem Eq {x b c:Nat} (hx:x<1000000000) (hb:b<1000000000) (hc:c<1000000000):x*b+c<1000000000000000000∧(x*b+c) / 1000000000<1000000000∧(x*b+c) % 1000000000<1000000000:=by
 have:=fU hx hb;omega
theorem fY (v:Value) (la:List Nat) (m:Nat) (w:World) (ha:Nats w v la) (da:Dig la) (hla:la.length≤1000000) (hm:m<1000000000) :
  Calls Tryz.prog 201 #[v,.int .u64 m] w fun e W'=>∃ g cap l,e = .returned (.slice (some ⟨g,0,none⟩) l.length cap)∧l.length≤cap∧cap≤maxLen∧w.heap.size≤g∧RowC W' g l∧Dig l∧l.length=la.length+1∧toN l=toN la*m∧Below w.heap.size w W':=by
 obtain ⟨pa,capa,rfl,ha1,ha2,ha3⟩:=ha
 have HA:=Ha ha3;clear ha3
 obtain ⟨i0,hi,hz0,hz1,hz2⟩:=info_parts dF
 have HI:=Ha (Hb hi (Hb hz0 (Hb hz1 hz2)));clear hi hz0 hz1 hz2
 have HD:=Ha da;clear da
 go_enter Tryz.func201,Tryz.ntmps201
 go_wp2_with (at_make;refine wpList_make_own _ rfl _ _ 86 rfl w.heap.size 82 i0 (.int .u64 0) 1 Tryz.underlying86 HI.out.1 HI.out.2.1 HI.out.2.2.1 .i64 .i64 _ (la.length+1) rfl rfl (by omega) (by rw [HI.out.2.2.2];omega) (by unfold maxLen;omega) (Nat.le_refl _) ?_;intro w1 hown hgrow)
 have hB1:Below w.heap.size w w1:=(Below.refl _ w).grown hgrow (Nat.le_refl _) (fun k e=>by cases e)
 go_loopw [5,6,16] (fun x y z wr=>∃ (c j:Nat) (o:List Nat),j≤la.length∧y = .int .u64 c∧z = .int .i64 j∧c<1000000000∧o.length=j∧wr.ownsRow w.heap.size 82 1 x j (aj o)∧Hid (Dig o)∧Hid (toN o+B ^ j*c=toN (la.take j)*m)∧Below w.heap.size w wr)
  (fun _ _ z _=>la.length - (intOf z).toNat)
 case atStart=>exact ⟨0,0,[],Nat.zero_le _,rfl,rfl,by omega,rfl,hown,Dig.nil,by show toN []+B ^ 0*0=_;simp [toN],hB1⟩
 case round =>
  clear hown hB1 hgrow
  obtain ⟨c,j,o,hj,rfl,rfl,hc,hlen,hown,hdig,hval,hbel⟩:=hrel
  have hsz:=hbel.size
  by_cases hjl:j<la.length
  ·obtain ⟨ab,aoff,rfl,hca⟩:=HA.out (by intro e;subst e;simp at hjl)
   have hx:=HD.out.getD j
   have ca0:=hca j hjl
   have cax:wr.cell? ⟨ab,aoff+j,none⟩=some (.int .u64 (la.getD j 0:Nat)):=(hbel.cell (p:=⟨ab,aoff+j,none⟩) (World.block_lt_of_cell? w _ ca0)).trans ca0
   clear ca0 hca
   have HS:=Ha (Hb (qG hjl hval.out) (Eq hx hm hc))
   clear hval
   have hxm:=fU hx hm
   generalize la.getD j 0=x at *
   have hP0:0≤(x:Int)*(m:Int):=by rw [←Int.natCast_mul];omega
   have hP1:(x:Int)*(m:Int)≤999999998000000001:=by rw [←Int.natCast_mul];omega
   have hT:(((x*m+c:Nat)):Int)=(x:Int)*(m:Int)+(c:Int):=by rw [Int.natCast_add,Int.natCast_mul]
   have HT1:=Ha (show ((((x*m+c) / 1000000000:Nat)):Int)=((x:Int)*(m:Int)+(c:Int)) / 1000000000 by rw [Int.natCast_ediv,hT];rfl)
   have HT2:=Ha (show ((((x*m+c) % 1000000000:Nat)):Int)=((x:Int)*(m:Int)+(c:Int)) % 1000000000 by rw [Int.natCast_emod,hT];rfl)
   have HO:=Ha hown
   have HB:=Ha hbel
   clear hT hxm hown hbel
   go_wp2_with (at_builtin;refine wpList_append_own _ rfl _ _ 86 rfl w.heap.size 82 i0 (.int .u64 0) 1 8 Tryz.underlying86 HI.out.1 HI.out.2.1 HI.out.2.2.1 HI.out.2.2.2 rfl (by decide) _ _ _ rfl (HO.out.alloc _) ⟨wr.heap.size,0,none⟩ 1 1 [.int .u64 (((x:Int)*(m:Int)+(c:Int)) % 1000000000)] rfl rfl (cell_one_new _ _ _) (by simp [Value.oneCell']) (by unfold maxLen;omega) (by omega) (by simp;omega) ?_;intro v' w2 hown' hgrow _;have HO2:=Ha hown';have HG2:=Ha hgrow;clear hown' hgrow)
   go_roundw
   case rel =>
    obtain ⟨s1,s2,s3,s4⟩:=HS.out
    refine ⟨(x*m+c) / 1000000000,j+1,o ++ [(x*m+c) % 1000000000],by omega,by rw [HT1.out],by go_num,s3,by simp [hlen],?_,hdig.out.append (Dig.one s4),?_,?_⟩
    ·rw [←bJ,HT2.out];exact HO2.out
    ·show toN _+_=_
     rw [aW,hlen];exact s1
    ·exact (HB.out.alloc hsz _).grown HG2.out (by simp;omega) (fun k hk=>(HO.out.lt k hk).1)
   case measure=>simp [intOf];omega
  ·have ej:j=la.length:=by omega
   subst ej
   have hv:toN (o ++ [c])=toN la*m:=by rw [aW,hlen,hval.out,List.take_length]
   have hdd:Dig (o ++ [c]):=hdig.out.append (Dig.one hc)
   have HS:=Ha (Hb hv hdd)
   have HO:=Ha hown
   have HB:=Ha hbel
   clear hv hdd hval hown hbel
   go_wp2_with (at_builtin;refine wpList_append_own _ rfl _ _ 86 rfl w.heap.size 82 i0 (.int .u64 0) 1 8 Tryz.underlying86 HI.out.1 HI.out.2.1 HI.out.2.2.1 HI.out.2.2.2 rfl (by decide) _ _ _ rfl (HO.out.alloc _) ⟨wr.heap.size,0,none⟩ 1 1 [.int .u64 (c:Nat)] rfl rfl (cell_one_new _ _ _) (by simp [Value.oneCell']) (by unfold maxLen;omega) (by omega) (by simp;omega) ?_;intro v' w2 hown' hgrow _;have HO2:=Ha hown';have HG2:=Ha hgrow;clear hown' hgrow)
   go_ret
   have h2:=HO2.out
   rw [bJ] at h2
   obtain ⟨g,cap,rfl,hg,hc1,hc2,hr⟩:=fX h2 (by simp)
   exact ⟨g,cap,_,rfl,hc1,hc2,hg,hr,HS.out.2,by simp [hlen],HS.out.1,(HB.out.alloc hsz _).grown HG2.out (by simp;omega) (fun k hk=>(HO.out.lt k hk).1)⟩
end
end Go.Proofs.YtbhbhlfkdlfimaaGreatDoor
