/- Parts of the proof of the text YtjdomibbaemdnaaGreatDoorZK42. -/
import Derived.Test.YtjdomibbaemdnaaGreatDoorZK1
import Derived.Test.YtjdomibbaemdnaaGreatDoorZK6
set_option linter.all false
set_option maxRecDepth 100000
set_option maxHeartbeats 8000000
namespace Go.Proofs.YtjdomibbaemdnaaGreatDoor
section
open Go.RowKit
def ti (e z:Int):ByteArray:=if e=0 then fj z else ByteArray.empty
def tj (e z:Int):Int:=if e=0 then fk z else e
theorem jo (z:Int):ti 0 z=fj z:=if_pos rfl
theorem jp (z:Int):tj 0 z=fk z:=if_pos rfl
theorem rQ {e:Int} (h:e≠0) (z:Int):ti e z=⟨#[]⟩:=if_neg h
theorem rR {e:Int} (h:e≠0) (z:Int):tj e z=e:=if_neg h
theorem fw {a b:List UInt8} (h:bC a b=0):chk a=0∧chk b=0:=by
 unfold bC at h;split at h
 ·exact ⟨‹_›, h⟩
 ·exact absurd h ‹_›
theorem bz {s:ByteArray} (h:chk s.data.toList=0):s.size≤301:=by
 have h1:(szL s.data.toList).length≤300:=by
  unfold chk at h
  by_cases h1:(szL s.data.toList).all az
  ·simp only [h1,Bool.not_true,Bool.false_eq_true,if_false] at h
   split at h
   ·cases h
   ·split at h
    ·cases h
    ·omega
  ·simp only [h1] at h;cases h
 have h2:s.data.toList.length≤(szL s.data.toList).length+1:=by
  unfold szL;split
  ·rw [List.length_tail];omega
  ·omega
 rw [ac] at h2;omega
theorem p6:1000000000000000000000000000000000000000≤lim:=by
 have:aO 39≤aO 300:=aP (by decide)
 have h2:aO 39=1000000000000000000000000000000000000000:=by decide
 unfold lim;omega
theorem nI {z:Int} (h:z.natAbs<1000000000000000000000000000000000000000):fj z=aa z:=by unfold fj;rw [if_pos (Nat.lt_of_lt_of_le h p6)]
theorem nJ {z:Int} (h:z.natAbs<1000000000000000000000000000000000000000):fk z=0:=by unfold fk;rw [if_pos (Nat.lt_of_lt_of_le h p6)]
theorem fl (l:List UInt8):am (ap l) (ae (szL l))=valOf l:=by rw [ck];unfold am;rfl
theorem cO {l:List UInt8} (h:chk l=0):ae (szL l)<lim:=by
 have:=vQ l h
 rw [ck] at this;split at this <;> simpa using this
theorem zk (k:Nat):B ^ k=aO (9*k):=zJ k
theorem xG:lim≤B ^ 34:=by
 rw [zk]
 exact aP (by decide)
theorem fc {n:Nat} (h:n<lim):(dg n).length≤34:=(ak n 34).2 (Nat.lt_of_lt_of_le h xG)
theorem AM {a b n:Nat} (ha:a<lim) (hb:b<lim) (h:n≤a+b):(dg n).length≤35:=by
 rw [ak]
 have h1:=xG
 have h2:B ^ 35=B ^ 34*B:=by rw [show (35:Nat)=34+1 from rfl,Nat.pow_succ]
 have h3:B ^ 34*2≤B ^ 34*B:=Nat.mul_le_mul_left _ (by decide)
 omega
theorem AN {a b:Nat} (ha:a<lim) (hb:b<lim):(dg (a*b)).length≤68:=by
 rw [ak,show B ^ 68=B ^ 34*B ^ 34 from (Nat.pow_add B 34 34)]
 have h1:=xG
 exact Nat.mul_lt_mul'' (Nat.lt_of_lt_of_le ha h1) (Nat.lt_of_lt_of_le hb h1)
theorem p8 (na nb:Bool) (a b:Nat):am (na != nb) (a*b)=am na a*am nb b:=by
 unfold am;cases na <;> cases nb <;> simp [Int.mul_neg,Int.neg_mul]
theorem zl (nb:Bool) (b:Nat):am (!nb) b = -am nb b:=by unfold am;cases nb <;> simp
theorem zm (a b:ByteArray) (w:World) (ha:a.size≤maxLen) (hb:b.size≤maxLen) (ht:Tab w) :
  Calls Tryz.prog 288 #[.string a,.string b] w fun e W'=>e = .returned (.tuple #[.string (ti (bC a.data.toList b.data.toList) (valOf a.data.toList - valOf b.data.toList)),.int .i64 (tj (bC a.data.toList b.data.toList) (valOf a.data.toList - valOf b.data.toList))])∧Below w.heap.size w W':=by
 have cb:=bQ a b w ha hb
 generalize he:bC a.data.toList b.data.toList=e at *
 have CB:=Ha cb;clear cb
 by_cases h0:e=0
 ·subst h0
  obtain ⟨k1,k2⟩:=fw he
  have s1:=bz k1
  have s2:=bz k2
  have i1:=fun W=>bm a W ha
  have i2:=fun W=>bm b W hb
  have IS:=Ha (Hb i1 i2);clear i1 i2
  have HT:=Ha ht
  rw [jo,jp]
  have q1:(a.size:Int)≤18∨¬ (a.size:Int)≤18:=Decidable.em _
  by_cases hsh:a.size≤18∧b.size≤18
  ·obtain ⟨hs1,hs2⟩:=hsh
   have t1:decide ((a.size:Int)≤18)=true:=by simp;omega
   have t2:decide ((b.size:Int)≤18)=true:=by simp;omega
   rw [t1,t2] at IS
   clear q1
   have v1:=cR k1 (by rw [ac];omega)
   have v2:=cR k2 (by rw [ac];omega)
   have m1:=fun W=>dN a W (by omega) k1
   have m2:=fun W=>dN b W (by omega) k2
   have mo:=fun W' (h:Below w.heap.size w W')=>dB (valOf a.data.toList - valOf b.data.toList) W' (by omega) (by omega) (HT.out.next h)
   have r1:=nI (z:=valOf a.data.toList - valOf b.data.toList) (by omega)
   have r2:=nJ (z:=valOf a.data.toList - valOf b.data.toList) (by omega)
   rw [r1,r2]
   have MM:=Ha (Hb m1 (Hb m2 mo))
   clear m1 m2 mo r1 r2 he k1 k2 ht
   generalize valOf a.data.toList=x at *
   generalize valOf b.data.toList=y at *
   go_enter Tryz.func288,Tryz.ntmps288
   go_wp2_with fail
   refine CB.out.mono ?_
   rintro e w' ⟨rfl,rfl⟩
   clear CB
   go_wp2_with fail
   refine (IS.out.1 _).mono ?_
   rintro e w' ⟨rfl,rfl⟩
   go_wp2_with fail
   refine (IS.out.2 _).mono ?_
   rintro e w' ⟨rfl,rfl⟩
   clear IS
   go_wp2_with fail
   refine (MM.out.1 _).mono ?_
   rintro e w' ⟨rfl,rfl⟩
   go_wp2_with fail
   refine (MM.out.2.1 _).mono ?_
   rintro e w' ⟨rfl,rfl⟩
   go_wp2_with fail
   refine (MM.out.2.2 _ (Below.refl _ _)).mono ?_
   rintro e w' ⟨rfl,hbb⟩
   have HB:=Ha hbb;clear hbb MM
   go_wp2
   go_ret2
   exact ⟨rfl,HB.out⟩
  ·have rr1:=fun W=>bM a W (by omega) k1
   have rr2:=fun W=>bM b W (by omega) k2
   have RR:=Ha (Hb rr1 rr2)
   have NL:=Ha (Hb (cO k1) (cO k2))
   clear rr1 rr2 he k1 k2 ht
   by_cases hs1:a.size≤18
   case' pos =>
    have t1:decide ((a.size:Int)≤18)=true:=by simp;omega
    have t2:decide ((b.size:Int)≤18)=false:=by simp;omega
    rw [t1,t2] at IS
    clear q1
    go_enter Tryz.func288,Tryz.ntmps288
    go_wp2_with fail
    refine CB.out.mono ?_
    rintro e w' ⟨rfl,rfl⟩
    clear CB
    go_wp2_with fail
    refine (IS.out.1 _).mono ?_
    rintro e w' ⟨rfl,rfl⟩
    go_wp2_with fail
    refine (IS.out.2 _).mono ?_
    rintro e w' ⟨rfl,rfl⟩
   case' neg =>
    have t1:decide ((a.size:Int)≤18)=false:=by simp;omega
    rw [t1] at IS
    clear q1
    go_enter Tryz.func288,Tryz.ntmps288
    go_wp2_with fail
    refine CB.out.mono ?_
    rintro e w' ⟨rfl,rfl⟩
    clear CB
    go_wp2_with fail
    refine (IS.out.1 _).mono ?_
    rintro e w' ⟨rfl,rfl⟩
   all_goals
    go_wp2_with fail
    refine (RR.out.1 _).mono ?_
    rintro e w1 ⟨va,rfl,hva,_,hb1⟩
    have H1:=Ha (Hb hva hb1);clear hva hb1
    go_wp2_with fail
    refine (RR.out.2 _).mono ?_
    rintro e w2 ⟨vb,rfl,hvb,_,hb2⟩
    have H2:=Ha (Hb (H1.out.1.next hb2) (Hb hvb (H1.out.2.trans (hb2.mono H1.out.2.size))));clear hvb hb2 H1
    go_wp2_with fail
    refine (p4 _ _ _ _ H2.out.2.1).mono ?_
    rintro e w3 ⟨rfl,hb3⟩
    have H3:=Ha (Hb (H2.out.1.next hb3) (Hb (H2.out.2.1.next hb3) (H2.out.2.2.trans (hb3.mono H2.out.2.2.size))));clear hb3 H2
    go_wp2_with fail
    refine (kn _ _ _ _ _ _ _ H3.out.1 H3.out.2.1 (Nat.le_trans (fc NL.out.1) (by decide)) (Nat.le_trans (fc NL.out.2) (by decide))).mono ?_
    rintro e w4 ⟨neg,n,v,rfl,hv,hz,_,hb4⟩
    have hzz:am neg n=valOf a.data.toList - valOf b.data.toList:=by rw [hz.1,zl,fl,fl];omega
    have H4:=Ha (Hb hv (H3.out.2.2.trans (hb4.mono H3.out.2.2.size)))
    have ctx:=iS neg v n w4 hv (Nat.le_trans (AM NL.out.1 NL.out.2 hz.2) (by decide)) (HT.out.next H4.out.2)
    rw [hzz] at ctx
    have CT:=Ha ctx
    clear ctx hv hb4 hz hzz
    go_wp2_with fail
    refine CT.out.mono ?_
    rintro e w5 ⟨rfl,hb5⟩
    have HB:=Ha (H4.out.2.trans (hb5.mono H4.out.2.size));clear hb5 H4 CT
    go_wp2
    go_ret2
    exact ⟨rfl,HB.out⟩
 ·have hn:(e != 0)=true:=by simpa using h0
  rw [rQ h0,rR h0]
  clear he ht h0
  go_enter Tryz.func288,Tryz.ntmps288
  go_wp2_with fail
  refine CB.out.mono ?_
  rintro e w' ⟨rfl,rfl⟩
  clear CB
  go_wp2
  go_ret2
  exact ⟨rfl,Below.refl _ _⟩
theorem tk {a b:ByteArray} (ka:chk a.data.toList=0) (kb:chk b.data.toList=0) (h:a.size+b.size≤18) :
  -1000000000000000000<valOf a.data.toList*valOf b.data.toList∧valOf a.data.toList*valOf b.data.toList<1000000000000000000:=by
 have h1:=a7 _ (bY ka)
 have h2:=a7 _ (bY kb)
 have l1:=df a.data.toList
 have l2:=df b.data.toList
 rw [ac] at l1 l2
 have h3:ae (szL a.data.toList)*ae (szL b.data.toList)<10 ^ 18:=by
  refine Nat.lt_of_lt_of_le (Nat.mul_lt_mul'' h1 h2) ?_
  rw [←Nat.pow_add]
  exact Nat.pow_le_pow_right (by decide) (by omega)
 have h4:(valOf a.data.toList*valOf b.data.toList).natAbs=ae (szL a.data.toList)*ae (szL b.data.toList):=by
  rw [Int.natAbs_mul,ck,ck]
  congr 1 <;> split <;> simp
 omega
theorem Mul_any (a b:ByteArray) (w:World) (ha:a.size≤maxLen) (hb:b.size≤maxLen) (ht:Tab w) :
  Calls Tryz.prog 113 #[.string a,.string b] w fun e W'=>e = .returned (.tuple #[.string (ti (bC a.data.toList b.data.toList) (valOf a.data.toList*valOf b.data.toList)),.int .i64 (tj (bC a.data.toList b.data.toList) (valOf a.data.toList*valOf b.data.toList))])∧Below w.heap.size w W':=by
 have cb:=bQ a b w ha hb
 generalize he:bC a.data.toList b.data.toList=e at *
 have CB:=Ha cb;clear cb
 by_cases h0:e=0
 ·subst h0
  obtain ⟨k1,k2⟩:=fw he
  have s1:=bz k1
  have s2:=bz k2
  have i1:=fun W=>bm a W ha
  have i2:=fun W=>bm b W hb
  have IS:=Ha (Hb i1 i2);clear i1 i2
  have HT:=Ha ht
  rw [jo,jp]
  by_cases hsh:a.size+b.size≤18
  ·have hs1:a.size≤18:=by omega
   have hs2:b.size≤18:=by omega
   have hsi:(a.size:Int)+b.size≤18:=by omega
   have hprod:=tk k1 k2 hsh
   have v1:=cR k1 (by rw [ac];omega)
   have v2:=cR k2 (by rw [ac];omega)
   have m1:=fun W=>dN a W (by omega) k1
   have m2:=fun W=>dN b W (by omega) k2
   have mo:=fun W' (h:Below w.heap.size w W')=>dB (valOf a.data.toList*valOf b.data.toList) W' (by omega) (by omega) (HT.out.next h)
   have r1:=nI (z:=valOf a.data.toList*valOf b.data.toList) (by omega)
   have r2:=nJ (z:=valOf a.data.toList*valOf b.data.toList) (by omega)
   rw [r1,r2]
   have MM:=Ha (Hb m1 (Hb m2 mo))
   clear m1 m2 mo r1 r2 he k1 k2 ht
   generalize valOf a.data.toList=x at *
   generalize valOf b.data.toList=y at *
   go_enter Tryz.func113,Tryz.ntmps113
   go_wp2_with fail
   refine CB.out.mono ?_
   rintro e w' ⟨rfl,rfl⟩
   clear CB
   go_wp2_with fail
   refine (MM.out.1 _).mono ?_
   rintro e w' ⟨rfl,rfl⟩
   go_wp2_with fail
   refine (MM.out.2.1 _).mono ?_
   rintro e w' ⟨rfl,rfl⟩
   go_wp2_with fail
   refine (MM.out.2.2 _ (Below.refl _ _)).mono ?_
   rintro e w' ⟨rfl,hbb⟩
   have HB:=Ha hbb;clear hbb MM
   go_wp2
   go_ret2
   exact ⟨rfl,HB.out⟩
  ·have rr1:=fun W=>bM a W (by omega) k1
   have rr2:=fun W=>bM b W (by omega) k2
   have RR:=Ha (Hb rr1 rr2)
   have NL:=Ha (Hb (cO k1) (cO k2))
   clear rr1 rr2 he k1 k2 ht
   have hsi:¬ (a.size:Int)+b.size≤18:=by omega
   go_enter Tryz.func113,Tryz.ntmps113
   go_wp2_with fail
   refine CB.out.mono ?_
   rintro e w' ⟨rfl,rfl⟩
   clear CB
   go_wp2_with fail
   refine (RR.out.1 _).mono ?_
   rintro e w1 ⟨va,rfl,hva,_,hb1⟩
   have H1:=Ha (Hb hva hb1);clear hva hb1
   go_wp2_with fail
   refine (RR.out.2 _).mono ?_
   rintro e w2 ⟨vb,rfl,hvb,_,hb2⟩
   have H2:=Ha (Hb (H1.out.1.next hb2) (Hb hvb (H1.out.2.trans (hb2.mono H1.out.2.size))));clear hvb hb2 H1
   go_wp2_with fail
   refine (gM _ _ _ _ _ _ _ H2.out.1 H2.out.2.1 (Nat.le_trans (fc NL.out.1) (by decide)) (Nat.le_trans (fc NL.out.2) (by decide))).mono ?_
   rintro e w4 ⟨v,rfl,hv,_,hb4⟩
   have hzz:am (ap a.data.toList != ap b.data.toList) (ae (szL a.data.toList)*ae (szL b.data.toList))=valOf a.data.toList*valOf b.data.toList:=by rw [p8,fl,fl]
   have H4:=Ha (Hb hv (H2.out.2.2.trans (hb4.mono H2.out.2.2.size)))
   have ctx:=iS (ap a.data.toList != ap b.data.toList) v _ w4 hv (Nat.le_trans (AN NL.out.1 NL.out.2) (by decide)) (HT.out.next H4.out.2)
   rw [hzz] at ctx
   have CT:=Ha ctx
   clear ctx hv hb4 hzz
   go_wp2_with fail
   refine CT.out.mono ?_
   rintro e w5 ⟨rfl,hb5⟩
   have HB:=Ha (H4.out.2.trans (hb5.mono H4.out.2.size));clear hb5 H4 CT
   go_wp2
   go_ret2
   exact ⟨rfl,HB.out⟩
 ·have hn:(e != 0)=true:=by simpa using h0
  rw [rQ h0,rR h0]
  clear he ht h0
  go_enter Tryz.func113,Tryz.ntmps113
  go_wp2_with fail
  refine CB.out.mono ?_
  rintro e w' ⟨rfl,rfl⟩
  clear CB
  go_wp2
  go_ret2
  exact ⟨rfl,Below.refl _ _⟩
theorem vF {l:List UInt8} (h:chk l=0):ap l=decide (valOf l<0):=by
 have:=a6 (valOf l)
 rwa [cZ l h] at this
theorem tl (v:Value) (n:Nat) (w:World) (h:IsNat w v n) (hn:n<1000000000000000000) :
  Calls Tryz.prog 173 #[v] w fun e W'=>∃ v',e = .returned v'∧IsNat W' v' (aj n)∧Fresh w.heap.size v'∧Below w.heap.size w W':=by
 have c1:=dh v n w h hn
 have hr:aj n≤n:=by
  have:=(cC n).1
  by_cases h0:aj n=0
  ·omega
  ·exact Nat.le_trans (Nat.le_mul_of_pos_left _ (by omega)) this
 have c2:=mf n w hn
 have c3:=fZ (aj n) w (by omega)
 have hl:(dg n).length≤2:=(ak n 2).2 (by rw [show B ^ 2=1000000000000000000 from rfl];exact hn)
 obtain ⟨p,cap,rfl,_⟩:=id h
 have C:=Ha (Hb c1 (Hb c2 c3));clear c1 c2 c3 hr h
 generalize (dg n).length=l at *
 generalize aj n=r at *
 have hl':(l:Int)≤2:=by omega
 go_enter Tryz.func173,Tryz.ntmps173
 go_wp2_with fail
 refine C.out.1.mono ?_
 rintro e w' ⟨rfl,rfl⟩
 go_wp2_with fail
 refine C.out.2.1.mono ?_
 rintro e w' ⟨rfl,rfl⟩
 go_wp2_with fail
 refine C.out.2.2.mono ?_
 rintro e w' ⟨v,rfl,hh⟩
 have H:=Ha hh;clear hh C
 go_wp2
 go_ret
 exact ⟨v,rfl,H.out⟩
theorem Below.drewN' {w:World} (n:Nat):Below w.heap.size w (w.drewN n):=⟨rfl,rfl,rfl,Nat.le_refl _,fun _ _=>rfl⟩
theorem zo (a b:Int) (hb:b≠0) (ha : -1000000000000000000<a) (ha':a<1000000000000000000) : -1000000000000000001<a.fdiv b∧a.fdiv b<1000000000000000001:=by
 have h:=pK a b ha ha'
 by_cases h0:a.tmod b=0∨((a.tmod b<0)↔(b<0))
 ·rw [(fq hb h0).1];omega
 ·rw [not_or] at h0;rw [(dY hb h0.1 h0.2).1];omega
theorem zp (a b:Int) (hb:b≠0) (h1 : -1000000000000000000<b) (h2:b<1000000000000000000) : -1000000000000000000<a.fmod b∧a.fmod b<1000000000000000000:=by
 have h:=jY a b hb
 by_cases h0:a.tmod b=0∨((a.tmod b<0)↔(b<0))
 ·rw [(fq hb h0).2];omega
 ·rw [not_or] at h0;rw [(dY hb h0.1 h0.2).2];omega
theorem p9 (a b:ByteArray) (w:World) (k1:chk a.data.toList=0) (k2:chk b.data.toList=0) (h0:valOf b.data.toList≠0) (s1:a.size≤18) (s2:b.size≤18) (ht:Tab w) :
  Calls Tryz.prog 132 #[.string a,.string b] w fun e W'=>e = .returned (.tuple #[.string (aa ((valOf a.data.toList).fdiv (valOf b.data.toList))),.string (aa ((valOf a.data.toList).fmod (valOf b.data.toList))),.int .i64 0])∧Below w.heap.size w W':=by
 have cb:=bQ a b w (by unfold maxLen;omega) (by unfold maxLen;omega)
 have hc2:bC a.data.toList b.data.toList=0:=by unfold bC;rw [if_pos k1];exact k2
 rw [hc2] at cb
 have hb48:(b.toList == [48])=false:=by
  rw [ByteArray.toList_eq,beq_eq_false_iff_ne]
  intro e;rw [e] at h0;exact h0 rfl
 have i1:=fun W=>bm a W (by unfold maxLen;omega)
 have i2:=fun W=>bm b W (by unfold maxLen;omega)
 have t1:decide ((a.size:Int)≤18)=true:=by simp;omega
 have t2:decide ((b.size:Int)≤18)=true:=by simp;omega
 rw [t1] at i1;rw [t2] at i2
 have m1:=fun W=>dN a W s1 k1
 have m2:=fun W=>dN b W s2 k2
 have v1:=cR k1 (by rw [ac];exact s1)
 have v2:=cR k2 (by rw [ac];exact s2)
 generalize valOf a.data.toList=x at *
 generalize valOf b.data.toList=y at *
 have dm:=fun W=>fY x y W v1.1 v1.2 v2.1 v2.2 h0
 have q:=zo x y h0 v1.1 v1.2
 have r:=zp x y h0 v2.1 v2.2
 generalize x.fdiv y=d at *
 generalize x.fmod y=m at *
 have o1:=fun W (h:Below w.heap.size w W)=>dB d W (by omega) (by omega) (ht.next h)
 have o2:=fun W (h:Below w.heap.size w W)=>dB m W (by omega) (by omega) (ht.next h)
 have C:=Ha (Hb cb (Hb i1 (Hb i2 (Hb m1 (Hb m2 (Hb dm (Hb o1 o2)))))))
 clear cb i1 i2 m1 m2 dm o1 o2 v1 v2 q r t1 t2 hc2 h0 ht k1 k2
 go_enter Tryz.func132,Tryz.ntmps132
 go_wp2_with fail
 refine C.out.1.mono ?_
 rintro e w' ⟨rfl,rfl⟩
 go_wp2_with fail
 refine (C.out.2.1 _).mono ?_
 rintro e w' ⟨rfl,rfl⟩
 go_wp2_with fail
 refine (C.out.2.2.1 _).mono ?_
 rintro e w' ⟨rfl,rfl⟩
 go_wp2_with fail
 refine (C.out.2.2.2.1 _).mono ?_
 rintro e w' ⟨rfl,rfl⟩
 go_wp2_with fail
 refine (C.out.2.2.2.2.1 _).mono ?_
 rintro e w' ⟨rfl,rfl⟩
 go_wp2_with fail
 refine (C.out.2.2.2.2.2.1 _).mono ?_
 rintro e w' ⟨rfl,nn,rfl⟩
 go_wp2_with fail
 refine (C.out.2.2.2.2.2.2.1 _ (Below.drewN' nn)).mono ?_
 rintro e w1 ⟨rfl,b1⟩
 have H1:=Ha ((Below.drewN' nn).trans (show Below w.heap.size (w.drewN nn) w1 from b1));clear b1
 go_wp2_with fail
 refine (C.out.2.2.2.2.2.2.2 _ H1.out).mono ?_
 rintro e w2 ⟨rfl,b2⟩
 have H2:=Ha (H1.out.trans (b2.mono H1.out.size));clear b2 H1 C
 go_wp2
 go_ret3
 exact ⟨rfl,H2.out⟩
theorem gp (z:Int) (l:List UInt8) (h:Lib.itoa z=l):aa z=⟨l.toArray⟩:=by unfold aa;rw [h]
theorem gS (z:Int) (w:World) (h0 : -9223372036854775808≤z) (h1:z≤9223372036854775807) (ht:Tab w) :
  Calls Tryz.prog 64 #[.int .i64 z] w fun e w'=>e = .returned (.string (aa z))∧Below w.heap.size w w' :=
 (Tryz.strconv_Itoa z h0 h1 w ht).mono fun e w' ⟨he,k,os,hw⟩=>⟨he,by rw [hw];exact Lib.below_grow _ _ (Nat.le_refl _) _ _⟩
theorem bX {z:Int} (h:z.natAbs<lim):chk (aa z).data.toList=0:=by rw [ay,fC,if_pos h]
theorem bB (z:Int):valOf (aa z).data.toList=z:=by rw [ay,cG]
theorem aG {z:Int} (h:z.natAbs<lim):(aa z).size≤301:=bz (bX h)
theorem fx {x y:Int} (hx:x.natAbs<lim) (hy:y.natAbs<lim):bC (aa x).data.toList (aa y).data.toList=0:=by unfold bC;rw [if_pos (bX hx),bX hy]
theorem lp {z:Int} (h:z.natAbs<1000000000000000000000000000000000000000):z.natAbs<lim:=Nat.lt_of_lt_of_le h p6
theorem zq (x y:Int) (w:World) (hx:x.natAbs<lim) (hy:y.natAbs<lim) (hz:(x*y).natAbs<lim) (ht:Tab w) :
  Calls Tryz.prog 113 #[.string (aa x),.string (aa y)] w fun e W'=>e = .returned (.tuple #[.string (aa (x*y)),.int .i64 0])∧Below w.heap.size w W':=by
 have c:=Mul_any (aa x) (aa y) w (by have:=aG hx;unfold maxLen;omega) (by have:=aG hy;unfold maxLen;omega) ht
 rw [fx hx hy,bB,bB,jo,jp] at c
 unfold fj fk at c
 rwa [if_pos hz,if_pos hz] at c
theorem fQ (z:Int):(aa z).size=(Lib.itoa z).length:=by rw [←ac,ay]
theorem jI {l:List UInt8} (h:szL l = []∨((szL l).head? = some 48∧l ≠ [48])):chk l=11:=by
 unfold chk;split
 ·rfl
 ·first | rfl | exact if_pos h
theorem qa {l:List UInt8} {f:Nat} (hz:szL l=l.drop f) (ha:(l.drop f).all az=true) (hne:f<l.length) (h48:l[f]? = some 48→l.length≤1) :
  chk l=if 300<l.length - f then 4 else 0:=by
 rw [ez (by rw [hz];exact ha),hz,if_neg,List.length_drop]
 rintro (h | ⟨h,h'⟩)
 ·have:=congrArg List.length h;rw [List.length_drop] at this;simp at this;omega
 ·rw [List.head?_drop] at h
  have h1:=h48 h
  have hf:f=0:=by omega
  subst hf
  match l,h1,h,h' with
  | [c],_,h,h'=>simp at h;exact h' (by rw [h])
theorem ui {l:List UInt8} (h:ap l=true):szL l=l.drop 1:=by unfold szL;rw [if_pos h,List.drop_one]
theorem zr {l:List UInt8} (h:ap l=false):szL l=l.drop 0:=by unfold szL;rw [h];rfl
theorem nK (s:ByteArray) (k:Nat) (h:k<s.size):s.data.toList[k]? = some s[k]:=by
 rw [List.getElem?_eq_getElem (by rw [ac];exact h)];rfl
theorem nL {s:ByteArray} {f k:Nat} (h:((s.data.toList.take k).drop f).all az=true) (hf:f≤k) (hk:k<s.size) (hd:az s[k]=true) :
  ((s.data.toList.take (k+1)).drop f).all az=true:=by
 rw [bG s k hk,List.drop_append_of_le_length (by rw [List.length_take,ac];omega),List.all_append,h];simp [hd]
theorem tm (k:Nat):aO (k+1)=10*aO k:=by unfold aO;rw [Nat.pow_succ,Nat.mul_comm]
theorem jq (j k:Nat):aO (j+k)=aO j*aO k:=Nat.pow_add _ _ _
def Bd (k:Nat) (z:Int):Prop:=z.natAbs<aO k
theorem Bd.add {k:Nat} {x y:Int} (hx:Bd k x) (hy:Bd k y):Bd (k+1) (x+y):=by
 unfold Bd at *; rw [tm];omega
theorem Bd.mul {j k:Nat} {x y:Int} (hx:Bd j x) (hy:Bd k y):Bd (j+k) (x*y):=by
 unfold Bd at *; rw [jq,Int.natAbs_mul];exact Nat.mul_lt_mul'' hx hy
theorem Bd.lt {k:Nat} {z:Int} (h:Bd k z) (hk:k≤300):z.natAbs<lim:=Nat.lt_of_lt_of_le h (aP hk)
theorem Bd.up {j k:Nat} {z:Int} (h:Bd j z) (hk:j≤k):Bd k z:=Nat.lt_of_lt_of_le h (aP hk)
theorem gT (s:ByteArray) (k f:Nat) (hf:f≤k) (h:k<s.size):s[k]∈s.data.toList.drop f:=by
 have h2:(s.data.toList.drop f)[k - f]? = some s[k]:=by
  rw [List.getElem?_drop,show f+(k - f)=k by omega];exact nK s k h
 exact List.mem_of_getElem? h2
theorem uj {s:ByteArray} {f:Nat} (hf:f<s.size) (h:((s[f].toNat:Int)==48)=true):(s.data.toList.drop f).head? = some 48:=by
 rw [List.head?_drop,nK s f hf]
 have:=lD s[f] 48 (by decide)
 rw [show ((48:Nat):Int)=48 from rfl,h] at this
 exact congrArg some (by simpa using this.symm)
theorem tp {s:ByteArray} {f:Nat} (hf:f<s.size) (h:((s[f].toNat:Int)==48)=false):s.data.toList[f]? ≠ some 48:=by
 rw [nK s f hf]
 intro e
 have e:=Option.some.inj e
 rw [e] at h
 exact absurd h (by decide)
theorem dq (s:ByteArray) (w:World) (hs:s.size≤maxLen) :
  Calls Tryz.prog 91 #[.string s] w fun e w'=>e = .returned (.int .i64 (chk s.data.toList))∧w=w':=by
 have hm:s.size≤9223372036854775807:=by unfold maxLen at hs;omega
 clear hs
 by_cases hn:ap s.data.toList=true
 ·have hz:=Ha (ui hn)
  have h0:=hO hn
  have h45:((s[0].toNat:Int)==45)=true:=(bF h0).trans hn
  clear hn
  by_cases h1:s.size=1
  ·have h1':((1:Int)==s.size)=true:=by rw [h1];rfl
   go_enter Tryz.func91,Tryz.ntmps91
   go_wp2
   go_ret
   refine ⟨an (jI (.inl ?_)).symm,rfl⟩
   rw [hz.out,List.drop_eq_nil_iff,ac];omega
  ·have h2:1<s.size:=by omega
   have h1':((1:Int)==s.size)=false:=by rw [beq_eq_false_iff_ne];omega
   by_cases hc:((s[1].toNat:Int)==48)=true
   ·have hx:=Ha (uj h2 hc)
    go_enter Tryz.func91,Tryz.ntmps91
    go_wp2
    go_ret
    refine ⟨an (jI (.inr ⟨by rw [hz.out];exact hx.out,fun e => ?_⟩)).symm,rfl⟩
    have:=congrArg List.length e
    rw [ac] at this;simp at this;omega
   ·have hc':((s[1].toNat:Int)==48)=false:=by simpa using hc
    clear hc
    have H48:=Ha (fun h:s.data.toList[1]? = some 48=>show s.size≤1 from absurd h (tp h2 hc'))
    go_enter Tryz.func91,Tryz.ntmps91
    go_wp2
    go_loop [4] (fun i=>∃ k:Nat,1≤k∧k≤s.size∧i = .int .i64 k∧Hid (((s.data.toList.take k).drop 1).all az=true)) (fun i=>s.size - (intOf i).toNat)
    case atStart=>exact ⟨1,Nat.le_refl _,by omega,rfl,by show ((s.data.toList.take 1).drop 1).all az=true;rw [List.drop_eq_nil_of_le (List.length_take_le _ _)];rfl⟩
    case round =>
     obtain ⟨k,hk0,hk,rfl,hd⟩:=hrel
     by_cases hlt:k<s.size
     ·by_cases h3:(s[k].toNat:Int)<48
      ·go_wp2
       go_ret
       refine ⟨an (cL ?_).symm,rfl⟩
       rw [hz.out,List.all_eq_false]
       exact ⟨s[k],gT s k 1 hk0 hlt,by rw [aA];omega⟩
      ·by_cases h4:(57:Int)<s[k].toNat
       ·go_wp2
        go_ret
        refine ⟨an (cL ?_).symm,rfl⟩
        rw [hz.out,List.all_eq_false]
        exact ⟨s[k],gT s k 1 hk0 hlt,by rw [aA];omega⟩
       ·have hd':Hid (((s.data.toList.take (k+1)).drop 1).all az=true):=nL hd.out hk0 hlt (by rw [aA];omega)
        clear hd
        go_wp2
        go_round
        case rel=>exact ⟨k+1,by omega,by omega,by go_num,hd'⟩
        case measure=>simp [intOf];omega
     ·have hE:Hid (chk s.data.toList=if 300<s.data.toList.length - 1 then 4 else 0):=qa hz.out (by have:=hd.out;rwa [List.take_of_length_le (by rw [ac];omega)] at this) (by rw [ac];omega) (fun h=>by rw [ac];exact H48.out h)
      clear hd
      go_wp2
      ·have hy:(300:Int)<s.size - 1:=by omega
       go_ret
       exact ⟨an (by rw [hE.out,if_pos (by rw [ac];omega)]),rfl⟩
      ·have hy:(s.size:Int) - 1≤300:=by omega
       go_ret
       exact ⟨an (by rw [hE.out,if_neg (by rw [ac];omega)]),rfl⟩
 ·have hn':ap s.data.toList=false:=by simpa using hn
  clear hn
  have hz:=Ha (zr hn')
  by_cases h0:s.size=0
  ·go_enter Tryz.func91,Tryz.ntmps91
   go_wp2
   go_ret
   refine ⟨an (jI (.inl ?_)).symm,rfl⟩
   rw [hz.out,List.drop_eq_nil_iff,ac];omega
  ·have h2:0<s.size:=by omega
   have h45:((s[0].toNat:Int)==45)=false:=(bF h2).trans hn'
   have h1':((0:Int)==s.size)=false:=by rw [beq_eq_false_iff_ne];omega
   clear hn'
   by_cases hc:((s[0].toNat:Int)==48)=true∧1<s.size
   ·obtain ⟨hc,h3⟩:=hc
    have hx:=Ha (uj h2 hc)
    go_enter Tryz.func91,Tryz.ntmps91
    go_wp2
    go_ret
    refine ⟨an (jI (.inr ⟨by rw [hz.out];exact hx.out,fun e => ?_⟩)).symm,rfl⟩
    have:=congrArg List.length e
    rw [ac] at this;simp at this;omega
   ·by_cases hc1:((s[0].toNat:Int)==48)=true
    ·have h3:s.size=1:=by
      have:¬ 1<s.size:=fun h=>hc ⟨hc1,h⟩
      omega
     have h3':¬ (1:Int)<s.size:=by omega
     have H48:=Ha (fun _:s.data.toList[0]? = some 48=>show s.size≤1 by omega)
     clear hc
     go_enter Tryz.func91,Tryz.ntmps91
     go_wp2
     go_loop [4] (fun i=>∃ k:Nat,0≤k∧k≤s.size∧i = .int .i64 k∧Hid (((s.data.toList.take k).drop 0).all az=true)) (fun i=>s.size - (intOf i).toNat)
     case atStart=>exact ⟨0,Nat.le_refl _,by omega,rfl,by show ((s.data.toList.take 0).drop 0).all az=true;rw [List.drop_eq_nil_of_le (List.length_take_le _ _)];rfl⟩
     case round =>
      obtain ⟨k,hk0,hk,rfl,hd⟩:=hrel
      by_cases hlt:k<s.size
      ·by_cases h3:(s[k].toNat:Int)<48
       ·go_wp2
        go_ret
        refine ⟨an (cL ?_).symm,rfl⟩
        rw [hz.out,List.all_eq_false]
        exact ⟨s[k],gT s k 0 hk0 hlt,by rw [aA];omega⟩
       ·by_cases h4:(57:Int)<s[k].toNat
        ·go_wp2
         go_ret
         refine ⟨an (cL ?_).symm,rfl⟩
         rw [hz.out,List.all_eq_false]
         exact ⟨s[k],gT s k 0 hk0 hlt,by rw [aA];omega⟩
        ·have hd':Hid (((s.data.toList.take (k+1)).drop 0).all az=true):=nL hd.out hk0 hlt (by rw [aA];omega)
         clear hd
         go_wp2
         go_round
         case rel=>exact ⟨k+1,by omega,by omega,by go_num,hd'⟩
         case measure=>simp [intOf];omega
      ·have hE:Hid (chk s.data.toList=if 300<s.data.toList.length - 0 then 4 else 0):=qa hz.out (by have:=hd.out;rwa [List.take_of_length_le (by rw [ac];omega)] at this) (by rw [ac];omega) (fun h=>by rw [ac];exact H48.out h)
       clear hd
       go_wp2
       go_ret
       exact ⟨an (by rw [hE.out,if_neg (by rw [ac];omega)]),rfl⟩
    ·have hc':((s[0].toNat:Int)==48)=false:=by simpa using hc1
     clear hc hc1
     have H48:=Ha (fun h:s.data.toList[0]? = some 48=>show s.size≤1 from absurd h (tp h2 hc'))
     go_enter Tryz.func91,Tryz.ntmps91
     go_wp2
     go_loop [4] (fun i=>∃ k:Nat,0≤k∧k≤s.size∧i = .int .i64 k∧Hid (((s.data.toList.take k).drop 0).all az=true)) (fun i=>s.size - (intOf i).toNat)
     case atStart=>exact ⟨0,Nat.le_refl _,by omega,rfl,by show ((s.data.toList.take 0).drop 0).all az=true;rw [List.drop_eq_nil_of_le (List.length_take_le _ _)];rfl⟩
     case round =>
      obtain ⟨k,hk0,hk,rfl,hd⟩:=hrel
      by_cases hlt:k<s.size
      ·by_cases h3:(s[k].toNat:Int)<48
       ·go_wp2
        go_ret
        refine ⟨an (cL ?_).symm,rfl⟩
        rw [hz.out,List.all_eq_false]
        exact ⟨s[k],gT s k 0 hk0 hlt,by rw [aA];omega⟩
       ·by_cases h4:(57:Int)<s[k].toNat
        ·go_wp2
         go_ret
         refine ⟨an (cL ?_).symm,rfl⟩
         rw [hz.out,List.all_eq_false]
         exact ⟨s[k],gT s k 0 hk0 hlt,by rw [aA];omega⟩
        ·have hd':Hid (((s.data.toList.take (k+1)).drop 0).all az=true):=nL hd.out hk0 hlt (by rw [aA];omega)
         clear hd
         go_wp2
         go_round
         case rel=>exact ⟨k+1,by omega,by omega,by go_num,hd'⟩
         case measure=>simp [intOf];omega
      ·have hE:Hid (chk s.data.toList=if 300<s.data.toList.length - 0 then 4 else 0):=qa hz.out (by have:=hd.out;rwa [List.take_of_length_le (by rw [ac];omega)] at this) (by rw [ac];omega) (fun h=>by rw [ac];exact H48.out h)
       clear hd
       go_wp2
       ·have hy:(300:Int)<s.size:=by omega
        go_ret
        exact ⟨an (by rw [hE.out,if_pos (by rw [ac];omega)]),rfl⟩
       ·have hy:(s.size:Int)≤300:=by omega
        go_ret
        exact ⟨an (by rw [hE.out,if_neg (by rw [ac];omega)]),rfl⟩
end
section
open Go.Lib
def ah (q:Rat):ByteArray:=⟨(cQ q).toArray⟩
theorem bH (q:Rat):(ah q).data.toList=cQ q:=by unfold ah;simp
theorem iT (q:Rat):bZ (ah q).data.toList=q:=by rw [bH,iz]
theorem rS {q:Rat} (h:q.num.natAbs<lim) (h':q.den<lim):aM (ah q).data.toList=0:=by rw [bH,mD,if_pos ⟨h,h'⟩]
theorem eO {s:ByteArray} (h:aM s.data.toList=0):s=ah (bZ s.data.toList):=by
 unfold ah;rw [lC h]
theorem nM {x y:Rat} (h:ah x=ah y):x=y:=by rw [←iT x,←iT y,h]
def short (z:Int):Prop:=z.natAbs<lim
instance (z:Int):Decidable (short z):=inferInstanceAs (Decidable (_<_))
def nO (n d:Int):ByteArray:=if short n∧short d then ah (Rat.divInt n d) else ⟨#[]⟩
def nP (n d:Int):Int:=if short n∧short d then 0 else 4
def zs (x y:Rat):Prop:=short (x.num*y.den)∧short (y.num*x.den)
instance (x y:Rat):Decidable (zs x y):=inferInstanceAs (Decidable (_∧_))
def nQ (x y:Rat):ByteArray:=nO (x.num*y.num) (x.den*y.den)
def nR (x y:Rat):Int:=nP (x.num*y.num) (x.den*y.den)
def jz (x y:Rat):ByteArray:=nO (x.num*y.den) (y.num*x.den)
def jA (x y:Rat):Int:=nP (x.num*y.den) (y.num*x.den)
theorem uk (x y:Rat):Rat.divInt (x.num*y.num) (x.den*y.den)=x*y:=by
 rw [Rat.mul_def',←Rat.divInt_ofNat,Int.natCast_mul]
theorem ul (x y:Rat):Rat.divInt (x.num*y.den) (y.num*x.den)=x / y:=by
 rw [Rat.div_def,Rat.inv_def,Int.mul_comm y.num]
 conv=>rhs;arg 1;rw [←Rat.num_divInt_den x]
 rw [Rat.divInt_mul_divInt]
def Bq (k:Nat) (q:Rat):Prop:=q.num.natAbs<aO k∧q.den<aO k
theorem Bq.lim {k:Nat} {q:Rat} (h:Bq k q) (hk:k≤300):q.num.natAbs<lim∧q.den<lim :=
 ⟨Nat.lt_of_lt_of_le h.1 (aP hk),Nat.lt_of_lt_of_le h.2 (aP hk)⟩
theorem Bq.up {j k:Nat} {q:Rat} (h:Bq j q) (hk:j≤k):Bq k q :=
 ⟨Nat.lt_of_lt_of_le h.1 (aP hk),Nat.lt_of_lt_of_le h.2 (aP hk)⟩
theorem Bq.chk {k:Nat} {q:Rat} (h:Bq k q) (hk:k≤300):aM (ah q).data.toList=0:=rS (h.lim hk).1 (h.lim hk).2
theorem Bq.num {k:Nat} {q:Rat} (h:Bq k q):Bd k q.num:=h.1
theorem Bq.den {k:Nat} {q:Rat} (h:Bq k q):Bd k (q.den:Int):=by show Int.natAbs _<_;rw [Int.natAbs_natCast];exact h.2
theorem Bq.of_int {k : Nat} {n d : Int} (hd : d ≠ 0) (h1 : Bd k n) (h2 : Bd k d) : Bq k (Rat.divInt n d) := by
 have h3 : (Rat.divInt n d).num.natAbs ≤ n.natAbs := by
   rw [Rat.num_divInt, Int.natAbs_ediv_of_dvd (by
     refine Int.dvd_trans ?_ (Int.dvd_mul_left _ _)
     exact Int.gcd_dvd_right _ _), Int.natAbs_mul]
   refine Nat.le_trans (Nat.div_le_self _ _) ?_
   have : d.sign.natAbs ≤ 1 := by rcases Int.lt_trichotomy d 0 with q | q | q
                                  · rw [Int.sign_eq_neg_one_of_neg q]; decide
                                  · exact absurd q hd
                                  · rw [Int.sign_eq_one_of_pos q]; decide
   calc _ ≤ 1 * n.natAbs := Nat.mul_le_mul_right _ this
     _ = n.natAbs := Nat.one_mul _
 have h4 : (Rat.divInt n d).den ≤ d.natAbs := by
   rw [Rat.den_divInt, if_neg hd]; exact Nat.div_le_self _ _
 exact ⟨Nat.lt_of_le_of_lt h3 h1, Nat.lt_of_le_of_lt h4 h2⟩
theorem AO (x y:Rat):((x.den:Int)*y.den)≠0:=by
 have h1:=x.den_nz;have h2:=y.den_nz
 rw [←Int.natCast_mul]
 intro h
 have:=Int.ofNat.inj (h:Int.ofNat _=Int.ofNat 0)
 rcases Nat.mul_eq_zero.1 this with q | q
 ·exact h1 q
 ·exact h2 q
theorem um {k:Nat} {n d:Int} (hk:k≤300) (h1:Bd k n) (h2:Bd k d):nO n d=ah (Rat.divInt n d)∧nP n d=0:=by
 have h:short n∧short d:=⟨h1.lt hk,h2.lt hk⟩
 exact ⟨if_pos h,if_pos h⟩
theorem zt {j k:Nat} {x y:Rat} (hx:Bq j x) (hy:Bq k y) (h:j+k≤300):nQ x y=ah (x*y)∧nR x y=0∧Bq (j+k) (x*y):=by
 have h3:=hx.num.mul hy.num
 have h4:=hx.den.mul hy.den
 obtain ⟨l1,l2⟩:=um h h3 h4
 unfold nQ nR
 rw [l1,l2,uk]
 exact ⟨rfl,rfl,by rw [←uk];exact Bq.of_int (AO x y) h3 h4⟩
theorem mw {j k:Nat} {x y:Rat} (hx:Bq j x) (hy:Bq k y) (h:j+k≤300) (h0:y≠0):jz x y=ah (x / y)∧jA x y=0∧Bq (j+k) (x / y):=by
 have h3:=hx.num.mul hy.den
 have h4:=hy.num.mul hx.den
 rw [Nat.add_comm] at h4
 obtain ⟨l1,l2⟩:=um h h3 h4
 have hn:y.num*(x.den:Int)≠0:=by
  intro q
  rcases Int.mul_eq_zero.1 q with q | q
  ·exact h0 (Rat.num_eq_zero.1 q)
  ·exact x.den_nz (Int.ofNat.inj q)
 unfold jz jA
 rw [l1,l2,ul]
 exact ⟨rfl,rfl,by rw [←ul];exact Bq.of_int hn h3 h4⟩
end
end Go.Proofs.YtjdomibbaemdnaaGreatDoor
