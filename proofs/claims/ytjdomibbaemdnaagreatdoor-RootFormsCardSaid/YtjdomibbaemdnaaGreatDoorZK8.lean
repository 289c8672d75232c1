/- Parts of the proof of the text YtjdomibbaemdnaaGreatDoorZK42. -/
import Derived.Lib.IndexMore
import Derived.Lib.IndexBytes
import Derived.Test.YtjdomibbaemdnaaGreatDoorZK1
import Derived.Test.YtjdomibbaemdnaaGreatDoorZK3
import Derived.Test.YtjdomibbaemdnaaGreatDoorZK7
set_option linter.all false
set_option maxRecDepth 100000
set_option maxHeartbeats 8000000
namespace Go.Proofs.YtjdomibbaemdnaaGreatDoor
namespace T
open Go.Proofs.YtjdomibbaemdnaaGreatDoor
def strip (p n:Nat):Nat × Nat :=
 if _h:2≤p∧0<n∧n % (p*p)=0 then (p*(strip p (n / (p*p))).1,(strip p (n / (p*p))).2) else (1,n)
termination_by n
decreasing_by all_goals exact Nat.div_lt_self _h.2.1 (Nat.lt_of_lt_of_le (by decide:1<2*2) (Nat.mul_le_mul _h.1 _h.1))
theorem fy {p n:Nat} (hp:2≤p) (hn:0<n) (h:n % (p*p)=0):strip p n=(p*(strip p (n / (p*p))).1,(strip p (n / (p*p))).2):=by
 rw [strip,dif_pos ⟨hp,hn,h⟩]
theorem dD {p n:Nat} (h:n % (p*p)≠0):strip p n=(1,n):=by
 rw [strip,dif_neg (fun q=>h q.2.2)]
theorem jJ {p:Nat} (hp:2≤p):1<p*p:=Nat.lt_of_lt_of_le (by decide:1<2*2) (Nat.mul_le_mul hp hp)
theorem vG {p:Nat} (hp:2≤p) {C:Nat→Prop} (no:∀ n,0<n→n % (p*p)≠0→C n) (yes:∀ n,0<n→C n→C (p*p*n)) :
  ∀ n,0<n→C n:=by
 intro n
 induction n using Nat.strongRecOn with
 | _ n ih =>
  intro hn
  rcases Nat.decEq (n % (p*p)) 0 with h | h
  ·exact no n hn h
  ·have e:n=p*p*(n / (p*p)):=by have:=Nat.div_add_mod n (p*p);omega
   have q:0<n / (p*p):=Nat.pos_of_ne_zero fun z=>by rw [z] at e;omega
   rw [e];exact yes _ q (ih _ (Nat.div_lt_self hn (jJ hp)) q)
theorem fR {p n:Nat} (hp:2≤p) (hn:0<n):strip p (p*p*n)=(p*(strip p n).1,(strip p n).2):=by
 have q:=jJ hp
 rw [fy hp (Nat.mul_pos (by omega) hn) (Nat.mul_mod_right _ _),Nat.mul_div_cancel_left _ (by omega)]
theorem jK {p n:Nat} (hp:2≤p) (hn:0<n):n=(strip p n).1*(strip p n).1*(strip p n).2∧0<(strip p n).1∧0<(strip p n).2∧¬ p*p∣(strip p n).2:=by
 refine vG hp (C:=fun n=>n=(strip p n).1*(strip p n).1*(strip p n).2∧0<(strip p n).1∧0<(strip p n).2∧¬ p*p∣(strip p n).2) ?_ ?_ n hn
 ·intro n hn h
  rw [dD h]
  exact ⟨by simp,Nat.one_pos,hn,fun d=>h (Nat.mod_eq_zero_of_dvd d)⟩
 ·rintro n hn ⟨h1,h2,h3,h4⟩
  rw [fR hp hn]
  refine ⟨?_,Nat.mul_pos (by omega) h2,h3,h4⟩
  show p*p*n=p*(strip p n).1*(p*(strip p n).1)*(strip p n).2
  rw [Nat.mul_mul_mul_comm,Nat.mul_assoc (p*p),←h1]
theorem rT {p n:Nat} (hn:0<n) (h:n<p*p):strip p n=(1,n):=dD (by rw [Nat.mod_eq_of_lt h];omega)
def ad:List Nat→Nat→Nat × Nat
 | [],n=>(1,n)
 | p::l,n=>((strip p n).1*(ad l (strip p n).2).1,(ad l (strip p n).2).2)
theorem aV:∀ (l:List Nat) (_:∀ p∈l,2≤p) {n:Nat} (_:0<n),n=(ad l n).1*(ad l n).1*(ad l n).2∧0<(ad l n).1∧0<(ad l n).2∧(ad l n).2∣n∧∀ p∈l,¬ p*p∣(ad l n).2
 | [],_,n,hn=>⟨by simp [ad],Nat.one_pos,hn,Nat.dvd_refl _,by simp⟩
 | p::l,hl,n,hn=>by
  obtain ⟨a1,a2,a3,a4⟩:=jK (hl p (by simp)) hn
  obtain ⟨b1,b2,b3,b4,b5⟩:=aV l (fun q hq=>hl q (by simp [hq])) a3
  simp only [ad]
  generalize (strip p n).1=k at *
  generalize (strip p n).2=m at *
  generalize (ad l m).1=k' at *
  generalize (ad l m).2=m' at *
  refine ⟨?_,Nat.mul_pos a2 b2,b3,?_,?_⟩
  ·rw [a1,b1,Nat.mul_mul_mul_comm k k' k k',Nat.mul_assoc (k*k) (k'*k') m']
  ·rw [a1];exact Nat.dvd_trans b4 (Nat.dvd_mul_left _ _)
  ·intro q hq
   rcases List.mem_cons.1 hq with rfl | hq
   ·exact fun d=>a4 (Nat.dvd_trans d b4)
   ·exact b5 q hq
theorem dS {v:Nat} (hv:0<v):∀ (l:List Nat) (_:∀ p∈l,v<p*p),ad l v=(1,v)
 | [],_=>rfl
 | p::l,hl=>by
  simp only [ad];rw [rT hv (hl p (by simp))]
  simp only [dS hv l (fun q hq=>hl q (by simp [hq]))]
def Pr (p:Nat):Prop:=2≤p∧∀ d,d∣p→d=1∨d=p
theorem Pr.gcd {p:Nat} (h:Pr p) (x:Nat):p∣x∨Nat.Coprime p x:=by
 rcases h.2 _ (Nat.gcd_dvd_left p x) with e | e
 ·exact .inr e
 ·exact .inl (e ▸ Nat.gcd_dvd_right p x)
theorem Pr.sq {p x y:Nat} (h:Pr p) (c:Nat.Coprime x y) (d:p*p∣x*y):p*p∣x∨p*p∣y:=by
 rcases h.gcd y with e | e
 ·rcases h.gcd x with f | f
  ·exact absurd (Nat.dvd_gcd f e) (by
    rw [show Nat.gcd x y=1 from c];intro q;have:=Nat.le_of_dvd Nat.one_pos q;have:=h.1;omega)
  ·exact .inr ((f.mul_left f).dvd_of_dvd_mul_left d)
 ·exact .inl ((e.mul_left e).dvd_of_dvd_mul_right d)
theorem vH {p:Nat} (hp:Pr p):∀ (n x y:Nat),n=x*y→0<x→0<y→Nat.Coprime x y →
  strip p (x*y)=((strip p x).1*(strip p y).1,(strip p x).2*(strip p y).2):=by
 have q:=jJ hp.1
 intro n
 induction n using Nat.strongRecOn with
 | _ n ih =>
  intro x y hn hx hy c
  rcases Nat.decEq ((x*y) % (p*p)) 0 with h | h
  ·have h1:x % (p*p)≠0:=fun z=>h (Nat.mod_eq_zero_of_dvd (Nat.dvd_trans (Nat.dvd_of_mod_eq_zero z) (Nat.dvd_mul_right _ _)))
   have h2:y % (p*p)≠0:=fun z=>h (Nat.mod_eq_zero_of_dvd (Nat.dvd_trans (Nat.dvd_of_mod_eq_zero z) (Nat.dvd_mul_left _ _)))
   rw [dD h,dD h1,dD h2,Nat.mul_one]
  ·rcases hp.sq c (Nat.dvd_of_mod_eq_zero h) with ⟨x',rfl⟩ | ⟨y',rfl⟩
   ·have hx':0<x':=Nat.pos_of_ne_zero fun z=>by subst z;omega
    have hl:x'*y<n:=by
     rw [hn,Nat.mul_assoc];exact (Nat.lt_mul_iff_one_lt_left (Nat.mul_pos hx' hy)).2 q
    have:=ih _ hl x' y rfl hx' hy (Nat.Coprime.coprime_dvd_left (Nat.dvd_mul_left _ _) c)
    rw [Nat.mul_assoc,fR hp.1 (Nat.mul_pos hx' hy),fR hp.1 hx',this]
    simp only [Nat.mul_assoc]
   ·have hy':0<y':=Nat.pos_of_ne_zero fun z=>by subst z;omega
    have hl:x*y'<n:=by
     rw [hn,Nat.mul_left_comm];exact (Nat.lt_mul_iff_one_lt_left (Nat.mul_pos hx hy')).2 q
    have:=ih _ hl x y' rfl hx hy' (Nat.Coprime.coprime_dvd_right (Nat.dvd_mul_left _ _) c)
    rw [Nat.mul_left_comm,fR hp.1 (Nat.mul_pos hx hy'),fR hp.1 hy',this]
    simp only [Nat.mul_left_comm]
theorem jL:∀ (l:List Nat) (_:∀ p∈l,Pr p) (x y:Nat),0<x→0<y→Nat.Coprime x y →
  ad l (x*y)=((ad l x).1*(ad l y).1,(ad l x).2*(ad l y).2)
 | [],_,x,y,_,_,_=>by simp [ad]
 | p::l,hl,x,y,hx,hy,c=>by
  have hp:=hl p (by simp)
  obtain ⟨a1,a2,a3,_⟩:=jK hp.1 hx
  obtain ⟨b1,b2,b3,_⟩:=jK hp.1 hy
  have c':Nat.Coprime (strip p x).2 (strip p y).2 :=
   Nat.Coprime.coprime_dvd_left (k:=x) ⟨_,a1.trans (Nat.mul_comm _ _)⟩ (Nat.Coprime.coprime_dvd_right (m:=y) ⟨_,b1.trans (Nat.mul_comm _ _)⟩ c)
  simp only [ad]
  rw [vH hp _ x y rfl hx hy c]
  simp only
  rw [jL l (fun q hq=>hl q (by simp [hq])) _ _ a3 b3 c']
  simp only [Nat.mul_assoc,Nat.mul_left_comm]
def Sqr (n:Nat):Prop:=∃ r,r*r=n
theorem Sqr.mul {x y:Nat} (h:Sqr x) (k:Sqr y):Sqr (x*y):=by
 obtain ⟨r,rfl⟩:=h;obtain ⟨s,rfl⟩:=k;exact ⟨r*s,Nat.mul_mul_mul_comm _ _ _ _⟩
theorem Sqr.left {x y:Nat} (h:Sqr (x*y)) (c:Nat.Coprime x y):Sqr x:=by
 obtain ⟨r,hr⟩:=h
 refine ⟨Nat.gcd r x,?_⟩
 have:=(Nat.pow_gcd_pow (k:=2) (n:=r) (m:=x))
 rw [Nat.pow_two,Nat.pow_two,Nat.pow_two] at this
 rw [←this,hr,Nat.gcd_mul_left,Nat.gcd_comm,show Nat.gcd x y=1 from c,Nat.mul_one]
theorem Sqr.right {x y:Nat} (h:Sqr (x*y)) (c:Nat.Coprime x y):Sqr y:=Sqr.left (Nat.mul_comm x y ▸ h) c.symm
theorem zu {a b:Nat} (h:a*a=b*b):a=b:=by
 rcases Nat.lt_trichotomy a b with l | l | l
 ·exact absurd h (Nat.ne_of_lt (Nat.mul_self_lt_mul_self l))
 ·exact l
 ·exact absurd h.symm (Nat.ne_of_lt (Nat.mul_self_lt_mul_self l))
theorem xH {k m:Nat} (hk:0<k) (h:Sqr (k*k*m)):Sqr m:=by
 obtain ⟨r,hr⟩:=h
 have d:k∣r:=(Nat.pow_dvd_pow_iff (n:=2) (by decide)).1 (by rw [Nat.pow_two,Nat.pow_two,hr];exact Nat.dvd_mul_right _ _)
 obtain ⟨s,rfl⟩:=d
 refine ⟨s,?_⟩
 rw [Nat.mul_mul_mul_comm] at hr
 exact Nat.eq_of_mul_eq_mul_left (Nat.mul_pos hk hk) hr
theorem fm {k m:Nat} (hk:0<k):Sqr (k*k*m)↔Sqr m:=⟨xH hk,fun h=>Sqr.mul ⟨k,rfl⟩ h⟩
def af:List Nat := [2,3,5,7,11,13,17,19,23,29,31,37,41,43,47,53,59,61,67,71,73,79,83,89,97]
theorem BF {p:Nat} (h2:2≤p) (h:∀ d,d<p+1→d∣p→d=1∨d=p):Pr p :=
 ⟨h2,fun d hd=>h d (Nat.lt_succ_of_le (Nat.le_of_dvd (by omega) hd)) hd⟩
theorem gU:∀ p∈af,Pr p:=by
 intro p hp
 refine BF ?_ ?_
 ·revert p;decide+kernel
 ·revert p;decide+kernel
theorem fS:∀ p∈af,2≤p:=fun p hp=>(gU p hp).1
def RQ (q:Rat) (r:Nat):Prop:=((r*r:Nat):Rat)≤q∧q<(((r+1)*(r+1):Nat):Rat)
theorem rU {n d:Nat} (hn:0<n) (hd:0<d) (c:Nat.Coprime n d) (l:List Nat) (hl:∀ p∈l,Pr p) :
  Sqr (ad l (n*d)).2↔Sqr n∧Sqr d:=by
 obtain ⟨a1,a2,a3,a4,_⟩:=aV l (fun p h=>(hl p h).1) hn
 obtain ⟨b1,b2,b3,b4,_⟩:=aV l (fun p h=>(hl p h).1) hd
 have cm:Nat.Coprime (ad l n).2 (ad l d).2:=Nat.Coprime.coprime_dvd_left a4 (Nat.Coprime.coprime_dvd_right b4 c)
 rw [jL l hl n d hn hd c]
 show Sqr ((ad l n).2*(ad l d).2)↔_
 constructor
 ·intro h
  refine ⟨?_,?_⟩
  ·rw [a1,fm a2];exact h.left cm
  ·rw [b1,fm b2];exact h.right cm
 ·rintro ⟨h,k⟩
  rw [a1,fm a2] at h;rw [b1,fm b2] at k
  exact h.mul k
theorem un {n d:Nat} (hn:0<n) (hd:0<d) (c:Nat.Coprime n d) (l:List Nat) (hl:∀ p∈l,Pr p) :
  mkRat ((ad l (n*d)).1:Nat) d=mkRat ((ad l n).1:Nat) ((ad l d).1*(ad l d).2) ∧
  (ad l (n*d)).2=(ad l n).2*(ad l d).2∧Nat.Coprime (ad l n).1 ((ad l d).1*(ad l d).2)∧0<(ad l d).1*(ad l d).2:=by
 obtain ⟨a1,a2,a3,a4,_⟩:=aV l (fun p h=>(hl p h).1) hn
 obtain ⟨b1,b2,b3,b4,_⟩:=aV l (fun p h=>(hl p h).1) hd
 have e:=jL l hl n d hn hd c
 generalize ad l (n*d)=s at *
 subst e
 generalize (ad l n).1=a at *
 generalize (ad l n).2=m at *
 generalize (ad l d).1=b at *
 generalize (ad l d).2=k at *
 have hbk:0<b*k:=Nat.mul_pos b2 b3
 refine ⟨?_,rfl,?_,hbk⟩
 ·refine (Rat.mkRat_eq_iff (Nat.ne_of_gt hd) (Nat.ne_of_gt hbk)).2 ?_
  rw [←Int.natCast_mul,←Int.natCast_mul]
  congr 1
  show a*b*(b*k)=a*d
  rw [b1];simp only [Nat.mul_assoc]
 ·refine Nat.Coprime.coprime_dvd_left (k:=n) ?_ (Nat.Coprime.coprime_dvd_right (m:=d) ?_ c)
  ·rw [a1,Nat.mul_assoc];exact Nat.dvd_mul_right _ _
  ·rw [b1,Nat.mul_assoc];exact Nat.dvd_mul_left _ _
theorem xI {n d r s t:Nat} (hd:0<d) (c:Nat.Coprime n d) (hr:r*r=n) (hs:s*s=d) {k m:Nat} (e:n*d=k*k*m) (ht:t*t=m) :
  mkRat ((k*t:Nat):Int) d=mkRat (r:Int) s∧Nat.Coprime r s∧0<s:=by
 have h:k*t=r*s:=zu (by rw [Nat.mul_mul_mul_comm,ht,←e,←hr,←hs,Nat.mul_mul_mul_comm])
 have s0:0<s:=Nat.pos_of_ne_zero fun z=>by subst z;omega
 refine ⟨(Rat.mkRat_eq_iff (Nat.ne_of_gt hd) (Nat.ne_of_gt s0)).2 ?_,?_,s0⟩
 ·rw [h,←hs,←Int.natCast_mul,←Int.natCast_mul,Nat.mul_assoc]
 ·refine Nat.Coprime.coprime_dvd_left (k:=n) ?_ (Nat.Coprime.coprime_dvd_right (m:=d) ?_ c)
  ·rw [←hr];exact Nat.dvd_mul_right _ _
  ·rw [←hs];exact Nat.dvd_mul_right _ _
theorem zv {n d:Nat} (hn:0<n) (hd:0<d) (l:List Nat) (hl:∀ p∈l,2≤p) :
  mkRat ((ad l n).1:Nat) ((ad l d).1*(ad l d).2)*mkRat ((ad l n).1:Nat) ((ad l d).1*(ad l d).2)*(((ad l n).2*(ad l d).2:Nat):Rat)=mkRat n d:=by
 obtain ⟨a1,a2,a3,a4,_⟩:=aV l hl hn
 obtain ⟨b1,b2,b3,b4,_⟩:=aV l hl hd
 generalize (ad l n).1=a at *
 generalize (ad l n).2=m at *
 generalize (ad l d).1=b at *
 generalize (ad l d).2=k at *
 have hbk:0<b*k:=Nat.mul_pos b2 b3
 rw [show (((m*k:Nat):Rat))=mkRat ((m*k:Nat):Int) 1 from by rw [Rat.mkRat_one,Rat.intCast_natCast],Rat.mkRat_mul_mkRat,Rat.mkRat_mul_mkRat]
 refine (Rat.mkRat_eq_iff (Nat.ne_of_gt (by rw [Nat.mul_one];exact Nat.mul_pos hbk hbk)) (Nat.ne_of_gt hd)).2 ?_
 rw [←Int.natCast_mul,←Int.natCast_mul,←Int.natCast_mul,←Int.natCast_mul]
 congr 1
 rw [Nat.mul_one,a1,b1]
 simp only [Nat.mul_assoc,Nat.mul_left_comm]
end T
namespace T
open Go.Proofs.YtjdomibbaemdnaaGreatDoor
theorem uo:((1:Nat):Rat)=1:=rfl
theorem nS {n:Nat}:Sqr n↔aj n*aj n=n:=by
 constructor
 ·rintro ⟨r,rfl⟩
  rw [du (r:=r) ⟨Nat.le_refl _,by simp only [Nat.add_mul,Nat.mul_add];omega⟩]
 ·exact fun h=>⟨_,h⟩
def cj (q:Rat):Prop:=aj q.num.natAbs*aj q.num.natAbs=q.num.natAbs∧aj q.den*aj q.den=q.den
noncomputable instance (q:Rat):Decidable (cj q):=inferInstanceAs (Decidable (_∧_))
theorem jr {q:Rat}:cj q↔Sqr q.num.natAbs∧Sqr q.den:=by unfold cj;rw [nS,nS]
noncomputable def cN (q:Rat):Nat:=if cj q then aj q.num.natAbs else (ad af q.num.natAbs).1
noncomputable def cD (q:Rat):Nat:=if cj q then aj q.den else (ad af q.den).1*(ad af q.den).2
noncomputable def nN (q:Rat):Nat:=if cj q then 1 else (ad af q.num.natAbs).2*(ad af q.den).2
noncomputable def nC (q:Rat):Rat:=mkRat (cN q:Nat) (cD q)
theorem iq {q:Rat} (h:0≤q):((q.num.natAbs:Nat):Int)=q.num:=by
 have:=Rat.num_nonneg.2 h;omega
theorem xJ {q:Rat} (h:0≤q):mkRat ((q.num.natAbs:Nat):Int) q.den=q:=by rw [iq h,Rat.mkRat_self]
theorem AP:aj 0=0:=du ⟨Nat.le_refl _,by decide⟩
theorem AQ:aj 1=1:=du ⟨by decide,by decide⟩
theorem jM {q:Rat} (h:¬ cj q):0<q.num.natAbs:=by
 refine Nat.pos_of_ne_zero fun z=>h ?_
 have e:q.num=0:=by omega
 have d:q.den=1:=by have:=q.reduced;rw [z] at this;exact (Nat.coprime_zero_left _).1 this
 unfold cj;rw [z,d,AP,AQ];exact ⟨rfl,rfl⟩
theorem cop (q:Rat):Nat.Coprime (cN q) (cD q):=by
 unfold cN cD
 split
 ·rename_i h
  refine Nat.Coprime.coprime_dvd_left (k:=q.num.natAbs) ?_ (Nat.Coprime.coprime_dvd_right (m:=q.den) ?_ q.reduced)
  ·exact ⟨_,h.1.symm⟩
  ·exact ⟨_,h.2.symm⟩
 ·rename_i h;exact (un (jM h) q.den_pos q.reduced af gU).2.2.1
theorem xK {q:Rat} (h0:0≤q):nC q*nC q*((nN q:Nat):Rat)=q:=by
 unfold nC cN cD nN
 split
 ·rename_i h
  rw [Rat.mkRat_mul_mkRat,←Int.natCast_mul,h.1,h.2,xJ h0,uo,Rat.mul_one]
 ·rename_i h
  rw [zv (jM h) q.den_pos af fS,xJ h0]
theorem kJ (c:Rat):(c*c).num.natAbs=c.num.natAbs*c.num.natAbs∧(c*c).den=c.den*c.den:=by
 have hc:Nat.Coprime (c.num*c.num).natAbs (c.den*c.den):=by
  rw [Int.natAbs_mul];exact (c.reduced.mul_left c.reduced).mul_right (c.reduced.mul_left c.reduced)
 have e:c*c=⟨c.num*c.num,c.den*c.den,Nat.ne_of_gt (Nat.mul_pos c.den_pos c.den_pos),hc⟩:=by
  rw [Rat.mk_eq_mkRat,←Rat.mkRat_mul_mkRat,Rat.mkRat_self]
 rw [e];exact ⟨Int.natAbs_mul _ _,rfl⟩
theorem AR {q:Rat} (h0:0≤q):nN q=1↔∃ c:Rat,c*c=q:=by
 constructor
 ·intro h
  refine ⟨nC q,?_⟩
  have:=xK h0
  rwa [h,uo,Rat.mul_one] at this
 ·rintro ⟨c,rfl⟩
  unfold nN
  rw [if_pos]
  rw [jr,(kJ c).1,(kJ c).2]
  exact ⟨⟨_,rfl⟩,⟨_,rfl⟩⟩
end T
section
open Go.Lib
def eU (s:List UInt8):Bool:=s.all az && !s.isEmpty && !(decide (1<s.length) && s.head? == some 48)
theorem jN {l:List UInt8} (h:ap l=true):∃ t,l=45::t∧szL l=t:=by
 cases l with
 | nil=>cases h
 | cons c t =>
  have hc:c=45:=by simpa [ap] using h
  subst hc
  exact ⟨t,rfl,by unfold szL;rw [h];rfl⟩
theorem a8 {l:List UInt8} (h:ap l=false):szL l=l:=by unfold szL;rw [h];rfl
theorem rV (l:List UInt8):(chk l != 11)=(eU (szL l) && !(ap l && szL l == [48])):=by
 have h1:(chk l != 11)=((szL l).all az && !decide (szL l = []∨((szL l).head? = some 48∧l ≠ [48]))):=by
  unfold chk
  cases (szL l).all az
  ·rfl
  ·by_cases hp:szL l = []∨((szL l).head? = some 48∧l ≠ [48])
   ·rw [if_neg (by decide),if_pos hp,decide_eq_true hp];rfl
   ·rw [if_neg (by decide),if_neg hp,decide_eq_false hp]
    split <;> rfl
 rw [h1]
 unfold eU
 cases (szL l).all az
 ·simp
 ·cases hn:ap l
  ·rw [a8 hn]
   rcases l with _ | ⟨c,_ | ⟨d,t⟩⟩
   ·simp
   ·by_cases hc:c=48 <;> simp [hc]
   ·simp;rfl
  ·obtain ⟨t,rfl,hs⟩:=jN hn
   rw [hs]
   rcases t with _ | ⟨c,_ | ⟨d,t⟩⟩
   ·simp
   ·by_cases hc:c=48 <;> simp [hc]
   ·simp;rfl
def sN (l:List UInt8):List UInt8:=(szL l).takeWhile (· != 47)
def sD (l:List UInt8):List UInt8:=if bI l then aH l else []
theorem qb (l:List UInt8):ap (bj l)=ap l∧szL (bj l)=sN l:=by
 unfold sN bj
 cases hn:ap l
 ·rw [a8 hn]
  have h2:ap (l.takeWhile (· != 47))=false:=by
   cases l with
   | nil=>rfl
   | cons c t =>
    by_cases hc:c=47
    ·subst hc;rfl
    ·rw [List.takeWhile_cons_of_pos (by simpa using hc)]
     simpa [ap] using hn
  exact ⟨h2,a8 h2⟩
 ·obtain ⟨t,rfl,hs⟩:=jN hn
  rw [hs,List.takeWhile_cons_of_pos (by decide)]
  exact ⟨rfl,rfl⟩
def jO (l:List UInt8):Bool := !eU (sN l) || bI l && (!eU (sD l) || sD l == [48] || sD l == [49]) || ap l && sN l == [48]
def tq (l:List UInt8):Int :=
 if jO l=true then 11
 else if 300<(sN l).length∨300<(sD l).length then 4
 else if bI l=false then 0 else if Nat.gcd (ae (sN l)) (ae (sD l))=1 then 0 else 11
theorem kK {s:List UInt8} (h:eU s=true):ap s=false:=by
 unfold eU at h
 cases s with
 | nil=>rfl
 | cons c t =>
  simp only [List.all_cons,Bool.and_eq_true] at h
  have h1:=h.1.1.1
  cases hc:ap (c::t)
  ·rfl
  ·have hc:c=45:=by simpa [ap] using hc
   subst hc;cases h1
theorem uq {l:List UInt8} (h:ap l=false):(chk l != 11)=eU l:=by rw [rV,a8 h,h];simp
theorem vI (l:List UInt8):cX l = !jO l:=by
 obtain ⟨h1,h2⟩:=qb l
 unfold cX jO
 rw [rV (bj l),h1,h2]
 unfold sD
 cases hs:bI l
 ·have hd:aH l = [49]:=by unfold aH;rw [hs];rfl
  rw [hd]
  cases eU (sN l) <;> cases ap l <;> cases (sN l == [48]) <;> rfl
 ·rw [if_pos rfl]
  cases hn:ap (aH l)
  ·rw [uq hn]
   cases eU (sN l) <;> cases ap l <;> cases (sN l == [48]) <;> cases eU (aH l) <;> cases (aH l == [49]) <;> cases h48:(aH l == [48]) <;> simp_all
  ·have hd:eU (aH l)=false:=by
    cases hd:eU (aH l)
    ·rfl
    ·rw [kK hd] at hn;cases hn
   rw [hd]
   simp
theorem kL {l:List UInt8} (h:(chk l != 11)=true):chk l=if 300<(szL l).length then 4 else 0:=by
 unfold chk at h ⊢
 split
 ·rename_i hc;rw [if_pos hc] at h;cases h
 ·rename_i hc
  rw [if_neg hc] at h
  split
  ·rename_i hd;rw [if_pos hd] at h;cases h
  ·rfl
theorem vJ (l:List UInt8):tq l=aM l:=by
 unfold tq aM
 have hf:=vI l
 obtain ⟨c1,c2⟩:=qb l
 cases hq:cX l
 ·have hb:jO l=true:=by rw [hq] at hf;cases h:jO l;rw [h] at hf;cases hf;rfl
  rw [if_pos hb,if_pos rfl]
 ·have hb:¬ jO l=true:=by rw [hq] at hf;intro h;rw [h] at hf;cases hf
  rw [if_neg hb,if_neg (by decide:¬ true=false)]
  have hq':=hq
  unfold cX at hq'
  simp only [Bool.and_eq_true,Bool.not_eq_true',bne_iff_ne,ne_eq] at hq'
  obtain ⟨⟨⟨⟨k1,k2⟩,k3⟩,k4⟩,k5⟩:=hq'
  have e1:=kL (l:=bj l) (by simpa using k1)
  have e2:=kL (l:=aH l) (by simpa using k2)
  rw [c2] at e1
  rw [a8 k3] at e2
  have hv:(valOf (bj l)).natAbs=ae (sN l):=by rw [iW,c2]
  rw [hv]
  unfold sD
  cases hs:bI l
  ·have hd:aH l = [49]:=by unfold aH;rw [hs];rfl
   rw [hd] at e2 ⊢
   have e3:chk [49]=0:=by rw [e2];rfl
   by_cases hl:300<(sN l).length
   ·rw [if_pos (.inl hl),if_pos (.inl (by rw [e1,if_pos hl];decide))]
   ·rw [if_neg (by rintro (h | h);exact hl h;exact absurd h (by decide)),if_pos rfl,if_neg (by rintro (h | h);exact h (by rw [e1,if_neg hl]);exact h e3),if_pos (by rw [kV,Nat.gcd_one_right])]
  ·rw [if_pos rfl]
   by_cases hl:300<(sN l).length
   ·rw [if_pos (.inl hl),if_pos (.inl (by rw [e1,if_pos hl];decide))]
   ·by_cases hl2:300<(aH l).length
    ·rw [if_pos (.inr hl2),if_pos (.inr (by rw [e2,if_pos hl2];decide))]
    ·have hX:¬ (chk (bj l)≠0∨chk (aH l)≠0):=by
      rintro (h | h)
      ·exact h (by rw [e1,if_neg hl])
      ·exact h (by rw [e2,if_neg hl2])
     rw [if_neg (by rintro (h | h);exact hl h;exact hl2 h),if_neg (by decide:¬ true=false),if_neg hX]
end
section
open Go.RowKit
def dOK (l:List UInt8):Bool:=chk l==0 && decide ((szL l).length≤18)
theorem dG {l:List UInt8} (h:chk l≠0∨18<(szL l).length):dOK l=false:=by
 unfold dOK
 rcases h with h | h
 ·rw [show (chk l==0)=false by simpa using h];rfl
 ·rw [decide_eq_false (by omega),Bool.and_false]
theorem kM {l:List UInt8} (ha:(szL l).all az=true) (hne:szL l ≠ []) (h48:¬ ((szL l).head? = some 48∧l ≠ [48])) (hl:(szL l).length≤18):dOK l=true:=by
 unfold dOK
 have:chk l=0:=by
  rw [ez ha,if_neg (by rintro (h | h);exact hne h;exact h48 h),if_neg (by omega)]
 rw [this,decide_eq_true hl];rfl
def mg (l:List UInt8):Int:=if dOK l then valOf l else 0
theorem kN {l:List UInt8} (h:dOK l=true):mg l=valOf l:=if_pos h
theorem ee {l:List UInt8} (h:dOK l=false):Ending.returned (.tuple #[.int .i64 0,.bool false]) = .returned (.tuple #[.int .i64 (mg l),.bool (dOK l)]):=by unfold mg;rw [h];rfl
theorem kO {l:List UInt8} {v:Int} (h:dOK l=true) (hv:v=valOf l):Ending.returned (.tuple #[.int .i64 v,.bool true]) = .returned (.tuple #[.int .i64 (mg l),.bool (dOK l)]):=by unfold mg;rw [h,hv];rfl
theorem gV {s:ByteArray} (h:0<s.size):s.data.toList.head? = some s[0]:=by obtain ⟨t,ht⟩:=iZ h;rw [ht];rfl
theorem ext_size (s:ByteArray):(s.extract 1 s.size).size=s.size - 1:=by rw [ByteArray.size_extract];omega
theorem nT (s:ByteArray) (w:World) (hs:s.size≤maxLen) (hn:ap s.data.toList=true) (h1:1<s.size) :
  Calls Tryz.prog 148 #[.string s] w fun e W'=>e = .returned (.tuple #[.int .i64 (mg s.data.toList),.bool (dOK s.data.toList)])∧w=W':=by
 unfold maxLen at hs
 have hsz:=ext_size s
 obtain ⟨t,ht⟩:∃ t,s.extract 1 s.size=t:=⟨_,rfl⟩
 have htl:t.data.toList=szL s.data.toList:=by rw [←ht,←bU];unfold szB;rw [if_pos hn]
 rw [ht] at hsz
 have h45:((s[0].toNat:Int)==45)=true:=(bF (by omega)).trans hn
 have hE:(s.toList == [48])=false:=by
  rw [ByteArray.toList_eq,beq_eq_false_iff_ne];intro e;have:=congrArg List.length e;rw [ac] at this;simp at this;omega
 have hg1:(1:Int)<s.size:=by omega
 have hte:=et (s:=t) (by omega)
 have HN:=Ha hn
 have HT:=Ha htl
 clear hn htl
 have h0t:0<t.size:=by omega
 have hl:(szL s.data.toList).length=t.size:=by rw [←HT.out,ac]
 by_cases h18:18<t.size
 ·have h18':(18:Int)<t.size:=by omega
  have hr:=Ha (dG (l:=s.data.toList) (.inr (by omega)))
  clear hl
  go_enter Tryz.func148,Tryz.ntmps148
  go_wp2
  go_ret2
  exact ⟨ee hr.out,rfl⟩
 have h18':¬ (18:Int)<t.size:=by omega
 by_cases h48:((t[0].toNat:Int)==48)=true
 ·have hc:chk s.data.toList=11:=jI (.inr ⟨by
   rw [←HT.out,gV (by omega)]
   have:=lD t[0] 48 (by decide)
   rw [show ((48:Nat):Int)=48 from rfl,h48] at this
   exact congrArg some (by simpa using this.symm),fun e=>by have:=congrArg List.length e;rw [ac] at this;simp at this;omega⟩)
  have hr:=Ha (dG (l:=s.data.toList) (.inl (by rw [hc];decide)))
  clear hl hc
  go_enter Tryz.func148,Tryz.ntmps148
  go_wp2
  go_ret2
  exact ⟨ee hr.out,rfl⟩
 ·have h48':((t[0].toNat:Int)==48)=false:=by simpa using h48
  have HF:=Ha (show szL s.data.toList ≠ []∧¬ ((szL s.data.toList).head? = some 48∧s.data.toList ≠ [48])∧(szL s.data.toList).length≤18 from ⟨fun e=>by rw [e] at hl;simp at hl;omega,fun ⟨e,_⟩=>by
   rw [←HT.out,gV (by omega)] at e
   have e:=Option.some.inj e
   rw [e] at h48';exact absurd h48' (by decide),by omega⟩)
  clear hl h48
  go_enter Tryz.func148,Tryz.ntmps148
  go_wp2
  go_loop [6,38] (fun n i=>∃ k:Nat,k≤t.size∧i = .int .i64 k∧n = .int .i64 (ae (t.data.toList.take k):Nat)∧Hid ((t.data.toList.take k).all az=true)) (fun _ i=>t.size - (intOf i).toNat)
  case atStart=>exact ⟨0,Nat.zero_le _,rfl,rfl,rfl⟩
  case round =>
   obtain ⟨k,hk,rfl,rfl,hd⟩:=hrel
   by_cases hlt:k<t.size
   ·by_cases h3:(t[k].toNat:Int)<48
    ·go_wp2
     go_ret2
     refine ⟨ee (dG (.inl ?_)),rfl⟩
     rw [cL]
     ·decide
     ·rw [←HT.out,List.all_eq_false];exact ⟨t[k],cK t k hlt,by rw [aA];omega⟩
    ·by_cases h4:(57:Int)<t[k].toNat
     ·go_wp2
      go_ret2
      refine ⟨ee (dG (.inl ?_)),rfl⟩
      rw [cL]
      ·decide
      ·rw [←HT.out,List.all_eq_false];exact ⟨t[k],cK t k hlt,by rw [aA];omega⟩
     ·have hdk:az t[k]=true:=by rw [aA];omega
      have hd':Hid ((t.data.toList.take (k+1)).all az=true):=by
       show (t.data.toList.take (k+1)).all az=true
       rw [bG t k hlt,List.all_append,hd.out];simp [hdk]
      have hn:ae (t.data.toList.take k)<1000000000000000000:=by
       refine Nat.lt_of_lt_of_le (a7 _ (fun c hc=>List.all_eq_true.1 hd.out c hc)) ?_
       exact Nat.le_trans (Nat.pow_le_pow_right (by decide) (Nat.le_trans (List.length_take_le _ _) (by omega:k≤18))) (by decide)
      have HS:Hid (ae (t.data.toList.take (k+1))=ae (t.data.toList.take k)*10+(t[k].toNat - 48)):=by rw [bG t k hlt];exact bo _ _
      have hn17:ae (t.data.toList.take (k+1))<1000000000000000000:=by
       refine Nat.lt_of_lt_of_le (a7 _ (fun c hc=>List.all_eq_true.1 hd'.out c hc)) ?_
       exact Nat.le_trans (Nat.pow_le_pow_right (by decide) (Nat.le_trans (List.length_take_le _ _) (by omega:k+1≤18))) (by decide)
      rw [HS.out] at hn17
      clear hd hdk
      go_wp2
      go_round
      case rel=>exact ⟨k+1,by omega,by go_num,by rw [HS.out];go_num,hd'⟩
      case measure=>simp [intOf];omega
   ·have hk2:t.data.toList.take k=t.data.toList:=List.take_of_length_le (by rw [ac];omega)
    have hda:=hd.out
    rw [hk2,HT.out] at hda
    rw [hk2]
    have hok:=kM hda HF.out.1 HF.out.2.1 HF.out.2.2
    have hn:ae t.data.toList<1000000000000000000:=by
     refine Nat.lt_of_lt_of_le (a7 _ (fun c hc=>List.all_eq_true.1 (by rw [HT.out];exact hda) c hc)) ?_
     exact Nat.le_trans (Nat.pow_le_pow_right (by decide) (show t.data.toList.length≤18 by rw [ac];omega)) (by decide)
    have HO:=Ha (Hb hok (show -(ae t.data.toList:Int)=valOf s.data.toList by rw [ck,HN.out,HT.out];rfl))
    clear hok hda hk2 hd
    go_wp2
    go_ret2
    exact ⟨kO HO.out.1 HO.out.2,rfl⟩
theorem nU (t:ByteArray) (w:World) (hs:t.size≤maxLen) (hn:ap t.data.toList=false) (h1:1<t.size) :
  Calls Tryz.prog 148 #[.string t] w fun e W'=>e = .returned (.tuple #[.int .i64 (mg t.data.toList),.bool (dOK t.data.toList)])∧w=W':=by
 unfold maxLen at hs
 have htl:t.data.toList=szL t.data.toList:=(a8 hn).symm
 have h45:((t[0].toNat:Int)==45)=false:=(bF (by omega)).trans hn
 have hg1:(1:Int)<t.size:=by omega
 have hte:=et (s:=t) (by omega)
 have HN:=Ha hn
 have HT:=Ha htl
 clear hn htl
 have h0t:0<t.size:=by omega
 have hl:(szL t.data.toList).length=t.size:=by rw [←HT.out,ac]
 by_cases h18:18<t.size
 ·have h18':(18:Int)<t.size:=by omega
  have hr:=Ha (dG (l:=t.data.toList) (.inr (by omega)))
  clear hl
  go_enter Tryz.func148,Tryz.ntmps148
  go_wp2
  all_goals (go_ret2;exact ⟨ee hr.out,rfl⟩)
 have h18':¬ (18:Int)<t.size:=by omega
 by_cases h48:((t[0].toNat:Int)==48)=true∧(t.toList == [48])=false
 ·obtain ⟨h48,hE⟩:=h48
  have hc:chk t.data.toList=11:=jI (.inr ⟨by
   rw [←HT.out,gV (by omega)]
   have:=lD t[0] 48 (by decide)
   rw [show ((48:Nat):Int)=48 from rfl,h48] at this
   exact congrArg some (by simpa using this.symm),fun e=>by rw [ByteArray.toList_eq,e] at hE;cases hE⟩)
  have hr:=Ha (dG (l:=t.data.toList) (.inl (by rw [hc];decide)))
  clear hl hc
  go_enter Tryz.func148,Tryz.ntmps148
  go_wp2
  all_goals (go_ret2;exact ⟨ee hr.out,rfl⟩)
 ·have h48':(((t[0].toNat:Int)==48) && !(t.toList == [48]))=false:=by
   cases h5:((t[0].toNat:Int)==48)
   ·rfl
   ·cases h6:(t.toList == [48])
    ·exact absurd ⟨h5,h6⟩ h48
    ·rfl
  have HF:=Ha (show szL t.data.toList ≠ []∧¬ ((szL t.data.toList).head? = some 48∧t.data.toList ≠ [48])∧(szL t.data.toList).length≤18 from ⟨fun e=>by rw [e] at hl;simp at hl;omega,fun ⟨e,e2⟩=>by
   rw [←HT.out,gV (by omega)] at e
   have e:=Option.some.inj e
   apply h48
   refine ⟨by rw [e];decide,?_⟩
   rw [ByteArray.toList_eq,beq_eq_false_iff_ne];exact e2,by omega⟩)
  clear hl h48
  by_cases h48a:((t[0].toNat:Int)==48)=true
  ·have hE:(t.toList == [48])=true:=by rw [h48a] at h48';simpa using h48'
   clear h48'
   go_enter Tryz.func148,Tryz.ntmps148
   go_wp2
   go_loop [6,38] (fun n i=>∃ k:Nat,k≤t.size∧i = .int .i64 k∧n = .int .i64 (ae (t.data.toList.take k):Nat)∧Hid ((t.data.toList.take k).all az=true)) (fun _ i=>t.size - (intOf i).toNat)
   case atStart=>exact ⟨0,Nat.zero_le _,rfl,rfl,rfl⟩
   case round =>
    obtain ⟨k,hk,rfl,rfl,hd⟩:=hrel
    by_cases hlt:k<t.size
    ·by_cases h3:(t[k].toNat:Int)<48
     ·go_wp2
      go_ret2
      refine ⟨ee (dG (.inl ?_)),rfl⟩
      rw [cL]
      ·decide
      ·rw [←HT.out,List.all_eq_false];exact ⟨t[k],cK t k hlt,by rw [aA];omega⟩
     ·by_cases h4:(57:Int)<t[k].toNat
      ·go_wp2
       go_ret2
       refine ⟨ee (dG (.inl ?_)),rfl⟩
       rw [cL]
       ·decide
       ·rw [←HT.out,List.all_eq_false];exact ⟨t[k],cK t k hlt,by rw [aA];omega⟩
      ·have hdk:az t[k]=true:=by rw [aA];omega
       have hd':Hid ((t.data.toList.take (k+1)).all az=true):=by
        show (t.data.toList.take (k+1)).all az=true
        rw [bG t k hlt,List.all_append,hd.out];simp [hdk]
       have hn:ae (t.data.toList.take k)<1000000000000000000:=by
        refine Nat.lt_of_lt_of_le (a7 _ (fun c hc=>List.all_eq_true.1 hd.out c hc)) ?_
        exact Nat.le_trans (Nat.pow_le_pow_right (by decide) (Nat.le_trans (List.length_take_le _ _) (by omega:k≤18))) (by decide)
       have HS:Hid (ae (t.data.toList.take (k+1))=ae (t.data.toList.take k)*10+(t[k].toNat - 48)):=by rw [bG t k hlt];exact bo _ _
       have hn17:ae (t.data.toList.take (k+1))<1000000000000000000:=by
        refine Nat.lt_of_lt_of_le (a7 _ (fun c hc=>List.all_eq_true.1 hd'.out c hc)) ?_
        exact Nat.le_trans (Nat.pow_le_pow_right (by decide) (Nat.le_trans (List.length_take_le _ _) (by omega:k+1≤18))) (by decide)
       rw [HS.out] at hn17
       clear hd hdk
       go_wp2
       go_round
       case rel=>exact ⟨k+1,by omega,by go_num,by rw [HS.out];go_num,hd'⟩
       case measure=>simp [intOf];omega
    ·have hk2:t.data.toList.take k=t.data.toList:=List.take_of_length_le (by rw [ac];omega)
     have hda:=hd.out
     rw [hk2,HT.out] at hda
     rw [hk2]
     have hok:=kM hda HF.out.1 HF.out.2.1 HF.out.2.2
     have hn:ae t.data.toList<1000000000000000000:=by
      refine Nat.lt_of_lt_of_le (a7 _ (fun c hc=>List.all_eq_true.1 (by rw [HT.out];exact hda) c hc)) ?_
      exact Nat.le_trans (Nat.pow_le_pow_right (by decide) (show t.data.toList.length≤18 by rw [ac];omega)) (by decide)
     have HO:=Ha (Hb hok (show (ae t.data.toList:Int)=valOf t.data.toList by rw [ck,HN.out,if_neg (by decide),a8 HN.out]))
     clear hok hda hk2 hd
     go_wp2
     go_ret2
     exact ⟨kO HO.out.1 HO.out.2,rfl⟩
  ·have h48b:((t[0].toNat:Int)==48)=false:=by simpa using h48a
   clear h48' h48a
   go_enter Tryz.func148,Tryz.ntmps148
   go_wp2
   go_loop [6,38] (fun n i=>∃ k:Nat,k≤t.size∧i = .int .i64 k∧n = .int .i64 (ae (t.data.toList.take k):Nat)∧Hid ((t.data.toList.take k).all az=true)) (fun _ i=>t.size - (intOf i).toNat)
   case atStart=>exact ⟨0,Nat.zero_le _,rfl,rfl,rfl⟩
   case round =>
    obtain ⟨k,hk,rfl,rfl,hd⟩:=hrel
    by_cases hlt:k<t.size
    ·by_cases h3:(t[k].toNat:Int)<48
     ·go_wp2
      go_ret2
      refine ⟨ee (dG (.inl ?_)),rfl⟩
      rw [cL]
      ·decide
      ·rw [←HT.out,List.all_eq_false];exact ⟨t[k],cK t k hlt,by rw [aA];omega⟩
     ·by_cases h4:(57:Int)<t[k].toNat
      ·go_wp2
       go_ret2
       refine ⟨ee (dG (.inl ?_)),rfl⟩
       rw [cL]
       ·decide
       ·rw [←HT.out,List.all_eq_false];exact ⟨t[k],cK t k hlt,by rw [aA];omega⟩
      ·have hdk:az t[k]=true:=by rw [aA];omega
       have hd':Hid ((t.data.toList.take (k+1)).all az=true):=by
        show (t.data.toList.take (k+1)).all az=true
        rw [bG t k hlt,List.all_append,hd.out];simp [hdk]
       have hn:ae (t.data.toList.take k)<1000000000000000000:=by
        refine Nat.lt_of_lt_of_le (a7 _ (fun c hc=>List.all_eq_true.1 hd.out c hc)) ?_
        exact Nat.le_trans (Nat.pow_le_pow_right (by decide) (Nat.le_trans (List.length_take_le _ _) (by omega:k≤18))) (by decide)
       have HS:Hid (ae (t.data.toList.take (k+1))=ae (t.data.toList.take k)*10+(t[k].toNat - 48)):=by rw [bG t k hlt];exact bo _ _
       have hn17:ae (t.data.toList.take (k+1))<1000000000000000000:=by
        refine Nat.lt_of_lt_of_le (a7 _ (fun c hc=>List.all_eq_true.1 hd'.out c hc)) ?_
        exact Nat.le_trans (Nat.pow_le_pow_right (by decide) (Nat.le_trans (List.length_take_le _ _) (by omega:k+1≤18))) (by decide)
       rw [HS.out] at hn17
       clear hd hdk
       go_wp2
       go_round
       case rel=>exact ⟨k+1,by omega,by go_num,by rw [HS.out];go_num,hd'⟩
       case measure=>simp [intOf];omega
    ·have hk2:t.data.toList.take k=t.data.toList:=List.take_of_length_le (by rw [ac];omega)
     have hda:=hd.out
     rw [hk2,HT.out] at hda
     rw [hk2]
     have hok:=kM hda HF.out.1 HF.out.2.1 HF.out.2.2
     have hn:ae t.data.toList<1000000000000000000:=by
      refine Nat.lt_of_lt_of_le (a7 _ (fun c hc=>List.all_eq_true.1 (by rw [HT.out];exact hda) c hc)) ?_
      exact Nat.le_trans (Nat.pow_le_pow_right (by decide) (show t.data.toList.length≤18 by rw [ac];omega)) (by decide)
     have HO:=Ha (Hb hok (show (ae t.data.toList:Int)=valOf t.data.toList by rw [ck,HN.out,if_neg (by decide),a8 HN.out]))
     clear hok hda hk2 hd
     go_wp2
     go_ret2
     exact ⟨kO HO.out.1 HO.out.2,rfl⟩
theorem nV (t:ByteArray) (w:World) (h:t.size=1) :
  Calls Tryz.prog 148 #[.string t] w fun e W'=>e = .returned (.tuple #[.int .i64 (mg t.data.toList),.bool (dOK t.data.toList)])∧w=W':=by
 have h0t:0<t.size:=by omega
 obtain ⟨u,hu⟩:=iZ h0t
 have hl:=ac t
 rw [hu,h] at hl
 have hu0:u = []:=List.eq_nil_of_length_eq_zero (by simpa using hl)
 rw [hu0] at hu
 have hte:=et h0t
 have hs1:(t.size:Int)=1:=by omega
 clear hl hu0
 by_cases hd:az t[0]=true
 ·have hq:=(aA t[0]).1 hd
  have h45:((t[0].toNat:Int)==45)=false:=by rw [beq_eq_false_iff_ne];omega
  have hok:dOK t.data.toList=true∧((t[0].toNat - 48:Nat):Int)=valOf t.data.toList:=by
   rw [hu]
   have hng:ap [t[0]]=false:=by
    unfold ap
    rw [List.head?_cons,beq_eq_false_iff_ne]
    intro e
    have e:=Option.some.inj e
    rw [e] at hq;exact absurd hq.1 (by decide)
   refine ⟨kM (by rw [a8 hng];simp [hd]) (by rw [a8 hng];simp) (by
    rw [a8 hng]
    rintro ⟨e,e2⟩
    have e:=Option.some.inj e
    exact e2 (by rw [e])) (by rw [a8 hng];simp),?_⟩
   rw [ck,hng,a8 hng,if_neg (by decide)]
   show _=(((0*10+(t[0].toNat - 48):Nat)):Int)
   omega
  have HO:=Ha hok
  have hE:(((t[0].toNat:Int)==48) && !(t.toList == [48]))=false:=by
   rw [ByteArray.toList_eq,hu]
   by_cases h8:t[0]=48
   ·rw [h8];rfl
   ·have:=lD t[0] 48 (by decide)
    rw [show ((48:Nat):Int)=48 from rfl] at this
    rw [this,show (t[0]==UInt8.ofNat 48)=false by rw [beq_eq_false_iff_ne];exact h8];rfl
  have HE:=Ha hE
  clear hok hu hd hE u
  by_cases h8:((t[0].toNat:Int)==48)=true
  ·have hE2:(t.toList == [48])=true:=by have:=HE.out;rw [h8] at this;simpa using this
   go_enter Tryz.func148,Tryz.ntmps148
   go_wp2
   go_loop [6,38] (fun n i=>(i = .int .i64 0∧n = .int .i64 0)∨(i = .int .i64 1∧n = .int .i64 (t[0].toNat - 48:Nat))) (fun _ i=>1 - (intOf i).toNat)
   case atStart=>exact .inl ⟨rfl,rfl⟩
   case round =>
    rcases hrel with ⟨rfl,rfl⟩ | ⟨rfl,rfl⟩
    ·go_wp2
     go_round
     case rel=>exact .inr ⟨by go_num,by go_num⟩
     case measure=>simp [intOf]
    ·go_wp2
     go_ret2
     exact ⟨kO HO.out.1 HO.out.2,rfl⟩
  ·have h8':((t[0].toNat:Int)==48)=false:=by simpa using h8
   clear h8
   go_enter Tryz.func148,Tryz.ntmps148
   go_wp2
   go_loop [6,38] (fun n i=>(i = .int .i64 0∧n = .int .i64 0)∨(i = .int .i64 1∧n = .int .i64 (t[0].toNat - 48:Nat))) (fun _ i=>1 - (intOf i).toNat)
   case atStart=>exact .inl ⟨rfl,rfl⟩
   case round =>
    rcases hrel with ⟨rfl,rfl⟩ | ⟨rfl,rfl⟩
    ·go_wp2
     go_round
     case rel=>exact .inr ⟨by go_num,by go_num⟩
     case measure=>simp [intOf]
    ·go_wp2
     go_ret2
     exact ⟨kO HO.out.1 HO.out.2,rfl⟩
 ·have hr:dOK t.data.toList=false:=dG (.inl (by
   rw [hu]
   cases hn:ap [t[0]]
   ·rw [cL]
    ·decide
    ·rw [a8 hn];simpa using hd
   ·rw [jI]
    ·decide
    ·left;unfold szL;rw [hn];rfl))
  have h8:((t[0].toNat:Int)==48)=false:=by
   rw [beq_eq_false_iff_ne];intro e;apply hd;rw [aA];omega
  have hq:(t[0].toNat:Int)<48∨(57:Int)<t[0].toNat:=by
   by_cases h1:(t[0].toNat:Int)<48
   ·exact .inl h1
   ·right
    have:¬ (48≤t[0].toNat∧t[0].toNat≤57):=fun q=>hd ((aA _).2 q)
    omega
  have HR:=Ha hr
  clear hr hu hd u
  rcases hq with h1 | h1
  ·go_enter Tryz.func148,Tryz.ntmps148
   go_wp2
   go_loop [6,38] (fun n i=>i = .int .i64 0∧n = .int .i64 0) (fun _ i=>1 - (intOf i).toNat)
   case atStart=>exact ⟨rfl,rfl⟩
   case round =>
    obtain ⟨rfl,rfl⟩:=hrel
    go_wp2
    go_ret2
    exact ⟨ee HR.out,rfl⟩
  ·have h2:¬ (t[0].toNat:Int)<48:=by omega
   go_enter Tryz.func148,Tryz.ntmps148
   go_wp2
   go_loop [6,38] (fun n i=>i = .int .i64 0∧n = .int .i64 0) (fun _ i=>1 - (intOf i).toNat)
   case atStart=>exact ⟨rfl,rfl⟩
   case round =>
    obtain ⟨rfl,rfl⟩:=hrel
    go_wp2
    go_ret2
    exact ⟨ee HR.out,rfl⟩
theorem cP (s:ByteArray) (w:World) (hs:s.size≤maxLen) :
  Calls Tryz.prog 148 #[.string s] w fun e W'=>e = .returned (.tuple #[.int .i64 (mg s.data.toList),.bool (dOK s.data.toList)])∧w=W':=by
 by_cases h0:s.size=0
 ·have hE:=gZ h0
  have hr:=Ha (dG (l:=s.data.toList) (.inl (by rw [dO h0];decide)))
  go_enter Tryz.func148,Tryz.ntmps148
  go_wp2
  all_goals (go_ret2;exact ⟨ee hr.out,rfl⟩)
 ·by_cases h1:s.size=1
  ·exact nV s w h1
  ·cases hn:ap s.data.toList
   ·exact nU s w hs hn (by omega)
   ·exact nT s w hs hn (by omega)
end
section
open Go.Lib
theorem qc {l:List UInt8} {c:UInt8} (h:c ∉ l):indexByte l c = -1:=by
 induction l with
 | nil=>rfl
 | cons a t ih =>
  have h1:a≠c:=fun q=>h (by simp [q])
  have h2:c ∉ t:=fun q=>h (by simp [q])
  unfold indexByte
  rw [if_neg (by simpa using h1),ih h2];rfl
theorem qe {s:List UInt8} {c:UInt8} (t:List UInt8) (h:c ∉ s):indexByte (s++c::t) c=s.length:=by
 induction s with
 | nil=>simp [indexByte]
 | cons a s ih =>
  have h1:a≠c:=fun q=>h (by simp [q])
  have h2:c ∉ s:=fun q=>h (by simp [q])
  rw [List.cons_append]
  unfold indexByte
  rw [if_neg (by simpa using h1),ih h2,if_neg (by simp)]
  simp
theorem zw (l:List UInt8):(bj l).length≤l.length:=by
 rcases kU l with ⟨_,h2,_⟩ | ⟨_,h2⟩
 ·rw [←h2];omega
 ·have:=congrArg List.length h2
  simp only [List.length_append,List.length_cons] at this;omega
end
end Go.Proofs.YtjdomibbaemdnaaGreatDoor
