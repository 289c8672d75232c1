/- Parts of the proof of the text YtjdomibbaemdnaaGreatDoorZK42. -/
import Derived.ArgAppend
import Derived.Test.YtjdomibbaemdnaaGreatDoorZK1
import Derived.Test.YtjdomibbaemdnaaGreatDoorZK12
import Derived.Test.YtjdomibbaemdnaaGreatDoorZK4
set_option linter.all false
set_option maxRecDepth 100000
set_option maxHeartbeats 8000000
namespace Go.Proofs.YtjdomibbaemdnaaGreatDoor
section
theorem r8 {a b c d:Nat} {x1 y1 x2 y2 s:Int} (h1:x1*a+y1*b=c) (h2:x2*a+y2*b=d) (hs:s=1∨s = -1) (hd:x1*y2 - x2*y1=s):Nat.gcd c d=Nat.gcd a b:=by
 refine Nat.dvd_antisymm (Nat.dvd_gcd ?_ ?_) (Nat.dvd_gcd ?_ ?_)
 ·have hc:((Nat.gcd c d:Nat):Int)∣c:=Int.natCast_dvd_natCast.2 (Nat.gcd_dvd_left c d)
  have hd':((Nat.gcd c d:Nat):Int)∣d:=Int.natCast_dvd_natCast.2 (Nat.gcd_dvd_right c d)
  have e:(a:Int)=s*(y2*c - y1*d):=by rcases hs with rfl | rfl <;> grind
  refine Int.natCast_dvd_natCast.1 ?_
  rw [e]
  exact Int.dvd_mul_of_dvd_right (Int.dvd_sub (Int.dvd_mul_of_dvd_right hc) (Int.dvd_mul_of_dvd_right hd'))
 ·have hc:((Nat.gcd c d:Nat):Int)∣c:=Int.natCast_dvd_natCast.2 (Nat.gcd_dvd_left c d)
  have hd':((Nat.gcd c d:Nat):Int)∣d:=Int.natCast_dvd_natCast.2 (Nat.gcd_dvd_right c d)
  have e:(b:Int)=s*(x1*d - x2*c):=by rcases hs with rfl | rfl <;> grind
  refine Int.natCast_dvd_natCast.1 ?_
  rw [e]
  exact Int.dvd_mul_of_dvd_right (Int.dvd_sub (Int.dvd_mul_of_dvd_right hd') (Int.dvd_mul_of_dvd_right hc))
 ·refine Int.natCast_dvd_natCast.1 ?_
  rw [←h1]
  exact Int.dvd_add (Int.dvd_mul_of_dvd_right (Int.natCast_dvd_natCast.2 (Nat.gcd_dvd_left a b))) (Int.dvd_mul_of_dvd_right (Int.natCast_dvd_natCast.2 (Nat.gcd_dvd_right a b)))
 ·refine Int.natCast_dvd_natCast.1 ?_
  rw [←h2]
  exact Int.dvd_add (Int.dvd_mul_of_dvd_right (Int.natCast_dvd_natCast.2 (Nat.gcd_dvd_left a b))) (Int.dvd_mul_of_dvd_right (Int.natCast_dvd_natCast.2 (Nat.gcd_dvd_right a b)))
def Good (a b:Nat) (x1 y1 x2 y2:Int):Prop :=
 ∃ c d:Nat,x1*a+y1*b=c∧x2*a+y2*b=d∧d<c∧c<a∧Nat.gcd c d=Nat.gcd a b ∧
  ((0≤x1∧y1≤0∧x2≤0∧0≤y2)∨(x1≤0∧0≤y1∧0≤x2∧y2≤0)) ∧
  x1.natAbs<1000000000∧y1.natAbs<1000000000∧x2.natAbs<1000000000∧y2.natAbs<1000000000
theorem r9 {a b sc D P Q al bl p q x0 x1 y0 y1:Nat} {s:Int} (ha:a*sc=P*D+al) (hb:b*sc=Q*D+bl) (hal:al<D) (hbl:bl<D)
  (hP:P=y1*p+y0*q) (hQ:Q=x1*p+x0*q) (hs:s=1∨s = -1) (hdet:(x0:Int)*y1 - (x1:Int)*y0=s) (hq:y1≤q) (hpq:q+(y0+y1)≤p)
  (hx0:x0≤y0) (hx1:x1≤y1) (hy:y0≤y1) (hy0:1≤y0) (hP18:P<1000000000000000000) :
  Good a b (s*x0) (-s*y0) (-s*x1) (s*y1):=by
 have hD:0<D:=by omega
 have hy9:y1<1000000000:=by
  apply Decidable.byContradiction
  intro hc
  have h1:y1*y1≤y1*p:=Nat.mul_le_mul_left _ (by omega)
  have h2:1000000000*1000000000≤y1*y1:=Nat.mul_le_mul (by omega) (by omega)
  omega
 have b1:x0*al≤y0*al:=Nat.mul_le_mul_right _ hx0
 have b2:x1*al≤y1*al:=Nat.mul_le_mul_right _ hx1
 have b3:y0*al+y0≤y0*D:=by rw [←Nat.mul_succ];exact Nat.mul_le_mul_left _ hal
 have b4:y1*al+y1≤y1*D:=by rw [←Nat.mul_succ];exact Nat.mul_le_mul_left _ hal
 have b5:y0*bl+y0≤y0*D:=by rw [←Nat.mul_succ];exact Nat.mul_le_mul_left _ hbl
 have b6:y1*bl+y1≤y1*D:=by rw [←Nat.mul_succ];exact Nat.mul_le_mul_left _ hbl
 have b7:y1*D≤q*D:=Nat.mul_le_mul_right _ hq
 have b8:q*D+(y0*D+y1*D)≤p*D:=by rw [←Nat.add_mul,←Nat.add_mul];exact Nat.mul_le_mul_right _ hpq
 have b9:(p+y0)*D≤P*D:=by
  refine Nat.mul_le_mul_right _ ?_
  have h1:1*p≤y1*p:=Nat.mul_le_mul_right _ (by omega)
  have h2:y0*1≤y0*q:=Nat.mul_le_mul_left _ (by omega)
  omega
 rw [Nat.add_mul] at b9
 have c1:(s*x0*a + -s*y0*b)*sc=(p:Int)*D+s*(x0*al - y0*bl):=by
  have ha':(a:Int)*sc=P*D+al:=by exact_mod_cast ha
  have hb':(b:Int)*sc=Q*D+bl:=by exact_mod_cast hb
  have hP':(P:Int)=y1*p+y0*q:=by exact_mod_cast hP
  have hQ':(Q:Int)=x1*p+x0*q:=by exact_mod_cast hQ
  rcases hs with rfl | rfl <;> grind
 have c2:(-s*x1*a+s*y1*b)*sc=(q:Int)*D+s*(y1*bl - x1*al):=by
  have ha':(a:Int)*sc=P*D+al:=by exact_mod_cast ha
  have hb':(b:Int)*sc=Q*D+bl:=by exact_mod_cast hb
  have hP':(P:Int)=y1*p+y0*q:=by exact_mod_cast hP
  have hQ':(Q:Int)=x1*p+x0*q:=by exact_mod_cast hQ
  rcases hs with rfl | rfl <;> grind
 have hsc:0<sc:=by
  rcases Nat.eq_zero_or_pos sc with h | h
  ·subst h;omega
  ·exact h
 have ha':(a:Int)*sc=P*D+al:=by exact_mod_cast ha
 have n1:((x0*al:Nat):Int)=(x0:Int)*al:=Int.natCast_mul _ _
 have n2:((y0*bl:Nat):Int)=(y0:Int)*bl:=Int.natCast_mul _ _
 have n3:((x1*al:Nat):Int)=(x1:Int)*al:=Int.natCast_mul _ _
 have n4:((y1*bl:Nat):Int)=(y1:Int)*bl:=Int.natCast_mul _ _
 have n5:((p*D:Nat):Int)=(p:Int)*D:=Int.natCast_mul _ _
 have n6:((q*D:Nat):Int)=(q:Int)*D:=Int.natCast_mul _ _
 have n7:((P*D:Nat):Int)=(P:Int)*D:=Int.natCast_mul _ _
 rw [←n5,←n1,←n2] at c1
 rw [←n6,←n3,←n4] at c2
 rw [←n7] at ha'
 have hsc':(0:Int)<sc:=by omega
 generalize hA:s*x0*a + -s*y0*b=A at *
 generalize hB : -s*x1*a+s*y1*b=C at *
 have d1:0≤C*sc:=by rcases hs with rfl | rfl <;> omega
 have d2:C*sc<A*sc:=by rcases hs with rfl | rfl <;> omega
 have d3:A*sc<a*sc:=by rcases hs with rfl | rfl <;> omega
 have f1:0≤C:=Int.nonneg_of_mul_nonneg_left d1 hsc'
 have f2:C<A:=Int.lt_of_mul_lt_mul_right d2 (by omega)
 have f3:A<a:=Int.lt_of_mul_lt_mul_right d3 (by omega)
 obtain ⟨c,hc⟩:∃ c:Nat,A=c:=⟨A.toNat,by omega⟩
 obtain ⟨d,hd⟩:∃ d:Nat,C=d:=⟨C.toNat,by omega⟩
 subst hc
 subst hd
 refine ⟨c,d,hA,hB,by omega,by omega,r8 hA hB hs ?_,?_,?_,?_,?_,?_⟩
 ·rcases hs with rfl | rfl <;> grind
 ·rcases hs with rfl | rfl
  ·left;omega
  ·right;omega
 ·rcases hs with rfl | rfl <;> omega
 ·rcases hs with rfl | rfl <;> omega
 ·rcases hs with rfl | rfl <;> omega
 ·rcases hs with rfl | rfl <;> omega
theorem qw {P Q p q x1 x2 y1 y2:Nat} {s:Int} (hP:P=y2*p+y1*q) (hQ:Q=x2*p+x1*q) (hdet:(x1:Int)*y2 - (x2:Int)*y1 = -s) (_hq:0<q) :
  P=(y1+p / q*y2)*q+y2*(p % q)∧Q=(x1+p / q*x2)*q+x2*(p % q)∧(x2:Int)*((y1+p / q*y2:Nat):Int) - ((x1+p / q*x2:Nat):Int)*y2=s:=by
 have e:=Nat.div_add_mod p q
 generalize p / q=t at *
 generalize p % q=r at *
 subst e
 refine ⟨?_,?_,?_⟩
 ·rw [hP];grind
 ·rw [hQ];grind
 ·rw [Int.natCast_add,Int.natCast_add,Int.natCast_mul,Int.natCast_mul];grind
end
section
open Go.RowKit
theorem mH {t:Int}:0≤t.fmod 1000000000∧t.fmod 1000000000<1000000000∧1000000000*t.fdiv 1000000000+t.fmod 1000000000=t:=by
 refine ⟨Int.fmod_nonneg_of_pos _ (by decide),Int.fmod_lt_of_pos _ (by decide),Int.mul_fdiv_add_fmod _ _⟩
theorem gz (t:Int) (w:World) (h0 : -1000000000000000000<t) (h1:t<1000000000000000000) :
  Calls Tryz.prog 251 #[.int .i64 t] w fun e w'=>e = .returned (.tuple #[.int .u64 (t.fmod 1000000000),.int .i64 (t.fdiv 1000000000)])∧∃ n,w'=w.drewN n:=by
 have cd:=fY t 1000000000 w h0 h1 (by decide) (by decide) (by decide)
 obtain ⟨f0,f1,f2⟩:=mH (t:=t)
 have C:=Ha cd
 clear cd
 generalize t.fdiv 1000000000=q at *
 generalize t.fmod 1000000000=r at *
 go_enter Tryz.func251,Tryz.ntmps251
 go_wp2_with fail
 refine C.out.mono ?_
 rintro e w' ⟨rfl,n,rfl⟩
 clear C
 go_wp2
 go_ret2
 exact ⟨rfl,n,rfl⟩
def RowO (w:World) (g cap:Nat) (l:List Nat):Prop:=∃ cur,w.heap[g]? = some (.cells cur 143 (0,0))∧cur.size=cap∧l.length≤cap∧cap≤maxLen∧cur.toList.take l.length=ag l
theorem RowO.rowC {w:World} {g cap:Nat} {l:List Nat} (h:RowO w g cap l):RowC w g l:=by
 obtain ⟨cur,h1,_,_,_,h2⟩:=h;exact ⟨cur,h1,h2⟩
theorem RowO.lt {w:World} {g cap:Nat} {l:List Nat} (h:RowO w g cap l):g<w.heap.size:=h.rowC.lt
theorem RowO.le {w:World} {g cap:Nat} {l:List Nat} (h:RowO w g cap l):l.length≤cap∧cap≤maxLen:=by
 obtain ⟨cur,_,_,h1,h2,_⟩:=h;exact ⟨h1,h2⟩
theorem RowO.set {w:World} {g cap:Nat} {l:List Nat} (h:RowO w g cap l) (i:Nat) (x:Nat):RowO (w.setCell ⟨g,i,none⟩ (.int .u64 (x:Nat))) g cap (l.set i x):=by
 obtain ⟨cur,h1,h3,h4,h5,h2⟩:=h
 refine ⟨cur.setIfInBounds i (.int .u64 (x:Nat)),?_,by simpa using h3,by rw [List.length_set];exact h4,h5,?_⟩
 ·simp [World.setCell,Array.getElem?_modify,h1]
 ·rw [List.length_set,Array.toList_setIfInBounds,List.take_set,h2]
  simp [ag,List.map_set]
theorem RowO.of_block {w w':World} {g cap:Nat} {l:List Nat} (h:RowO w g cap l) (hb:w'.heap[g]? = w.heap[g]?):RowO w' g cap l:=by
 obtain ⟨cur,h1,h2⟩:=h
 exact ⟨cur,hb.trans h1,h2⟩
theorem RowO.next {w w':World} {g cap B:Nat} {l:List Nat} (h:RowO w g cap l) (hb:Below B w w') (hg:g<B):RowO w' g cap l:=h.of_block (hb.block g hg)
theorem RowO.owns {w:World} {g cap base:Nat} {l:List Nat} (h:RowO w g cap l) (hb:base≤g):w.ownsRow base 143 1 (.slice (some ⟨g,0,none⟩) l.length cap) l.length (ag l):=by
 obtain ⟨cur,h1,h3,h4,h5,h2⟩:=h
 exact ⟨by simp [ag],.inr ⟨g,cap,cur,rfl,hb,h1,h4,h5,by omega,by rw [Nat.mul_one];exact h2⟩⟩
theorem ib {w:World} {base g cap n:Nat} {l:List Nat} (h:w.ownsRow base 143 1 (.slice (some ⟨g,0,none⟩) n cap) n (ag l)):n=l.length∧base≤g∧RowO w g cap l:=by
 obtain ⟨h1,h2⟩:=h
 have hn:n=l.length:=by simpa [ag] using h1.symm
 subst hn
 rcases h2 with ⟨e,_⟩ | ⟨g',cap',cur,e,hb,hh,hn,hm,hsz,htk⟩
 ·simp at e
 ·simp only [Value.slice.injEq,Option.some.injEq,Addr.mk.injEq,and_true,true_and] at e
  obtain ⟨rfl,rfl⟩:=e
  exact ⟨rfl,hb,cur,hh,by omega,hn,hm,by rw [Nat.mul_one] at htk;exact htk⟩
theorem RowO.pre {w:World} {g cap:Nat} {l m:List Nat} (h:RowO w g cap l) (hm:m <+: l):RowO w g cap m:=by
 obtain ⟨cur,h1,h3,h4,h5,h2⟩:=h
 refine ⟨cur,h1,h3,Nat.le_trans hm.length_le h4,h5,?_⟩
 obtain ⟨r,rfl⟩:=hm
 have h6:(cur.toList.take (m++r).length).take m.length=(ag (m++r)).take m.length:=by rw [h2]
 rw [List.take_take,List.length_append,Nat.min_eq_left (by omega)] at h6
 rw [h6]
 simp [ag]
theorem RowO.isNat {w:World} {g cap n:Nat} (h:RowO w g cap (dg n)):IsNat w (.slice (some ⟨g,0,none⟩) (dg n).length cap) n :=
 h.rowC.nats h.le.1 (by have:=h.le.2;unfold maxLen at this;omega)
theorem iC {l:List Nat} {j:Nat} {u:Value} (h:(ag l)[j]? = some u):j<l.length∧some (Value.int .u64 (l.getD j 0:Nat))=some u:=by
 have hj:j<l.length:=by
  have:=(List.getElem?_eq_some_iff.1 h).1
  simpa [ag] using this
 refine ⟨hj,?_⟩
 rw [←h]
 simp [ag,hj]
theorem jS (P R:List Nat) (x:Nat):(P++(x::R)).getD P.length 0=x:=by
 rw [List.getD_eq_getElem?_getD,List.getElem?_append_right (by omega)]
 simp
theorem tE (P R:List Nat) (x y:Nat):(P++(x::R)).set P.length y=(P ++ [y])++R:=by
 rw [List.set_append_right _ _ (by omega)]
 simp
theorem o6 (P R:List Nat) (x:Nat):P.length<(P++(x::R)).length:=by simp
theorem vY {x1 y1 c:Int} {x y:Nat} (hs:(0≤x1∧y1≤0)∨(x1≤0∧0≤y1)) (h1:x1.natAbs<1000000000) (h2:y1.natAbs<1000000000) (hx:x<1000000000) (hy:y<1000000000) (hc : -1000000000≤c∧c≤1000000000) :
  -1000000000000000000<x1*x+y1*y+c∧x1*x+y1*y+c<1000000000000000000 ∧ -1000000000≤(x1*x+y1*y+c).fdiv 1000000000∧(x1*x+y1*y+c).fdiv 1000000000≤1000000000 ∧
  -999999998000000001≤x1*x∧x1*x≤999999998000000001 ∧ -999999998000000001≤y1*y∧y1*y≤999999998000000001 ∧ -999999998000000001≤x1*x+y1*y∧x1*x+y1*y≤999999998000000001:=by
 have m1:=eZ h1 hx
 have m2:=eZ h2 hy
 have a1:(x1*x).natAbs=x1.natAbs*x:=by rw [Int.natAbs_mul];rfl
 have a2:(y1*y).natAbs=y1.natAbs*y:=by rw [Int.natAbs_mul];rfl
 have s1:(0≤x1*x∧y1*y≤0)∨(x1*x≤0∧0≤y1*y):=by
  rcases hs with ⟨p1,p2⟩ | ⟨p1,p2⟩
  ·exact .inl ⟨Int.mul_nonneg p1 (by omega),Int.mul_nonpos_of_nonpos_of_nonneg p2 (by omega)⟩
  ·exact .inr ⟨Int.mul_nonpos_of_nonpos_of_nonneg p1 (by omega),Int.mul_nonneg p2 (by omega)⟩
 obtain ⟨f0,f1,f2⟩:=mH (t:=x1*x+y1*y+c)
 generalize (x1*x+y1*y+c).fmod 1000000000=r at *
 generalize (x1*x+y1*y+c).fdiv 1000000000=q at *
 generalize x1*x=u at *
 generalize y1*y=v at *
 omega
theorem qx {p x1 y1 c t:Int} {P x y:Int} (h:p+P*c=t):p+P*(x1*x+y1*y+c).fmod 1000000000+P*1000000000*(x1*x+y1*y+c).fdiv 1000000000=t+P*(x1*x+y1*y):=by
 obtain ⟨f0,f1,f2⟩:=mH (t:=x1*x+y1*y+c)
 generalize (x1*x+y1*y+c).fmod 1000000000=r at *
 generalize (x1*x+y1*y+c).fdiv 1000000000=q at *
 grind
theorem yc {p c:Int} {P m:Nat} (h:p+(P:Int)*c=m) (h0:0≤p) (hp:p<P) (hm:m<P):p=m:=by
 have h1:c=0:=by
  rcases Int.lt_trichotomy c 0 with h2 | h2 | h2
  ·have:(P:Int)*c≤P*(-1):=Int.mul_le_mul_of_nonneg_left (by omega) (by omega)
   omega
  ·exact h2
  ·have:(P:Int)*1≤P*c:=Int.mul_le_mul_of_nonneg_left (by omega) (by omega)
   omega
 rw [h1] at h
 omega
structure AS (w:World) (K ga ca base:Nat) (x1 y1 x2 y2:Int) (la:List Nat) (gb cb:Nat) (lb:List Nat) (wr:World):Prop where
 c0:wr.cell? ⟨K,0,none⟩=some (.int .i64 x1)
 c1:wr.cell? ⟨K,1,none⟩=some (.int .i64 y1)
 c2:wr.cell? ⟨K,2,none⟩=some (.int .i64 x2)
 c3:wr.cell? ⟨K,3,none⟩=some (.int .i64 y2)
 ra:RowO wr ga ca la
 rb:RowO wr gb cb lb
 ne:ga≠gb
 na:ga≠K
 nb:gb≠K
 ba:base≤ga
 bb:base≤gb
 bk:base≤K
 kl:K<wr.heap.size
 bel:Below base w wr
theorem AS.drewN {w:World} {K ga ca base:Nat} {x1 y1 x2 y2:Int} {la lb:List Nat} {gb cb:Nat} {wr:World} (h:AS w K ga ca base x1 y1 x2 y2 la gb cb lb wr) (n:Nat):AS w K ga ca base x1 y1 x2 y2 la gb cb lb (wr.drewN n) :=
 ⟨h.c0,h.c1,h.c2,h.c3,h.ra.of_block rfl,h.rb.of_block rfl,h.ne,h.na,h.nb,h.ba,h.bb,h.bk,h.kl,h.bel.trans (Below.drewK _ _ _)⟩
theorem AS.setA {w:World} {K ga ca base:Nat} {x1 y1 x2 y2:Int} {la lb:List Nat} {gb cb:Nat} {wr:World} (h:AS w K ga ca base x1 y1 x2 y2 la gb cb lb wr) (i x:Nat):AS w K ga ca base x1 y1 x2 y2 (la.set i x) gb cb lb (wr.setCell ⟨ga,i,none⟩ (.int .u64 (x:Nat))):=by
 have hk:∀ o,(wr.setCell ⟨ga,i,none⟩ (.int .u64 (x:Nat))).cell? ⟨K,o,none⟩=wr.cell? ⟨K,o,none⟩:=fun o=>World.cell?_of_block (Below.heap_setCell _ _ _ _ (by show K≠ga;exact fun e=>h.na e.symm))
 exact ⟨by rw [hk];exact h.c0,by rw [hk];exact h.c1,by rw [hk];exact h.c2,by rw [hk];exact h.c3,h.ra.set i x,h.rb.of_block (Below.heap_setCell _ _ _ _ (by show gb≠ga;exact fun e=>h.ne e.symm)),h.ne,h.na,h.nb,h.ba,h.bb,h.bk,
  by have:=h.kl;simpa [World.setCell] using this,h.bel.setCell (p:=⟨ga,i,none⟩) h.ba _⟩
theorem AS.setB {w:World} {K ga ca base:Nat} {x1 y1 x2 y2:Int} {la lb:List Nat} {gb cb:Nat} {wr:World} (h:AS w K ga ca base x1 y1 x2 y2 la gb cb lb wr) (i x:Nat):AS w K ga ca base x1 y1 x2 y2 la gb cb (lb.set i x) (wr.setCell ⟨gb,i,none⟩ (.int .u64 (x:Nat))):=by
 have hk:∀ o,(wr.setCell ⟨gb,i,none⟩ (.int .u64 (x:Nat))).cell? ⟨K,o,none⟩=wr.cell? ⟨K,o,none⟩:=fun o=>World.cell?_of_block (Below.heap_setCell _ _ _ _ (by show K≠gb;exact fun e=>h.nb e.symm))
 exact ⟨by rw [hk];exact h.c0,by rw [hk];exact h.c1,by rw [hk];exact h.c2,by rw [hk];exact h.c3,h.ra.of_block (Below.heap_setCell _ _ _ _ (by show ga≠gb;exact h.ne)),h.rb.set i x,h.ne,h.na,h.nb,h.ba,h.bb,h.bk,
  by have:=h.kl;simpa [World.setCell] using this,h.bel.setCell (p:=⟨gb,i,none⟩) h.bb _⟩
theorem AS.newB {w:World} {K ga ca base:Nat} {x1 y1 x2 y2:Int} {la lb lb':List Nat} {gb cb gb' cb':Nat} {wr W:World} (h:AS w K ga ca base x1 y1 x2 y2 la gb cb lb wr) (hb:∀ k,k<wr.heap.size→k≠gb→W.heap[k]? = wr.heap[k]?) (hr:RowO W gb' cb' lb')
  (hg:gb'=gb∨wr.heap.size≤gb') (hB:Below base w W) (hz:wr.heap.size≤W.heap.size):AS w K ga ca base x1 y1 x2 y2 la gb' cb' lb' W:=by
 have hk:∀ o,W.cell? ⟨K,o,none⟩=wr.cell? ⟨K,o,none⟩:=fun o=>World.cell?_of_block (hb K h.kl (fun e=>h.nb e.symm))
 have hal:=h.ra.lt
 have hkl:=h.kl
 refine ⟨by rw [hk];exact h.c0,by rw [hk];exact h.c1,by rw [hk];exact h.c2,by rw [hk];exact h.c3,h.ra.of_block (hb ga hal h.ne),hr,?_,h.na,?_,h.ba,?_,h.bk,by omega,hB⟩
 ·rcases hg with hg | hg
  ·rw [hg];exact h.ne
  ·omega
 ·rcases hg with hg | hg
  ·rw [hg];exact h.nb
  ·omega
 ·rcases hg with hg | hg
  ·rw [hg];exact h.bb
  ·have:=hB.size;have:=h.bk;omega
theorem qy {P:List Nat} {d j x y A A' L L':Nat} {x1 y1 e:Int} (hP:P.length=j) (hA:A'=A+B ^ j*x) (hL:L'=L+B ^ j*y)
  (s:(toN P:Int)+(B:Int) ^ j*d+(B:Int) ^ j*1000000000*e=x1*A+y1*L+(B:Int) ^ j*(x1*x+y1*y)):(toN (P ++ [d]):Int)+(B:Int) ^ (j+1)*e=x1*A'+y1*L':=by
 rw [aQ,hP,hA,hL]
 simp only [Int.natCast_add,Int.natCast_mul,Int.natCast_pow]
 rw [Int.pow_succ]
 have hB:(B:Int)=1000000000:=rfl
 generalize (B:Int) ^ j=Z at *
 rw [hB]
 grind
theorem qA {P:List Nat} {n c m:Nat} {cy t:Int} (hP:P.length=n) (hd:Dig P) (h:(toN P:Int)+(B:Int) ^ n*cy=t) (ht:t=c) (hc:c<m) (hm:m<B ^ n):toN P=c:=by
 have h1:=cI hd
 rw [hP] at h1
 rw [ht,←Int.natCast_pow] at h
 have:=yc (P:=B ^ n) h (by omega) (by omega) (by omega)
 omega
theorem oC (x1 y1 x2 y2:Int) (a b ga gb ca cb base c d:Nat) (w:World) (ha:RowO w ga ca (dg a)) (hb:RowO w gb cb (dg b)) (hne:ga≠gb) (hga:base≤ga) (hgb:base≤gb) (hlen:(dg b).length≤(dg a).length) (hla:(dg a).length≤1000)
  (h1:x1*a+y1*b=c) (h2:x2*a+y2*b=d) (hdc:d<c) (hca:c<a)
  (hs:(0≤x1∧y1≤0∧x2≤0∧0≤y2)∨(x1≤0∧0≤y1∧0≤x2∧y2≤0)) (b1:x1.natAbs<1000000000) (b2:y1.natAbs<1000000000) (b3:x2.natAbs<1000000000) (b4:y2.natAbs<1000000000) :
  Calls Tryz.prog 243 #[.agg #[.int .i64 x1,.int .i64 y1,.int .i64 x2,.int .i64 y2],.slice (some ⟨ga,0,none⟩) (dg a).length ca,.slice (some ⟨gb,0,none⟩) (dg b).length cb] w fun e W' =>
   ∃ gb' cb',e = .returned (.tuple #[.slice (some ⟨ga,0,none⟩) (dg c).length ca,.slice (some ⟨gb',0,none⟩) (dg d).length cb'])∧RowO W' ga ca (dg c)∧RowO W' gb' cb' (dg d)∧ga≠gb'∧base≤gb'∧Below base w W':=by
 obtain ⟨i0,hi,hz0,hz1,hz2⟩:=info_parts di
 have HI:=Ha (Hb hi (Hb hz0 (Hb hz1 hz2)));clear hi hz0 hz1 hz2
 have hS:AS w w.heap.size ga ca base x1 y1 x2 y2 (dg a) gb cb (dg b) (w.alloc (.cells #[.int .i64 x1,.int .i64 y1,.int .i64 x2,.int .i64 y2] 263)):=by
  have q1:=ha.lt
  have q2:=hb.lt
  refine ⟨by go_cell,by go_cell,by go_cell,by go_cell,ha.of_block (Below.heap_alloc _ _ _ q1),hb.of_block (Below.heap_alloc _ _ _ q2),hne,by omega,by omega,hga,hgb,by omega,by simp,(Below.refl _ _).alloc (by omega) _⟩
 have HS:=Ha hS
 have HM:=Ha (Hb h1 (Hb h2 (Hb hdc (Hb hca hs))))
 have HBD:=Ha (Hb b1 (Hb b2 (Hb b3 b4)))
 have HLL:=Ha hlen
 have hlb:=Ha hb.le
 clear hS ha hb h1 h2 hs b1 b2 b3 b4 hne hga hgb hdc hca
 generalize hla':(dg a).length=n at *
 generalize hlb':(dg b).length=m at *
 have HN:=Ha (Hb hla' hlb')
 clear hla' hlb'
 go_enter Tryz.func243,Tryz.ntmps243
 go_wp2
 generalize w.alloc (.cells #[.int .i64 x1,.int .i64 y1,.int .i64 x2,.int .i64 y2] 263)=W0 at *
 generalize w.heap.size=K at *
 go_loopw [2] (fun v wr=>∃ (k gb' cb':Nat),v = .slice (some ⟨gb',0,none⟩) (m+k) cb'∧m+k≤n∧m+k≤cb'∧Hid (AS w K ga ca base x1 y1 x2 y2 (dg a) gb' cb' (dg b++List.replicate k 0) wr))
  (fun v _=>n - lenOf v)
 case atStart=>exact ⟨0,gb,cb,rfl,by have:=HLL.out;omega,hlb.out.1,by show AS _ _ _ _ _ _ _ _ _ _ _ _ _ _;rw [List.replicate_zero,List.append_nil];exact HS.out⟩
 case round =>
  clear HS
  obtain ⟨k,gb',cb',rfl,hk,hkc,hS⟩:=hrel
  by_cases hlt:m+k<n
  ·have hlt2:((m:Int)+k)<n:=by omega
   have hll:(dg b++List.replicate k 0).length=m+k:=by rw [List.length_append,List.length_replicate,HN.out.2]
   have ho:=hS.out.rb.owns hS.out.bb
   rw [hll] at ho
   have hsz:K<wr.heap.size:=hS.out.kl
   have hbs:base≤wr.heap.size:=by have:=hS.out.bk;omega
   have HO:=Ha ho
   have hlm:m+k≤1000:=by omega
   clear ho
   by_cases hfit:m+k+1≤cb'
   ·go_wp2_with (at_builtin;refine wpList_append_fits _ rfl _ _ 182 rfl base 143 i0 1 Tryz.underlying182 HI.out.1 HI.out.2.2.1 gb' (m+k) cb' _ rfl (HO.out.alloc _) ⟨wr.heap.size,0,none⟩ 1 1 [.int .u64 0] rfl rfl (cell_one_new _ _ _) (by simp [Value.oneCell']) hfit ?_;intro w2 hown' hgrow;have HO2:=Ha hown';have HG2:=Ha hgrow;clear hown' hgrow)
    go_roundw
    case rel =>
     have h2:=HO2.out
     rw [show [Value.int IntKind.u64 0]=ag [0] by rfl,show ag (dg b++List.replicate k 0)++ag [0]=ag (dg b++List.replicate (k+1) 0) by simp [ag,List.replicate_succ',List.append_assoc]] at h2
     obtain ⟨_,_,hr⟩:=ib h2
     refine ⟨k+1,gb',cb',rfl,by omega,by omega,hS.out.newB (fun j hj hne => ?_) hr (.inl rfl) ((hS.out.bel.alloc hbs _).grown HG2.out (by simp;omega) (fun j hj=>by cases hj;exact hS.out.bb)) ?_⟩
     ·exact (HG2.out.block j (by simp;omega) (fun e=>hne (Option.some.inj e))).trans (Below.heap_alloc _ _ _ hj)
     ·have:=HG2.out.size;simp at this;omega
    case measure=>simp [lenOf];omega
   ·have hcells:∀ j u,(ag (dg b++List.replicate k 0))[j]? = some u→(wr.alloc (.cells #[.int .u64 0] 143)).cell? ((⟨gb',0,none⟩:Addr).add j)=some u:=by
     intro j u hu
     have hadd:(⟨gb',0,none⟩:Addr).add j=⟨gb',j,none⟩:=by unfold Addr.add;split <;> simp_all
     obtain ⟨hj,e⟩:=iC hu
     rw [hadd,World.cell?_of_block (Below.heap_alloc wr _ gb' hS.out.rb.lt),hS.out.rb.rowC.cell hj,e]
    have HC:=Ha hcells
    have hfull:cb'<m+k+1:=by omega
    have hcl:(ag (dg b++List.replicate k 0)).length=(m+k)*1:=by rw [Nat.mul_one,←hll];simp [ag]
    have HCL:=Ha hcl
    clear hcells hcl
    go_wp2_with (at_builtin;refine wpList_append_grows _ rfl _ _ 182 rfl 143 i0 (.int .u64 0) 1 8 Tryz.underlying182 HI.out.1 HI.out.2.1 HI.out.2.2.1 HI.out.2.2.2 rfl (by decide) (some ⟨gb',0,none⟩) (m+k) cb' (ag (dg b++List.replicate k 0)) rfl (fun e=>by cases e) HCL.out (fun q e=>by cases e;exact HC.out) ⟨wr.heap.size,0,none⟩ 1 1 [.int .u64 0] rfl rfl (cell_one_new _ _ _) (by simp [Value.oneCell']) hfull (by unfold maxLen;omega) (by omega) ?_;intro v' w2 hown' hgrow;have HO2:=Ha hown';have HG2:=Ha hgrow;clear hown' hgrow)
    have h2:=HO2.out
    rw [show [Value.int IntKind.u64 0]=ag [0] by rfl,show ag (dg b++List.replicate k 0)++ag [0]=ag (dg b++List.replicate (k+1) 0) by simp [ag,List.replicate_succ',List.append_assoc]] at h2
    obtain ⟨g',cap',rfl,hg',hc1,hc2,_⟩:=fg h2 (by simp)
    have hl2:(dg b++List.replicate (k+1) 0).length=m+k+1:=by rw [List.length_append,List.length_replicate,HN.out.2];omega
    rw [hl2] at hc1 h2 ⊢
    obtain ⟨_,_,hr⟩:=ib h2
    have HR:=Ha (Hb hr hg')
    clear hr hg' h2 hl2
    go_roundw
    case rel =>
     refine ⟨k+1,g',cap',rfl,by omega,hc1,hS.out.newB (fun j hj hne => ?_) HR.out.1 (.inr (by have:=HR.out.2;simp at this;omega)) ((hS.out.bel.alloc hbs _).grown HG2.out (by simp;omega) (fun j hj=>by cases hj)) ?_⟩
     ·exact (HG2.out.block j (by simp;omega) (fun e=>by cases e)).trans (Below.heap_alloc _ _ _ hj)
     ·have:=HG2.out.size;simp at this;omega
    case measure=>simp [lenOf];omega
  ·have ek:m+k=n:=by omega
   rw [ek]
   have HB2:=Ha hS.out
   have hlb2:(dg b++List.replicate k 0).length=n:=by rw [List.length_append,List.length_replicate,HN.out.2];omega
   have htb:toN (dg b++List.replicate k 0)=b:=by rw [bJ,dw,Nat.mul_zero,Nat.add_zero,ar]
   have hdb:Dig (dg b++List.replicate k 0):=(aq b).append (Dig.replicate k)
   have HLB:=Ha (Hb hlb2 (Hb htb hdb))
   clear hlb2 htb hdb ek hk hlt hS
   generalize dg b++List.replicate k 0=lb at *
   go_wp2
   go_loopw [8,9,23] (fun x y z wr=>∃ (cy1 cy2:Int) (j:Nat) (P Q:List Nat),j≤n∧x = .int .i64 cy1∧y = .int .i64 cy2∧z = .int .i64 j ∧ -1000000000≤cy1∧cy1≤1000000000 ∧ -1000000000≤cy2∧cy2≤1000000000∧P.length=j∧Q.length=j ∧
     Hid (Dig P∧Dig Q)∧Hid (AS w K ga ca base x1 y1 x2 y2 (P++(dg a).drop j) gb' cb' (Q++lb.drop j) wr) ∧
     Hid ((toN P:Int)+(B:Int) ^ j*cy1=x1*toN ((dg a).take j)+y1*toN (lb.take j))∧Hid ((toN Q:Int)+(B:Int) ^ j*cy2=x2*toN ((dg a).take j)+y2*toN (lb.take j)))
    (fun _ _ z _=>n - (intOf z).toNat)
   case atStart=>exact ⟨0,0,0,[],[],Nat.zero_le _,rfl,rfl,rfl,by omega,by omega,by omega,by omega,rfl,rfl,⟨Dig.nil,Dig.nil⟩,HB2.out,by show (toN []:Int)+_=_;simp [toN],by show (toN []:Int)+_=_;simp [toN]⟩
   case round =>
    clear HB2
    obtain ⟨cy1,cy2,j,P,Q,hj,rfl,rfl,rfl,l1,u1,l2,u2,hP,hQ,hD,hS,hv1,hv2⟩:=hrel
    by_cases hjl:j<n
    ·have eA:(dg a).drop j=(dg a).getD j 0::(dg a).drop (j+1):=ef (by rw [HN.out.1];exact hjl)
     have eB:lb.drop j=lb.getD j 0::lb.drop (j+1):=ef (by rw [HLB.out.1];exact hjl)
     have hx:=(aq a).getD j
     have hy:=HLB.out.2.2.getD j
     have tA:=aB (dg a) j (by rw [HN.out.1];exact hjl)
     have tB:=aB lb j (by rw [HLB.out.1];exact hjl)
     have S0:=hS.out
     rw [eA,eB] at S0
     have s1:=qx (x1:=x1) (y1:=y1) (x:=(dg a).getD j 0) (y:=lb.getD j 0) hv1.out
     have s2:=qx (x1:=x2) (y1:=y2) (x:=(dg a).getD j 0) (y:=lb.getD j 0) hv2.out
     have q1:=vY (x:=(dg a).getD j 0) (y:=lb.getD j 0) (HM.out.2.2.2.2.imp (fun h=>⟨h.1,h.2.1⟩) (fun h=>⟨h.1,h.2.1⟩)) HBD.out.1 HBD.out.2.1 hx hy ⟨l1,u1⟩
     have q2:=vY (x:=(dg a).getD j 0) (y:=lb.getD j 0) (HM.out.2.2.2.2.symm.imp (fun h=>⟨h.2.2.1,h.2.2.2⟩) (fun h=>⟨h.2.2.1,h.2.2.2⟩)) HBD.out.2.2.1 HBD.out.2.2.2 hx hy ⟨l2,u2⟩
     have HT:=Ha (Hb tA tB)
     clear tA tB eA eB hv1 hv2 hS
     generalize (dg a).getD j 0=x at *
     generalize lb.getD j 0=y at *
     have k1:=fun W=>gz (x1*x+y1*y+cy1) W q1.1 q1.2.1
     have k2:=fun W=>gz (x2*x+y2*y+cy2) W q2.1 q2.2.1
     obtain ⟨f0,f1,_⟩:=mH (t:=x1*x+y1*y+cy1)
     obtain ⟨g0,g1,_⟩:=mH (t:=x2*x+y2*y+cy2)
     obtain ⟨d1,hd1⟩:∃ d:Nat,(x1*(x:Int)+y1*y+cy1).fmod 1000000000=d:=⟨_,(Int.toNat_of_nonneg f0).symm⟩
     obtain ⟨d2,hd2⟩:∃ d:Nat,(x2*(x:Int)+y2*y+cy2).fmod 1000000000=d:=⟨_,(Int.toNat_of_nonneg g0).symm⟩
     rw [hd1] at k1 s1 f1
     rw [hd2] at k2 s2 g1
     obtain ⟨e1,he1⟩:∃ e,(x1*(x:Int)+y1*y+cy1).fdiv 1000000000=e:=⟨_,rfl⟩
     obtain ⟨e2,he2⟩:∃ e,(x2*(x:Int)+y2*y+cy2).fdiv 1000000000=e:=⟨_,rfl⟩
     rw [he1] at k1 s1 q1
     rw [he2] at k2 s2 q2
     obtain ⟨_,_,q13,q14,q15,q16,q17,q18,q19,q1a⟩:=q1
     obtain ⟨_,_,q23,q24,q25,q26,q27,q28,q29,q2a⟩:=q2
     have KK:=Ha (Hb k1 k2)
     have SS:=Ha (Hb s1 s2)
     clear k1 k2 s1 s2 hd1 hd2 he1 he2 f0 g0
     have coA:=S0.ra.rowC.cell (o6 P ((dg a).drop (j+1)) x)
     have coB:=S0.rb.rowC.cell (o6 Q (lb.drop (j+1)) y)
     rw [jS,hP] at coA
     rw [jS,hQ] at coB
     have HSt:=Ha S0
     clear S0
     have jn:(j:Int)<(n:Int):=by omega
     have x9:(x:Int)≤999999999:=by omega
     have y9:(y:Int)≤999999999:=by omega
     go_wp2
     go_quiet (fail)
     clear coA coB
     have HS1:=Ha (HSt.out.drewN nq)
     generalize wr.drewN nq=W1 at *
     have z0:=HS1.out.c0
     have z1:=HS1.out.c1
     go_wp2_with fail
     refine (KK.out.1 _).mono ?_
     rintro e w' ⟨rfl,k1,rfl⟩
     clear z0 z1
     have HS2:=Ha (HS1.out.drewN k1)
     clear HS1
     generalize W1.drewN k1=W2 at *
     have fA:=HS2.out.ra.rowC.frozen j
     have cA:=HS2.out.ra.rowC.cell (o6 P ((dg a).drop (j+1)) x)
     rw [jS,hP] at cA
     have HS3:=Ha (HS2.out.setA j d1)
     have z2:=HS3.out.c2
     have z3:=HS3.out.c3
     go_wp2_with fail
     clear fA cA
     refine (KK.out.2 _).mono ?_
     rintro e w' ⟨rfl,k2,rfl⟩
     clear z2 z3
     have HS4:=Ha (HS3.out.drewN k2)
     clear HS3 HS2
     generalize (W2.setCell ⟨ga,j,none⟩ (.int .u64 (d1:Nat))).drewN k2=W4 at *
     have fB:=HS4.out.rb.rowC.frozen j
     have cB:=HS4.out.rb.rowC.cell (o6 Q (lb.drop (j+1)) y)
     rw [jS,hQ] at cB
     have HS5:=Ha (HS4.out.setB j d2)
     go_wp2
     go_roundw
     case rel =>
      have h5:=HS5.out
      rw [←hP,tE,hP,←hQ,tE,hQ] at h5
      refine ⟨e1,e2,j+1,P ++ [d1],Q ++ [d2],by omega,rfl,rfl,by go_num,q13,q14,q23,q24,by simp [hP],by simp [hQ],⟨hD.out.1.append (Dig.one (by omega)),hD.out.2.append (Dig.one (by omega))⟩,h5,?_,?_⟩
      ·exact qy hP HT.out.1 HT.out.2 SS.out.1
      ·exact qy hQ HT.out.1 HT.out.2 SS.out.2
     case measure=>simp [intOf];omega
    ·have ej:j=n:=by omega
     subst ej
     have tA:(dg a).take j=dg a:=List.take_of_length_le (by rw [HN.out.1];exact Nat.le_refl _)
     have tB:lb.take j=lb:=List.take_of_length_le (by rw [HLB.out.1];exact Nat.le_refl _)
     have eA:(dg a).drop j = []:=List.drop_of_length_le (by rw [HN.out.1];exact Nat.le_refl _)
     have eB:lb.drop j = []:=List.drop_of_length_le (by rw [HLB.out.1];exact Nat.le_refl _)
     have v1:=hv1.out
     have v2:=hv2.out
     rw [tA,tB,ar,HLB.out.2.1] at v1 v2
     have haB:a<B ^ j:=by have:=cI (aq a);rwa [ar,HN.out.1] at this
     have w1:toN P=c:=qA hP hD.out.1 v1 HM.out.1 HM.out.2.2.2.1 haB
     have w2:toN Q=d:=qA hQ hD.out.2 v2 HM.out.2.1 HM.out.2.2.1 (Nat.lt_trans HM.out.2.2.2.1 haB)
     have S0:=hS.out
     rw [eA,eB,List.append_nil,List.append_nil] at S0
     have c1:=bv _ _ P wr (S0.ra.rowC.nats S0.ra.le.1 (by have:=S0.ra.le.2;unfold maxLen at this;omega)) hD.out.1
     have c2:=bv _ _ Q wr (S0.rb.rowC.nats S0.rb.le.1 (by have:=S0.rb.le.2;unfold maxLen at this;omega)) hD.out.2
     have p1:=aK hD.out.1
     have p2:=aK hD.out.2
     rw [w1] at c1 p1
     rw [w2] at c2 p2
     rw [hP] at c1
     rw [hQ] at c2
     have CC:=Ha (Hb c1 c2)
     have HR:=Ha (Hb (S0.ra.pre p1) (Hb (S0.rb.pre p2) (Hb S0.ne (Hb S0.bb S0.bel))))
     clear c1 c2 p1 p2 w1 w2 S0 v1 v2 haB eA eB tA tB hv1 hv2 hS hD HM
     go_wp2_with fail
     refine CC.out.1.mono ?_
     rintro e w' ⟨rfl,rfl⟩
     go_wp2_with fail
     refine CC.out.2.mono ?_
     rintro e w' ⟨rfl,rfl⟩
     go_wp2
     go_ret2
     obtain ⟨r1,r2,r3,r4,r5⟩:=HR.out
     exact ⟨gb',cb',rfl,r1,r2,r3,r4,r5⟩
end
end Go.Proofs.YtjdomibbaemdnaaGreatDoor
