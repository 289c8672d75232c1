/- Parts of the proof of the text YtbhbhlfkdlfimaaGreatDoorQX29. -/
import Derived.ArgAppend
import Derived.RangeFuncNested
import Derived.RangeFuncBound
import Derived.RangeFuncCalls
import Derived.RangeFuncLeaves
import Derived.RangeFuncBox
import Derived.Shelf.Abstract
import Derived.OwnWalkIn
import Derived.TacticsInMore
import Derived.LoopNIn
import Derived.LoopIn
import Derived.Maps.AppendAt
import Derived.Test.YtbhbhlfkdlfimaaGreatDoorQX1
import Derived.Test.YtbhbhlfkdlfimaaGreatDoorQX7
set_option linter.all false
set_option maxRecDepth 100000
set_option maxHeartbeats 8000000
namespace Go.Proofs.YtbhbhlfkdlfimaaGreatDoor
section
open Go.RowKit
theorem qb {t:Int}:0≤t.fmod 1000000000∧t.fmod 1000000000<1000000000∧1000000000*t.fdiv 1000000000+t.fmod 1000000000=t:=by
 refine ⟨Int.fmod_nonneg_of_pos _ (by decide),Int.fmod_lt_of_pos _ (by decide),Int.mul_fdiv_add_fmod _ _⟩
theorem iy (t:Int) (w:World) (h0 : -1000000000000000000<t) (h1:t<1000000000000000000) :
  Calls Tryz.prog 134 #[.int .i64 t] w fun e w'=>e = .returned (.tuple #[.int .u64 (t.fmod 1000000000),.int .i64 (t.fdiv 1000000000)])∧∃ n,w'=w.drewN n:=by
 have cd:=gK t 1000000000 w h0 h1 (by decide) (by decide) (by decide)
 obtain ⟨f0,f1,f2⟩:=qb (t:=t)
 have C:=Ha cd
 clear cd
 generalize t.fdiv 1000000000=q at *
 generalize t.fmod 1000000000=r at *
 go_enter Tryz.func134,Tryz.ntmps134
 go_wp2_with fail
 refine C.out.mono ?_
 rintro e w' ⟨rfl,n,rfl⟩
 clear C
 go_wp2
 go_ret2
 exact ⟨rfl,n,rfl⟩
def RowO (w:World) (g cap:Nat) (l:List Nat):Prop:=∃ cur,w.heap[g]? = some (.cells cur 82 (0,0))∧cur.size=cap∧l.length≤cap∧cap≤maxLen∧cur.toList.take l.length=aj l
theorem RowO.rowC {w:World} {g cap:Nat} {l:List Nat} (h:RowO w g cap l):RowC w g l:=by
 obtain ⟨cur,h1,_,_,_,h2⟩:=h;exact ⟨cur,h1,h2⟩
theorem RowO.lt {w:World} {g cap:Nat} {l:List Nat} (h:RowO w g cap l):g<w.heap.size:=h.rowC.lt
theorem RowO.le {w:World} {g cap:Nat} {l:List Nat} (h:RowO w g cap l):l.length≤cap∧cap≤maxLen:=by
 obtain ⟨cur,_,_,h1,h2,_⟩:=h;exact ⟨h1,h2⟩
theorem RowO.set {w:World} {g cap:Nat} {l:List Nat} (h:RowO w g cap l) (i:Nat) (x:Nat):RowO (w.setCell ⟨g,i,none⟩ (.int .u64 (x:Nat))) g cap (l.set i x):=by
 obtain ⟨cur,h1,h3,h4,h5,h2⟩:=h
 refine ⟨cur.setIfInBounds i (.int .u64 (x:Nat)),?_,by simpa using h3,by rw [List.length_set];exact h4,h5,?_⟩
 ·simp [World.setCell,Array.getElem?_modify,h1]
 ·rw [List.length_set,Array.toList_setIfInBounds,List.take_set,h2]
  simp [aj,List.map_set]
theorem RowO.of_block {w w':World} {g cap:Nat} {l:List Nat} (h:RowO w g cap l) (hb:w'.heap[g]? = w.heap[g]?):RowO w' g cap l:=by
 obtain ⟨cur,h1,h2⟩:=h
 exact ⟨cur,hb.trans h1,h2⟩
theorem RowO.next {w w':World} {g cap B:Nat} {l:List Nat} (h:RowO w g cap l) (hb:Below B w w') (hg:g<B):RowO w' g cap l:=h.of_block (hb.block g hg)
theorem RowO.owns {w:World} {g cap base:Nat} {l:List Nat} (h:RowO w g cap l) (hb:base≤g):w.ownsRow base 82 1 (.slice (some ⟨g,0,none⟩) l.length cap) l.length (aj l):=by
 obtain ⟨cur,h1,h3,h4,h5,h2⟩:=h
 exact ⟨by simp [aj],.inr ⟨g,cap,cur,rfl,hb,h1,h4,h5,by omega,by rw [Nat.mul_one];exact h2⟩⟩
theorem iQ {w:World} {base g cap n:Nat} {l:List Nat} (h:w.ownsRow base 82 1 (.slice (some ⟨g,0,none⟩) n cap) n (aj l)):n=l.length∧base≤g∧RowO w g cap l:=by
 obtain ⟨h1,h2⟩:=h
 have hn:n=l.length:=by simpa [aj] using h1.symm
 subst hn
 rcases h2 with ⟨e,_⟩ | ⟨g',cap',cur,e,hb,hh,hn,hm,hsz,htk⟩
 ·simp at e
 ·simp only [Value.slice.injEq,Option.some.injEq,Addr.mk.injEq,and_true,true_and] at e
  obtain ⟨rfl,rfl⟩:=e
  exact ⟨rfl,hb,cur,hh,by omega,hn,hm,by rw [Nat.mul_one] at htk;exact htk⟩
theorem RowO.pre {w:World} {g cap:Nat} {l m:List Nat} (h:RowO w g cap l) (hm:m <+: l):RowO w g cap m:=by
 obtain ⟨cur,h1,h3,h4,h5,h2⟩:=h
 refine ⟨cur,h1,h3,Nat.le_trans hm.length_le h4,h5,?_⟩
 obtain ⟨r,rfl⟩:=hm
 have h6:(cur.toList.take (m++r).length).take m.length=(aj (m++r)).take m.length:=by rw [h2]
 rw [List.take_take,List.length_append,Nat.min_eq_left (by omega)] at h6
 rw [h6]
 simp [aj]
theorem RowO.isNat {w:World} {g cap n:Nat} (h:RowO w g cap (dg n)):IsNat w (.slice (some ⟨g,0,none⟩) (dg n).length cap) n :=
 h.rowC.nats h.le.1 (by have:=h.le.2;unfold maxLen at this;omega)
theorem jw {l:List Nat} {j:Nat} {u:Value} (h:(aj l)[j]? = some u):j<l.length∧some (Value.int .u64 (l.getD j 0:Nat))=some u:=by
 have hj:j<l.length:=by
  have:=(List.getElem?_eq_some_iff.1 h).1
  simpa [aj] using this
 refine ⟨hj,?_⟩
 rw [←h]
 simp [aj,hj]
theorem lS (P R:List Nat) (x:Nat):(P++(x::R)).getD P.length 0=x:=by
 rw [List.getD_eq_getElem?_getD,List.getElem?_append_right (by omega)]
 simp
theorem yH (P R:List Nat) (x y:Nat):(P++(x::R)).set P.length y=(P ++ [y])++R:=by
 rw [List.set_append_right _ _ (by omega)]
 simp
theorem tu (P R:List Nat) (x:Nat):P.length<(P++(x::R)).length:=by simp
theorem CU {x1 y1 c:Int} {x y:Nat} (hs:(0≤x1∧y1≤0)∨(x1≤0∧0≤y1)) (h1:x1.natAbs<1000000000) (h2:y1.natAbs<1000000000) (hx:x<1000000000) (hy:y<1000000000) (hc : -1000000000≤c∧c≤1000000000) :
  -1000000000000000000<x1*x+y1*y+c∧x1*x+y1*y+c<1000000000000000000 ∧ -1000000000≤(x1*x+y1*y+c).fdiv 1000000000∧(x1*x+y1*y+c).fdiv 1000000000≤1000000000 ∧
  -999999998000000001≤x1*x∧x1*x≤999999998000000001 ∧ -999999998000000001≤y1*y∧y1*y≤999999998000000001 ∧ -999999998000000001≤x1*x+y1*y∧x1*x+y1*y≤999999998000000001:=by
 have m1:=fU h1 hx
 have m2:=fU h2 hy
 have a1:(x1*x).natAbs=x1.natAbs*x:=by rw [Int.natAbs_mul];rfl
 have a2:(y1*y).natAbs=y1.natAbs*y:=by rw [Int.natAbs_mul];rfl
 have s1:(0≤x1*x∧y1*y≤0)∨(x1*x≤0∧0≤y1*y):=by
  rcases hs with ⟨p1,p2⟩ | ⟨p1,p2⟩
  ·exact .inl ⟨Int.mul_nonneg p1 (by omega),Int.mul_nonpos_of_nonpos_of_nonneg p2 (by omega)⟩
  ·exact .inr ⟨Int.mul_nonpos_of_nonpos_of_nonneg p1 (by omega),Int.mul_nonneg p2 (by omega)⟩
 obtain ⟨f0,f1,f2⟩:=qb (t:=x1*x+y1*y+c)
 generalize (x1*x+y1*y+c).fmod 1000000000=r at *
 generalize (x1*x+y1*y+c).fdiv 1000000000=q at *
 generalize x1*x=u at *
 generalize y1*y=v at *
 omega
theorem vn {p x1 y1 c t:Int} {P x y:Int} (h:p+P*c=t):p+P*(x1*x+y1*y+c).fmod 1000000000+P*1000000000*(x1*x+y1*y+c).fdiv 1000000000=t+P*(x1*x+y1*y):=by
 obtain ⟨f0,f1,f2⟩:=qb (t:=x1*x+y1*y+c)
 generalize (x1*x+y1*y+c).fmod 1000000000=r at *
 generalize (x1*x+y1*y+c).fdiv 1000000000=q at *
 grind
theorem Es {p c:Int} {P m:Nat} (h:p+(P:Int)*c=m) (h0:0≤p) (hp:p<P) (hm:m<P):p=m:=by
 have h1:c=0:=by
  rcases Int.lt_trichotomy c 0 with h2 | h2 | h2
  ·have:(P:Int)*c≤P*(-1):=Int.mul_le_mul_of_nonneg_left (by omega) (by omega)
   omega
  ·exact h2
  ·have:(P:Int)*1≤P*c:=Int.mul_le_mul_of_nonneg_left (by omega) (by omega)
   omega
 rw [h1] at h
 omega
structure AS (w:World) (K ga ca base:Nat) (x1 y1 x2 y2:Int) (la:List Nat) (gb cb:Nat) (lb:List Nat) (wr:World):Prop where
 c0:wr.cell? ⟨K,0,none⟩=some (.int .i64 x1)
 c1:wr.cell? ⟨K,1,none⟩=some (.int .i64 y1)
 c2:wr.cell? ⟨K,2,none⟩=some (.int .i64 x2)
 c3:wr.cell? ⟨K,3,none⟩=some (.int .i64 y2)
 ra:RowO wr ga ca la
 rb:RowO wr gb cb lb
 ne:ga≠gb
 na:ga≠K
 nb:gb≠K
 ba:base≤ga
 bb:base≤gb
 bk:base≤K
 kl:K<wr.heap.size
 bel:Below base w wr
theorem AS.drewN {w:World} {K ga ca base:Nat} {x1 y1 x2 y2:Int} {la lb:List Nat} {gb cb:Nat} {wr:World} (h:AS w K ga ca base x1 y1 x2 y2 la gb cb lb wr) (n:Nat):AS w K ga ca base x1 y1 x2 y2 la gb cb lb (wr.drewN n) :=
 ⟨h.c0,h.c1,h.c2,h.c3,h.ra.of_block rfl,h.rb.of_block rfl,h.ne,h.na,h.nb,h.ba,h.bb,h.bk,h.kl,h.bel.trans (Below.drewK _ _ _)⟩
theorem AS.setA {w:World} {K ga ca base:Nat} {x1 y1 x2 y2:Int} {la lb:List Nat} {gb cb:Nat} {wr:World} (h:AS w K ga ca base x1 y1 x2 y2 la gb cb lb wr) (i x:Nat):AS w K ga ca base x1 y1 x2 y2 (la.set i x) gb cb lb (wr.setCell ⟨ga,i,none⟩ (.int .u64 (x:Nat))):=by
 have hk:∀ o,(wr.setCell ⟨ga,i,none⟩ (.int .u64 (x:Nat))).cell? ⟨K,o,none⟩=wr.cell? ⟨K,o,none⟩:=fun o=>World.cell?_of_block (Below.heap_setCell _ _ _ _ (by show K≠ga;exact fun e=>h.na e.symm))
 exact ⟨by rw [hk];exact h.c0,by rw [hk];exact h.c1,by rw [hk];exact h.c2,by rw [hk];exact h.c3,h.ra.set i x,h.rb.of_block (Below.heap_setCell _ _ _ _ (by show gb≠ga;exact fun e=>h.ne e.symm)),h.ne,h.na,h.nb,h.ba,h.bb,h.bk,
  by have:=h.kl;simpa [World.setCell] using this,h.bel.setCell (p:=⟨ga,i,none⟩) h.ba _⟩
theorem AS.setB {w:World} {K ga ca base:Nat} {x1 y1 x2 y2:Int} {la lb:List Nat} {gb cb:Nat} {wr:World} (h:AS w K ga ca base x1 y1 x2 y2 la gb cb lb wr) (i x:Nat):AS w K ga ca base x1 y1 x2 y2 la gb cb (lb.set i x) (wr.setCell ⟨gb,i,none⟩ (.int .u64 (x:Nat))):=by
 have hk:∀ o,(wr.setCell ⟨gb,i,none⟩ (.int .u64 (x:Nat))).cell? ⟨K,o,none⟩=wr.cell? ⟨K,o,none⟩:=fun o=>World.cell?_of_block (Below.heap_setCell _ _ _ _ (by show K≠gb;exact fun e=>h.nb e.symm))
 exact ⟨by rw [hk];exact h.c0,by rw [hk];exact h.c1,by rw [hk];exact h.c2,by rw [hk];exact h.c3,h.ra.of_block (Below.heap_setCell _ _ _ _ (by show ga≠gb;exact h.ne)),h.rb.set i x,h.ne,h.na,h.nb,h.ba,h.bb,h.bk,
  by have:=h.kl;simpa [World.setCell] using this,h.bel.setCell (p:=⟨gb,i,none⟩) h.bb _⟩
theorem AS.newB {w:World} {K ga ca base:Nat} {x1 y1 x2 y2:Int} {la lb lb':List Nat} {gb cb gb' cb':Nat} {wr W:World} (h:AS w K ga ca base x1 y1 x2 y2 la gb cb lb wr) (hb:∀ k,k<wr.heap.size→k≠gb→W.heap[k]? = wr.heap[k]?) (hr:RowO W gb' cb' lb')
  (hg:gb'=gb∨wr.heap.size≤gb') (hB:Below base w W) (hz:wr.heap.size≤W.heap.size):AS w K ga ca base x1 y1 x2 y2 la gb' cb' lb' W:=by
 have hk:∀ o,W.cell? ⟨K,o,none⟩=wr.cell? ⟨K,o,none⟩:=fun o=>World.cell?_of_block (hb K h.kl (fun e=>h.nb e.symm))
 have hal:=h.ra.lt
 have hkl:=h.kl
 refine ⟨by rw [hk];exact h.c0,by rw [hk];exact h.c1,by rw [hk];exact h.c2,by rw [hk];exact h.c3,h.ra.of_block (hb ga hal h.ne),hr,?_,h.na,?_,h.ba,?_,h.bk,by omega,hB⟩
 ·rcases hg with hg | hg
  ·rw [hg];exact h.ne
  ·omega
 ·rcases hg with hg | hg
  ·rw [hg];exact h.nb
  ·omega
 ·rcases hg with hg | hg
  ·rw [hg];exact h.bb
  ·have:=hB.size;have:=h.bk;omega
theorem vo {P:List Nat} {d j x y A A' L L':Nat} {x1 y1 e:Int} (hP:P.length=j) (hA:A'=A+B ^ j*x) (hL:L'=L+B ^ j*y)
  (s:(toN P:Int)+(B:Int) ^ j*d+(B:Int) ^ j*1000000000*e=x1*A+y1*L+(B:Int) ^ j*(x1*x+y1*y)):(toN (P ++ [d]):Int)+(B:Int) ^ (j+1)*e=x1*A'+y1*L':=by
 rw [aW,hP,hA,hL]
 simp only [Int.natCast_add,Int.natCast_mul,Int.natCast_pow]
 rw [Int.pow_succ]
 have hB:(B:Int)=1000000000:=rfl
 generalize (B:Int) ^ j=Z at *
 rw [hB]
 grind
theorem vt {P:List Nat} {n c m:Nat} {cy t:Int} (hP:P.length=n) (hd:Dig P) (h:(toN P:Int)+(B:Int) ^ n*cy=t) (ht:t=c) (hc:c<m) (hm:m<B ^ n):toN P=c:=by
 have h1:=cO hd
 rw [hP] at h1
 rw [ht,←Int.natCast_pow] at h
 have:=Es (P:=B ^ n) h (by omega) (by omega) (by omega)
 omega
theorem rE (x1 y1 x2 y2:Int) (a b ga gb ca cb base c d:Nat) (w:World) (ha:RowO w ga ca (dg a)) (hb:RowO w gb cb (dg b)) (hne:ga≠gb) (hga:base≤ga) (hgb:base≤gb) (hlen:(dg b).length≤(dg a).length) (hla:(dg a).length≤1000)
  (h1:x1*a+y1*b=c) (h2:x2*a+y2*b=d) (hdc:d<c) (hca:c<a)
  (hs:(0≤x1∧y1≤0∧x2≤0∧0≤y2)∨(x1≤0∧0≤y1∧0≤x2∧y2≤0)) (b1:x1.natAbs<1000000000) (b2:y1.natAbs<1000000000) (b3:x2.natAbs<1000000000) (b4:y2.natAbs<1000000000) :
  Calls Tryz.prog 89 #[.agg #[.int .i64 x1,.int .i64 y1,.int .i64 x2,.int .i64 y2],.slice (some ⟨ga,0,none⟩) (dg a).length ca,.slice (some ⟨gb,0,none⟩) (dg b).length cb] w fun e W' =>
   ∃ gb' cb',e = .returned (.tuple #[.slice (some ⟨ga,0,none⟩) (dg c).length ca,.slice (some ⟨gb',0,none⟩) (dg d).length cb'])∧RowO W' ga ca (dg c)∧RowO W' gb' cb' (dg d)∧ga≠gb'∧base≤gb'∧Below base w W':=by
 obtain ⟨i0,hi,hz0,hz1,hz2⟩:=info_parts dF
 have HI:=Ha (Hb hi (Hb hz0 (Hb hz1 hz2)));clear hi hz0 hz1 hz2
 have hS:AS w w.heap.size ga ca base x1 y1 x2 y2 (dg a) gb cb (dg b) (w.alloc (.cells #[.int .i64 x1,.int .i64 y1,.int .i64 x2,.int .i64 y2] 139)):=by
  have q1:=ha.lt
  have q2:=hb.lt
  refine ⟨by go_cell,by go_cell,by go_cell,by go_cell,ha.of_block (Below.heap_alloc _ _ _ q1),hb.of_block (Below.heap_alloc _ _ _ q2),hne,by omega,by omega,hga,hgb,by omega,by simp,(Below.refl _ _).alloc (by omega) _⟩
 have HS:=Ha hS
 have HM:=Ha (Hb h1 (Hb h2 (Hb hdc (Hb hca hs))))
 have HBD:=Ha (Hb b1 (Hb b2 (Hb b3 b4)))
 have HLL:=Ha hlen
 have hlb:=Ha hb.le
 clear hS ha hb h1 h2 hs b1 b2 b3 b4 hne hga hgb hdc hca
 generalize hla':(dg a).length=n at *
 generalize hlb':(dg b).length=m at *
 have HN:=Ha (Hb hla' hlb')
 clear hla' hlb'
 go_enter Tryz.func89,Tryz.ntmps89
 go_wp2
 generalize w.alloc (.cells #[.int .i64 x1,.int .i64 y1,.int .i64 x2,.int .i64 y2] 139)=W0 at *
 generalize w.heap.size=K at *
 go_loopw [2] (fun v wr=>∃ (k gb' cb':Nat),v = .slice (some ⟨gb',0,none⟩) (m+k) cb'∧m+k≤n∧m+k≤cb'∧Hid (AS w K ga ca base x1 y1 x2 y2 (dg a) gb' cb' (dg b++List.replicate k 0) wr))
  (fun v _=>n - lenOf v)
 case atStart=>exact ⟨0,gb,cb,rfl,by have:=HLL.out;omega,hlb.out.1,by show AS _ _ _ _ _ _ _ _ _ _ _ _ _ _;rw [List.replicate_zero,List.append_nil];exact HS.out⟩
 case round =>
  clear HS
  obtain ⟨k,gb',cb',rfl,hk,hkc,hS⟩:=hrel
  by_cases hlt:m+k<n
  ·have hlt2:((m:Int)+k)<n:=by omega
   have hll:(dg b++List.replicate k 0).length=m+k:=by rw [List.length_append,List.length_replicate,HN.out.2]
   have ho:=hS.out.rb.owns hS.out.bb
   rw [hll] at ho
   have hsz:K<wr.heap.size:=hS.out.kl
   have hbs:base≤wr.heap.size:=by have:=hS.out.bk;omega
   have HO:=Ha ho
   have hlm:m+k≤1000:=by omega
   clear ho
   by_cases hfit:m+k+1≤cb'
   ·go_wp2_with (at_builtin;refine wpList_append_fits _ rfl _ _ 86 rfl base 82 i0 1 Tryz.underlying86 HI.out.1 HI.out.2.2.1 gb' (m+k) cb' _ rfl (HO.out.alloc _) ⟨wr.heap.size,0,none⟩ 1 1 [.int .u64 0] rfl rfl (cell_one_new _ _ _) (by simp [Value.oneCell']) hfit ?_;intro w2 hown' hgrow;have HO2:=Ha hown';have HG2:=Ha hgrow;clear hown' hgrow)
    go_roundw
    case rel =>
     have h2:=HO2.out
     rw [show [Value.int IntKind.u64 0]=aj [0] by rfl,show aj (dg b++List.replicate k 0)++aj [0]=aj (dg b++List.replicate (k+1) 0) by simp [aj,List.replicate_succ',List.append_assoc]] at h2
     obtain ⟨_,_,hr⟩:=iQ h2
     refine ⟨k+1,gb',cb',rfl,by omega,by omega,hS.out.newB (fun j hj hne => ?_) hr (.inl rfl) ((hS.out.bel.alloc hbs _).grown HG2.out (by simp;omega) (fun j hj=>by cases hj;exact hS.out.bb)) ?_⟩
     ·exact (HG2.out.block j (by simp;omega) (fun e=>hne (Option.some.inj e))).trans (Below.heap_alloc _ _ _ hj)
     ·have:=HG2.out.size;simp at this;omega
    case measure=>simp [lenOf];omega
   ·have hcells:∀ j u,(aj (dg b++List.replicate k 0))[j]? = some u→(wr.alloc (.cells #[.int .u64 0] 82)).cell? ((⟨gb',0,none⟩:Addr).add j)=some u:=by
     intro j u hu
     have hadd:(⟨gb',0,none⟩:Addr).add j=⟨gb',j,none⟩:=by unfold Addr.add;split <;> simp_all
     obtain ⟨hj,e⟩:=jw hu
     rw [hadd,World.cell?_of_block (Below.heap_alloc wr _ gb' hS.out.rb.lt),hS.out.rb.rowC.cell hj,e]
    have HC:=Ha hcells
    have hfull:cb'<m+k+1:=by omega
    have hcl:(aj (dg b++List.replicate k 0)).length=(m+k)*1:=by rw [Nat.mul_one,←hll];simp [aj]
    have HCL:=Ha hcl
    clear hcells hcl
    go_wp2_with (at_builtin;refine wpList_append_grows _ rfl _ _ 86 rfl 82 i0 (.int .u64 0) 1 8 Tryz.underlying86 HI.out.1 HI.out.2.1 HI.out.2.2.1 HI.out.2.2.2 rfl (by decide) (some ⟨gb',0,none⟩) (m+k) cb' (aj (dg b++List.replicate k 0)) rfl (fun e=>by cases e) HCL.out (fun q e=>by cases e;exact HC.out) ⟨wr.heap.size,0,none⟩ 1 1 [.int .u64 0] rfl rfl (cell_one_new _ _ _) (by simp [Value.oneCell']) hfull (by unfold maxLen;omega) (by omega) ?_;intro v' w2 hown' hgrow;have HO2:=Ha hown';have HG2:=Ha hgrow;clear hown' hgrow)
    have h2:=HO2.out
    rw [show [Value.int IntKind.u64 0]=aj [0] by rfl,show aj (dg b++List.replicate k 0)++aj [0]=aj (dg b++List.replicate (k+1) 0) by simp [aj,List.replicate_succ',List.append_assoc]] at h2
    obtain ⟨g',cap',rfl,hg',hc1,hc2,_⟩:=fX h2 (by simp)
    have hl2:(dg b++List.replicate (k+1) 0).length=m+k+1:=by rw [List.length_append,List.length_replicate,HN.out.2];omega
    rw [hl2] at hc1 h2 ⊢
    obtain ⟨_,_,hr⟩:=iQ h2
    have HR:=Ha (Hb hr hg')
    clear hr hg' h2 hl2
    go_roundw
    case rel =>
     refine ⟨k+1,g',cap',rfl,by omega,hc1,hS.out.newB (fun j hj hne => ?_) HR.out.1 (.inr (by have:=HR.out.2;simp at this;omega)) ((hS.out.bel.alloc hbs _).grown HG2.out (by simp;omega) (fun j hj=>by cases hj)) ?_⟩
     ·exact (HG2.out.block j (by simp;omega) (fun e=>by cases e)).trans (Below.heap_alloc _ _ _ hj)
     ·have:=HG2.out.size;simp at this;omega
    case measure=>simp [lenOf];omega
  ·have ek:m+k=n:=by omega
   rw [ek]
   have HB2:=Ha hS.out
   have hlb2:(dg b++List.replicate k 0).length=n:=by rw [List.length_append,List.length_replicate,HN.out.2];omega
   have htb:toN (dg b++List.replicate k 0)=b:=by rw [bT,dQ,Nat.mul_zero,Nat.add_zero,aE]
   have hdb:Dig (dg b++List.replicate k 0):=(aB b).append (Dig.replicate k)
   have HLB:=Ha (Hb hlb2 (Hb htb hdb))
   clear hlb2 htb hdb ek hk hlt hS
   generalize dg b++List.replicate k 0=lb at *
   go_wp2
   go_loopw [8,9,23] (fun x y z wr=>∃ (cy1 cy2:Int) (j:Nat) (P Q:List Nat),j≤n∧x = .int .i64 cy1∧y = .int .i64 cy2∧z = .int .i64 j ∧ -1000000000≤cy1∧cy1≤1000000000 ∧ -1000000000≤cy2∧cy2≤1000000000∧P.length=j∧Q.length=j ∧
     Hid (Dig P∧Dig Q)∧Hid (AS w K ga ca base x1 y1 x2 y2 (P++(dg a).drop j) gb' cb' (Q++lb.drop j) wr) ∧
     Hid ((toN P:Int)+(B:Int) ^ j*cy1=x1*toN ((dg a).take j)+y1*toN (lb.take j))∧Hid ((toN Q:Int)+(B:Int) ^ j*cy2=x2*toN ((dg a).take j)+y2*toN (lb.take j)))
    (fun _ _ z _=>n - (intOf z).toNat)
   case atStart=>exact ⟨0,0,0,[],[],Nat.zero_le _,rfl,rfl,rfl,by omega,by omega,by omega,by omega,rfl,rfl,⟨Dig.nil,Dig.nil⟩,HB2.out,by show (toN []:Int)+_=_;simp [toN],by show (toN []:Int)+_=_;simp [toN]⟩
   case round =>
    clear HB2
    obtain ⟨cy1,cy2,j,P,Q,hj,rfl,rfl,rfl,l1,u1,l2,u2,hP,hQ,hD,hS,hv1,hv2⟩:=hrel
    by_cases hjl:j<n
    ·have eA:(dg a).drop j=(dg a).getD j 0::(dg a).drop (j+1):=fx (by rw [HN.out.1];exact hjl)
     have eB:lb.drop j=lb.getD j 0::lb.drop (j+1):=fx (by rw [HLB.out.1];exact hjl)
     have hx:=(aB a).getD j
     have hy:=HLB.out.2.2.getD j
     have tA:=aC (dg a) j (by rw [HN.out.1];exact hjl)
     have tB:=aC lb j (by rw [HLB.out.1];exact hjl)
     have S0:=hS.out
     rw [eA,eB] at S0
     have s1:=vn (x1:=x1) (y1:=y1) (x:=(dg a).getD j 0) (y:=lb.getD j 0) hv1.out
     have s2:=vn (x1:=x2) (y1:=y2) (x:=(dg a).getD j 0) (y:=lb.getD j 0) hv2.out
     have q1:=CU (x:=(dg a).getD j 0) (y:=lb.getD j 0) (HM.out.2.2.2.2.imp (fun h=>⟨h.1,h.2.1⟩) (fun h=>⟨h.1,h.2.1⟩)) HBD.out.1 HBD.out.2.1 hx hy ⟨l1,u1⟩
     have q2:=CU (x:=(dg a).getD j 0) (y:=lb.getD j 0) (HM.out.2.2.2.2.symm.imp (fun h=>⟨h.2.2.1,h.2.2.2⟩) (fun h=>⟨h.2.2.1,h.2.2.2⟩)) HBD.out.2.2.1 HBD.out.2.2.2 hx hy ⟨l2,u2⟩
     have HT:=Ha (Hb tA tB)
     clear tA tB eA eB hv1 hv2 hS
     generalize (dg a).getD j 0=x at *
     generalize lb.getD j 0=y at *
     have k1:=fun W=>iy (x1*x+y1*y+cy1) W q1.1 q1.2.1
     have k2:=fun W=>iy (x2*x+y2*y+cy2) W q2.1 q2.2.1
     obtain ⟨f0,f1,_⟩:=qb (t:=x1*x+y1*y+cy1)
     obtain ⟨g0,g1,_⟩:=qb (t:=x2*x+y2*y+cy2)
     obtain ⟨d1,hd1⟩:∃ d:Nat,(x1*(x:Int)+y1*y+cy1).fmod 1000000000=d:=⟨_,(Int.toNat_of_nonneg f0).symm⟩
     obtain ⟨d2,hd2⟩:∃ d:Nat,(x2*(x:Int)+y2*y+cy2).fmod 1000000000=d:=⟨_,(Int.toNat_of_nonneg g0).symm⟩
     rw [hd1] at k1 s1 f1
     rw [hd2] at k2 s2 g1
     obtain ⟨e1,he1⟩:∃ e,(x1*(x:Int)+y1*y+cy1).fdiv 1000000000=e:=⟨_,rfl⟩
     obtain ⟨e2,he2⟩:∃ e,(x2*(x:Int)+y2*y+cy2).fdiv 1000000000=e:=⟨_,rfl⟩
     rw [he1] at k1 s1 q1
     rw [he2] at k2 s2 q2
     obtain ⟨_,_,q13,q14,q15,q16,q17,q18,q19,q1a⟩:=q1
     obtain ⟨_,_,q23,q24,q25,q26,q27,q28,q29,q2a⟩:=q2
     have KK:=Ha (Hb k1 k2)
     have SS:=Ha (Hb s1 s2)
     clear k1 k2 s1 s2 hd1 hd2 he1 he2 f0 g0
     have coA:=S0.ra.rowC.cell (tu P ((dg a).drop (j+1)) x)
     have coB:=S0.rb.rowC.cell (tu Q (lb.drop (j+1)) y)
     rw [lS,hP] at coA
     rw [lS,hQ] at coB
     have HSt:=Ha S0
     clear S0
     have jn:(j:Int)<(n:Int):=by omega
     have x9:(x:Int)≤999999999:=by omega
     have y9:(y:Int)≤999999999:=by omega
     go_wp2
     go_quiet (fail)
     clear coA coB
     have HS1:=Ha (HSt.out.drewN nq)
     generalize wr.drewN nq=W1 at *
     have z0:=HS1.out.c0
     have z1:=HS1.out.c1
     go_wp2_with fail
     refine (KK.out.1 _).mono ?_
     rintro e w' ⟨rfl,k1,rfl⟩
     clear z0 z1
     have HS2:=Ha (HS1.out.drewN k1)
     clear HS1
     generalize W1.drewN k1=W2 at *
     have fA:=HS2.out.ra.rowC.frozen j
     have cA:=HS2.out.ra.rowC.cell (tu P ((dg a).drop (j+1)) x)
     rw [lS,hP] at cA
     have HS3:=Ha (HS2.out.setA j d1)
     have z2:=HS3.out.c2
     have z3:=HS3.out.c3
     go_wp2_with fail
     clear fA cA
     refine (KK.out.2 _).mono ?_
     rintro e w' ⟨rfl,k2,rfl⟩
     clear z2 z3
     have HS4:=Ha (HS3.out.drewN k2)
     clear HS3 HS2
     generalize (W2.setCell ⟨ga,j,none⟩ (.int .u64 (d1:Nat))).drewN k2=W4 at *
     have fB:=HS4.out.rb.rowC.frozen j
     have cB:=HS4.out.rb.rowC.cell (tu Q (lb.drop (j+1)) y)
     rw [lS,hQ] at cB
     have HS5:=Ha (HS4.out.setB j d2)
     go_wp2
     go_roundw
     case rel =>
      have h5:=HS5.out
      rw [←hP,yH,hP,←hQ,yH,hQ] at h5
      refine ⟨e1,e2,j+1,P ++ [d1],Q ++ [d2],by omega,rfl,rfl,by go_num,q13,q14,q23,q24,by simp [hP],by simp [hQ],⟨hD.out.1.append (Dig.one (by omega)),hD.out.2.append (Dig.one (by omega))⟩,h5,?_,?_⟩
      ·exact vo hP HT.out.1 HT.out.2 SS.out.1
      ·exact vo hQ HT.out.1 HT.out.2 SS.out.2
     case measure=>simp [intOf];omega
    ·have ej:j=n:=by omega
     subst ej
     have tA:(dg a).take j=dg a:=List.take_of_length_le (by rw [HN.out.1];exact Nat.le_refl _)
     have tB:lb.take j=lb:=List.take_of_length_le (by rw [HLB.out.1];exact Nat.le_refl _)
     have eA:(dg a).drop j = []:=List.drop_of_length_le (by rw [HN.out.1];exact Nat.le_refl _)
     have eB:lb.drop j = []:=List.drop_of_length_le (by rw [HLB.out.1];exact Nat.le_refl _)
     have v1:=hv1.out
     have v2:=hv2.out
     rw [tA,tB,aE,HLB.out.2.1] at v1 v2
     have haB:a<B ^ j:=by have:=cO (aB a);rwa [aE,HN.out.1] at this
     have w1:toN P=c:=vt hP hD.out.1 v1 HM.out.1 HM.out.2.2.2.1 haB
     have w2:toN Q=d:=vt hQ hD.out.2 v2 HM.out.2.1 HM.out.2.2.1 (Nat.lt_trans HM.out.2.2.2.1 haB)
     have S0:=hS.out
     rw [eA,eB,List.append_nil,List.append_nil] at S0
     have c1:=bE _ _ P wr (S0.ra.rowC.nats S0.ra.le.1 (by have:=S0.ra.le.2;unfold maxLen at this;omega)) hD.out.1
     have c2:=bE _ _ Q wr (S0.rb.rowC.nats S0.rb.le.1 (by have:=S0.rb.le.2;unfold maxLen at this;omega)) hD.out.2
     have p1:=aO hD.out.1
     have p2:=aO hD.out.2
     rw [w1] at c1 p1
     rw [w2] at c2 p2
     rw [hP] at c1
     rw [hQ] at c2
     have CC:=Ha (Hb c1 c2)
     have HR:=Ha (Hb (S0.ra.pre p1) (Hb (S0.rb.pre p2) (Hb S0.ne (Hb S0.bb S0.bel))))
     clear c1 c2 p1 p2 w1 w2 S0 v1 v2 haB eA eB tA tB hv1 hv2 hS hD HM
     go_wp2_with fail
     refine CC.out.1.mono ?_
     rintro e w' ⟨rfl,rfl⟩
     go_wp2_with fail
     refine CC.out.2.mono ?_
     rintro e w' ⟨rfl,rfl⟩
     go_wp2
     go_ret2
     obtain ⟨r1,r2,r3,r4,r5⟩:=HR.out
     exact ⟨gb',cb',rfl,r1,r2,r3,r4,r5⟩
end
section
open Go.RowKit Go.Shelf
def OwnR (W:World) (base:Nat) (v:Value) (n:Nat):Prop:=∃ g cap,v = .slice (some ⟨g,0,none⟩) (dg n).length cap∧base≤g∧RowO W g cap (dg n)
def OwnN (W:World) (base:Nat) (v:Value) (n:Nat):Prop:=n≠0→OwnR W base v n
theorem OwnR.mono {W:World} {a b:Nat} {v:Value} {n:Nat} (h:OwnR W b v n) (hab:a≤b):OwnR W a v n:=by
 obtain ⟨g,cap,e,hb,hr⟩:=h
 exact ⟨g,cap,e,by omega,hr⟩
theorem Row.rowO {w:World} {g:Nat} {l:List Nat} (h:Row w g l) (hl:l.length≤maxLen):RowO w g l.length l:=⟨_,h,by simp [aj],Nat.le_refl _,hl,by rw [List.take_of_length_le (by simp [aj])]⟩
theorem vu (v:Value) (l:List Nat) (w:World) (base:Nat) (h:w.ownsRow base 82 1 v l.length (aj l)) (hd:Dig l) :
  Calls Tryz.prog 94 #[v] w fun e w'=>w=w'∧∃ v',e = .returned v'∧Nats w v' (dg (toN l))∧v'.ownBlock=v.ownBlock∧OwnN w base v' (toN l):=by
 by_cases h0:toN l=0
 ·refine (fO v l w (bI h) hd).mono fun e w' ⟨hw,v',he,hn,ho⟩=>⟨hw,v',he,hn,ho,fun h1=>absurd h0 h1⟩
 ·have hne:l ≠ []:=fun e=>h0 (by rw [e];rfl)
  obtain ⟨g,cap,rfl,hg,hc1,hc2,_⟩:=fX h hne
  obtain ⟨_,_,hr⟩:=iQ h
  have hN:=hr.rowC.nats hc1 (by unfold maxLen at hc2;omega)
  refine (bE _ _ l w hN hd).mono fun e w' ⟨he,hw⟩=>⟨hw,_,he,hN.take (aO hd),rfl,fun _=>⟨g,cap,rfl,hg,hr.pre (aO hd)⟩⟩
theorem RowO.putObj {W:World} {l g cap:Nat} {o o':Obj} {m:List Nat} (h:RowO W g cap m) (hl:W.heap[l]? = some o) (ho:o.isCells=false):RowO (W.putObj l o') g cap m:=by
 have hne:g≠l:=by
  intro e
  obtain ⟨cur,h1,_⟩:=h
  rw [e,hl] at h1
  have e2:=Option.some.inj h1
  rw [e2] at ho
  simp [Obj.isCells] at ho
 exact h.of_block (World.putObj_heap_other hne)
section
attribute [local go_sem] Oper.semAt_some
theorem iW (s:ByteArray) (w:World) (hs:s.size≤1000000) (hd:∀ c∈s.data.toList,aA c=true) :
  Calls Tryz.prog 50 #[.string s] w fun e W'=>∃ v,e = .returned v∧IsNat W' v (ah s.data.toList)∧Fresh w.heap.size v∧Below w.heap.size w W'∧OwnN W' w.heap.size v (ah s.data.toList):=by
 refine (callsIn_wide (n:=9)).1 ?_
 have hlen:(rd s.data.toList).length≤1000000:=Nat.le_trans (qW _ _ (Nat.le_refl _)) (by rw [ag];exact hs)
 have hval:=Bg _ s.data.toList (Nat.le_refl _) hd
 have HV:=Ha hval;clear hval
 have HD:=Ha hd;clear hd
 obtain ⟨i0,hi,hz0,hz1,hz2⟩:=info_parts dF
 have HI:=Ha (Hb hi (Hb hz0 (Hb hz1 hz2)));clear hi hz0 hz1 hz2
 obtain ⟨m,hm⟩:∃ m:Nat,(s.size:Int) / 9+1=m:=⟨s.size / 9+1,by omega⟩
 have hm2:m≤1000000:=by omega
 have HM:=Ha hm;clear hm
 refine callsIn_of_wp_marks Tryz.func50 rfl trivial ?_ rfl
 simp only [Tryz.ntmps50,List.size_toArray,List.length_cons,List.length_nil,Nat.reduceAdd,Nat.reduceSub,Array.replicate_succ,Array.replicate_zero,List.push_toArray,List.append_toArray,List.nil_append,List.cons_append]
 gi_wp2_with (gi_at_make;refine wpListIn_make_own _ rfl _ _ 86 rfl w.heap.size 82 i0 (.int .u64 0) 1 Tryz.underlying86 HI.out.1 HI.out.2.1 HI.out.2.2.1 .i64 .i64 _ m rfl rfl HM.out (by rw [HI.out.2.2.2];omega) (by unfold maxLen;omega) (Nat.le_refl _) ?_;intro w1 hown hgrow)
 refine ⟨trivial,?_⟩
 refine (callsIn_wide.2 (po s _)).mono ?_
 rintro e w' ⟨rfl,rfl⟩
 gi_wp2
 have bO:=Boxed.new w1 86 (.slice (some ⟨w.heap.size,0,none⟩) 0 m)
 have bS:=Boxed.new (w1.alloc (.cells #[.slice (some ⟨w.heap.size,0,none⟩) 0 m] 86)) 9 (.string s)
 rw [World.size_alloc] at bS
 have hsz1:w.heap.size≤w1.heap.size:=hgrow.size
 have hB0:Below w.heap.size w ((w1.alloc (.cells #[.slice (some ⟨w.heap.size,0,none⟩) 0 m] 86)).alloc (.cells #[.string s] 9)) :=
  (((Below.refl _ w).grown hgrow (Nat.le_refl _) (fun k e=>by cases e)).alloc hsz1 _).alloc (by simp;omega) _
 refine wpIn_rangeFunc_ownG rfl (by omega) (gf:=138) (lb := #[.pointer (some ⟨w1.heap.size+1,0,none⟩)]) rfl trivial (enters_of Tryz.func138 (by kernel_rfl) rfl)
  (ls (9 - 1) (by omega) (w1.heap.size+1) s hs HD.out _ (by simp) bS.cell) KpS.t KpS.b (Below.refl _ _) (fun _=>rfl)
  (fun pre W=>((∃ v,Boxed W w1.heap.size 86 v∧W.ownsRow w.heap.size 82 1 v (gR pre).length (aj (gR pre))∧True)∧Boxed W (w1.heap.size+1) 9 (.string s))∧Below w.heap.size w W)
  (fun _ _ _=>False)
  (OwnFrom.and (OwnFrom.and (Own.from (holdsRow_own w.heap.size w1.heap.size 86 82 1 (fun pre=>(gR pre).length) (fun pre=>aj (gR pre)) (fun _ _=>True)) _) (Own.from (boxed_own (w1.heap.size+1) 9 (fun _ => .string s)) _)) (ownFrom_below (Nat.le_refl _) (by simp;omega)))
  (fun _ _ _ _ _ hs _ _=>hs)
  ⟨⟨⟨_,bO.alloc _,(hown.alloc _).alloc _,trivial⟩,bS⟩,hB0⟩
  (fun x=>{ tmps := #[.string s,undef,.slice none 0 0,.pointer (some ⟨w1.heap.size,0,none⟩),.int .u64 (x.1:Nat),.string s,.int .i64 s.size,.int .i64 ((s.size:Int) / 9),.int .i64 ((s.size:Int) / 9+1),.slice (some ⟨w.heap.size,0,none⟩) 0 m,.string s,.func (.func 138) #[] #[.pointer (some ⟨w1.heap.size+1,0,none⟩)],.int .u64 (x.1:Nat),undef,undef,undef,undef,undef,undef],defers := [] }) ?assign ?body ?done ?stop
 case assign =>
  clear hown bO bS hB0 hgrow
  intro l x W K hK
  gi_wp2
  exact hK
 case body =>
  clear hown bO bS hB0 hgrow
  rintro l pre x W ⟨⟨⟨v,hv,hrow,_⟩,hS⟩,hB⟩ hlt
  have hc:=hv.cell
  have hp:=mZ pre
  have HP:=Ha hp;clear hp
  have hpl:(gR pre).length≤1000000:=by rw [HP.out];omega
  obtain ⟨hi,hz0,hz1,hz2⟩:=HI.out
  gi_wp2_with (gi_at_builtin;refine wpListIn_append_own _ rfl _ _ 86 rfl w.heap.size 82 i0 (.int .u64 0) 1 8 Tryz.underlying86 hi hz0 hz1 hz2 rfl (by decide) _ _ _ rfl (hrow.alloc _) ⟨W.heap.size,0,none⟩ 1 1 [.int .u64 (x.1:Nat)] rfl rfl (cell_one_new _ _ _) (by simp [Value.oneCell']) (by unfold maxLen;omega) (by omega) (by have:=hB.size;simp;omega) ?_;intro v' w2 hown' hgrow _;obtain ⟨g',cap',rfl⟩:=ownsRow_succ hown';obtain ⟨hv1,hv2,hr2,hk2,hb2⟩:=hv.appended (by decide) hrow hB.size hsz1 hown' hgrow;have hS2:=(hS.alloc _).kept hgrow (hS.not_row (by decide) hrow);have hc1:=hv1.cell;have hf1:=hv1.frozen)
  have hS3:=hS2.other (B':=w1.heap.size) (by omega) (.slice (some ⟨g',0,none⟩) ((gR pre).length+1) cap')
  refine ⟨hk2.from _,fun _=>hS3.cell,⟨⟨_,hv2,?_,trivial⟩,hS3⟩,hB.trans hb2⟩
  rw [qX,←bJ,List.length_append,List.length_singleton]
  exact hr2
 case done =>
  clear hown bO bS hB0 hgrow
  rintro D ys W hD rfl ⟨⟨⟨v,hv,hrow,_⟩,hS⟩,hB⟩ hK
  have hc:=hv.cell
  have hN:=bI hrow
  have ct:=vu v (gR (rd s.data.toList)) W w.heap.size hrow (ue _)
  rw [HV.out] at ct
  have CT:=Ha ct;clear ct hN
  gi_wp2_with fail
  refine ⟨trivial,?_⟩
  refine (callsIn_wide.2 CT.out).mono ?_
  clear CT
  rintro e w' ⟨rfl,v',rfl,hN',ho,hoo⟩
  have HOO:=Ha hoo;clear hoo
  have HN:=Ha hN';clear hN'
  have HO:=Ha ho;clear ho
  gi_wp2
  refine ⟨by simp,.inl ⟨_,_,rfl,run_takeDeferred hK,?_⟩⟩
  exact ⟨_,results_tmp rfl _ _ _,v',rfl,HN.out.putObj hK rfl,fun k hk=>by rw [HO.out] at hk;exact (hrow.lt k hk).1,hB.trans (belowK_b (w:=w) (Nat.le_refl _) W D _ _ (by simp at hD;omega) hK rfl rfl),fun h0=>by obtain ⟨g,cap,e1,e2,e3⟩:=HOO.out h0;exact ⟨g,cap,e1,e2,e3.putObj hK rfl⟩⟩
 case stop =>
  rintro D c pre W _ _ h _
  exact h.elim
end
theorem nK (v:Value) (la:List Nat) (b:Nat) (w:World) (ha:Nats w v la) (da:Dig la) (hla:la.length≤1000000) (hb0:0<b) (hb:b<1000000000) :
  Calls Tryz.prog 135 #[v,.int .u64 b] w fun e W'=>∃ q,e = .returned (.tuple #[q,.int .u64 (toN la % b:Nat)])∧IsNat W' q (toN la / b)∧Fresh w.heap.size q∧Below w.heap.size w W'∧OwnR W' w.heap.size q (toN la / b):=by
 obtain ⟨pa,capa,rfl,ha1,ha2,ha3⟩:=ha
 have HA:=Ha ha3;clear ha3
 obtain ⟨i0,hi,hz0,hz1,hz2⟩:=info_parts dF
 have HI:=Ha (Hb hi (Hb hz0 (Hb hz1 hz2)));clear hi hz0 hz1 hz2
 have HD:=Ha da;clear da
 have hne:((b:Int)==0)=false:=by rw [beq_eq_false_iff_ne];omega
 have hne2:¬ (b:Int)=0:=by omega
 go_enter Tryz.func135,Tryz.ntmps135
 go_wp2_with (at_make;refine wpList_make_full _ rfl _ _ 86 rfl w.heap.size 82 i0 (.int .u64 0) 1 Tryz.underlying86 HI.out.1 HI.out.2.1 HI.out.2.2.1 .i64 .i64 _ _ (la.length) rfl rfl (by omega) (by omega) (by rw [HI.out.2.2.2];omega) (by unfold maxLen;omega) (Nat.le_refl _) ?_;intro w1 hown hgrow)
 have hrow:=Row.of_made hown
 have hB1:Below w.heap.size w w1:=(Below.refl _ w).grown hgrow (Nat.le_refl _) (fun k e=>by cases e)
 have hgl:=hrow.lt
 clear hown hgrow
 generalize hg:w.heap.size=g at *
 have HG:=Ha hg;clear hg
 go_loopw [7,8] (fun y x wr=>∃ (r j:Nat) (o:List Nat),j≤la.length∧x = .int .i64 ((j:Int) - 1)∧y = .int .u64 r∧r<b∧Row wr g o∧o.length=la.length∧Hid (Dig o)∧Hid (toN (la.drop j)=b*toN (o.drop j)+r)∧Below g w wr)
  (fun _ x _=>(intOf x+1).toNat)
 case atStart =>
  exact ⟨0,la.length,List.replicate la.length 0,Nat.le_refl _,by go_num,rfl,hb0,hrow,List.length_replicate,Dig.replicate _,by show toN _=_;rw [List.drop_length,List.drop_eq_nil_of_le (by rw [List.length_replicate];exact Nat.le_refl _)];simp [toN],hB1⟩
 case round =>
  clear hrow hB1 hgl
  obtain ⟨r,j,o,hj,rfl,rfl,hr,hrow,hlen,hdig,hval,hbel⟩:=hrel
  cases j with
  | zero =>
   have hv:toN la=b*toN o+r:=hval.out
   have hq:toN la / b=toN o:=by rw [hv,Nat.mul_add_div hb0,Nat.div_eq_of_lt hr,Nat.add_zero]
   have hm:toN la % b=r:=by rw [hv,Nat.mul_add_mod,Nat.mod_eq_of_lt hr]
   have hN0:Nats wr (.slice (some ⟨g,0,none⟩) o.length la.length) o:=hrow.nats (by omega) (by omega)
   have ct:=bE _ _ o wr hN0 hdig.out
   have hn:=hN0.take (aO hdig.out)
   rw [hlen] at ct
   rw [←hq] at ct hn
   have HRO:=Ha (show RowO wr g la.length (dg (toN la / b)) by rw [hq];exact (by have h:=(Row.rowO hrow (by unfold maxLen;omega)).pre (aO hdig.out);rwa [hlen] at h))
   have HM:=Ha hm
   have CT:=Ha ct
   have HN:=Ha hn
   have HBL:=Ha hbel
   clear hval ct hn hv hN0 hm hq hbel hrow
   go_wp2_with fail
   refine CT.out.mono ?_
   clear CT
   rintro e w' ⟨rfl,rfl⟩
   go_wp2
   go_ret2
   refine ⟨.slice (some ⟨g,0,none⟩) (dg (toN la / b)).length la.length,?_,HN.out,fun k hk=>by cases hk;exact Nat.le_of_eq HG.out,by rw [HG.out];exact HBL.out,⟨g,la.length,rfl,Nat.le_of_eq HG.out,HRO.out⟩⟩
   show Ending.returned (.tuple #[.slice (some ⟨g,0,none⟩) (dg (toN la / b)).length la.length,.int .u64 (r:Nat)])=_
   rw [HM.out]
  | succ j =>
   obtain ⟨ab,aoff,rfl,hca⟩:=HA.out (by intro e;subst e;simp at hj)
   have ca0:=hca j (by omega)
   have cax:wr.cell? ⟨ab,aoff+j,none⟩=some (.int .u64 (la.getD j 0:Nat)):=(hbel.cell (p:=⟨ab,aoff+j,none⟩) (by rw [←HG.out];exact World.block_lt_of_cell? w _ ca0)).trans ca0
   clear ca0 hca
   have co:=hrow.cell (i:=j) (by omega)
   have fo:=hrow.frozen j
   have hst:=lJ (la:=la) (o:=o) (b:=b) (r:=r) (j:=j) (by omega) hlen hval.out
   have hx:=HD.out.getD j
   have hbd:=s8 hb0 hb hr hx
   have R3:=hrow.set j ((r*1000000000+la.getD j 0) / b)
   generalize la.getD j 0=x at *
   have HS:=Ha (Hb hst (Hb hbd R3))
   clear hst hbd R3 hval
   have hr':(r:Int)≤999999998:=by omega
   go_wp2
   have ht:(r:Int)*1000000000+(x:Int)=((r*1000000000+x:Nat):Int):=by rw [Int.natCast_add,Int.natCast_mul];rfl
   rw [ht]
   clear ht
   obtain ⟨t,ht⟩:∃ t,r*1000000000+x=t:=⟨_,rfl⟩
   rw [ht] at HS
   rw [ht]
   have q1:((t / b:Nat):Int)=(t:Int) / (b:Int):=Int.natCast_ediv _ _
   have q2:((t % b:Nat):Int)=(t:Int) % (b:Int):=Int.natCast_emod _ _
   have hq:t / b<1000000000:=HS.out.2.1.1
   have hm:t % b<b:=HS.out.2.1.2.1
   have ht1:t<1000000000000000000:=HS.out.2.1.2.2
   have w1:0≤(t:Int) / (b:Int):=Int.ediv_nonneg (by omega) (by omega)
   have w2:(t:Int) / (b:Int)≤999999999:=by rw [←q1];clear q1 q2;generalize t / b=qq at hq;omega
   have hb1:¬ b=0:=by omega
   have Q:=Ha (Hb q1 q2)
   clear q1 q2 ht hr' hq hm
   have hjl:(j:Int)<(la.length:Int):=by omega
   go_region_held3 (fun w'=>w'.frozen? ⟨g,j,none⟩=false) (go_keep) (fail)
   rw [←Q.out.1]
   go_wp2
   go_roundw
   case rel =>
    obtain ⟨s1,⟨s2,s3,_⟩,s4⟩:=HS.out
    refine ⟨t % b,j,o.set j (t / b),by omega,by go_num,by rw [Q.out.2];first | done | rfl | (rw [Int.tmod_eq_emod_of_nonneg (by omega)]),s3,s4,by rw [List.length_set];exact hlen,hdig.out.set _ s2,s1,?_⟩
    exact (hbel.setCell (p:=⟨g,j,none⟩) (Nat.le_refl _) _).drew
   case measure=>simp [intOf]
theorem qc (va vb:Value) (a b n m:Nat) (w:World) (ha:IsNat w va a) (hb:IsNat w vb b) (hla:(dg a).length=m+(n+2)) (hlb:(dg b).length=n+2) (hm:m+(n+2)≤900000) :
  Calls Tryz.prog 136 #[va,vb] w fun e W'=>∃ q r,e = .returned (.tuple #[q,r])∧IsNat W' q (a / b)∧IsNat W' r (a % b)∧Fresh w.heap.size q∧Fresh w.heap.size r∧Below w.heap.size w W'∧OwnR W' w.heap.size r (a % b):=by
 obtain ⟨i0,hi,hz0,hz1,hz2⟩:=info_parts dF
 have HI:=Ha (Hb hi (Hb hz0 (Hb hz1 hz2)));clear hi hz0 hz1 hz2
 have hv0:=lP hlb
 have hv:=(aB b).getD (n+1)
 have hsl:=p6 hlb
 have hs0:=mG hv
 have hs1:=ve hv0
 obtain ⟨pb,cb,evb⟩:=hb.shape
 subst evb
 obtain ⟨pa,ca,eva⟩:=ha.shape
 subst eva
 have cbx:∃ bb boff,pb=some ⟨bb,boff,none⟩∧w.cell? ⟨bb,boff+(n+1),none⟩=some (.int .u64 ((dg b).getD (n+1) 0:Nat)):=by
  obtain ⟨p',cap',he,h1,h2,h3⟩:=hb
  obtain ⟨bb,boff,e,hc⟩:=h3 (by intro e;rw [e] at hlb;simp at hlb)
  simp only [Value.slice.injEq] at he
  exact ⟨bb,boff,he.1.trans e,hc (n+1) (by omega)⟩
 obtain ⟨bb,boff,rfl,cbx⟩:=cbx
 obtain ⟨s,hs⟩:∃ s,1000000000 / ((dg b).getD (n+1) 0+1)=s:=⟨_,rfl⟩
 rw [hs] at hsl hs0 hs1
 have cm1:=fun W (h:Below w.heap.size w W)=>fY _ (dg a) s W (Nats.next ha h) (aB a) (by omega) hs1
 have cm2:=fun W (h:Below w.heap.size w W)=>fY _ (dg b) s W (Nats.next hb h) (aB b) (by omega) hs1
 rw [aE] at cm1 cm2
 have CM:=Ha (Hb cm1 cm2)
 have HS:=Ha (Hb hsl (Hb hs0 (Hb hs1 (Hb hla hlb))))
 generalize (dg b).getD (n+1) 0=v at *
 have eS:(1000000000:Int) / ((v:Int)+1)=(s:Int):=by rw [←hs];exact (Int.natCast_ediv _ _).symm
 have hv1:¬ (v:Int)+1=0:=by omega
 have hv2:(((v:Int)+1)==0)=false:=by rw [beq_eq_false_iff_ne];omega
 have hcb:n+2≤cb:=by obtain ⟨p',cap',he,h1,h2,h3⟩:=hb;simp only [Value.slice.injEq] at he;omega
 clear hs hsl cm1 cm2
 rw [hla,hlb] at CM ⊢
 obtain ⟨L,hL⟩:∃ L,n+2=L:=⟨_,rfl⟩
 obtain ⟨i1,hi1⟩:∃ i,n+1=i:=⟨_,rfl⟩
 rw [hL] at CM hcb ⊢
 rw [hi1] at cbx
 have hj1:(L:Int) - 1=(i1:Int):=by omega
 have x1:(i1:Int)<(L:Int):=by omega
 have HL:=Ha (Hb hL hi1)
 have hLm:m+L≤900000:=by omega
 clear hL hi1 hm ha hb hla hlb
 go_enter Tryz.func136,Tryz.ntmps136
 go_wp2_with fail
 rw [eS]
 clear eS hv1 hv2 cbx
 refine (CM.out.1 _ (Below.refl _ _)).mono ?_
 rintro e w1 ⟨g1,c1,l1,rfl,hc1,hc1',hg1,hr1,hd1,hl1,ht1,hB1⟩
 have hwg1:=hr1.lt
 have CM2:=Ha (CM.out.2 w1 hB1)
 have HR1:=Ha (Hb hr1 (Hb hd1 (Hb ht1 hB1)))
 have HL1:=Ha hl1
 rw [hl1] at hc1 ⊢
 clear CM hr1 hd1 ht1 hB1
 go_wp2_with fail
 refine CM2.out.mono ?_
 rintro e w2 ⟨g2,c2,l2,rfl,hc2,hc2',hg2,hr2,hd2,hl2,ht2,hB2⟩
 have hg12:g1<g2:=by omega
 have hN2:=hr2.nats hc2 (by unfold maxLen at hc2';omega)
 have ct:=bE _ _ l2 w2 hN2 hd2
 have hN2':=hN2.take (aO hd2)
 rw [ht2] at ct hN2'
 rw [HS.out.1] at ct hN2'
 rw [show n+1+1=L from HL.out.1] at ct hN2'
 have CT:=Ha ct
 have hw2:=hr2.lt
 have HR2:=Ha (Hb (HR1.out.1.next hB2 hwg1) (Hb hN2' (HR1.out.2.2.2.trans (hB2.mono HR1.out.2.2.2.size))))
 have hsz1:w.heap.size≤w2.heap.size:=HR2.out.2.2.size
 clear CM2 hr2 hd2 ht2 hB2 hN2 hN2' ct
 rw [hl2] at hc2 CT ⊢
 clear hl2 hl1
 go_wp2_with fail
 refine CT.out.mono ?_
 rintro e w' ⟨rfl,rfl⟩
 clear CT
 have hm1:(m:Int)+(L:Int) - (L:Int)+1=((m+1:Nat):Int):=by omega
 go_wp2_with (at_make;refine wpList_make_full _ rfl _ _ 86 rfl w2.heap.size 82 i0 (.int .u64 0) 1 Tryz.underlying86 HI.out.1 HI.out.2.1 HI.out.2.2.1 .i64 .i64 _ _ (m+1) rfl rfl (by omega) (by omega) (by rw [HI.out.2.2.2];omega) (by unfold maxLen;omega) (Nat.le_refl _) ?_;intro w3 hown hgrow)
 have hQ:=Row.of_made hown
 have hwg3:=hQ.lt
 have hB3:Below w2.heap.size w2 w3:=(Below.refl _ w2).grown hgrow (Nat.le_refl _) (fun k e=>by cases e)
 have hr3:=HR2.out.1.next hB3 (by omega)
 have hn3:=Nats.next HR2.out.2.1 hB3
 have hbw:=HR2.out.2.2.trans (hB3.mono hsz1)
 have hwg2:=hB3.size
 clear hown hgrow hB3 HR2
 generalize hg3:w2.heap.size=g3 at *
 have hs0':=HS.out.2.1
 have hdb:=aB (b*s)
 have hYl:=HS.out.1
 have hYtop:0<(dg (b*s)).getD (n+1) 0:=lP hYl
 have hst:toN (l1.drop (m+1))<b*s:=p7 (a:=a) (b:=b) (s:=s) (m:=m) (n:=n+1) (la:=m+L) (by
   have:=cO (aB a);rw [aE,HS.out.2.2.2.1,HL.out.1] at this;exact this)
  (by
   have hb0:b≠0:=fun e=>by have h:=HS.out.2.2.2.2;rw [e,aD] at h;simp at h
   obtain ⟨r,q1,q2,q3⟩:=gD b hb0
   rw [HS.out.2.2.2.2,show n+2 - 1=n+1 by omega] at q1 q2 q3
   have:=Nat.mul_le_mul_left (B ^ (n+1)) q2
   omega) hs0' HR1.out.2.2.1 HL1.out (by have:=HL.out.1;omega) (by omega)
 have hlen1:(l1.drop (m+1)).length=n+2:=by have h1:=HL1.out;have h2:=HL.out.1;rw [List.length_drop];omega
 have hat:Hid (a*s=toN (l1.take (m+1))+B ^ (m+1)*(toN (l1.drop (m+1))+b*s*toN ((List.replicate (m+1) 0).drop (m+1)))):=by
  show _=_
  rw [←HR1.out.2.2.1,show (List.replicate (m+1) 0).drop (m+1) = [] from List.drop_of_length_le (by rw [List.length_replicate];exact Nat.le_refl _)]
  rw [show toN []=0 from rfl,Nat.mul_zero (b*s),Nat.add_zero]
  have h:=bT (l1.take (m+1)) (l1.drop (m+1))
  rw [List.take_append_drop,List.length_take,Nat.min_eq_left (by have:=HL1.out;omega)] at h
  exact h
 have HST:=Ha (Hb hst (Hb hlen1 (Hb hYl hYtop)))
 clear hst hlen1 hYl hYtop
 have HD1:=Ha (Hb hr3 (Hb hn3 hbw))
 have HD2:=Ha hdb
 clear hr3 hn3 hbw hdb
 go_loopw [10] (fun x wr=>∃ (j:Nat) (A X Z Q:List Nat),j≤m+1∧x = .int .i64 ((j:Int) - 1)∧A.length=j∧X.length=n+2∧A.length+X.length+Z.length=m+L+1∧Hid (Dig A∧Dig X∧Dig Z)∧Hid (toN Z=0) ∧
   Hid (RowC wr g1 (A++(X++Z)))∧Row wr g3 Q∧Q.length=m+1∧Hid (Dig Q)∧Hid (Nats wr (.slice (some ⟨g2,0,none⟩) L c2) (dg (b*s))) ∧
   Hid (a*s=toN A+B ^ j*(toN X+b*s*toN (Q.drop j)))∧Hid (toN X<b*s)∧Hid (Below w.heap.size w wr))
  (fun x _=>(intOf x+1).toNat)
 case atStart =>
  refine ⟨m+1,l1.take (m+1),l1.drop (m+1),[],List.replicate (m+1) 0,Nat.le_refl _,by go_num,?_,HST.out.2.1,?_,⟨HR1.out.2.1.take _,HR1.out.2.1.drop _,Dig.nil⟩,rfl,?_,hQ,List.length_replicate,Dig.replicate _,HD1.out.2.1,hat.out,HST.out.1,HD1.out.2.2⟩
  ·rw [List.length_take];have:=HL1.out;omega
  ·rw [List.length_take,List.length_drop,HL1.out];simp;omega
  ·show RowC _ _ _
   rw [List.append_nil,List.take_append_drop];exact HD1.out.1
 case round =>
  clear hQ hat
  obtain ⟨j,A,X,Z,Q,hj,rfl,hAl,hXl,hAXZ,hdig,hZ0,hrow,hQ,hQl,hQd,hby,hval,hXb,hbel⟩:=hrel
  cases j with
  | zero =>
   have eA:A = []:=List.eq_nil_of_length_eq_zero hAl
   subst eA
   have hv:=hval.out
   rw [List.drop_zero,Nat.pow_zero,Nat.one_mul,show toN []=0 from rfl,Nat.zero_add] at hv
   have hq:a / b=toN Q:=by
    rw [←(dN a b s hs0).1,hv,Nat.add_mul_div_left _ _ (by have:=hXb.out;omega),Nat.div_eq_of_lt hXb.out,Nat.zero_add]
   have hr:a % b*s=toN X:=by
    rw [←(dN a b s hs0).2,hv,Nat.add_mul_mod_self_left,Nat.mod_eq_of_lt hXb.out]
   obtain ⟨_,dX,dZ⟩:=hdig.out
   have R0:=hrow.out
   rw [List.nil_append] at R0
   have hlXZ:(X++Z).length=m+L+1:=by rw [List.length_append];simp at hAXZ;omega
   have hN1:Nats wr (.slice (some ⟨g1,0,none⟩) (X++Z).length c1) (X++Z):=R0.nats (by omega) (by unfold maxLen at hc1';omega)
   have eXZ:toN (X++Z)=a % b*s:=by rw [bT,hZ0.out,Nat.mul_zero,Nat.add_zero,hr]
   have ct1:=bE _ _ (X++Z) wr hN1 (dX.append dZ)
   have hN2:=hN1.take (aO (dX.append dZ))
   rw [eXZ] at ct1 hN2
   rw [hlXZ] at ct1
   have hl3:(dg (a % b*s)).length≤1000000:=by
    have:=(aO (dX.append dZ)).length_le
    rw [eXZ] at this;omega
   have cd:=nK _ (dg (a % b*s)) s wr hN2 (aB _) hl3 hs0 hs1
   rw [aE,Nat.mul_div_cancel _ (by omega)] at cd
   have CT1:=Ha ct1
   have CD:=Ha cd
   have HQ:=Ha (Hb hQ (Hb hq hQl))
   clear ct1 cd hv hq hr R0 hlXZ hN1 hN2 eXZ hl3 dX dZ hQ hrow hval hXb hby hdig hZ0 hAXZ
   generalize (dg (a % b*s)).length=l3 at *
   go_wp2_with fail
   refine CT1.out.mono ?_
   rintro e w' ⟨rfl,rfl⟩
   clear CT1
   go_wp2_with fail
   refine CD.out.mono ?_
   rintro e w4 ⟨r,rfl,hr,hrf,hrb,hro⟩
   obtain ⟨pr,cr,rfl⟩:=hr.shape
   have HRO:=Ha (OwnR.mono hro hbel.out.size)
   clear hro
   have hQ4:Row w4 g3 Q:=(hrb.block g3 HQ.out.1.lt).trans HQ.out.1
   have hN0:Nats w4 (.slice (some ⟨g3,0,none⟩) Q.length (m+1)) Q:=hQ4.nats (by omega) (by omega)
   have ct:=bE _ _ Q w4 hN0 hQd.out
   have hn:=hN0.take (aO hQd.out)
   rw [hQl,←HQ.out.2.1] at ct
   rw [←HQ.out.2.1] at hn
   have CT:=Ha ct
   have HN:=Ha (Hb hn (Hb hr (Hb hrf (hbel.out.trans (hrb.mono hbel.out.size)))))
   have hfr:=hbel.out.size
   clear CD ct hn hr hrf hrb hQ4 hN0
   go_wp2_with fail
   refine CT.out.mono ?_
   rintro e w' ⟨rfl,rfl⟩
   clear CT
   go_wp2
   go_ret2
   obtain ⟨n1,n2,n3,n4⟩:=HN.out
   exact ⟨_,_,rfl,n1,n2,fun k hk=>by have hk:some g3=some k:=hk;cases hk;omega,n3.mono hfr,n4,HRO.out⟩
  | succ j =>
   obtain ⟨A',x,rfl⟩:∃ A' x,A=A' ++ [x]:=by
    have:=bj A j (by omega)
    rw [List.take_of_length_le (by omega)] at this
    exact ⟨_,_,this⟩
   obtain ⟨X0,top,rfl⟩:∃ X0 top,X=X0 ++ [top]:=by
    have:=bj X (n+1) (by omega)
    rw [List.take_of_length_le (by omega)] at this
    exact ⟨_,_,this⟩
   have hAl':A'.length=j:=by simpa using hAl
   have hXl':X0.length=n+1:=by simpa using hXl
   obtain ⟨dA,dX,dZ⟩:=hdig.out
   have hx:x<1000000000:=dA x (by simp)
   have htop:top<1000000000:=dX top (by simp)
   have dX0:Dig (x::X0):=Dig.cons hx (fun y hy=>dX y (by simp [hy]))
   have dA':Dig A':=fun y hy=>dA y (by simp [hy])
   have R0:=hrow.out
   rw [show A' ++ [x]++(X0 ++ [top]++Z)=A'++((x::X0)++(top::Z)) by simp] at R0
   have eW:toN (x::X0)+B ^ (n+2)*top=x+B*toN (X0 ++ [top]):=by
    rw [iv,aW,hXl',Nat.mul_add,←Nat.mul_assoc,Nat.mul_comm B (B ^ (n+1)),←Nat.pow_succ,Nat.add_assoc]
   have hlt:x+B*toN (X0 ++ [top])<B*(b*s):=by
    have h1:B*(toN (X0 ++ [top])+1)≤B*(b*s):=Nat.mul_le_mul_left _ hXb.out
    rw [Nat.mul_add,Nat.mul_one] at h1
    have:x<B:=hx
    omega
   have ct:=np g1 n (c1 - j) top _ A' (x::X0) Z (dg (b*s)) wr R0 hby.out dX0 HD2.out htop (by simp [hXl']) HST.out.2.2.1 (by have:=HL.out.1;omega) (by omega) (by omega) (by unfold maxLen at hc1';omega)
    (by intro e;have e:some g2=some g1:=e;simp at e;omega) HST.out.2.2.2 (by rw [eW,aE];exact hlt)
   rw [eW,aE,hAl',show n+3=L+1 by have:=HL.out.1;omega] at ct
   have CT:=Ha ct
   clear ct R0
   have ej:(((j+1:Nat):Int) - 1)=(j:Int):=by omega
   rw [ej]
   clear ej
   go_wp2_with fail
   rw [show j+L+1 - j=L+1 by omega]
   refine CT.out.mono ?_
   rintro e w4 ⟨X',dX',lX',vX',rfl,hr',ho⟩
   have hQ4:Row w4 g3 Q:=(ho.block g3 (by omega) hQ.lt).trans hQ
   have co:=hQ4.cell (i:=j) (by omega)
   have fo:=hQ4.frozen j
   have hq:(x+B*toN (X0 ++ [top])) / (b*s)<1000000000:=by
    rw [Nat.div_lt_iff_lt_mul (by have:=hXb.out;omega)];exact hlt
   have HF:=Ha (Hb dX' (Hb lX' (Hb vX' (Hb hr' ho))))
   have HE:=Ha (Hb hq hQ4)
   clear CT dX' lX' vX' hr' ho hQ hlt eW
   have hQn:=hQl
   have hvn:a*s=toN A'+B ^ j*x+B ^ j*B*(toN (X0 ++ [top])+b*s*toN (Q.drop (j+1))):=by
    have:=hval.out
    rw [aW,hAl',Nat.pow_succ] at this
    exact this
   have HV:=Ha (Hb (rD hvn) (Hb dA' (Hb dZ (Hb hXb.out (Hb hby.out hbel.out)))))
   have HZ:=Ha hZ0.out
   clear hvn hval dA' dZ hXb hby hbel hdig dA dX dX0 hrow hXl hAl
   generalize Q.getD j 0=q0 at *
   generalize eW:(x+B*toN (X0 ++ [top])) / (b*s)=qj at *
   generalize eM:(x+B*toN (X0 ++ [top])) % (b*s)=rj at *
   have HEM:=Ha eM
   clear eW eM
   have RQ:=Ha (HE.out.2.set j qj)
   go_wp2
   go_roundw
   case rel =>
    obtain ⟨dX',lX',vX',hr',ho⟩:=HF.out
    obtain ⟨h1,dA',dZ,hXb,hby,hbel⟩:=HV.out
    have ho2:Below w.heap.size w w4:=ho.below hbel (by omega) hbel.size
    have hw4:=ho2.size
    refine ⟨j,A',X',0::Z,Q.set j qj,by omega,by go_num,hAl',lX',?_,⟨dA',dX',Dig.cons (by decide) dZ⟩,?_,?_,RQ.out,by rw [List.length_set];exact hQl,hQd.out.set _ HE.out.1,?_,?_,?_,ho2.setCell (p:=⟨g3,j,none⟩) (by show _≤g3;omega) _⟩
    ·simp at hAXZ ⊢; omega
    ·show toN (0::Z)=0
     rw [iv,HZ.out,Nat.mul_zero]
    ·exact hr'.of_block (Below.heap_setCell _ _ _ _ (by show g1≠g3;omega))
    ·have h2:=ho.nats (by intro e;have e:some g2=some g1:=e;simp at e;omega) hby
     exact h2.setCell_off (by intro e;have e:some g2=some g3:=e;simp at e;omega) _
    ·show a*s=_
     rw [jC (by omega),iv,vX'];exact h1
    ·show toN X'<b*s
     rw [vX',←HEM.out];exact Nat.mod_lt _ (by omega)
   case measure=>simp [intOf]
theorem qe (va vb:Value) (a b:Nat) (w:World) (ha:IsNat w va a) (hb:IsNat w vb b) (h0:b≠0) (hla:(dg a).length≤900000) (hba:b≤a) (hl2:2≤(dg b).length) :
  Calls Tryz.prog 90 #[va,vb] w fun e W'=>∃ q r,e = .returned (.tuple #[q,r])∧IsNat W' q (a / b)∧IsNat W' r (a % b)∧Below w.heap.size w W'∧OwnR W' w.heap.size r (a % b):=by
 have cc:=fS va vb a b w ha hb
 have hlt:¬ a<b:=by omega
 have hl:¬ (dg b).length=1:=by omega
 have hcmp:¬ bM a b<0:=by
  unfold bM;rw [if_neg hlt];split <;> omega
 obtain ⟨c,hc⟩:∃ c,bM a b=c:=⟨_,rfl⟩
 rw [hc] at cc hcmp
 have CC:=Ha cc
 have hp:=cP h0
 have hle:=aZ (Nat.le_of_not_lt hlt)
 obtain ⟨n,hn⟩:∃ n,(dg b).length=n+2:=⟨(dg b).length - 2,by omega⟩
 obtain ⟨m,hm⟩:∃ m,(dg a).length=m+(n+2):=⟨(dg a).length - (n+2),by omega⟩
 have cd:=fun k=>qc va vb a b n m (w.drewN k) (ha.next (Below.drewK _ _ k)) (hb.next (Below.drewK _ _ k)) hm hn (by omega)
 have CD:=Ha cd
 obtain ⟨pa,ca,rfl⟩:=ha.shape
 obtain ⟨pb,cb,rfl⟩:=hb.shape
 have hne:(((dg b).length:Int)==1)=false:=by rw [beq_eq_false_iff_ne];omega
 clear cc cd ha hb hc hlt hp hle hm hn hla hba hl2 h0
 generalize (dg a).length=la at *
 generalize (dg b).length=lb at *
 go_enter Tryz.func90,Tryz.ntmps90
 go_wp2_with fail
 refine CC.out.mono ?_
 rintro e w' ⟨rfl,k,rfl⟩
 clear CC
 go_wp2_with fail
 refine (CD.out k).mono ?_
 rintro e w1 ⟨q,r,rfl,hq,hr,hqf,hrf,hqb,hro⟩
 obtain ⟨pq,cq,rfl⟩:=hq.shape
 obtain ⟨pr,cr,rfl⟩:=hr.shape
 have HRO:=Ha (show OwnR w1 w.heap.size _ _ from hro)
 clear hro
 have HQ:=Ha (Hb hq (Hb hr (Hb hqf (Hb hrf ((Below.drewK _ w k).trans hqb)))))
 clear hq hr hqf hrf hqb CD
 generalize (dg (a / b)).length=lq at *
 go_wp2
 go_ret2
 obtain ⟨q1,q2,q3,q4,q5⟩:=HQ.out
 exact ⟨_,_,rfl,q1,q2,q5,HRO.out⟩
end
end Go.Proofs.YtbhbhlfkdlfimaaGreatDoor
