/- Parts of the proof of the text YtjdomibbaemdnaaGreatDoorZK42. -/
import Derived.Test.YtjdomibbaemdnaaGreatDoorZK1
import Derived.Test.YtjdomibbaemdnaaGreatDoorZK24
import Derived.Test.YtjdomibbaemdnaaGreatDoorZK35
set_option linter.all false
set_option maxRecDepth 100000
set_option maxHeartbeats 8000000
namespace Go.Proofs.YtjdomibbaemdnaaGreatDoor
open Go.RowKit
theorem jx {z:Int} (h:z<0):(aa z).data.toList=45::Lib.decDigits z.natAbs:=by
 rw [ay];unfold Lib.itoa;rw [if_pos h]
theorem ip {z:Int} (h:z<0):(aa z).extract 1 (aa z).size=aa (-z):=by
 apply aY
 rw [Lib.extract_data,List.take_of_length_le (by rw [List.length_drop,ac];omega),jx h,ay]
 unfold Lib.itoa
 rw [if_neg (by omega),show (-z).toNat=z.natAbs by omega];rfl
theorem jk (z:Int) (hp:0<(aa z).size):(((aa z)[0].toNat:Int)==45)=decide (z<0):=by
 rw [bF hp,ay,a6]
theorem nv {z:Int} (h:short z) (h0:0≤z):(aa z).size≤300:=by
 have h1:=bX (z:=z) h
 have hn:ap (aa z).data.toList=false:=by rw [ay,a6];exact decide_eq_false (by omega)
 have h2:=kL (l:=(aa z).data.toList) (by rw [h1];rfl)
 rw [h1,a8 hn,ac] at h2
 by_cases q:300<(aa z).size
 ·rw [if_pos q] at h2;cases h2
 ·omega
theorem oM (n0 d0:ByteArray) (N D:Int) (w:World) (pn:0<n0.size) (pd:0<d0.size) (zn:n0.size≤1000) (hN:short N) (hD:short D) (hD0:0<D) (ht:Tab w)
  (hP:(((d0[0].toNat:Int)==45)=false∧n0=aa N∧d0=aa D)∨(((d0[0].toNat:Int)==45)=true∧d0.extract 1 d0.size=aa D∧((((n0[0].toNat:Int)==45)=true∧n0.extract 1 n0.size=aa N)∨(((n0[0].toNat:Int)==45)=false∧(n0.toList == [48])=true∧n0=aa N)∨(((n0[0].toNat:Int)==45)=false∧(n0.toList == [48])=false∧⟨#[45]⟩++n0=aa N)))) :
  Calls Tryz.prog 99 #[.string n0,.string d0] w fun e W'=>e = .returned (.tuple #[.string (ah (Rat.divInt N D)),.int .i64 0])∧Below w.heap.size w W':=by
 have pn':(0:Int)<n0.size:=by omega
 have pd':(0:Int)<d0.size:=by omega
 have qn:=j8 N
 have qn':(0:Int)<(aa N).size:=by omega
 have hm:=jk N qn
 by_cases hs:(aa N).size≤18∧(aa D).size≤18
 ·have hd18:D<1000000000000000000:=by
   have:=kz (k:=D.toNat) (j:=18) (by rw [show ((D.toNat:Nat):Int)=D by omega];exact hs.2)
   unfold aO at this;omega
  have cy:=fun W=>ky D.toNat W (by rw [show ((D.toNat:Nat):Int)=D by omega];exact hs.2)
  rw [show ((D.toNat:Nat):Int)=D by omega] at cy
  by_cases h:N<0
  ·rw [decide_eq_true h] at hm
   have e:=ip h
   have sz:(aa (N.natAbs:Int)).size≤17:=by
    have h1:=jx h
    have h2:=congrArg List.length h1
    rw [ac,List.length_cons] at h2
    have h3:(aa (N.natAbs:Int)).size=(Lib.decDigits N.natAbs).length:=by
     rw [←ac,ay];unfold Lib.itoa;rw [if_neg (by omega)];rfl
    omega
   have hn17:=kz (j:=17) sz
   have cx:=fun W=>ky N.natAbs W (by omega)
   unfold aO at hn17
   have cq:=fun W (_:Below w.heap.size w W)=>jj N D W (by omega) hD0 (by omega)
   have c:=wT n0 d0 (aa N) (aa D) (aa (N.natAbs:Int)) N.natAbs D.toNat (ah (Rat.divInt N D)) w pn pn' pd pd' zn qn qn' hP (by omega) (by omega) hm (by rw [e,show -N=((N.natAbs:Nat):Int) by omega]) (by omega) cx
   rw [show ((D.toNat:Nat):Int)=D by omega,show -((N.natAbs:Nat):Int)=N by omega] at c
   exact c cy cq
  ·rw [decide_eq_false h] at hm
   have hn18:=kz (k:=N.toNat) (j:=18) (by rw [show ((N.toNat:Nat):Int)=N by omega];exact hs.1)
   unfold aO at hn18
   have cx:=fun W=>ky N.toNat W (by rw [show ((N.toNat:Nat):Int)=N by omega];exact hs.1)
   rw [show ((N.toNat:Nat):Int)=N by omega] at cx
   have cq:=fun W (_:Below w.heap.size w W)=>jj N D W (by omega) hD0 (by omega)
   have c:=wS n0 d0 (aa N) (aa D) N.toNat D.toNat (ah (Rat.divInt N D)) w pn pn' pd pd' zn qn qn' hP (by omega) (by omega) hm
   rw [show ((D.toNat:Nat):Int)=D by omega,show ((N.toNat:Nat):Int)=N by omega] at c
   exact c cx cy cq
 ·have hgp:=j2 (n:=N) (d:=D) (by omega)
  have hgs:=ic hN hD
  have cg:=fun W (h:Below w.heap.size w W)=>wR N D W hN hD (ht.next h)
  have ca:=fun W (h:Below w.heap.size w W)=>nt N (aE N D) W hN hgs (by omega) (ht.next h)
  have cb:=fun W (h:Below w.heap.size w W)=>nt D (aE N D) W hD hgs (by omega) (ht.next h)
  have sa:=dW (y:=aE N D) hN (by omega)
  have sb:=dW (y:=aE N D) hD (by omega)
  have hb0:0≤D.fdiv (aE N D):=by rw [Int.fdiv_eq_ediv_of_nonneg _ (by omega)];exact Int.ediv_nonneg (by omega) (by omega)
  have hr:=zF (n:=N) hD0
  rw [←hr]
  have pa:=j8 (N.fdiv (aE N D))
  have za:=aG sa
  have zb:=nv sb hb0
  have hma:=jk (N.fdiv (aE N D)) pa
  have h1:((aa (D.fdiv (aE N D))).toList == [49])=decide (D.fdiv (aE N D)=1):=nm _
  have hl:¬ ((aa N).size:Int)≤18∨(((aa N).size:Int)≤18∧¬ ((aa D).size:Int)≤18):=by omega
  clear hr hs
  generalize N.fdiv (aE N D)=a at *
  generalize D.fdiv (aE N D)=b at *
  have hT:dc a b=if b=1 then aa a else aa a++⟨#[47]⟩++aa b:=by
   unfold dc mQ
   split
   ·rfl
   ·exact ll _ _
  rw [hT]
  have na:a<0→¬ (300:Int)<(aa (-a)).size:=fun h=>by
   have:=nv (z := -a) (ft sa) (by omega)
   omega
  have na2:¬ a<0→¬ (300:Int)<(aa a).size:=fun h=>by
   have:=nv (z:=a) sa (by omega)
   omega
  by_cases ho:b=1
  ·rw [if_pos ho]
   rw [decide_eq_true ho] at h1
   by_cases h:a<0
   ·rw [decide_eq_true h] at hma
    rcases hl with hl | ⟨l1,l2⟩
    ·exact sS n0 d0 _ _ _ _ _ _ _ _ w pn pn' pd pd' zn qn qn' hP hl pa (by omega) (by omega) (by omega) hma (ip h) (na h) h1 cg ca cb
    ·exact sW n0 d0 _ _ _ _ _ _ _ _ w pn pn' pd pd' zn qn qn' hP l1 l2 pa (by omega) (by omega) (by omega) hma (ip h) (na h) h1 cg ca cb
   ·rw [decide_eq_false h] at hma
    rcases hl with hl | ⟨l1,l2⟩
    ·exact sQ n0 d0 _ _ _ _ _ _ _ w pn pn' pd pd' zn qn qn' hP hl pa (by omega) (by omega) (by omega) hma (na2 h) h1 cg ca cb
    ·exact sU n0 d0 _ _ _ _ _ _ _ w pn pn' pd pd' zn qn qn' hP l1 l2 pa (by omega) (by omega) (by omega) hma (na2 h) h1 cg ca cb
  ·rw [if_neg ho]
   rw [decide_eq_false ho] at h1
   by_cases h:a<0
   ·rw [decide_eq_true h] at hma
    rcases hl with hl | ⟨l1,l2⟩
    ·exact sR n0 d0 _ _ _ _ _ _ _ _ w pn pn' pd pd' zn qn qn' hP hl pa (by omega) (by omega) (by omega) hma (ip h) (na h) h1 cg ca cb
    ·exact sV n0 d0 _ _ _ _ _ _ _ _ w pn pn' pd pd' zn qn qn' hP l1 l2 pa (by omega) (by omega) (by omega) hma (ip h) (na h) h1 cg ca cb
   ·rw [decide_eq_false h] at hma
    rcases hl with hl | ⟨l1,l2⟩
    ·exact sP n0 d0 _ _ _ _ _ _ _ w pn pn' pd pd' zn qn qn' hP hl pa (by omega) (by omega) (by omega) hma (na2 h) h1 cg ca cb
    ·exact sT n0 d0 _ _ _ _ _ _ _ w pn pn' pd pd' zn qn qn' hP l1 l2 pa (by omega) (by omega) (by omega) hma (na2 h) h1 cg ca cb
theorem yL (n d:Int) (w:World) (hn:short n) (hd:short d) (h0:d≠0) (ht:Tab w) :
  Calls Tryz.prog 99 #[.string (aa n),.string (aa d)] w fun e W'=>e = .returned (.tuple #[.string (ah (Rat.divInt n d)),.int .i64 0])∧Below w.heap.size w W':=by
 have pn:=j8 n
 have pd:=j8 d
 have hm:=jk n pn
 have hk:=jk d pd
 have z0:((aa n).toList == [48])=decide (n=0):=by
  rw [←fI,j7]
  exact decide_eq_decide.2 Rat.intCast_eq_zero_iff
 rcases Int.lt_or_gt_of_ne h0 with h | h
 ·rw [decide_eq_true h] at hk
  rw [←Rat.neg_divInt_neg]
  refine oM _ _ (-n) (-d) w pn pd (lW hn) (ft hn) (ft hd) (by omega) ht (.inr ⟨hk,ip h,?_⟩)
  rcases Int.lt_trichotomy n 0 with q | q | q
  ·exact .inl ⟨by rw [hm];exact decide_eq_true q,ip q⟩
  ·exact .inr (.inl ⟨by rw [hm];exact decide_eq_false (by omega),by rw [z0];exact decide_eq_true q,by rw [q];rfl⟩)
  ·refine .inr (.inr ⟨by rw [hm];exact decide_eq_false (by omega),by rw [z0];exact decide_eq_false (by omega),?_⟩)
   have e:=pR (z := -n) (by omega)
   rwa [show (((-n).natAbs:Nat):Int)=n by omega] at e
 ·rw [decide_eq_false (show ¬ d<0 by omega)] at hk
  exact oM _ _ n d w pn pd (lW hn) hn hd (by omega) ht (.inl ⟨hk,rfl,rfl⟩)
theorem vd {x y:Int} (hx : -1000000000<x∧x<1000000000) (hy : -1000000000<y∧y<1000000000) : -1000000000000000000<x*y∧x*y<1000000000000000000:=by
 have h:(x*y).natAbs≤999999999*999999999:=by
  rw [Int.natAbs_mul];exact Nat.mul_le_mul (by omega) (by omega)
 omega
theorem sX (a b:ByteArray) (f:Int) (w:World) (n1:(f==0)=false) (n2:(f != 0)=true)
  (h1:CqB w 52 #[.string a] (.int .i64 f)) :
  Calls Tryz.prog 95 #[.string a,.string b] w fun e W'=>e = .returned (.int .i64 f)∧Below w.heap.size w W':=by
 have C:=Ha h1;clear h1
 have B0:=Ha (Below.refl w.heap.size w)
 go_enter Tryz.func95,Tryz.ntmps95
 go_wp2_with fail
 refine (C.out _ B0.out).mono ?_
 rintro e w1 ⟨rfl,b⟩
 have B1:=Ha (B0.out.trans (b.mono B0.out.size));clear b B0
 go_wp2
 go_ret
 exact ⟨rfl,B1.out⟩
theorem ve (a b:ByteArray) (f:Int) (w:World)
  (h1:CqB w 52 #[.string a] (.int .i64 0))
  (h2:CqB w 52 #[.string b] (.int .i64 f)) :
  Calls Tryz.prog 95 #[.string a,.string b] w fun e W'=>e = .returned (.int .i64 f)∧Below w.heap.size w W':=by
 have C:=Ha ((Hb h1 h2));clear h1 h2
 have B0:=Ha (Below.refl w.heap.size w)
 go_enter Tryz.func95,Tryz.ntmps95
 go_wp2_with fail
 refine (C.out.1 _ B0.out).mono ?_
 rintro e w1 ⟨rfl,b⟩
 have B1:=Ha (B0.out.trans (b.mono B0.out.size));clear b B0
 go_wp2_with fail
 refine (C.out.2 _ B1.out).mono ?_
 rintro e w2 ⟨rfl,b⟩
 have B2:=Ha (B1.out.trans (b.mono B1.out.size));clear b B1
 go_wp2
 go_ret
 exact ⟨rfl,B2.out⟩
theorem wU (a b:ByteArray) (f:Int) (w:World) (n1:(f==0)=false) (n2:(f != 0)=true)
  (h0:CqB w 95 #[.string a,.string b] (.int .i64 f)) :
  Calls Tryz.prog 69 #[.string a,.string b] w fun e W'=>e = .returned (.tuple #[.string ⟨#[]⟩,.int .i64 f])∧Below w.heap.size w W':=by
 have C:=Ha h0;clear h0
 have B0:=Ha (Below.refl w.heap.size w)
 go_enter Tryz.func69,Tryz.ntmps69
 go_wp2_with fail
 refine (C.out _ B0.out).mono ?_
 rintro e w1 ⟨rfl,b⟩
 have B1:=Ha (B0.out.trans (b.mono B0.out.size));clear b B0
 go_wp2
 go_ret2
 exact ⟨rfl,B1.out⟩
theorem Ao (n d m c x y:ByteArray) (f:Int) (w:World) (n1:(f==0)=false) (n2:(f != 0)=true)
  (h1:CqB w 144 #[.string n,.string m,.string d,.string c] (.tuple #[.string x,.string y,.int .i64 f])) :
  Calls Tryz.prog 125 #[.string n,.string d,.string m,.string c] w fun e W'=>e = .returned (.tuple #[.string ⟨#[]⟩,.int .i64 f])∧Below w.heap.size w W':=by
 have C:=Ha h1;clear h1
 have B0:=Ha (Below.refl w.heap.size w)
 go_enter Tryz.func125,Tryz.ntmps125
 go_wp2_with fail
 refine (C.out _ B0.out).mono ?_
 rintro e w1 ⟨rfl,b⟩
 have B1:=Ha (B0.out.trans (b.mono B0.out.size));clear b B0
 go_wp2
 go_ret2
 exact ⟨rfl,B1.out⟩
theorem yM (n d m c x y r:ByteArray) (f:Int) (w:World)
  (h1:CqB w 144 #[.string n,.string m,.string d,.string c] (.tuple #[.string x,.string y,.int .i64 0]))
  (h2:CqB w 99 #[.string x,.string y] (.tuple #[.string r,.int .i64 f])) :
  Calls Tryz.prog 125 #[.string n,.string d,.string m,.string c] w fun e W'=>e = .returned (.tuple #[.string r,.int .i64 f])∧Below w.heap.size w W':=by
 have C:=Ha ((Hb h1 h2));clear h1 h2
 have B0:=Ha (Below.refl w.heap.size w)
 go_enter Tryz.func125,Tryz.ntmps125
 go_wp2_with fail
 refine (C.out.1 _ B0.out).mono ?_
 rintro e w1 ⟨rfl,b⟩
 have B1:=Ha (B0.out.trans (b.mono B0.out.size));clear b B0
 go_wp2_with fail
 refine (C.out.2 _ B1.out).mono ?_
 rintro e w2 ⟨rfl,b⟩
 have B2:=Ha (B1.out.trans (b.mono B1.out.size));clear b B1
 go_wp2
 go_ret2
 exact ⟨rfl,B2.out⟩
theorem Ap (a b:ByteArray) (w:World) (hz:(b.toList == [48])=true)
  (h0:CqB w 95 #[.string a,.string b] (.int .i64 0)) :
  Calls Tryz.prog 69 #[.string a,.string b] w fun e W'=>e = .returned (.tuple #[.string ⟨#[]⟩,.int .i64 12])∧Below w.heap.size w W':=by
 have C:=Ha h0;clear h0
 have B0:=Ha (Below.refl w.heap.size w)
 go_enter Tryz.func69,Tryz.ntmps69
 go_wp2_with fail
 refine (C.out _ B0.out).mono ?_
 rintro e w1 ⟨rfl,b⟩
 have B1:=Ha (B0.out.trans (b.mono B0.out.size));clear b B0
 go_wp2
 go_ret2
 exact ⟨rfl,B1.out⟩
theorem yN (a b:ByteArray) (n d m c:Int) (r:ByteArray) (w:World) (hz:(b.toList == [48])=false) (hm0:0<m) (hn : -1000000000<n∧n<1000000000) (hd:0<d∧d<1000000000) (hm : -1000000000<m∧m<1000000000) (hc:0<c∧c<1000000000)
  (h0:CqB w 95 #[.string a,.string b] (.int .i64 0))
  (h1:CqB w 97 #[.string a] (.tuple #[.int .i64 n,.int .i64 d,.bool true]))
  (h2:CqB w 97 #[.string b] (.tuple #[.int .i64 m,.int .i64 c,.bool true]))
  (h3:CqB w 98 #[.int .i64 (n*c),.int .i64 (d*m)] (.string r)) :
  Calls Tryz.prog 69 #[.string a,.string b] w fun e W'=>e = .returned (.tuple #[.string r,.int .i64 0])∧Below w.heap.size w W':=by
 have z0:=vd (x:=n) (y:=c) ⟨by omega,by omega⟩ ⟨by omega,by omega⟩
 have z1:=vd (x:=d) (y:=m) ⟨by omega,by omega⟩ ⟨by omega,by omega⟩
 have C:=Ha ((Hb h0 (Hb h1 (Hb h2 h3))));clear h0 h1 h2 h3
 have B0:=Ha (Below.refl w.heap.size w)
 go_enter Tryz.func69,Tryz.ntmps69
 go_wp2_with fail
 refine (C.out.1 _ B0.out).mono ?_
 rintro e w1 ⟨rfl,b⟩
 have B1:=Ha (B0.out.trans (b.mono B0.out.size));clear b B0
 go_wp2_with fail
 refine (C.out.2.1 _ B1.out).mono ?_
 rintro e w2 ⟨rfl,b⟩
 have B2:=Ha (B1.out.trans (b.mono B1.out.size));clear b B1
 go_wp2_with fail
 refine (C.out.2.2.1 _ B2.out).mono ?_
 rintro e w3 ⟨rfl,b⟩
 have B3:=Ha (B2.out.trans (b.mono B2.out.size));clear b B2
 go_wp2_with fail
 refine (C.out.2.2.2 _ B3.out).mono ?_
 rintro e w4 ⟨rfl,b⟩
 have B4:=Ha (B3.out.trans (b.mono B3.out.size));clear b B3
 go_wp2
 go_ret2
 exact ⟨rfl,B4.out⟩
theorem yO (a b:ByteArray) (n d m c:Int) (r:ByteArray) (w:World) (hz:(b.toList == [48])=false) (hm0:m<0) (hn : -1000000000<n∧n<1000000000) (hd:0<d∧d<1000000000) (hm : -1000000000<m∧m<1000000000) (hc:0<c∧c<1000000000)
  (h0:CqB w 95 #[.string a,.string b] (.int .i64 0))
  (h1:CqB w 97 #[.string a] (.tuple #[.int .i64 n,.int .i64 d,.bool true]))
  (h2:CqB w 97 #[.string b] (.tuple #[.int .i64 m,.int .i64 c,.bool true]))
  (h3:CqB w 98 #[.int .i64 (n * -c),.int .i64 (d * -m)] (.string r)) :
  Calls Tryz.prog 69 #[.string a,.string b] w fun e W'=>e = .returned (.tuple #[.string r,.int .i64 0])∧Below w.heap.size w W':=by
 have z0:=vd (x:=n) (y := -c) ⟨by omega,by omega⟩ ⟨by omega,by omega⟩
 have z1:=vd (x:=d) (y := -m) ⟨by omega,by omega⟩ ⟨by omega,by omega⟩
 have C:=Ha ((Hb h0 (Hb h1 (Hb h2 h3))));clear h0 h1 h2 h3
 have B0:=Ha (Below.refl w.heap.size w)
 go_enter Tryz.func69,Tryz.ntmps69
 go_wp2_with fail
 refine (C.out.1 _ B0.out).mono ?_
 rintro e w1 ⟨rfl,b⟩
 have B1:=Ha (B0.out.trans (b.mono B0.out.size));clear b B0
 go_wp2_with fail
 refine (C.out.2.1 _ B1.out).mono ?_
 rintro e w2 ⟨rfl,b⟩
 have B2:=Ha (B1.out.trans (b.mono B1.out.size));clear b B1
 go_wp2_with fail
 refine (C.out.2.2.1 _ B2.out).mono ?_
 rintro e w3 ⟨rfl,b⟩
 have B3:=Ha (B2.out.trans (b.mono B2.out.size));clear b B2
 go_wp2_with fail
 refine (C.out.2.2.2 _ B3.out).mono ?_
 rintro e w4 ⟨rfl,b⟩
 have B4:=Ha (B3.out.trans (b.mono B3.out.size));clear b B3
 go_wp2
 go_ret2
 exact ⟨rfl,B4.out⟩
theorem yP (a b p q r s:ByteArray) (n d m c:Int) (k:Bool) (u:ByteArray) (f:Int) (w:World) (hz:(b.toList == [48])=false)
  (h0:CqB w 95 #[.string a,.string b] (.int .i64 0))
  (h1:CqB w 97 #[.string a] (.tuple #[.int .i64 n,.int .i64 d,.bool false]))
  (h2:CqB w 97 #[.string b] (.tuple #[.int .i64 m,.int .i64 c,.bool k]))
  (h3:CqB w 61 #[.string a] (.tuple #[.string p,.string q]))
  (h4:CqB w 61 #[.string b] (.tuple #[.string r,.string s]))
  (h5:CqB w 125 #[.string p,.string q,.string s,.string r] (.tuple #[.string u,.int .i64 f])) :
  Calls Tryz.prog 69 #[.string a,.string b] w fun e W'=>e = .returned (.tuple #[.string u,.int .i64 f])∧Below w.heap.size w W':=by
 have C:=Ha ((Hb h0 (Hb h1 (Hb h2 (Hb h3 (Hb h4 h5))))));clear h0 h1 h2 h3 h4 h5
 have B0:=Ha (Below.refl w.heap.size w)
 go_enter Tryz.func69,Tryz.ntmps69
 go_wp2_with fail
 refine (C.out.1 _ B0.out).mono ?_
 rintro e w1 ⟨rfl,b⟩
 have B1:=Ha (B0.out.trans (b.mono B0.out.size));clear b B0
 go_wp2_with fail
 refine (C.out.2.1 _ B1.out).mono ?_
 rintro e w2 ⟨rfl,b⟩
 have B2:=Ha (B1.out.trans (b.mono B1.out.size));clear b B1
 go_wp2_with fail
 refine (C.out.2.2.1 _ B2.out).mono ?_
 rintro e w3 ⟨rfl,b⟩
 have B3:=Ha (B2.out.trans (b.mono B2.out.size));clear b B2
 go_wp2_with fail
 refine (C.out.2.2.2.1 _ B3.out).mono ?_
 rintro e w4 ⟨rfl,b⟩
 have B4:=Ha (B3.out.trans (b.mono B3.out.size));clear b B3
 go_wp2_with fail
 refine (C.out.2.2.2.2.1 _ B4.out).mono ?_
 rintro e w5 ⟨rfl,b⟩
 have B5:=Ha (B4.out.trans (b.mono B4.out.size));clear b B4
 go_wp2_with fail
 refine (C.out.2.2.2.2.2 _ B5.out).mono ?_
 rintro e w6 ⟨rfl,b⟩
 have B6:=Ha (B5.out.trans (b.mono B5.out.size));clear b B5
 go_wp2
 go_ret2
 exact ⟨rfl,B6.out⟩
theorem yQ (a b p q r s:ByteArray) (n d m c:Int) (u:ByteArray) (f:Int) (w:World) (hz:(b.toList == [48])=false)
  (h0:CqB w 95 #[.string a,.string b] (.int .i64 0))
  (h1:CqB w 97 #[.string a] (.tuple #[.int .i64 n,.int .i64 d,.bool true]))
  (h2:CqB w 97 #[.string b] (.tuple #[.int .i64 m,.int .i64 c,.bool false]))
  (h3:CqB w 61 #[.string a] (.tuple #[.string p,.string q]))
  (h4:CqB w 61 #[.string b] (.tuple #[.string r,.string s]))
  (h5:CqB w 125 #[.string p,.string q,.string s,.string r] (.tuple #[.string u,.int .i64 f])) :
  Calls Tryz.prog 69 #[.string a,.string b] w fun e W'=>e = .returned (.tuple #[.string u,.int .i64 f])∧Below w.heap.size w W':=by
 have C:=Ha ((Hb h0 (Hb h1 (Hb h2 (Hb h3 (Hb h4 h5))))));clear h0 h1 h2 h3 h4 h5
 have B0:=Ha (Below.refl w.heap.size w)
 go_enter Tryz.func69,Tryz.ntmps69
 go_wp2_with fail
 refine (C.out.1 _ B0.out).mono ?_
 rintro e w1 ⟨rfl,b⟩
 have B1:=Ha (B0.out.trans (b.mono B0.out.size));clear b B0
 go_wp2_with fail
 refine (C.out.2.1 _ B1.out).mono ?_
 rintro e w2 ⟨rfl,b⟩
 have B2:=Ha (B1.out.trans (b.mono B1.out.size));clear b B1
 go_wp2_with fail
 refine (C.out.2.2.1 _ B2.out).mono ?_
 rintro e w3 ⟨rfl,b⟩
 have B3:=Ha (B2.out.trans (b.mono B2.out.size));clear b B2
 go_wp2_with fail
 refine (C.out.2.2.2.1 _ B3.out).mono ?_
 rintro e w4 ⟨rfl,b⟩
 have B4:=Ha (B3.out.trans (b.mono B3.out.size));clear b B3
 go_wp2_with fail
 refine (C.out.2.2.2.2.1 _ B4.out).mono ?_
 rintro e w5 ⟨rfl,b⟩
 have B5:=Ha (B4.out.trans (b.mono B4.out.size));clear b B4
 go_wp2_with fail
 refine (C.out.2.2.2.2.2 _ B5.out).mono ?_
 rintro e w6 ⟨rfl,b⟩
 have B6:=Ha (B5.out.trans (b.mono B5.out.size));clear b B5
 go_wp2
 go_ret2
 exact ⟨rfl,B6.out⟩
theorem mq {z:Int} (h : -1000000000000000000<z∧z<1000000000000000000):short z:=fi (by omega)
theorem zL {x:Rat} (h:inO x=true):(-1000000000<x.num∧x.num<1000000000)∧(0<(x.den:Int)∧(x.den:Int)<1000000000):=by
 obtain ⟨h1,h2⟩:=zK h
 have:=x.den_nz
 omega
theorem rA {x:Rat} (w:World) (hx:Sq x) (ho:inO x=true) :
  Calls Tryz.prog 97 #[.string (ah x)] w fun e w'=>e = .returned (.tuple #[.int .i64 x.num,.int .i64 (x.den:Int),.bool true])∧Below w.heap.size w w':=by
 have c:=sO x w hx
 rwa [ho,if_pos rfl,if_pos rfl] at c
theorem Br {z:Int} (h:¬ short z):LB (mkL z)=⟨#[]⟩∧LE (mkL z)=4:=by
 rw [show mkL z=none from if_neg h];exact ⟨rfl,rfl⟩
theorem pU {z:Int} (h:short z):LB (mkL z)=aa z∧LE (mkL z)=0:=by
 rw [fG h];exact ⟨rfl,rfl⟩
theorem pV (a b c d:Int) (w:World) (ha:short a) (hb:short b) (hc:short c) (hd:short d) (h1:short (a*b)) (h2:short (c*d)) (ht:Tab w) :
  Calls Tryz.prog 144 #[.string (aa a),.string (aa b),.string (aa c),.string (aa d)] w fun e W'=>e = .returned (.tuple #[.string (aa (a*b)),.string (aa (c*d)),.int .i64 0])∧Below w.heap.size w W':=by
 have k:=nu a b c d w ha hb hc hd ht
 rwa [if_pos h1,if_pos h1,if_pos h1,(pU h2).1,(pU h2).2] at k
def Bs (a b:Int):ByteArray:=if short (a*b) then aa (a*b) else ⟨#[]⟩
def Bt (a b c d:Int):ByteArray:=if short (a*b) then LB (mkL (c*d)) else ⟨#[]⟩
theorem pW (a b c d:Int) (w:World) (ha:short a) (hb:short b) (hc:short c) (hd:short d) (h:¬ (short (a*b)∧short (c*d))) (ht:Tab w) :
  Calls Tryz.prog 144 #[.string (aa a),.string (aa b),.string (aa c),.string (aa d)] w fun e W'=>e = .returned (.tuple #[.string (Bs a b),.string (Bt a b c d),.int .i64 4])∧Below w.heap.size w W':=by
 have k:=nu a b c d w ha hb hc hd ht
 have e:(if short (a*b) then LE (mkL (c*d)) else 4)=4:=by
  by_cases h1:short (a*b)
  ·rw [if_pos h1,(Br (fun q=>h ⟨h1,q⟩)).2]
  ·rw [if_neg h1]
 rwa [e] at k
theorem kB {n d:Int} (h1:short n) (h2:short d):nO n d=ah (Rat.divInt n d)∧nP n d=0:=by
 unfold nO nP;rw [if_pos ⟨h1,h2⟩,if_pos ⟨h1,h2⟩];exact ⟨rfl,rfl⟩
theorem t7 {n d:Int} (h:¬ (short n∧short d)):nO n d=⟨#[]⟩∧nP n d=4:=by
 unfold nO nP;rw [if_neg h,if_neg h];exact ⟨rfl,rfl⟩
theorem Aq (n d m c:Int) (w:World) (hn:short n) (hd:short d) (hm:short m) (hc:short c) (h0:d*c≠0) (ht:Tab w) :
  Calls Tryz.prog 125 #[.string (aa n),.string (aa d),.string (aa m),.string (aa c)] w fun e W'=>e = .returned (.tuple #[.string (nO (n*m) (d*c)),.int .i64 (nP (n*m) (d*c))])∧Below w.heap.size w W':=by
 by_cases h:short (n*m)∧short (d*c)
 ·rw [(kB h.1 h.2).1,(kB h.1 h.2).2]
  exact yM _ _ _ _ _ _ _ _ w (fun W hW=>pV n m d c W hn hm hd hc h.1 h.2 (ht.next hW)) (fun W hW=>yL _ _ W h.1 h.2 h0 (ht.next hW))
 ·rw [(t7 h).1,(t7 h).2]
  exact Ao _ _ _ _ _ _ 4 w (by decide) (by decide) (fun W hW=>pW n m d c W hn hm hd hc h (ht.next hW))
theorem wV (a b:ByteArray) (w:World) (ha:a.size≤maxLen) (hb:b.size≤maxLen) (ht:Tab w) :
  Calls Tryz.prog 95 #[.string a,.string b] w fun e W'=>e = .returned (.int .i64 (jw a b))∧Below w.heap.size w W':=by
 have h1:=fun W (hW:Below w.heap.size w W)=>io a W ha (ht.next hW)
 have h2:=fun W (hW:Below w.heap.size w W)=>io b W hb (ht.next hW)
 unfold jw
 by_cases e:aM a.data.toList=0
 ·rw [if_pos e]
  rw [e] at h1
  exact ve a b _ w h1 h2
 ·rw [if_neg e]
  exact sX a b _ w (bc e).1 (bc e).2 h1
theorem rB (n d:Int):Rat.divInt (n * -1) (d * -1)=Rat.divInt n d:=Rat.divInt_mul_right (by decide)
theorem Ar (x y:Rat) (w:World) (hx:Sq x) (hy:Sq y) (hy0:y≠0) (h0:CqB w 95 #[.string (ah x),.string (ah y)] (.int .i64 0)) (ht:Tab w) :
  Calls Tryz.prog 69 #[.string (ah x),.string (ah y)] w fun e W'=>e = .returned (.tuple #[.string (jz x y),.int .i64 (jA x y)])∧Below w.heap.size w W':=by
 have hz:((ah y).toList == [48])=false:=by rw [j7];exact decide_eq_false hy0
 have hn0:y.num≠0:=fun q=>hy0 (Rat.num_eq_zero.1 q)
 unfold jz jA
 have hi:=fun W (_:Below w.heap.size w W)=>sO x W hx
 have hj:=fun W (_:Below w.heap.size w W)=>sO y W hy
 have hp:=fun W (_:Below w.heap.size w W)=>pS x W hx
 have hr:=fun W (_:Below w.heap.size w W)=>pS y W hy
 have hm:∀ W,Below w.heap.size w W→_:=fun W (hW:Below w.heap.size w W)=>Aq x.num x.den y.den y.num W hx.n hx.d hy.d hy.n (fun q=>(Int.mul_eq_zero.1 q).elim (mT x) hn0) (ht.next hW)
 rw [Int.mul_comm (x.den:Int) y.num] at hm
 cases ox:inO x
 ·rw [ox] at hi
  exact yP _ _ _ _ _ _ _ _ _ _ _ _ _ w hz h0 hi hj hp hr hm
 ·cases oy:inO y
  ·rw [ox] at hi
   rw [oy] at hj
   exact yQ _ _ _ _ _ _ _ _ _ _ _ _ w hz h0 hi hj hp hr hm
  ·have hi:=fun W (_:Below w.heap.size w W)=>rA W hx ox
   have hj:=fun W (_:Below w.heap.size w W)=>rA W hy oy
   obtain ⟨bx,cx⟩:=zL ox
   obtain ⟨bu,cu⟩:=zL oy
   have z1:=vd (x:=x.num) (y:=y.den) (by omega) (by omega)
   have z3:=vd (x:=y.num) (y:=x.den) (by omega) (by omega)
   have d0:(0:Int)<x.den:=cx.1
   rw [(kB (mq z1) (mq z3)).1,(kB (mq z1) (mq z3)).2]
   rcases Int.lt_or_gt_of_ne hn0 with h | h
   ·have e:Rat.divInt (x.num*y.den) (y.num*x.den)=Rat.divInt (x.num * -y.den) (x.den * -y.num):=by
     rw [←rB (x.num*y.den),Int.mul_assoc,Int.mul_comm y.num,Int.mul_assoc (x.den:Int)]
     congr 2 <;> omega
    rw [e]
    have z5:0<(x.den:Int) * -y.num:=Int.mul_pos d0 (by omega)
    have z6:(x.den:Int) * -y.num = -(y.num*x.den):=by rw [Int.mul_neg,Int.mul_comm]
    have z7:x.num * -(y.den:Int) = -(x.num*y.den):=Int.mul_neg _ _
    exact yO _ _ _ _ _ _ _ w hz h bx cx bu cu h0 hi hj (fun W _=>jj _ _ W (by omega) z5 (by omega))
   ·rw [Int.mul_comm y.num]
    rw [Int.mul_comm y.num] at z3
    have z5:0<(x.den:Int)*y.num:=Int.mul_pos d0 (by omega)
    exact yN _ _ _ _ _ _ _ w hz h bx cx bu cu h0 hi hj (fun W _=>jj _ _ W (by omega) z5 (by omega))
theorem wW (a b:ByteArray) (w:World) (ha:a.size≤maxLen) (hb:b.size≤maxLen) (ht:Tab w) :
  Calls Tryz.prog 69 #[.string a,.string b] w fun e W'=>e = .returned (.tuple #[.string (opB sE a b),.int .i64 (opE sF a b)])∧Below w.heap.size w W':=by
 have hk:=fun W (hW:Below w.heap.size w W)=>wV a b W ha hb (ht.next hW)
 unfold opB opE
 by_cases h:jw a b=0
 ·rw [if_pos h,if_pos h]
  rw [h] at hk
  have sx:=pF (ke h).1
  have sy:=pF (ke h).2
  have ex:=kf (ke h).1
  have ey:=kf (ke h).2
  unfold sE sF
  by_cases h0:rat b=0
  ·rw [if_pos h0,if_pos h0]
   exact Ap a b w (by rw [←ey,j7];exact decide_eq_true h0) hk
  ·rw [if_neg h0,if_neg h0]
   have c:=Ar (rat a) (rat b) w sx sy h0 (by rw [ex,ey];exact hk) ht
   rwa [ex,ey] at c
 ·rw [if_neg h,if_neg h]
  exact wU a b _ w (bc h).1 (bc h).2 hk
theorem sY (a:ByteArray) (f:Int) (w:World) (n1:(f==0)=false) (n2:(f != 0)=true)
  (h1:CqB w 52 #[.string a] (.int .i64 f)) :
  Calls Tryz.prog 28 #[.string a] w fun e W'=>e = .returned (.tuple #[.string ⟨#[]⟩,.string ⟨#[]⟩,.int .i64 f])∧Below w.heap.size w W':=by
 have C:=Ha h1;clear h1
 go_enter Tryz.func28,Tryz.ntmps28
 go_wp2_with fail
 refine (C.out _ (Below.refl _ _)).mono ?_
 rintro e w1 ⟨rfl,b⟩
 have H1:=Ha b;clear b
 go_wp2
 go_ret3
 exact ⟨rfl,H1.out⟩
theorem vf (a n d:ByteArray) (w:World)
  (h1:CqB w 52 #[.string a] (.int .i64 0))
  (h2:CqB w 61 #[.string a] (.tuple #[.string n,.string d])) :
  Calls Tryz.prog 28 #[.string a] w fun e W'=>e = .returned (.tuple #[.string n,.string d,.int .i64 0])∧Below w.heap.size w W':=by
 have C:=Ha (Hb h1 h2);clear h1 h2
 go_enter Tryz.func28,Tryz.ntmps28
 go_wp2_with fail
 refine (C.out.1 _ (Below.refl _ _)).mono ?_
 rintro e w1 ⟨rfl,b⟩
 have H1:=Ha b;clear b
 go_wp2_with fail
 refine (C.out.2 _ H1.out).mono ?_
 rintro e w2 ⟨rfl,b⟩
 have H2:=Ha (H1.out.trans (b.mono H1.out.size));clear b H1
 go_wp2
 go_ret3
 exact ⟨rfl,H2.out⟩
theorem iM {a:ByteArray} (h:aM a.data.toList=0):paN a=aa (rat a).num∧paD a=aa ((rat a).den:Int):=by
 unfold paN paD
 rw [if_pos h,if_pos h,←py,←pz,kf h];exact ⟨rfl,rfl⟩
theorem wX {a:ByteArray} (h:aM a.data.toList≠0):paN a=⟨#[]⟩∧paD a=⟨#[]⟩:=by
 unfold paN paD;rw [if_neg h,if_neg h];exact ⟨rfl,rfl⟩
theorem nw (a:ByteArray) (w:World) (ha:a.size≤maxLen) (ht:Tab w) :
  Calls Tryz.prog 28 #[.string a] w fun e W'=>e = .returned (.tuple #[.string (paN a),.string (paD a),.int .i64 (aM a.data.toList)])∧Below w.heap.size w W':=by
 have hk:=fun W (hW:Below w.heap.size w W)=>io a W ha (ht.next hW)
 by_cases h:aM a.data.toList=0
 ·rw [(iM h).1,(iM h).2]
  rw [h] at hk ⊢
  have c:=fun W (_:Below w.heap.size w W)=>pS (rat a) W (pF h)
  rw [kf h] at c
  exact vf a _ _ w hk c
 ·rw [(wX h).1,(wX h).2]
  exact sY a _ w (bc h).1 (bc h).2 hk
end Go.Proofs.YtjdomibbaemdnaaGreatDoor
