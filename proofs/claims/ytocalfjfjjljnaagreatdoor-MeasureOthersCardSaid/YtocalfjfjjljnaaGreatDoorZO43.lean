/- Parts of the proof of the text YtocalfjfjjljnaaGreatDoorZO44. -/
import Derived.Test.YtocalfjfjjljnaaGreatDoorZO1
import Derived.Test.YtocalfjfjjljnaaGreatDoorZO41
import Derived.Test.YtocalfjfjjljnaaGreatDoorZO42
set_option linter.all false
set_option maxRecDepth 100000
set_option maxHeartbeats 8000000
namespace Go.Proofs.YtocalfjfjjljnaaGreatDoor.T
open Go.Proofs.YtocalfjfjjljnaaGreatDoor Go Go.RowKit
theorem Dj {l:List UInt8} (h:pfO l=true):∃ m:Nat,szL l=ftU m∧tz9 l=(if af l then -(m:Int) else m)∧(af l=true→m≠0):=by
 unfold pfO at h
 rw [Bool.and_eq_true,beq_iff_eq] at h
 have h2:=h.2
 unfold ftT at h2
 have s:=xz (b:=decide (tz9 l<0)) (uG (tz9 l).natAbs)
 rw [h2] at s
 refine ⟨(tz9 l).natAbs,s.2,?_,fun hn z => ?_⟩
 ·rw [s.1]
  by_cases k:tz9 l<0
  ·rw [decide_eq_true k,if_pos rfl];omega
  ·rw [decide_eq_false k,if_neg (by decide)];omega
 ·rw [s.1] at hn
  have:=of_decide_eq_true hn
  omega
theorem qH {k:Nat} (h:k<lim):gd9 (Lib.decDigits k)=true:=by
 unfold gd9
 have hc:=fy (k:Int)
 rw [Lib.itoa_nonneg,Int.natAbs_natCast,if_pos h] at hc
 rw [tb (aG k) (bL k),hc];rfl
theorem qI {k:Nat} (h:(Lib.decDigits k).length≤90):k<lim:=by
 have:=cV _ (aG k)
 rw [bY] at this
 exact Nat.lt_of_lt_of_le this (ay (by omega))
theorem D0 {l:List UInt8} {m:Nat} (hl:l.length≤90) (hx:szL l=ftU m) (hn:af l=true→m≠0):pfO l=true∧tz9 l=(if af l then -(m:Int) else m):=by
 obtain ⟨c1,c2,c3⟩:=uH m
 have hz:=bj l
 rw [hx] at hz
 have e0:(ftU m).length=(Lib.decDigits (m / 144)).length+1+(Lib.decDigits (m / 12 % 12)).length+1+(Lib.decDigits (m % 12)).length:=by
  unfold ftU;simp only [List.length_append,List.length_cons];omega
 have v:vN9 (ftU m) 3=m:=by
  show ((0*12+ad (kA 39 (ftU m)))*12+ad (kA 34 (kB 39 (ftU m))))*12+ad (kB 34 (kB 39 (ftU m)))=m
  rw [c1,c2,c3,bY,bY,bY];omega
 have t:tz9 l=(if af l then -(m:Int) else m):=by unfold tz9;rw [hx,v]
 refine ⟨?_,t⟩
 unfold pfO
 rw [Bool.and_eq_true,beq_iff_eq]
 constructor
 ·unfold zo
  rw [hx]
  show (gd9 (kA 39 (ftU m)) && gd9 (kA 34 (kB 39 (ftU m))) && gd9 (kB 34 (kB 39 (ftU m))))=true
  rw [c1,c2,c3,qH (qI (by omega)),qH (qI (by omega)),qH (qI (by omega))];rfl
 ·have e:=DB l
  rw [hx] at e
  rw [t]
  unfold ftT
  cases k:af l
  ·rw [k] at e
   rw [if_neg (by decide),decide_eq_false (by omega),Int.natAbs_natCast];exact e
  ·rw [k] at e
   have:=hn k
   rw [if_pos rfl,decide_eq_true (by omega),Int.natAbs_neg,Int.natAbs_natCast];exact e
def shN (l:List UInt8):Nat:=if ndg l≤2∧l.take (ndg l)=Lib.decDigits (ad (l.take (ndg l)))∧ad (l.take (ndg l))≤11 then ndg l else 0
def shK (l:List UInt8):Nat:=if shN l=0 then 0 else ad (l.take (ndg l))
theorem qJ {l:List UInt8} (h:shN l≠0):shN l=ndg l∧l.take (shN l)=Lib.decDigits (shK l)∧shK l≤11∧ndg l≤2:=by
 have h2:shN l=ndg l∧ndg l≤2∧l.take (ndg l)=Lib.decDigits (ad (l.take (ndg l)))∧ad (l.take (ndg l))≤11:=by
  unfold shN at h ⊢
  split
  ·rename_i k;exact ⟨rfl,k⟩
  ·rename_i k;rw [if_neg k] at h;exact absurd rfl h
 have e:shK l=ad (l.take (ndg l)):=if_neg h
 rw [h2.1,e]
 exact ⟨rfl,h2.2.2.1,h2.2.2.2,h2.2.1⟩
theorem qK (l:List UInt8):shK l≤11:=by
 by_cases h:shN l=0
 ·unfold shK;rw [if_pos h];decide
 ·exact (qJ h).2.2.1
theorem zr {k:Nat} (hk:k≤11) {r:List UInt8} (hr:r = []∨∃ c t,r=c::t∧aj c=false):shN (Lib.decDigits k++r)=(Lib.decDigits k).length∧shK (Lib.decDigits k++r)=k:=by
 have hn:ndg (Lib.decDigits k++r)=(Lib.decDigits k).length:=by
  rcases hr with rfl | ⟨c,t,rfl,hc⟩
  ·rw [List.append_nil];exact Ao (aG k)
  ·exact u5 (aG k) hc t
 have ht:(Lib.decDigits k++r).take (Lib.decDigits k).length=Lib.decDigits k:=List.take_left' rfl
 have hl:(Lib.decDigits k).length≤2:=by
  have:∀ k,k<12→(Lib.decDigits k).length≤2:=by decide+kernel
  exact this k (by omega)
 have h0:=List.length_pos_iff.2 (bL k)
 have e:shN (Lib.decDigits k++r)=(Lib.decDigits k).length:=by
  unfold shN
  rw [hn,ht,bY,if_pos ⟨hl,rfl,hk⟩]
 refine ⟨e,?_⟩
 unfold shK
 rw [e,if_neg (by omega),hn,ht,bY]
theorem vt (l:List UInt8):(bO l).toList=l:=by rw [ByteArray.toList_eq,aP]
theorem gx (l:List UInt8) (hl:l.length≤1000) (w:World) (T:TabM w) (hE:sw w) (hS:sL w) :
  Calls Tryz.prog 31 #[.string (bO l)] w fun e W'=>e = .returned (.tuple #[.int .i64 (shK l:Nat),.int .i64 (shN l:Nat)])∧Below w.heap.size w W':=by
 obtain ⟨D,R,e,hd,hn,_⟩:=jP l
 have hL:l.length=D.length+R.length:=by rw [e,List.length_append]
 have hs:(bO l).size≤1000:=by rw [ai];exact hl
 have k1:∀ W,Below w.heap.size w W→Calls Tryz.prog 30 #[.string (bO l)] W fun e W'=>e = .returned (.int .i64 (D.length:Nat))∧Below W.heap.size W W':=fun W _=>by
  have c:=rdg (bO l) W (by omega)
  rwa [aP,hn] at c
 have k2:∀ (P:Int→Prop),(∀ k:Int,-9223372036854775808≤k→k≤9223372036854775807→(D = []→k=0)→(D ≠ []→ad D≤1000→k=ad D)→P k)→∀ W,Below w.heap.size w W →
   Calls Tryz.prog 72 #[.string (bO D)] W fun e W'=>(∃ (k:Int) (x:Value),e = .returned (.tuple #[.int .i64 k,x])∧P k)∧Below W.heap.size W W':=fun P hP W hW =>
  (Dc D W hd (by omega) (bZ hE hW) (ch hS hW)).mono fun e W' ⟨⟨k,x,he,a1,a2,a3,a4⟩,b⟩=>⟨⟨k,x,he,hP k a1 a2 a3 a4⟩,b⟩
 have hx:(bO l).extract 0 D.length=bO D:=by rw [bT,e,List.take_left' rfl]
 have ht:l.take D.length=D:=by rw [e,List.take_left' rfl]
 have b1:(D.length:Int)≤(bO l).size:=by rw [ai];omega
 by_cases n2:2<D.length
 ·have z:shN l=0:=by unfold shN;rw [hn,if_neg (by omega)]
  have y:shK l=0:=by unfold shK;rw [if_pos z]
  rw [z,y]
  exact A0 (bO l) (bO D) (bO D) D.length (fun _=>True) w hs (by omega) b1 hx (by omega) k1 (k2 _ fun _ _ _ _ _=>trivial)
 have small:ad D<100:=Nat.lt_of_lt_of_le (cV D hd) (ay (by omega):aA D.length≤aA 2)
 have k2':=k2 (fun k=>k=(ad D:Nat)) (fun k _ _ a3 a4=>by
  by_cases h:D = []
  ·rw [a3 h,h];rfl
  ·exact a4 h (by omega))
 have k3:∀ k:Int,k=(ad D:Nat)→∀ W,Calls Tryz.prog 27 #[.int .i64 k] W fun e W'=>e = .returned (.string (bO (Lib.decDigits (ad D))))∧W'=W:=fun k hk W=>by
  rw [hk];exact Tryz.strconv_Itoa_small (ad D) small W
 by_cases q:D=Lib.decDigits (ad D)
 ·have hA:((bO (Lib.decDigits (ad D))).toList != (bO D).toList)=false:=by rw [←q];simp
  have hA2:((bO (Lib.decDigits (ad D))).toList==(bO D).toList)=true:=by rw [←q];simp
  have d0:D ≠ []:=fun h=>bL (ad D) (by rw [←q,h])
  have l0:=List.length_pos_iff.2 d0
  have l12:D.length=1∨D.length=2:=by omega
  by_cases m:ad D≤11
  ·have z:shN l=D.length:=by unfold shN;rw [hn,ht,if_pos ⟨by omega,q,m⟩]
   have y:shK l=ad D:=by unfold shK;rw [z,if_neg (by omega),hn,ht]
   rw [z,y]
   rcases l12 with h | h
   ·rw [h] at k1 hx b1 ⊢
    exact zk (bO l) (bO D) _ _ w hs b1 hx hA hA2 (ad D) (fun k h=>h) (by omega) (decide_eq_false (by omega)) (decide_eq_false (by omega)) k1 k2' k3
   ·rw [h] at k1 hx b1 ⊢
    exact zl (bO l) (bO D) _ _ w hs b1 hx hA hA2 (ad D) (fun k h=>h) (by omega) (decide_eq_false (by omega)) (decide_eq_false (by omega)) k1 k2' k3
  ·have z:shN l=0:=by unfold shN;rw [hn,ht,if_neg (fun h=>m h.2.2)]
   have y:shK l=0:=by unfold shK;rw [if_pos z]
   rw [z,y]
   rcases l12 with h | h
   ·have:=cV D hd
    rw [h] at this
    have e:aA 1=10:=by decide
    omega
   ·rw [h] at k1 hx b1
    exact zj (bO l) (bO D) _ _ w hs b1 hx hA hA2 (fun k h=>by omega) k1 k2' k3
 ·have z:shN l=0:=by unfold shN;rw [hn,ht,if_neg (fun h=>q h.2.1)]
  have y:shK l=0:=by unfold shK;rw [if_pos z]
  rw [z,y]
  have ne:((bO (Lib.decDigits (ad D))).toList==(bO D).toList)=false:=by
   rw [vt,vt,beq_eq_false_iff_ne];exact fun h=>q h.symm
  exact A2 (bO l) (bO D) _ D.length _ w hs (by omega) b1 hx (by omega) (decide_eq_false (by omega)) (decide_eq_false (by omega)) (by rw [bne,ne];rfl) ne k1 k2' k3
theorem cne {c k:UInt8} {z:Int} (h:c≠k) (hz:((k.toNat:Nat):Int)=z:=by decide):((c.toNat:Int) != z)=true:=by
 rw [←hz,bne_iff_ne]
 intro e
 exact h (UInt8.toNat_inj.1 (by omega))
theorem cye {c k:UInt8} {z:Int} (h:c=k) (hz:((k.toNat:Nat):Int)=z:=by decide):((c.toNat:Int) != z)=false:=by
 rw [h,←hz,bne_self_eq_false]
theorem gy (y:List UInt8) (n:Nat) (h:n<y.length):y[n]? = some ((bO y)[n]'(by rw [ai];exact h)):=by
 rw [List.getElem?_eq_getElem h];rfl
theorem Cb {x:List UInt8} (p0:0<(bO x).size):x.head? = some ((bO x)[0]'p0):=by
 have h:0<x.length:=by rw [ai] at p0;exact p0
 have:=gy x 0 h
 rw [←List.head?_eq_getElem?] at this;exact this
theorem h48 {x:List UInt8} (h:x.head? = some 48) {p0:0<(bO x).size}:((((bO x)[0]'p0).toNat:Int)==48)=true:=by
 rw [Cb p0] at h
 rw [Option.some.inj h];rfl
theorem uq {x:List UInt8} (h:x.head? ≠ some 48) (p0:0<(bO x).size):((((bO x)[0]'p0).toNat:Int)==48)=false:=by
 rw [beq_eq_false_iff_ne]
 intro e
 refine h ?_
 rw [Cb p0]
 congr 1
 exact UInt8.toNat_inj.1 (by show _=48;omega)
theorem Bp {D:List UInt8} (hd:∀ c∈D,aj c=true) (h0:D ≠ []) (h:¬ 1<D.length∨1<D.length∧D.head? ≠ some 48):D=Lib.decDigits (ad D):=by
 rw [←xw hd]
 match D,h0,h with
 | [c],_,_ =>
  unfold wz nz
  by_cases k:c=48
  ·subst k;rfl
  ·rw [List.dropWhile_cons_of_neg (by simpa using k),if_neg (by simp)]
 | c::d::t,_,h =>
  have k:c≠48:=by
   rcases h with h | h
   ·simp at h
   ·intro e;exact h.2 (by rw [e];rfl)
  unfold wz nz
  rw [List.dropWhile_cons_of_neg (by simpa using k),if_neg (by simp)]
theorem Dk (k:Nat) (t:List UInt8):¬ 1<(Lib.decDigits k).length∨1<(Lib.decDigits k).length∧(Lib.decDigits k++t).head? ≠ some 48:=by
 by_cases h:1<(Lib.decDigits k).length
 ·refine .inr ⟨h,fun e => ?_⟩
  have hd:=aG k
  have w:=xw hd
  rw [bY] at w
  cases hD:Lib.decDigits k with
  | nil=>rw [hD] at h;simp at h
  | cons c u =>
   rw [hD] at e w h
   have c48:c=48:=by simpa using e
   subst c48
   have n:=xu (l:=48::u) (fun c hc=>hd c (by rw [hD];exact hc))
   by_cases z:nz (48::u) = []
   ·unfold wz at w
    rw [if_pos z] at w
    have hu:u = []:=by simpa using w.symm
    rw [hu] at h
    simp at h
   ·unfold wz at w
    rw [if_neg z] at w
    exact n.2.2 (by rw [w];rfl)
 ·exact .inl h
section
variable (s:ByteArray) (w:World) (h9:s.size≤90) (T:TabM w) (hE:sw w) (hS:sL w) (x:List UInt8) (hx:szL s.data.toList=x)
include h9 T hE hS hx
theorem m6 (W:World):Calls Tryz.prog 30 #[.string (bO x)] W fun e W'=>e = .returned (.int .i64 (ndg x:Nat))∧Below W.heap.size W W':=by
 have hl:=bj s.data.toList
 have h2:s.data.toList.length=s.size:=rfl
 have c:=rdg (bO x) W (by rw [ai,←hx];omega)
 rwa [aP] at c
theorem zx:zB s=bO x:=by unfold zB;rw [hx]
theorem sx (hn:af s.data.toList=false):s=bO x:=by
 rw [←hx];unfold szL;rw [hn];exact (xr s).symm
theorem Dl (h0:ndg x=0) (xp:0<x.length) :
  Calls Tryz.prog 9 #[.string s] w fun e W'=>e = .returned (.tuple #[.string ⟨#[]⟩,.int .i64 3])∧Below w.heap.size w W':=by
 have hsz:(bO x).size=x.length:=ai x
 have hl:x.length≤90:=by have:=bj s.data.toList;have h2:s.data.toList.length=s.size:=rfl;rw [hx] at this;omega
 have kd:=fun W (_:Below w.heap.size w W)=>m6 s w h9 T hE hS x hx W
 cases hn:af s.data.toList
 ·have es:=sx s w h9 T hE hS x hx hn
  have hp:0<s.size:=by rw [es,hsz];exact xp
  have i45:=(au hp).trans hn
  have ie:=aZ hp
  clear hn
  subst es
  exact A3 (bO x) (bO x) (ndg x) w (by omega) hp i45 ie (by omega) (by have:=bV x;omega) (by rw [h0];rfl) kd
 ·have hp:=aT hn
  exact vj s (bO x) (ndg x) w (by omega) hp ((au hp).trans hn) (aZ hp) ((dE hn).trans (zx s w h9 T hE hS x hx)) (by omega) (by omega) (by omega) (by have:=bV x;omega) (by rw [h0];rfl) kd
theorem Dm (h0:ndg x≠0) (h1:ndg x=x.length) (xp:0<x.length) :
  Calls Tryz.prog 9 #[.string s] w fun e W'=>e = .returned (.tuple #[.string ⟨#[]⟩,.int .i64 3])∧Below w.heap.size w W':=by
 have hsz:(bO x).size=x.length:=ai x
 have hl:x.length≤90:=by have:=bj s.data.toList;have h2:s.data.toList.length=s.size:=rfl;rw [hx] at this;omega
 have kd:=fun W (_:Below w.heap.size w W)=>m6 s w h9 T hE hS x hx W
 cases hn:af s.data.toList
 ·have es:=sx s w h9 T hE hS x hx hn
  have hp:0<s.size:=by rw [es,hsz];exact xp
  have i45:=(au hp).trans hn
  have ie:=aZ hp
  clear hn
  subst es
  exact A4 (bO x) (bO x) (ndg x) w (by omega) hp i45 ie (by omega) (by have:=bV x;omega) (by rw [beq_eq_false_iff_ne];omega) (by rw [hsz,h1];exact beq_self_eq_true _) kd
 ·have hp:=aT hn
  exact Bf s (bO x) (ndg x) w (by omega) hp ((au hp).trans hn) (aZ hp) ((dE hn).trans (zx s w h9 T hE hS x hx)) (by omega) (by omega) (by omega) (by have:=bV x;omega) (by rw [beq_eq_false_iff_ne];omega) (by rw [hsz,h1];exact beq_self_eq_true _) kd
theorem Dn (c:UInt8) (hc:x[ndg x]? = some c) (h0:ndg x≠0) (h1:ndg x<x.length) (h2:c≠39) (xp:0<x.length) :
  Calls Tryz.prog 9 #[.string s] w fun e W'=>e = .returned (.tuple #[.string ⟨#[]⟩,.int .i64 3])∧Below w.heap.size w W':=by
 have hsz:(bO x).size=x.length:=ai x
 have hl:x.length≤90:=by have:=bj s.data.toList;have h2:s.data.toList.length=s.size:=rfl;rw [hx] at this;omega
 have kd:=fun W (_:Below w.heap.size w W)=>m6 s w h9 T hE hS x hx W
 have gc:∀ h:ndg x<(bO x).size,(bO x)[ndg x]'h=c:=fun h=>by have:=gy x (ndg x) (by omega);rw [hc] at this;exact (Option.some.inj this).symm
 cases hn:af s.data.toList
 ·have es:=sx s w h9 T hE hS x hx hn
  have hp:0<s.size:=by rw [es,hsz];exact xp
  have i45:=(au hp).trans hn
  have ie:=aZ hp
  clear hn
  subst es
  exact A5 (bO x) (bO x) (ndg x) w (by omega) hp i45 ie (by omega) (by have:=bV x;omega) (by rw [beq_eq_false_iff_ne];omega) (by rw [beq_eq_false_iff_ne,hsz];omega) (by omega) (by omega) c (gc _) (cne h2) kd
 ·have hp:=aT hn
  exact Bg s (bO x) (ndg x) w (by omega) hp ((au hp).trans hn) (aZ hp) ((dE hn).trans (zx s w h9 T hE hS x hx)) (by omega) (by omega) (by omega) (by have:=bV x;omega) (by rw [beq_eq_false_iff_ne];omega) (by rw [beq_eq_false_iff_ne,hsz];omega) (by omega) (by omega) c (gc _) (cne h2) kd
theorem Do (c:UInt8) (hc:x[ndg x]? = some c) (h0:ndg x≠0) (h1:ndg x<x.length) (h2:c=39) (h3:1<ndg x) (h4:x.head? = some 48) (xp:0<x.length) :
  Calls Tryz.prog 9 #[.string s] w fun e W'=>e = .returned (.tuple #[.string ⟨#[]⟩,.int .i64 3])∧Below w.heap.size w W':=by
 have hsz:(bO x).size=x.length:=ai x
 have hl:x.length≤90:=by have:=bj s.data.toList;have h2:s.data.toList.length=s.size:=rfl;rw [hx] at this;omega
 have kd:=fun W (_:Below w.heap.size w W)=>m6 s w h9 T hE hS x hx W
 have gc:∀ h:ndg x<(bO x).size,(bO x)[ndg x]'h=c:=fun h=>by have:=gy x (ndg x) (by omega);rw [hc] at this;exact (Option.some.inj this).symm
 cases hn:af s.data.toList
 ·have es:=sx s w h9 T hE hS x hx hn
  have hp:0<s.size:=by rw [es,hsz];exact xp
  have i45:=(au hp).trans hn
  have ie:=aZ hp
  clear hn
  subst es
  exact A6 (bO x) (bO x) (ndg x) w (by omega) hp i45 ie (by omega) (by have:=bV x;omega) (by rw [beq_eq_false_iff_ne];omega) (by rw [beq_eq_false_iff_ne,hsz];omega) (by omega) (by omega) c (gc _) (cye h2) (by omega) (by omega) (h48 h4) kd
 ·have hp:=aT hn
  exact Bh s (bO x) (ndg x) w (by omega) hp ((au hp).trans hn) (aZ hp) ((dE hn).trans (zx s w h9 T hE hS x hx)) (by omega) (by omega) (by omega) (by have:=bV x;omega) (by rw [beq_eq_false_iff_ne];omega) (by rw [beq_eq_false_iff_ne,hsz];omega) (by omega) (by omega) c (gc _) (cye h2) (by omega) (by omega) (h48 h4) kd
theorem Dp (c:UInt8) (hc:x[ndg x]? = some c) (R:List UInt8) (hR:x.drop (ndg x+1)=R) (h0:ndg x≠0) (h1:ndg x<x.length) (h2:c=39) (h3:¬ 1<ndg x∨1<ndg x∧x.head? ≠ some 48) (g0:shN R=0) (xp:0<x.length) :
  Calls Tryz.prog 9 #[.string s] w fun e W'=>e = .returned (.tuple #[.string ⟨#[]⟩,.int .i64 3])∧Below w.heap.size w W':=by
 have hsz:(bO x).size=x.length:=ai x
 have hl:x.length≤90:=by have:=bj s.data.toList;have h2:s.data.toList.length=s.size:=rfl;rw [hx] at this;omega
 have kd:=fun W (_:Below w.heap.size w W)=>m6 s w h9 T hE hS x hx W
 have gc:∀ h:ndg x<(bO x).size,(bO x)[ndg x]'h=c:=fun h=>by have:=gy x (ndg x) (by omega);rw [hc] at this;exact (Option.some.inj this).symm
 have lR:R.length+ndg x+1=x.length:=by rw [←hR,List.length_drop];omega
 have hF:∀ p0:0<(bO x).size,¬ (1:Int)<(ndg x:Nat)∨(1:Int)<(ndg x:Nat)∧((((bO x)[0]'p0).toNat:Int)==48)=false:=fun p0=>h3.elim (fun h => .inl (by omega)) fun h => .inr ⟨by omega,uq h.2 p0⟩
 have fR:(bO x).extract (ndg x+1) (bO x).size=bO R:=by rw [df,hR]
 have ks:=fun W (hW:Below w.heap.size w W)=>gx R (by omega) W (T.next hW) (bZ hE hW) (ch hS hW)
 have hRs:(bO R).size=R.length:=ai R
 cases hn:af s.data.toList
 ·have es:=sx s w h9 T hE hS x hx hn
  have hp:0<s.size:=by rw [es,hsz];exact xp
  have i45:=(au hp).trans hn
  have ie:=aZ hp
  clear hn
  subst es
  exact A7 (bO x) (bO x) (ndg x) w (by omega) hp i45 ie (by omega) (by have:=bV x;omega) (by rw [beq_eq_false_iff_ne];omega) (by rw [beq_eq_false_iff_ne,hsz];omega) (by omega) (by omega) c (gc _) (cye h2) (by omega) (hF _) (bO (x.take (ndg x))) (bO R) (bT x (ndg x)) (ndg x+1) (by omega) (by omega) (by omega) fR (shK R) (shN R) (by rw [g0];rfl) kd ks
 ·have hp:=aT hn
  exact Bi s (bO x) (ndg x) w (by omega) hp ((au hp).trans hn) (aZ hp) ((dE hn).trans (zx s w h9 T hE hS x hx)) (by omega) (by omega) (by omega) (by have:=bV x;omega) (by rw [beq_eq_false_iff_ne];omega) (by rw [beq_eq_false_iff_ne,hsz];omega) (by omega) (by omega) c (gc _) (cye h2) (by omega) (hF _) (bO (x.take (ndg x))) (bO R) (bT x (ndg x)) (ndg x+1) (by omega) (by omega) (by omega) fR (shK R) (shN R) (by rw [g0];rfl) kd ks
theorem Dq (c:UInt8) (hc:x[ndg x]? = some c) (R:List UInt8) (hR:x.drop (ndg x+1)=R) (h0:ndg x≠0) (h1:ndg x<x.length) (h2:c=39) (h3:¬ 1<ndg x∨1<ndg x∧x.head? ≠ some 48) (g0:shN R≠0) (g1:shN R=R.length) (xp:0<x.length) :
  Calls Tryz.prog 9 #[.string s] w fun e W'=>e = .returned (.tuple #[.string ⟨#[]⟩,.int .i64 3])∧Below w.heap.size w W':=by
 have hsz:(bO x).size=x.length:=ai x
 have hl:x.length≤90:=by have:=bj s.data.toList;have h2:s.data.toList.length=s.size:=rfl;rw [hx] at this;omega
 have kd:=fun W (_:Below w.heap.size w W)=>m6 s w h9 T hE hS x hx W
 have gc:∀ h:ndg x<(bO x).size,(bO x)[ndg x]'h=c:=fun h=>by have:=gy x (ndg x) (by omega);rw [hc] at this;exact (Option.some.inj this).symm
 have lR:R.length+ndg x+1=x.length:=by rw [←hR,List.length_drop];omega
 have hF:∀ p0:0<(bO x).size,¬ (1:Int)<(ndg x:Nat)∨(1:Int)<(ndg x:Nat)∧((((bO x)[0]'p0).toNat:Int)==48)=false:=fun p0=>h3.elim (fun h => .inl (by omega)) fun h => .inr ⟨by omega,uq h.2 p0⟩
 have fR:(bO x).extract (ndg x+1) (bO x).size=bO R:=by rw [df,hR]
 have ks:=fun W (hW:Below w.heap.size w W)=>gx R (by omega) W (T.next hW) (bZ hE hW) (ch hS hW)
 have hRs:(bO R).size=R.length:=ai R
 cases hn:af s.data.toList
 ·have es:=sx s w h9 T hE hS x hx hn
  have hp:0<s.size:=by rw [es,hsz];exact xp
  have i45:=(au hp).trans hn
  have ie:=aZ hp
  clear hn
  subst es
  exact A8 (bO x) (bO x) (ndg x) w (by omega) hp i45 ie (by omega) (by have:=bV x;omega) (by rw [beq_eq_false_iff_ne];omega) (by rw [beq_eq_false_iff_ne,hsz];omega) (by omega) (by omega) c (gc _) (cye h2) (by omega) (hF _) (bO (x.take (ndg x))) (bO R) (bT x (ndg x)) (ndg x+1) (by omega) (by omega) (by omega) fR (shK R) (shN R) (by rw [beq_eq_false_iff_ne];omega) (by omega) (by omega) (by rw [hRs,g1];exact beq_self_eq_true _) kd ks
 ·have hp:=aT hn
  exact Bj s (bO x) (ndg x) w (by omega) hp ((au hp).trans hn) (aZ hp) ((dE hn).trans (zx s w h9 T hE hS x hx)) (by omega) (by omega) (by omega) (by have:=bV x;omega) (by rw [beq_eq_false_iff_ne];omega) (by rw [beq_eq_false_iff_ne,hsz];omega) (by omega) (by omega) c (gc _) (cye h2) (by omega) (hF _) (bO (x.take (ndg x))) (bO R) (bT x (ndg x)) (ndg x+1) (by omega) (by omega) (by omega) fR (shK R) (shN R) (by rw [beq_eq_false_iff_ne];omega) (by omega) (by omega) (by rw [hRs,g1];exact beq_self_eq_true _) kd ks
theorem Dr (c:UInt8) (hc:x[ndg x]? = some c) (R:List UInt8) (hR:x.drop (ndg x+1)=R) (d:UInt8) (hd:R[shN R]? = some d) (h0:ndg x≠0) (h1:ndg x<x.length) (h2:c=39) (h3:¬ 1<ndg x∨1<ndg x∧x.head? ≠ some 48) (g0:shN R≠0) (g1:shN R<R.length) (g2:d≠34) (xp:0<x.length) :
  Calls Tryz.prog 9 #[.string s] w fun e W'=>e = .returned (.tuple #[.string ⟨#[]⟩,.int .i64 3])∧Below w.heap.size w W':=by
 have hsz:(bO x).size=x.length:=ai x
 have hl:x.length≤90:=by have:=bj s.data.toList;have h2:s.data.toList.length=s.size:=rfl;rw [hx] at this;omega
 have kd:=fun W (_:Below w.heap.size w W)=>m6 s w h9 T hE hS x hx W
 have gc:∀ h:ndg x<(bO x).size,(bO x)[ndg x]'h=c:=fun h=>by have:=gy x (ndg x) (by omega);rw [hc] at this;exact (Option.some.inj this).symm
 have lR:R.length+ndg x+1=x.length:=by rw [←hR,List.length_drop];omega
 have hF:∀ p0:0<(bO x).size,¬ (1:Int)<(ndg x:Nat)∨(1:Int)<(ndg x:Nat)∧((((bO x)[0]'p0).toNat:Int)==48)=false:=fun p0=>h3.elim (fun h => .inl (by omega)) fun h => .inr ⟨by omega,uq h.2 p0⟩
 have fR:(bO x).extract (ndg x+1) (bO x).size=bO R:=by rw [df,hR]
 have ks:=fun W (hW:Below w.heap.size w W)=>gx R (by omega) W (T.next hW) (bZ hE hW) (ch hS hW)
 have hRs:(bO R).size=R.length:=ai R
 have gd:∀ h:shN R<(bO R).size,(bO R)[shN R]'h=d:=fun h=>by have:=gy R (shN R) (by omega);rw [hd] at this;exact (Option.some.inj this).symm
 cases hn:af s.data.toList
 ·have es:=sx s w h9 T hE hS x hx hn
  have hp:0<s.size:=by rw [es,hsz];exact xp
  have i45:=(au hp).trans hn
  have ie:=aZ hp
  clear hn
  subst es
  exact A9 (bO x) (bO x) (ndg x) w (by omega) hp i45 ie (by omega) (by have:=bV x;omega) (by rw [beq_eq_false_iff_ne];omega) (by rw [beq_eq_false_iff_ne,hsz];omega) (by omega) (by omega) c (gc _) (cye h2) (by omega) (hF _) (bO (x.take (ndg x))) (bO R) (bT x (ndg x)) (ndg x+1) (by omega) (by omega) (by omega) fR (shK R) (shN R) (by rw [beq_eq_false_iff_ne];omega) (by omega) (by omega) (by rw [beq_eq_false_iff_ne,hRs];omega) (by omega) (by omega) d (gd _) (cne g2) kd ks
 ·have hp:=aT hn
  exact Bk s (bO x) (ndg x) w (by omega) hp ((au hp).trans hn) (aZ hp) ((dE hn).trans (zx s w h9 T hE hS x hx)) (by omega) (by omega) (by omega) (by have:=bV x;omega) (by rw [beq_eq_false_iff_ne];omega) (by rw [beq_eq_false_iff_ne,hsz];omega) (by omega) (by omega) c (gc _) (cye h2) (by omega) (hF _) (bO (x.take (ndg x))) (bO R) (bT x (ndg x)) (ndg x+1) (by omega) (by omega) (by omega) fR (shK R) (shN R) (by rw [beq_eq_false_iff_ne];omega) (by omega) (by omega) (by rw [beq_eq_false_iff_ne,hRs];omega) (by omega) (by omega) d (gd _) (cne g2) kd ks
theorem Ds (c:UInt8) (hc:x[ndg x]? = some c) (R:List UInt8) (hR:x.drop (ndg x+1)=R) (d:UInt8) (hd:R[shN R]? = some d) (r:List UInt8) (hr:R.drop (shN R+1)=r) (h0:ndg x≠0) (h1:ndg x<x.length) (h2:c=39) (h3:¬ 1<ndg x∨1<ndg x∧x.head? ≠ some 48) (g0:shN R≠0) (g1:shN R<R.length) (g2:d=34) (k0:shN r=0) (xp:0<x.length) :
  Calls Tryz.prog 9 #[.string s] w fun e W'=>e = .returned (.tuple #[.string ⟨#[]⟩,.int .i64 3])∧Below w.heap.size w W':=by
 have hsz:(bO x).size=x.length:=ai x
 have hl:x.length≤90:=by have:=bj s.data.toList;have h2:s.data.toList.length=s.size:=rfl;rw [hx] at this;omega
 have kd:=fun W (_:Below w.heap.size w W)=>m6 s w h9 T hE hS x hx W
 have gc:∀ h:ndg x<(bO x).size,(bO x)[ndg x]'h=c:=fun h=>by have:=gy x (ndg x) (by omega);rw [hc] at this;exact (Option.some.inj this).symm
 have lR:R.length+ndg x+1=x.length:=by rw [←hR,List.length_drop];omega
 have hF:∀ p0:0<(bO x).size,¬ (1:Int)<(ndg x:Nat)∨(1:Int)<(ndg x:Nat)∧((((bO x)[0]'p0).toNat:Int)==48)=false:=fun p0=>h3.elim (fun h => .inl (by omega)) fun h => .inr ⟨by omega,uq h.2 p0⟩
 have fR:(bO x).extract (ndg x+1) (bO x).size=bO R:=by rw [df,hR]
 have ks:=fun W (hW:Below w.heap.size w W)=>gx R (by omega) W (T.next hW) (bZ hE hW) (ch hS hW)
 have hRs:(bO R).size=R.length:=ai R
 have gd:∀ h:shN R<(bO R).size,(bO R)[shN R]'h=d:=fun h=>by have:=gy R (shN R) (by omega);rw [hd] at this;exact (Option.some.inj this).symm
 have lr:r.length+shN R+1=R.length:=by rw [←hr,List.length_drop];omega
 have fr:(bO R).extract (shN R+1) (bO R).size=bO r:=by rw [df,hr]
 have ku:=fun W (hW:Below w.heap.size w W)=>gx r (by omega) W (T.next hW) (bZ hE hW) (ch hS hW)
 have hrs:(bO r).size=r.length:=ai r
 cases hn:af s.data.toList
 ·have es:=sx s w h9 T hE hS x hx hn
  have hp:0<s.size:=by rw [es,hsz];exact xp
  have i45:=(au hp).trans hn
  have ie:=aZ hp
  clear hn
  subst es
  exact Bc (bO x) (bO x) (ndg x) w (by omega) hp i45 ie (by omega) (by have:=bV x;omega) (by rw [beq_eq_false_iff_ne];omega) (by rw [beq_eq_false_iff_ne,hsz];omega) (by omega) (by omega) c (gc _) (cye h2) (by omega) (hF _) (bO (x.take (ndg x))) (bO R) (bT x (ndg x)) (ndg x+1) (by omega) (by omega) (by omega) fR (shK R) (shN R) (by rw [beq_eq_false_iff_ne];omega) (by omega) (by omega) (by rw [beq_eq_false_iff_ne,hRs];omega) (by omega) (by omega) d (gd _) (cye g2) (bO r) (shN R+1) (by omega) (by omega) (by omega) fr (shK r) (shN r) (by rw [k0];rfl) kd ks ku
 ·have hp:=aT hn
  exact Bl s (bO x) (ndg x) w (by omega) hp ((au hp).trans hn) (aZ hp) ((dE hn).trans (zx s w h9 T hE hS x hx)) (by omega) (by omega) (by omega) (by have:=bV x;omega) (by rw [beq_eq_false_iff_ne];omega) (by rw [beq_eq_false_iff_ne,hsz];omega) (by omega) (by omega) c (gc _) (cye h2) (by omega) (hF _) (bO (x.take (ndg x))) (bO R) (bT x (ndg x)) (ndg x+1) (by omega) (by omega) (by omega) fR (shK R) (shN R) (by rw [beq_eq_false_iff_ne];omega) (by omega) (by omega) (by rw [beq_eq_false_iff_ne,hRs];omega) (by omega) (by omega) d (gd _) (cye g2) (bO r) (shN R+1) (by omega) (by omega) (by omega) fr (shK r) (shN r) (by rw [k0];rfl) kd ks ku
theorem Dt (c:UInt8) (hc:x[ndg x]? = some c) (R:List UInt8) (hR:x.drop (ndg x+1)=R) (d:UInt8) (hd:R[shN R]? = some d) (r:List UInt8) (hr:R.drop (shN R+1)=r) (h0:ndg x≠0) (h1:ndg x<x.length) (h2:c=39) (h3:¬ 1<ndg x∨1<ndg x∧x.head? ≠ some 48) (g0:shN R≠0) (g1:shN R<R.length) (g2:d=34) (k0:shN r≠0) (k1:shN r<r.length) (xp:0<x.length) :
  Calls Tryz.prog 9 #[.string s] w fun e W'=>e = .returned (.tuple #[.string ⟨#[]⟩,.int .i64 3])∧Below w.heap.size w W':=by
 have hsz:(bO x).size=x.length:=ai x
 have hl:x.length≤90:=by have:=bj s.data.toList;have h2:s.data.toList.length=s.size:=rfl;rw [hx] at this;omega
 have kd:=fun W (_:Below w.heap.size w W)=>m6 s w h9 T hE hS x hx W
 have gc:∀ h:ndg x<(bO x).size,(bO x)[ndg x]'h=c:=fun h=>by have:=gy x (ndg x) (by omega);rw [hc] at this;exact (Option.some.inj this).symm
 have lR:R.length+ndg x+1=x.length:=by rw [←hR,List.length_drop];omega
 have hF:∀ p0:0<(bO x).size,¬ (1:Int)<(ndg x:Nat)∨(1:Int)<(ndg x:Nat)∧((((bO x)[0]'p0).toNat:Int)==48)=false:=fun p0=>h3.elim (fun h => .inl (by omega)) fun h => .inr ⟨by omega,uq h.2 p0⟩
 have fR:(bO x).extract (ndg x+1) (bO x).size=bO R:=by rw [df,hR]
 have ks:=fun W (hW:Below w.heap.size w W)=>gx R (by omega) W (T.next hW) (bZ hE hW) (ch hS hW)
 have hRs:(bO R).size=R.length:=ai R
 have gd:∀ h:shN R<(bO R).size,(bO R)[shN R]'h=d:=fun h=>by have:=gy R (shN R) (by omega);rw [hd] at this;exact (Option.some.inj this).symm
 have lr:r.length+shN R+1=R.length:=by rw [←hr,List.length_drop];omega
 have fr:(bO R).extract (shN R+1) (bO R).size=bO r:=by rw [df,hr]
 have ku:=fun W (hW:Below w.heap.size w W)=>gx r (by omega) W (T.next hW) (bZ hE hW) (ch hS hW)
 have hrs:(bO r).size=r.length:=ai r
 cases hn:af s.data.toList
 ·have es:=sx s w h9 T hE hS x hx hn
  have hp:0<s.size:=by rw [es,hsz];exact xp
  have i45:=(au hp).trans hn
  have ie:=aZ hp
  clear hn
  subst es
  exact Be (bO x) (bO x) (ndg x) w (by omega) hp i45 ie (by omega) (by have:=bV x;omega) (by rw [beq_eq_false_iff_ne];omega) (by rw [beq_eq_false_iff_ne,hsz];omega) (by omega) (by omega) c (gc _) (cye h2) (by omega) (hF _) (bO (x.take (ndg x))) (bO R) (bT x (ndg x)) (ndg x+1) (by omega) (by omega) (by omega) fR (shK R) (shN R) (by rw [beq_eq_false_iff_ne];omega) (by omega) (by omega) (by rw [beq_eq_false_iff_ne,hRs];omega) (by omega) (by omega) d (gd _) (cye g2) (bO r) (shN R+1) (by omega) (by omega) (by omega) fr (shK r) (shN r) (by rw [beq_eq_false_iff_ne];omega) (by omega) kd ks ku
 ·have hp:=aT hn
  exact Bm s (bO x) (ndg x) w (by omega) hp ((au hp).trans hn) (aZ hp) ((dE hn).trans (zx s w h9 T hE hS x hx)) (by omega) (by omega) (by omega) (by have:=bV x;omega) (by rw [beq_eq_false_iff_ne];omega) (by rw [beq_eq_false_iff_ne,hsz];omega) (by omega) (by omega) c (gc _) (cye h2) (by omega) (hF _) (bO (x.take (ndg x))) (bO R) (bT x (ndg x)) (ndg x+1) (by omega) (by omega) (by omega) fR (shK R) (shN R) (by rw [beq_eq_false_iff_ne];omega) (by omega) (by omega) (by rw [beq_eq_false_iff_ne,hRs];omega) (by omega) (by omega) d (gd _) (cye g2) (bO r) (shN R+1) (by omega) (by omega) (by omega) fr (shK r) (shN r) (by rw [beq_eq_false_iff_ne];omega) (by omega) kd ks ku
theorem D3 (c:UInt8) (hc:x[ndg x]? = some c) (R:List UInt8) (hR:x.drop (ndg x+1)=R) (d:UInt8) (hd:R[shN R]? = some d) (r:List UInt8) (hr:R.drop (shN R+1)=r) (m:Nat) (h0:ndg x≠0) (h1:ndg x<x.length) (h2:c=39) (h3:¬ 1<ndg x∨1<ndg x∧x.head? ≠ some 48) (g0:shN R≠0) (g1:shN R<R.length) (g2:d=34) (k0:shN r≠0) (k1:¬ shN r<r.length) (e1:x.take (ndg x)=Lib.decDigits (m / 144)) (e2:12*shK R+shK r=m % 144) (hn:af s.data.toList=true) (m0:m=0) (xp:0<x.length) :
  Calls Tryz.prog 9 #[.string s] w fun e W'=>e = .returned (.tuple #[.string ⟨#[]⟩,.int .i64 3])∧Below w.heap.size w W':=by
 have hsz:(bO x).size=x.length:=ai x
 have hl:x.length≤90:=by have:=bj s.data.toList;have h2:s.data.toList.length=s.size:=rfl;rw [hx] at this;omega
 have kd:=fun W (_:Below w.heap.size w W)=>m6 s w h9 T hE hS x hx W
 have gc:∀ h:ndg x<(bO x).size,(bO x)[ndg x]'h=c:=fun h=>by have:=gy x (ndg x) (by omega);rw [hc] at this;exact (Option.some.inj this).symm
 have lR:R.length+ndg x+1=x.length:=by rw [←hR,List.length_drop];omega
 have hF:∀ p0:0<(bO x).size,¬ (1:Int)<(ndg x:Nat)∨(1:Int)<(ndg x:Nat)∧((((bO x)[0]'p0).toNat:Int)==48)=false:=fun p0=>h3.elim (fun h => .inl (by omega)) fun h => .inr ⟨by omega,uq h.2 p0⟩
 have fR:(bO x).extract (ndg x+1) (bO x).size=bO R:=by rw [df,hR]
 have ks:=fun W (hW:Below w.heap.size w W)=>gx R (by omega) W (T.next hW) (bZ hE hW) (ch hS hW)
 have hRs:(bO R).size=R.length:=ai R
 have gd:∀ h:shN R<(bO R).size,(bO R)[shN R]'h=d:=fun h=>by have:=gy R (shN R) (by omega);rw [hd] at this;exact (Option.some.inj this).symm
 have lr:r.length+shN R+1=R.length:=by rw [←hr,List.length_drop];omega
 have fr:(bO R).extract (shN R+1) (bO R).size=bO r:=by rw [df,hr]
 have ku:=fun W (hW:Below w.heap.size w W)=>gx r (by omega) W (T.next hW) (bZ hE hW) (ch hS hW)
 have hrs:(bO r).size=r.length:=ai r
 have iR:=qK R
 have ir:=qK r
 have dl:m / 144<aA 90:=by
  have:=cV _ (aG (m / 144))
  rw [bY,←e1] at this
  exact Nat.lt_of_lt_of_le this (ay (by rw [List.length_take];omega))
 have fq:=pK (k:=90) (by decide) dl
 have rq:Bq 3 ((((m % 144:Nat):Int)):Rat):=pK (by decide) (Nat.lt_of_lt_of_le (Nat.mod_lt _ (by decide)) (by decide))
 have pq:=(fS fq gN (by decide)).2.2
 have val:(((m / 144:Nat):Int):Rat)*iP+(((m % 144:Nat):Int):Rat)=((m:Int):Rat):=by
  show (((m / 144:Nat):Int):Rat)*(((144:Nat):Int):Rat)+_=_
  rw [←Rat.intCast_mul,←Rat.intCast_add]
  congr 1;omega
 have mq:=(nA pq rq (by decide)).2.2
 rw [val] at mq
 have kp:∀ W,Below w.heap.size w W→Calls Tryz.prog 25 #[.string (bO (x.take (ndg x))),.string ⟨#[49,52,52]⟩] W fun e W'=>e = .returned (.string (ag ((((m / 144:Nat):Int):Rat)*iP)))∧Below W.heap.size W W':=fun W hW=>by
  have c:=oD _ _ W fq gN (by decide) (T.next hW)
  rwa [lF,cR,←aR,←e1] at c
 have ki:∀ q:Int,q=12*(shK R:Nat)+(shK r:Nat)→∀ W,Below w.heap.size w W→Calls Tryz.prog 27 #[.int .i64 q] W fun e W'=>e = .returned (.string (ag (((m % 144:Nat):Int):Rat)))∧Below W.heap.size W W':=fun q hq W hW=>by
  have c:=un (m % 144) (by omega) q (by omega) W (T.next hW)
  rwa [aR,←cR] at c
 have ka:∀ W,Below w.heap.size w W→Calls Tryz.prog 32 #[.string (ag ((((m / 144:Nat):Int):Rat)*iP)),.string (ag (((m % 144:Nat):Int):Rat))] W fun e W'=>e = .returned (.tuple #[.string (ag ((m:Int):Rat)),.int .i64 0])∧Below W.heap.size W W':=fun W hW=>by
  have c:=Ca _ _ W pq rq (by decide) (T.next hW)
  rwa [val] at c
 have is0:=eH ((m:Int):Rat)
 have hp:=aT hn
 exact Df s (bO x) (ndg x) w (by omega) hp ((au hp).trans hn) (aZ hp) ((dE hn).trans (zx s w h9 T hE hS x hx)) (by omega) (by omega) (by omega) (by have:=bV x;omega) (by rw [beq_eq_false_iff_ne];omega) (by rw [beq_eq_false_iff_ne,hsz];omega) (by omega) (by omega) c (gc _) (cye h2) (by omega) (hF _) (bO (x.take (ndg x))) (bO R) (bT x (ndg x)) (ndg x+1) (by omega) (by omega) (by omega) fR (shK R) (shN R) (by rw [beq_eq_false_iff_ne];omega) (by omega) (by omega) (by rw [beq_eq_false_iff_ne,hRs];omega) (by omega) (by omega) d (gd _) (cye g2) (bO r) (shN R+1) (by omega) (by omega) (by omega) fr (shK r) (shN r) (by rw [beq_eq_false_iff_ne];omega) (by omega) (by omega) (by omega) _ _ _ ⟨#[]⟩ ⟨#[]⟩ 0 (by rw [is0,m0];rfl) kd ks ku kp ki ka
theorem D4 (c:UInt8) (hc:x[ndg x]? = some c) (R:List UInt8) (hR:x.drop (ndg x+1)=R) (d:UInt8) (hd:R[shN R]? = some d) (r:List UInt8) (hr:R.drop (shN R+1)=r) (m:Nat) (h0:ndg x≠0) (h1:ndg x<x.length) (h2:c=39) (h3:¬ 1<ndg x∨1<ndg x∧x.head? ≠ some 48) (g0:shN R≠0) (g1:shN R<R.length) (g2:d=34) (k0:shN r≠0) (k1:¬ shN r<r.length) (e1:x.take (ndg x)=Lib.decDigits (m / 144)) (e2:12*shK R+shK r=m % 144) (m0:af s.data.toList=true→m≠0) (xp:0<x.length) :
  Calls Tryz.prog 9 #[.string s] w fun e W'=>e = .returned (.tuple #[.string (ag ((((if af s.data.toList then -(m:Int) else m):Int):Rat)*tw)),.int .i64 0])∧Below w.heap.size w W':=by
 have hsz:(bO x).size=x.length:=ai x
 have hl:x.length≤90:=by have:=bj s.data.toList;have h2:s.data.toList.length=s.size:=rfl;rw [hx] at this;omega
 have kd:=fun W (_:Below w.heap.size w W)=>m6 s w h9 T hE hS x hx W
 have gc:∀ h:ndg x<(bO x).size,(bO x)[ndg x]'h=c:=fun h=>by have:=gy x (ndg x) (by omega);rw [hc] at this;exact (Option.some.inj this).symm
 have lR:R.length+ndg x+1=x.length:=by rw [←hR,List.length_drop];omega
 have hF:∀ p0:0<(bO x).size,¬ (1:Int)<(ndg x:Nat)∨(1:Int)<(ndg x:Nat)∧((((bO x)[0]'p0).toNat:Int)==48)=false:=fun p0=>h3.elim (fun h => .inl (by omega)) fun h => .inr ⟨by omega,uq h.2 p0⟩
 have fR:(bO x).extract (ndg x+1) (bO x).size=bO R:=by rw [df,hR]
 have ks:=fun W (hW:Below w.heap.size w W)=>gx R (by omega) W (T.next hW) (bZ hE hW) (ch hS hW)
 have hRs:(bO R).size=R.length:=ai R
 have gd:∀ h:shN R<(bO R).size,(bO R)[shN R]'h=d:=fun h=>by have:=gy R (shN R) (by omega);rw [hd] at this;exact (Option.some.inj this).symm
 have lr:r.length+shN R+1=R.length:=by rw [←hr,List.length_drop];omega
 have fr:(bO R).extract (shN R+1) (bO R).size=bO r:=by rw [df,hr]
 have ku:=fun W (hW:Below w.heap.size w W)=>gx r (by omega) W (T.next hW) (bZ hE hW) (ch hS hW)
 have hrs:(bO r).size=r.length:=ai r
 have iR:=qK R
 have ir:=qK r
 have dl:m / 144<aA 90:=by
  have:=cV _ (aG (m / 144))
  rw [bY,←e1] at this
  exact Nat.lt_of_lt_of_le this (ay (by rw [List.length_take];omega))
 have fq:=pK (k:=90) (by decide) dl
 have rq:Bq 3 ((((m % 144:Nat):Int)):Rat):=pK (by decide) (Nat.lt_of_lt_of_le (Nat.mod_lt _ (by decide)) (by decide))
 have pq:=(fS fq gN (by decide)).2.2
 have val:(((m / 144:Nat):Int):Rat)*iP+(((m % 144:Nat):Int):Rat)=((m:Int):Rat):=by
  show (((m / 144:Nat):Int):Rat)*(((144:Nat):Int):Rat)+_=_
  rw [←Rat.intCast_mul,←Rat.intCast_add]
  congr 1;omega
 have mq:=(nA pq rq (by decide)).2.2
 rw [val] at mq
 have kp:∀ W,Below w.heap.size w W→Calls Tryz.prog 25 #[.string (bO (x.take (ndg x))),.string ⟨#[49,52,52]⟩] W fun e W'=>e = .returned (.string (ag ((((m / 144:Nat):Int):Rat)*iP)))∧Below W.heap.size W W':=fun W hW=>by
  have c:=oD _ _ W fq gN (by decide) (T.next hW)
  rwa [lF,cR,←aR,←e1] at c
 have ki:∀ q:Int,q=12*(shK R:Nat)+(shK r:Nat)→∀ W,Below w.heap.size w W→Calls Tryz.prog 27 #[.int .i64 q] W fun e W'=>e = .returned (.string (ag (((m % 144:Nat):Int):Rat)))∧Below W.heap.size W W':=fun q hq W hW=>by
  have c:=un (m % 144) (by omega) q (by omega) W (T.next hW)
  rwa [aR,←cR] at c
 have ka:∀ W,Below w.heap.size w W→Calls Tryz.prog 32 #[.string (ag ((((m / 144:Nat):Int):Rat)*iP)),.string (ag (((m % 144:Nat):Int):Rat))] W fun e W'=>e = .returned (.tuple #[.string (ag ((m:Int):Rat)),.int .i64 0])∧Below W.heap.size W W':=fun W hW=>by
  have c:=Ca _ _ W pq rq (by decide) (T.next hW)
  rwa [val] at c
 have is0:=eH ((m:Int):Rat)
 cases hn:af s.data.toList
 ·have kb:∀ W,Below w.heap.size w W→Calls Tryz.prog 25 #[.string ⟨#[49]⟩,.string (ag ((m:Int):Rat))] W fun e W'=>e = .returned (.string (ag ((m:Int):Rat)))∧Below W.heap.size W W':=fun W hW=>by
   have c:=oD 1 ((m:Int):Rat) W Cj mq (by decide) (T.next hW)
   rwa [DX,Rat.one_mul] at c
  have kc:∀ W,Below w.heap.size w W→Calls Tryz.prog 25 #[.string (ag ((m:Int):Rat)),.string ⟨#[49,50,55,47,54,48]⟩] W fun e W'=>e = .returned (.string (ag (((m:Int):Rat)*tw)))∧Below W.heap.size W W':=fun W hW=>by
   have c:=oD ((m:Int):Rat) tw W mq j6 (by decide) (T.next hW)
   rwa [mj] at c
  rw [if_neg (by decide)]
  have es:=sx s w h9 T hE hS x hx hn
  have hp:0<s.size:=by rw [es,hsz];exact xp
  have i45:=(au hp).trans hn
  have ie:=aZ hp
  clear hn m0
  subst es
  by_cases mz:m=0
  ·exact De (bO x) (bO x) (ndg x) w (by omega) hp i45 ie (by omega) (by have:=bV x;omega) (by rw [beq_eq_false_iff_ne];omega) (by rw [beq_eq_false_iff_ne,hsz];omega) (by omega) (by omega) c (gc _) (cye h2) (by omega) (hF _) (bO (x.take (ndg x))) (bO R) (bT x (ndg x)) (ndg x+1) (by omega) (by omega) (by omega) fR (shK R) (shN R) (by rw [beq_eq_false_iff_ne];omega) (by omega) (by omega) (by rw [beq_eq_false_iff_ne,hRs];omega) (by omega) (by omega) d (gd _) (cye g2) (bO r) (shN R+1) (by omega) (by omega) (by omega) fr (shK r) (shN r) (by rw [beq_eq_false_iff_ne];omega) (by omega) (by omega) (by omega) _ _ _ _ _ 0 (by rw [is0,mz];rfl) kd ks ku kp ki ka kb kc
  ·exact Dd (bO x) (bO x) (ndg x) w (by omega) hp i45 ie (by omega) (by have:=bV x;omega) (by rw [beq_eq_false_iff_ne];omega) (by rw [beq_eq_false_iff_ne,hsz];omega) (by omega) (by omega) c (gc _) (cye h2) (by omega) (hF _) (bO (x.take (ndg x))) (bO R) (bT x (ndg x)) (ndg x+1) (by omega) (by omega) (by omega) fR (shK R) (shN R) (by rw [beq_eq_false_iff_ne];omega) (by omega) (by omega) (by rw [beq_eq_false_iff_ne,hRs];omega) (by omega) (by omega) d (gd _) (cye g2) (bO r) (shN R+1) (by omega) (by omega) (by omega) fr (shK r) (shN r) (by rw [beq_eq_false_iff_ne];omega) (by omega) (by omega) (by omega) _ _ _ _ _ 0 (by rw [is0];exact decide_eq_false (fun z=>mz (by have:=Rat.intCast_eq_zero_iff.1 z;omega))) kd ks ku kp ki ka kb kc
 ·have m1:=m0 hn
  have neq:=(fS vg mq (by decide)).2.2
  have kb:∀ W,Below w.heap.size w W→Calls Tryz.prog 25 #[.string ⟨#[45,49]⟩,.string (ag ((m:Int):Rat))] W fun e W'=>e = .returned (.string (ag (-1*((m:Int):Rat))))∧Below W.heap.size W W':=fun W hW=>by
   have c:=oD (-1) ((m:Int):Rat) W vg mq (by decide) (T.next hW)
   rwa [C9] at c
  have kc:∀ W,Below w.heap.size w W→Calls Tryz.prog 25 #[.string (ag (-1*((m:Int):Rat))),.string ⟨#[49,50,55,47,54,48]⟩] W fun e W'=>e = .returned (.string (ag (-1*((m:Int):Rat)*tw)))∧Below W.heap.size W W':=fun W hW=>by
   have c:=oD (-1*((m:Int):Rat)) tw W neq j6 (by decide) (T.next hW)
   rwa [mj] at c
  have eN:(((if true=true then -(m:Int) else m):Int):Rat) = -1*((m:Int):Rat):=by
   rw [if_pos rfl,Rat.intCast_neg];grind
  rw [eN]
  have hp:=aT hn
  exact Dh s (bO x) (ndg x) w (by omega) hp ((au hp).trans hn) (aZ hp) ((dE hn).trans (zx s w h9 T hE hS x hx)) (by omega) (by omega) (by omega) (by have:=bV x;omega) (by rw [beq_eq_false_iff_ne];omega) (by rw [beq_eq_false_iff_ne,hsz];omega) (by omega) (by omega) c (gc _) (cye h2) (by omega) (hF _) (bO (x.take (ndg x))) (bO R) (bT x (ndg x)) (ndg x+1) (by omega) (by omega) (by omega) fR (shK R) (shN R) (by rw [beq_eq_false_iff_ne];omega) (by omega) (by omega) (by rw [beq_eq_false_iff_ne,hRs];omega) (by omega) (by omega) d (gd _) (cye g2) (bO r) (shN R+1) (by omega) (by omega) (by omega) fr (shK r) (shN r) (by rw [beq_eq_false_iff_ne];omega) (by omega) (by omega) (by omega) _ _ _ _ _ 0 (by rw [is0];exact decide_eq_false (fun z=>m1 (by have:=Rat.intCast_eq_zero_iff.1 z;omega))) kd ks ku kp ki ka kb kc
theorem D5 (h0:x.length=0) :
  Calls Tryz.prog 9 #[.string s] w fun e W'=>e = .returned (.tuple #[.string ⟨#[]⟩,.int .i64 3])∧Below w.heap.size w W':=by
 have hsz:(bO x).size=x.length:=ai x
 have kd:=fun W (_:Below w.heap.size w W)=>m6 s w h9 T hE hS x hx W
 have n0:ndg x=0:=by have:=bV x;omega
 cases hn:af s.data.toList
 ·have es:=sx s w h9 T hE hS x hx hn
  have hp:s.size=0:=by rw [es,hsz];exact h0
  clear hn
  subst es
  exact Di (bO x) w (by omega) (sI (cQ hp)) (by rw [n0] at kd;exact kd)
 ·have hp:=aT hn
  exact vj s (bO x) (ndg x) w (by omega) hp ((au hp).trans hn) (aZ hp) ((dE hn).trans (zx s w h9 T hE hS x hx)) (by omega) (by omega) (by omega) (by omega) (by rw [n0];rfl) kd
end
theorem Br (s:ByteArray) (w:World) (T:TabM w) (hE:sw w) (hS:sL w) :
  Calls Tryz.prog 9 #[.string s] w fun e W'=>e = .returned (.tuple #[.string (pfB s.data.toList),.int .i64 (pfE s.data.toList)])∧Below w.heap.size w W':=by
 have hls:s.data.toList.length=s.size:=rfl
 by_cases h90:90<s.size
 ·have e1:pfE s.data.toList=4:=by unfold pfE;rw [if_pos (by omega)]
  have e2:pfB s.data.toList=⟨#[]⟩:=by unfold pfB;rw [e1,if_neg (by decide)]
  rw [e1,e2]
  exact zm s w (by omega)
 have h9:s.size≤90:=by omega
 obtain ⟨x,hx⟩:∃ x,szL s.data.toList=x:=⟨_,rfl⟩
 have hxl:x.length≤90:=by have:=bj s.data.toList;rw [hx] at this;omega
 by_cases ok:pfO s.data.toList=true
 ·obtain ⟨m,hm,ht,h0⟩:=Dj ok
  have e1:pfE s.data.toList=0:=by unfold pfE;rw [if_neg (by omega),if_pos ok]
  have e2:pfB s.data.toList=ag ((tz9 s.data.toList:Rat)*tw):=by unfold pfB;rw [if_pos e1]
  rw [e1,e2,ht]
  rw [hx] at hm
  have e39:aj 39=false:=by decide
  have e34:aj 34=false:=by decide
  have hn:ndg x=(Lib.decDigits (m / 144)).length:=by rw [hm];exact u5 (aG _) e39 _
  have d0:=List.length_pos_iff.2 (bL (m / 144))
  have xl:x.length=(Lib.decDigits (m / 144)).length+1+((Lib.decDigits (m / 12 % 12)).length+1+(Lib.decDigits (m % 12)).length):=by
   rw [hm];unfold ftU;simp only [List.length_append,List.length_cons];omega
  have hc:x[ndg x]? = some 39:=by rw [hn,hm];unfold ftU;rw [List.getElem?_append_right (Nat.le_refl _),Nat.sub_self];rfl
  have hR:x.drop (ndg x+1)=Lib.decDigits (m / 12 % 12)++34::Lib.decDigits (m % 12):=by
   rw [hn,hm];unfold ftU
   rw [←List.drop_drop,List.drop_left' rfl];rfl
  have sR:=zr (k:=m / 12 % 12) (by omega) (r:=34::Lib.decDigits (m % 12)) (.inr ⟨_,_,rfl,e34⟩)
  have sr:=zr (k:=m % 12) (by omega) (r := []) (.inl rfl)
  rw [List.append_nil] at sr
  have hd:(Lib.decDigits (m / 12 % 12)++34::Lib.decDigits (m % 12))[shN (Lib.decDigits (m / 12 % 12)++34::Lib.decDigits (m % 12))]? = some 34:=by
   rw [sR.1,List.getElem?_append_right (Nat.le_refl _),Nat.sub_self];rfl
  have hr:(Lib.decDigits (m / 12 % 12)++34::Lib.decDigits (m % 12)).drop (shN (Lib.decDigits (m / 12 % 12)++34::Lib.decDigits (m % 12))+1)=Lib.decDigits (m % 12):=by
   rw [sR.1,←List.drop_drop,List.drop_left' rfl];rfl
  have l1:=List.length_pos_iff.2 (bL (m / 12 % 12))
  have l2:=List.length_pos_iff.2 (bL (m % 12))
  refine D4 s w h9 T hE hS x hx 39 hc _ hR 34 hd _ hr m (by omega) (by omega) rfl ?_ (by rw [sR.1];omega) (by rw [sR.1,List.length_append,List.length_cons];omega) rfl (by rw [sr.1];omega) (by rw [sr.1];omega) ?_ (by rw [sR.2,sr.2];omega) h0 (by omega)
  ·rw [hn,hm];exact Dk (m / 144) _
  ·rw [hn,hm];unfold ftU;rw [List.take_left' rfl]
 ·have e1:pfE s.data.toList=3:=by unfold pfE;rw [if_neg (by omega),if_neg ok]
  have e2:pfB s.data.toList=⟨#[]⟩:=by unfold pfB;rw [e1,if_neg (by decide)]
  rw [e1,e2]
  obtain ⟨D,R0,e,hd,hn,hR0⟩:=jP x
  have hlen:x.length=D.length+R0.length:=by rw [e,List.length_append]
  by_cases h0:ndg x=0
  ·by_cases xp:0<x.length
   ·exact Dl s w h9 T hE hS x hx h0 xp
   ·exact D5 s w h9 T hE hS x hx (by omega)
  have xp:0<x.length:=by omega
  rcases hR0 with z | ⟨c,R,z,hc⟩
  ·exact Dm s w h9 T hE hS x hx h0 (by rw [hn,hlen,z];rfl) xp
  rw [z,List.length_cons] at hlen
  have h1:ndg x<x.length:=by omega
  have xc:x[ndg x]? = some c:=by rw [hn,e,z,List.getElem?_append_right (Nat.le_refl _),Nat.sub_self];rfl
  by_cases h2:c≠39
  ·exact Dn s w h9 T hE hS x hx c xc h0 h1 h2 xp
  have h2:=Decidable.not_not.1 h2
  by_cases h3:1<ndg x∧x.head? = some 48
  ·exact Do s w h9 T hE hS x hx c xc h0 h1 h2 h3.1 h3.2 xp
  have h3':¬ 1<ndg x∨1<ndg x∧x.head? ≠ some 48:=by
   by_cases k:1<ndg x
   ·exact .inr ⟨k,fun q=>h3 ⟨k,q⟩⟩
   ·exact .inl k
  have hR:x.drop (ndg x+1)=R:=by rw [hn,e,z,←List.drop_drop,List.drop_left' rfl];rfl
  have dD:D=Lib.decDigits (ad D):=Bp hd (fun q=>by rw [q] at hn;exact h0 hn) (by
   rw [←hn]
   refine h3'.imp_right fun h=>⟨h.1,fun q=>h.2 ?_⟩
   rw [e]
   cases D with
   | nil=>exact absurd hn h0
   | cons a u=>exact q)
  have hD:x.take (ndg x)=D:=by rw [hn,e,List.take_left' rfl]
  by_cases g0:shN R=0
  ·exact Dp s w h9 T hE hS x hx c xc R hR h0 h1 h2 h3' g0 xp
  obtain ⟨q1,q2,q3,q4⟩:=qJ g0
  have gl:shN R≤R.length:=by rw [q1];exact bV R
  by_cases g1:shN R=R.length
  ·exact Dq s w h9 T hE hS x hx c xc R hR h0 h1 h2 h3' g0 g1 xp
  have g1':shN R<R.length:=by omega
  obtain ⟨d,hd2⟩:∃ d,R[shN R]? = some d:=⟨_,List.getElem?_eq_getElem g1'⟩
  by_cases g2:d≠34
  ·exact Dr s w h9 T hE hS x hx c xc R hR d hd2 h0 h1 h2 h3' g0 g1' g2 xp
  have g2:=Decidable.not_not.1 g2
  obtain ⟨r,hr⟩:∃ r,R.drop (shN R+1)=r:=⟨_,rfl⟩
  by_cases k0:shN r=0
  ·exact Ds s w h9 T hE hS x hx c xc R hR d hd2 r hr h0 h1 h2 h3' g0 g1' g2 k0 xp
  obtain ⟨u1,u2,u3,u4⟩:=qJ k0
  by_cases k1:shN r<r.length
  ·exact Dt s w h9 T hE hS x hx c xc R hR d hd2 r hr h0 h1 h2 h3' g0 g1' g2 k0 k1 xp
  have er:r=Lib.decDigits (shK r):=by rw [←u2,List.take_of_length_le (by omega)]
  have eR:R=Lib.decDigits (shK R)++34::r:=by
   rw [←q2,←hr]
   have h:=List.take_append_drop (shN R) R
   rw [List.drop_eq_getElem_cons g1'] at h
   rw [List.getElem?_eq_getElem g1',g2] at hd2
   rw [Option.some.inj hd2] at h
   exact h.symm
  have hm:x=ftU (ad D*144+(12*shK R+shK r)):=by
   have a1:(ad D*144+(12*shK R+shK r)) / 144=ad D:=by omega
   have a2:(ad D*144+(12*shK R+shK r)) / 12 % 12=shK R:=by omega
   have a3:(ad D*144+(12*shK R+shK r)) % 12=shK r:=by omega
   unfold ftU
   rw [a1,a2,a3,←dD,←er,←eR,e,z,h2]
  by_cases hneg:af s.data.toList=true∧ad D*144+(12*shK R+shK r)=0
  ·exact D3 s w h9 T hE hS x hx c xc R hR d hd2 r hr (ad D*144+(12*shK R+shK r)) h0 h1 h2 h3' g0 g1' g2 k0 k1 (by rw [hD,show (ad D*144+(12*shK R+shK r)) / 144=ad D by omega];exact dD) (by omega) hneg.1 hneg.2 xp
  ·exact absurd (D0 (by omega) (hx.trans hm) (fun hn0 q=>hneg ⟨hn0,q⟩)).1 ok
end Go.Proofs.YtocalfjfjjljnaaGreatDoor.T
