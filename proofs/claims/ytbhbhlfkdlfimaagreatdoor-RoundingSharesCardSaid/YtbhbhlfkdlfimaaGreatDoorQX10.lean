/- Parts of the proof of the text YtbhbhlfkdlfimaaGreatDoorQX29. -/
import Derived.Lib.IndexMore
import Derived.Lib.IndexBytes
import Derived.Lib.TrailingZeros
import Derived.Test.YtbhbhlfkdlfimaaGreatDoorQX1
import Derived.Test.YtbhbhlfkdlfimaaGreatDoorQX2
import Derived.Test.YtbhbhlfkdlfimaaGreatDoorQX5
import Derived.Test.YtbhbhlfkdlfimaaGreatDoorQX9
set_option linter.all false
set_option maxRecDepth 100000
set_option maxHeartbeats 8000000
namespace Go.Proofs.YtbhbhlfkdlfimaaGreatDoor
section
open Go.Lib
def cG (q:Rat):List UInt8:=if q.den=1 then itoa q.num else itoa q.num++47::itoa q.den
def be (l:List UInt8):List UInt8:=l.takeWhile (· != 47)
def bz (l:List UInt8):Bool:=l.contains 47
def aK (l:List UInt8):List UInt8:=if bz l then (l.dropWhile (· != 47)).tail else [49]
def dv (l:List UInt8):Bool:=chk (be l) != 11 && chk (aK l) != 11 && !aw (aK l) && aK l != [48] && !(bz l && aK l == [49])
def bB (l:List UInt8):Int :=
 if dv l=false then 11
 else if chk (be l)≠0∨chk (aK l)≠0 then 4
 else if (valOf (be l)).natAbs.gcd (ah (aK l))=1 then 0 else 11
def kK (l:List UInt8):Rat:=mkRat (valOf (be l)) (ah (aK l))
theorem kL (u:Nat):(47:UInt8) ∉ decDigits u:=fun h=>by
 have:=bg u 47 h
 revert this;decide
theorem xr (z:Int):(47:UInt8) ∉ itoa z:=by
 unfold itoa
 split
 ·simp [kL]
 ·exact kL _
theorem qi {α:Type} (p:α→Bool) (l:List α) (h:∀ x∈l,p x=true):l.takeWhile p=l:=by
 induction l with
 | nil=>rfl
 | cons a t ih=>rw [List.takeWhile_cons_of_pos (h a (by simp)),ih (fun x hx=>h x (by simp [hx]))]
theorem qk {α:Type} (p:α→Bool) (l:List α) (c:α) (m:List α) (h:∀ x∈l,p x=true) (hc:p c=false):(l++c::m).takeWhile p=l∧(l++c::m).dropWhile p=c::m:=by
 induction l with
 | nil=>exact ⟨List.takeWhile_cons_of_neg (by simp [hc]),List.dropWhile_cons_of_neg (by simp [hc])⟩
 | cons a t ih =>
  obtain ⟨i1,i2⟩:=ih (fun x hx=>h x (by simp [hx]))
  refine ⟨?_,?_⟩
  ·rw [List.cons_append,List.takeWhile_cons_of_pos (h a (by simp)),i1]
  ·rw [List.cons_append,List.dropWhile_cons_of_pos (h a (by simp)),i2]
theorem Aq {l:List UInt8} (h:(47:UInt8) ∉ l):∀ x∈l,(x != 47)=true:=fun x hx=>by
 rw [bne_iff_ne];rintro rfl;exact h hx
theorem nW {l:List UInt8} (h:(47:UInt8) ∉ l):be l=l∧bz l=false∧aK l = [49]:=by
 have h1:bz l=false:=by unfold bz;simpa using h
 refine ⟨qi _ _ (Aq h),h1,?_⟩
 unfold aK;rw [h1];rfl
theorem nX {n:List UInt8} (h:(47:UInt8) ∉ n) (d:List UInt8):be (n++47::d)=n∧bz (n++47::d)=true∧aK (n++47::d)=d:=by
 obtain ⟨h1,h2⟩:=qk (· != 47) n 47 d (Aq h) (by decide)
 have h3:bz (n++47::d)=true:=by unfold bz;simp
 refine ⟨h1,h3,?_⟩
 unfold aK;rw [h3,if_pos rfl,h2];rfl
theorem yM {l:List UInt8} (h:(47:UInt8)∈l):∃ s t,l=s++47::t∧(47:UInt8) ∉ s:=by
 induction l with
 | nil=>cases h
 | cons a m ih =>
  by_cases ha:a=47
  ·subst ha;exact ⟨[],m,rfl,by simp⟩
  ·have h':(47:UInt8)∈m:=by
    rcases List.mem_cons.1 h with q | q
    ·exact absurd q.symm ha
    ·exact q
   obtain ⟨s,t,rfl,hs⟩:=ih h'
   refine ⟨a::s,t,rfl,?_⟩
   rw [List.mem_cons,not_or]
   exact ⟨fun q=>ha q.symm,hs⟩
theorem iY (l:List UInt8):(bz l=false∧l=be l∧aK l = [49])∨(bz l=true∧l=be l++47::aK l):=by
 by_cases h:(47:UInt8)∈l
 ·right
  obtain ⟨s,t,rfl,hs⟩:=yM h
  obtain ⟨h1,h2,h3⟩:=nX hs t
  exact ⟨h2,by rw [h1,h3]⟩
 ·left
  obtain ⟨h1,h2,h3⟩:=nW h
  exact ⟨h2,h1.symm,h3⟩
theorem lW (l:List UInt8):(valOf l).natAbs=ah (szL l):=by unfold valOf szL;split <;> simp
theorem bU:itoa 1 = [49]:=by decide+kernel
theorem jF:valOf [49]=1:=by rw [←bU,cM]
theorem lX:ah [49]=1:=by decide
theorem gV {l:List UInt8} (h:aw l=false):(ah l:Int)=valOf l:=by unfold valOf;rw [h];rfl
theorem dI (q:Rat):be (cG q)=itoa q.num∧aK (cG q)=itoa q.den∧bz (cG q)=decide (q.den≠1):=by
 unfold cG
 by_cases h:q.den=1
 ·rw [if_pos h]
  obtain ⟨h1,h2,h3⟩:=nW (xr q.num)
  exact ⟨h1,by rw [h3,h];exact bU.symm,by rw [h2,h];rfl⟩
 ·rw [if_neg h]
  obtain ⟨h1,h2,h3⟩:=nX (xr q.num) (itoa q.den)
  exact ⟨h1,h3,by rw [h2];simp [h]⟩
theorem iZ (q:Rat):kK (cG q)=q:=by
 obtain ⟨h1,h2,_⟩:=dI q
 unfold kK
 rw [h1,h2,cM]
 have h3:(ah (itoa (q.den:Int)):Int)=(q.den:Int):=by
  rw [gV (by rw [bH];simp),cM]
 rw [Int.ofNat.inj h3,Rat.mkRat_self]
theorem yN {x y:Rat} (h:cG x=cG y):x=y:=by rw [←iZ x,←iZ y,h]
theorem tC (q:Rat):dv (cG q)=true:=by
 obtain ⟨h1,h2,h3⟩:=dI q
 have hd:=q.den_nz
 have c1:chk (itoa q.num)≠11:=by rw [gm];split <;> decide
 have c2:chk (itoa (q.den:Int))≠11:=by rw [gm];split <;> decide
 have c3:aw (itoa (q.den:Int))=false:=by rw [bH];simp
 have c4:itoa (q.den:Int) ≠ [48]:=fun h=>by
  rw [←fZ] at h
  have:=eJ h
  omega
 have c5:bz (cG q)=true→itoa (q.den:Int) ≠ [49]:=fun h h'=>by
  rw [←bU] at h'
  have:=eJ h'
  rw [h3] at h
  have:=of_decide_eq_true h
  omega
 unfold dv
 rw [h1,h2]
 cases hs:bz (cG q)
 ·simp [c1,c2,c3,c4]
 ·simp [c1,c2,c3,c4,c5 hs]
theorem vC (q:Rat):bB (cG q)=if q.num.natAbs<lim∧q.den<lim then 0 else 4:=by
 obtain ⟨h1,h2,_⟩:=dI q
 have h3:(ah (itoa (q.den:Int)):Int)=(q.den:Int):=by
  rw [gV (by rw [bH];simp),cM]
 have h4:=Int.ofNat.inj h3
 unfold bB
 rw [tC,if_neg (by decide),h1,h2,gm,gm,cM,h4,Int.natAbs_natCast]
 by_cases a1:q.num.natAbs<lim
 ·by_cases a2:q.den<lim
  ·rw [if_pos a1,if_pos a2,if_neg (by simp),if_pos q.reduced,if_pos ⟨a1,a2⟩]
  ·rw [if_pos a1,if_neg a2,if_pos (Or.inr (by decide)),if_neg (fun h=>a2 h.2)]
 ·rw [if_neg a1,if_pos (Or.inl (by decide)),if_neg (fun h=>a1 h.1)]
theorem nY {l:List UInt8} (h:bB l=0):dv l=true∧chk (be l)=0∧chk (aK l)=0∧(kK l).num=valOf (be l)∧((kK l).den:Int)=valOf (aK l)∧0<valOf (aK l):=by
 unfold bB at h
 split at h
 ·cases h
 ·rename_i hf
  split at h
  ·cases h
  ·rename_i hc
   split at h
   ·rename_i hg
    have hf':dv l=true:=by simpa using hf
    have hn:chk (be l)=0:=Decidable.byContradiction fun q=>hc (Or.inl q)
    have hd:chk (aK l)=0:=Decidable.byContradiction fun q=>hc (Or.inr q)
    have hx:=hf'
    unfold dv at hx
    simp only [Bool.and_eq_true,Bool.not_eq_true',bne_iff_ne,ne_eq] at hx
    have hneg:=hx.1.1.2
    have h48:=hx.1.2
    have hv:=gV hneg
    have hpos:0<valOf (aK l):=by
     rcases Int.lt_or_le 0 (valOf (aK l)) with q | q
     ·exact q
     ·exfalso
      refine h48 ?_
      rw [←dy _ hd,show valOf (aK l)=0 by omega,fZ]
    have hne:ah (aK l)≠0:=by omega
    have e:kK l=⟨valOf (be l),ah (aK l),hne,hg⟩:=(Rat.mk_eq_mkRat _ _ hne hg).symm
    exact ⟨hf',hn,hd,by rw [e],by rw [e];exact hv,hpos⟩
   ·cases h
theorem tD {l:List UInt8} (h:bB l=0):cG (kK l)=l:=by
 obtain ⟨hf,hn,hd,e1,e2,_⟩:=nY h
 unfold cG
 rw [e1,e2,dy _ hn,dy _ hd]
 rcases iY l with ⟨_,h2,h3⟩ | ⟨h1,h2⟩
 ·rw [h3,jF] at e2
  rw [if_pos (by omega)];exact h2.symm
 ·have h4:(kK l).den≠1:=fun q=>by
   rw [q] at e2
   have:aK l = [49]:=by rw [←dy _ hd,←e2];exact bU
   unfold dv at hf
   rw [h1,this] at hf
   simp at hf
  rw [if_neg h4];exact h2.symm
def af (q:Rat):ByteArray:=⟨(cG q).toArray⟩
theorem cC (q:Rat):(af q).data.toList=cG q:=by unfold af;simp
theorem tE (q:Rat):kK (af q).data.toList=q:=by rw [cC,iZ]
theorem tF {q:Rat} (h:q.num.natAbs<lim) (h':q.den<lim):bB (af q).data.toList=0:=by rw [cC,vC,if_pos ⟨h,h'⟩]
theorem tG {s:ByteArray} (h:bB s.data.toList=0):s=af (kK s.data.toList):=by
 unfold af;rw [tD h]
theorem kM {x y:Rat} (h:af x=af y):x=y:=by rw [←tE x,←tE y,h]
def short (z:Int):Prop:=z.natAbs<lim
instance (z:Int):Decidable (short z):=inferInstanceAs (Decidable (_<_))
def vD (n d:Int):ByteArray:=if short n∧short d then af (Rat.divInt n d) else ⟨#[]⟩
def vE (n d:Int):Int:=if short n∧short d then 0 else 4
def dS (x y:Rat):Prop:=short (x.num*y.den)∧short (y.num*x.den)
instance (x y:Rat):Decidable (dS x y):=inferInstanceAs (Decidable (_∧_))
def kN (x y:Rat):ByteArray:=if dS x y then vD (x.num*y.den+y.num*x.den) (x.den*y.den) else ⟨#[]⟩
def kO (x y:Rat):Int:=if dS x y then vE (x.num*y.den+y.num*x.den) (x.den*y.den) else 4
def nZ (x y:Rat):ByteArray:=vD (x.num*y.num) (x.den*y.den)
def n9 (x y:Rat):Int:=vE (x.num*y.num) (x.den*y.den)
def og (x y:Rat):ByteArray:=vD (x.num*y.den) (y.num*x.den)
def oh (x y:Rat):Int:=vE (x.num*y.den) (y.num*x.den)
def dn (x y:Rat):Int:=bF (x.num*y.den) (y.num*x.den)
def oi (x y:Rat):Int:=if dS x y then dn x y else 0
def oj (x y:Rat):Int:=if dS x y then 0 else 4
theorem xt (x y:Rat):Rat.divInt (x.num*y.den+y.num*x.den) (x.den*y.den)=x+y:=by
 rw [Rat.add_def',←Rat.divInt_ofNat,Int.natCast_mul]
theorem xu (x y:Rat):Rat.divInt (x.num*y.num) (x.den*y.den)=x*y:=by
 rw [Rat.mul_def',←Rat.divInt_ofNat,Int.natCast_mul]
theorem xw (x y:Rat):Rat.divInt (x.num*y.den) (y.num*x.den)=x / y:=by
 rw [Rat.div_def,Rat.inv_def,Int.mul_comm y.num]
 conv=>rhs;arg 1;rw [←Rat.num_divInt_den x]
 rw [Rat.divInt_mul_divInt]
def Bq (k:Nat) (q:Rat):Prop:=q.num.natAbs<ak k∧q.den<ak k
theorem Bq.lim {k:Nat} {q:Rat} (h:Bq k q) (hk:k≤300):q.num.natAbs<lim∧q.den<lim :=
 ⟨Nat.lt_of_lt_of_le h.1 (aG hk),Nat.lt_of_lt_of_le h.2 (aG hk)⟩
theorem Bq.up {j k:Nat} {q:Rat} (h:Bq j q) (hk:j≤k):Bq k q :=
 ⟨Nat.lt_of_lt_of_le h.1 (aG hk),Nat.lt_of_lt_of_le h.2 (aG hk)⟩
theorem Bq.chk {k:Nat} {q:Rat} (h:Bq k q) (hk:k≤300):bB (af q).data.toList=0:=tF (h.lim hk).1 (h.lim hk).2
theorem Bq.num {k:Nat} {q:Rat} (h:Bq k q):Bd k q.num:=h.1
theorem Bq.den {k:Nat} {q:Rat} (h:Bq k q):Bd k (q.den:Int):=by show Int.natAbs _<_;rw [Int.natAbs_natCast];exact h.2
theorem Bq.of_int {k : Nat} {n d : Int} (hd : d ≠ 0) (h1 : Bd k n) (h2 : Bd k d) : Bq k (Rat.divInt n d) := by
 have h3 : (Rat.divInt n d).num.natAbs ≤ n.natAbs := by
   rw [Rat.num_divInt, Int.natAbs_ediv_of_dvd (by
     refine Int.dvd_trans ?_ (Int.dvd_mul_left _ _)
     exact Int.gcd_dvd_right _ _), Int.natAbs_mul]
   refine Nat.le_trans (Nat.div_le_self _ _) ?_
   have : d.sign.natAbs ≤ 1 := by rcases Int.lt_trichotomy d 0 with q | q | q
                                  · rw [Int.sign_eq_neg_one_of_neg q]; decide
                                  · exact absurd q hd
                                  · rw [Int.sign_eq_one_of_pos q]; decide
   calc _ ≤ 1 * n.natAbs := Nat.mul_le_mul_right _ this
     _ = n.natAbs := Nat.one_mul _
 have h4 : (Rat.divInt n d).den ≤ d.natAbs := by
   rw [Rat.den_divInt, if_neg hd]; exact Nat.div_le_self _ _
 exact ⟨Nat.lt_of_le_of_lt h3 h1, Nat.lt_of_le_of_lt h4 h2⟩
theorem Ar (x y:Rat):((x.den:Int)*y.den)≠0:=by
 have h1:=x.den_nz;have h2:=y.den_nz
 rw [←Int.natCast_mul]
 intro h
 have:=Int.ofNat.inj (h:Int.ofNat _=Int.ofNat 0)
 rcases Nat.mul_eq_zero.1 this with q | q
 ·exact h1 q
 ·exact h2 q
theorem rH {k:Nat} {n d:Int} (hk:k≤300) (h1:Bd k n) (h2:Bd k d):vD n d=af (Rat.divInt n d)∧vE n d=0:=by
 have h:short n∧short d:=⟨h1.lt hk,h2.lt hk⟩
 exact ⟨if_pos h,if_pos h⟩
theorem qM {j k:Nat} {x y:Rat} (hx:Bq j x) (hy:Bq k y) (h:j+k≤300):dS x y :=
 ⟨(hx.num.mul hy.den).lt h,(hy.num.mul hx.den).lt (by omega)⟩
theorem cH {j k:Nat} {x y:Rat} (hx:Bq j x) (hy:Bq k y) (h:j+k+1≤300):kN x y=af (x+y)∧kO x y=0∧Bq (j+k+1) (x+y):=by
 have h1:=hx.num.mul hy.den
 have h2:=hy.num.mul hx.den
 rw [Nat.add_comm] at h2
 have h3:=h1.add h2
 have h4:=(hx.den.mul hy.den).up (Nat.le_succ _)
 obtain ⟨l1,l2⟩:=rH h h3 h4
 have hc:=qM hx hy (by omega)
 unfold kN kO
 rw [if_pos hc,if_pos hc,l1,l2,xt]
 exact ⟨rfl,rfl,by rw [←xt];exact Bq.of_int (Ar x y) h3 h4⟩
theorem a8 {j k:Nat} {x y:Rat} (hx:Bq j x) (hy:Bq k y) (h:j+k≤300):nZ x y=af (x*y)∧n9 x y=0∧Bq (j+k) (x*y):=by
 have h3:=hx.num.mul hy.num
 have h4:=hx.den.mul hy.den
 obtain ⟨l1,l2⟩:=rH h h3 h4
 unfold nZ n9
 rw [l1,l2,xu]
 exact ⟨rfl,rfl,by rw [←xu];exact Bq.of_int (Ar x y) h3 h4⟩
theorem iB {j k:Nat} {x y:Rat} (hx:Bq j x) (hy:Bq k y) (h:j+k≤300) (h0:y≠0):og x y=af (x / y)∧oh x y=0∧Bq (j+k) (x / y):=by
 have h3:=hx.num.mul hy.den
 have h4:=hy.num.mul hx.den
 rw [Nat.add_comm] at h4
 obtain ⟨l1,l2⟩:=rH h h3 h4
 have hn:y.num*(x.den:Int)≠0:=by
  intro q
  rcases Int.mul_eq_zero.1 q with q | q
  ·exact h0 (Rat.num_eq_zero.1 q)
  ·exact x.den_nz (Int.ofNat.inj q)
 unfold og oh
 rw [l1,l2,xw]
 exact ⟨rfl,rfl,by rw [←xw];exact Bq.of_int hn h3 h4⟩
theorem gI {j k:Nat} {x y:Rat} (hx:Bq j x) (hy:Bq k y) (h:j+k≤300):oi x y=dn x y∧oj x y=0:=by
 have hc:=qM hx hy h
 exact ⟨if_pos hc,if_pos hc⟩
theorem eO {x y:Rat} (h:x<y):dn x y = -1:=by unfold dn bF;rw [if_pos ((Rat.lt_iff x y).1 h)]
theorem eU {x y:Rat} (h:y<x):dn x y=1:=by
 have:=(Rat.lt_iff y x).1 h
 unfold dn bF;rw [if_neg (by omega),if_pos this]
theorem dJ (x:Rat):dn x x=0:=by unfold dn bF;rw [if_neg (by omega),if_neg (by omega)]
theorem kh (x y:Rat):x<y∨x=y∨y<x:=by
 rcases Rat.le_total (a:=x) (b:=y) with h | h
 ·rcases Rat.le_iff_lt_or_eq.1 h with q | q
  ·exact Or.inl q
  ·exact Or.inr (Or.inl q)
 ·rcases Rat.le_iff_lt_or_eq.1 h with q | q
  ·exact Or.inr (Or.inr q)
  ·exact Or.inr (Or.inl q.symm)
theorem yO {s:ByteArray} (h:bB s.data.toList=0) (k:Nat) (hs:s.size≤k) (hk:1≤k):∃ q:Rat,s=af q∧Bq k q:=by
 refine ⟨_,tG h,?_⟩
 obtain ⟨_,hn,hd,e1,e2,_⟩:=nY h
 have hl:s.data.toList.length=s.size:=ag s
 have part:∀ l:List UInt8,chk l=0→l.length≤k→(valOf l).natAbs<ak k:=by
  intro l hc hlen
  have h1:=mL (szL l) (by
   intro c hc'
   unfold chk at hc
   by_cases h1:(szL l).all aA
   ·exact List.all_eq_true.1 h1 c hc'
   ·simp [h1] at hc)
  rw [lW]
  refine Nat.lt_of_lt_of_le h1 (aG (Nat.le_trans ?_ hlen))
  unfold szL;split <;> simp
 have l1:(be s.data.toList).length≤k:=by
  rcases iY s.data.toList with ⟨_,h2,_⟩ | ⟨_,h2⟩
  ·rw [←h2];omega
  ·have:=congrArg List.length h2
   simp only [List.length_append,List.length_cons] at this;omega
 have l2:(aK s.data.toList).length≤k:=by
  rcases iY s.data.toList with ⟨_,_,h2⟩ | ⟨_,h2⟩
  ·rw [h2];exact hk
  ·have:=congrArg List.length h2
   simp only [List.length_append,List.length_cons] at this;omega
 refine ⟨by rw [e1];exact part _ hn l1,?_⟩
 have:=part _ hd l2
 rw [←e2,Int.natAbs_natCast] at this
 exact this
end
namespace T
open Go.RowKit
theorem yP (a b r:ByteArray) (e0:Int) (w:World)
  (h:Calls Tryz.prog 288 #[.string a,.string b] w fun e W'=>e = .returned (.tuple #[.string r,.int .i64 e0])∧Below w.heap.size w W') :
  Calls Tryz.prog 285 #[.string a,.string b] w fun e W'=>e = .returned (.string r)∧Below w.heap.size w W':=by
 have C:=Ha h;clear h
 go_enter Tryz.func285,Tryz.ntmps285
 go_wp2_with fail
 refine C.out.mono ?_
 rintro e w1 ⟨rfl,b⟩
 have H1:=Ha b;clear b
 go_wp2
 go_ret
 exact ⟨rfl,H1.out⟩
theorem vF (a b r:ByteArray) (e0:Int) (w:World)
  (h:Calls Tryz.prog 295 #[.string a,.string b] w fun e W'=>e = .returned (.tuple #[.string r,.int .i64 e0])∧Below w.heap.size w W') :
  Calls Tryz.prog 277 #[.string a,.string b] w fun e W'=>e = .returned (.string r)∧Below w.heap.size w W':=by
 have C:=Ha h;clear h
 go_enter Tryz.func277,Tryz.ntmps277
 go_wp2_with fail
 refine C.out.mono ?_
 rintro e w1 ⟨rfl,b⟩
 have H1:=Ha b;clear b
 go_wp2
 go_ret
 exact ⟨rfl,H1.out⟩
theorem tH (a b r s:ByteArray) (e0:Int) (w:World)
  (h:Calls Tryz.prog 222 #[.string a,.string b] w fun e W'=>e = .returned (.tuple #[.string r,.string s,.int .i64 e0])∧Below w.heap.size w W') :
  Calls Tryz.prog 284 #[.string a,.string b] w fun e W'=>e = .returned (.tuple #[.string r,.string s])∧Below w.heap.size w W':=by
 have C:=Ha h;clear h
 go_enter Tryz.func284,Tryz.ntmps284
 go_wp2_with fail
 refine C.out.mono ?_
 rintro e w1 ⟨rfl,b⟩
 have H1:=Ha b;clear b
 go_wp2
 go_ret2
 exact ⟨rfl,H1.out⟩
theorem tI (a r:ByteArray) (e0:Int) (w:World)
  (h:Calls Tryz.prog 290 #[.string a] w fun e W'=>e = .returned (.tuple #[.string r,.int .i64 e0])∧Below w.heap.size w W') :
  Calls Tryz.prog 278 #[.string a] w fun e W'=>e = .returned (.string r)∧Below w.heap.size w W':=by
 have C:=Ha h;clear h
 go_enter Tryz.func278,Tryz.ntmps278
 go_wp2_with fail
 refine C.out.mono ?_
 rintro e w1 ⟨rfl,b⟩
 have H1:=Ha b;clear b
 go_wp2
 go_ret
 exact ⟨rfl,H1.out⟩
theorem FU (x y:Int) (w:World) (hx:short x) (hy:short y) (hz:short (x+y)) (ht:Tab w) :
  Calls Tryz.prog 285 #[.string (aa x),.string (aa y)] w fun e W'=>e = .returned (.string (aa (x+y)))∧Below w.heap.size w W' :=
 yP _ _ _ _ w (yC x y w hx hy hz ht)
theorem ol (x y:Int) (w:World) (hx:short x) (hy:short y) (hz:short (x*y)) (ht:Tab w) :
  Calls Tryz.prog 277 #[.string (aa x),.string (aa y)] w fun e W'=>e = .returned (.string (aa (x*y)))∧Below w.heap.size w W' :=
 vF _ _ _ _ w (yD x y w hx hy hz ht)
theorem xx (x y:Int) (w:World) (hx:short x) (hy:short y) (h0:y≠0) (ht:Tab w) :
  Calls Tryz.prog 284 #[.string (aa x),.string (aa y)] w fun e W'=>e = .returned (.tuple #[.string (aa (x.fdiv y)),.string (aa (x.fmod y))])∧Below w.heap.size w W' :=
 tH _ _ _ _ _ w (jD x y w hx hy h0 ht)
theorem xz (x:Int) (w:World) (h0:0≤x) (hx:short x) (ht:Tab w) :
  Calls Tryz.prog 278 #[.string (aa x)] w fun e W'=>e = .returned (.string (aa (am x.natAbs:Nat)))∧Below w.heap.size w W' :=
 tI _ _ _ w (vk x w h0 hx ht)
end T
section
open Go.Lib
def fH (s:List UInt8):Bool:=s.all aA && !s.isEmpty && !(decide (1<s.length) && s.head? == some 48)
theorem iC {l:List UInt8} (h:aw l=true):∃ t,l=45::t∧szL l=t:=by
 cases l with
 | nil=>cases h
 | cons c t =>
  have hc:c=45:=by simpa [aw] using h
  subst hc
  exact ⟨t,rfl,by unfold szL;rw [h];rfl⟩
theorem a7 {l:List UInt8} (h:aw l=false):szL l=l:=by unfold szL;rw [h];rfl
theorem tJ (l:List UInt8):(chk l != 11)=(fH (szL l) && !(aw l && szL l == [48])):=by
 have h1:(chk l != 11)=((szL l).all aA && !decide (szL l = []∨((szL l).head? = some 48∧l ≠ [48]))):=by
  unfold chk
  cases (szL l).all aA
  ·rfl
  ·by_cases hp:szL l = []∨((szL l).head? = some 48∧l ≠ [48])
   ·rw [if_neg (by decide),if_pos hp,decide_eq_true hp];rfl
   ·rw [if_neg (by decide),if_neg hp,decide_eq_false hp]
    split <;> rfl
 rw [h1]
 unfold fH
 cases (szL l).all aA
 ·simp
 ·cases hn:aw l
  ·rw [a7 hn]
   rcases l with _ | ⟨c,_ | ⟨d,t⟩⟩
   ·simp
   ·by_cases hc:c=48 <;> simp [hc]
   ·simp;rfl
  ·obtain ⟨t,rfl,hs⟩:=iC hn
   rw [hs]
   rcases t with _ | ⟨c,_ | ⟨d,t⟩⟩
   ·simp
   ·by_cases hc:c=48 <;> simp [hc]
   ·simp;rfl
def sN (l:List UInt8):List UInt8:=(szL l).takeWhile (· != 47)
def sD (l:List UInt8):List UInt8:=if bz l then aK l else []
theorem rI (l:List UInt8):aw (be l)=aw l∧szL (be l)=sN l:=by
 unfold sN be
 cases hn:aw l
 ·rw [a7 hn]
  have h2:aw (l.takeWhile (· != 47))=false:=by
   cases l with
   | nil=>rfl
   | cons c t =>
    by_cases hc:c=47
    ·subst hc;rfl
    ·rw [List.takeWhile_cons_of_pos (by simpa using hc)]
     simpa [aw] using hn
  exact ⟨h2,a7 h2⟩
 ·obtain ⟨t,rfl,hs⟩:=iC hn
  rw [hs,List.takeWhile_cons_of_pos (by decide)]
  exact ⟨rfl,rfl⟩
def ki (l:List UInt8):Bool := !fH (sN l) || bz l && (!fH (sD l) || sD l == [48] || sD l == [49]) || aw l && sN l == [48]
def vG (l:List UInt8):Int :=
 if ki l=true then 11
 else if 300<(sN l).length∨300<(sD l).length then 4
 else if bz l=false then 0 else if Nat.gcd (ah (sN l)) (ah (sD l))=1 then 0 else 11
theorem kP {s:List UInt8} (h:fH s=true):aw s=false:=by
 unfold fH at h
 cases s with
 | nil=>rfl
 | cons c t =>
  simp only [List.all_cons,Bool.and_eq_true] at h
  have h1:=h.1.1.1
  cases hc:aw (c::t)
  ·rfl
  ·have hc:c=45:=by simpa [aw] using hc
   subst hc;cases h1
theorem xA {l:List UInt8} (h:aw l=false):(chk l != 11)=fH l:=by rw [tJ,a7 h,h];simp
theorem yQ (l:List UInt8):dv l = !ki l:=by
 obtain ⟨h1,h2⟩:=rI l
 unfold dv ki
 rw [tJ (be l),h1,h2]
 unfold sD
 cases hs:bz l
 ·have hd:aK l = [49]:=by unfold aK;rw [hs];rfl
  rw [hd]
  cases fH (sN l) <;> cases aw l <;> cases (sN l == [48]) <;> rfl
 ·rw [if_pos rfl]
  cases hn:aw (aK l)
  ·rw [xA hn]
   cases fH (sN l) <;> cases aw l <;> cases (sN l == [48]) <;> cases fH (aK l) <;> cases (aK l == [49]) <;> cases h48:(aK l == [48]) <;> simp_all
  ·have hd:fH (aK l)=false:=by
    cases hd:fH (aK l)
    ·rfl
    ·rw [kP hd] at hn;cases hn
   rw [hd]
   simp
theorem om {l:List UInt8} (h:(chk l != 11)=true):chk l=if 300<(szL l).length then 4 else 0:=by
 unfold chk at h ⊢
 split
 ·rename_i hc;rw [if_pos hc] at h;cases h
 ·rename_i hc
  rw [if_neg hc] at h
  split
  ·rename_i hd;rw [if_pos hd] at h;cases h
  ·rfl
theorem yR (l:List UInt8):vG l=bB l:=by
 unfold vG bB
 have hf:=yQ l
 obtain ⟨c1,c2⟩:=rI l
 cases hq:dv l
 ·have hb:ki l=true:=by rw [hq] at hf;cases h:ki l;rw [h] at hf;cases hf;rfl
  rw [if_pos hb,if_pos rfl]
 ·have hb:¬ ki l=true:=by rw [hq] at hf;intro h;rw [h] at hf;cases hf
  rw [if_neg hb,if_neg (by decide:¬ true=false)]
  have hq':=hq
  unfold dv at hq'
  simp only [Bool.and_eq_true,Bool.not_eq_true',bne_iff_ne,ne_eq] at hq'
  obtain ⟨⟨⟨⟨k1,k2⟩,k3⟩,k4⟩,k5⟩:=hq'
  have e1:=om (l:=be l) (by simpa using k1)
  have e2:=om (l:=aK l) (by simpa using k2)
  rw [c2] at e1
  rw [a7 k3] at e2
  have hv:(valOf (be l)).natAbs=ah (sN l):=by rw [lW,c2]
  rw [hv]
  unfold sD
  cases hs:bz l
  ·have hd:aK l = [49]:=by unfold aK;rw [hs];rfl
   rw [hd] at e2 ⊢
   have e3:chk [49]=0:=by rw [e2];rfl
   by_cases hl:300<(sN l).length
   ·rw [if_pos (.inl hl),if_pos (.inl (by rw [e1,if_pos hl];decide))]
   ·rw [if_neg (by rintro (h | h);exact hl h;exact absurd h (by decide)),if_pos rfl,if_neg (by rintro (h | h);exact h (by rw [e1,if_neg hl]);exact h e3),if_pos (by rw [lX,Nat.gcd_one_right])]
  ·rw [if_pos rfl]
   by_cases hl:300<(sN l).length
   ·rw [if_pos (.inl hl),if_pos (.inl (by rw [e1,if_pos hl];decide))]
   ·by_cases hl2:300<(aK l).length
    ·rw [if_pos (.inr hl2),if_pos (.inr (by rw [e2,if_pos hl2];decide))]
    ·have hX:¬ (chk (be l)≠0∨chk (aK l)≠0):=by
      rintro (h | h)
      ·exact h (by rw [e1,if_neg hl])
      ·exact h (by rw [e2,if_neg hl2])
     rw [if_neg (by rintro (h | h);exact hl h;exact hl2 h),if_neg (by decide:¬ true=false),if_neg hX]
end
section
open Go.RowKit
def dOK (l:List UInt8):Bool:=chk l==0 && decide ((szL l).length≤18)
theorem dU {l:List UInt8} (h:chk l≠0∨18<(szL l).length):dOK l=false:=by
 unfold dOK
 rcases h with h | h
 ·rw [show (chk l==0)=false by simpa using h];rfl
 ·rw [decide_eq_false (by omega),Bool.and_false]
theorem kQ {l:List UInt8} (ha:(szL l).all aA=true) (hne:szL l ≠ []) (h48:¬ ((szL l).head? = some 48∧l ≠ [48])) (hl:(szL l).length≤18):dOK l=true:=by
 unfold dOK
 have:chk l=0:=by
  rw [fG ha,if_neg (by rintro (h | h);exact hne h;exact h48 h),if_neg (by omega)]
 rw [this,decide_eq_true hl];rfl
def ny (l:List UInt8):Int:=if dOK l then valOf l else 0
theorem kR {l:List UInt8} (h:dOK l=true):ny l=valOf l:=if_pos h
theorem fl {l:List UInt8} (h:dOK l=false):Ending.returned (.tuple #[.int .i64 0,.bool false]) = .returned (.tuple #[.int .i64 (ny l),.bool (dOK l)]):=by unfold ny;rw [h];rfl
theorem kS {l:List UInt8} {v:Int} (h:dOK l=true) (hv:v=valOf l):Ending.returned (.tuple #[.int .i64 v,.bool true]) = .returned (.tuple #[.int .i64 (ny l),.bool (dOK l)]):=by unfold ny;rw [h,hv];rfl
theorem gW {s:ByteArray} (h:0<s.size):s.data.toList.head? = some s[0]:=by obtain ⟨t,ht⟩:=jE h;rw [ht];rfl
theorem ext_size (s:ByteArray):(s.extract 1 s.size).size=s.size - 1:=by rw [ByteArray.size_extract];omega
theorem oo (s:ByteArray) (w:World) (hs:s.size≤maxLen) (hn:aw s.data.toList=true) (h1:1<s.size) :
  Calls Tryz.prog 128 #[.string s] w fun e W'=>e = .returned (.tuple #[.int .i64 (ny s.data.toList),.bool (dOK s.data.toList)])∧w=W':=by
 unfold maxLen at hs
 have hsz:=ext_size s
 obtain ⟨t,ht⟩:∃ t,s.extract 1 s.size=t:=⟨_,rfl⟩
 have htl:t.data.toList=szL s.data.toList:=by rw [←ht,←bL];unfold szB;rw [if_pos hn]
 rw [ht] at hsz
 have h45:((s[0].toNat:Int)==45)=true:=(dq (by omega)).trans hn
 have hE:(s.toList == [48])=false:=by
  rw [ByteArray.toList_eq,beq_eq_false_iff_ne];intro e;have:=congrArg List.length e;rw [ag] at this;simp at this;omega
 have hg1:(1:Int)<s.size:=by omega
 have hte:=fE (s:=t) (by omega)
 have HN:=Ha hn
 have HT:=Ha htl
 clear hn htl
 have h0t:0<t.size:=by omega
 have hl:(szL s.data.toList).length=t.size:=by rw [←HT.out,ag]
 by_cases h18:18<t.size
 ·have h18':(18:Int)<t.size:=by omega
  have hr:=Ha (dU (l:=s.data.toList) (.inr (by omega)))
  clear hl
  go_enter Tryz.func128,Tryz.ntmps128
  go_wp2
  go_ret2
  exact ⟨fl hr.out,rfl⟩
 have h18':¬ (18:Int)<t.size:=by omega
 by_cases h48:((t[0].toNat:Int)==48)=true
 ·have hc:chk s.data.toList=11:=kG (.inr ⟨by
   rw [←HT.out,gW (by omega)]
   have:=mM t[0] 48 (by decide)
   rw [show ((48:Nat):Int)=48 from rfl,h48] at this
   exact congrArg some (by simpa using this.symm),fun e=>by have:=congrArg List.length e;rw [ag] at this;simp at this;omega⟩)
  have hr:=Ha (dU (l:=s.data.toList) (.inl (by rw [hc];decide)))
  clear hl hc
  go_enter Tryz.func128,Tryz.ntmps128
  go_wp2
  go_ret2
  exact ⟨fl hr.out,rfl⟩
 ·have h48':((t[0].toNat:Int)==48)=false:=by simpa using h48
  have HF:=Ha (show szL s.data.toList ≠ []∧¬ ((szL s.data.toList).head? = some 48∧s.data.toList ≠ [48])∧(szL s.data.toList).length≤18 from ⟨fun e=>by rw [e] at hl;simp at hl;omega,fun ⟨e,_⟩=>by
   rw [←HT.out,gW (by omega)] at e
   have e:=Option.some.inj e
   rw [e] at h48';exact absurd h48' (by decide),by omega⟩)
  clear hl h48
  go_enter Tryz.func128,Tryz.ntmps128
  go_wp2
  go_loop [6,38] (fun n i=>∃ k:Nat,k≤t.size∧i = .int .i64 k∧n = .int .i64 (ah (t.data.toList.take k):Nat)∧Hid ((t.data.toList.take k).all aA=true)) (fun _ i=>t.size - (intOf i).toNat)
  case atStart=>exact ⟨0,Nat.zero_le _,rfl,rfl,rfl⟩
  case round =>
   obtain ⟨k,hk,rfl,rfl,hd⟩:=hrel
   by_cases hlt:k<t.size
   ·by_cases h3:(t[k].toNat:Int)<48
    ·go_wp2
     go_ret2
     refine ⟨fl (dU (.inl ?_)),rfl⟩
     rw [cS]
     ·decide
     ·rw [←HT.out,List.all_eq_false];exact ⟨t[k],cR t k hlt,by rw [az];omega⟩
    ·by_cases h4:(57:Int)<t[k].toNat
     ·go_wp2
      go_ret2
      refine ⟨fl (dU (.inl ?_)),rfl⟩
      rw [cS]
      ·decide
      ·rw [←HT.out,List.all_eq_false];exact ⟨t[k],cR t k hlt,by rw [az];omega⟩
     ·have hdk:aA t[k]=true:=by rw [az];omega
      have hd':Hid ((t.data.toList.take (k+1)).all aA=true):=by
       show (t.data.toList.take (k+1)).all aA=true
       rw [bQ t k hlt,List.all_append,hd.out];simp [hdk]
      have hn:ah (t.data.toList.take k)<1000000000000000000:=by
       refine Nat.lt_of_lt_of_le (aX _ (fun c hc=>List.all_eq_true.1 hd.out c hc)) ?_
       exact Nat.le_trans (Nat.pow_le_pow_right (by decide) (Nat.le_trans (List.length_take_le _ _) (by omega:k≤18))) (by decide)
      have HS:Hid (ah (t.data.toList.take (k+1))=ah (t.data.toList.take k)*10+(t[k].toNat - 48)):=by rw [bQ t k hlt];exact bR _ _
      have hn17:ah (t.data.toList.take (k+1))<1000000000000000000:=by
       refine Nat.lt_of_lt_of_le (aX _ (fun c hc=>List.all_eq_true.1 hd'.out c hc)) ?_
       exact Nat.le_trans (Nat.pow_le_pow_right (by decide) (Nat.le_trans (List.length_take_le _ _) (by omega:k+1≤18))) (by decide)
      rw [HS.out] at hn17
      clear hd hdk
      go_wp2
      go_round
      case rel=>exact ⟨k+1,by omega,by go_num,by rw [HS.out];go_num,hd'⟩
      case measure=>simp [intOf];omega
   ·have hk2:t.data.toList.take k=t.data.toList:=List.take_of_length_le (by rw [ag];omega)
    have hda:=hd.out
    rw [hk2,HT.out] at hda
    rw [hk2]
    have hok:=kQ hda HF.out.1 HF.out.2.1 HF.out.2.2
    have hn:ah t.data.toList<1000000000000000000:=by
     refine Nat.lt_of_lt_of_le (aX _ (fun c hc=>List.all_eq_true.1 (by rw [HT.out];exact hda) c hc)) ?_
     exact Nat.le_trans (Nat.pow_le_pow_right (by decide) (show t.data.toList.length≤18 by rw [ag];omega)) (by decide)
    have HO:=Ha (Hb hok (show -(ah t.data.toList:Int)=valOf s.data.toList by rw [bY,HN.out,HT.out];rfl))
    clear hok hda hk2 hd
    go_wp2
    go_ret2
    exact ⟨kS HO.out.1 HO.out.2,rfl⟩
theorem oq (t:ByteArray) (w:World) (hs:t.size≤maxLen) (hn:aw t.data.toList=false) (h1:1<t.size) :
  Calls Tryz.prog 128 #[.string t] w fun e W'=>e = .returned (.tuple #[.int .i64 (ny t.data.toList),.bool (dOK t.data.toList)])∧w=W':=by
 unfold maxLen at hs
 have htl:t.data.toList=szL t.data.toList:=(a7 hn).symm
 have h45:((t[0].toNat:Int)==45)=false:=(dq (by omega)).trans hn
 have hg1:(1:Int)<t.size:=by omega
 have hte:=fE (s:=t) (by omega)
 have HN:=Ha hn
 have HT:=Ha htl
 clear hn htl
 have h0t:0<t.size:=by omega
 have hl:(szL t.data.toList).length=t.size:=by rw [←HT.out,ag]
 by_cases h18:18<t.size
 ·have h18':(18:Int)<t.size:=by omega
  have hr:=Ha (dU (l:=t.data.toList) (.inr (by omega)))
  clear hl
  go_enter Tryz.func128,Tryz.ntmps128
  go_wp2
  all_goals (go_ret2;exact ⟨fl hr.out,rfl⟩)
 have h18':¬ (18:Int)<t.size:=by omega
 by_cases h48:((t[0].toNat:Int)==48)=true∧(t.toList == [48])=false
 ·obtain ⟨h48,hE⟩:=h48
  have hc:chk t.data.toList=11:=kG (.inr ⟨by
   rw [←HT.out,gW (by omega)]
   have:=mM t[0] 48 (by decide)
   rw [show ((48:Nat):Int)=48 from rfl,h48] at this
   exact congrArg some (by simpa using this.symm),fun e=>by rw [ByteArray.toList_eq,e] at hE;cases hE⟩)
  have hr:=Ha (dU (l:=t.data.toList) (.inl (by rw [hc];decide)))
  clear hl hc
  go_enter Tryz.func128,Tryz.ntmps128
  go_wp2
  all_goals (go_ret2;exact ⟨fl hr.out,rfl⟩)
 ·have h48':(((t[0].toNat:Int)==48) && !(t.toList == [48]))=false:=by
   cases h5:((t[0].toNat:Int)==48)
   ·rfl
   ·cases h6:(t.toList == [48])
    ·exact absurd ⟨h5,h6⟩ h48
    ·rfl
  have HF:=Ha (show szL t.data.toList ≠ []∧¬ ((szL t.data.toList).head? = some 48∧t.data.toList ≠ [48])∧(szL t.data.toList).length≤18 from ⟨fun e=>by rw [e] at hl;simp at hl;omega,fun ⟨e,e2⟩=>by
   rw [←HT.out,gW (by omega)] at e
   have e:=Option.some.inj e
   apply h48
   refine ⟨by rw [e];decide,?_⟩
   rw [ByteArray.toList_eq,beq_eq_false_iff_ne];exact e2,by omega⟩)
  clear hl h48
  by_cases h48a:((t[0].toNat:Int)==48)=true
  ·have hE:(t.toList == [48])=true:=by rw [h48a] at h48';simpa using h48'
   clear h48'
   go_enter Tryz.func128,Tryz.ntmps128
   go_wp2
   go_loop [6,38] (fun n i=>∃ k:Nat,k≤t.size∧i = .int .i64 k∧n = .int .i64 (ah (t.data.toList.take k):Nat)∧Hid ((t.data.toList.take k).all aA=true)) (fun _ i=>t.size - (intOf i).toNat)
   case atStart=>exact ⟨0,Nat.zero_le _,rfl,rfl,rfl⟩
   case round =>
    obtain ⟨k,hk,rfl,rfl,hd⟩:=hrel
    by_cases hlt:k<t.size
    ·by_cases h3:(t[k].toNat:Int)<48
     ·go_wp2
      go_ret2
      refine ⟨fl (dU (.inl ?_)),rfl⟩
      rw [cS]
      ·decide
      ·rw [←HT.out,List.all_eq_false];exact ⟨t[k],cR t k hlt,by rw [az];omega⟩
     ·by_cases h4:(57:Int)<t[k].toNat
      ·go_wp2
       go_ret2
       refine ⟨fl (dU (.inl ?_)),rfl⟩
       rw [cS]
       ·decide
       ·rw [←HT.out,List.all_eq_false];exact ⟨t[k],cR t k hlt,by rw [az];omega⟩
      ·have hdk:aA t[k]=true:=by rw [az];omega
       have hd':Hid ((t.data.toList.take (k+1)).all aA=true):=by
        show (t.data.toList.take (k+1)).all aA=true
        rw [bQ t k hlt,List.all_append,hd.out];simp [hdk]
       have hn:ah (t.data.toList.take k)<1000000000000000000:=by
        refine Nat.lt_of_lt_of_le (aX _ (fun c hc=>List.all_eq_true.1 hd.out c hc)) ?_
        exact Nat.le_trans (Nat.pow_le_pow_right (by decide) (Nat.le_trans (List.length_take_le _ _) (by omega:k≤18))) (by decide)
       have HS:Hid (ah (t.data.toList.take (k+1))=ah (t.data.toList.take k)*10+(t[k].toNat - 48)):=by rw [bQ t k hlt];exact bR _ _
       have hn17:ah (t.data.toList.take (k+1))<1000000000000000000:=by
        refine Nat.lt_of_lt_of_le (aX _ (fun c hc=>List.all_eq_true.1 hd'.out c hc)) ?_
        exact Nat.le_trans (Nat.pow_le_pow_right (by decide) (Nat.le_trans (List.length_take_le _ _) (by omega:k+1≤18))) (by decide)
       rw [HS.out] at hn17
       clear hd hdk
       go_wp2
       go_round
       case rel=>exact ⟨k+1,by omega,by go_num,by rw [HS.out];go_num,hd'⟩
       case measure=>simp [intOf];omega
    ·have hk2:t.data.toList.take k=t.data.toList:=List.take_of_length_le (by rw [ag];omega)
     have hda:=hd.out
     rw [hk2,HT.out] at hda
     rw [hk2]
     have hok:=kQ hda HF.out.1 HF.out.2.1 HF.out.2.2
     have hn:ah t.data.toList<1000000000000000000:=by
      refine Nat.lt_of_lt_of_le (aX _ (fun c hc=>List.all_eq_true.1 (by rw [HT.out];exact hda) c hc)) ?_
      exact Nat.le_trans (Nat.pow_le_pow_right (by decide) (show t.data.toList.length≤18 by rw [ag];omega)) (by decide)
     have HO:=Ha (Hb hok (show (ah t.data.toList:Int)=valOf t.data.toList by rw [bY,HN.out,if_neg (by decide),a7 HN.out]))
     clear hok hda hk2 hd
     go_wp2
     go_ret2
     exact ⟨kS HO.out.1 HO.out.2,rfl⟩
  ·have h48b:((t[0].toNat:Int)==48)=false:=by simpa using h48a
   clear h48' h48a
   go_enter Tryz.func128,Tryz.ntmps128
   go_wp2
   go_loop [6,38] (fun n i=>∃ k:Nat,k≤t.size∧i = .int .i64 k∧n = .int .i64 (ah (t.data.toList.take k):Nat)∧Hid ((t.data.toList.take k).all aA=true)) (fun _ i=>t.size - (intOf i).toNat)
   case atStart=>exact ⟨0,Nat.zero_le _,rfl,rfl,rfl⟩
   case round =>
    obtain ⟨k,hk,rfl,rfl,hd⟩:=hrel
    by_cases hlt:k<t.size
    ·by_cases h3:(t[k].toNat:Int)<48
     ·go_wp2
      go_ret2
      refine ⟨fl (dU (.inl ?_)),rfl⟩
      rw [cS]
      ·decide
      ·rw [←HT.out,List.all_eq_false];exact ⟨t[k],cR t k hlt,by rw [az];omega⟩
     ·by_cases h4:(57:Int)<t[k].toNat
      ·go_wp2
       go_ret2
       refine ⟨fl (dU (.inl ?_)),rfl⟩
       rw [cS]
       ·decide
       ·rw [←HT.out,List.all_eq_false];exact ⟨t[k],cR t k hlt,by rw [az];omega⟩
      ·have hdk:aA t[k]=true:=by rw [az];omega
       have hd':Hid ((t.data.toList.take (k+1)).all aA=true):=by
        show (t.data.toList.take (k+1)).all aA=true
        rw [bQ t k hlt,List.all_append,hd.out];simp [hdk]
       have hn:ah (t.data.toList.take k)<1000000000000000000:=by
        refine Nat.lt_of_lt_of_le (aX _ (fun c hc=>List.all_eq_true.1 hd.out c hc)) ?_
        exact Nat.le_trans (Nat.pow_le_pow_right (by decide) (Nat.le_trans (List.length_take_le _ _) (by omega:k≤18))) (by decide)
       have HS:Hid (ah (t.data.toList.take (k+1))=ah (t.data.toList.take k)*10+(t[k].toNat - 48)):=by rw [bQ t k hlt];exact bR _ _
       have hn17:ah (t.data.toList.take (k+1))<1000000000000000000:=by
        refine Nat.lt_of_lt_of_le (aX _ (fun c hc=>List.all_eq_true.1 hd'.out c hc)) ?_
        exact Nat.le_trans (Nat.pow_le_pow_right (by decide) (Nat.le_trans (List.length_take_le _ _) (by omega:k+1≤18))) (by decide)
       rw [HS.out] at hn17
       clear hd hdk
       go_wp2
       go_round
       case rel=>exact ⟨k+1,by omega,by go_num,by rw [HS.out];go_num,hd'⟩
       case measure=>simp [intOf];omega
    ·have hk2:t.data.toList.take k=t.data.toList:=List.take_of_length_le (by rw [ag];omega)
     have hda:=hd.out
     rw [hk2,HT.out] at hda
     rw [hk2]
     have hok:=kQ hda HF.out.1 HF.out.2.1 HF.out.2.2
     have hn:ah t.data.toList<1000000000000000000:=by
      refine Nat.lt_of_lt_of_le (aX _ (fun c hc=>List.all_eq_true.1 (by rw [HT.out];exact hda) c hc)) ?_
      exact Nat.le_trans (Nat.pow_le_pow_right (by decide) (show t.data.toList.length≤18 by rw [ag];omega)) (by decide)
     have HO:=Ha (Hb hok (show (ah t.data.toList:Int)=valOf t.data.toList by rw [bY,HN.out,if_neg (by decide),a7 HN.out]))
     clear hok hda hk2 hd
     go_wp2
     go_ret2
     exact ⟨kS HO.out.1 HO.out.2,rfl⟩
theorem ou (t:ByteArray) (w:World) (h:t.size=1) :
  Calls Tryz.prog 128 #[.string t] w fun e W'=>e = .returned (.tuple #[.int .i64 (ny t.data.toList),.bool (dOK t.data.toList)])∧w=W':=by
 have h0t:0<t.size:=by omega
 obtain ⟨u,hu⟩:=jE h0t
 have hl:=ag t
 rw [hu,h] at hl
 have hu0:u = []:=List.eq_nil_of_length_eq_zero (by simpa using hl)
 rw [hu0] at hu
 have hte:=fE h0t
 have hs1:(t.size:Int)=1:=by omega
 clear hl hu0
 by_cases hd:aA t[0]=true
 ·have hq:=(az t[0]).1 hd
  have h45:((t[0].toNat:Int)==45)=false:=by rw [beq_eq_false_iff_ne];omega
  have hok:dOK t.data.toList=true∧((t[0].toNat - 48:Nat):Int)=valOf t.data.toList:=by
   rw [hu]
   have hng:aw [t[0]]=false:=by
    unfold aw
    rw [List.head?_cons,beq_eq_false_iff_ne]
    intro e
    have e:=Option.some.inj e
    rw [e] at hq;exact absurd hq.1 (by decide)
   refine ⟨kQ (by rw [a7 hng];simp [hd]) (by rw [a7 hng];simp) (by
    rw [a7 hng]
    rintro ⟨e,e2⟩
    have e:=Option.some.inj e
    exact e2 (by rw [e])) (by rw [a7 hng];simp),?_⟩
   rw [bY,hng,a7 hng,if_neg (by decide)]
   show _=(((0*10+(t[0].toNat - 48):Nat)):Int)
   omega
  have HO:=Ha hok
  have hE:(((t[0].toNat:Int)==48) && !(t.toList == [48]))=false:=by
   rw [ByteArray.toList_eq,hu]
   by_cases h8:t[0]=48
   ·rw [h8];rfl
   ·have:=mM t[0] 48 (by decide)
    rw [show ((48:Nat):Int)=48 from rfl] at this
    rw [this,show (t[0]==UInt8.ofNat 48)=false by rw [beq_eq_false_iff_ne];exact h8];rfl
  have HE:=Ha hE
  clear hok hu hd hE u
  by_cases h8:((t[0].toNat:Int)==48)=true
  ·have hE2:(t.toList == [48])=true:=by have:=HE.out;rw [h8] at this;simpa using this
   go_enter Tryz.func128,Tryz.ntmps128
   go_wp2
   go_loop [6,38] (fun n i=>(i = .int .i64 0∧n = .int .i64 0)∨(i = .int .i64 1∧n = .int .i64 (t[0].toNat - 48:Nat))) (fun _ i=>1 - (intOf i).toNat)
   case atStart=>exact .inl ⟨rfl,rfl⟩
   case round =>
    rcases hrel with ⟨rfl,rfl⟩ | ⟨rfl,rfl⟩
    ·go_wp2
     go_round
     case rel=>exact .inr ⟨by go_num,by go_num⟩
     case measure=>simp [intOf]
    ·go_wp2
     go_ret2
     exact ⟨kS HO.out.1 HO.out.2,rfl⟩
  ·have h8':((t[0].toNat:Int)==48)=false:=by simpa using h8
   clear h8
   go_enter Tryz.func128,Tryz.ntmps128
   go_wp2
   go_loop [6,38] (fun n i=>(i = .int .i64 0∧n = .int .i64 0)∨(i = .int .i64 1∧n = .int .i64 (t[0].toNat - 48:Nat))) (fun _ i=>1 - (intOf i).toNat)
   case atStart=>exact .inl ⟨rfl,rfl⟩
   case round =>
    rcases hrel with ⟨rfl,rfl⟩ | ⟨rfl,rfl⟩
    ·go_wp2
     go_round
     case rel=>exact .inr ⟨by go_num,by go_num⟩
     case measure=>simp [intOf]
    ·go_wp2
     go_ret2
     exact ⟨kS HO.out.1 HO.out.2,rfl⟩
 ·have hr:dOK t.data.toList=false:=dU (.inl (by
   rw [hu]
   cases hn:aw [t[0]]
   ·rw [cS]
    ·decide
    ·rw [a7 hn];simpa using hd
   ·rw [kG]
    ·decide
    ·left;unfold szL;rw [hn];rfl))
  have h8:((t[0].toNat:Int)==48)=false:=by
   rw [beq_eq_false_iff_ne];intro e;apply hd;rw [az];omega
  have hq:(t[0].toNat:Int)<48∨(57:Int)<t[0].toNat:=by
   by_cases h1:(t[0].toNat:Int)<48
   ·exact .inl h1
   ·right
    have:¬ (48≤t[0].toNat∧t[0].toNat≤57):=fun q=>hd ((az _).2 q)
    omega
  have HR:=Ha hr
  clear hr hu hd u
  rcases hq with h1 | h1
  ·go_enter Tryz.func128,Tryz.ntmps128
   go_wp2
   go_loop [6,38] (fun n i=>i = .int .i64 0∧n = .int .i64 0) (fun _ i=>1 - (intOf i).toNat)
   case atStart=>exact ⟨rfl,rfl⟩
   case round =>
    obtain ⟨rfl,rfl⟩:=hrel
    go_wp2
    go_ret2
    exact ⟨fl HR.out,rfl⟩
  ·have h2:¬ (t[0].toNat:Int)<48:=by omega
   go_enter Tryz.func128,Tryz.ntmps128
   go_wp2
   go_loop [6,38] (fun n i=>i = .int .i64 0∧n = .int .i64 0) (fun _ i=>1 - (intOf i).toNat)
   case atStart=>exact ⟨rfl,rfl⟩
   case round =>
    obtain ⟨rfl,rfl⟩:=hrel
    go_wp2
    go_ret2
    exact ⟨fl HR.out,rfl⟩
theorem cW (s:ByteArray) (w:World) (hs:s.size≤maxLen) :
  Calls Tryz.prog 128 #[.string s] w fun e W'=>e = .returned (.tuple #[.int .i64 (ny s.data.toList),.bool (dOK s.data.toList)])∧w=W':=by
 by_cases h0:s.size=0
 ·have hE:=kf h0
  have hr:=Ha (dU (l:=s.data.toList) (.inl (by rw [fF h0];decide)))
  go_enter Tryz.func128,Tryz.ntmps128
  go_wp2
  all_goals (go_ret2;exact ⟨fl hr.out,rfl⟩)
 ·by_cases h1:s.size=1
  ·exact ou s w h1
  ·cases hn:aw s.data.toList
   ·exact oq s w hs hn (by omega)
   ·exact oo s w hs hn (by omega)
end
section
open Go.Lib
theorem rJ {l:List UInt8} {c:UInt8} (h:c ∉ l):indexByte l c = -1:=by
 induction l with
 | nil=>rfl
 | cons a t ih =>
  have h1:a≠c:=fun q=>h (by simp [q])
  have h2:c ∉ t:=fun q=>h (by simp [q])
  unfold indexByte
  rw [if_neg (by simpa using h1),ih h2];rfl
theorem rK {s:List UInt8} {c:UInt8} (t:List UInt8) (h:c ∉ s):indexByte (s++c::t) c=s.length:=by
 induction s with
 | nil=>simp [indexByte]
 | cons a s ih =>
  have h1:a≠c:=fun q=>h (by simp [q])
  have h2:c ∉ s:=fun q=>h (by simp [q])
  rw [List.cons_append]
  unfold indexByte
  rw [if_neg (by simpa using h1),ih h2,if_neg (by simp)]
  simp
theorem Db (l:List UInt8):(be l).length≤l.length:=by
 rcases iY l with ⟨_,h2,_⟩ | ⟨_,h2⟩
 ·rw [←h2];omega
 ·have:=congrArg List.length h2
  simp only [List.length_append,List.length_cons] at this;omega
end
section
open Go.RowKit
def aT:Int := -9223372036854775808
theorem jG (a:Int) (w:World) (h0 : -9223372036854775808<a) (h1:a≤9223372036854775807) :
  Calls Tryz.prog 192 #[.int .i64 a] w fun e W'=>e = .returned (.int .u64 (a.natAbs:Int))∧w=W':=by
 by_cases hn:a<0
 ·go_enter Tryz.func192,Tryz.ntmps192
  go_wp2
  go_ret
  exact ⟨ao (by omega),rfl⟩
 ·go_enter Tryz.func192,Tryz.ntmps192
  go_wp2
  go_ret
  exact ⟨ao (by omega),rfl⟩
theorem kT (a:Int) (w:World) :
  Calls Tryz.prog 336 #[.int .i64 a] w fun e W'=>e = .returned (.bool (decide (a<0)))∧w=W':=by
 go_enter Tryz.func336,Tryz.ntmps336
 go_wp2
 go_ret
 exact ⟨rfl,rfl⟩
theorem i6 (a:Int) (w:World) :
  Calls Tryz.prog 337 #[.int .i64 a] w fun e W'=>e = .returned (.bool (a==1))∧w=W':=by
 go_enter Tryz.func337,Tryz.ntmps337
 go_wp2
 go_ret
 exact ⟨rfl,rfl⟩
theorem fI (a:Int) (w:World) (h0 : -9223372036854775808<a) (h1:a≤9223372036854775807) :
  Calls Tryz.prog 339 #[.int .i64 a] w fun e W'=>e = .returned (.int .i64 (-a))∧w=W':=by
 go_enter Tryz.func339,Tryz.ntmps339
 go_wp2
 go_ret
 exact ⟨ao (by omega),rfl⟩
theorem tK (a:Int) (w:World) :
  Calls Tryz.prog 335 #[.int .i64 a] w fun e W'=>e = .returned (.int .i64 (if a=aT then 4 else 0))∧w=W':=by
 by_cases h:a=aT
 ·rw [if_pos h]
  unfold aT at h;subst h
  go_enter Tryz.func335,Tryz.ntmps335
  go_wp2
  go_ret
  exact ⟨rfl,rfl⟩
 ·rw [if_neg h]
  unfold aT at h
  go_enter Tryz.func335,Tryz.ntmps335
  go_wp2
  go_ret
  exact ⟨rfl,rfl⟩
theorem jH (a b:Int) (w:World) (h0 : -9223372036854775808<a) (h1:a≤9223372036854775807) (hb:0<b) (h2:b≤9223372036854775807) :
  Calls Tryz.prog 340 #[.int .i64 a,.int .i64 b] w fun e W'=>e = .returned (.int .i64 (a.tdiv b))∧w=W':=by
 have hb0:¬ b=0:=by omega
 have hb1:(b==0)=false:=by simpa using hb0
 go_enter Tryz.func340,Tryz.ntmps340
 go_wp2
 go_ret
 exact ⟨ao (by omega),rfl⟩
theorem yS (a b:Int) (w:World) (h0 : -9223372036854775808<a) (h1:a≤9223372036854775807) (h2 : -9223372036854775808<b) (h3:b≤9223372036854775807)
  (h4 : -9223372036854775808<a+b) (h5:a+b≤9223372036854775807) :
  Calls Tryz.prog 341 #[.int .i64 a,.int .i64 b] w fun e W'=>e = .returned (.int .i64 (a+b))∧w=W':=by
 have n1:(a == -9223372036854775808)=false:=by simp;omega
 have n2:(b == -9223372036854775808)=false:=by simp;omega
 go_enter Tryz.func341,Tryz.ntmps341
 go_wp2
 go_ret
 exact ⟨ao (by omega),rfl⟩
theorem ov (b:Int) (w:World) :
  Calls Tryz.prog 341 #[.int .i64 aT,.int .i64 b] w fun e W'=>e = .returned (.int .i64 aT)∧w=W':=by
 unfold aT
 go_enter Tryz.func341,Tryz.ntmps341
 go_wp2
 go_ret
 exact ⟨rfl,rfl⟩
theorem vH (a:Int) (w:World) :
  Calls Tryz.prog 341 #[.int .i64 a,.int .i64 aT] w fun e W'=>e = .returned (.int .i64 aT)∧w=W':=by
 by_cases h:a = -9223372036854775808
 ·subst h
  exact ov _ w
 ·unfold aT
  go_enter Tryz.func341,Tryz.ntmps341
  go_wp2
  go_ret
  exact ⟨rfl,rfl⟩
def ay (a b:Int):Int:=if (a*b).natAbs<4611686018427387904 then a*b else aT
theorem ee (a b:Int) (w:World) (h0 : -9223372036854775808<a) (h1:a≤9223372036854775807) (h2 : -9223372036854775808<b) (h3:b≤9223372036854775807) :
  Calls Tryz.prog 342 #[.int .i64 a,.int .i64 b] w fun e W'=>e = .returned (.int .i64 (ay a b))∧w=W':=by
 have ca:=fun W=>jG a W h0 h1
 have cb:=fun W=>jG b W h2 h3
 have cm:=fun W=>Tryz.bits_Mul64 a.natAbs b.natAbs (by omega) (by omega) W
 have hab:(a*b).natAbs=a.natAbs*b.natAbs:=Int.natAbs_mul a b
 have C:=Ha (Hb ca (Hb cb cm))
 clear ca cb cm
 generalize hx:a.natAbs*b.natAbs=x at *
 by_cases hb:18446744073709551616≤x
 ·have e1:ay a b=aT:=if_neg (by omega)
  have d1:((x / 18446744073709551616:Nat):Int)≠0:=by omega
  rw [e1];unfold aT
  have D:=Ha d1
  clear hx hab hb e1
  generalize x / 18446744073709551616=hi at *
  generalize x % 18446744073709551616=lo at *
  go_enter Tryz.func342,Tryz.ntmps342
  go_wp2_with fail
  refine (C.out.1 _).mono ?_
  rintro e w' ⟨rfl,rfl⟩
  go_wp2_with fail
  refine (C.out.2.1 _).mono ?_
  rintro e w' ⟨rfl,rfl⟩
  go_wp2_with fail
  refine (C.out.2.2 _).mono ?_
  rintro e w' ⟨rfl,rfl⟩
  go_wp2
  go_ret
  exact ⟨rfl,rfl⟩
 ·have d1:x / 18446744073709551616=0:=by omega
  have d2:x % 18446744073709551616=x:=by omega
  rw [d1,d2] at C
  by_cases hs:4611686018427387904≤x
  ·have e1:ay a b=aT:=if_neg (by omega)
   rw [e1];unfold aT
   have hs':(4611686018427387904:Int)≤(x:Int):=by omega
   clear hx hab hb e1 d1 d2
   go_enter Tryz.func342,Tryz.ntmps342
   go_wp2_with fail
   refine (C.out.1 _).mono ?_
   rintro e w' ⟨rfl,rfl⟩
   go_wp2_with fail
   refine (C.out.2.1 _).mono ?_
   rintro e w' ⟨rfl,rfl⟩
   go_wp2_with fail
   refine (C.out.2.2 _).mono ?_
   rintro e w' ⟨rfl,rfl⟩
   go_wp2
   go_ret
   exact ⟨rfl,rfl⟩
  ·have e1:ay a b=a*b:=if_pos (by omega)
   rw [e1]
   have hs':¬ (4611686018427387904:Int)≤(x:Int):=by omega
   have l1 : -9223372036854775808≤a*b:=by omega
   have l2:a*b≤9223372036854775807:=by omega
   clear hx hab hb e1 d1 d2 hs
   generalize (x:Int)=X at *
   go_enter Tryz.func342,Tryz.ntmps342
   go_wp2_with fail
   refine (C.out.1 _).mono ?_
   rintro e w' ⟨rfl,rfl⟩
   go_wp2_with fail
   refine (C.out.2.1 _).mono ?_
   rintro e w' ⟨rfl,rfl⟩
   go_wp2_with fail
   refine (C.out.2.2 _).mono ?_
   rintro e w' ⟨rfl,rfl⟩
   go_wp2
   go_ret
   exact ⟨ao (by omega),rfl⟩
end
section
open Go.Lib
theorem gp {x:Nat} (h0:x≠0) (h:x<18446744073709551616):∃ m,x=2 ^ ctz 64 x*(2*m+1)∧ctz 64 x<64:=by
 obtain ⟨m,h1,h2⟩:=ctzFrom_spec 64 x (by omega) (by simpa using h)
 exact ⟨m,by unfold ctz;rw [if_neg h0];exact h1,by unfold ctz;rw [if_neg h0];exact h2⟩
theorem xB (k m:Nat):Nat.Coprime (2 ^ k) (2*m+1):=by
 refine Nat.Coprime.pow_left k ?_
 unfold Nat.Coprime
 rw [Nat.gcd_rec,show (2*m+1) % 2=1 by omega];rfl
theorem rL (m k n:Nat):Nat.gcd (2*m+1) (2 ^ k*n)=Nat.gcd (2*m+1) n:=by
 rw [Nat.gcd_comm,Nat.Coprime.gcd_mul_left_cancel n (xB k m),Nat.gcd_comm]
theorem nM {x:Nat} (h0:x≠0) (h:x<18446744073709551616):∃ m,x / 2 ^ ctz 64 x=2*m+1∧x=2 ^ ctz 64 x*(2*m+1):=by
 obtain ⟨m,h1,_⟩:=gp h0 h
 refine ⟨m,?_,h1⟩
 have:x / 2 ^ ctz 64 x=(2 ^ ctz 64 x*(2*m+1)) / 2 ^ ctz 64 x:=congrArg (· / 2 ^ ctz 64 x) h1
 rw [this,Nat.mul_div_cancel_left _ (Nat.pow_pos (by decide))]
theorem rN {x k m c:Nat} (h:x=2 ^ c*(2*m+1)):2 ^ k∣x↔k≤c:=by
 constructor
 ·intro hd
  rcases Nat.lt_or_ge c k with q | q
  ·exfalso
   have h1:2 ^ (c+1)∣2 ^ c*(2*m+1):=by rw [←h];exact Nat.dvd_trans (Nat.pow_dvd_pow 2 q) hd
   rw [Nat.pow_succ] at h1
   have:=Nat.dvd_of_mul_dvd_mul_left (Nat.pow_pos (by decide)) h1
   omega
  ·exact q
 ·intro q
  rw [h];exact Nat.dvd_trans (Nat.pow_dvd_pow 2 q) (Nat.dvd_mul_right _ _)
theorem EN (x y k:Nat):2 ^ k∣(x ||| y)↔2 ^ k∣x∧2 ^ k∣y:=by
 rw [Nat.dvd_iff_mod_eq_zero,Nat.dvd_iff_mod_eq_zero,Nat.dvd_iff_mod_eq_zero,Nat.or_mod_two_pow,Nat.or_eq_zero_iff]
theorem EO {x y:Nat} (hx:x≠0) (hy:y≠0) (h:x<18446744073709551616) (h':y<18446744073709551616):ctz 64 (x ||| y)=min (ctz 64 x) (ctz 64 y):=by
 obtain ⟨m,h1,_⟩:=gp hx h
 obtain ⟨n,h2,_⟩:=gp hy h'
 have h3:x ||| y≠0:=fun q=>hx (Nat.or_eq_zero_iff.1 q).1
 obtain ⟨l,h4,_⟩:=gp h3 (Nat.or_lt_two_pow (n:=64) h h')
 have hk:∀ k,k≤ctz 64 (x ||| y)↔k≤ctz 64 x∧k≤ctz 64 y:=fun k=>by
  rw [←rN h4,EN,rN h1,rN h2]
 have a:=(hk (ctz 64 (x ||| y))).1 (Nat.le_refl _)
 have b:=(hk (min (ctz 64 x) (ctz 64 y))).2 ⟨Nat.min_le_left _ _,Nat.min_le_right _ _⟩
 omega
theorem yT {x y:Nat} (hx:x≠0) (hy:y≠0) (h:x<18446744073709551616) (h':y<18446744073709551616) :
  Nat.gcd x y=Nat.gcd (x / 2 ^ ctz 64 x) y*2 ^ ctz 64 (x ||| y):=by
 obtain ⟨m,h1,h2⟩:=nM hx h
 obtain ⟨n,_,h4⟩:=nM hy h'
 rw [EO hx hy h h',h1]
 generalize ctz 64 x=a at *
 generalize ctz 64 y=b at *
 subst h2;subst h4
 rw [rL]
 rcases Nat.le_total a b with q | q
 ·obtain ⟨c,rfl⟩:=Nat.exists_eq_add_of_le q
  rw [Nat.min_eq_left q,Nat.pow_add,Nat.mul_assoc,Nat.gcd_mul_left,rL,Nat.mul_comm]
 ·obtain ⟨c,rfl⟩:=Nat.exists_eq_add_of_le q
  rw [Nat.min_eq_right q,Nat.pow_add,Nat.mul_assoc,Nat.gcd_mul_left,Nat.Coprime.gcd_mul_left_cancel _ (xB c n),Nat.mul_comm]
theorem yU {x y:Nat} (hx:x % 2=1) (hy:y≠0) (h':y<18446744073709551616) :
  Nat.gcd (min x (y / 2 ^ ctz 64 y)) (max x (y / 2 ^ ctz 64 y) - min x (y / 2 ^ ctz 64 y))=Nat.gcd x y∧min x (y / 2 ^ ctz 64 y) % 2=1 ∧
   min x (y / 2 ^ ctz 64 y)+(max x (y / 2 ^ ctz 64 y) - min x (y / 2 ^ ctz 64 y))<x+y∧y / 2 ^ ctz 64 y≤y:=by
 obtain ⟨n,h3,h4⟩:=nM hy h'
 have h5:y / 2 ^ ctz 64 y≤y:=Nat.div_le_self _ _
 have h6:Nat.gcd x y=Nat.gcd x (y / 2 ^ ctz 64 y):=by
  rw [h3]
  conv=>lhs;rw [h4]
  obtain ⟨m,rfl⟩:∃ m,x=2*m+1:=⟨x / 2,by omega⟩
  exact rL _ _ _
 rw [h6]
 generalize y / 2 ^ ctz 64 y=z at *
 rcases Nat.le_total x z with q | q
 ·rw [Nat.min_eq_left q,Nat.max_eq_right q]
  exact ⟨Nat.gcd_sub_self_right q,hx,by omega,h5⟩
 ·rw [Nat.min_eq_right q,Nat.max_eq_left q]
  exact ⟨by rw [Nat.gcd_sub_self_right q,Nat.gcd_comm],by omega,by omega,h5⟩
end
end Go.Proofs.YtbhbhlfkdlfimaaGreatDoor
