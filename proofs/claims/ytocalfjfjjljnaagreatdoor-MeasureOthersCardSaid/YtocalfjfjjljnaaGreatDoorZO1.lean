/- Parts of the proof of the text YtocalfjfjjljnaaGreatDoorZO44. -/
import Derived.Lib.ItoaNum
import Derived.Lib.ItoaMem
import Derived.Lib.IndexMore
import Derived.Lib.IndexBytes
import Derived.Lib.TrimByte
import Derived.Test.YtocalfjfjjljnaaGreatDoorProg
import Derived.Handy
import Derived.WalkSpells
import Derived.WalkLawsBesides
import Derived.BigQuiet
import Derived.Deep.QuietTactic
import Derived.Lib.Hide
import Derived.Lib.Strings
import Derived.Below
import Derived.WalkKit
set_option linter.all false
set_option maxRecDepth 100000
set_option maxHeartbeats 8000000
namespace Go.Proofs.YtocalfjfjjljnaaGreatDoor
open Go.RowKit
theorem Ha {p:Prop} (h:p):Hid p:=Lib.hid h
theorem Hb {p q:Prop} (h:p) (k:q):p∧q:=⟨h,k⟩
end Go.Proofs.YtocalfjfjjljnaaGreatDoor
namespace Go.Proofs.YtocalfjfjjljnaaGreatDoor
section
open Go.RowKit
def CqB (w:World) (f:FuncId) (a:Array Value) (r:Value):Prop:=∀ W,Below w.heap.size w W→Calls Tryz.prog f a W fun e W'=>e = .returned r∧Below W.heap.size W W'
end
section
open Go.Lib
theorem f9 {α:Type} {P:List α→Prop} (h0:P []) (hs:∀ l a,P l→P (l ++ [a])) (l:List α):P l:=by
 rw [←List.reverse_reverse l]
 induction l.reverse with
 | nil=>exact h0
 | cons a t ih=>rw [List.reverse_cons];exact hs _ _ ih
def ad (l:List UInt8):Nat:=l.foldl (fun n c=>n*10+(c.toNat - 48)) 0
def aj (c:UInt8):Bool:=48≤c && c≤57
def af (l:List UInt8):Bool:=l.head? == some 45
def szL (l:List UInt8):List UInt8:=if af l then l.tail else l
def valOf (l:List UInt8):Int:=if af l then -(ad l.tail:Int) else (ad l:Int)
def chk (l:List UInt8):Int :=
 if !(szL l).all aj then 11
 else if (szL l) = []∨((szL l).head? = some 48∧l ≠ [48]) then 11
 else if 300<(szL l).length then 4 else 0
theorem lQ:ad []=0:=rfl
theorem bH (l:List UInt8) (c:UInt8):ad (l ++ [c])=ad l*10+(c.toNat - 48):=by
 simp [ad,List.foldl_append]
theorem dB (l m:List UInt8):ad (l++m)=ad l*10 ^ m.length+ad m:=by
 induction m using f9 with
 | h0=>simp [ad]
 | hs m c ih =>
  rw [←List.append_assoc,bH,ih,bH,List.length_append,List.length_singleton,Nat.pow_succ]
  rw [Nat.add_mul,Nat.mul_assoc,Nat.add_assoc]
theorem ao (c:UInt8):aj c=true↔48≤c.toNat∧c.toNat≤57:=by
 simp [aj,UInt8.le_iff_toNat_le]
theorem bg (l:List UInt8) (h:∀ c∈l,aj c=true):ad l<10 ^ l.length:=by
 induction l using f9 with
 | h0=>simp [ad]
 | hs m c ih =>
  have h1:=ih (fun c hc=>h c (by simp [hc]))
  have h2:=h c (by simp)
  have h3:c.toNat≤57:=by
   simp only [aj,Bool.and_eq_true,decide_eq_true_eq,UInt8.le_iff_toNat_le] at h2
   exact h2.2
  rw [bH,List.length_append,List.length_singleton,Nat.pow_succ]
  omega
theorem pf (d:Nat) (h:d<10):aj (UInt8.ofNat (48+d))=true:=by
 simp only [aj,Bool.and_eq_true,decide_eq_true_eq,UInt8.le_iff_toNat_le,UInt8.toNat_ofNat']
 have:(48+d) % 2 ^ 8=48+d:=Nat.mod_eq_of_lt (by omega)
 rw [this]
 exact ⟨by simp,by simp;omega⟩
theorem toNat_ofNat (d:Nat) (h:d<10):(UInt8.ofNat (48+d)).toNat=48+d:=by
 rw [UInt8.toNat_ofNat'];exact Nat.mod_eq_of_lt (by omega)
theorem aG (u:Nat):∀ c∈decDigits u,aj c=true:=by
 induction u using Nat.strongRecOn with
 | _ u ih =>
  intro c hc
  by_cases h:u<10
  ·rw [decDigits_one h] at hc
   rw [List.mem_singleton.1 hc];exact pf u h
  ·rw [decDigits,dif_neg h] at hc
   rcases List.mem_append.1 hc with hc | hc
   ·exact ih (u / 10) (by omega) c hc
   ·rw [List.mem_singleton.1 hc];exact pf (u % 10) (by omega)
theorem bY (u:Nat):ad (decDigits u)=u:=by
 induction u using Nat.strongRecOn with
 | _ u ih =>
  by_cases h:u<10
  ·rw [decDigits_one h]
   show 0*10+((UInt8.ofNat (48+u)).toNat - 48)=u
   rw [toNat_ofNat u h];omega
  ·rw [decDigits,dif_neg h,bH,ih (u / 10) (by omega),toNat_ofNat (u % 10) (by omega)]
   omega
theorem bL (u:Nat):decDigits u ≠ []:=by
 intro h;have:=decDigits_length u;rw [h] at this;have:=nDigits_pos u;simp at *; omega
theorem nC (u:Nat) (hu:0<u):∃ c,(decDigits u).head? = some c∧49≤c.toNat∧c.toNat≤57:=by
 induction u using Nat.strongRecOn with
 | _ u ih =>
  by_cases h:u<10
  ·rw [decDigits_one h]
   exact ⟨_,rfl,by rw [toNat_ofNat u h];omega,by rw [toNat_ofNat u h];omega⟩
  ·rw [decDigits,dif_neg h]
   obtain ⟨c,h1,h2,h3⟩:=ih (u / 10) (by omega) (by omega)
   exact ⟨c,by rw [List.head?_append,h1];rfl,h2,h3⟩
theorem pg (l:List UInt8) (hd:∀ c∈l,aj c=true) (h0:l.head? ≠ some 48) (hne:l ≠ []):decDigits (ad l)=l∧0<ad l:=by
 induction l using f9 with
 | h0=>exact absurd rfl hne
 | hs m c ih =>
  have h2:=hd c (by simp)
  have h3:48≤c.toNat∧c.toNat≤57:=by
   simp only [aj,Bool.and_eq_true,decide_eq_true_eq,UInt8.le_iff_toNat_le] at h2
   exact h2
  rw [bH]
  have hc:UInt8.ofNat (48+(c.toNat - 48))=c:=by
   rw [show 48+(c.toNat - 48)=c.toNat by omega];exact UInt8.ofNat_toNat
  by_cases hm:m = []
  ·subst hm
   have:c.toNat≠48:=by
    intro e;apply h0;simp
    exact UInt8.toNat_inj.1 (by simpa using e)
   rw [lQ]
   simp only [Nat.zero_mul,Nat.zero_add,List.nil_append]
   rw [decDigits_one (by omega),hc]
   exact ⟨rfl,by omega⟩
  ·obtain ⟨i1,i2⟩:=ih (fun c hc=>hd c (by simp [hc])) (by
    intro e;apply h0;rw [List.head?_append,e];rfl) hm
   rw [decDigits,dif_neg (by omega)]
   rw [show (ad m*10+(c.toNat - 48)) / 10=ad m by omega,show (ad m*10+(c.toNat - 48)) % 10=c.toNat - 48 by omega,i1,hc]
   exact ⟨rfl,by omega⟩
theorem vI (u:Nat):af (decDigits u)=false:=by
 have h:=aG u
 cases hl:decDigits u with
 | nil=>rfl
 | cons c t =>
  have:=h c (by rw [hl];simp)
  simp only [af,List.head?_cons]
  simp only [aj,Bool.and_eq_true,decide_eq_true_eq,UInt8.le_iff_toNat_le] at this
  rw [beq_eq_false_iff_ne]
  intro e
  injection e with e
  subst e
  simp at this
theorem lS (k:Nat):∀ u,u<10 ^ (k+1)→nDigits u≤k+1:=by
 induction k with
 | zero=>intro u h;rw [nDigits_small (by simpa using h)];exact Nat.le_refl _
 | succ k ih =>
  intro u h
  by_cases hu:u<10
  ·rw [nDigits_small hu];omega
  ·rw [nDigits_big hu]
   have:=ih (u / 10) (by rw [Nat.pow_succ] at h;omega)
   omega
theorem bh (u k:Nat) (hk:1≤k):nDigits u≤k↔u<10 ^ k:=by
 constructor
 ·intro h
  exact Nat.lt_of_lt_of_le (lt_pow_nDigits u) (Nat.pow_le_pow_right (by decide) h)
 ·intro h
  have:=lS (k - 1) u (by rw [Nat.sub_add_cancel hk];exact h)
  omega
theorem fU:itoa 0 = [48]:=by decide+kernel
theorem cY (l:List UInt8) (h:chk l=0):itoa (valOf l)=l:=by
 unfold chk at h
 by_cases h1:(szL l).all aj
 ·simp only [h1,Bool.not_true,Bool.false_eq_true,if_false] at h
  by_cases h2:(szL l) = []∨((szL l).head? = some 48∧l ≠ [48])
  ·rw [if_pos h2] at h;cases h
  ·rw [not_or] at h2
   obtain ⟨h2,h3⟩:=h2
   rw [List.all_eq_true] at h1
   by_cases hz:l = [48]
   ·subst hz;exact fU
   ·have h0:(szL l).head? ≠ some 48:=fun e=>h3 ⟨e,hz⟩
    obtain ⟨d1,d2⟩:=pg (szL l) h1 h0 h2
    unfold valOf
    by_cases hn:af l
    ·rw [if_pos hn]
     simp only [szL,hn,if_true] at d1 d2
     rw [itoa_neg _ d2,d1]
     cases l with
     | nil=>cases hn
     | cons c t =>
      simp only [af,List.head?_cons,beq_iff_eq,Option.some.injEq] at hn
      subst hn;rfl
    ·rw [if_neg hn]
     simp only [szL,hn,if_false,Bool.false_eq_true] at d1 d2
     rw [itoa_nonneg,d1]
 ·simp only [h1] at h;cases h
def aA (k:Nat):Nat:=10 ^ k
def lim:Nat:=aA 300
theorem ay {a b:Nat} (h:a≤b):aA a≤aA b:=Nat.pow_le_pow_right (by decide) h
theorem gQ (u k:Nat) (hk:1≤k):nDigits u≤k↔u<aA k:=bh u k hk
theorem cV (l:List UInt8) (h:∀ c∈l,aj c=true):ad l<aA l.length:=bg l h
theorem xo (l:List UInt8) (h:chk l=0):(valOf l).natAbs<lim:=by
 unfold chk at h
 by_cases h1:(szL l).all aj
 ·simp only [h1,Bool.not_true,Bool.false_eq_true,if_false] at h
  by_cases h2:(szL l) = []∨((szL l).head? = some 48∧l ≠ [48])
  ·rw [if_pos h2] at h;cases h
  ·rw [if_neg h2] at h
   by_cases h3:300<(szL l).length
   ·rw [if_pos h3] at h;cases h
   ·rw [List.all_eq_true] at h1
    have h6:(szL l).length≤300:=by omega
    have h5:ad (szL l)<lim:=Nat.lt_of_lt_of_le (cV (szL l) h1) (ay h6)
    unfold valOf
    by_cases hn:af l
    ·rw [if_pos hn];simp only [szL,hn,if_true] at h5;rw [Int.natAbs_neg];exact h5
    ·rw [if_neg hn];simp only [szL,hn,if_false,Bool.false_eq_true] at h5;exact h5
 ·simp only [h1] at h;cases h
theorem aN (z:Int):af (itoa z)=decide (z<0):=by
 by_cases h:z<0
 ·unfold itoa;rw [if_pos h];simp [af,h]
 ·unfold itoa;rw [if_neg h,vI];simp [h]
theorem cJ (z:Int):valOf (itoa z)=z:=by
 unfold valOf
 rw [aN]
 by_cases h:z<0
 ·simp only [h,decide_true,if_true]
  unfold itoa;rw [if_pos h]
  simp only [List.tail_cons]
  rw [bY];omega
 ·simp only [h,decide_false,Bool.false_eq_true,if_false]
  unfold itoa;rw [if_neg h,bY];omega
theorem iY (z:Int):szL (itoa z)=decDigits z.natAbs:=by
 unfold szL
 rw [aN]
 by_cases h:z<0
 ·simp only [h,decide_true,if_true]
  unfold itoa;rw [if_pos h];rfl
 ·simp only [h,decide_false,Bool.false_eq_true,if_false]
  unfold itoa;rw [if_neg h]
  congr 1;omega
theorem fy (z:Int):chk (itoa z)=if z.natAbs<lim then 0 else 4:=by
 unfold chk
 rw [iY]
 have h1:(decDigits z.natAbs).all aj=true:=List.all_eq_true.2 (aG _)
 have hne:=bL z.natAbs
 have h2:¬ (decDigits z.natAbs = []∨((decDigits z.natAbs).head? = some 48∧itoa z ≠ [48])):=by
  rintro (h | ⟨h,h'⟩)
  ·exact hne h
  ·by_cases hz:z=0
   ·subst hz;exact h' fU
   ·obtain ⟨c,h3,h4,_⟩:=nC z.natAbs (by omega)
    rw [h] at h3;injection h3 with h3;subst h3;simp at h4
 simp only [h1,Bool.not_true,Bool.false_eq_true,if_false]
 rw [if_neg h2,decDigits_length]
 by_cases h3:z.natAbs<lim
 ·rw [if_pos h3,if_neg]
  have h4:nDigits z.natAbs≤300:=(gQ z.natAbs 300 (by decide)).2 h3
  clear h3;omega
 ·rw [if_neg h3,if_pos]
  have h4:¬ nDigits z.natAbs≤300:=fun h=>h3 ((gQ z.natAbs 300 (by decide)).1 h)
  clear h3;omega
theorem kO {x y:Int} (h:itoa x=itoa y):x=y:=by rw [←cJ x,←cJ y,h]
def cW (q:Rat):List UInt8:=if q.den=1 then itoa q.num else itoa q.num++47::itoa q.den
def bF (l:List UInt8):List UInt8:=l.takeWhile (· != 47)
def bR (l:List UInt8):Bool:=l.contains 47
def aH (l:List UInt8):List UInt8:=if bR l then (l.dropWhile (· != 47)).tail else [49]
def dp (l:List UInt8):Bool:=chk (bF l) != 11 && chk (aH l) != 11 && !af (aH l) && aH l != [48] && !(bR l && aH l == [49])
def aM (l:List UInt8):Int :=
 if dp l=false then 11
 else if chk (bF l)≠0∨chk (aH l)≠0 then 4
 else if (valOf (bF l)).natAbs.gcd (ad (aH l))=1 then 0 else 11
def dq (l:List UInt8):Rat:=mkRat (valOf (bF l)) (ad (aH l))
theorem kP (u:Nat):(47:UInt8) ∉ decDigits u:=fun h=>by
 have:=aG u 47 h
 revert this;decide
theorem uD (z:Int):(47:UInt8) ∉ itoa z:=by
 unfold itoa
 split
 ·simp [kP]
 ·exact kP _
theorem oX {α:Type} (p:α→Bool) (l:List α) (h:∀ x∈l,p x=true):l.takeWhile p=l:=by
 induction l with
 | nil=>rfl
 | cons a t ih=>rw [List.takeWhile_cons_of_pos (h a (by simp)),ih (fun x hx=>h x (by simp [hx]))]
theorem oY {α:Type} (p:α→Bool) (l:List α) (c:α) (m:List α) (h:∀ x∈l,p x=true) (hc:p c=false):(l++c::m).takeWhile p=l∧(l++c::m).dropWhile p=c::m:=by
 induction l with
 | nil=>exact ⟨List.takeWhile_cons_of_neg (by simp [hc]),List.dropWhile_cons_of_neg (by simp [hc])⟩
 | cons a t ih =>
  obtain ⟨i1,i2⟩:=ih (fun x hx=>h x (by simp [hx]))
  refine ⟨?_,?_⟩
  ·rw [List.cons_append,List.takeWhile_cons_of_pos (h a (by simp)),i1]
  ·rw [List.cons_append,List.dropWhile_cons_of_pos (h a (by simp)),i2]
theorem xq {l:List UInt8} (h:(47:UInt8) ∉ l):∀ x∈l,(x != 47)=true:=fun x hx=>by
 rw [bne_iff_ne];rintro rfl;exact h hx
theorem nD {l:List UInt8} (h:(47:UInt8) ∉ l):bF l=l∧bR l=false∧aH l = [49]:=by
 have h1:bR l=false:=by unfold bR;simpa using h
 refine ⟨oX _ _ (xq h),h1,?_⟩
 unfold aH;rw [h1];rfl
theorem nE {n:List UInt8} (h:(47:UInt8) ∉ n) (d:List UInt8):bF (n++47::d)=n∧bR (n++47::d)=true∧aH (n++47::d)=d:=by
 obtain ⟨h1,h2⟩:=oY (· != 47) n 47 d (xq h) (by decide)
 have h3:bR (n++47::d)=true:=by unfold bR;simp
 refine ⟨h1,h3,?_⟩
 unfold aH;rw [h3,if_pos rfl,h2];rfl
theorem vJ {l:List UInt8} (h:(47:UInt8)∈l):∃ s t,l=s++47::t∧(47:UInt8) ∉ s:=by
 induction l with
 | nil=>cases h
 | cons a m ih =>
  by_cases ha:a=47
  ·subst ha;exact ⟨[],m,rfl,by simp⟩
  ·have h':(47:UInt8)∈m:=by
    rcases List.mem_cons.1 h with q | q
    ·exact absurd q.symm ha
    ·exact q
   obtain ⟨s,t,rfl,hs⟩:=ih h'
   refine ⟨a::s,t,rfl,?_⟩
   rw [List.mem_cons,not_or]
   exact ⟨fun q=>ha q.symm,hs⟩
theorem lT (l:List UInt8):(bR l=false∧l=bF l∧aH l = [49])∨(bR l=true∧l=bF l++47::aH l):=by
 by_cases h:(47:UInt8)∈l
 ·right
  obtain ⟨s,t,rfl,hs⟩:=vJ h
  obtain ⟨h1,h2,h3⟩:=nE hs t
  exact ⟨h2,by rw [h1,h3]⟩
 ·left
  obtain ⟨h1,h2,h3⟩:=nD h
  exact ⟨h2,h1.symm,h3⟩
theorem jC (l:List UInt8):(valOf l).natAbs=ad (szL l):=by unfold valOf szL;split <;> simp
theorem ec:itoa 1 = [49]:=by decide+kernel
theorem jD:valOf [49]=1:=by rw [←ec,cJ]
theorem lU:ad [49]=1:=by decide
theorem fV {l:List UInt8} (h:af l=false):(ad l:Int)=valOf l:=by unfold valOf;rw [h];rfl
theorem di (q:Rat):bF (cW q)=itoa q.num∧aH (cW q)=itoa q.den∧bR (cW q)=decide (q.den≠1):=by
 unfold cW
 by_cases h:q.den=1
 ·rw [if_pos h]
  obtain ⟨h1,h2,h3⟩:=nD (uD q.num)
  exact ⟨h1,by rw [h3,h];exact ec.symm,by rw [h2,h];rfl⟩
 ·rw [if_neg h]
  obtain ⟨h1,h2,h3⟩:=nE (uD q.num) (itoa q.den)
  exact ⟨h1,h3,by rw [h2];simp [h]⟩
theorem iZ (q:Rat):dq (cW q)=q:=by
 obtain ⟨h1,h2,_⟩:=di q
 unfold dq
 rw [h1,h2,cJ]
 have h3:(ad (itoa (q.den:Int)):Int)=(q.den:Int):=by
  rw [fV (by rw [aN];simp),cJ]
 rw [Int.ofNat.inj h3,Rat.mkRat_self]
theorem vK {x y:Rat} (h:cW x=cW y):x=y:=by rw [←iZ x,←iZ y,h]
theorem q8 (q:Rat):dp (cW q)=true:=by
 obtain ⟨h1,h2,h3⟩:=di q
 have hd:=q.den_nz
 have c1:chk (itoa q.num)≠11:=by rw [fy];split <;> decide
 have c2:chk (itoa (q.den:Int))≠11:=by rw [fy];split <;> decide
 have c3:af (itoa (q.den:Int))=false:=by rw [aN];simp
 have c4:itoa (q.den:Int) ≠ [48]:=fun h=>by
  rw [←fU] at h
  have:=kO h
  omega
 have c5:bR (cW q)=true→itoa (q.den:Int) ≠ [49]:=fun h h'=>by
  rw [←ec] at h'
  have:=kO h'
  rw [h3] at h
  have:=of_decide_eq_true h
  omega
 unfold dp
 rw [h1,h2]
 cases hs:bR (cW q)
 ·simp [c1,c2,c3,c4]
 ·simp [c1,c2,c3,c4,c5 hs]
theorem nF (q:Rat):aM (cW q)=if q.num.natAbs<lim∧q.den<lim then 0 else 4:=by
 obtain ⟨h1,h2,_⟩:=di q
 have h3:(ad (itoa (q.den:Int)):Int)=(q.den:Int):=by
  rw [fV (by rw [aN];simp),cJ]
 have h4:=Int.ofNat.inj h3
 unfold aM
 rw [q8,if_neg (by decide),h1,h2,fy,fy,cJ,h4,Int.natAbs_natCast]
 by_cases a1:q.num.natAbs<lim
 ·by_cases a2:q.den<lim
  ·rw [if_pos a1,if_pos a2,if_neg (by simp),if_pos q.reduced,if_pos ⟨a1,a2⟩]
  ·rw [if_pos a1,if_neg a2,if_pos (Or.inr (by decide)),if_neg (fun h=>a2 h.2)]
 ·rw [if_neg a1,if_pos (Or.inl (by decide)),if_neg (fun h=>a1 h.1)]
theorem s9 {l:List UInt8} (h:aM l=0):dp l=true∧chk (bF l)=0∧chk (aH l)=0∧(dq l).num=valOf (bF l)∧((dq l).den:Int)=valOf (aH l)∧0<valOf (aH l):=by
 unfold aM at h
 split at h
 ·cases h
 ·rename_i hf
  split at h
  ·cases h
  ·rename_i hc
   split at h
   ·rename_i hg
    have hf':dp l=true:=by simpa using hf
    have hn:chk (bF l)=0:=Decidable.byContradiction fun q=>hc (Or.inl q)
    have hd:chk (aH l)=0:=Decidable.byContradiction fun q=>hc (Or.inr q)
    have hx:=hf'
    unfold dp at hx
    simp only [Bool.and_eq_true,Bool.not_eq_true',bne_iff_ne,ne_eq] at hx
    have hneg:=hx.1.1.2
    have h48:=hx.1.2
    have hv:=fV hneg
    have hpos:0<valOf (aH l):=by
     rcases Int.lt_or_le 0 (valOf (aH l)) with q | q
     ·exact q
     ·exfalso
      refine h48 ?_
      rw [←cY _ hd,show valOf (aH l)=0 by omega,fU]
    have hne:ad (aH l)≠0:=by omega
    have e:dq l=⟨valOf (bF l),ad (aH l),hne,hg⟩:=(Rat.mk_eq_mkRat _ _ hne hg).symm
    exact ⟨hf',hn,hd,by rw [e],by rw [e];exact hv,hpos⟩
   ·cases h
theorem mD {l:List UInt8} (h:aM l=0):cW (dq l)=l:=by
 obtain ⟨hf,hn,hd,e1,e2,_⟩:=s9 h
 unfold cW
 rw [e1,e2,cY _ hn,cY _ hd]
 rcases lT l with ⟨_,h2,h3⟩ | ⟨h1,h2⟩
 ·rw [h3,jD] at e2
  rw [if_pos (by omega)];exact h2.symm
 ·have h4:(dq l).den≠1:=fun q=>by
   rw [q] at e2
   have:aH l = [49]:=by rw [←cY _ hd,←e2];exact ec
   unfold dp at hf
   rw [h1,this] at hf
   simp at hf
  rw [if_neg h4];exact h2.symm
theorem nG {l:List UInt8} (h:aM l=0):(dq l).num.natAbs<lim∧(dq l).den<lim:=by
 have h1:=nF (dq l)
 rw [mD h,h] at h1
 by_cases q:(dq l).num.natAbs<lim∧(dq l).den<lim
 ·exact q
 ·rw [if_neg q] at h1;cases h1
theorem kQ {l:List UInt8} {c:UInt8} (h:c ∉ l):indexByte l c = -1:=by
 induction l with
 | nil=>rfl
 | cons a t ih =>
  have h1:a≠c:=fun q=>h (by simp [q])
  have h2:c ∉ t:=fun q=>h (by simp [q])
  unfold indexByte
  rw [if_neg (by simpa using h1),ih h2];rfl
theorem kR {s:List UInt8} {c:UInt8} (t:List UInt8) (h:c ∉ s):indexByte (s++c::t) c=s.length:=by
 induction s with
 | nil=>simp [indexByte]
 | cons a s ih =>
  have h1:a≠c:=fun q=>h (by simp [q])
  have h2:c ∉ s:=fun q=>h (by simp [q])
  rw [List.cons_append]
  unfold indexByte
  rw [if_neg (by simpa using h1),ih h2,if_neg (by simp)]
  simp
theorem zS (l:List UInt8):(bF l).length≤l.length:=by
 rcases lT l with ⟨_,h2,_⟩ | ⟨_,h2⟩
 ·rw [←h2];omega
 ·have:=congrArg List.length h2
  simp only [List.length_append,List.length_cons] at this;omega
end
namespace T
open Go.Proofs.YtocalfjfjjljnaaGreatDoor Go Go.Lib
def bO (l:List UInt8):ByteArray:=⟨l.toArray⟩
theorem aP (l:List UInt8):(bO l).data.toList=l:=by unfold bO;simp
theorem ai (l:List UInt8):(bO l).size=l.length:=by unfold bO;simp [ByteArray.size]
theorem ee (l m:List UInt8):bO l++bO m=bO (l++m):=by
 have h:∀ s t:ByteArray,s.data.toList=t.data.toList→s=t:=fun s t h=>by
  cases s;cases t;congr 1;exact Array.ext' h
 apply h
 rw [ByteArray.data_append]
 unfold bO
 simp
theorem xr (s:ByteArray):bO s.data.toList=s:=by
 cases s;unfold bO;simp
def dgs (l:List UInt8):Bool := !l.isEmpty && l.all aj
theorem pQ {l:List UInt8} (h:dgs l=true):∀ c∈l,aj c=true:=by
 unfold dgs at h
 rw [Bool.and_eq_true] at h
 exact List.all_eq_true.1 h.2
theorem ta {l:List UInt8} (h:dgs l=true):l ≠ []:=by
 rintro rfl;cases h
theorem tb {l:List UInt8} (h:∀ c∈l,aj c=true) (h0:l ≠ []):dgs l=true:=by
 unfold dgs
 rw [List.all_eq_true.2 h]
 cases l with
 | nil=>exact absurd rfl h0
 | cons a t=>rfl
theorem xt {l:List UInt8} (h:∀ c∈l,aj c=true) {c:UInt8} (hc:aj c=false):c ∉ l:=fun hm=>by
 rw [h c hm] at hc;cases hc
def nz (l:List UInt8):List UInt8:=l.dropWhile (· == 48)
def wz (l:List UInt8):List UInt8:=if nz l = [] then [48] else nz l
theorem tc (t:List UInt8):ad (48::t)=ad t:=by
 have:=dB [48] t
 rw [List.singleton_append] at this
 rw [this,show ad [48]=0 by decide];omega
theorem xu {l:List UInt8} (h:∀ c∈l,aj c=true):(∀ c∈nz l,aj c=true)∧ad (nz l)=ad l∧(nz l).head? ≠ some 48:=by
 induction l with
 | nil=>exact ⟨by simp [nz],rfl,by simp [nz]⟩
 | cons a t ih =>
  have ht:=ih (fun c hc=>h c (by simp [hc]))
  by_cases ha:a=48
  ·subst ha
   have e:nz (48::t)=nz t:=by unfold nz;rw [List.dropWhile_cons_of_pos (by decide)]
   rw [e,tc];exact ht
  ·have e:nz (a::t)=a::t:=by unfold nz;rw [List.dropWhile_cons_of_neg (by simpa using ha)]
   rw [e]
   exact ⟨h,rfl,by simpa using ha⟩
theorem xw {l:List UInt8} (h:∀ c∈l,aj c=true):wz l=decDigits (ad l):=by
 obtain ⟨h1,h2,h3⟩:=xu h
 unfold wz
 by_cases hn:nz l = []
 ·rw [if_pos hn,←h2,hn,lQ,decDigits_one (by decide)];rfl
 ·rw [if_neg hn,←h2,(pg _ h1 h3 hn).1]
theorem q9:∀ n,decDigits (10 ^ n)=49::List.replicate n 48
 | 0=>by rw [Nat.pow_zero,decDigits_one (by decide)];rfl
 | n+1=>by
  have h:¬ 10 ^ (n+1)<10:=by
   have:=Nat.pow_pos (n:=n) (show 0<10 by decide)
   rw [Nat.pow_succ];omega
  rw [decDigits,dif_neg h,show 10 ^ (n+1) / 10=10 ^ n by rw [Nat.pow_succ];omega,show 10 ^ (n+1) % 10=0 by rw [Nat.pow_succ];omega,q9 n,List.replicate_succ']
  rfl
def kA (c:UInt8) (l:List UInt8):List UInt8:=l.takeWhile (· != c)
def kB (c:UInt8) (l:List UInt8):List UInt8:=(l.dropWhile (· != c)).tail
def kH (c:UInt8) (l:List UInt8):Bool:=l.contains c
theorem lV {c:UInt8} {l:List UInt8}:kH c l=true↔c∈l:=by unfold kH;simp
theorem DA {c:UInt8} {l:List UInt8} (h:c ∉ l):kH c l=false:=by
 cases e:kH c l
 ·rfl
 ·exact absurd (lV.1 e) h
theorem lW {c a:UInt8} (t:List UInt8) (h:a≠c):kA c (a::t)=a::kA c t∧kB c (a::t)=kB c t:=by
 unfold kA kB
 rw [List.takeWhile_cons_of_pos (by simpa using h),List.dropWhile_cons_of_pos (by simpa using h)]
 exact ⟨rfl,rfl⟩
theorem uE (c:UInt8) (t:List UInt8):kA c (c::t) = []∧kB c (c::t)=t:=by
 unfold kA kB
 rw [List.takeWhile_cons_of_neg (by simp),List.dropWhile_cons_of_neg (by simp)]
 exact ⟨rfl,rfl⟩
theorem nh {c:UInt8}:∀ {l:List UInt8},c∈l→l=kA c l++c::kB c l
 | a::t,h=>by
  by_cases ha:a=c
  ·subst ha
   obtain ⟨e1,e2⟩:=uE a t
   rw [e1,e2];rfl
  ·obtain ⟨e1,e2⟩:=lW t ha
   have ht:c∈t:=by
    rcases List.mem_cons.1 h with h | h
    ·exact absurd h.symm ha
    ·exact h
   rw [e1,e2,List.cons_append,←nh ht]
theorem BJ (c:UInt8):∀ l:List UInt8,c ∉ kA c l
 | []=>by simp [kA]
 | a::t=>by
  by_cases ha:a=c
  ·subst ha;rw [(uE a t).1];simp
  ·rw [(lW t ha).1,List.mem_cons,not_or]
   exact ⟨fun e=>ha e.symm,BJ c t⟩
theorem xx {c:UInt8}:∀ {l:List UInt8},c ∉ l→kA c l=l∧kB c l = []
 | [],_=>⟨rfl,rfl⟩
 | a::t,h=>by
  rw [List.mem_cons,not_or] at h
  obtain ⟨e1,e2⟩:=lW t (fun e=>h.1 e.symm)
  obtain ⟨i1,i2⟩:=xx h.2
  rw [e1,e2,i1,i2];exact ⟨rfl,rfl⟩
theorem uF {c:UInt8}:∀ {s:List UInt8} (t:List UInt8),c ∉ s→kA c (s++c::t)=s∧kB c (s++c::t)=t∧kH c (s++c::t)=true
 | [],t,_=>⟨(uE c t).1,(uE c t).2,lV.2 (by simp)⟩
 | a::s,t,h=>by
  rw [List.mem_cons,not_or] at h
  obtain ⟨e1,e2⟩:=lW (s++c::t) (fun e=>h.1 e.symm)
  obtain ⟨i1,i2,_⟩:=uF t h.2
  rw [List.cons_append,e1,e2,i1,i2];exact ⟨rfl,rfl,lV.2 (by simp)⟩
theorem kS (c:UInt8) (l:List UInt8):(kA c l).length≤l.length∧(kB c l).length≤l.length:=by
 by_cases h:c∈l
 ·have:=congrArg List.length (nh h)
  rw [List.length_append,List.length_cons] at this
  omega
 ·rw [(xx h).1,(xx h).2];exact ⟨Nat.le_refl _,Nat.zero_le _⟩
def sg (b:Bool) (l:List UInt8):List UInt8:=if b then 45::l else l
theorem xz {b:Bool} {l:List UInt8} (h:af l=false):af (sg b l)=b∧szL (sg b l)=l:=by
 cases b
 ·have e:sg false l=l:=rfl
  rw [e]
  exact ⟨h,by unfold szL;rw [h];rfl⟩
 ·exact ⟨rfl,rfl⟩
theorem ph {l:List UInt8} (h:∀ c∈l,aj c=true) (m:List UInt8) (h0:l ≠ []):af (l++m)=false:=by
 cases l with
 | nil=>exact absurd rfl h0
 | cons a t =>
  have h1:=h a (by simp)
  unfold af
  rw [List.cons_append,List.head?_cons,beq_eq_false_iff_ne]
  intro e
  injection e with e
  subst e;revert h1;decide
theorem zT (z:Int):itoa z=sg (decide (z<0)) (decDigits z.natAbs):=by
 unfold sg
 by_cases h:z<0
 ·rw [decide_eq_true h];unfold itoa;rw [if_pos h];rfl
 ·rw [decide_eq_false h];unfold itoa;rw [if_neg h,show z.toNat=z.natAbs by omega];rfl
theorem DB (l:List UInt8):sg (af l) (szL l)=l:=by
 unfold sg szL
 cases h:af l
 ·rfl
 ·cases l with
  | nil=>cases h
  | cons a t =>
   simp only [af,List.head?_cons,beq_iff_eq,Option.some.injEq] at h
   subst h;rfl
def pad (n m:Nat):List UInt8:=List.replicate (n+1 - (decDigits m).length) 48++decDigits m
theorem zU (n m:Nat):n+1≤(pad n m).length:=by unfold pad;rw [List.length_append,List.length_replicate];omega
theorem xA (n m:Nat):(pad n m).length≤n+1+(decDigits m).length:=by unfold pad;rw [List.length_append,List.length_replicate];omega
def tf (n m:Nat):List UInt8:=if n=0 then decDigits m else (pad n m).take ((pad n m).length - n)++46::(pad n m).drop ((pad n m).length - n)
theorem xB (n m:Nat):(tf n m).length≤n+2+(decDigits m).length:=by
 unfold tf
 by_cases h0:n=0
 ·rw [if_pos h0];omega
 ·rw [if_neg h0,List.length_append,List.length_cons,List.length_take,List.length_drop]
  have:=xA n m
  omega
def xC (n:Nat) (z:Int):List UInt8:=sg (decide (z<0)) (tf n z.natAbs)
def ftU (m:Nat):List UInt8:=decDigits (m / 144)++39::(decDigits (m / 12 % 12)++34::decDigits (m % 12))
def ftT (z:Int):List UInt8:=sg (decide (z<0)) (ftU z.natAbs)
theorem uG (m:Nat):af (ftU m)=false:=ph (aG _) _ (bL _)
theorem uH (m:Nat):kA 39 (ftU m)=decDigits (m / 144)∧kA 34 (kB 39 (ftU m))=decDigits (m / 12 % 12)∧kB 34 (kB 39 (ftU m))=decDigits (m % 12):=by
 unfold ftU
 obtain ⟨e1,e2,_⟩:=uF (c:=39) (decDigits (m / 12 % 12)++34::decDigits (m % 12)) (xt (aG (m / 144)) (by decide))
 obtain ⟨f1,f2,_⟩:=uF (c:=34) (decDigits (m % 12)) (xt (aG (m / 12 % 12)) (by decide))
 rw [e1,e2,f1,f2]
 exact ⟨rfl,rfl,rfl⟩
end T
section
open Go.Lib
def fz (s:List UInt8):Bool:=s.all aj && !s.isEmpty && !(decide (1<s.length) && s.head? == some 48)
theorem kt {l:List UInt8} (h:af l=true):∃ t,l=45::t∧szL l=t:=by
 cases l with
 | nil=>cases h
 | cons c t =>
  have hc:c=45:=by simpa [af] using h
  subst hc
  exact ⟨t,rfl,by unfold szL;rw [h];rfl⟩
theorem bi {l:List UInt8} (h:af l=false):szL l=l:=by unfold szL;rw [h];rfl
theorem rc (l:List UInt8):(chk l != 11)=(fz (szL l) && !(af l && szL l == [48])):=by
 have h1:(chk l != 11)=((szL l).all aj && !decide (szL l = []∨((szL l).head? = some 48∧l ≠ [48]))):=by
  unfold chk
  cases (szL l).all aj
  ·rfl
  ·by_cases hp:szL l = []∨((szL l).head? = some 48∧l ≠ [48])
   ·rw [if_neg (by decide),if_pos hp,decide_eq_true hp];rfl
   ·rw [if_neg (by decide),if_neg hp,decide_eq_false hp]
    split <;> rfl
 rw [h1]
 unfold fz
 cases (szL l).all aj
 ·simp
 ·cases hn:af l
  ·rw [bi hn]
   rcases l with _ | ⟨c,_ | ⟨d,t⟩⟩
   ·simp
   ·by_cases hc:c=48 <;> simp [hc]
   ·simp;rfl
  ·obtain ⟨t,rfl,hs⟩:=kt hn
   rw [hs]
   rcases t with _ | ⟨c,_ | ⟨d,t⟩⟩
   ·simp
   ·by_cases hc:c=48 <;> simp [hc]
   ·simp;rfl
def sN (l:List UInt8):List UInt8:=(szL l).takeWhile (· != 47)
def sD (l:List UInt8):List UInt8:=if bR l then aH l else []
theorem pR (l:List UInt8):af (bF l)=af l∧szL (bF l)=sN l:=by
 unfold sN bF
 cases hn:af l
 ·rw [bi hn]
  have h2:af (l.takeWhile (· != 47))=false:=by
   cases l with
   | nil=>rfl
   | cons c t =>
    by_cases hc:c=47
    ·subst hc;rfl
    ·rw [List.takeWhile_cons_of_pos (by simpa using hc)]
     simpa [af] using hn
  exact ⟨h2,bi h2⟩
 ·obtain ⟨t,rfl,hs⟩:=kt hn
  rw [hs,List.takeWhile_cons_of_pos (by decide)]
  exact ⟨rfl,rfl⟩
def kv (l:List UInt8):Bool := !fz (sN l) || bR l && (!fz (sD l) || sD l == [48] || sD l == [49]) || af l && sN l == [48]
def tg (l:List UInt8):Int :=
 if kv l=true then 11
 else if 300<(sN l).length∨300<(sD l).length then 4
 else if bR l=false then 0 else if Nat.gcd (ad (sN l)) (ad (sD l))=1 then 0 else 11
theorem kT {s:List UInt8} (h:fz s=true):af s=false:=by
 unfold fz at h
 cases s with
 | nil=>rfl
 | cons c t =>
  simp only [List.all_cons,Bool.and_eq_true] at h
  have h1:=h.1.1.1
  cases hc:af (c::t)
  ·rfl
  ·have hc:c=45:=by simpa [af] using hc
   subst hc;cases h1
theorem uI {l:List UInt8} (h:af l=false):(chk l != 11)=fz l:=by rw [rc,bi h,h];simp
theorem vL (l:List UInt8):dp l = !kv l:=by
 obtain ⟨h1,h2⟩:=pR l
 unfold dp kv
 rw [rc (bF l),h1,h2]
 unfold sD
 cases hs:bR l
 ·have hd:aH l = [49]:=by unfold aH;rw [hs];rfl
  rw [hd]
  cases fz (sN l) <;> cases af l <;> cases (sN l == [48]) <;> rfl
 ·rw [if_pos rfl]
  cases hn:af (aH l)
  ·rw [uI hn]
   cases fz (sN l) <;> cases af l <;> cases (sN l == [48]) <;> cases fz (aH l) <;> cases (aH l == [49]) <;> cases h48:(aH l == [48]) <;> simp_all
  ·have hd:fz (aH l)=false:=by
    cases hd:fz (aH l)
    ·rfl
    ·rw [kT hd] at hn;cases hn
   rw [hd]
   simp
theorem kU {l:List UInt8} (h:(chk l != 11)=true):chk l=if 300<(szL l).length then 4 else 0:=by
 unfold chk at h ⊢
 split
 ·rename_i hc;rw [if_pos hc] at h;cases h
 ·rename_i hc
  rw [if_neg hc] at h
  split
  ·rename_i hd;rw [if_pos hd] at h;cases h
  ·rfl
theorem vM (l:List UInt8):tg l=aM l:=by
 unfold tg aM
 have hf:=vL l
 obtain ⟨c1,c2⟩:=pR l
 cases hq:dp l
 ·have hb:kv l=true:=by rw [hq] at hf;cases h:kv l;rw [h] at hf;cases hf;rfl
  rw [if_pos hb,if_pos rfl]
 ·have hb:¬ kv l=true:=by rw [hq] at hf;intro h;rw [h] at hf;cases hf
  rw [if_neg hb,if_neg (by decide:¬ true=false)]
  have hq':=hq
  unfold dp at hq'
  simp only [Bool.and_eq_true,Bool.not_eq_true',bne_iff_ne,ne_eq] at hq'
  obtain ⟨⟨⟨⟨k1,k2⟩,k3⟩,k4⟩,k5⟩:=hq'
  have e1:=kU (l:=bF l) (by simpa using k1)
  have e2:=kU (l:=aH l) (by simpa using k2)
  rw [c2] at e1
  rw [bi k3] at e2
  have hv:(valOf (bF l)).natAbs=ad (sN l):=by rw [jC,c2]
  rw [hv]
  unfold sD
  cases hs:bR l
  ·have hd:aH l = [49]:=by unfold aH;rw [hs];rfl
   rw [hd] at e2 ⊢
   have e3:chk [49]=0:=by rw [e2];rfl
   by_cases hl:300<(sN l).length
   ·rw [if_pos (.inl hl),if_pos (.inl (by rw [e1,if_pos hl];decide))]
   ·rw [if_neg (by rintro (h | h);exact hl h;exact absurd h (by decide)),if_pos rfl,if_neg (by rintro (h | h);exact h (by rw [e1,if_neg hl]);exact h e3),if_pos (by rw [lU,Nat.gcd_one_right])]
  ·rw [if_pos rfl]
   by_cases hl:300<(sN l).length
   ·rw [if_pos (.inl hl),if_pos (.inl (by rw [e1,if_pos hl];decide))]
   ·by_cases hl2:300<(aH l).length
    ·rw [if_pos (.inr hl2),if_pos (.inr (by rw [e2,if_pos hl2];decide))]
    ·have hX:¬ (chk (bF l)≠0∨chk (aH l)≠0):=by
      rintro (h | h)
      ·exact h (by rw [e1,if_neg hl])
      ·exact h (by rw [e2,if_neg hl2])
     rw [if_neg (by rintro (h | h);exact hl h;exact hl2 h),if_neg (by decide:¬ true=false),if_neg hX]
end
section
open Go.RowKit
theorem de {a b:Bool} (h:a=b):Ending.returned (.bool a) = .returned (.bool b):=by rw [h]
theorem ah {k:IntKind} {a b:Int} (h:a=b):Ending.returned (.int k a) = .returned (.int k b):=by rw [h]
theorem jE {a b:ByteArray} (h:a=b):Ending.returned (.string a) = .returned (.string b):=by rw [h]
theorem ac (s:ByteArray):s.data.toList.length=s.size:=rfl
theorem gg {s:ByteArray} (h:s.size=0):s.toList.isEmpty=true:=by
 rw [ByteArray.toList_eq,List.isEmpty_iff];exact List.eq_nil_of_length_eq_zero h
theorem fC {s:ByteArray} (h:0<s.size):s.toList.isEmpty=false:=by
 rw [ByteArray.toList_eq]
 cases hl:s.data.toList with
 | nil=>have:=ac s;rw [hl] at this;simp at this;omega
 | cons a t=>rfl
theorem cQ {s:ByteArray} (h:s.size=0):s.data.toList = []:=List.eq_nil_of_length_eq_zero h
theorem jF {s:ByteArray} (h:0<s.size):∃ t,s.data.toList=s[0]::t:=by
 have h2:s.data.toList[0]'(by rw [ac];exact h)=s[0]:=rfl
 cases hl:s.data.toList with
 | nil=>have:=ac s;rw [hl] at this;simp at this;omega
 | cons a t=>simp only [hl] at h2;exact ⟨t,by rw [←h2];rfl⟩
theorem mE (c:UInt8) (k:Nat) (hk:k<256):(((c.toNat:Nat):Int)==(k:Int))=(c==UInt8.ofNat k):=by
 rw [Bool.eq_iff_iff,beq_iff_eq,beq_iff_eq]
 constructor
 ·intro h
  have h2:c.toNat=k:=by omega
  rw [←h2];exact UInt8.ofNat_toNat.symm
 ·intro h;subst h
  rw [UInt8.toNat_ofNat']
  have:k % 2 ^ 8=k:=Nat.mod_eq_of_lt (by omega)
  rw [this]
theorem au {s:ByteArray} (h:0<s.size):(((s[0].toNat:Nat):Int)==45)=af s.data.toList:=by
 obtain ⟨t,ht⟩:=jF h
 rw [ht]
 have:=mE s[0] 45 (by decide)
 exact this.trans (by unfold af;rfl)
theorem dv (s:ByteArray) (w:World) :
  Calls Tryz.prog 131 #[.string s] w fun e w'=>e = .returned (.bool (af s.data.toList))∧w=w':=by
 by_cases h:0<s.size
 ·have hE:=fC h
  go_enter Tryz.func131,Tryz.ntmps131
  go_wp2
  go_ret
  exact ⟨de (au h),rfl⟩
 ·have h0:s.size=0:=by omega
  have hE:=gg h0
  go_enter Tryz.func131,Tryz.ntmps131
  go_wp2
  go_ret
  exact ⟨de (by rw [cQ h0];rfl),rfl⟩
def szB (s:ByteArray):ByteArray:=if af s.data.toList then s.extract 1 s.size else s
theorem ck (s:ByteArray):(szB s).data.toList=szL s.data.toList:=by
 unfold szB szL
 by_cases h:af s.data.toList
 ·rw [if_pos h,if_pos h,Lib.extract_data]
  rw [←List.drop_one]
  rw [List.take_of_length_le]
  rw [List.length_drop];rw [ac];omega
 ·rw [if_neg h,if_neg h]
theorem aT {s:ByteArray} (h:af s.data.toList=true):0<s.size:=by
 rw [←ac]
 cases hl:s.data.toList with
 | nil=>rw [hl] at h;cases h
 | cons a t=>simp
theorem gh (s:ByteArray):(szB s).size≤s.size:=by
 unfold szB;split
 ·rw [ByteArray.size_extract];omega
 ·exact Nat.le_refl _
theorem dC (s:ByteArray) (w:World) (hs:s.size≤maxLen) :
  Calls Tryz.prog 135 #[.string s] w fun e w'=>e = .returned (.string (szB s))∧w=w':=by
 unfold maxLen at hs
 by_cases h:af s.data.toList=true
 ·have h0:=aT h
  go_enter Tryz.func135,Tryz.ntmps135
  go_wp2_with (go_at_call 131;refine (dv s _).mono ?_;rw [h];rintro e w' ⟨rfl,rfl⟩)
  go_ret
  exact ⟨jE (by unfold szB;rw [if_pos h]),rfl⟩
 ·have h':af s.data.toList=false:=by simpa using h
  go_enter Tryz.func135,Tryz.ntmps135
  go_wp2_with (go_at_call 131;refine (dv s _).mono ?_;rw [h'];rintro e w' ⟨rfl,rfl⟩)
  go_ret
  exact ⟨jE (by unfold szB;rw [h'];rfl),rfl⟩
theorem a8 (s:ByteArray) (k:Nat) (h:k<s.size):s.data.toList.take (k+1)=s.data.toList.take k ++ [s[k]]:=by
 rw [List.take_succ_eq_append_getElem (by simpa using h)];rfl
theorem cD (s:ByteArray) (k:Nat) (h:k<s.size):s[k]∈s.data.toList:=by
 have:s.data.toList[k]'(by rw [ac];exact h)=s[k]:=rfl
 rw [←this];exact List.getElem_mem _
theorem j4 (l:List UInt8) (h:∀ c∈l,aj c=true) (k:Nat):ad (l.take k)<10 ^ k:=by
 have h1:=bg (l.take k) (fun c hc=>h c (List.mem_of_mem_take hc))
 exact Nat.lt_of_lt_of_le h1 (Nat.pow_le_pow_right (by decide) (List.length_take_le _ _))
theorem j5 (l:List UInt8) (h:∀ c∈l,aj c=true) (k:Nat) (hk:k≤18):ad (l.take k)<1000000000000000000 :=
 Nat.lt_of_lt_of_le (j4 l h k) (Nat.le_trans (Nat.pow_le_pow_right (by decide) hk) (by decide))
theorem gV (s:ByteArray) (w:World) (hs:s.size≤18) (hd:∀ c∈s.data.toList,aj c=true) :
  Calls Tryz.prog 132 #[.string s] w fun e w'=>e = .returned (.int .u64 (ad s.data.toList:Nat))∧w=w':=by
 have HD:=Ha hd;clear hd
 go_enter Tryz.func132,Tryz.ntmps132
 go_wp2
 go_loop [3,7] (fun n i=>∃ k:Nat,k≤s.size∧i = .int .i64 k∧n = .int .u64 (ad (s.data.toList.take k):Nat)) (fun _ i=>s.size - (intOf i).toNat)
 case atStart=>exact ⟨0,Nat.zero_le _,rfl,rfl⟩
 case round =>
  obtain ⟨k,hk,rfl,rfl⟩:=hrel
  by_cases hlt:k<s.size
  ·have hn:=j5 s.data.toList HD.out k (by omega)
   have hc:=(ao s[k]).1 (HD.out _ (cD s k hlt))
   have HS:Hid (ad (s.data.toList.take (k+1))=ad (s.data.toList.take k)*10+(s[k].toNat - 48)):=by rw [a8 s k hlt];exact bH _ _
   go_wp2
   go_round
   case rel=>exact ⟨k+1,by omega,by go_num,by rw [HS.out];go_num⟩
   case measure=>simp [intOf];omega
  ·go_wp2
   go_ret
   exact ⟨ah (by rw [List.take_of_length_le (by rw [ac];omega)]),rfl⟩
end
end Go.Proofs.YtocalfjfjjljnaaGreatDoor
