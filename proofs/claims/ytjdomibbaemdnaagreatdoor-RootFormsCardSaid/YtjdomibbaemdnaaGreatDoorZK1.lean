/- Parts of the proof of the text YtjdomibbaemdnaaGreatDoorZK42. -/
import Derived.Lib.ItoaNum
import Derived.Lib.ItoaMem
import Derived.Test.YtjdomibbaemdnaaGreatDoorProg
import Derived.Handy
import Derived.WalkSpells
import Derived.WalkLawsBesides
import Derived.BigQuiet
import Derived.Deep.QuietTactic
import Derived.Lib.Hide
import Derived.Lib.Strings
import Derived.Below
import Derived.WalkKit
set_option linter.all false
set_option maxRecDepth 100000
set_option maxHeartbeats 8000000
namespace Go.Proofs.YtjdomibbaemdnaaGreatDoor
open Go.RowKit
theorem Ha {p:Prop} (h:p):Hid p:=Lib.hid h
theorem Hb {p q:Prop} (h:p) (k:q):p∧q:=⟨h,k⟩
end Go.Proofs.YtjdomibbaemdnaaGreatDoor
namespace Go.Proofs.YtjdomibbaemdnaaGreatDoor
section
open Go.RowKit
def CqB (w:World) (f:FuncId) (a:Array Value) (r:Value):Prop:=∀ W,Below w.heap.size w W→Calls Tryz.prog f a W fun e W'=>e = .returned r∧Below W.heap.size W W'
end
section
open Go.Lib
theorem fz {α:Type} {P:List α→Prop} (h0:P []) (hs:∀ l a,P l→P (l ++ [a])) (l:List α):P l:=by
 rw [←List.reverse_reverse l]
 induction l.reverse with
 | nil=>exact h0
 | cons a t ih=>rw [List.reverse_cons];exact hs _ _ ih
def ae (l:List UInt8):Nat:=l.foldl (fun n c=>n*10+(c.toNat - 48)) 0
def az (c:UInt8):Bool:=48≤c && c≤57
def ap (l:List UInt8):Bool:=l.head? == some 45
def szL (l:List UInt8):List UInt8:=if ap l then l.tail else l
def valOf (l:List UInt8):Int:=if ap l then -(ae l.tail:Int) else (ae l:Int)
def chk (l:List UInt8):Int :=
 if !(szL l).all az then 11
 else if (szL l) = []∨((szL l).head? = some 48∧l ≠ [48]) then 11
 else if 300<(szL l).length then 4 else 0
theorem kS:ae []=0:=rfl
theorem bo (l:List UInt8) (c:UInt8):ae (l ++ [c])=ae l*10+(c.toNat - 48):=by
 simp [ae,List.foldl_append]
theorem gX (l m:List UInt8):ae (l++m)=ae l*10 ^ m.length+ae m:=by
 induction m using fz with
 | h0=>simp [ae]
 | hs m c ih =>
  rw [←List.append_assoc,bo,ih,bo,List.length_append,List.length_singleton,Nat.pow_succ]
  rw [Nat.add_mul,Nat.mul_assoc,Nat.add_assoc]
theorem aA (c:UInt8):az c=true↔48≤c.toNat∧c.toNat≤57:=by
 simp [az,UInt8.le_iff_toNat_le]
theorem a7 (l:List UInt8) (h:∀ c∈l,az c=true):ae l<10 ^ l.length:=by
 induction l using fz with
 | h0=>simp [ae]
 | hs m c ih =>
  have h1:=ih (fun c hc=>h c (by simp [hc]))
  have h2:=h c (by simp)
  have h3:c.toNat≤57:=by
   simp only [az,Bool.and_eq_true,decide_eq_true_eq,UInt8.le_iff_toNat_le] at h2
   exact h2.2
  rw [bo,List.length_append,List.length_singleton,Nat.pow_succ]
  omega
theorem oz (d:Nat) (h:d<10):az (UInt8.ofNat (48+d))=true:=by
 simp only [az,Bool.and_eq_true,decide_eq_true_eq,UInt8.le_iff_toNat_le,UInt8.toNat_ofNat']
 have:(48+d) % 2 ^ 8=48+d:=Nat.mod_eq_of_lt (by omega)
 rw [this]
 exact ⟨by simp,by simp;omega⟩
theorem toNat_ofNat (d:Nat) (h:d<10):(UInt8.ofNat (48+d)).toNat=48+d:=by
 rw [UInt8.toNat_ofNat'];exact Nat.mod_eq_of_lt (by omega)
theorem cF (u:Nat):∀ c∈decDigits u,az c=true:=by
 induction u using Nat.strongRecOn with
 | _ u ih =>
  intro c hc
  by_cases h:u<10
  ·rw [decDigits_one h] at hc
   rw [List.mem_singleton.1 hc];exact oz u h
  ·rw [decDigits,dif_neg h] at hc
   rcases List.mem_append.1 hc with hc | hc
   ·exact ih (u / 10) (by omega) c hc
   ·rw [List.mem_singleton.1 hc];exact oz (u % 10) (by omega)
theorem dJ (u:Nat):ae (decDigits u)=u:=by
 induction u using Nat.strongRecOn with
 | _ u ih =>
  by_cases h:u<10
  ·rw [decDigits_one h]
   show 0*10+((UInt8.ofNat (48+u)).toNat - 48)=u
   rw [toNat_ofNat u h];omega
  ·rw [decDigits,dif_neg h,bo,ih (u / 10) (by omega),toNat_ofNat (u % 10) (by omega)]
   omega
theorem gY (u:Nat):decDigits u ≠ []:=by
 intro h;have:=decDigits_length u;rw [h] at this;have:=nDigits_pos u;simp at *; omega
theorem mA (u:Nat) (hu:0<u):∃ c,(decDigits u).head? = some c∧49≤c.toNat∧c.toNat≤57:=by
 induction u using Nat.strongRecOn with
 | _ u ih =>
  by_cases h:u<10
  ·rw [decDigits_one h]
   exact ⟨_,rfl,by rw [toNat_ofNat u h];omega,by rw [toNat_ofNat u h];omega⟩
  ·rw [decDigits,dif_neg h]
   obtain ⟨c,h1,h2,h3⟩:=ih (u / 10) (by omega) (by omega)
   exact ⟨c,by rw [List.head?_append,h1];rfl,h2,h3⟩
theorem uu (l:List UInt8) (hd:∀ c∈l,az c=true) (h0:l.head? ≠ some 48) (hne:l ≠ []):decDigits (ae l)=l∧0<ae l:=by
 induction l using fz with
 | h0=>exact absurd rfl hne
 | hs m c ih =>
  have h2:=hd c (by simp)
  have h3:48≤c.toNat∧c.toNat≤57:=by
   simp only [az,Bool.and_eq_true,decide_eq_true_eq,UInt8.le_iff_toNat_le] at h2
   exact h2
  rw [bo]
  have hc:UInt8.ofNat (48+(c.toNat - 48))=c:=by
   rw [show 48+(c.toNat - 48)=c.toNat by omega];exact UInt8.ofNat_toNat
  by_cases hm:m = []
  ·subst hm
   have:c.toNat≠48:=by
    intro e;apply h0;simp
    exact UInt8.toNat_inj.1 (by simpa using e)
   rw [kS]
   simp only [Nat.zero_mul,Nat.zero_add,List.nil_append]
   rw [decDigits_one (by omega),hc]
   exact ⟨rfl,by omega⟩
  ·obtain ⟨i1,i2⟩:=ih (fun c hc=>hd c (by simp [hc])) (by
    intro e;apply h0;rw [List.head?_append,e];rfl) hm
   rw [decDigits,dif_neg (by omega)]
   rw [show (ae m*10+(c.toNat - 48)) / 10=ae m by omega,show (ae m*10+(c.toNat - 48)) % 10=c.toNat - 48 by omega,i1,hc]
   exact ⟨rfl,by omega⟩
theorem uv (u:Nat):ap (decDigits u)=false:=by
 have h:=cF u
 cases hl:decDigits u with
 | nil=>rfl
 | cons c t =>
  have:=h c (by rw [hl];simp)
  simp only [ap,List.head?_cons]
  simp only [az,Bool.and_eq_true,decide_eq_true_eq,UInt8.le_iff_toNat_le] at this
  rw [beq_eq_false_iff_ne]
  intro e
  injection e with e
  subst e
  simp at this
theorem kT (k:Nat):∀ u,u<10 ^ (k+1)→nDigits u≤k+1:=by
 induction k with
 | zero=>intro u h;rw [nDigits_small (by simpa using h)];exact Nat.le_refl _
 | succ k ih =>
  intro u h
  by_cases hu:u<10
  ·rw [nDigits_small hu];omega
  ·rw [nDigits_big hu]
   have:=ih (u / 10) (by rw [Nat.pow_succ] at h;omega)
   omega
theorem aJ (u k:Nat) (hk:1≤k):nDigits u≤k↔u<10 ^ k:=by
 constructor
 ·intro h
  exact Nat.lt_of_lt_of_le (lt_pow_nDigits u) (Nat.pow_le_pow_right (by decide) h)
 ·intro h
  have:=kT (k - 1) u (by rw [Nat.sub_add_cancel hk];exact h)
  omega
theorem fp:itoa 0 = [48]:=by decide+kernel
theorem cZ (l:List UInt8) (h:chk l=0):itoa (valOf l)=l:=by
 unfold chk at h
 by_cases h1:(szL l).all az
 ·simp only [h1,Bool.not_true,Bool.false_eq_true,if_false] at h
  by_cases h2:(szL l) = []∨((szL l).head? = some 48∧l ≠ [48])
  ·rw [if_pos h2] at h;cases h
  ·rw [not_or] at h2
   obtain ⟨h2,h3⟩:=h2
   rw [List.all_eq_true] at h1
   by_cases hz:l = [48]
   ·subst hz;exact fp
   ·have h0:(szL l).head? ≠ some 48:=fun e=>h3 ⟨e,hz⟩
    obtain ⟨d1,d2⟩:=uu (szL l) h1 h0 h2
    unfold valOf
    by_cases hn:ap l
    ·rw [if_pos hn]
     simp only [szL,hn,if_true] at d1 d2
     rw [itoa_neg _ d2,d1]
     cases l with
     | nil=>cases hn
     | cons c t =>
      simp only [ap,List.head?_cons,beq_iff_eq,Option.some.injEq] at hn
      subst hn;rfl
    ·rw [if_neg hn]
     simp only [szL,hn,if_false,Bool.false_eq_true] at d1 d2
     rw [itoa_nonneg,d1]
 ·simp only [h1] at h;cases h
def aO (k:Nat):Nat:=10 ^ k
def lim:Nat:=aO 300
theorem aP {a b:Nat} (h:a≤b):aO a≤aO b:=Nat.pow_le_pow_right (by decide) h
theorem gh (u k:Nat) (hk:1≤k):nDigits u≤k↔u<aO k:=aJ u k hk
theorem lB (l:List UInt8) (h:∀ c∈l,az c=true):ae l<aO l.length:=a7 l h
theorem vQ (l:List UInt8) (h:chk l=0):(valOf l).natAbs<lim:=by
 unfold chk at h
 by_cases h1:(szL l).all az
 ·simp only [h1,Bool.not_true,Bool.false_eq_true,if_false] at h
  by_cases h2:(szL l) = []∨((szL l).head? = some 48∧l ≠ [48])
  ·rw [if_pos h2] at h;cases h
  ·rw [if_neg h2] at h
   by_cases h3:300<(szL l).length
   ·rw [if_pos h3] at h;cases h
   ·rw [List.all_eq_true] at h1
    have h6:(szL l).length≤300:=by omega
    have h5:ae (szL l)<lim:=Nat.lt_of_lt_of_le (lB (szL l) h1) (aP h6)
    unfold valOf
    by_cases hn:ap l
    ·rw [if_pos hn];simp only [szL,hn,if_true] at h5;rw [Int.natAbs_neg];exact h5
    ·rw [if_neg hn];simp only [szL,hn,if_false,Bool.false_eq_true] at h5;exact h5
 ·simp only [h1] at h;cases h
theorem a6 (z:Int):ap (itoa z)=decide (z<0):=by
 by_cases h:z<0
 ·unfold itoa;rw [if_pos h];simp [ap,h]
 ·unfold itoa;rw [if_neg h,uv];simp [h]
theorem cG (z:Int):valOf (itoa z)=z:=by
 unfold valOf
 rw [a6]
 by_cases h:z<0
 ·simp only [h,decide_true,if_true]
  unfold itoa;rw [if_pos h]
  simp only [List.tail_cons]
  rw [dJ];omega
 ·simp only [h,decide_false,Bool.false_eq_true,if_false]
  unfold itoa;rw [if_neg h,dJ];omega
theorem gu (z:Int):szL (itoa z)=decDigits z.natAbs:=by
 unfold szL
 rw [a6]
 by_cases h:z<0
 ·simp only [h,decide_true,if_true]
  unfold itoa;rw [if_pos h];rfl
 ·simp only [h,decide_false,Bool.false_eq_true,if_false]
  unfold itoa;rw [if_neg h]
  congr 1;omega
theorem fC (z:Int):chk (itoa z)=if z.natAbs<lim then 0 else 4:=by
 unfold chk
 rw [gu]
 have h1:(decDigits z.natAbs).all az=true:=List.all_eq_true.2 (cF _)
 have hne:=gY z.natAbs
 have h2:¬ (decDigits z.natAbs = []∨((decDigits z.natAbs).head? = some 48∧itoa z ≠ [48])):=by
  rintro (h | ⟨h,h'⟩)
  ·exact hne h
  ·by_cases hz:z=0
   ·subst hz;exact h' fp
   ·obtain ⟨c,h3,h4,_⟩:=mA z.natAbs (by omega)
    rw [h] at h3;injection h3 with h3;subst h3;simp at h4
 simp only [h1,Bool.not_true,Bool.false_eq_true,if_false]
 rw [if_neg h2,decDigits_length]
 by_cases h3:z.natAbs<lim
 ·rw [if_pos h3,if_neg]
  have h4:nDigits z.natAbs≤300:=(gh z.natAbs 300 (by decide)).2 h3
  clear h3;omega
 ·rw [if_neg h3,if_pos]
  have h4:¬ nDigits z.natAbs≤300:=fun h=>h3 ((gh z.natAbs 300 (by decide)).1 h)
  clear h3;omega
theorem fD {x y:Int} (h:itoa x=itoa y):x=y:=by rw [←cG x,←cG y,h]
def cQ (q:Rat):List UInt8:=if q.den=1 then itoa q.num else itoa q.num++47::itoa q.den
def bj (l:List UInt8):List UInt8:=l.takeWhile (· != 47)
def bI (l:List UInt8):Bool:=l.contains 47
def aH (l:List UInt8):List UInt8:=if bI l then (l.dropWhile (· != 47)).tail else [49]
def cX (l:List UInt8):Bool:=chk (bj l) != 11 && chk (aH l) != 11 && !ap (aH l) && aH l != [48] && !(bI l && aH l == [49])
def aM (l:List UInt8):Int :=
 if cX l=false then 11
 else if chk (bj l)≠0∨chk (aH l)≠0 then 4
 else if (valOf (bj l)).natAbs.gcd (ae (aH l))=1 then 0 else 11
def bZ (l:List UInt8):Rat:=mkRat (valOf (bj l)) (ae (aH l))
theorem jQ (u:Nat):(47:UInt8) ∉ decDigits u:=fun h=>by
 have:=cF u 47 h
 revert this;decide
theorem tC (z:Int):(47:UInt8) ∉ itoa z:=by
 unfold itoa
 split
 ·simp [jQ]
 ·exact jQ _
theorem od {α:Type} (p:α→Bool) (l:List α) (h:∀ x∈l,p x=true):l.takeWhile p=l:=by
 induction l with
 | nil=>rfl
 | cons a t ih=>rw [List.takeWhile_cons_of_pos (h a (by simp)),ih (fun x hx=>h x (by simp [hx]))]
theorem og {α:Type} (p:α→Bool) (l:List α) (c:α) (m:List α) (h:∀ x∈l,p x=true) (hc:p c=false):(l++c::m).takeWhile p=l∧(l++c::m).dropWhile p=c::m:=by
 induction l with
 | nil=>exact ⟨List.takeWhile_cons_of_neg (by simp [hc]),List.dropWhile_cons_of_neg (by simp [hc])⟩
 | cons a t ih =>
  obtain ⟨i1,i2⟩:=ih (fun x hx=>h x (by simp [hx]))
  refine ⟨?_,?_⟩
  ·rw [List.cons_append,List.takeWhile_cons_of_pos (h a (by simp)),i1]
  ·rw [List.cons_append,List.dropWhile_cons_of_pos (h a (by simp)),i2]
theorem vR {l:List UInt8} (h:(47:UInt8) ∉ l):∀ x∈l,(x != 47)=true:=fun x hx=>by
 rw [bne_iff_ne];rintro rfl;exact h hx
theorem mB {l:List UInt8} (h:(47:UInt8) ∉ l):bj l=l∧bI l=false∧aH l = [49]:=by
 have h1:bI l=false:=by unfold bI;simpa using h
 refine ⟨od _ _ (vR h),h1,?_⟩
 unfold aH;rw [h1];rfl
theorem mC {n:List UInt8} (h:(47:UInt8) ∉ n) (d:List UInt8):bj (n++47::d)=n∧bI (n++47::d)=true∧aH (n++47::d)=d:=by
 obtain ⟨h1,h2⟩:=og (· != 47) n 47 d (vR h) (by decide)
 have h3:bI (n++47::d)=true:=by unfold bI;simp
 refine ⟨h1,h3,?_⟩
 unfold aH;rw [h3,if_pos rfl,h2];rfl
theorem uw {l:List UInt8} (h:(47:UInt8)∈l):∃ s t,l=s++47::t∧(47:UInt8) ∉ s:=by
 induction l with
 | nil=>cases h
 | cons a m ih =>
  by_cases ha:a=47
  ·subst ha;exact ⟨[],m,rfl,by simp⟩
  ·have h':(47:UInt8)∈m:=by
    rcases List.mem_cons.1 h with q | q
    ·exact absurd q.symm ha
    ·exact q
   obtain ⟨s,t,rfl,hs⟩:=ih h'
   refine ⟨a::s,t,rfl,?_⟩
   rw [List.mem_cons,not_or]
   exact ⟨fun q=>ha q.symm,hs⟩
theorem kU (l:List UInt8):(bI l=false∧l=bj l∧aH l = [49])∨(bI l=true∧l=bj l++47::aH l):=by
 by_cases h:(47:UInt8)∈l
 ·right
  obtain ⟨s,t,rfl,hs⟩:=uw h
  obtain ⟨h1,h2,h3⟩:=mC hs t
  exact ⟨h2,by rw [h1,h3]⟩
 ·left
  obtain ⟨h1,h2,h3⟩:=mB h
  exact ⟨h2,h1.symm,h3⟩
theorem iW (l:List UInt8):(valOf l).natAbs=ae (szL l):=by unfold valOf szL;split <;> simp
theorem bK:itoa 1 = [49]:=by decide+kernel
theorem iX:valOf [49]=1:=by rw [←bK,cG]
theorem kV:ae [49]=1:=by decide
theorem gv {l:List UInt8} (h:ap l=false):(ae l:Int)=valOf l:=by unfold valOf;rw [h];rfl
theorem cW (q:Rat):bj (cQ q)=itoa q.num∧aH (cQ q)=itoa q.den∧bI (cQ q)=decide (q.den≠1):=by
 unfold cQ
 by_cases h:q.den=1
 ·rw [if_pos h]
  obtain ⟨h1,h2,h3⟩:=mB (tC q.num)
  exact ⟨h1,by rw [h3,h];exact bK.symm,by rw [h2,h];rfl⟩
 ·rw [if_neg h]
  obtain ⟨h1,h2,h3⟩:=mC (tC q.num) (itoa q.den)
  exact ⟨h1,h3,by rw [h2];simp [h]⟩
theorem iz (q:Rat):bZ (cQ q)=q:=by
 obtain ⟨h1,h2,_⟩:=cW q
 unfold bZ
 rw [h1,h2,cG]
 have h3:(ae (itoa (q.den:Int)):Int)=(q.den:Int):=by
  rw [gv (by rw [a6];simp),cG]
 rw [Int.ofNat.inj h3,Rat.mkRat_self]
theorem ux {x y:Rat} (h:cQ x=cQ y):x=y:=by rw [←iz x,←iz y,h]
theorem qi (q:Rat):cX (cQ q)=true:=by
 obtain ⟨h1,h2,h3⟩:=cW q
 have hd:=q.den_nz
 have c1:chk (itoa q.num)≠11:=by rw [fC];split <;> decide
 have c2:chk (itoa (q.den:Int))≠11:=by rw [fC];split <;> decide
 have c3:ap (itoa (q.den:Int))=false:=by rw [a6];simp
 have c4:itoa (q.den:Int) ≠ [48]:=fun h=>by
  rw [←fp] at h
  have:=fD h
  omega
 have c5:bI (cQ q)=true→itoa (q.den:Int) ≠ [49]:=fun h h'=>by
  rw [←bK] at h'
  have:=fD h'
  rw [h3] at h
  have:=of_decide_eq_true h
  omega
 unfold cX
 rw [h1,h2]
 cases hs:bI (cQ q)
 ·simp [c1,c2,c3,c4]
 ·simp [c1,c2,c3,c4,c5 hs]
theorem mD (q:Rat):aM (cQ q)=if q.num.natAbs<lim∧q.den<lim then 0 else 4:=by
 obtain ⟨h1,h2,_⟩:=cW q
 have h3:(ae (itoa (q.den:Int)):Int)=(q.den:Int):=by
  rw [gv (by rw [a6];simp),cG]
 have h4:=Int.ofNat.inj h3
 unfold aM
 rw [qi,if_neg (by decide),h1,h2,fC,fC,cG,h4,Int.natAbs_natCast]
 by_cases a1:q.num.natAbs<lim
 ·by_cases a2:q.den<lim
  ·rw [if_pos a1,if_pos a2,if_neg (by simp),if_pos q.reduced,if_pos ⟨a1,a2⟩]
  ·rw [if_pos a1,if_neg a2,if_pos (Or.inr (by decide)),if_neg (fun h=>a2 h.2)]
 ·rw [if_neg a1,if_pos (Or.inl (by decide)),if_neg (fun h=>a1 h.1)]
theorem r6 {l:List UInt8} (h:aM l=0):cX l=true∧chk (bj l)=0∧chk (aH l)=0∧(bZ l).num=valOf (bj l)∧((bZ l).den:Int)=valOf (aH l)∧0<valOf (aH l):=by
 unfold aM at h
 split at h
 ·cases h
 ·rename_i hf
  split at h
  ·cases h
  ·rename_i hc
   split at h
   ·rename_i hg
    have hf':cX l=true:=by simpa using hf
    have hn:chk (bj l)=0:=Decidable.byContradiction fun q=>hc (Or.inl q)
    have hd:chk (aH l)=0:=Decidable.byContradiction fun q=>hc (Or.inr q)
    have hx:=hf'
    unfold cX at hx
    simp only [Bool.and_eq_true,Bool.not_eq_true',bne_iff_ne,ne_eq] at hx
    have hneg:=hx.1.1.2
    have h48:=hx.1.2
    have hv:=gv hneg
    have hpos:0<valOf (aH l):=by
     rcases Int.lt_or_le 0 (valOf (aH l)) with q | q
     ·exact q
     ·exfalso
      refine h48 ?_
      rw [←cZ _ hd,show valOf (aH l)=0 by omega,fp]
    have hne:ae (aH l)≠0:=by omega
    have e:bZ l=⟨valOf (bj l),ae (aH l),hne,hg⟩:=(Rat.mk_eq_mkRat _ _ hne hg).symm
    exact ⟨hf',hn,hd,by rw [e],by rw [e];exact hv,hpos⟩
   ·cases h
theorem lC {l:List UInt8} (h:aM l=0):cQ (bZ l)=l:=by
 obtain ⟨hf,hn,hd,e1,e2,_⟩:=r6 h
 unfold cQ
 rw [e1,e2,cZ _ hn,cZ _ hd]
 rcases kU l with ⟨_,h2,h3⟩ | ⟨h1,h2⟩
 ·rw [h3,iX] at e2
  rw [if_pos (by omega)];exact h2.symm
 ·have h4:(bZ l).den≠1:=fun q=>by
   rw [q] at e2
   have:aH l = [49]:=by rw [←cZ _ hd,←e2];exact bK
   unfold cX at hf
   rw [h1,this] at hf
   simp at hf
  rw [if_neg h4];exact h2.symm
theorem iA {l:List UInt8} (h:aM l=0):(bZ l).num.natAbs<lim∧(bZ l).den<lim:=by
 have h1:=mD (bZ l)
 rw [lC h,h] at h1
 by_cases q:(bZ l).num.natAbs<lim∧(bZ l).den<lim
 ·exact q
 ·rw [if_neg q] at h1;cases h1
end
section
open Go.RowKit
theorem bL {a b:Bool} (h:a=b):Ending.returned (.bool a) = .returned (.bool b):=by rw [h]
theorem an {k:IntKind} {a b:Int} (h:a=b):Ending.returned (.int k a) = .returned (.int k b):=by rw [h]
theorem iY {a b:ByteArray} (h:a=b):Ending.returned (.string a) = .returned (.string b):=by rw [h]
theorem ac (s:ByteArray):s.data.toList.length=s.size:=rfl
theorem gZ {s:ByteArray} (h:s.size=0):s.toList.isEmpty=true:=by
 rw [ByteArray.toList_eq,List.isEmpty_iff];exact List.eq_nil_of_length_eq_zero h
theorem et {s:ByteArray} (h:0<s.size):s.toList.isEmpty=false:=by
 rw [ByteArray.toList_eq]
 cases hl:s.data.toList with
 | nil=>have:=ac s;rw [hl] at this;simp at this;omega
 | cons a t=>rfl
theorem dO {s:ByteArray} (h:s.size=0):s.data.toList = []:=List.eq_nil_of_length_eq_zero h
theorem iZ {s:ByteArray} (h:0<s.size):∃ t,s.data.toList=s[0]::t:=by
 have h2:s.data.toList[0]'(by rw [ac];exact h)=s[0]:=rfl
 cases hl:s.data.toList with
 | nil=>have:=ac s;rw [hl] at this;simp at this;omega
 | cons a t=>simp only [hl] at h2;exact ⟨t,by rw [←h2];rfl⟩
theorem lD (c:UInt8) (k:Nat) (hk:k<256):(((c.toNat:Nat):Int)==(k:Int))=(c==UInt8.ofNat k):=by
 rw [Bool.eq_iff_iff,beq_iff_eq,beq_iff_eq]
 constructor
 ·intro h
  have h2:c.toNat=k:=by omega
  rw [←h2];exact UInt8.ofNat_toNat.symm
 ·intro h;subst h
  rw [UInt8.toNat_ofNat']
  have:k % 2 ^ 8=k:=Nat.mod_eq_of_lt (by omega)
  rw [this]
theorem bF {s:ByteArray} (h:0<s.size):(((s[0].toNat:Nat):Int)==45)=ap s.data.toList:=by
 obtain ⟨t,ht⟩:=iZ h
 rw [ht]
 have:=lD s[0] 45 (by decide)
 exact this.trans (by unfold ap;rfl)
theorem bT (s:ByteArray) (w:World) :
  Calls Tryz.prog 172 #[.string s] w fun e w'=>e = .returned (.bool (ap s.data.toList))∧w=w':=by
 by_cases h:0<s.size
 ·have hE:=et h
  go_enter Tryz.func172,Tryz.ntmps172
  go_wp2
  go_ret
  exact ⟨bL (bF h),rfl⟩
 ·have h0:s.size=0:=by omega
  have hE:=gZ h0
  go_enter Tryz.func172,Tryz.ntmps172
  go_wp2
  go_ret
  exact ⟨bL (by rw [dO h0];rfl),rfl⟩
def szB (s:ByteArray):ByteArray:=if ap s.data.toList then s.extract 1 s.size else s
theorem bU (s:ByteArray):(szB s).data.toList=szL s.data.toList:=by
 unfold szB szL
 by_cases h:ap s.data.toList
 ·rw [if_pos h,if_pos h,Lib.extract_data]
  rw [←List.drop_one]
  rw [List.take_of_length_le]
  rw [List.length_drop];rw [ac];omega
 ·rw [if_neg h,if_neg h]
theorem hO {s:ByteArray} (h:ap s.data.toList=true):0<s.size:=by
 rw [←ac]
 cases hl:s.data.toList with
 | nil=>rw [hl] at h;cases h
 | cons a t=>simp
theorem fE (s:ByteArray):(szB s).size≤s.size:=by
 unfold szB;split
 ·rw [ByteArray.size_extract];omega
 ·exact Nat.le_refl _
theorem dj (s:ByteArray) (w:World) (hs:s.size≤maxLen) :
  Calls Tryz.prog 183 #[.string s] w fun e w'=>e = .returned (.string (szB s))∧w=w':=by
 unfold maxLen at hs
 by_cases h:ap s.data.toList=true
 ·have h0:=hO h
  go_enter Tryz.func183,Tryz.ntmps183
  go_wp2_with (go_at_call 172;refine (bT s _).mono ?_;rw [h];rintro e w' ⟨rfl,rfl⟩)
  go_ret
  exact ⟨iY (by unfold szB;rw [if_pos h]),rfl⟩
 ·have h':ap s.data.toList=false:=by simpa using h
  go_enter Tryz.func183,Tryz.ntmps183
  go_wp2_with (go_at_call 172;refine (bT s _).mono ?_;rw [h'];rintro e w' ⟨rfl,rfl⟩)
  go_ret
  exact ⟨iY (by unfold szB;rw [h'];rfl),rfl⟩
theorem bG (s:ByteArray) (k:Nat) (h:k<s.size):s.data.toList.take (k+1)=s.data.toList.take k ++ [s[k]]:=by
 rw [List.take_succ_eq_append_getElem (by simpa using h)];rfl
theorem cK (s:ByteArray) (k:Nat) (h:k<s.size):s[k]∈s.data.toList:=by
 have:s.data.toList[k]'(by rw [ac];exact h)=s[k]:=rfl
 rw [←this];exact List.getElem_mem _
theorem ju (l:List UInt8) (h:∀ c∈l,az c=true) (k:Nat):ae (l.take k)<10 ^ k:=by
 have h1:=a7 (l.take k) (fun c hc=>h c (List.mem_of_mem_take hc))
 exact Nat.lt_of_lt_of_le h1 (Nat.pow_le_pow_right (by decide) (List.length_take_le _ _))
theorem jv (l:List UInt8) (h:∀ c∈l,az c=true) (k:Nat) (hk:k≤18):ae (l.take k)<1000000000000000000 :=
 Nat.lt_of_lt_of_le (ju l h k) (Nat.le_trans (Nat.pow_le_pow_right (by decide) hk) (by decide))
theorem gw (s:ByteArray) (w:World) (hs:s.size≤18) (hd:∀ c∈s.data.toList,az c=true) :
  Calls Tryz.prog 202 #[.string s] w fun e w'=>e = .returned (.int .u64 (ae s.data.toList:Nat))∧w=w':=by
 have HD:=Ha hd;clear hd
 go_enter Tryz.func202,Tryz.ntmps202
 go_wp2
 go_loop [3,7] (fun n i=>∃ k:Nat,k≤s.size∧i = .int .i64 k∧n = .int .u64 (ae (s.data.toList.take k):Nat)) (fun _ i=>s.size - (intOf i).toNat)
 case atStart=>exact ⟨0,Nat.zero_le _,rfl,rfl⟩
 case round =>
  obtain ⟨k,hk,rfl,rfl⟩:=hrel
  by_cases hlt:k<s.size
  ·have hn:=jv s.data.toList HD.out k (by omega)
   have hc:=(aA s[k]).1 (HD.out _ (cK s k hlt))
   have HS:Hid (ae (s.data.toList.take (k+1))=ae (s.data.toList.take k)*10+(s[k].toNat - 48)):=by rw [bG s k hlt];exact bo _ _
   go_wp2
   go_round
   case rel=>exact ⟨k+1,by omega,by go_num,by rw [HS.out];go_num⟩
   case measure=>simp [intOf];omega
  ·go_wp2
   go_ret
   exact ⟨an (by rw [List.take_of_length_le (by rw [ac];omega)]),rfl⟩
theorem cL {l:List UInt8} (h:(szL l).all az=false):chk l=11:=by unfold chk;rw [h];rfl
theorem ez {l:List UInt8} (h:(szL l).all az=true) :
  chk l=if (szL l) = []∨((szL l).head? = some 48∧l ≠ [48]) then 11 else if 300<(szL l).length then 4 else 0:=by unfold chk;rw [h];rfl
theorem dV (s:ByteArray) (w:World) (hs:s.size≤maxLen) :
  Calls Tryz.prog 150 #[.string s] w fun e w'=>e = .returned (.int .i64 (chk s.data.toList))∧w=w':=by
 have hm:s.size≤9223372036854775807:=by unfold maxLen at hs;omega
 have hz:=fE s
 have HD:=Ha (bU s)
 go_enter Tryz.func150,Tryz.ntmps150
 go_wp2_with (go_at_call 183;refine (dj s _ hs).mono ?_;rintro e w' ⟨rfl,rfl⟩)
 generalize szB s=t at *
 go_loop [9] (fun i=>∃ k:Nat,k≤t.size∧i = .int .i64 k∧Hid ((t.data.toList.take k).all az=true)) (fun i=>t.size - (intOf i).toNat)
 case atStart=>exact ⟨0,Nat.zero_le _,rfl,rfl⟩
 case round =>
  obtain ⟨k,hk,rfl,hd⟩:=hrel
  by_cases hlt:k<t.size
  ·by_cases h1:(t[k].toNat:Int)<48
   ·go_wp2
    go_ret
    refine ⟨an (cL ?_).symm,rfl⟩
    rw [←HD.out,List.all_eq_false]
    refine ⟨t[k],cK t k hlt,?_⟩
    rw [aA];omega
   ·by_cases h2:(57:Int)<t[k].toNat
    ·go_wp2
     go_ret
     refine ⟨an (cL ?_).symm,rfl⟩
     rw [←HD.out,List.all_eq_false]
     refine ⟨t[k],cK t k hlt,?_⟩
     rw [aA];omega
    ·have hd':Hid ((t.data.toList.take (k+1)).all az=true):=by
      show (t.data.toList.take (k+1)).all az=true
      rw [bG t k hlt,List.all_append,hd.out]
      have:az t[k]=true:=by rw [aA];omega
      simp [this]
     clear hd
     go_wp2
     go_round
     case rel=>exact ⟨k+1,by omega,by go_num,hd'⟩
     case measure=>simp [intOf];omega
  ·have ha:Hid ((szL s.data.toList).all az=true):=by
    show (szL s.data.toList).all az=true
    rw [←HD.out];have:=hd.out;rwa [List.take_of_length_le (by rw [ac];omega)] at this
   clear hd
   by_cases h0:t.size=0
   ·have hE:=gZ h0
    go_wp2
    go_ret
    refine ⟨an ?_,rfl⟩
    rw [ez ha.out,if_pos]
    left;rw [←HD.out];exact dO h0
   ·have h0':0<t.size:=by omega
    have hE:=et h0'
    obtain ⟨r,hr⟩:=iZ h0'
    have HR:=Ha hr;clear hr
    by_cases hc:((t[0].toNat:Int)==48)=true
    ·have h48:(szL s.data.toList).head? = some 48:=by
      rw [←HD.out,HR.out,List.head?_cons]
      have:=lD t[0] 48 (by decide)
      rw [show ((48:Nat):Int)=48 from rfl,hc] at this
      exact congrArg some (by simpa using this.symm)
     have H48:=Ha h48;clear h48
     go_wp2
     ·have hx:(!s.toList == [48])=true:=by assumption
      go_ret
      refine ⟨an ?_,rfl⟩
      rw [ez ha.out,if_pos]
      rw [ByteArray.toList_eq] at hx
      exact Or.inr ⟨H48.out,by simpa using hx⟩
     ·have hx:(!s.toList == [48])=false:=by assumption
      have hy:(300:Int)<t.size:=by assumption
      go_ret
      refine ⟨an ?_,rfl⟩
      rw [ByteArray.toList_eq] at hx
      rw [ez ha.out,if_neg,if_pos]
      ·rw [←HD.out,ac];omega
      ·rintro (h | h)
       ·rw [←HD.out,HR.out] at h;cases h
       ·exact h.2 (by simpa using hx)
     ·have hx:(!s.toList == [48])=false:=by assumption
      have hy:(t.size:Int)≤300:=by assumption
      go_ret
      refine ⟨an ?_,rfl⟩
      rw [ByteArray.toList_eq] at hx
      rw [ez ha.out,if_neg,if_neg]
      ·rw [←HD.out,ac];omega
      ·rintro (h | h)
       ·rw [←HD.out,HR.out] at h;cases h
       ·exact h.2 (by simpa using hx)
    ·have hc':((t[0].toNat:Int)==48)=false:=by simpa using hc
     have h48:(szL s.data.toList).head? ≠ some 48:=by
      rw [←HD.out,HR.out,List.head?_cons]
      intro e
      have e:=Option.some.inj e
      rw [e] at hc'
      exact absurd hc' (by decide)
     have H48:=Ha h48;clear h48
     go_wp2
     ·have hy:(300:Int)<t.size:=by assumption
      go_ret
      refine ⟨an ?_,rfl⟩
      rw [ez ha.out,if_neg,if_pos]
      ·rw [←HD.out,ac];omega
      ·rintro (h | h)
       ·rw [←HD.out,HR.out] at h;cases h
       ·exact H48.out h.1
     ·have hy:(t.size:Int)≤300:=by assumption
      go_ret
      refine ⟨an ?_,rfl⟩
      rw [ez ha.out,if_neg,if_neg]
      ·rw [←HD.out,ac];omega
      ·rintro (h | h)
       ·rw [←HD.out,HR.out] at h;cases h
       ·exact H48.out h.1
end
end Go.Proofs.YtjdomibbaemdnaaGreatDoor
