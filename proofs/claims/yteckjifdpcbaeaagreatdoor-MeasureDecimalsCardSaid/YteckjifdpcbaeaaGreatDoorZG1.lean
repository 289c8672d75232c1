/- Parts of the proof of the text YteckjifdpcbaeaaGreatDoorZG38. -/
import Derived.Lib.ItoaNum
import Derived.Lib.ItoaMem
import Derived.Lib.IndexMore
import Derived.Lib.IndexBytes
import Derived.Lib.TrimByte
import Derived.Test.YteckjifdpcbaeaaGreatDoorProg
import Derived.Handy
import Derived.WalkSpells
import Derived.WalkLawsBesides
import Derived.BigQuiet
import Derived.Deep.QuietTactic
import Derived.Lib.Hide
import Derived.Lib.Strings
import Derived.Below
import Derived.WalkKit
set_option linter.all false
set_option maxRecDepth 100000
set_option maxHeartbeats 8000000
namespace Go.Proofs.YteckjifdpcbaeaaGreatDoor
open Go.RowKit
def CqB (w:World) (f:FuncId) (a:Array Value) (r:Value):Prop:=∀ W,Below w.heap.size w W→Calls Tryz.prog f a W fun e W'=>e = .returned r∧Below W.heap.size W W'
end Go.Proofs.YteckjifdpcbaeaaGreatDoor
namespace Go.Proofs.YteckjifdpcbaeaaGreatDoor
open Go.Lib
theorem snoc_ind {α:Type} {P:List α→Prop} (h0:P []) (hs:∀ l a,P l→P (l ++ [a])) (l:List α):P l:=by
 rw [←List.reverse_reverse l]
 induction l.reverse with
 | nil=>exact h0
 | cons a t ih=>rw [List.reverse_cons];exact hs _ _ ih
def natOf (l:List UInt8):Nat:=l.foldl (fun n c=>n*10+(c.toNat - 48)) 0
def isDig (c:UInt8):Bool:=48≤c && c≤57
def isNeg (l:List UInt8):Bool:=l.head? == some 45
def szL (l:List UInt8):List UInt8:=if isNeg l then l.tail else l
def valOf (l:List UInt8):Int:=if isNeg l then -(natOf l.tail:Int) else (natOf l:Int)
def chk (l:List UInt8):Int :=
 if !(szL l).all isDig then 11
 else if (szL l) = []∨((szL l).head? = some 48∧l ≠ [48]) then 11
 else if 300<(szL l).length then 4 else 0
theorem natOf_nil:natOf []=0:=rfl
theorem natOf_snoc (l:List UInt8) (c:UInt8):natOf (l ++ [c])=natOf l*10+(c.toNat - 48):=by
 simp [natOf,List.foldl_append]
theorem natOf_append (l m:List UInt8):natOf (l++m)=natOf l*10 ^ m.length+natOf m:=by
 induction m using snoc_ind with
 | h0=>simp [natOf]
 | hs m c ih =>
  rw [←List.append_assoc,natOf_snoc,ih,natOf_snoc,List.length_append,List.length_singleton,Nat.pow_succ]
  rw [Nat.add_mul,Nat.mul_assoc,Nat.add_assoc]
theorem isDig_iff (c:UInt8):isDig c=true↔48≤c.toNat∧c.toNat≤57:=by
 simp [isDig,UInt8.le_iff_toNat_le]
theorem natOf_lt (l:List UInt8) (h:∀ c∈l,isDig c=true):natOf l<10 ^ l.length:=by
 induction l using snoc_ind with
 | h0=>simp [natOf]
 | hs m c ih =>
  have h1:=ih (fun c hc=>h c (by simp [hc]))
  have h2:=h c (by simp)
  have h3:c.toNat≤57:=by
   simp only [isDig,Bool.and_eq_true,decide_eq_true_eq,UInt8.le_iff_toNat_le] at h2
   exact h2.2
  rw [natOf_snoc,List.length_append,List.length_singleton,Nat.pow_succ]
  omega
theorem dig_ofNat (d:Nat) (h:d<10):isDig (UInt8.ofNat (48+d))=true:=by
 simp only [isDig,Bool.and_eq_true,decide_eq_true_eq,UInt8.le_iff_toNat_le,UInt8.toNat_ofNat']
 have:(48+d) % 2 ^ 8=48+d:=Nat.mod_eq_of_lt (by omega)
 rw [this]
 exact ⟨by simp,by simp;omega⟩
theorem toNat_ofNat (d:Nat) (h:d<10):(UInt8.ofNat (48+d)).toNat=48+d:=by
 rw [UInt8.toNat_ofNat'];exact Nat.mod_eq_of_lt (by omega)
theorem decDigits_dig (u:Nat):∀ c∈decDigits u,isDig c=true:=by
 induction u using Nat.strongRecOn with
 | _ u ih =>
  intro c hc
  by_cases h:u<10
  ·rw [decDigits_one h] at hc
   rw [List.mem_singleton.1 hc];exact dig_ofNat u h
  ·rw [decDigits,dif_neg h] at hc
   rcases List.mem_append.1 hc with hc | hc
   ·exact ih (u / 10) (by omega) c hc
   ·rw [List.mem_singleton.1 hc];exact dig_ofNat (u % 10) (by omega)
theorem natOf_dec (u:Nat):natOf (decDigits u)=u:=by
 induction u using Nat.strongRecOn with
 | _ u ih =>
  by_cases h:u<10
  ·rw [decDigits_one h]
   show 0*10+((UInt8.ofNat (48+u)).toNat - 48)=u
   rw [toNat_ofNat u h];omega
  ·rw [decDigits,dif_neg h,natOf_snoc,ih (u / 10) (by omega),toNat_ofNat (u % 10) (by omega)]
   omega
theorem decDigits_ne (u:Nat):decDigits u ≠ []:=by
 intro h;have:=decDigits_length u;rw [h] at this;have:=nDigits_pos u;simp at *; omega
theorem decDigits_head (u:Nat) (hu:0<u):∃ c,(decDigits u).head? = some c∧49≤c.toNat∧c.toNat≤57:=by
 induction u using Nat.strongRecOn with
 | _ u ih =>
  by_cases h:u<10
  ·rw [decDigits_one h]
   exact ⟨_,rfl,by rw [toNat_ofNat u h];omega,by rw [toNat_ofNat u h];omega⟩
  ·rw [decDigits,dif_neg h]
   obtain ⟨c,h1,h2,h3⟩:=ih (u / 10) (by omega) (by omega)
   exact ⟨c,by rw [List.head?_append,h1];rfl,h2,h3⟩
theorem dec_natOf (l:List UInt8) (hd:∀ c∈l,isDig c=true) (h0:l.head? ≠ some 48) (hne:l ≠ []):decDigits (natOf l)=l∧0<natOf l:=by
 induction l using snoc_ind with
 | h0=>exact absurd rfl hne
 | hs m c ih =>
  have h2:=hd c (by simp)
  have h3:48≤c.toNat∧c.toNat≤57:=by
   simp only [isDig,Bool.and_eq_true,decide_eq_true_eq,UInt8.le_iff_toNat_le] at h2
   exact h2
  rw [natOf_snoc]
  have hc:UInt8.ofNat (48+(c.toNat - 48))=c:=by
   rw [show 48+(c.toNat - 48)=c.toNat by omega];exact UInt8.ofNat_toNat
  by_cases hm:m = []
  ·subst hm
   have:c.toNat≠48:=by
    intro e;apply h0;simp
    exact UInt8.toNat_inj.1 (by simpa using e)
   rw [natOf_nil]
   simp only [Nat.zero_mul,Nat.zero_add,List.nil_append]
   rw [decDigits_one (by omega),hc]
   exact ⟨rfl,by omega⟩
  ·obtain ⟨i1,i2⟩:=ih (fun c hc=>hd c (by simp [hc])) (by
    intro e;apply h0;rw [List.head?_append,e];rfl) hm
   rw [decDigits,dif_neg (by omega)]
   rw [show (natOf m*10+(c.toNat - 48)) / 10=natOf m by omega,show (natOf m*10+(c.toNat - 48)) % 10=c.toNat - 48 by omega,i1,hc]
   exact ⟨rfl,by omega⟩
theorem isNeg_dec (u:Nat):isNeg (decDigits u)=false:=by
 have h:=decDigits_dig u
 cases hl:decDigits u with
 | nil=>rfl
 | cons c t =>
  have:=h c (by rw [hl];simp)
  simp only [isNeg,List.head?_cons]
  simp only [isDig,Bool.and_eq_true,decide_eq_true_eq,UInt8.le_iff_toNat_le] at this
  rw [beq_eq_false_iff_ne]
  intro e
  injection e with e
  subst e
  simp at this
theorem nDigits_le_of_lt (k:Nat):∀ u,u<10 ^ (k+1)→nDigits u≤k+1:=by
 induction k with
 | zero=>intro u h;rw [nDigits_small (by simpa using h)];exact Nat.le_refl _
 | succ k ih =>
  intro u h
  by_cases hu:u<10
  ·rw [nDigits_small hu];omega
  ·rw [nDigits_big hu]
   have:=ih (u / 10) (by rw [Nat.pow_succ] at h;omega)
   omega
theorem nDigits_le_iff (u k:Nat) (hk:1≤k):nDigits u≤k↔u<10 ^ k:=by
 constructor
 ·intro h
  exact Nat.lt_of_lt_of_le (lt_pow_nDigits u) (Nat.pow_le_pow_right (by decide) h)
 ·intro h
  have:=nDigits_le_of_lt (k - 1) u (by rw [Nat.sub_add_cancel hk];exact h)
  omega
theorem itoa_zero:itoa 0 = [48]:=by decide+kernel
theorem itoa_valOf (l:List UInt8) (h:chk l=0):itoa (valOf l)=l:=by
 unfold chk at h
 by_cases h1:(szL l).all isDig
 ·simp only [h1,Bool.not_true,Bool.false_eq_true,if_false] at h
  by_cases h2:(szL l) = []∨((szL l).head? = some 48∧l ≠ [48])
  ·rw [if_pos h2] at h;cases h
  ·rw [not_or] at h2
   obtain ⟨h2,h3⟩:=h2
   rw [List.all_eq_true] at h1
   by_cases hz:l = [48]
   ·subst hz;exact itoa_zero
   ·have h0:(szL l).head? ≠ some 48:=fun e=>h3 ⟨e,hz⟩
    obtain ⟨d1,d2⟩:=dec_natOf (szL l) h1 h0 h2
    unfold valOf
    by_cases hn:isNeg l
    ·rw [if_pos hn]
     simp only [szL,hn,if_true] at d1 d2
     rw [itoa_neg _ d2,d1]
     cases l with
     | nil=>cases hn
     | cons c t =>
      simp only [isNeg,List.head?_cons,beq_iff_eq,Option.some.injEq] at hn
      subst hn;rfl
    ·rw [if_neg hn]
     simp only [szL,hn,if_false,Bool.false_eq_true] at d1 d2
     rw [itoa_nonneg,d1]
 ·simp only [h1] at h;cases h
def tenTo (k:Nat):Nat:=10 ^ k
def lim:Nat:=tenTo 300
theorem tenTo_mono {a b:Nat} (h:a≤b):tenTo a≤tenTo b:=Nat.pow_le_pow_right (by decide) h
theorem nDigits_tenTo (u k:Nat) (hk:1≤k):nDigits u≤k↔u<tenTo k:=nDigits_le_iff u k hk
theorem natOf_tenTo (l:List UInt8) (h:∀ c∈l,isDig c=true):natOf l<tenTo l.length:=natOf_lt l h
theorem valOf_lt (l:List UInt8) (h:chk l=0):(valOf l).natAbs<lim:=by
 unfold chk at h
 by_cases h1:(szL l).all isDig
 ·simp only [h1,Bool.not_true,Bool.false_eq_true,if_false] at h
  by_cases h2:(szL l) = []∨((szL l).head? = some 48∧l ≠ [48])
  ·rw [if_pos h2] at h;cases h
  ·rw [if_neg h2] at h
   by_cases h3:300<(szL l).length
   ·rw [if_pos h3] at h;cases h
   ·rw [List.all_eq_true] at h1
    have h6:(szL l).length≤300:=by omega
    have h5:natOf (szL l)<lim:=Nat.lt_of_lt_of_le (natOf_tenTo (szL l) h1) (tenTo_mono h6)
    unfold valOf
    by_cases hn:isNeg l
    ·rw [if_pos hn];simp only [szL,hn,if_true] at h5;rw [Int.natAbs_neg];exact h5
    ·rw [if_neg hn];simp only [szL,hn,if_false,Bool.false_eq_true] at h5;exact h5
 ·simp only [h1] at h;cases h
theorem head_itoa_neg (z:Int):isNeg (itoa z)=decide (z<0):=by
 by_cases h:z<0
 ·unfold itoa;rw [if_pos h];simp [isNeg,h]
 ·unfold itoa;rw [if_neg h,isNeg_dec];simp [h]
theorem valOf_itoa (z:Int):valOf (itoa z)=z:=by
 unfold valOf
 rw [head_itoa_neg]
 by_cases h:z<0
 ·simp only [h,decide_true,if_true]
  unfold itoa;rw [if_pos h]
  simp only [List.tail_cons]
  rw [natOf_dec];omega
 ·simp only [h,decide_false,Bool.false_eq_true,if_false]
  unfold itoa;rw [if_neg h,natOf_dec];omega
theorem szL_itoa (z:Int):szL (itoa z)=decDigits z.natAbs:=by
 unfold szL
 rw [head_itoa_neg]
 by_cases h:z<0
 ·simp only [h,decide_true,if_true]
  unfold itoa;rw [if_pos h];rfl
 ·simp only [h,decide_false,Bool.false_eq_true,if_false]
  unfold itoa;rw [if_neg h]
  congr 1;omega
theorem chk_itoa (z:Int):chk (itoa z)=if z.natAbs<lim then 0 else 4:=by
 unfold chk
 rw [szL_itoa]
 have h1:(decDigits z.natAbs).all isDig=true:=List.all_eq_true.2 (decDigits_dig _)
 have hne:=decDigits_ne z.natAbs
 have h2:¬ (decDigits z.natAbs = []∨((decDigits z.natAbs).head? = some 48∧itoa z ≠ [48])):=by
  rintro (h | ⟨h,h'⟩)
  ·exact hne h
  ·by_cases hz:z=0
   ·subst hz;exact h' itoa_zero
   ·obtain ⟨c,h3,h4,_⟩:=decDigits_head z.natAbs (by omega)
    rw [h] at h3;injection h3 with h3;subst h3;simp at h4
 simp only [h1,Bool.not_true,Bool.false_eq_true,if_false]
 rw [if_neg h2,decDigits_length]
 by_cases h3:z.natAbs<lim
 ·rw [if_pos h3,if_neg]
  have h4:nDigits z.natAbs≤300:=(nDigits_tenTo z.natAbs 300 (by decide)).2 h3
  clear h3;omega
 ·rw [if_neg h3,if_pos]
  have h4:¬ nDigits z.natAbs≤300:=fun h=>h3 ((nDigits_tenTo z.natAbs 300 (by decide)).1 h)
  clear h3;omega
theorem itoa_inj {x y:Int} (h:itoa x=itoa y):x=y:=by rw [←valOf_itoa x,←valOf_itoa y,h]
def itoaQ (q:Rat):List UInt8:=if q.den=1 then itoa q.num else itoa q.num++47::itoa q.den
def cutN (l:List UInt8):List UInt8:=l.takeWhile (· != 47)
def hasS (l:List UInt8):Bool:=l.contains 47
def cutD (l:List UInt8):List UInt8:=if hasS l then (l.dropWhile (· != 47)).tail else [49]
def formQ (l:List UInt8):Bool:=chk (cutN l) != 11 && chk (cutD l) != 11 && !isNeg (cutD l) && cutD l != [48] && !(hasS l && cutD l == [49])
def chkQ (l:List UInt8):Int :=
 if formQ l=false then 11
 else if chk (cutN l)≠0∨chk (cutD l)≠0 then 4
 else if (valOf (cutN l)).natAbs.gcd (natOf (cutD l))=1 then 0 else 11
def ratOf (l:List UInt8):Rat:=mkRat (valOf (cutN l)) (natOf (cutD l))
theorem decDigits_ns (u:Nat):(47:UInt8) ∉ decDigits u:=fun h=>by
 have:=decDigits_dig u 47 h
 revert this;decide
theorem itoa_ns (z:Int):(47:UInt8) ∉ itoa z:=by
 unfold itoa
 split
 ·simp [decDigits_ns]
 ·exact decDigits_ns _
theorem takeWhile_all {α:Type} (p:α→Bool) (l:List α) (h:∀ x∈l,p x=true):l.takeWhile p=l:=by
 induction l with
 | nil=>rfl
 | cons a t ih=>rw [List.takeWhile_cons_of_pos (h a (by simp)),ih (fun x hx=>h x (by simp [hx]))]
theorem takeWhile_app {α:Type} (p:α→Bool) (l:List α) (c:α) (m:List α) (h:∀ x∈l,p x=true) (hc:p c=false):(l++c::m).takeWhile p=l∧(l++c::m).dropWhile p=c::m:=by
 induction l with
 | nil=>exact ⟨List.takeWhile_cons_of_neg (by simp [hc]),List.dropWhile_cons_of_neg (by simp [hc])⟩
 | cons a t ih =>
  obtain ⟨i1,i2⟩:=ih (fun x hx=>h x (by simp [hx]))
  refine ⟨?_,?_⟩
  ·rw [List.cons_append,List.takeWhile_cons_of_pos (h a (by simp)),i1]
  ·rw [List.cons_append,List.dropWhile_cons_of_pos (h a (by simp)),i2]
theorem ns_all {l:List UInt8} (h:(47:UInt8) ∉ l):∀ x∈l,(x != 47)=true:=fun x hx=>by
 rw [bne_iff_ne];rintro rfl;exact h hx
theorem cut_none {l:List UInt8} (h:(47:UInt8) ∉ l):cutN l=l∧hasS l=false∧cutD l = [49]:=by
 have h1:hasS l=false:=by unfold hasS;simpa using h
 refine ⟨takeWhile_all _ _ (ns_all h),h1,?_⟩
 unfold cutD;rw [h1];rfl
theorem cut_some {n:List UInt8} (h:(47:UInt8) ∉ n) (d:List UInt8):cutN (n++47::d)=n∧hasS (n++47::d)=true∧cutD (n++47::d)=d:=by
 obtain ⟨h1,h2⟩:=takeWhile_app (· != 47) n 47 d (ns_all h) (by decide)
 have h3:hasS (n++47::d)=true:=by unfold hasS;simp
 refine ⟨h1,h3,?_⟩
 unfold cutD;rw [h3,if_pos rfl,h2];rfl
theorem mem_first {l:List UInt8} (h:(47:UInt8)∈l):∃ s t,l=s++47::t∧(47:UInt8) ∉ s:=by
 induction l with
 | nil=>cases h
 | cons a m ih =>
  by_cases ha:a=47
  ·subst ha;exact ⟨[],m,rfl,by simp⟩
  ·have h':(47:UInt8)∈m:=by
    rcases List.mem_cons.1 h with q | q
    ·exact absurd q.symm ha
    ·exact q
   obtain ⟨s,t,rfl,hs⟩:=ih h'
   refine ⟨a::s,t,rfl,?_⟩
   rw [List.mem_cons,not_or]
   exact ⟨fun q=>ha q.symm,hs⟩
theorem cut_eq (l:List UInt8):(hasS l=false∧l=cutN l∧cutD l = [49])∨(hasS l=true∧l=cutN l++47::cutD l):=by
 by_cases h:(47:UInt8)∈l
 ·right
  obtain ⟨s,t,rfl,hs⟩:=mem_first h
  obtain ⟨h1,h2,h3⟩:=cut_some hs t
  exact ⟨h2,by rw [h1,h3]⟩
 ·left
  obtain ⟨h1,h2,h3⟩:=cut_none h
  exact ⟨h2,h1.symm,h3⟩
theorem valOf_abs (l:List UInt8):(valOf l).natAbs=natOf (szL l):=by unfold valOf szL;split <;> simp
theorem itoa_one:itoa 1 = [49]:=by decide+kernel
theorem valOf_one:valOf [49]=1:=by rw [←itoa_one,valOf_itoa]
theorem natOf_one:natOf [49]=1:=by decide
theorem natOf_val {l:List UInt8} (h:isNeg l=false):(natOf l:Int)=valOf l:=by unfold valOf;rw [h];rfl
theorem itoaQ_cut (q:Rat):cutN (itoaQ q)=itoa q.num∧cutD (itoaQ q)=itoa q.den∧hasS (itoaQ q)=decide (q.den≠1):=by
 unfold itoaQ
 by_cases h:q.den=1
 ·rw [if_pos h]
  obtain ⟨h1,h2,h3⟩:=cut_none (itoa_ns q.num)
  exact ⟨h1,by rw [h3,h];exact itoa_one.symm,by rw [h2,h];rfl⟩
 ·rw [if_neg h]
  obtain ⟨h1,h2,h3⟩:=cut_some (itoa_ns q.num) (itoa q.den)
  exact ⟨h1,h3,by rw [h2];simp [h]⟩
theorem ratOf_itoaQ (q:Rat):ratOf (itoaQ q)=q:=by
 obtain ⟨h1,h2,_⟩:=itoaQ_cut q
 unfold ratOf
 rw [h1,h2,valOf_itoa]
 have h3:(natOf (itoa (q.den:Int)):Int)=(q.den:Int):=by
  rw [natOf_val (by rw [head_itoa_neg];simp),valOf_itoa]
 rw [Int.ofNat.inj h3,Rat.mkRat_self]
theorem itoaQ_inj {x y:Rat} (h:itoaQ x=itoaQ y):x=y:=by rw [←ratOf_itoaQ x,←ratOf_itoaQ y,h]
theorem formQ_itoaQ (q:Rat):formQ (itoaQ q)=true:=by
 obtain ⟨h1,h2,h3⟩:=itoaQ_cut q
 have hd:=q.den_nz
 have c1:chk (itoa q.num)≠11:=by rw [chk_itoa];split <;> decide
 have c2:chk (itoa (q.den:Int))≠11:=by rw [chk_itoa];split <;> decide
 have c3:isNeg (itoa (q.den:Int))=false:=by rw [head_itoa_neg];simp
 have c4:itoa (q.den:Int) ≠ [48]:=fun h=>by
  rw [←itoa_zero] at h
  have:=itoa_inj h
  omega
 have c5:hasS (itoaQ q)=true→itoa (q.den:Int) ≠ [49]:=fun h h'=>by
  rw [←itoa_one] at h'
  have:=itoa_inj h'
  rw [h3] at h
  have:=of_decide_eq_true h
  omega
 unfold formQ
 rw [h1,h2]
 cases hs:hasS (itoaQ q)
 ·simp [c1,c2,c3,c4]
 ·simp [c1,c2,c3,c4,c5 hs]
theorem chkQ_itoaQ (q:Rat):chkQ (itoaQ q)=if q.num.natAbs<lim∧q.den<lim then 0 else 4:=by
 obtain ⟨h1,h2,_⟩:=itoaQ_cut q
 have h3:(natOf (itoa (q.den:Int)):Int)=(q.den:Int):=by
  rw [natOf_val (by rw [head_itoa_neg];simp),valOf_itoa]
 have h4:=Int.ofNat.inj h3
 unfold chkQ
 rw [formQ_itoaQ,if_neg (by decide),h1,h2,chk_itoa,chk_itoa,valOf_itoa,h4,Int.natAbs_natCast]
 by_cases a1:q.num.natAbs<lim
 ·by_cases a2:q.den<lim
  ·rw [if_pos a1,if_pos a2,if_neg (by simp),if_pos q.reduced,if_pos ⟨a1,a2⟩]
  ·rw [if_pos a1,if_neg a2,if_pos (Or.inr (by decide)),if_neg (fun h=>a2 h.2)]
 ·rw [if_neg a1,if_pos (Or.inl (by decide)),if_neg (fun h=>a1 h.1)]
theorem chkQ_parts {l:List UInt8} (h:chkQ l=0):formQ l=true∧chk (cutN l)=0∧chk (cutD l)=0∧(ratOf l).num=valOf (cutN l)∧((ratOf l).den:Int)=valOf (cutD l)∧0<valOf (cutD l):=by
 unfold chkQ at h
 split at h
 ·cases h
 ·rename_i hf
  split at h
  ·cases h
  ·rename_i hc
   split at h
   ·rename_i hg
    have hf':formQ l=true:=by simpa using hf
    have hn:chk (cutN l)=0:=Decidable.byContradiction fun q=>hc (Or.inl q)
    have hd:chk (cutD l)=0:=Decidable.byContradiction fun q=>hc (Or.inr q)
    have hx:=hf'
    unfold formQ at hx
    simp only [Bool.and_eq_true,Bool.not_eq_true',bne_iff_ne,ne_eq] at hx
    have hneg:=hx.1.1.2
    have h48:=hx.1.2
    have hv:=natOf_val hneg
    have hpos:0<valOf (cutD l):=by
     rcases Int.lt_or_le 0 (valOf (cutD l)) with q | q
     ·exact q
     ·exfalso
      refine h48 ?_
      rw [←itoa_valOf _ hd,show valOf (cutD l)=0 by omega,itoa_zero]
    have hne:natOf (cutD l)≠0:=by omega
    have e:ratOf l=⟨valOf (cutN l),natOf (cutD l),hne,hg⟩:=(Rat.mk_eq_mkRat _ _ hne hg).symm
    exact ⟨hf',hn,hd,by rw [e],by rw [e];exact hv,hpos⟩
   ·cases h
theorem itoaQ_ratOf {l:List UInt8} (h:chkQ l=0):itoaQ (ratOf l)=l:=by
 obtain ⟨hf,hn,hd,e1,e2,_⟩:=chkQ_parts h
 unfold itoaQ
 rw [e1,e2,itoa_valOf _ hn,itoa_valOf _ hd]
 rcases cut_eq l with ⟨_,h2,h3⟩ | ⟨h1,h2⟩
 ·rw [h3,valOf_one] at e2
  rw [if_pos (by omega)];exact h2.symm
 ·have h4:(ratOf l).den≠1:=fun q=>by
   rw [q] at e2
   have:cutD l = [49]:=by rw [←itoa_valOf _ hd,←e2];exact itoa_one
   unfold formQ at hf
   rw [h1,this] at hf
   simp at hf
  rw [if_neg h4];exact h2.symm
theorem chkQ_lim {l:List UInt8} (h:chkQ l=0):(ratOf l).num.natAbs<lim∧(ratOf l).den<lim:=by
 have h1:=chkQ_itoaQ (ratOf l)
 rw [itoaQ_ratOf h,h] at h1
 by_cases q:(ratOf l).num.natAbs<lim∧(ratOf l).den<lim
 ·exact q
 ·rw [if_neg q] at h1;cases h1
theorem indexByte_no {l:List UInt8} {c:UInt8} (h:c ∉ l):indexByte l c = -1:=by
 induction l with
 | nil=>rfl
 | cons a t ih =>
  have h1:a≠c:=fun q=>h (by simp [q])
  have h2:c ∉ t:=fun q=>h (by simp [q])
  unfold indexByte
  rw [if_neg (by simpa using h1),ih h2];rfl
theorem indexByte_at {s:List UInt8} {c:UInt8} (t:List UInt8) (h:c ∉ s):indexByte (s++c::t) c=s.length:=by
 induction s with
 | nil=>simp [indexByte]
 | cons a s ih =>
  have h1:a≠c:=fun q=>h (by simp [q])
  have h2:c ∉ s:=fun q=>h (by simp [q])
  rw [List.cons_append]
  unfold indexByte
  rw [if_neg (by simpa using h1),ih h2,if_neg (by simp)]
  simp
theorem cutN_le (l:List UInt8):(cutN l).length≤l.length:=by
 rcases cut_eq l with ⟨_,h2,_⟩ | ⟨_,h2⟩
 ·rw [←h2];omega
 ·have:=congrArg List.length h2
  simp only [List.length_append,List.length_cons] at this;omega
end Go.Proofs.YteckjifdpcbaeaaGreatDoor
namespace Go.Proofs.YteckjifdpcbaeaaGreatDoor.T
open Go.Proofs.YteckjifdpcbaeaaGreatDoor Go Go.Lib
def bO (l:List UInt8):ByteArray:=⟨l.toArray⟩
theorem bO_data (l:List UInt8):(bO l).data.toList=l:=by unfold bO;simp
theorem bO_size (l:List UInt8):(bO l).size=l.length:=by unfold bO;simp [ByteArray.size]
theorem bO_app (l m:List UInt8):bO l++bO m=bO (l++m):=by
 have h:∀ s t:ByteArray,s.data.toList=t.data.toList→s=t:=fun s t h=>by
  cases s;cases t;congr 1;exact Array.ext' h
 apply h
 rw [ByteArray.data_append]
 unfold bO
 simp
theorem bO_of (s:ByteArray):bO s.data.toList=s:=by
 cases s;unfold bO;simp
def dgs (l:List UInt8):Bool := !l.isEmpty && l.all isDig
theorem dgs_all {l:List UInt8} (h:dgs l=true):∀ c∈l,isDig c=true:=by
 unfold dgs at h
 rw [Bool.and_eq_true] at h
 exact List.all_eq_true.1 h.2
theorem dgs_ne {l:List UInt8} (h:dgs l=true):l ≠ []:=by
 rintro rfl;cases h
theorem dgs_of {l:List UInt8} (h:∀ c∈l,isDig c=true) (h0:l ≠ []):dgs l=true:=by
 unfold dgs
 rw [List.all_eq_true.2 h]
 cases l with
 | nil=>exact absurd rfl h0
 | cons a t=>rfl
theorem dig_no {l:List UInt8} (h:∀ c∈l,isDig c=true) {c:UInt8} (hc:isDig c=false):c ∉ l:=fun hm=>by
 rw [h c hm] at hc;cases hc
theorem app_dig {l m:List UInt8} (h1:∀ c∈l,isDig c=true) (h2:∀ c∈m,isDig c=true):∀ c∈l++m,isDig c=true:=fun c hc=>by
 rcases List.mem_append.1 hc with h | h
 ·exact h1 c h
 ·exact h2 c h
def nz (l:List UInt8):List UInt8:=l.dropWhile (· == 48)
def wz (l:List UInt8):List UInt8:=if nz l = [] then [48] else nz l
theorem natOf_zero (t:List UInt8):natOf (48::t)=natOf t:=by
 have:=natOf_append [48] t
 rw [List.singleton_append] at this
 rw [this,show natOf [48]=0 by decide];omega
theorem nz_dig {l:List UInt8} (h:∀ c∈l,isDig c=true):(∀ c∈nz l,isDig c=true)∧natOf (nz l)=natOf l∧(nz l).head? ≠ some 48:=by
 induction l with
 | nil=>exact ⟨by simp [nz],rfl,by simp [nz]⟩
 | cons a t ih =>
  have ht:=ih (fun c hc=>h c (by simp [hc]))
  by_cases ha:a=48
  ·subst ha
   have e:nz (48::t)=nz t:=by unfold nz;rw [List.dropWhile_cons_of_pos (by decide)]
   rw [e,natOf_zero];exact ht
  ·have e:nz (a::t)=a::t:=by unfold nz;rw [List.dropWhile_cons_of_neg (by simpa using ha)]
   rw [e]
   exact ⟨h,rfl,by simpa using ha⟩
theorem wz_dec {l:List UInt8} (h:∀ c∈l,isDig c=true):wz l=decDigits (natOf l):=by
 obtain ⟨h1,h2,h3⟩:=nz_dig h
 unfold wz
 by_cases hn:nz l = []
 ·rw [if_pos hn,←h2,hn,natOf_nil,decDigits_one (by decide)];rfl
 ·rw [if_neg hn,←h2,(dec_natOf _ h1 h3 hn).1]
theorem mdec_ten:∀ n,decDigits (10 ^ n)=49::List.replicate n 48
 | 0=>by rw [Nat.pow_zero,decDigits_one (by decide)];rfl
 | n+1=>by
  have h:¬ 10 ^ (n+1)<10:=by
   have:=Nat.pow_pos (n:=n) (show 0<10 by decide)
   rw [Nat.pow_succ];omega
  rw [decDigits,dif_neg h,show 10 ^ (n+1) / 10=10 ^ n by rw [Nat.pow_succ];omega,show 10 ^ (n+1) % 10=0 by rw [Nat.pow_succ];omega,mdec_ten n,List.replicate_succ']
  rfl
def kA (c:UInt8) (l:List UInt8):List UInt8:=l.takeWhile (· != c)
def kB (c:UInt8) (l:List UInt8):List UInt8:=(l.dropWhile (· != c)).tail
def kH (c:UInt8) (l:List UInt8):Bool:=l.contains c
theorem kH_iff {c:UInt8} {l:List UInt8}:kH c l=true↔c∈l:=by unfold kH;simp
theorem kH_no {c:UInt8} {l:List UInt8} (h:c ∉ l):kH c l=false:=by
 cases e:kH c l
 ·rfl
 ·exact absurd (kH_iff.1 e) h
theorem k_cons {c a:UInt8} (t:List UInt8) (h:a≠c):kA c (a::t)=a::kA c t∧kB c (a::t)=kB c t:=by
 unfold kA kB
 rw [List.takeWhile_cons_of_pos (by simpa using h),List.dropWhile_cons_of_pos (by simpa using h)]
 exact ⟨rfl,rfl⟩
theorem k_hit (c:UInt8) (t:List UInt8):kA c (c::t) = []∧kB c (c::t)=t:=by
 unfold kA kB
 rw [List.takeWhile_cons_of_neg (by simp),List.dropWhile_cons_of_neg (by simp)]
 exact ⟨rfl,rfl⟩
theorem k_split {c:UInt8}:∀ {l:List UInt8},c∈l→l=kA c l++c::kB c l
 | a::t,h=>by
  by_cases ha:a=c
  ·subst ha
   obtain ⟨e1,e2⟩:=k_hit a t
   rw [e1,e2];rfl
  ·obtain ⟨e1,e2⟩:=k_cons t ha
   have ht:c∈t:=by
    rcases List.mem_cons.1 h with h | h
    ·exact absurd h.symm ha
    ·exact h
   rw [e1,e2,List.cons_append,←k_split ht]
theorem kA_ns (c:UInt8):∀ l:List UInt8,c ∉ kA c l
 | []=>by simp [kA]
 | a::t=>by
  by_cases ha:a=c
  ·subst ha;rw [(k_hit a t).1];simp
  ·rw [(k_cons t ha).1,List.mem_cons,not_or]
   exact ⟨fun e=>ha e.symm,kA_ns c t⟩
theorem k_no {c:UInt8}:∀ {l:List UInt8},c ∉ l→kA c l=l∧kB c l = []
 | [],_=>⟨rfl,rfl⟩
 | a::t,h=>by
  rw [List.mem_cons,not_or] at h
  obtain ⟨e1,e2⟩:=k_cons t (fun e=>h.1 e.symm)
  obtain ⟨i1,i2⟩:=k_no h.2
  rw [e1,e2,i1,i2];exact ⟨rfl,rfl⟩
theorem k_app {c:UInt8}:∀ {s:List UInt8} (t:List UInt8),c ∉ s→kA c (s++c::t)=s∧kB c (s++c::t)=t∧kH c (s++c::t)=true
 | [],t,_=>⟨(k_hit c t).1,(k_hit c t).2,kH_iff.2 (by simp)⟩
 | a::s,t,h=>by
  rw [List.mem_cons,not_or] at h
  obtain ⟨e1,e2⟩:=k_cons (s++c::t) (fun e=>h.1 e.symm)
  obtain ⟨i1,i2,_⟩:=k_app t h.2
  rw [List.cons_append,e1,e2,i1,i2];exact ⟨rfl,rfl,kH_iff.2 (by simp)⟩
theorem k_len (c:UInt8) (l:List UInt8):(kA c l).length≤l.length∧(kB c l).length≤l.length:=by
 by_cases h:c∈l
 ·have:=congrArg List.length (k_split h)
  rw [List.length_append,List.length_cons] at this
  omega
 ·rw [(k_no h).1,(k_no h).2];exact ⟨Nat.le_refl _,Nat.zero_le _⟩
def frN (l:List UInt8):List UInt8:=if kH 46 l then wz (kA 46 l++kB 46 l) else wz (kA 47 l)
def frD (l:List UInt8):List UInt8:=if kH 46 l then 49::List.replicate (kB 46 l).length 48 else wz (if kH 47 l then kB 47 l else [49])
def frO (l:List UInt8):Bool:=if kH 46 l then dgs (kA 46 l) && dgs (kB 46 l) else dgs (kA 47 l) && dgs (if kH 47 l then kB 47 l else [49])
def nuV (l:List UInt8):Nat:=if kH 46 l then natOf (kA 46 l++kB 46 l) else natOf (kA 47 l)
def deV (l:List UInt8):Nat:=if kH 46 l then 10 ^ (kB 46 l).length else natOf (if kH 47 l then kB 47 l else [49])
theorem fr_val {l:List UInt8} (h:frO l=true):frN l=decDigits (nuV l)∧frD l=decDigits (deV l):=by
 unfold frO at h
 unfold frN frD nuV deV
 by_cases h1:kH 46 l=true
 ·rw [if_pos h1,Bool.and_eq_true] at h
  rw [if_pos h1,if_pos h1,if_pos h1,if_pos h1,mdec_ten]
  exact ⟨wz_dec (app_dig (dgs_all h.1) (dgs_all h.2)),rfl⟩
 ·rw [if_neg h1,Bool.and_eq_true] at h
  rw [if_neg h1,if_neg h1,if_neg h1,if_neg h1]
  exact ⟨wz_dec (dgs_all h.1),wz_dec (dgs_all h.2)⟩
theorem fr_lt {l:List UInt8} (h:frO l=true) {k:Nat} (hk:l.length≤k) (hk1:1≤k):nuV l<tenTo k∧deV l<tenTo (k+1):=by
 have t1:∀ m:List UInt8,(∀ c∈m,isDig c=true)→m.length≤k→natOf m<tenTo k:=fun m hm hl=>Nat.lt_of_lt_of_le (natOf_tenTo m hm) (tenTo_mono hl)
 have t2:∀ n,n<tenTo k→n<tenTo (k+1):=fun n hn=>Nat.lt_of_lt_of_le hn (tenTo_mono (Nat.le_succ k))
 unfold frO at h
 unfold nuV deV
 by_cases h1:kH 46 l=true
 ·rw [if_pos h1,Bool.and_eq_true] at h
  rw [if_pos h1,if_pos h1]
  have e:=congrArg List.length (k_split (kH_iff.1 h1))
  rw [List.length_append,List.length_cons] at e
  refine ⟨t1 _ (app_dig (dgs_all h.1) (dgs_all h.2)) (by rw [List.length_append];omega),?_⟩
  show tenTo (kB 46 l).length<tenTo (k+1)
  exact Nat.pow_lt_pow_right (by decide) (by omega)
 ·rw [if_neg h1,Bool.and_eq_true] at h
  rw [if_neg h1,if_neg h1]
  refine ⟨t1 _ (dgs_all h.1) (Nat.le_trans (k_len 47 l).1 hk),t2 _ (t1 _ (dgs_all h.2) ?_)⟩
  by_cases h2:kH 47 l=true
  ·rw [if_pos h2];exact Nat.le_trans (k_len 47 l).2 hk
  ·rw [if_neg h2];exact hk1
def sg (b:Bool) (l:List UInt8):List UInt8:=if b then 45::l else l
theorem sg_neg {b:Bool} {l:List UInt8} (h:isNeg l=false):isNeg (sg b l)=b∧szL (sg b l)=l:=by
 cases b
 ·have e:sg false l=l:=rfl
  rw [e]
  exact ⟨h,by unfold szL;rw [h];rfl⟩
 ·exact ⟨rfl,rfl⟩
theorem isNeg_dig {l:List UInt8} (h:∀ c∈l,isDig c=true) (m:List UInt8) (h0:l ≠ []):isNeg (l++m)=false:=by
 cases l with
 | nil=>exact absurd rfl h0
 | cons a t =>
  have h1:=h a (by simp)
  unfold isNeg
  rw [List.cons_append,List.head?_cons,beq_eq_false_iff_ne]
  intro e
  injection e with e
  subst e;revert h1;decide
theorem itoa_sg (z:Int):itoa z=sg (decide (z<0)) (decDigits z.natAbs):=by
 unfold sg
 by_cases h:z<0
 ·rw [decide_eq_true h];unfold itoa;rw [if_pos h];rfl
 ·rw [decide_eq_false h];unfold itoa;rw [if_neg h,show z.toNat=z.natAbs by omega];rfl
def pad (n m:Nat):List UInt8:=List.replicate (n+1 - (decDigits m).length) 48++decDigits m
theorem pad_len (n m:Nat):n+1≤(pad n m).length:=by unfold pad;rw [List.length_append,List.length_replicate];omega
theorem pad_le (n m:Nat):(pad n m).length≤n+1+(decDigits m).length:=by unfold pad;rw [List.length_append,List.length_replicate];omega
def decU (n m:Nat):List UInt8:=if n=0 then decDigits m else (pad n m).take ((pad n m).length - n)++46::(pad n m).drop ((pad n m).length - n)
theorem decU_len (n m:Nat):(decU n m).length≤n+2+(decDigits m).length:=by
 unfold decU
 by_cases h0:n=0
 ·rw [if_pos h0];omega
 ·rw [if_neg h0,List.length_append,List.length_cons,List.length_take,List.length_drop]
  have:=pad_le n m
  omega
def decT (n:Nat) (z:Int):List UInt8:=sg (decide (z<0)) (decU n z.natAbs)
def ftU (m:Nat):List UInt8:=decDigits (m / 144)++39::(decDigits (m / 12 % 12)++34::decDigits (m % 12))
def ftT (z:Int):List UInt8:=sg (decide (z<0)) (ftU z.natAbs)
theorem ftU_neg (m:Nat):isNeg (ftU m)=false:=isNeg_dig (decDigits_dig _) _ (decDigits_ne _)
theorem ftU_cut (m:Nat):kA 39 (ftU m)=decDigits (m / 144)∧kA 34 (kB 39 (ftU m))=decDigits (m / 12 % 12)∧kB 34 (kB 39 (ftU m))=decDigits (m % 12):=by
 unfold ftU
 obtain ⟨e1,e2,_⟩:=k_app (c:=39) (decDigits (m / 12 % 12)++34::decDigits (m % 12)) (dig_no (decDigits_dig (m / 144)) (by decide))
 obtain ⟨f1,f2,_⟩:=k_app (c:=34) (decDigits (m % 12)) (dig_no (decDigits_dig (m / 12 % 12)) (by decide))
 rw [e1,e2,f1,f2]
 exact ⟨rfl,rfl,rfl⟩
end Go.Proofs.YteckjifdpcbaeaaGreatDoor.T
namespace Go.Proofs.YteckjifdpcbaeaaGreatDoor
open Go.Lib
def digs (s:List UInt8):Bool:=s.all isDig && !s.isEmpty && !(decide (1<s.length) && s.head? == some 48)
theorem isNeg_cons {l:List UInt8} (h:isNeg l=true):∃ t,l=45::t∧szL l=t:=by
 cases l with
 | nil=>cases h
 | cons c t =>
  have hc:c=45:=by simpa [isNeg] using h
  subst hc
  exact ⟨t,rfl,by unfold szL;rw [h];rfl⟩
theorem szL_same {l:List UInt8} (h:isNeg l=false):szL l=l:=by unfold szL;rw [h];rfl
theorem chk_digs (l:List UInt8):(chk l != 11)=(digs (szL l) && !(isNeg l && szL l == [48])):=by
 have h1:(chk l != 11)=((szL l).all isDig && !decide (szL l = []∨((szL l).head? = some 48∧l ≠ [48]))):=by
  unfold chk
  cases (szL l).all isDig
  ·rfl
  ·by_cases hp:szL l = []∨((szL l).head? = some 48∧l ≠ [48])
   ·rw [if_neg (by decide),if_pos hp,decide_eq_true hp];rfl
   ·rw [if_neg (by decide),if_neg hp,decide_eq_false hp]
    split <;> rfl
 rw [h1]
 unfold digs
 cases (szL l).all isDig
 ·simp
 ·cases hn:isNeg l
  ·rw [szL_same hn]
   rcases l with _ | ⟨c,_ | ⟨d,t⟩⟩
   ·simp
   ·by_cases hc:c=48 <;> simp [hc]
   ·simp;rfl
  ·obtain ⟨t,rfl,hs⟩:=isNeg_cons hn
   rw [hs]
   rcases t with _ | ⟨c,_ | ⟨d,t⟩⟩
   ·simp
   ·by_cases hc:c=48 <;> simp [hc]
   ·simp;rfl
def sN (l:List UInt8):List UInt8:=(szL l).takeWhile (· != 47)
def sD (l:List UInt8):List UInt8:=if hasS l then cutD l else []
theorem cutN_sz (l:List UInt8):isNeg (cutN l)=isNeg l∧szL (cutN l)=sN l:=by
 unfold sN cutN
 cases hn:isNeg l
 ·rw [szL_same hn]
  have h2:isNeg (l.takeWhile (· != 47))=false:=by
   cases l with
   | nil=>rfl
   | cons c t =>
    by_cases hc:c=47
    ·subst hc;rfl
    ·rw [List.takeWhile_cons_of_pos (by simpa using hc)]
     simpa [isNeg] using hn
  exact ⟨h2,szL_same h2⟩
 ·obtain ⟨t,rfl,hs⟩:=isNeg_cons hn
  rw [hs,List.takeWhile_cons_of_pos (by decide)]
  exact ⟨rfl,rfl⟩
def refBad (l:List UInt8):Bool := !digs (sN l) || hasS l && (!digs (sD l) || sD l == [48] || sD l == [49]) || isNeg l && sN l == [48]
def refChk (l:List UInt8):Int :=
 if refBad l=true then 11
 else if 300<(sN l).length∨300<(sD l).length then 4
 else if hasS l=false then 0 else if Nat.gcd (natOf (sN l)) (natOf (sD l))=1 then 0 else 11
theorem digs_neg {s:List UInt8} (h:digs s=true):isNeg s=false:=by
 unfold digs at h
 cases s with
 | nil=>rfl
 | cons c t =>
  simp only [List.all_cons,Bool.and_eq_true] at h
  have h1:=h.1.1.1
  cases hc:isNeg (c::t)
  ·rfl
  ·have hc:c=45:=by simpa [isNeg] using hc
   subst hc;cases h1
theorem chk_pos {l:List UInt8} (h:isNeg l=false):(chk l != 11)=digs l:=by rw [chk_digs,szL_same h,h];simp
theorem formQ_ref (l:List UInt8):formQ l = !refBad l:=by
 obtain ⟨h1,h2⟩:=cutN_sz l
 unfold formQ refBad
 rw [chk_digs (cutN l),h1,h2]
 unfold sD
 cases hs:hasS l
 ·have hd:cutD l = [49]:=by unfold cutD;rw [hs];rfl
  rw [hd]
  cases digs (sN l) <;> cases isNeg l <;> cases (sN l == [48]) <;> rfl
 ·rw [if_pos rfl]
  cases hn:isNeg (cutD l)
  ·rw [chk_pos hn]
   cases digs (sN l) <;> cases isNeg l <;> cases (sN l == [48]) <;> cases digs (cutD l) <;> cases (cutD l == [49]) <;> cases h48:(cutD l == [48]) <;> simp_all
  ·have hd:digs (cutD l)=false:=by
    cases hd:digs (cutD l)
    ·rfl
    ·rw [digs_neg hd] at hn;cases hn
   rw [hd]
   simp
theorem chk_long {l:List UInt8} (h:(chk l != 11)=true):chk l=if 300<(szL l).length then 4 else 0:=by
 unfold chk at h ⊢
 split
 ·rename_i hc;rw [if_pos hc] at h;cases h
 ·rename_i hc
  rw [if_neg hc] at h
  split
  ·rename_i hd;rw [if_pos hd] at h;cases h
  ·rfl
theorem refChk_eq (l:List UInt8):refChk l=chkQ l:=by
 unfold refChk chkQ
 have hf:=formQ_ref l
 obtain ⟨c1,c2⟩:=cutN_sz l
 cases hq:formQ l
 ·have hb:refBad l=true:=by rw [hq] at hf;cases h:refBad l;rw [h] at hf;cases hf;rfl
  rw [if_pos hb,if_pos rfl]
 ·have hb:¬ refBad l=true:=by rw [hq] at hf;intro h;rw [h] at hf;cases hf
  rw [if_neg hb,if_neg (by decide:¬ true=false)]
  have hq':=hq
  unfold formQ at hq'
  simp only [Bool.and_eq_true,Bool.not_eq_true',bne_iff_ne,ne_eq] at hq'
  obtain ⟨⟨⟨⟨k1,k2⟩,k3⟩,k4⟩,k5⟩:=hq'
  have e1:=chk_long (l:=cutN l) (by simpa using k1)
  have e2:=chk_long (l:=cutD l) (by simpa using k2)
  rw [c2] at e1
  rw [szL_same k3] at e2
  have hv:(valOf (cutN l)).natAbs=natOf (sN l):=by rw [valOf_abs,c2]
  rw [hv]
  unfold sD
  cases hs:hasS l
  ·have hd:cutD l = [49]:=by unfold cutD;rw [hs];rfl
   rw [hd] at e2 ⊢
   have e3:chk [49]=0:=by rw [e2];rfl
   by_cases hl:300<(sN l).length
   ·rw [if_pos (.inl hl),if_pos (.inl (by rw [e1,if_pos hl];decide))]
   ·rw [if_neg (by rintro (h | h);exact hl h;exact absurd h (by decide)),if_pos rfl,if_neg (by rintro (h | h);exact h (by rw [e1,if_neg hl]);exact h e3),if_pos (by rw [natOf_one,Nat.gcd_one_right])]
  ·rw [if_pos rfl]
   by_cases hl:300<(sN l).length
   ·rw [if_pos (.inl hl),if_pos (.inl (by rw [e1,if_pos hl];decide))]
   ·by_cases hl2:300<(cutD l).length
    ·rw [if_pos (.inr hl2),if_pos (.inr (by rw [e2,if_pos hl2];decide))]
    ·have hX:¬ (chk (cutN l)≠0∨chk (cutD l)≠0):=by
      rintro (h | h)
      ·exact h (by rw [e1,if_neg hl])
      ·exact h (by rw [e2,if_neg hl2])
     rw [if_neg (by rintro (h | h);exact hl h;exact hl2 h),if_neg (by decide:¬ true=false),if_neg hX]
end Go.Proofs.YteckjifdpcbaeaaGreatDoor
namespace Go.Proofs.YteckjifdpcbaeaaGreatDoor
open Go.RowKit
theorem ret_bool {a b:Bool} (h:a=b):Ending.returned (.bool a) = .returned (.bool b):=by rw [h]
theorem ret_int {k:IntKind} {a b:Int} (h:a=b):Ending.returned (.int k a) = .returned (.int k b):=by rw [h]
theorem ret_str {a b:ByteArray} (h:a=b):Ending.returned (.string a) = .returned (.string b):=by rw [h]
theorem size_len (s:ByteArray):s.data.toList.length=s.size:=rfl
theorem empty_true {s:ByteArray} (h:s.size=0):s.toList.isEmpty=true:=by
 rw [ByteArray.toList_eq,List.isEmpty_iff];exact List.eq_nil_of_length_eq_zero h
theorem empty_false {s:ByteArray} (h:0<s.size):s.toList.isEmpty=false:=by
 rw [ByteArray.toList_eq]
 cases hl:s.data.toList with
 | nil=>have:=size_len s;rw [hl] at this;simp at this;omega
 | cons a t=>rfl
theorem data_nil {s:ByteArray} (h:s.size=0):s.data.toList = []:=List.eq_nil_of_length_eq_zero h
theorem data_cons {s:ByteArray} (h:0<s.size):∃ t,s.data.toList=s[0]::t:=by
 have h2:s.data.toList[0]'(by rw [size_len];exact h)=s[0]:=rfl
 cases hl:s.data.toList with
 | nil=>have:=size_len s;rw [hl] at this;simp at this;omega
 | cons a t=>simp only [hl] at h2;exact ⟨t,by rw [←h2];rfl⟩
theorem u8_eq (c:UInt8) (k:Nat) (hk:k<256):(((c.toNat:Nat):Int)==(k:Int))=(c==UInt8.ofNat k):=by
 rw [Bool.eq_iff_iff,beq_iff_eq,beq_iff_eq]
 constructor
 ·intro h
  have h2:c.toNat=k:=by omega
  rw [←h2];exact UInt8.ofNat_toNat.symm
 ·intro h;subst h
  rw [UInt8.toNat_ofNat']
  have:k % 2 ^ 8=k:=Nat.mod_eq_of_lt (by omega)
  rw [this]
theorem isNeg_pos {s:ByteArray} (h:0<s.size):(((s[0].toNat:Nat):Int)==45)=isNeg s.data.toList:=by
 obtain ⟨t,ht⟩:=data_cons h
 rw [ht]
 have:=u8_eq s[0] 45 (by decide)
 exact this.trans (by unfold isNeg;rfl)
theorem isNegative_any (s:ByteArray) (w:World) :
  Calls Tryz.prog 165 #[.string s] w fun e w'=>e = .returned (.bool (isNeg s.data.toList))∧w=w':=by
 by_cases h:0<s.size
 ·have hE:=empty_false h
  go_enter Tryz.func165,Tryz.ntmps165
  go_wp2
  go_ret
  exact ⟨ret_bool (isNeg_pos h),rfl⟩
 ·have h0:s.size=0:=by omega
  have hE:=empty_true h0
  go_enter Tryz.func165,Tryz.ntmps165
  go_wp2
  go_ret
  exact ⟨ret_bool (by rw [data_nil h0];rfl),rfl⟩
def szB (s:ByteArray):ByteArray:=if isNeg s.data.toList then s.extract 1 s.size else s
theorem szB_data (s:ByteArray):(szB s).data.toList=szL s.data.toList:=by
 unfold szB szL
 by_cases h:isNeg s.data.toList
 ·rw [if_pos h,if_pos h,Lib.extract_data]
  rw [←List.drop_one]
  rw [List.take_of_length_le]
  rw [List.length_drop];rw [size_len];omega
 ·rw [if_neg h,if_neg h]
theorem isNeg_size {s:ByteArray} (h:isNeg s.data.toList=true):0<s.size:=by
 rw [←size_len]
 cases hl:s.data.toList with
 | nil=>rw [hl] at h;cases h
 | cons a t=>simp
theorem szB_size (s:ByteArray):(szB s).size≤s.size:=by
 unfold szB;split
 ·rw [ByteArray.size_extract];omega
 ·exact Nat.le_refl _
theorem sizeText_any (s:ByteArray) (w:World) (hs:s.size≤maxLen) :
  Calls Tryz.prog 169 #[.string s] w fun e w'=>e = .returned (.string (szB s))∧w=w':=by
 unfold maxLen at hs
 by_cases h:isNeg s.data.toList=true
 ·have h0:=isNeg_size h
  go_enter Tryz.func169,Tryz.ntmps169
  go_wp2_with (go_at_call 165;refine (isNegative_any s _).mono ?_;rw [h];rintro e w' ⟨rfl,rfl⟩)
  go_ret
  exact ⟨ret_str (by unfold szB;rw [if_pos h]),rfl⟩
 ·have h':isNeg s.data.toList=false:=by simpa using h
  go_enter Tryz.func169,Tryz.ntmps169
  go_wp2_with (go_at_call 165;refine (isNegative_any s _).mono ?_;rw [h'];rintro e w' ⟨rfl,rfl⟩)
  go_ret
  exact ⟨ret_str (by unfold szB;rw [h'];rfl),rfl⟩
theorem take_snoc (s:ByteArray) (k:Nat) (h:k<s.size):s.data.toList.take (k+1)=s.data.toList.take k ++ [s[k]]:=by
 rw [List.take_succ_eq_append_getElem (by simpa using h)];rfl
theorem mem_get (s:ByteArray) (k:Nat) (h:k<s.size):s[k]∈s.data.toList:=by
 have:s.data.toList[k]'(by rw [size_len];exact h)=s[k]:=rfl
 rw [←this];exact List.getElem_mem _
theorem natOf_take_lt (l:List UInt8) (h:∀ c∈l,isDig c=true) (k:Nat):natOf (l.take k)<10 ^ k:=by
 have h1:=natOf_lt (l.take k) (fun c hc=>h c (List.mem_of_mem_take hc))
 exact Nat.lt_of_lt_of_le h1 (Nat.pow_le_pow_right (by decide) (List.length_take_le _ _))
theorem natOf_take_18 (l:List UInt8) (h:∀ c∈l,isDig c=true) (k:Nat) (hk:k≤18):natOf (l.take k)<1000000000000000000 :=
 Nat.lt_of_lt_of_le (natOf_take_lt l h k) (Nat.le_trans (Nat.pow_le_pow_right (by decide) hk) (by decide))
theorem value_any (s:ByteArray) (w:World) (hs:s.size≤18) (hd:∀ c∈s.data.toList,isDig c=true) :
  Calls Tryz.prog 166 #[.string s] w fun e w'=>e = .returned (.int .u64 (natOf s.data.toList:Nat))∧w=w':=by
 have HD:=Lib.hid hd;clear hd
 go_enter Tryz.func166,Tryz.ntmps166
 go_wp2
 go_loop [3,7] (fun n i=>∃ k:Nat,k≤s.size∧i = .int .i64 k∧n = .int .u64 (natOf (s.data.toList.take k):Nat)) (fun _ i=>s.size - (intOf i).toNat)
 case atStart=>exact ⟨0,Nat.zero_le _,rfl,rfl⟩
 case round =>
  obtain ⟨k,hk,rfl,rfl⟩:=hrel
  by_cases hlt:k<s.size
  ·have hn:=natOf_take_18 s.data.toList HD.out k (by omega)
   have hc:=(isDig_iff s[k]).1 (HD.out _ (mem_get s k hlt))
   have HS:Hid (natOf (s.data.toList.take (k+1))=natOf (s.data.toList.take k)*10+(s[k].toNat - 48)):=by rw [take_snoc s k hlt];exact natOf_snoc _ _
   go_wp2
   go_round
   case rel=>exact ⟨k+1,by omega,by go_num,by rw [HS.out];go_num⟩
   case measure=>simp [intOf];omega
  ·go_wp2
   go_ret
   exact ⟨ret_int (by rw [List.take_of_length_le (by rw [size_len];omega)]),rfl⟩
end Go.Proofs.YteckjifdpcbaeaaGreatDoor
