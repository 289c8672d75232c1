/- Parts of the proof of the text YtbhbhlfkdlfimaaGreatDoorQX29. -/
import Derived.Lib.ItoaNum
import Derived.Lib.ItoaMem
import Derived.Test.YtbhbhlfkdlfimaaGreatDoorProg
import Derived.Handy
import Derived.WalkSpells
import Derived.WalkLawsBesides
import Derived.BigQuiet
import Derived.Deep.QuietTactic
import Derived.Lib.Hide
import Derived.Lib.Strings
import Derived.Shelf.Strings.Builder1
import Derived.Shelf.Strings.Builder2
import Derived.Shelf.Small.Bits
import Derived.Shelf.Small.Strs
import Derived.Shelf.Small.Wraps
import Derived.Shelf.Strings.BuilderF
import Derived.Shelf.Strconv.Itoa0
import Derived.Shelf.Strconv.Itoa1
import Derived.Shelf.LaysM
import Derived.Shelf.Strconv.Itoa2
import Derived.Shelf.Strconv.Itoa3
import Derived.Shelf.Strconv.Itoa4
import Derived.Shelf.Strconv.Clone
import Derived.Shelf.Strconv.SyntaxError
import Derived.Shelf.LaysC
import Derived.Shelf.Strconv.ToError
import Derived.Shelf.Strconv.Lower
import Derived.Shelf.Strconv.ParseUint10
import Derived.Shelf.Strconv.ParseUint10Empty
import Derived.Shelf.Strconv.ParseUint10Any
import Derived.Shelf.Strconv.RangeError
import Derived.Shelf.Strconv.ToErrorRange
import Derived.Shelf.Strconv.ParseUint10b64
import Derived.Ground.MpProg
import Derived.Shelf.Pu.ParseUintPublic10
import Derived.Shelf.Strings.Search1
import Derived.Shelf.Strings.Search2
import Derived.Shelf.Strings.Cut
import Derived.Shelf.Strings.Shaped
import Derived.Shelf.Strconv.AppendUint10
import Derived.Shelf.Strconv.AppendInt10
import Derived.Shelf.Strconv.AppendIntPublic10
import Derived.Shelf.Strings.Prefix
import Derived.Shelf.Bits.Mul64
import Derived.Shelf.Strings.Repeat
import Derived.Shelf.Slices.Equal
import Derived.Ground.SlgnProg
import Derived.Shelf.SlicesE.Equal
import Derived.Below
import Derived.WalkKit
set_option linter.all false
set_option maxRecDepth 100000
set_option maxHeartbeats 8000000
namespace Go.Proofs.YtbhbhlfkdlfimaaGreatDoor
open Go.RowKit
theorem Ha {p:Prop} (h:p):Hid p:=Lib.hid h
theorem Hb {p q:Prop} (h:p) (k:q):p∧q:=⟨h,k⟩
end Go.Proofs.YtbhbhlfkdlfimaaGreatDoor
namespace Go.Proofs.YtbhbhlfkdlfimaaGreatDoor
open Go.RowKit
def CqB (w:World) (f:FuncId) (a:Array Value) (r:Value):Prop:=∀ W,Below w.heap.size w W→Calls Tryz.prog f a W fun e W'=>e = .returned r∧Below W.heap.size W W'
end Go.Proofs.YtbhbhlfkdlfimaaGreatDoor
namespace Go.Proofs.YtbhbhlfkdlfimaaGreatDoor
open Go.Lib
theorem gj {α:Type} {P:List α→Prop} (h0:P []) (hs:∀ l a,P l→P (l ++ [a])) (l:List α):P l:=by
 rw [←List.reverse_reverse l]
 induction l.reverse with
 | nil=>exact h0
 | cons a t ih=>rw [List.reverse_cons];exact hs _ _ ih
def ah (l:List UInt8):Nat:=l.foldl (fun n c=>n*10+(c.toNat - 48)) 0
def aA (c:UInt8):Bool:=48≤c && c≤57
def aw (l:List UInt8):Bool:=l.head? == some 45
def szL (l:List UInt8):List UInt8:=if aw l then l.tail else l
def valOf (l:List UInt8):Int:=if aw l then -(ah l.tail:Int) else (ah l:Int)
def chk (l:List UInt8):Int :=
 if !(szL l).all aA then 11
 else if (szL l) = []∨((szL l).head? = some 48∧l ≠ [48]) then 11
 else if 300<(szL l).length then 4 else 0
theorem qJ:ah []=0:=rfl
theorem bR (l:List UInt8) (c:UInt8):ah (l ++ [c])=ah l*10+(c.toNat - 48):=by
 simp [ah,List.foldl_append]
theorem eI (l m:List UInt8):ah (l++m)=ah l*10 ^ m.length+ah m:=by
 induction m using gj with
 | h0=>simp [ah]
 | hs m c ih =>
  rw [←List.append_assoc,bR,ih,bR,List.length_append,List.length_singleton,Nat.pow_succ]
  rw [Nat.add_mul,Nat.mul_assoc,Nat.add_assoc]
theorem az (c:UInt8):aA c=true↔48≤c.toNat∧c.toNat≤57:=by
 simp [aA,UInt8.le_iff_toNat_le]
theorem aX (l:List UInt8) (h:∀ c∈l,aA c=true):ah l<10 ^ l.length:=by
 induction l using gj with
 | h0=>simp [ah]
 | hs m c ih =>
  have h1:=ih (fun c hc=>h c (by simp [hc]))
  have h2:=h c (by simp)
  have h3:c.toNat≤57:=by
   simp only [aA,Bool.and_eq_true,decide_eq_true_eq,UInt8.le_iff_toNat_le] at h2
   exact h2.2
  rw [bR,List.length_append,List.length_singleton,Nat.pow_succ]
  omega
theorem qK (d:Nat) (h:d<10):aA (UInt8.ofNat (48+d))=true:=by
 simp only [aA,Bool.and_eq_true,decide_eq_true_eq,UInt8.le_iff_toNat_le,UInt8.toNat_ofNat']
 have:(48+d) % 2 ^ 8=48+d:=Nat.mod_eq_of_lt (by omega)
 rw [this]
 exact ⟨by simp,by simp;omega⟩
theorem toNat_ofNat (d:Nat) (h:d<10):(UInt8.ofNat (48+d)).toNat=48+d:=by
 rw [UInt8.toNat_ofNat'];exact Nat.mod_eq_of_lt (by omega)
theorem bg (u:Nat):∀ c∈decDigits u,aA c=true:=by
 induction u using Nat.strongRecOn with
 | _ u ih =>
  intro c hc
  by_cases h:u<10
  ·rw [decDigits_one h] at hc
   rw [List.mem_singleton.1 hc];exact qK u h
  ·rw [decDigits,dif_neg h] at hc
   rcases List.mem_append.1 hc with hc | hc
   ·exact ih (u / 10) (by omega) c hc
   ·rw [List.mem_singleton.1 hc];exact qK (u % 10) (by omega)
theorem cU (u:Nat):ah (decDigits u)=u:=by
 induction u using Nat.strongRecOn with
 | _ u ih =>
  by_cases h:u<10
  ·rw [decDigits_one h]
   show 0*10+((UInt8.ofNat (48+u)).toNat - 48)=u
   rw [toNat_ofNat u h];omega
  ·rw [decDigits,dif_neg h,bR,ih (u / 10) (by omega),toNat_ofNat (u % 10) (by omega)]
   omega
theorem kJ (u:Nat):decDigits u ≠ []:=by
 intro h;have:=decDigits_length u;rw [h] at this;have:=nDigits_pos u;simp at *; omega
theorem nV (u:Nat) (hu:0<u):∃ c,(decDigits u).head? = some c∧49≤c.toNat∧c.toNat≤57:=by
 induction u using Nat.strongRecOn with
 | _ u ih =>
  by_cases h:u<10
  ·rw [decDigits_one h]
   exact ⟨_,rfl,by rw [toNat_ofNat u h];omega,by rw [toNat_ofNat u h];omega⟩
  ·rw [decDigits,dif_neg h]
   obtain ⟨c,h1,h2,h3⟩:=ih (u / 10) (by omega) (by omega)
   exact ⟨c,by rw [List.head?_append,h1];rfl,h2,h3⟩
theorem yK (l:List UInt8) (hd:∀ c∈l,aA c=true) (h0:l.head? ≠ some 48) (hne:l ≠ []):decDigits (ah l)=l∧0<ah l:=by
 induction l using gj with
 | h0=>exact absurd rfl hne
 | hs m c ih =>
  have h2:=hd c (by simp)
  have h3:48≤c.toNat∧c.toNat≤57:=by
   simp only [aA,Bool.and_eq_true,decide_eq_true_eq,UInt8.le_iff_toNat_le] at h2
   exact h2
  rw [bR]
  have hc:UInt8.ofNat (48+(c.toNat - 48))=c:=by
   rw [show 48+(c.toNat - 48)=c.toNat by omega];exact UInt8.ofNat_toNat
  by_cases hm:m = []
  ·subst hm
   have:c.toNat≠48:=by
    intro e;apply h0;simp
    exact UInt8.toNat_inj.1 (by simpa using e)
   rw [qJ]
   simp only [Nat.zero_mul,Nat.zero_add,List.nil_append]
   rw [decDigits_one (by omega),hc]
   exact ⟨rfl,by omega⟩
  ·obtain ⟨i1,i2⟩:=ih (fun c hc=>hd c (by simp [hc])) (by
    intro e;apply h0;rw [List.head?_append,e];rfl) hm
   rw [decDigits,dif_neg (by omega)]
   rw [show (ah m*10+(c.toNat - 48)) / 10=ah m by omega,show (ah m*10+(c.toNat - 48)) % 10=c.toNat - 48 by omega,i1,hc]
   exact ⟨rfl,by omega⟩
theorem yL (u:Nat):aw (decDigits u)=false:=by
 have h:=bg u
 cases hl:decDigits u with
 | nil=>rfl
 | cons c t =>
  have:=h c (by rw [hl];simp)
  simp only [aw,List.head?_cons]
  simp only [aA,Bool.and_eq_true,decide_eq_true_eq,UInt8.le_iff_toNat_le] at this
  rw [beq_eq_false_iff_ne]
  intro e
  injection e with e
  subst e
  simp at this
theorem lU (k:Nat):∀ u,u<10 ^ (k+1)→nDigits u≤k+1:=by
 induction k with
 | zero=>intro u h;rw [nDigits_small (by simpa using h)];exact Nat.le_refl _
 | succ k ih =>
  intro u h
  by_cases hu:u<10
  ·rw [nDigits_small hu];omega
  ·rw [nDigits_big hu]
   have:=ih (u / 10) (by rw [Nat.pow_succ] at h;omega)
   omega
theorem bh (u k:Nat) (hk:1≤k):nDigits u≤k↔u<10 ^ k:=by
 constructor
 ·intro h
  exact Nat.lt_of_lt_of_le (lt_pow_nDigits u) (Nat.pow_le_pow_right (by decide) h)
 ·intro h
  have:=lU (k - 1) u (by rw [Nat.sub_add_cancel hk];exact h)
  omega
theorem fZ:itoa 0 = [48]:=by decide+kernel
theorem dy (l:List UInt8) (h:chk l=0):itoa (valOf l)=l:=by
 unfold chk at h
 by_cases h1:(szL l).all aA
 ·simp only [h1,Bool.not_true,Bool.false_eq_true,if_false] at h
  by_cases h2:(szL l) = []∨((szL l).head? = some 48∧l ≠ [48])
  ·rw [if_pos h2] at h;cases h
  ·rw [not_or] at h2
   obtain ⟨h2,h3⟩:=h2
   rw [List.all_eq_true] at h1
   by_cases hz:l = [48]
   ·subst hz;exact fZ
   ·have h0:(szL l).head? ≠ some 48:=fun e=>h3 ⟨e,hz⟩
    obtain ⟨d1,d2⟩:=yK (szL l) h1 h0 h2
    unfold valOf
    by_cases hn:aw l
    ·rw [if_pos hn]
     simp only [szL,hn,if_true] at d1 d2
     rw [itoa_neg _ d2,d1]
     cases l with
     | nil=>cases hn
     | cons c t =>
      simp only [aw,List.head?_cons,beq_iff_eq,Option.some.injEq] at hn
      subst hn;rfl
    ·rw [if_neg hn]
     simp only [szL,hn,if_false,Bool.false_eq_true] at d1 d2
     rw [itoa_nonneg,d1]
 ·simp only [h1] at h;cases h
def ak (k:Nat):Nat:=10 ^ k
def lim:Nat:=ak 300
theorem aG {a b:Nat} (h:a≤b):ak a≤ak b:=Nat.pow_le_pow_right (by decide) h
theorem cL (u k:Nat) (hk:1≤k):nDigits u≤k↔u<ak k:=bh u k hk
theorem mL (l:List UInt8) (h:∀ c∈l,aA c=true):ah l<ak l.length:=aX l h
theorem Ao (l:List UInt8) (h:chk l=0):(valOf l).natAbs<lim:=by
 unfold chk at h
 by_cases h1:(szL l).all aA
 ·simp only [h1,Bool.not_true,Bool.false_eq_true,if_false] at h
  by_cases h2:(szL l) = []∨((szL l).head? = some 48∧l ≠ [48])
  ·rw [if_pos h2] at h;cases h
  ·rw [if_neg h2] at h
   by_cases h3:300<(szL l).length
   ·rw [if_pos h3] at h;cases h
   ·rw [List.all_eq_true] at h1
    have h6:(szL l).length≤300:=by omega
    have h5:ah (szL l)<lim:=Nat.lt_of_lt_of_le (mL (szL l) h1) (aG h6)
    unfold valOf
    by_cases hn:aw l
    ·rw [if_pos hn];simp only [szL,hn,if_true] at h5;rw [Int.natAbs_neg];exact h5
    ·rw [if_neg hn];simp only [szL,hn,if_false,Bool.false_eq_true] at h5;exact h5
 ·simp only [h1] at h;cases h
theorem bH (z:Int):aw (itoa z)=decide (z<0):=by
 by_cases h:z<0
 ·unfold itoa;rw [if_pos h];simp [aw,h]
 ·unfold itoa;rw [if_neg h,yL];simp [h]
theorem cM (z:Int):valOf (itoa z)=z:=by
 unfold valOf
 rw [bH]
 by_cases h:z<0
 ·simp only [h,decide_true,if_true]
  unfold itoa;rw [if_pos h]
  simp only [List.tail_cons]
  rw [cU];omega
 ·simp only [h,decide_false,Bool.false_eq_true,if_false]
  unfold itoa;rw [if_neg h,cU];omega
theorem iX (z:Int):szL (itoa z)=decDigits z.natAbs:=by
 unfold szL
 rw [bH]
 by_cases h:z<0
 ·simp only [h,decide_true,if_true]
  unfold itoa;rw [if_pos h];rfl
 ·simp only [h,decide_false,Bool.false_eq_true,if_false]
  unfold itoa;rw [if_neg h]
  congr 1;omega
theorem gm (z:Int):chk (itoa z)=if z.natAbs<lim then 0 else 4:=by
 unfold chk
 rw [iX]
 have h1:(decDigits z.natAbs).all aA=true:=List.all_eq_true.2 (bg _)
 have hne:=kJ z.natAbs
 have h2:¬ (decDigits z.natAbs = []∨((decDigits z.natAbs).head? = some 48∧itoa z ≠ [48])):=by
  rintro (h | ⟨h,h'⟩)
  ·exact hne h
  ·by_cases hz:z=0
   ·subst hz;exact h' fZ
   ·obtain ⟨c,h3,h4,_⟩:=nV z.natAbs (by omega)
    rw [h] at h3;injection h3 with h3;subst h3;simp at h4
 simp only [h1,Bool.not_true,Bool.false_eq_true,if_false]
 rw [if_neg h2,decDigits_length]
 by_cases h3:z.natAbs<lim
 ·rw [if_pos h3,if_neg]
  have h4:nDigits z.natAbs≤300:=(cL z.natAbs 300 (by decide)).2 h3
  clear h3;omega
 ·rw [if_neg h3,if_pos]
  have h4:¬ nDigits z.natAbs≤300:=fun h=>h3 ((cL z.natAbs 300 (by decide)).1 h)
  clear h3;omega
theorem eJ {x y:Int} (h:itoa x=itoa y):x=y:=by rw [←cM x,←cM y,h]
end Go.Proofs.YtbhbhlfkdlfimaaGreatDoor
namespace Go.Proofs.YtbhbhlfkdlfimaaGreatDoor
open Go.RowKit
theorem cV {a b:Bool} (h:a=b):Ending.returned (.bool a) = .returned (.bool b):=by rw [h]
theorem ao {k:IntKind} {a b:Int} (h:a=b):Ending.returned (.int k a) = .returned (.int k b):=by rw [h]
theorem xq {a b:ByteArray} (h:a=b):Ending.returned (.string a) = .returned (.string b):=by rw [h]
theorem ag (s:ByteArray):s.data.toList.length=s.size:=rfl
theorem kf {s:ByteArray} (h:s.size=0):s.toList.isEmpty=true:=by
 rw [ByteArray.toList_eq,List.isEmpty_iff];exact List.eq_nil_of_length_eq_zero h
theorem fE {s:ByteArray} (h:0<s.size):s.toList.isEmpty=false:=by
 rw [ByteArray.toList_eq]
 cases hl:s.data.toList with
 | nil=>have:=ag s;rw [hl] at this;simp at this;omega
 | cons a t=>rfl
theorem fF {s:ByteArray} (h:s.size=0):s.data.toList = []:=List.eq_nil_of_length_eq_zero h
theorem jE {s:ByteArray} (h:0<s.size):∃ t,s.data.toList=s[0]::t:=by
 have h2:s.data.toList[0]'(by rw [ag];exact h)=s[0]:=rfl
 cases hl:s.data.toList with
 | nil=>have:=ag s;rw [hl] at this;simp at this;omega
 | cons a t=>simp only [hl] at h2;exact ⟨t,by rw [←h2];rfl⟩
theorem mM (c:UInt8) (k:Nat) (hk:k<256):(((c.toNat:Nat):Int)==(k:Int))=(c==UInt8.ofNat k):=by
 rw [Bool.eq_iff_iff,beq_iff_eq,beq_iff_eq]
 constructor
 ·intro h
  have h2:c.toNat=k:=by omega
  rw [←h2];exact UInt8.ofNat_toNat.symm
 ·intro h;subst h
  rw [UInt8.toNat_ofNat']
  have:k % 2 ^ 8=k:=Nat.mod_eq_of_lt (by omega)
  rw [this]
theorem dq {s:ByteArray} (h:0<s.size):(((s[0].toNat:Nat):Int)==45)=aw s.data.toList:=by
 obtain ⟨t,ht⟩:=jE h
 rw [ht]
 have:=mM s[0] 45 (by decide)
 exact this.trans (by unfold aw;rfl)
theorem bK (s:ByteArray) (w:World) :
  Calls Tryz.prog 52 #[.string s] w fun e w'=>e = .returned (.bool (aw s.data.toList))∧w=w':=by
 by_cases h:0<s.size
 ·have hE:=fE h
  go_enter Tryz.func52,Tryz.ntmps52
  go_wp2
  go_ret
  exact ⟨cV (dq h),rfl⟩
 ·have h0:s.size=0:=by omega
  have hE:=kf h0
  go_enter Tryz.func52,Tryz.ntmps52
  go_wp2
  go_ret
  exact ⟨cV (by rw [fF h0];rfl),rfl⟩
def szB (s:ByteArray):ByteArray:=if aw s.data.toList then s.extract 1 s.size else s
theorem bL (s:ByteArray):(szB s).data.toList=szL s.data.toList:=by
 unfold szB szL
 by_cases h:aw s.data.toList
 ·rw [if_pos h,if_pos h,Lib.extract_data]
  rw [←List.drop_one]
  rw [List.take_of_length_le]
  rw [List.length_drop];rw [ag];omega
 ·rw [if_neg h,if_neg h]
theorem iA {s:ByteArray} (h:aw s.data.toList=true):0<s.size:=by
 rw [←ag]
 cases hl:s.data.toList with
 | nil=>rw [hl] at h;cases h
 | cons a t=>simp
theorem eK (s:ByteArray):(szB s).size≤s.size:=by
 unfold szB;split
 ·rw [ByteArray.size_extract];omega
 ·exact Nat.le_refl _
theorem cF (s:ByteArray) (w:World) (hs:s.size≤maxLen) :
  Calls Tryz.prog 44 #[.string s] w fun e w'=>e = .returned (.string (szB s))∧w=w':=by
 unfold maxLen at hs
 by_cases h:aw s.data.toList=true
 ·have h0:=iA h
  go_enter Tryz.func44,Tryz.ntmps44
  go_wp2_with (go_at_call 52;refine (bK s _).mono ?_;rw [h];rintro e w' ⟨rfl,rfl⟩)
  go_ret
  exact ⟨xq (by unfold szB;rw [if_pos h]),rfl⟩
 ·have h':aw s.data.toList=false:=by simpa using h
  go_enter Tryz.func44,Tryz.ntmps44
  go_wp2_with (go_at_call 52;refine (bK s _).mono ?_;rw [h'];rintro e w' ⟨rfl,rfl⟩)
  go_ret
  exact ⟨xq (by unfold szB;rw [h'];rfl),rfl⟩
theorem bQ (s:ByteArray) (k:Nat) (h:k<s.size):s.data.toList.take (k+1)=s.data.toList.take k ++ [s[k]]:=by
 rw [List.take_succ_eq_append_getElem (by simpa using h)];rfl
theorem cR (s:ByteArray) (k:Nat) (h:k<s.size):s[k]∈s.data.toList:=by
 have:s.data.toList[k]'(by rw [ag];exact h)=s[k]:=rfl
 rw [←this];exact List.getElem_mem _
theorem j3 (l:List UInt8) (h:∀ c∈l,aA c=true) (k:Nat):ah (l.take k)<10 ^ k:=by
 have h1:=aX (l.take k) (fun c hc=>h c (List.mem_of_mem_take hc))
 exact Nat.lt_of_lt_of_le h1 (Nat.pow_le_pow_right (by decide) (List.length_take_le _ _))
theorem j4 (l:List UInt8) (h:∀ c∈l,aA c=true) (k:Nat) (hk:k≤18):ah (l.take k)<1000000000000000000 :=
 Nat.lt_of_lt_of_le (j3 l h k) (Nat.le_trans (Nat.pow_le_pow_right (by decide) hk) (by decide))
theorem gU (s:ByteArray) (w:World) (hs:s.size≤18) (hd:∀ c∈s.data.toList,aA c=true) :
  Calls Tryz.prog 48 #[.string s] w fun e w'=>e = .returned (.int .u64 (ah s.data.toList:Nat))∧w=w':=by
 have HD:=Ha hd;clear hd
 go_enter Tryz.func48,Tryz.ntmps48
 go_wp2
 go_loop [3,7] (fun n i=>∃ k:Nat,k≤s.size∧i = .int .i64 k∧n = .int .u64 (ah (s.data.toList.take k):Nat)) (fun _ i=>s.size - (intOf i).toNat)
 case atStart=>exact ⟨0,Nat.zero_le _,rfl,rfl⟩
 case round =>
  obtain ⟨k,hk,rfl,rfl⟩:=hrel
  by_cases hlt:k<s.size
  ·have hn:=j4 s.data.toList HD.out k (by omega)
   have hc:=(az s[k]).1 (HD.out _ (cR s k hlt))
   have HS:Hid (ah (s.data.toList.take (k+1))=ah (s.data.toList.take k)*10+(s[k].toNat - 48)):=by rw [bQ s k hlt];exact bR _ _
   go_wp2
   go_round
   case rel=>exact ⟨k+1,by omega,by go_num,by rw [HS.out];go_num⟩
   case measure=>simp [intOf];omega
  ·go_wp2
   go_ret
   exact ⟨ao (by rw [List.take_of_length_le (by rw [ag];omega)]),rfl⟩
theorem cS {l:List UInt8} (h:(szL l).all aA=false):chk l=11:=by unfold chk;rw [h];rfl
theorem fG {l:List UInt8} (h:(szL l).all aA=true) :
  chk l=if (szL l) = []∨((szL l).head? = some 48∧l ≠ [48]) then 11 else if 300<(szL l).length then 4 else 0:=by unfold chk;rw [h];rfl
theorem f9 (s:ByteArray) (w:World) (hs:s.size≤maxLen) :
  Calls Tryz.prog 84 #[.string s] w fun e w'=>e = .returned (.int .i64 (chk s.data.toList))∧w=w':=by
 have hm:s.size≤9223372036854775807:=by unfold maxLen at hs;omega
 have hz:=eK s
 have HD:=Ha (bL s)
 go_enter Tryz.func84,Tryz.ntmps84
 go_wp2_with (go_at_call 44;refine (cF s _ hs).mono ?_;rintro e w' ⟨rfl,rfl⟩)
 generalize szB s=t at *
 go_loop [9] (fun i=>∃ k:Nat,k≤t.size∧i = .int .i64 k∧Hid ((t.data.toList.take k).all aA=true)) (fun i=>t.size - (intOf i).toNat)
 case atStart=>exact ⟨0,Nat.zero_le _,rfl,rfl⟩
 case round =>
  obtain ⟨k,hk,rfl,hd⟩:=hrel
  by_cases hlt:k<t.size
  ·by_cases h1:(t[k].toNat:Int)<48
   ·go_wp2
    go_ret
    refine ⟨ao (cS ?_).symm,rfl⟩
    rw [←HD.out,List.all_eq_false]
    refine ⟨t[k],cR t k hlt,?_⟩
    rw [az];omega
   ·by_cases h2:(57:Int)<t[k].toNat
    ·go_wp2
     go_ret
     refine ⟨ao (cS ?_).symm,rfl⟩
     rw [←HD.out,List.all_eq_false]
     refine ⟨t[k],cR t k hlt,?_⟩
     rw [az];omega
    ·have hd':Hid ((t.data.toList.take (k+1)).all aA=true):=by
      show (t.data.toList.take (k+1)).all aA=true
      rw [bQ t k hlt,List.all_append,hd.out]
      have:aA t[k]=true:=by rw [az];omega
      simp [this]
     clear hd
     go_wp2
     go_round
     case rel=>exact ⟨k+1,by omega,by go_num,hd'⟩
     case measure=>simp [intOf];omega
  ·have ha:Hid ((szL s.data.toList).all aA=true):=by
    show (szL s.data.toList).all aA=true
    rw [←HD.out];have:=hd.out;rwa [List.take_of_length_le (by rw [ag];omega)] at this
   clear hd
   by_cases h0:t.size=0
   ·have hE:=kf h0
    go_wp2
    go_ret
    refine ⟨ao ?_,rfl⟩
    rw [fG ha.out,if_pos]
    left;rw [←HD.out];exact fF h0
   ·have h0':0<t.size:=by omega
    have hE:=fE h0'
    obtain ⟨r,hr⟩:=jE h0'
    have HR:=Ha hr;clear hr
    by_cases hc:((t[0].toNat:Int)==48)=true
    ·have h48:(szL s.data.toList).head? = some 48:=by
      rw [←HD.out,HR.out,List.head?_cons]
      have:=mM t[0] 48 (by decide)
      rw [show ((48:Nat):Int)=48 from rfl,hc] at this
      exact congrArg some (by simpa using this.symm)
     have H48:=Ha h48;clear h48
     go_wp2
     ·have hx:(!s.toList == [48])=true:=by assumption
      go_ret
      refine ⟨ao ?_,rfl⟩
      rw [fG ha.out,if_pos]
      rw [ByteArray.toList_eq] at hx
      exact Or.inr ⟨H48.out,by simpa using hx⟩
     ·have hx:(!s.toList == [48])=false:=by assumption
      have hy:(300:Int)<t.size:=by assumption
      go_ret
      refine ⟨ao ?_,rfl⟩
      rw [ByteArray.toList_eq] at hx
      rw [fG ha.out,if_neg,if_pos]
      ·rw [←HD.out,ag];omega
      ·rintro (h | h)
       ·rw [←HD.out,HR.out] at h;cases h
       ·exact h.2 (by simpa using hx)
     ·have hx:(!s.toList == [48])=false:=by assumption
      have hy:(t.size:Int)≤300:=by assumption
      go_ret
      refine ⟨ao ?_,rfl⟩
      rw [ByteArray.toList_eq] at hx
      rw [fG ha.out,if_neg,if_neg]
      ·rw [←HD.out,ag];omega
      ·rintro (h | h)
       ·rw [←HD.out,HR.out] at h;cases h
       ·exact h.2 (by simpa using hx)
    ·have hc':((t[0].toNat:Int)==48)=false:=by simpa using hc
     have h48:(szL s.data.toList).head? ≠ some 48:=by
      rw [←HD.out,HR.out,List.head?_cons]
      intro e
      have e:=Option.some.inj e
      rw [e] at hc'
      exact absurd hc' (by decide)
     have H48:=Ha h48;clear h48
     go_wp2
     ·have hy:(300:Int)<t.size:=by assumption
      go_ret
      refine ⟨ao ?_,rfl⟩
      rw [fG ha.out,if_neg,if_pos]
      ·rw [←HD.out,ag];omega
      ·rintro (h | h)
       ·rw [←HD.out,HR.out] at h;cases h
       ·exact H48.out h.1
     ·have hy:(t.size:Int)≤300:=by assumption
      go_ret
      refine ⟨ao ?_,rfl⟩
      rw [fG ha.out,if_neg,if_neg]
      ·rw [←HD.out,ag];omega
      ·rintro (h | h)
       ·rw [←HD.out,HR.out] at h;cases h
       ·exact H48.out h.1
end Go.Proofs.YtbhbhlfkdlfimaaGreatDoor
namespace Go.Proofs
open Go.Shelf
def Tryz.lays106_ren:Go.Shelf.Ren:=⟨fun | 106=>99 | 213=>141 | 265=>203 | n=>n,fun | 9=>9 | 3=>3 | n=>n,fun | n=>n⟩
theorem Tryz.lays106:Go.Proofs.Lays.n106 Tryz.prog Tryz.lays106_ren:={
 mixed:=by kernel_rfl
 f106:=Tryz.func99.trans (congrArg some (by kernel_rfl))
 f213:=Tryz.func141.trans (congrArg some (by kernel_rfl))
 f265:=Tryz.func203.trans (congrArg some (by kernel_rfl))
 t3:=Tryz.underlying3
 a3:=Tryz.isAgg3
 z3:=Tryz.sizeOf3
 v3:=Tryz.zeroValue3
 t9:=Tryz.underlying9
 a9:=Tryz.isAgg9
 z9:=Tryz.sizeOf9
 v9:=Tryz.zeroValue9 }
open Go.RowKit in
theorem Tryz.strings_Compare (a b:ByteArray) (w:World) :
  Calls Tryz.prog 99 #[.string a,.string b] w fun e w'=>e = .returned (.int .i64 (Lib.compareBytes a.data.toList b.data.toList))∧w'=w:=Any.strings_Compare Tryz.lays106 a b w
def Tryz.lays122_ren:Go.Shelf.Ren:=⟨fun | 122=>98 | 215=>140 | n=>n,fun | 3=>3 | 4=>4 | n=>n,fun | n=>n⟩
theorem Tryz.lays122:Go.Proofs.Lays.n122 Tryz.prog Tryz.lays122_ren:={
 mixed:=by kernel_rfl
 f122:=Tryz.func98.trans (congrArg some (by kernel_rfl))
 f215:=Tryz.func140.trans (congrArg some (by kernel_rfl))
 t3:=Tryz.underlying3
 a3:=Tryz.isAgg3
 z3:=Tryz.sizeOf3
 v3:=Tryz.zeroValue3
 t4:=Tryz.underlying4
 a4:=Tryz.isAgg4
 z4:=Tryz.sizeOf4
 v4:=Tryz.zeroValue4 }
open Go.RowKit in
theorem Tryz.cmp_Compare_int (x y:Int) (w:World) :
  Calls Tryz.prog 98 #[.int .i64 x,.int .i64 y] w fun e w'=>e = .returned (.int .i64 (Lib.compareInt x y))∧w'=w:=Any.cmp_Compare_int Tryz.lays122 x y w
def Tryz.lays129_ren:Go.Shelf.Ren:=⟨fun | 129=>156 | n=>n,fun | 53=>82 | 3=>3 | 4=>4 | 46=>156 | 5=>5 | 9=>9 | n=>n,fun | n=>n⟩
theorem Tryz.lays129:Go.Proofs.Lays.n129 Tryz.prog Tryz.lays129_ren:={
 mixed:=by kernel_rfl
 f129:=Tryz.func156.trans (congrArg some (by kernel_rfl))
 t3:=Tryz.underlying3
 a3:=Tryz.isAgg3
 z3:=Tryz.sizeOf3
 v3:=Tryz.zeroValue3
 t4:=Tryz.underlying4
 a4:=Tryz.isAgg4
 z4:=Tryz.sizeOf4
 v4:=Tryz.zeroValue4
 t5:=Tryz.underlying5
 a5:=Tryz.isAgg5
 z5:=Tryz.sizeOf5
 v5:=Tryz.zeroValue5
 t9:=Tryz.underlying9
 a9:=Tryz.isAgg9
 z9:=Tryz.sizeOf9
 v9:=Tryz.zeroValue9
 t46:=Tryz.underlying156
 a46:=Tryz.isAgg156
 z46:=Tryz.sizeOf156
 v46:=Tryz.zeroValue156
 t53:=Tryz.underlying82
 a53:=Tryz.isAgg82
 z53:=Tryz.sizeOf82
 v53:=Tryz.zeroValue82 }
theorem Tryz.bits_Len64 (x:Int) (w:World) (h0:0≤x) (h1:x≤18446744073709551615) :
  Calls Tryz.prog 156 #[.int .u64 x] w fun e w'=>e = .returned (.int .i64 (Lib.bitLen x.toNat))∧w'=w:=Any.bits_Len64 Tryz.lays129 x w h0 h1
def Tryz.lays283_ren:Go.Shelf.Ren:=⟨fun | 283=>195 | n=>n,fun | 3=>3 | 9=>9 | 4=>4 | n=>n,fun | n=>n⟩
theorem Tryz.lays283:Go.Proofs.Lays.n283 Tryz.prog Tryz.lays283_ren:={
 mixed:=by kernel_rfl
 f283:=Tryz.func195.trans (congrArg some (by kernel_rfl))
 t3:=Tryz.underlying3
 a3:=Tryz.isAgg3
 z3:=Tryz.sizeOf3
 v3:=Tryz.zeroValue3
 t4:=Tryz.underlying4
 a4:=Tryz.isAgg4
 z4:=Tryz.sizeOf4
 v4:=Tryz.zeroValue4
 t9:=Tryz.underlying9
 a9:=Tryz.isAgg9
 z9:=Tryz.sizeOf9
 v9:=Tryz.zeroValue9 }
open Go.Lib in
theorem Tryz.internal_strconv_small (i:Nat) (h:i<100) (w:World) :
  Calls Tryz.prog 195 #[.int .i64 i] w fun e w'=>e = .returned (.string ⟨(Lib.decDigits i).toArray⟩)∧w'=w:=Any.internal_strconv_small Tryz.lays283 i h w
def Tryz.laysM284_ren:Go.Shelf.Ren:=⟨fun | 284=>196 | 129=>156 | 317=>234 | 318=>235 | n=>n,fun | 53=>82 | 3=>3 | 212=>283 | 0=>0 | 4=>4 | 46=>156 | 5=>5 | 9=>9 | n=>n,fun | 17=>2 | n=>n⟩
theorem Tryz.laysM284:Go.Proofs.LaysM.n284 Tryz.prog Tryz.laysM284_ren:={
 mixed:=by kernel_rfl
 f129:=Tryz.func156.trans (congrArg some (by kernel_rfl))
 f284:=Tryz.func196.trans (congrArg some (by kernel_rfl))
 f317:=Tryz.func234.trans (congrArg some (by kernel_rfl))
 f318:=Tryz.func235.trans (congrArg some (by kernel_rfl))
 t0:=Tryz.underlying0
 a0:=Tryz.isAgg0
 z0:=Tryz.sizeOf0
 v0:=Tryz.zeroValue0
 t3:=Tryz.underlying3
 a3:=Tryz.isAgg3
 z3:=Tryz.sizeOf3
 v3:=Tryz.zeroValue3
 t4:=Tryz.underlying4
 a4:=Tryz.isAgg4
 z4:=Tryz.sizeOf4
 v4:=Tryz.zeroValue4
 t5:=Tryz.underlying5
 a5:=Tryz.isAgg5
 z5:=Tryz.sizeOf5
 v5:=Tryz.zeroValue5
 t9:=Tryz.underlying9
 a9:=Tryz.isAgg9
 z9:=Tryz.sizeOf9
 v9:=Tryz.zeroValue9
 t46:=Tryz.underlying156
 a46:=Tryz.isAgg156
 z46:=Tryz.sizeOf156
 v46:=Tryz.zeroValue156
 t53:=Tryz.underlying82
 a53:=Tryz.isAgg82
 z53:=Tryz.sizeOf82
 v53:=Tryz.zeroValue82
 t212:=Tryz.underlying283
 a212:=Tryz.isAgg283
 z212:=Tryz.sizeOf283
 v212:=Tryz.zeroValue283
 g17:=by kernel_rfl
 i0:=by kernel_rfl
 i3:=by kernel_rfl
 i4:=by kernel_rfl
 i5:=by kernel_rfl
 i9:=by kernel_rfl
 i46:=by kernel_rfl
 i53:=by kernel_rfl
 i212:=by kernel_rfl
 m17:=by kernel_rfl }
open Go.Lib in
theorem Tryz.internal_strconv_numDigits (u:Nat) (h1:1≤u) (h2:u<18446744073709551616) (w:World) (htab:Lib.TabIs Tryz.prog w "internal/strconv.uint64pow10" .u64 Lib.pow10Tab) :
  Calls Tryz.prog 196 #[.int .u64 u] w fun e w'=>e = .returned (.int .i64 (Lib.nDigits u))∧w'=w:=Any.internal_strconv_numDigits Tryz.laysM284 u h1 h2 w htab
def Tryz.lays285_ren:Go.Shelf.Ren:=⟨fun | 285=>197 | n=>n,fun | 37=>150 | 53=>82 | 3=>3 | 4=>4 | 51=>206 | 9=>9 | 5=>5 | 0=>0 | n=>n,fun | n=>n⟩
theorem Tryz.lays285:Go.Proofs.Lays.n285 Tryz.prog Tryz.lays285_ren:={
 mixed:=by kernel_rfl
 f285:=Tryz.func197.trans (congrArg some (by kernel_rfl))
 t0:=Tryz.underlying0
 a0:=Tryz.isAgg0
 z0:=Tryz.sizeOf0
 v0:=Tryz.zeroValue0
 t3:=Tryz.underlying3
 a3:=Tryz.isAgg3
 z3:=Tryz.sizeOf3
 v3:=Tryz.zeroValue3
 t4:=Tryz.underlying4
 a4:=Tryz.isAgg4
 z4:=Tryz.sizeOf4
 v4:=Tryz.zeroValue4
 t5:=Tryz.underlying5
 a5:=Tryz.isAgg5
 z5:=Tryz.sizeOf5
 v5:=Tryz.zeroValue5
 t9:=Tryz.underlying9
 a9:=Tryz.isAgg9
 z9:=Tryz.sizeOf9
 v9:=Tryz.zeroValue9
 t37:=Tryz.underlying150
 a37:=Tryz.isAgg150
 z37:=Tryz.sizeOf150
 v37:=Tryz.zeroValue150
 t51:=Tryz.underlying206
 a51:=Tryz.isAgg206
 z51:=Tryz.sizeOf206
 v51:=Tryz.zeroValue206
 t53:=Tryz.underlying82
 a53:=Tryz.isAgg82
 z53:=Tryz.sizeOf82
 v53:=Tryz.zeroValue82 }
open Go.RowKit Go.Sort Go.Lib in
theorem Tryz.internal_strconv_formatBase10 (blk off cap:Nat) (u:Nat) (d:Array UInt8) (w:World) (hH:Holds (fun (b:UInt8)=>Value.int .u8 (b.toNat:Int)) w blk off d) (hu:u<10 ^ d.size) (hu64:u<18446744073709551616) (hsz:d.size<4611686018427387904) :
  Calls Tryz.prog 197 #[.slice (some ⟨blk,off,none⟩) d.size cap,.int .u64 u] w fun e w' =>
   e = .returned (.tuple #[])∧∃ (n v':Nat) (dk:Array UInt8),w'=(putRow (fun (b:UInt8)=>Value.int .u8 (b.toNat:Int)) w blk off dk).drewN n∧FmtInv d.size u 0 v' dk:=Any.internal_strconv_formatBase10 Tryz.lays285 blk off cap u d w hH hu hu64 hsz
def Tryz.laysM171_ren:Go.Shelf.Ren:=⟨fun | 171=>109 | 243=>159 | 246=>131 | 283=>195 | 284=>196 | 285=>197 | 286=>198 | 129=>156 | 317=>234 | 318=>235 | 319=>236 | 320=>237 | 337=>272 | 338=>193 | n=>n,fun | 3=>3 | 9=>9 | 2=>2 | 4=>4 | 171=>248 | 0=>0 | 53=>82 | 37=>150 | 5=>5 | 173=>250 | 212=>283 | 51=>206 | 20=>20 | 213=>284 | 46=>156 | 232=>327 | 233=>279 | n=>n,fun | 17=>2 | 18=>3 | 19=>1 | n=>n⟩
theorem Tryz.laysM171:Go.Proofs.LaysM.n171 Tryz.prog Tryz.laysM171_ren:={
 mixed:=by kernel_rfl
 f129:=Tryz.func156.trans (congrArg some (by kernel_rfl))
 f171:=Tryz.func109.trans (congrArg some (by kernel_rfl))
 f243:=Tryz.func159.trans (congrArg some (by kernel_rfl))
 f246:=Tryz.func131.trans (congrArg some (by kernel_rfl))
 f283:=Tryz.func195.trans (congrArg some (by kernel_rfl))
 f284:=Tryz.func196.trans (congrArg some (by kernel_rfl))
 f285:=Tryz.func197.trans (congrArg some (by kernel_rfl))
 f286:=Tryz.func198.trans (congrArg some (by kernel_rfl))
 f317:=Tryz.func234.trans (congrArg some (by kernel_rfl))
 f318:=Tryz.func235.trans (congrArg some (by kernel_rfl))
 f319:=Tryz.func236.trans (congrArg some (by kernel_rfl))
 f320:=Tryz.func237.trans (congrArg some (by kernel_rfl))
 f337:=Tryz.func272.trans (congrArg some (by kernel_rfl))
 f338:=Tryz.func193.trans (congrArg some (by kernel_rfl))
 t0:=Tryz.underlying0
 a0:=Tryz.isAgg0
 z0:=Tryz.sizeOf0
 v0:=Tryz.zeroValue0
 t2:=Tryz.underlying2
 a2:=Tryz.isAgg2
 z2:=Tryz.sizeOf2
 v2:=Tryz.zeroValue2
 t3:=Tryz.underlying3
 a3:=Tryz.isAgg3
 z3:=Tryz.sizeOf3
 v3:=Tryz.zeroValue3
 t4:=Tryz.underlying4
 a4:=Tryz.isAgg4
 z4:=Tryz.sizeOf4
 v4:=Tryz.zeroValue4
 t5:=Tryz.underlying5
 a5:=Tryz.isAgg5
 z5:=Tryz.sizeOf5
 v5:=Tryz.zeroValue5
 t9:=Tryz.underlying9
 a9:=Tryz.isAgg9
 z9:=Tryz.sizeOf9
 v9:=Tryz.zeroValue9
 t20:=Tryz.underlying20
 a20:=Tryz.isAgg20
 z20:=Tryz.sizeOf20
 v20:=Tryz.zeroValue20
 t37:=Tryz.underlying150
 a37:=Tryz.isAgg150
 z37:=Tryz.sizeOf150
 v37:=Tryz.zeroValue150
 t46:=Tryz.underlying156
 a46:=Tryz.isAgg156
 z46:=Tryz.sizeOf156
 v46:=Tryz.zeroValue156
 t51:=Tryz.underlying206
 a51:=Tryz.isAgg206
 z51:=Tryz.sizeOf206
 v51:=Tryz.zeroValue206
 t53:=Tryz.underlying82
 a53:=Tryz.isAgg82
 z53:=Tryz.sizeOf82
 v53:=Tryz.zeroValue82
 t171:=Tryz.underlying248
 a171:=Tryz.isAgg248
 z171:=Tryz.sizeOf248
 v171:=Tryz.zeroValue248
 t173:=Tryz.underlying250
 a173:=Tryz.isAgg250
 z173:=Tryz.sizeOf250
 v173:=Tryz.zeroValue250
 t212:=Tryz.underlying283
 a212:=Tryz.isAgg283
 z212:=Tryz.sizeOf283
 v212:=Tryz.zeroValue283
 t213:=Tryz.underlying284
 a213:=Tryz.isAgg284
 z213:=Tryz.sizeOf284
 t232:=Tryz.underlying327
 a232:=Tryz.isAgg327
 z232:=Tryz.sizeOf327
 v232:=Tryz.zeroValue327
 t233:=Tryz.underlying279
 a233:=Tryz.isAgg279
 z233:=Tryz.sizeOf279
 v233:=Tryz.zeroValue279
 g17:=by kernel_rfl
 g18:=by kernel_rfl
 g19:=by kernel_rfl
 i0:=by kernel_rfl
 i2:=by kernel_rfl
 i3:=by kernel_rfl
 i4:=by kernel_rfl
 i5:=by kernel_rfl
 i9:=by kernel_rfl
 i20:=by kernel_rfl
 i37:=by kernel_rfl
 i46:=by kernel_rfl
 i51:=by kernel_rfl
 i53:=by kernel_rfl
 i171:=by kernel_rfl
 i173:=by kernel_rfl
 i212:=by kernel_rfl
 i232:=by kernel_rfl
 i233:=by kernel_rfl
 m17:=by kernel_rfl
 m18:=by kernel_rfl
 m19:=by kernel_rfl }
open Go.RowKit Go.Sort Go.Lib in
theorem Tryz.strconv_Itoa (n:Int) (h0 : -9223372036854775808≤n) (h1:n≤9223372036854775807) (w:World) (htab:Lib.TabIs Tryz.prog w "internal/strconv.uint64pow10" .u64 Lib.pow10Tab) :
  Calls Tryz.prog 109 #[.int .i64 n] w fun e w'=>e = .returned (.string ⟨(Lib.itoa n).toArray⟩)∧∃ k os,w'=grow (w.drewN k) os:=Any.strconv_Itoa Tryz.laysM171 n h0 h1 w htab
def Tryz.laysM173_ren:Go.Shelf.Ren:=⟨fun | 173=>85 | 246=>131 | 283=>195 | 284=>196 | 285=>197 | 286=>198 | 129=>156 | 317=>234 | 318=>235 | 319=>236 | 320=>237 | 337=>272 | 338=>193 | n=>n,fun | 2=>2 | 3=>3 | 9=>9 | 4=>4 | 171=>248 | 0=>0 | 53=>82 | 37=>150 | 5=>5 | 173=>250 | 212=>283 | 51=>206 | 20=>20 | 213=>284 | 46=>156 | 232=>327 | 233=>279 | n=>n,fun | 17=>2 | 18=>3 | 19=>1 | n=>n⟩
theorem Tryz.laysM173:Go.Proofs.LaysM.n173 Tryz.prog Tryz.laysM173_ren:={
 mixed:=by kernel_rfl
 f129:=Tryz.func156.trans (congrArg some (by kernel_rfl))
 f173:=Tryz.func85.trans (congrArg some (by kernel_rfl))
 f246:=Tryz.func131.trans (congrArg some (by kernel_rfl))
 f283:=Tryz.func195.trans (congrArg some (by kernel_rfl))
 f284:=Tryz.func196.trans (congrArg some (by kernel_rfl))
 f285:=Tryz.func197.trans (congrArg some (by kernel_rfl))
 f286:=Tryz.func198.trans (congrArg some (by kernel_rfl))
 f317:=Tryz.func234.trans (congrArg some (by kernel_rfl))
 f318:=Tryz.func235.trans (congrArg some (by kernel_rfl))
 f319:=Tryz.func236.trans (congrArg some (by kernel_rfl))
 f320:=Tryz.func237.trans (congrArg some (by kernel_rfl))
 f337:=Tryz.func272.trans (congrArg some (by kernel_rfl))
 f338:=Tryz.func193.trans (congrArg some (by kernel_rfl))
 t0:=Tryz.underlying0
 a0:=Tryz.isAgg0
 z0:=Tryz.sizeOf0
 v0:=Tryz.zeroValue0
 t2:=Tryz.underlying2
 a2:=Tryz.isAgg2
 z2:=Tryz.sizeOf2
 v2:=Tryz.zeroValue2
 t3:=Tryz.underlying3
 a3:=Tryz.isAgg3
 z3:=Tryz.sizeOf3
 v3:=Tryz.zeroValue3
 t4:=Tryz.underlying4
 a4:=Tryz.isAgg4
 z4:=Tryz.sizeOf4
 v4:=Tryz.zeroValue4
 t5:=Tryz.underlying5
 a5:=Tryz.isAgg5
 z5:=Tryz.sizeOf5
 v5:=Tryz.zeroValue5
 t9:=Tryz.underlying9
 a9:=Tryz.isAgg9
 z9:=Tryz.sizeOf9
 v9:=Tryz.zeroValue9
 t20:=Tryz.underlying20
 a20:=Tryz.isAgg20
 z20:=Tryz.sizeOf20
 v20:=Tryz.zeroValue20
 t37:=Tryz.underlying150
 a37:=Tryz.isAgg150
 z37:=Tryz.sizeOf150
 v37:=Tryz.zeroValue150
 t46:=Tryz.underlying156
 a46:=Tryz.isAgg156
 z46:=Tryz.sizeOf156
 v46:=Tryz.zeroValue156
 t51:=Tryz.underlying206
 a51:=Tryz.isAgg206
 z51:=Tryz.sizeOf206
 v51:=Tryz.zeroValue206
 t53:=Tryz.underlying82
 a53:=Tryz.isAgg82
 z53:=Tryz.sizeOf82
 v53:=Tryz.zeroValue82
 t171:=Tryz.underlying248
 a171:=Tryz.isAgg248
 z171:=Tryz.sizeOf248
 v171:=Tryz.zeroValue248
 t173:=Tryz.underlying250
 a173:=Tryz.isAgg250
 z173:=Tryz.sizeOf250
 v173:=Tryz.zeroValue250
 t212:=Tryz.underlying283
 a212:=Tryz.isAgg283
 z212:=Tryz.sizeOf283
 v212:=Tryz.zeroValue283
 t213:=Tryz.underlying284
 a213:=Tryz.isAgg284
 z213:=Tryz.sizeOf284
 t232:=Tryz.underlying327
 a232:=Tryz.isAgg327
 z232:=Tryz.sizeOf327
 v232:=Tryz.zeroValue327
 t233:=Tryz.underlying279
 a233:=Tryz.isAgg279
 z233:=Tryz.sizeOf279
 v233:=Tryz.zeroValue279
 g17:=by kernel_rfl
 g18:=by kernel_rfl
 g19:=by kernel_rfl
 i0:=by kernel_rfl
 i2:=by kernel_rfl
 i3:=by kernel_rfl
 i4:=by kernel_rfl
 i5:=by kernel_rfl
 i9:=by kernel_rfl
 i20:=by kernel_rfl
 i37:=by kernel_rfl
 i46:=by kernel_rfl
 i51:=by kernel_rfl
 i53:=by kernel_rfl
 i171:=by kernel_rfl
 i173:=by kernel_rfl
 i212:=by kernel_rfl
 i232:=by kernel_rfl
 i233:=by kernel_rfl
 m17:=by kernel_rfl
 m18:=by kernel_rfl
 m19:=by kernel_rfl }
open Go.RowKit Go.Sort Go.Lib in
theorem Tryz.strconv_FormatInt_10 (n:Int) (h0 : -9223372036854775808≤n) (h1:n≤9223372036854775807) (w:World) (htab:Lib.TabIs Tryz.prog w "internal/strconv.uint64pow10" .u64 Lib.pow10Tab) :
  Calls Tryz.prog 85 #[.int .i64 n,.int .i64 10] w fun e w'=>e = .returned (.string ⟨(Lib.itoa n).toArray⟩)∧∃ k os,w'=grow (w.drewN k) os:=Any.strconv_FormatInt_10 Tryz.laysM173 n h0 h1 w htab
def Tryz.laysPu14_ren:Go.Shelf.Ren:=⟨fun | 14=>292 | 16=>301 | 17=>302 | 19=>308 | 20=>309 | 21=>310 | 22=>311 | 23=>312 | 24=>313 | 25=>316 | 27=>109 | 26=>317 | 28=>159 | 29=>131 | 30=>195 | 31=>196 | 32=>197 | 33=>198 | 35=>156 | 34=>234 | 36=>235 | 37=>236 | 38=>237 | 39=>272 | 40=>193 | n=>n,fun | 9=>9 | 3=>3 | 22=>82 | 24=>241 | 25=>328 | 4=>4 | 34=>343 | 5=>5 | 36=>156 | 37=>150 | 0=>0 | 39=>345 | 21=>21 | 44=>349 | 47=>278 | 50=>353 | 48=>351 | 2=>2 | 52=>248 | 55=>250 | 59=>283 | 60=>206 | 20=>20 | 61=>284 | 65=>327 | 66=>279 | 67=>244 | n=>n,fun | 0=>5 | 1=>6 | 2=>2 | 3=>3 | 4=>1 | n=>n⟩
theorem Tryz.laysPu14:Go.Proofs.LaysPu.n14 Tryz.prog Tryz.laysPu14_ren:={
 mixed:=by kernel_rfl
 f14:=Tryz.func292.trans (congrArg some (by kernel_rfl))
 f16:=Tryz.func301.trans (congrArg some (by kernel_rfl))
 f17:=Tryz.func302.trans (congrArg some (by kernel_rfl))
 f19:=Tryz.func308.trans (congrArg some (by kernel_rfl))
 f20:=Tryz.func309.trans (congrArg some (by kernel_rfl))
 f21:=Tryz.func310.trans (congrArg some (by kernel_rfl))
 f22:=Tryz.func311.trans (congrArg some (by kernel_rfl))
 f23:=Tryz.func312.trans (congrArg some (by kernel_rfl))
 f24:=Tryz.func313.trans (congrArg some (by kernel_rfl))
 f25:=Tryz.func316.trans (congrArg some (by kernel_rfl))
 f26:=Tryz.func317.trans (congrArg some (by kernel_rfl))
 f27:=Tryz.func109.trans (congrArg some (by kernel_rfl))
 f28:=Tryz.func159.trans (congrArg some (by kernel_rfl))
 f29:=Tryz.func131.trans (congrArg some (by kernel_rfl))
 f30:=Tryz.func195.trans (congrArg some (by kernel_rfl))
 f31:=Tryz.func196.trans (congrArg some (by kernel_rfl))
 f32:=Tryz.func197.trans (congrArg some (by kernel_rfl))
 f33:=Tryz.func198.trans (congrArg some (by kernel_rfl))
 f34:=Tryz.func234.trans (congrArg some (by kernel_rfl))
 f35:=Tryz.func156.trans (congrArg some (by kernel_rfl))
 f36:=Tryz.func235.trans (congrArg some (by kernel_rfl))
 f37:=Tryz.func236.trans (congrArg some (by kernel_rfl))
 f38:=Tryz.func237.trans (congrArg some (by kernel_rfl))
 f39:=Tryz.func272.trans (congrArg some (by kernel_rfl))
 f40:=Tryz.func193.trans (congrArg some (by kernel_rfl))
 t0:=Tryz.underlying0
 a0:=Tryz.isAgg0
 z0:=Tryz.sizeOf0
 v0:=Tryz.zeroValue0
 i0:=by kernel_rfl
 t2:=Tryz.underlying2
 a2:=Tryz.isAgg2
 z2:=Tryz.sizeOf2
 v2:=Tryz.zeroValue2
 i2:=by kernel_rfl
 t3:=Tryz.underlying3
 a3:=Tryz.isAgg3
 z3:=Tryz.sizeOf3
 v3:=Tryz.zeroValue3
 i3:=by kernel_rfl
 t4:=Tryz.underlying4
 a4:=Tryz.isAgg4
 z4:=Tryz.sizeOf4
 v4:=Tryz.zeroValue4
 i4:=by kernel_rfl
 t5:=Tryz.underlying5
 a5:=Tryz.isAgg5
 z5:=Tryz.sizeOf5
 v5:=Tryz.zeroValue5
 i5:=by kernel_rfl
 t9:=Tryz.underlying9
 a9:=Tryz.isAgg9
 z9:=Tryz.sizeOf9
 v9:=Tryz.zeroValue9
 i9:=by kernel_rfl
 t20:=Tryz.underlying20
 a20:=Tryz.isAgg20
 z20:=Tryz.sizeOf20
 v20:=Tryz.zeroValue20
 i20:=by kernel_rfl
 t21:=Tryz.underlying21
 a21:=Tryz.isAgg21
 z21:=Tryz.sizeOf21
 v21:=Tryz.zeroValue21
 i21:=by kernel_rfl
 t22:=Tryz.underlying82
 a22:=Tryz.isAgg82
 z22:=Tryz.sizeOf82
 v22:=Tryz.zeroValue82
 i22:=by kernel_rfl
 t24:=Tryz.underlying241
 a24:=Tryz.isAgg241
 z24:=Tryz.sizeOf241
 v24:=Tryz.zeroValue241
 i24:=by kernel_rfl
 t25:=Tryz.underlying328
 a25:=Tryz.isAgg328
 z25:=Tryz.sizeOf328
 v25:=Tryz.zeroValue328
 i25:=by kernel_rfl
 t34:=Tryz.underlying343
 a34:=Tryz.isAgg343
 z34:=Tryz.sizeOf343
 v34:=Tryz.zeroValue343
 i34:=by kernel_rfl
 c34:=by kernel_rfl
 t36:=Tryz.underlying156
 a36:=Tryz.isAgg156
 z36:=Tryz.sizeOf156
 v36:=Tryz.zeroValue156
 i36:=by kernel_rfl
 t37:=Tryz.underlying150
 a37:=Tryz.isAgg150
 z37:=Tryz.sizeOf150
 v37:=Tryz.zeroValue150
 i37:=by kernel_rfl
 t39:=Tryz.underlying345
 a39:=Tryz.isAgg345
 z39:=Tryz.sizeOf345
 v39:=Tryz.zeroValue345
 i39:=by kernel_rfl
 t44:=Tryz.underlying349
 a44:=Tryz.isAgg349
 z44:=Tryz.sizeOf349
 v44:=Tryz.zeroValue349
 i44:=by kernel_rfl
 t47:=Tryz.underlying278
 a47:=Tryz.isAgg278
 z47:=Tryz.sizeOf278
 v47:=Tryz.zeroValue278
 i47:=by kernel_rfl
 t48:=Tryz.underlying351
 a48:=Tryz.isAgg351
 z48:=Tryz.sizeOf351
 v48:=Tryz.zeroValue351
 i48:=by kernel_rfl
 t50:=Tryz.underlying353
 a50:=Tryz.isAgg353
 z50:=Tryz.sizeOf353
 v50:=Tryz.zeroValue353
 i50:=by kernel_rfl
 t52:=Tryz.underlying248
 a52:=Tryz.isAgg248
 z52:=Tryz.sizeOf248
 v52:=Tryz.zeroValue248
 i52:=by kernel_rfl
 t55:=Tryz.underlying250
 a55:=Tryz.isAgg250
 z55:=Tryz.sizeOf250
 v55:=Tryz.zeroValue250
 i55:=by kernel_rfl
 t59:=Tryz.underlying283
 a59:=Tryz.isAgg283
 z59:=Tryz.sizeOf283
 v59:=Tryz.zeroValue283
 i59:=by kernel_rfl
 t60:=Tryz.underlying206
 a60:=Tryz.isAgg206
 z60:=Tryz.sizeOf206
 v60:=Tryz.zeroValue206
 i60:=by kernel_rfl
 t61:=Tryz.underlying284
 a61:=Tryz.isAgg284
 z61:=Tryz.sizeOf284
 t65:=Tryz.underlying327
 a65:=Tryz.isAgg327
 z65:=Tryz.sizeOf327
 v65:=Tryz.zeroValue327
 i65:=by kernel_rfl
 t66:=Tryz.underlying279
 a66:=Tryz.isAgg279
 z66:=Tryz.sizeOf279
 v66:=Tryz.zeroValue279
 i66:=by kernel_rfl
 t67:=Tryz.underlying244
 a67:=Tryz.isAgg244
 z67:=Tryz.sizeOf244
 v67:=Tryz.zeroValue244
 i67:=by kernel_rfl
 g0:=by kernel_rfl
 m0:=by kernel_rfl
 g1:=by kernel_rfl
 m1:=by kernel_rfl
 g2:=by kernel_rfl
 m2:=by kernel_rfl
 g3:=by kernel_rfl
 m3:=by kernel_rfl
 g4:=by kernel_rfl
 m4:=by kernel_rfl }
open Go.RowKit in
theorem Tryz.strconv_ParseUint_10_at64_ok (s:ByteArray) (hmax:s.size≤9223372036854775806) (u:Nat) (h:Lib.parseUintB 64 s.data.toList = .ok u) (w:World) :
  Calls Tryz.prog 292 #[.string s,.int .i64 10,.int .i64 64] w fun e w'=>e = .returned (.tuple #[.int .u64 u,.nilIface])∧(w'=w∨w'=Lib.bytesWorld w 5 s):=Any.strconv_ParseUint_10_at64_ok Tryz.laysPu14 s hmax u h w
def Tryz.lays219_ren:Go.Shelf.Ren:=⟨fun | 219=>194 | 217=>230 | 225=>231 | 224=>232 | 267=>233 | 266=>270 | 314=>271 | n=>n,fun | 9=>9 | 3=>3 | 4=>4 | 5=>5 | 46=>156 | 146=>274 | 51=>206 | n=>n,fun | 1=>0 | n=>n⟩
theorem Tryz.lays219:Go.Proofs.Lays.n219 Tryz.prog Tryz.lays219_ren:={
 mixed:=by kernel_rfl
 f217:=Tryz.func230.trans (congrArg some (by kernel_rfl))
 f219:=Tryz.func194.trans (congrArg some (by kernel_rfl))
 f224:=Tryz.func232.trans (congrArg some (by kernel_rfl))
 f225:=Tryz.func231.trans (congrArg some (by kernel_rfl))
 f266:=Tryz.func270.trans (congrArg some (by kernel_rfl))
 f267:=Tryz.func233.trans (congrArg some (by kernel_rfl))
 f314:=Tryz.func271.trans (congrArg some (by kernel_rfl))
 t3:=Tryz.underlying3
 a3:=Tryz.isAgg3
 z3:=Tryz.sizeOf3
 v3:=Tryz.zeroValue3
 t4:=Tryz.underlying4
 a4:=Tryz.isAgg4
 z4:=Tryz.sizeOf4
 v4:=Tryz.zeroValue4
 t5:=Tryz.underlying5
 a5:=Tryz.isAgg5
 z5:=Tryz.sizeOf5
 v5:=Tryz.zeroValue5
 t9:=Tryz.underlying9
 a9:=Tryz.isAgg9
 z9:=Tryz.sizeOf9
 v9:=Tryz.zeroValue9
 t46:=Tryz.underlying156
 a46:=Tryz.isAgg156
 z46:=Tryz.sizeOf156
 v46:=Tryz.zeroValue156
 t51:=Tryz.underlying206
 a51:=Tryz.isAgg206
 z51:=Tryz.sizeOf206
 v51:=Tryz.zeroValue206
 t146:=Tryz.underlying274
 a146:=Tryz.isAgg274
 z146:=Tryz.sizeOf274
 v146:=Tryz.zeroValue274
 g1:=by kernel_rfl }
open Go.RowKit Go.Lib in
theorem Tryz.stringslite_Index_one (s:ByteArray) (c:UInt8) (w:World) :
  Calls Tryz.prog 194 #[.string s,.string ⟨#[c]⟩] w fun e w'=>e = .returned (.int .i64 (Lib.indexByte s.data.toList c))∧w'=w:=Any.stringslite_Index_one Tryz.lays219 s c w
def Tryz.laysM288_ren:Go.Shelf.Ren:=⟨fun | 288=>139 | 283=>195 | 284=>196 | 285=>197 | 286=>198 | 129=>156 | 317=>234 | 318=>235 | 319=>236 | 320=>237 | 337=>272 | 338=>193 | n=>n,fun | 37=>150 | 53=>82 | 3=>3 | 4=>4 | 9=>9 | 171=>248 | 0=>0 | 173=>250 | 212=>283 | 51=>206 | 5=>5 | 20=>20 | 213=>284 | 46=>156 | 232=>327 | 233=>279 | n=>n,fun | 17=>2 | 18=>3 | 19=>1 | n=>n⟩
theorem Tryz.laysM288:Go.Proofs.LaysM.n288 Tryz.prog Tryz.laysM288_ren:={
 mixed:=by kernel_rfl
 f129:=Tryz.func156.trans (congrArg some (by kernel_rfl))
 f283:=Tryz.func195.trans (congrArg some (by kernel_rfl))
 f284:=Tryz.func196.trans (congrArg some (by kernel_rfl))
 f285:=Tryz.func197.trans (congrArg some (by kernel_rfl))
 f286:=Tryz.func198.trans (congrArg some (by kernel_rfl))
 f288:=Tryz.func139.trans (congrArg some (by kernel_rfl))
 f317:=Tryz.func234.trans (congrArg some (by kernel_rfl))
 f318:=Tryz.func235.trans (congrArg some (by kernel_rfl))
 f319:=Tryz.func236.trans (congrArg some (by kernel_rfl))
 f320:=Tryz.func237.trans (congrArg some (by kernel_rfl))
 f337:=Tryz.func272.trans (congrArg some (by kernel_rfl))
 f338:=Tryz.func193.trans (congrArg some (by kernel_rfl))
 t0:=Tryz.underlying0
 a0:=Tryz.isAgg0
 z0:=Tryz.sizeOf0
 v0:=Tryz.zeroValue0
 t3:=Tryz.underlying3
 a3:=Tryz.isAgg3
 z3:=Tryz.sizeOf3
 v3:=Tryz.zeroValue3
 t4:=Tryz.underlying4
 a4:=Tryz.isAgg4
 z4:=Tryz.sizeOf4
 v4:=Tryz.zeroValue4
 t5:=Tryz.underlying5
 a5:=Tryz.isAgg5
 z5:=Tryz.sizeOf5
 v5:=Tryz.zeroValue5
 t9:=Tryz.underlying9
 a9:=Tryz.isAgg9
 z9:=Tryz.sizeOf9
 v9:=Tryz.zeroValue9
 t20:=Tryz.underlying20
 a20:=Tryz.isAgg20
 z20:=Tryz.sizeOf20
 v20:=Tryz.zeroValue20
 t37:=Tryz.underlying150
 a37:=Tryz.isAgg150
 z37:=Tryz.sizeOf150
 v37:=Tryz.zeroValue150
 t46:=Tryz.underlying156
 a46:=Tryz.isAgg156
 z46:=Tryz.sizeOf156
 v46:=Tryz.zeroValue156
 t51:=Tryz.underlying206
 a51:=Tryz.isAgg206
 z51:=Tryz.sizeOf206
 v51:=Tryz.zeroValue206
 t53:=Tryz.underlying82
 a53:=Tryz.isAgg82
 z53:=Tryz.sizeOf82
 v53:=Tryz.zeroValue82
 t171:=Tryz.underlying248
 a171:=Tryz.isAgg248
 z171:=Tryz.sizeOf248
 v171:=Tryz.zeroValue248
 t173:=Tryz.underlying250
 a173:=Tryz.isAgg250
 z173:=Tryz.sizeOf250
 v173:=Tryz.zeroValue250
 t212:=Tryz.underlying283
 a212:=Tryz.isAgg283
 z212:=Tryz.sizeOf283
 v212:=Tryz.zeroValue283
 t213:=Tryz.underlying284
 a213:=Tryz.isAgg284
 z213:=Tryz.sizeOf284
 t232:=Tryz.underlying327
 a232:=Tryz.isAgg327
 z232:=Tryz.sizeOf327
 v232:=Tryz.zeroValue327
 t233:=Tryz.underlying279
 a233:=Tryz.isAgg279
 z233:=Tryz.sizeOf279
 v233:=Tryz.zeroValue279
 g17:=by kernel_rfl
 g18:=by kernel_rfl
 g19:=by kernel_rfl
 i0:=by kernel_rfl
 i3:=by kernel_rfl
 i4:=by kernel_rfl
 i5:=by kernel_rfl
 i9:=by kernel_rfl
 i20:=by kernel_rfl
 i37:=by kernel_rfl
 i46:=by kernel_rfl
 i51:=by kernel_rfl
 i53:=by kernel_rfl
 i171:=by kernel_rfl
 i173:=by kernel_rfl
 i212:=by kernel_rfl
 i232:=by kernel_rfl
 i233:=by kernel_rfl
 m17:=by kernel_rfl
 m18:=by kernel_rfl
 m19:=by kernel_rfl }
open Go.RowKit Go.Sort Go.Lib in
theorem Tryz.internal_strconv_AppendUint_10 (B n u:Nat) (hu64:u<18446744073709551616) (sv:Value) (xs:List Value) (w:World) (hown:w.ownsRow B 5 1 sv n xs) (hBw:B≤w.heap.size) (hlim:n+20≤140737488355328) (htab:Lib.TabIs Tryz.prog w "internal/strconv.uint64pow10" .u64 Lib.pow10Tab) :
  Calls Tryz.prog 139 #[sv,.int .u64 u,.int .i64 10] w fun e w'=>∃ v',e = .returned v'∧w'.ownsRow B 5 1 v' (n+(Lib.decDigits u).length) (xs++Lib.byteCells (Lib.decDigits u))∧Below B w w'∧Lib.OthersKept 5 none w w':=Any.internal_strconv_AppendUint_10 Tryz.laysM288 B n u hu64 sv xs w hown hBw hlim htab
def Tryz.lays99_ren:Go.Shelf.Ren:=⟨fun | 99=>186 | 206=>227 | n=>n,fun | 9=>9 | 4=>4 | 3=>3 | n=>n,fun | n=>n⟩
theorem Tryz.lays99:Go.Proofs.Lays.n99 Tryz.prog Tryz.lays99_ren:={
 mixed:=by kernel_rfl
 f99:=Tryz.func186.trans (congrArg some (by kernel_rfl))
 f206:=Tryz.func227.trans (congrArg some (by kernel_rfl))
 t3:=Tryz.underlying3
 a3:=Tryz.isAgg3
 z3:=Tryz.sizeOf3
 v3:=Tryz.zeroValue3
 t4:=Tryz.underlying4
 a4:=Tryz.isAgg4
 z4:=Tryz.sizeOf4
 v4:=Tryz.zeroValue4
 t9:=Tryz.underlying9
 a9:=Tryz.isAgg9
 z9:=Tryz.sizeOf9
 v9:=Tryz.zeroValue9 }
open Go.RowKit Go.Lib in
theorem Tryz.strings_HasPrefix (s p:ByteArray) (w:World) :
  Calls Tryz.prog 186 #[.string s,.string p] w fun e w'=>e = .returned (.bool (Lib.hasPrefix s.data.toList p.data.toList))∧w'=w:=Any.strings_HasPrefix Tryz.lays99 s p w
def Tryz.lays101_ren:Go.Shelf.Ren:=⟨fun | 101=>177 | 208=>219 | 206=>227 | n=>n,fun | 9=>9 | 4=>4 | 3=>3 | n=>n,fun | n=>n⟩
theorem Tryz.lays101:Go.Proofs.Lays.n101 Tryz.prog Tryz.lays101_ren:={
 mixed:=by kernel_rfl
 f101:=Tryz.func177.trans (congrArg some (by kernel_rfl))
 f206:=Tryz.func227.trans (congrArg some (by kernel_rfl))
 f208:=Tryz.func219.trans (congrArg some (by kernel_rfl))
 t3:=Tryz.underlying3
 a3:=Tryz.isAgg3
 z3:=Tryz.sizeOf3
 v3:=Tryz.zeroValue3
 t4:=Tryz.underlying4
 a4:=Tryz.isAgg4
 z4:=Tryz.sizeOf4
 v4:=Tryz.zeroValue4
 t9:=Tryz.underlying9
 a9:=Tryz.isAgg9
 z9:=Tryz.sizeOf9
 v9:=Tryz.zeroValue9 }
open Go.RowKit Go.Lib in
theorem Tryz.strings_TrimPrefix (s p:ByteArray) (w:World) :
  Calls Tryz.prog 177 #[.string s,.string p] w fun e w'=>e = .returned (.string ⟨(Lib.trimPrefix s.data.toList p.data.toList).toArray⟩)∧w'=w:=Any.strings_TrimPrefix Tryz.lays101 s p w
def Tryz.lays264_ren:Go.Shelf.Ren:=⟨fun | 264=>226 | n=>n,fun | 53=>82 | 46=>156 | n=>n,fun | n=>n⟩
theorem Tryz.lays264:Go.Proofs.Lays.n264 Tryz.prog Tryz.lays264_ren:={
 mixed:=by kernel_rfl
 f264:=Tryz.func226.trans (congrArg some (by kernel_rfl))
 t46:=Tryz.underlying156
 a46:=Tryz.isAgg156
 z46:=Tryz.sizeOf156
 v46:=Tryz.zeroValue156
 t53:=Tryz.underlying82
 a53:=Tryz.isAgg82
 z53:=Tryz.sizeOf82
 v53:=Tryz.zeroValue82 }
open Go.RowKit Go.Lib in
theorem Tryz.bits_Mul64 (x y:Nat) (hx:x<18446744073709551616) (hy:y<18446744073709551616) (w:World) :
  Calls Tryz.prog 226 #[.int .u64 x,.int .u64 y] w fun e w'=>e = .returned (.tuple #[.int .u64 ((x*y / 18446744073709551616:Nat):Int),.int .u64 ((x*y % 18446744073709551616:Nat):Int)])∧w'=w:=Any.bits_Mul64 Tryz.lays264 x y hx hy w
def Tryz.lays105_ren:Go.Shelf.Ren:=⟨fun | 105=>123 | 212=>185 | 99=>186 | 165=>187 | 166=>188 | 170=>189 | 169=>190 | 263=>225 | 264=>226 | 206=>227 | 240=>228 | 241=>229 | 276=>268 | 277=>269 | n=>n,fun | 9=>9 | 3=>3 | 4=>4 | 20=>20 | 0=>0 | 46=>156 | 109=>233 | 5=>5 | 72=>238 | 76=>242 | 51=>206 | 146=>274 | 53=>82 | 148=>276 | 70=>236 | 37=>150 | 75=>241 | 127=>278 | 164=>312 | 80=>244 | n=>n,fun | n=>n⟩
theorem Tryz.lays105:Go.Proofs.Lays.n105 Tryz.prog Tryz.lays105_ren:={
 mixed:=by kernel_rfl
 f99:=Tryz.func186.trans (congrArg some (by kernel_rfl))
 f105:=Tryz.func123.trans (congrArg some (by kernel_rfl))
 f165:=Tryz.func187.trans (congrArg some (by kernel_rfl))
 f166:=Tryz.func188.trans (congrArg some (by kernel_rfl))
 f169:=Tryz.func190.trans (congrArg some (by kernel_rfl))
 f170:=Tryz.func189.trans (congrArg some (by kernel_rfl))
 f206:=Tryz.func227.trans (congrArg some (by kernel_rfl))
 f212:=Tryz.func185.trans (congrArg some (by kernel_rfl))
 f240:=Tryz.func228.trans (congrArg some (by kernel_rfl))
 f241:=Tryz.func229.trans (congrArg some (by kernel_rfl))
 f263:=Tryz.func225.trans (congrArg some (by kernel_rfl))
 f264:=Tryz.func226.trans (congrArg some (by kernel_rfl))
 f276:=Tryz.func268.trans (congrArg some (by kernel_rfl))
 f277:=Tryz.func269.trans (congrArg some (by kernel_rfl))
 t0:=Tryz.underlying0
 a0:=Tryz.isAgg0
 z0:=Tryz.sizeOf0
 v0:=Tryz.zeroValue0
 t3:=Tryz.underlying3
 a3:=Tryz.isAgg3
 z3:=Tryz.sizeOf3
 v3:=Tryz.zeroValue3
 t4:=Tryz.underlying4
 a4:=Tryz.isAgg4
 z4:=Tryz.sizeOf4
 v4:=Tryz.zeroValue4
 t5:=Tryz.underlying5
 a5:=Tryz.isAgg5
 z5:=Tryz.sizeOf5
 v5:=Tryz.zeroValue5
 t9:=Tryz.underlying9
 a9:=Tryz.isAgg9
 z9:=Tryz.sizeOf9
 v9:=Tryz.zeroValue9
 t20:=Tryz.underlying20
 a20:=Tryz.isAgg20
 z20:=Tryz.sizeOf20
 v20:=Tryz.zeroValue20
 t37:=Tryz.underlying150
 a37:=Tryz.isAgg150
 z37:=Tryz.sizeOf150
 v37:=Tryz.zeroValue150
 t46:=Tryz.underlying156
 a46:=Tryz.isAgg156
 z46:=Tryz.sizeOf156
 v46:=Tryz.zeroValue156
 t51:=Tryz.underlying206
 a51:=Tryz.isAgg206
 z51:=Tryz.sizeOf206
 v51:=Tryz.zeroValue206
 t53:=Tryz.underlying82
 a53:=Tryz.isAgg82
 z53:=Tryz.sizeOf82
 v53:=Tryz.zeroValue82
 t70:=Tryz.underlying236
 a70:=Tryz.isAgg236
 z70:=Tryz.sizeOf236
 v70:=Tryz.zeroValue236
 t72:=Tryz.underlying238
 a72:=Tryz.isAgg238
 z72:=Tryz.sizeOf238
 v72:=Tryz.zeroValue238
 t75:=Tryz.underlying241
 a75:=Tryz.isAgg241
 z75:=Tryz.sizeOf241
 v75:=Tryz.zeroValue241
 t76:=Tryz.underlying242
 a76:=Tryz.isAgg242
 z76:=Tryz.sizeOf242
 v76:=Tryz.zeroValue242
 t109:=Tryz.underlying233
 a109:=Tryz.isAgg233
 z109:=Tryz.sizeOf233
 v109:=Tryz.zeroValue233
 t127:=Tryz.underlying278
 a127:=Tryz.isAgg278
 z127:=Tryz.sizeOf278
 v127:=Tryz.zeroValue278
 t146:=Tryz.underlying274
 a146:=Tryz.isAgg274
 z146:=Tryz.sizeOf274
 v146:=Tryz.zeroValue274
 t148:=Tryz.underlying276
 a148:=Tryz.isAgg276
 z148:=Tryz.sizeOf276
 v148:=Tryz.zeroValue276
 t164:=Tryz.underlying312
 a164:=Tryz.isAgg312
 z164:=Tryz.sizeOf312
 v164:=Tryz.zeroValue312 }
theorem Tryz.Builder_Extra_105:Builder.Extra Tryz.prog Tryz.lays105_ren:={
 sizeBuilder:=by kernel_rfl
 liesBuilder:=by kernel_rfl
 t5:=Tryz.underlying5
 a5:=Tryz.isAgg5
 z5:=Tryz.sizeOf5
 v5:=Tryz.zeroValue5
 infoByte:=by kernel_rfl
 cellsByte:=by kernel_rfl
 sizeByte:=by kernel_rfl
 neB5:=by decide }
open Go.RowKit Go.Lib in
theorem Tryz.strings_Repeat_main (s:ByteArray) (c:Nat) (w:World) (hc2:2≤c) (hc:c≤9223372036854775807) (hlen:s.size*c≤140737488355328) (h0:0<s.size) :
  Calls Tryz.prog 123 #[.string s,.int .i64 c] w fun e w'=>e = .returned (.string ⟨(Lib.repeatL s.data.toList c).toArray⟩)∧Below w.heap.size w w':=Any.strings_Repeat_main Tryz.lays105 Tryz.Builder_Extra_105 s c w hc2 hc hlen h0
open Go.RowKit Go.Lib in
theorem Tryz.strings_Repeat_zero (s:ByteArray) (w:World) :
  Calls Tryz.prog 123 #[.string s,.int .i64 0] w fun e w'=>e = .returned (.string ⟨#[]⟩)∧w'=w:=Any.strings_Repeat_zero Tryz.lays105 s w
open Go.RowKit Go.Lib in
theorem Tryz.strings_Repeat_one (s:ByteArray) (w:World) :
  Calls Tryz.prog 123 #[.string s,.int .i64 1] w fun e w'=>e = .returned (.string s)∧w'=w:=Any.strings_Repeat_one Tryz.lays105 s w
end Go.Proofs
namespace Go.Proofs.YtbhbhlfkdlfimaaGreatDoor
theorem gH {a b q r:Int} (h:b*q+r=a) (hb:b≠0) (hp:0<b→0≤r∧r<b) (hn:b<0→b<r∧r≤0):a.fdiv b=q∧a.fmod b=r:=by
 have h1:r.fdiv b=0:=by
  by_cases h0:0<b
  ·exact Int.fdiv_eq_zero_of_lt (hp h0).1 (hp h0).2
  ·have h2:=hn (by omega)
   rw [←Int.neg_fdiv_neg]
   exact Int.fdiv_eq_zero_of_lt (by omega) (by omega)
 constructor
 ·rw [←h,Int.mul_add_fdiv_left (H:=hb),h1];omega
 ·rw [←h,Int.mul_add_fmod_self_left,Int.fmod_def,h1,Int.mul_zero];omega
theorem rG (a b:Int) (hb:b≠0):(a.tmod b).natAbs<b.natAbs:=by
 rw [Int.natAbs_tmod];exact Nat.mod_lt _ (by omega)
theorem lV {a b:Int} (hb:b≠0) (h:a.tmod b=0∨((a.tmod b<0)↔(b<0))):a.fdiv b=a.tdiv b∧a.fmod b=a.tmod b:=by
 have h1:=rG a b hb
 refine gH (Int.mul_tdiv_add_tmod a b) hb (fun h0 => ?_) (fun h0 => ?_) <;> omega
theorem kg {a b:Int} (hb:b≠0) (h:a.tmod b≠0) (h':¬ ((a.tmod b<0)↔(b<0))):a.fdiv b=a.tdiv b - 1∧a.fmod b=a.tmod b+b:=by
 have h1:=rG a b hb
 refine gH ?_ hb (fun h0 => ?_) (fun h0 => ?_)
 ·have:=Int.mul_tdiv_add_tmod a b
  rw [Int.mul_sub,Int.mul_one];omega
 ·omega
 ·omega
def IsRoot (n r:Nat):Prop:=r*r≤n∧n<(r+1)*(r+1)
theorem IsRoot.unique {n r s:Nat} (h:IsRoot n r) (h':IsRoot n s):r=s:=by
 have h1:r<s+1:=by
  apply Decidable.byContradiction;intro hc
  have:=Nat.mul_self_le_mul_self (show s+1≤r by omega)
  exact absurd (Nat.lt_of_le_of_lt h.1 h'.2) (by omega)
 have h2:s<r+1:=by
  apply Decidable.byContradiction;intro hc
  have:=Nat.mul_self_le_mul_self (show r+1≤s by omega)
  exact absurd (Nat.lt_of_le_of_lt h'.1 h.2) (by omega)
 omega
theorem qL (n g:Nat) (hg:0<g) (r:Nat) (hr:IsRoot n r):r≤(g+n / g) / 2:=by
 have h0:r*r≤n:=hr.1
 have h1:2*r≤g+n / g:=by
  by_cases hle:2*r≤g
  ·exact Nat.le_trans hle (Nat.le_add_right _ _)
  ·have h2:2*r - g≤n / g:=by
    rw [Nat.le_div_iff_mul_le hg]
    refine Nat.le_trans ?_ h0
    have h3:((2*r - g:Nat):Int)=2*(r:Int) - g:=by omega
    have h4:(((2*r - g)*g:Nat):Int)≤((r*r:Nat):Int):=by
     rw [Int.natCast_mul,Int.natCast_mul,h3]
     have h5:0≤((r:Int) - g)*((r:Int) - g):=by
      by_cases hh:(0:Int)≤(r:Int) - g
      ·exact Int.mul_nonneg hh hh
      ·exact Int.mul_nonneg_of_nonpos_of_nonpos (by omega) (by omega)
     have h6:((r:Int) - g)*((r:Int) - g)=(r:Int)*r - (2*(r:Int) - g)*g:=by
      simp only [Int.sub_mul,Int.mul_sub,Int.mul_assoc]
      rw [Int.mul_comm (g:Int) (r:Int)]
      omega
     omega
    exact Int.ofNat_le.1 h4
   generalize n / g=e at *
   omega
 generalize n / g=e at *
 omega
theorem tw (n g:Nat) (hg:0<g) (h:g≤(g+n / g) / 2):g*g≤n:=by
 have h1:g≤n / g:=by generalize n / g=e at *; omega
 exact (Nat.le_div_iff_mul_le hg).1 h1
theorem mN (n g r:Nat) (hg:0<g) (hr:IsRoot n r) (hge:r≤g) (h:g≤(g+n / g) / 2):g=r:=by
 have h1:=tw n g hg h
 have h2:g<r+1:=by
  apply Decidable.byContradiction;intro hc
  have:=Nat.mul_self_le_mul_self (show r+1≤g by omega)
  exact absurd (Nat.lt_of_lt_of_le hr.2 this) (by omega)
 omega
theorem mO (n:Nat):∃ r,IsRoot n r:=by
 induction n with
 | zero=>exact ⟨0,by simp [IsRoot]⟩
 | succ n ih =>
  obtain ⟨r,h1,h2⟩:=ih
  by_cases h:(r+1)*(r+1)≤n+1
  ·refine ⟨r+1,h,?_⟩
   have h3:(r+1+1)*(r+1+1)=(r+1)*(r+1)+2*r+3:=by
    simp only [Nat.add_mul,Nat.mul_add];omega
   omega
  ·exact ⟨r,by omega,by omega⟩
noncomputable def am (n:Nat):Nat:=Classical.choose (mO n)
theorem bZ (n:Nat):IsRoot n (am n):=Classical.choose_spec (mO n)
theorem gn {n r:Nat} (h:IsRoot n r):am n=r:=(bZ n).unique h
theorem tz (n k:Nat) (h:n<k*k):am n<k:=by
 apply Decidable.byContradiction;intro hc
 have:=Nat.mul_self_le_mul_self (show k≤am n by omega)
 exact absurd (bZ n).1 (by omega)
end Go.Proofs.YtbhbhlfkdlfimaaGreatDoor
