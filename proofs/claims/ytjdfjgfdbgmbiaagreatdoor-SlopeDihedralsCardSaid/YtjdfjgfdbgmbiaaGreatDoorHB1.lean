/- Parts of the proof of the text YtjdfjgfdbgmbiaaGreatDoorHB39. -/
import Derived.Lib.ItoaNum
import Derived.Lib.ItoaMem
import Derived.Test.YtjdfjgfdbgmbiaaGreatDoorProg
import Derived.Handy
import Derived.WalkSpells
import Derived.WalkLawsBesides
import Derived.BigQuiet
import Derived.Deep.QuietTactic
import Derived.Lib.Hide
import Derived.Lib.Strings
import Derived.Below
import Derived.WalkKit
set_option linter.all false
set_option maxRecDepth 100000
set_option maxHeartbeats 8000000
namespace Go.Proofs.YtjdfjgfdbgmbiaaGreatDoor
open Go.RowKit
def CqB (w:World) (f:FuncId) (a:Array Value) (r:Value):Prop:=∀ W,Below w.heap.size w W→Calls Tryz.prog f a W fun e W'=>e = .returned r∧Below W.heap.size W W'
end Go.Proofs.YtjdfjgfdbgmbiaaGreatDoor
namespace Go.Proofs.YtjdfjgfdbgmbiaaGreatDoor
open Go.Lib
theorem snoc_ind {α:Type} {P:List α→Prop} (h0:P []) (hs:∀ l a,P l→P (l ++ [a])) (l:List α):P l:=by
 rw [←List.reverse_reverse l]
 induction l.reverse with
 | nil=>exact h0
 | cons a t ih=>rw [List.reverse_cons];exact hs _ _ ih
def natOf (l:List UInt8):Nat:=l.foldl (fun n c=>n*10+(c.toNat - 48)) 0
def isDig (c:UInt8):Bool:=48≤c && c≤57
def isNeg (l:List UInt8):Bool:=l.head? == some 45
def szL (l:List UInt8):List UInt8:=if isNeg l then l.tail else l
def valOf (l:List UInt8):Int:=if isNeg l then -(natOf l.tail:Int) else (natOf l:Int)
def chk (l:List UInt8):Int :=
 if !(szL l).all isDig then 11
 else if (szL l) = []∨((szL l).head? = some 48∧l ≠ [48]) then 11
 else if 300<(szL l).length then 4 else 0
theorem natOf_nil:natOf []=0:=rfl
theorem natOf_snoc (l:List UInt8) (c:UInt8):natOf (l ++ [c])=natOf l*10+(c.toNat - 48):=by
 simp [natOf,List.foldl_append]
theorem natOf_append (l m:List UInt8):natOf (l++m)=natOf l*10 ^ m.length+natOf m:=by
 induction m using snoc_ind with
 | h0=>simp [natOf]
 | hs m c ih =>
  rw [←List.append_assoc,natOf_snoc,ih,natOf_snoc,List.length_append,List.length_singleton,Nat.pow_succ]
  rw [Nat.add_mul,Nat.mul_assoc,Nat.add_assoc]
theorem isDig_iff (c:UInt8):isDig c=true↔48≤c.toNat∧c.toNat≤57:=by
 simp [isDig,UInt8.le_iff_toNat_le]
theorem natOf_lt (l:List UInt8) (h:∀ c∈l,isDig c=true):natOf l<10 ^ l.length:=by
 induction l using snoc_ind with
 | h0=>simp [natOf]
 | hs m c ih =>
  have h1:=ih (fun c hc=>h c (by simp [hc]))
  have h2:=h c (by simp)
  have h3:c.toNat≤57:=by
   simp only [isDig,Bool.and_eq_true,decide_eq_true_eq,UInt8.le_iff_toNat_le] at h2
   exact h2.2
  rw [natOf_snoc,List.length_append,List.length_singleton,Nat.pow_succ]
  omega
theorem dig_ofNat (d:Nat) (h:d<10):isDig (UInt8.ofNat (48+d))=true:=by
 simp only [isDig,Bool.and_eq_true,decide_eq_true_eq,UInt8.le_iff_toNat_le,UInt8.toNat_ofNat']
 have:(48+d) % 2 ^ 8=48+d:=Nat.mod_eq_of_lt (by omega)
 rw [this]
 exact ⟨by simp,by simp;omega⟩
theorem toNat_ofNat (d:Nat) (h:d<10):(UInt8.ofNat (48+d)).toNat=48+d:=by
 rw [UInt8.toNat_ofNat'];exact Nat.mod_eq_of_lt (by omega)
theorem decDigits_dig (u:Nat):∀ c∈decDigits u,isDig c=true:=by
 induction u using Nat.strongRecOn with
 | _ u ih =>
  intro c hc
  by_cases h:u<10
  ·rw [decDigits_one h] at hc
   rw [List.mem_singleton.1 hc];exact dig_ofNat u h
  ·rw [decDigits,dif_neg h] at hc
   rcases List.mem_append.1 hc with hc | hc
   ·exact ih (u / 10) (by omega) c hc
   ·rw [List.mem_singleton.1 hc];exact dig_ofNat (u % 10) (by omega)
theorem natOf_dec (u:Nat):natOf (decDigits u)=u:=by
 induction u using Nat.strongRecOn with
 | _ u ih =>
  by_cases h:u<10
  ·rw [decDigits_one h]
   show 0*10+((UInt8.ofNat (48+u)).toNat - 48)=u
   rw [toNat_ofNat u h];omega
  ·rw [decDigits,dif_neg h,natOf_snoc,ih (u / 10) (by omega),toNat_ofNat (u % 10) (by omega)]
   omega
theorem decDigits_ne (u:Nat):decDigits u ≠ []:=by
 intro h;have:=decDigits_length u;rw [h] at this;have:=nDigits_pos u;simp at *; omega
theorem decDigits_head (u:Nat) (hu:0<u):∃ c,(decDigits u).head? = some c∧49≤c.toNat∧c.toNat≤57:=by
 induction u using Nat.strongRecOn with
 | _ u ih =>
  by_cases h:u<10
  ·rw [decDigits_one h]
   exact ⟨_,rfl,by rw [toNat_ofNat u h];omega,by rw [toNat_ofNat u h];omega⟩
  ·rw [decDigits,dif_neg h]
   obtain ⟨c,h1,h2,h3⟩:=ih (u / 10) (by omega) (by omega)
   exact ⟨c,by rw [List.head?_append,h1];rfl,h2,h3⟩
theorem dec_natOf (l:List UInt8) (hd:∀ c∈l,isDig c=true) (h0:l.head? ≠ some 48) (hne:l ≠ []):decDigits (natOf l)=l∧0<natOf l:=by
 induction l using snoc_ind with
 | h0=>exact absurd rfl hne
 | hs m c ih =>
  have h2:=hd c (by simp)
  have h3:48≤c.toNat∧c.toNat≤57:=by
   simp only [isDig,Bool.and_eq_true,decide_eq_true_eq,UInt8.le_iff_toNat_le] at h2
   exact h2
  rw [natOf_snoc]
  have hc:UInt8.ofNat (48+(c.toNat - 48))=c:=by
   rw [show 48+(c.toNat - 48)=c.toNat by omega];exact UInt8.ofNat_toNat
  by_cases hm:m = []
  ·subst hm
   have:c.toNat≠48:=by
    intro e;apply h0;simp
    exact UInt8.toNat_inj.1 (by simpa using e)
   rw [natOf_nil]
   simp only [Nat.zero_mul,Nat.zero_add,List.nil_append]
   rw [decDigits_one (by omega),hc]
   exact ⟨rfl,by omega⟩
  ·obtain ⟨i1,i2⟩:=ih (fun c hc=>hd c (by simp [hc])) (by
    intro e;apply h0;rw [List.head?_append,e];rfl) hm
   rw [decDigits,dif_neg (by omega)]
   rw [show (natOf m*10+(c.toNat - 48)) / 10=natOf m by omega,show (natOf m*10+(c.toNat - 48)) % 10=c.toNat - 48 by omega,i1,hc]
   exact ⟨rfl,by omega⟩
theorem isNeg_dec (u:Nat):isNeg (decDigits u)=false:=by
 have h:=decDigits_dig u
 cases hl:decDigits u with
 | nil=>rfl
 | cons c t =>
  have:=h c (by rw [hl];simp)
  simp only [isNeg,List.head?_cons]
  simp only [isDig,Bool.and_eq_true,decide_eq_true_eq,UInt8.le_iff_toNat_le] at this
  rw [beq_eq_false_iff_ne]
  intro e
  injection e with e
  subst e
  simp at this
theorem nDigits_le_of_lt (k:Nat):∀ u,u<10 ^ (k+1)→nDigits u≤k+1:=by
 induction k with
 | zero=>intro u h;rw [nDigits_small (by simpa using h)];exact Nat.le_refl _
 | succ k ih =>
  intro u h
  by_cases hu:u<10
  ·rw [nDigits_small hu];omega
  ·rw [nDigits_big hu]
   have:=ih (u / 10) (by rw [Nat.pow_succ] at h;omega)
   omega
theorem nDigits_le_iff (u k:Nat) (hk:1≤k):nDigits u≤k↔u<10 ^ k:=by
 constructor
 ·intro h
  exact Nat.lt_of_lt_of_le (lt_pow_nDigits u) (Nat.pow_le_pow_right (by decide) h)
 ·intro h
  have:=nDigits_le_of_lt (k - 1) u (by rw [Nat.sub_add_cancel hk];exact h)
  omega
theorem itoa_zero:itoa 0 = [48]:=by decide+kernel
theorem itoa_valOf (l:List UInt8) (h:chk l=0):itoa (valOf l)=l:=by
 unfold chk at h
 by_cases h1:(szL l).all isDig
 ·simp only [h1,Bool.not_true,Bool.false_eq_true,if_false] at h
  by_cases h2:(szL l) = []∨((szL l).head? = some 48∧l ≠ [48])
  ·rw [if_pos h2] at h;cases h
  ·rw [not_or] at h2
   obtain ⟨h2,h3⟩:=h2
   rw [List.all_eq_true] at h1
   by_cases hz:l = [48]
   ·subst hz;exact itoa_zero
   ·have h0:(szL l).head? ≠ some 48:=fun e=>h3 ⟨e,hz⟩
    obtain ⟨d1,d2⟩:=dec_natOf (szL l) h1 h0 h2
    unfold valOf
    by_cases hn:isNeg l
    ·rw [if_pos hn]
     simp only [szL,hn,if_true] at d1 d2
     rw [itoa_neg _ d2,d1]
     cases l with
     | nil=>cases hn
     | cons c t =>
      simp only [isNeg,List.head?_cons,beq_iff_eq,Option.some.injEq] at hn
      subst hn;rfl
    ·rw [if_neg hn]
     simp only [szL,hn,if_false,Bool.false_eq_true] at d1 d2
     rw [itoa_nonneg,d1]
 ·simp only [h1] at h;cases h
def tenTo (k:Nat):Nat:=10 ^ k
def lim:Nat:=tenTo 300
theorem tenTo_mono {a b:Nat} (h:a≤b):tenTo a≤tenTo b:=Nat.pow_le_pow_right (by decide) h
theorem nDigits_tenTo (u k:Nat) (hk:1≤k):nDigits u≤k↔u<tenTo k:=nDigits_le_iff u k hk
theorem natOf_tenTo (l:List UInt8) (h:∀ c∈l,isDig c=true):natOf l<tenTo l.length:=natOf_lt l h
theorem valOf_lt (l:List UInt8) (h:chk l=0):(valOf l).natAbs<lim:=by
 unfold chk at h
 by_cases h1:(szL l).all isDig
 ·simp only [h1,Bool.not_true,Bool.false_eq_true,if_false] at h
  by_cases h2:(szL l) = []∨((szL l).head? = some 48∧l ≠ [48])
  ·rw [if_pos h2] at h;cases h
  ·rw [if_neg h2] at h
   by_cases h3:300<(szL l).length
   ·rw [if_pos h3] at h;cases h
   ·rw [List.all_eq_true] at h1
    have h6:(szL l).length≤300:=by omega
    have h5:natOf (szL l)<lim:=Nat.lt_of_lt_of_le (natOf_tenTo (szL l) h1) (tenTo_mono h6)
    unfold valOf
    by_cases hn:isNeg l
    ·rw [if_pos hn];simp only [szL,hn,if_true] at h5;rw [Int.natAbs_neg];exact h5
    ·rw [if_neg hn];simp only [szL,hn,if_false,Bool.false_eq_true] at h5;exact h5
 ·simp only [h1] at h;cases h
theorem head_itoa_neg (z:Int):isNeg (itoa z)=decide (z<0):=by
 by_cases h:z<0
 ·unfold itoa;rw [if_pos h];simp [isNeg,h]
 ·unfold itoa;rw [if_neg h,isNeg_dec];simp [h]
theorem valOf_itoa (z:Int):valOf (itoa z)=z:=by
 unfold valOf
 rw [head_itoa_neg]
 by_cases h:z<0
 ·simp only [h,decide_true,if_true]
  unfold itoa;rw [if_pos h]
  simp only [List.tail_cons]
  rw [natOf_dec];omega
 ·simp only [h,decide_false,Bool.false_eq_true,if_false]
  unfold itoa;rw [if_neg h,natOf_dec];omega
theorem szL_itoa (z:Int):szL (itoa z)=decDigits z.natAbs:=by
 unfold szL
 rw [head_itoa_neg]
 by_cases h:z<0
 ·simp only [h,decide_true,if_true]
  unfold itoa;rw [if_pos h];rfl
 ·simp only [h,decide_false,Bool.false_eq_true,if_false]
  unfold itoa;rw [if_neg h]
  congr 1;omega
theorem chk_itoa (z:Int):chk (itoa z)=if z.natAbs<lim then 0 else 4:=by
 unfold chk
 rw [szL_itoa]
 have h1:(decDigits z.natAbs).all isDig=true:=List.all_eq_true.2 (decDigits_dig _)
 have hne:=decDigits_ne z.natAbs
 have h2:¬ (decDigits z.natAbs = []∨((decDigits z.natAbs).head? = some 48∧itoa z ≠ [48])):=by
  rintro (h | ⟨h,h'⟩)
  ·exact hne h
  ·by_cases hz:z=0
   ·subst hz;exact h' itoa_zero
   ·obtain ⟨c,h3,h4,_⟩:=decDigits_head z.natAbs (by omega)
    rw [h] at h3;injection h3 with h3;subst h3;simp at h4
 simp only [h1,Bool.not_true,Bool.false_eq_true,if_false]
 rw [if_neg h2,decDigits_length]
 by_cases h3:z.natAbs<lim
 ·rw [if_pos h3,if_neg]
  have h4:nDigits z.natAbs≤300:=(nDigits_tenTo z.natAbs 300 (by decide)).2 h3
  clear h3;omega
 ·rw [if_neg h3,if_pos]
  have h4:¬ nDigits z.natAbs≤300:=fun h=>h3 ((nDigits_tenTo z.natAbs 300 (by decide)).1 h)
  clear h3;omega
theorem itoa_inj {x y:Int} (h:itoa x=itoa y):x=y:=by rw [←valOf_itoa x,←valOf_itoa y,h]
end Go.Proofs.YtjdfjgfdbgmbiaaGreatDoor
namespace Go.Proofs.YtjdfjgfdbgmbiaaGreatDoor
open Go.RowKit
theorem ret_bool {a b:Bool} (h:a=b):Ending.returned (.bool a) = .returned (.bool b):=by rw [h]
theorem ret_int {k:IntKind} {a b:Int} (h:a=b):Ending.returned (.int k a) = .returned (.int k b):=by rw [h]
theorem ret_str {a b:ByteArray} (h:a=b):Ending.returned (.string a) = .returned (.string b):=by rw [h]
theorem size_len (s:ByteArray):s.data.toList.length=s.size:=rfl
theorem empty_true {s:ByteArray} (h:s.size=0):s.toList.isEmpty=true:=by
 rw [ByteArray.toList_eq,List.isEmpty_iff];exact List.eq_nil_of_length_eq_zero h
theorem empty_false {s:ByteArray} (h:0<s.size):s.toList.isEmpty=false:=by
 rw [ByteArray.toList_eq]
 cases hl:s.data.toList with
 | nil=>have:=size_len s;rw [hl] at this;simp at this;omega
 | cons a t=>rfl
theorem data_nil {s:ByteArray} (h:s.size=0):s.data.toList = []:=List.eq_nil_of_length_eq_zero h
theorem data_cons {s:ByteArray} (h:0<s.size):∃ t,s.data.toList=s[0]::t:=by
 have h2:s.data.toList[0]'(by rw [size_len];exact h)=s[0]:=rfl
 cases hl:s.data.toList with
 | nil=>have:=size_len s;rw [hl] at this;simp at this;omega
 | cons a t=>simp only [hl] at h2;exact ⟨t,by rw [←h2];rfl⟩
theorem u8_eq (c:UInt8) (k:Nat) (hk:k<256):(((c.toNat:Nat):Int)==(k:Int))=(c==UInt8.ofNat k):=by
 rw [Bool.eq_iff_iff,beq_iff_eq,beq_iff_eq]
 constructor
 ·intro h
  have h2:c.toNat=k:=by omega
  rw [←h2];exact UInt8.ofNat_toNat.symm
 ·intro h;subst h
  rw [UInt8.toNat_ofNat']
  have:k % 2 ^ 8=k:=Nat.mod_eq_of_lt (by omega)
  rw [this]
theorem isNeg_pos {s:ByteArray} (h:0<s.size):(((s[0].toNat:Nat):Int)==45)=isNeg s.data.toList:=by
 obtain ⟨t,ht⟩:=data_cons h
 rw [ht]
 have:=u8_eq s[0] 45 (by decide)
 exact this.trans (by unfold isNeg;rfl)
theorem isNegative_any (s:ByteArray) (w:World) :
  Calls Tryz.prog 150 #[.string s] w fun e w'=>e = .returned (.bool (isNeg s.data.toList))∧w=w':=by
 by_cases h:0<s.size
 ·have hE:=empty_false h
  go_enter Tryz.func150,Tryz.ntmps150
  go_wp2
  go_ret
  exact ⟨ret_bool (isNeg_pos h),rfl⟩
 ·have h0:s.size=0:=by omega
  have hE:=empty_true h0
  go_enter Tryz.func150,Tryz.ntmps150
  go_wp2
  go_ret
  exact ⟨ret_bool (by rw [data_nil h0];rfl),rfl⟩
def szB (s:ByteArray):ByteArray:=if isNeg s.data.toList then s.extract 1 s.size else s
theorem szB_data (s:ByteArray):(szB s).data.toList=szL s.data.toList:=by
 unfold szB szL
 by_cases h:isNeg s.data.toList
 ·rw [if_pos h,if_pos h,Lib.extract_data]
  rw [←List.drop_one]
  rw [List.take_of_length_le]
  rw [List.length_drop];rw [size_len];omega
 ·rw [if_neg h,if_neg h]
theorem isNeg_size {s:ByteArray} (h:isNeg s.data.toList=true):0<s.size:=by
 rw [←size_len]
 cases hl:s.data.toList with
 | nil=>rw [hl] at h;cases h
 | cons a t=>simp
theorem szB_size (s:ByteArray):(szB s).size≤s.size:=by
 unfold szB;split
 ·rw [ByteArray.size_extract];omega
 ·exact Nat.le_refl _
theorem sizeText_any (s:ByteArray) (w:World) (hs:s.size≤maxLen) :
  Calls Tryz.prog 125 #[.string s] w fun e w'=>e = .returned (.string (szB s))∧w=w':=by
 unfold maxLen at hs
 by_cases h:isNeg s.data.toList=true
 ·have h0:=isNeg_size h
  go_enter Tryz.func125,Tryz.ntmps125
  go_wp2_with (go_at_call 150;refine (isNegative_any s _).mono ?_;rw [h];rintro e w' ⟨rfl,rfl⟩)
  go_ret
  exact ⟨ret_str (by unfold szB;rw [if_pos h]),rfl⟩
 ·have h':isNeg s.data.toList=false:=by simpa using h
  go_enter Tryz.func125,Tryz.ntmps125
  go_wp2_with (go_at_call 150;refine (isNegative_any s _).mono ?_;rw [h'];rintro e w' ⟨rfl,rfl⟩)
  go_ret
  exact ⟨ret_str (by unfold szB;rw [h'];rfl),rfl⟩
theorem take_snoc (s:ByteArray) (k:Nat) (h:k<s.size):s.data.toList.take (k+1)=s.data.toList.take k ++ [s[k]]:=by
 rw [List.take_succ_eq_append_getElem (by simpa using h)];rfl
theorem mem_get (s:ByteArray) (k:Nat) (h:k<s.size):s[k]∈s.data.toList:=by
 have:s.data.toList[k]'(by rw [size_len];exact h)=s[k]:=rfl
 rw [←this];exact List.getElem_mem _
theorem natOf_take_lt (l:List UInt8) (h:∀ c∈l,isDig c=true) (k:Nat):natOf (l.take k)<10 ^ k:=by
 have h1:=natOf_lt (l.take k) (fun c hc=>h c (List.mem_of_mem_take hc))
 exact Nat.lt_of_lt_of_le h1 (Nat.pow_le_pow_right (by decide) (List.length_take_le _ _))
theorem natOf_take_18 (l:List UInt8) (h:∀ c∈l,isDig c=true) (k:Nat) (hk:k≤18):natOf (l.take k)<1000000000000000000 :=
 Nat.lt_of_lt_of_le (natOf_take_lt l h k) (Nat.le_trans (Nat.pow_le_pow_right (by decide) hk) (by decide))
theorem value_any (s:ByteArray) (w:World) (hs:s.size≤18) (hd:∀ c∈s.data.toList,isDig c=true) :
  Calls Tryz.prog 155 #[.string s] w fun e w'=>e = .returned (.int .u64 (natOf s.data.toList:Nat))∧w=w':=by
 have HD:=Lib.hid hd;clear hd
 go_enter Tryz.func155,Tryz.ntmps155
 go_wp2
 go_loop [3,7] (fun n i=>∃ k:Nat,k≤s.size∧i = .int .i64 k∧n = .int .u64 (natOf (s.data.toList.take k):Nat)) (fun _ i=>s.size - (intOf i).toNat)
 case atStart=>exact ⟨0,Nat.zero_le _,rfl,rfl⟩
 case round =>
  obtain ⟨k,hk,rfl,rfl⟩:=hrel
  by_cases hlt:k<s.size
  ·have hn:=natOf_take_18 s.data.toList HD.out k (by omega)
   have hc:=(isDig_iff s[k]).1 (HD.out _ (mem_get s k hlt))
   have HS:Hid (natOf (s.data.toList.take (k+1))=natOf (s.data.toList.take k)*10+(s[k].toNat - 48)):=by rw [take_snoc s k hlt];exact natOf_snoc _ _
   go_wp2
   go_round
   case rel=>exact ⟨k+1,by omega,by go_num,by rw [HS.out];go_num⟩
   case measure=>simp [intOf];omega
  ·go_wp2
   go_ret
   exact ⟨ret_int (by rw [List.take_of_length_le (by rw [size_len];omega)]),rfl⟩
theorem chk_bad {l:List UInt8} (h:(szL l).all isDig=false):chk l=11:=by unfold chk;rw [h];rfl
theorem chk_good {l:List UInt8} (h:(szL l).all isDig=true) :
  chk l=if (szL l) = []∨((szL l).head? = some 48∧l ≠ [48]) then 11 else if 300<(szL l).length then 4 else 0:=by unfold chk;rw [h];rfl
theorem check_any (s:ByteArray) (w:World) (hs:s.size≤maxLen) :
  Calls Tryz.prog 99 #[.string s] w fun e w'=>e = .returned (.int .i64 (chk s.data.toList))∧w=w':=by
 have hm:s.size≤9223372036854775807:=by unfold maxLen at hs;omega
 have hz:=szB_size s
 have HD:=Lib.hid (szB_data s)
 go_enter Tryz.func99,Tryz.ntmps99
 go_wp2_with (go_at_call 125;refine (sizeText_any s _ hs).mono ?_;rintro e w' ⟨rfl,rfl⟩)
 generalize szB s=t at *
 go_loop [9] (fun i=>∃ k:Nat,k≤t.size∧i = .int .i64 k∧Hid ((t.data.toList.take k).all isDig=true)) (fun i=>t.size - (intOf i).toNat)
 case atStart=>exact ⟨0,Nat.zero_le _,rfl,rfl⟩
 case round =>
  obtain ⟨k,hk,rfl,hd⟩:=hrel
  by_cases hlt:k<t.size
  ·by_cases h1:(t[k].toNat:Int)<48
   ·go_wp2
    go_ret
    refine ⟨ret_int (chk_bad ?_).symm,rfl⟩
    rw [←HD.out,List.all_eq_false]
    refine ⟨t[k],mem_get t k hlt,?_⟩
    rw [isDig_iff];omega
   ·by_cases h2:(57:Int)<t[k].toNat
    ·go_wp2
     go_ret
     refine ⟨ret_int (chk_bad ?_).symm,rfl⟩
     rw [←HD.out,List.all_eq_false]
     refine ⟨t[k],mem_get t k hlt,?_⟩
     rw [isDig_iff];omega
    ·have hd':Hid ((t.data.toList.take (k+1)).all isDig=true):=by
      show (t.data.toList.take (k+1)).all isDig=true
      rw [take_snoc t k hlt,List.all_append,hd.out]
      have:isDig t[k]=true:=by rw [isDig_iff];omega
      simp [this]
     clear hd
     go_wp2
     go_round
     case rel=>exact ⟨k+1,by omega,by go_num,hd'⟩
     case measure=>simp [intOf];omega
  ·have ha:Hid ((szL s.data.toList).all isDig=true):=by
    show (szL s.data.toList).all isDig=true
    rw [←HD.out];have:=hd.out;rwa [List.take_of_length_le (by rw [size_len];omega)] at this
   clear hd
   by_cases h0:t.size=0
   ·have hE:=empty_true h0
    go_wp2
    go_ret
    refine ⟨ret_int ?_,rfl⟩
    rw [chk_good ha.out,if_pos]
    left;rw [←HD.out];exact data_nil h0
   ·have h0':0<t.size:=by omega
    have hE:=empty_false h0'
    obtain ⟨r,hr⟩:=data_cons h0'
    have HR:=Lib.hid hr;clear hr
    by_cases hc:((t[0].toNat:Int)==48)=true
    ·have h48:(szL s.data.toList).head? = some 48:=by
      rw [←HD.out,HR.out,List.head?_cons]
      have:=u8_eq t[0] 48 (by decide)
      rw [show ((48:Nat):Int)=48 from rfl,hc] at this
      exact congrArg some (by simpa using this.symm)
     have H48:=Lib.hid h48;clear h48
     go_wp2
     ·have hx:(!s.toList == [48])=true:=by assumption
      go_ret
      refine ⟨ret_int ?_,rfl⟩
      rw [chk_good ha.out,if_pos]
      rw [ByteArray.toList_eq] at hx
      exact Or.inr ⟨H48.out,by simpa using hx⟩
     ·have hx:(!s.toList == [48])=false:=by assumption
      have hy:(300:Int)<t.size:=by assumption
      go_ret
      refine ⟨ret_int ?_,rfl⟩
      rw [ByteArray.toList_eq] at hx
      rw [chk_good ha.out,if_neg,if_pos]
      ·rw [←HD.out,size_len];omega
      ·rintro (h | h)
       ·rw [←HD.out,HR.out] at h;cases h
       ·exact h.2 (by simpa using hx)
     ·have hx:(!s.toList == [48])=false:=by assumption
      have hy:(t.size:Int)≤300:=by assumption
      go_ret
      refine ⟨ret_int ?_,rfl⟩
      rw [ByteArray.toList_eq] at hx
      rw [chk_good ha.out,if_neg,if_neg]
      ·rw [←HD.out,size_len];omega
      ·rintro (h | h)
       ·rw [←HD.out,HR.out] at h;cases h
       ·exact h.2 (by simpa using hx)
    ·have hc':((t[0].toNat:Int)==48)=false:=by simpa using hc
     have h48:(szL s.data.toList).head? ≠ some 48:=by
      rw [←HD.out,HR.out,List.head?_cons]
      intro e
      have e:=Option.some.inj e
      rw [e] at hc'
      exact absurd hc' (by decide)
     have H48:=Lib.hid h48;clear h48
     go_wp2
     ·have hy:(300:Int)<t.size:=by assumption
      go_ret
      refine ⟨ret_int ?_,rfl⟩
      rw [chk_good ha.out,if_neg,if_pos]
      ·rw [←HD.out,size_len];omega
      ·rintro (h | h)
       ·rw [←HD.out,HR.out] at h;cases h
       ·exact H48.out h.1
     ·have hy:(t.size:Int)≤300:=by assumption
      go_ret
      refine ⟨ret_int ?_,rfl⟩
      rw [chk_good ha.out,if_neg,if_neg]
      ·rw [←HD.out,size_len];omega
      ·rintro (h | h)
       ·rw [←HD.out,HR.out] at h;cases h
       ·exact H48.out h.1
end Go.Proofs.YtjdfjgfdbgmbiaaGreatDoor
