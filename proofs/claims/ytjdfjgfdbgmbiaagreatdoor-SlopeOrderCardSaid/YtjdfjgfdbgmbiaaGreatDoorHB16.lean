/- Parts of the proof of the text YtjdfjgfdbgmbiaaGreatDoorHB39. -/
import Derived.Lib.IndexMore
import Derived.Lib.IndexBytes
import Derived.Lib.TrailingZeros
import Derived.Test.YtjdfjgfdbgmbiaaGreatDoorHB1
import Derived.Test.YtjdfjgfdbgmbiaaGreatDoorHB15
import Derived.Test.YtjdfjgfdbgmbiaaGreatDoorHB2
import Derived.Test.YtjdfjgfdbgmbiaaGreatDoorHB3
import Derived.Test.YtjdfjgfdbgmbiaaGreatDoorHB7
set_option linter.all false
set_option maxRecDepth 100000
set_option maxHeartbeats 8000000
namespace Go.Proofs.YtjdfjgfdbgmbiaaGreatDoor
open Go.Lib
def strQ (q:Rat):ByteArray:=⟨(itoaQ q).toArray⟩
theorem strQ_data (q:Rat):(strQ q).data.toList=itoaQ q:=by unfold strQ;simp
theorem strQ_rat (q:Rat):ratOf (strQ q).data.toList=q:=by rw [strQ_data,ratOf_itoaQ]
theorem strQ_chk {q:Rat} (h:q.num.natAbs<lim) (h':q.den<lim):chkQ (strQ q).data.toList=0:=by rw [strQ_data,chkQ_itoaQ,if_pos ⟨h,h'⟩]
theorem str_of_chkQ {s:ByteArray} (h:chkQ s.data.toList=0):s=strQ (ratOf s.data.toList):=by
 unfold strQ;rw [itoaQ_ratOf h]
theorem strQ_inj {x y:Rat} (h:strQ x=strQ y):x=y:=by rw [←strQ_rat x,←strQ_rat y,h]
def short (z:Int):Prop:=z.natAbs<lim
instance (z:Int):Decidable (short z):=inferInstanceAs (Decidable (_<_))
def lowB (n d:Int):ByteArray:=if short n∧short d then strQ (Rat.divInt n d) else ⟨#[]⟩
def lowE (n d:Int):Int:=if short n∧short d then 0 else 4
def crossOK (x y:Rat):Prop:=short (x.num*y.den)∧short (y.num*x.den)
instance (x y:Rat):Decidable (crossOK x y):=inferInstanceAs (Decidable (_∧_))
def qaddB (x y:Rat):ByteArray:=if crossOK x y then lowB (x.num*y.den+y.num*x.den) (x.den*y.den) else ⟨#[]⟩
def qaddE (x y:Rat):Int:=if crossOK x y then lowE (x.num*y.den+y.num*x.den) (x.den*y.den) else 4
def qmulB (x y:Rat):ByteArray:=lowB (x.num*y.num) (x.den*y.den)
def qmulE (x y:Rat):Int:=lowE (x.num*y.num) (x.den*y.den)
def qdivB (x y:Rat):ByteArray:=lowB (x.num*y.den) (y.num*x.den)
def qdivE (x y:Rat):Int:=lowE (x.num*y.den) (y.num*x.den)
def cmpQ (x y:Rat):Int:=cmpZ (x.num*y.den) (y.num*x.den)
def qcmpR (x y:Rat):Int:=if crossOK x y then cmpQ x y else 0
def qcmpE (x y:Rat):Int:=if crossOK x y then 0 else 4
theorem add_int (x y:Rat):Rat.divInt (x.num*y.den+y.num*x.den) (x.den*y.den)=x+y:=by
 rw [Rat.add_def',←Rat.divInt_ofNat,Int.natCast_mul]
theorem mul_int (x y:Rat):Rat.divInt (x.num*y.num) (x.den*y.den)=x*y:=by
 rw [Rat.mul_def',←Rat.divInt_ofNat,Int.natCast_mul]
theorem div_int (x y:Rat):Rat.divInt (x.num*y.den) (y.num*x.den)=x / y:=by
 rw [Rat.div_def,Rat.inv_def,Int.mul_comm y.num]
 conv=>rhs;arg 1;rw [←Rat.num_divInt_den x]
 rw [Rat.divInt_mul_divInt]
def Bq (k:Nat) (q:Rat):Prop:=q.num.natAbs<tenTo k∧q.den<tenTo k
theorem Bq.lim {k:Nat} {q:Rat} (h:Bq k q) (hk:k≤300):q.num.natAbs<lim∧q.den<lim :=
 ⟨Nat.lt_of_lt_of_le h.1 (tenTo_mono hk),Nat.lt_of_lt_of_le h.2 (tenTo_mono hk)⟩
theorem Bq.up {j k:Nat} {q:Rat} (h:Bq j q) (hk:j≤k):Bq k q :=
 ⟨Nat.lt_of_lt_of_le h.1 (tenTo_mono hk),Nat.lt_of_lt_of_le h.2 (tenTo_mono hk)⟩
theorem Bq.chk {k:Nat} {q:Rat} (h:Bq k q) (hk:k≤300):chkQ (strQ q).data.toList=0:=strQ_chk (h.lim hk).1 (h.lim hk).2
theorem Bq.num {k:Nat} {q:Rat} (h:Bq k q):Bd k q.num:=h.1
theorem Bq.den {k:Nat} {q:Rat} (h:Bq k q):Bd k (q.den:Int):=by show Int.natAbs _<_;rw [Int.natAbs_natCast];exact h.2
theorem Bq.of_int {k : Nat} {n d : Int} (hd : d ≠ 0) (h1 : Bd k n) (h2 : Bd k d) : Bq k (Rat.divInt n d) := by
 have h3 : (Rat.divInt n d).num.natAbs ≤ n.natAbs := by
   rw [Rat.num_divInt, Int.natAbs_ediv_of_dvd (by
     refine Int.dvd_trans ?_ (Int.dvd_mul_left _ _)
     exact Int.gcd_dvd_right _ _), Int.natAbs_mul]
   refine Nat.le_trans (Nat.div_le_self _ _) ?_
   have : d.sign.natAbs ≤ 1 := by rcases Int.lt_trichotomy d 0 with q | q | q
                                  · rw [Int.sign_eq_neg_one_of_neg q]; decide
                                  · exact absurd q hd
                                  · rw [Int.sign_eq_one_of_pos q]; decide
   calc _ ≤ 1 * n.natAbs := Nat.mul_le_mul_right _ this
     _ = n.natAbs := Nat.one_mul _
 have h4 : (Rat.divInt n d).den ≤ d.natAbs := by
   rw [Rat.den_divInt, if_neg hd]; exact Nat.div_le_self _ _
 exact ⟨Nat.lt_of_le_of_lt h3 h1, Nat.lt_of_le_of_lt h4 h2⟩
theorem den_ne (x y:Rat):((x.den:Int)*y.den)≠0:=by
 have h1:=x.den_nz;have h2:=y.den_nz
 rw [←Int.natCast_mul]
 intro h
 have:=Int.ofNat.inj (h:Int.ofNat _=Int.ofNat 0)
 rcases Nat.mul_eq_zero.1 this with q | q
 ·exact h1 q
 ·exact h2 q
theorem lowB_ok {k:Nat} {n d:Int} (hk:k≤300) (h1:Bd k n) (h2:Bd k d):lowB n d=strQ (Rat.divInt n d)∧lowE n d=0:=by
 have h:short n∧short d:=⟨h1.lt hk,h2.lt hk⟩
 exact ⟨if_pos h,if_pos h⟩
theorem qcross_ok {j k:Nat} {x y:Rat} (hx:Bq j x) (hy:Bq k y) (h:j+k≤300):crossOK x y :=
 ⟨(hx.num.mul hy.den).lt h,(hy.num.mul hx.den).lt (by omega)⟩
theorem qadd_ok {j k:Nat} {x y:Rat} (hx:Bq j x) (hy:Bq k y) (h:j+k+1≤300):qaddB x y=strQ (x+y)∧qaddE x y=0∧Bq (j+k+1) (x+y):=by
 have h1:=hx.num.mul hy.den
 have h2:=hy.num.mul hx.den
 rw [Nat.add_comm] at h2
 have h3:=h1.add h2
 have h4:=(hx.den.mul hy.den).up (Nat.le_succ _)
 obtain ⟨l1,l2⟩:=lowB_ok h h3 h4
 have hc:=qcross_ok hx hy (by omega)
 unfold qaddB qaddE
 rw [if_pos hc,if_pos hc,l1,l2,add_int]
 exact ⟨rfl,rfl,by rw [←add_int];exact Bq.of_int (den_ne x y) h3 h4⟩
theorem qmul_ok {j k:Nat} {x y:Rat} (hx:Bq j x) (hy:Bq k y) (h:j+k≤300):qmulB x y=strQ (x*y)∧qmulE x y=0∧Bq (j+k) (x*y):=by
 have h3:=hx.num.mul hy.num
 have h4:=hx.den.mul hy.den
 obtain ⟨l1,l2⟩:=lowB_ok h h3 h4
 unfold qmulB qmulE
 rw [l1,l2,mul_int]
 exact ⟨rfl,rfl,by rw [←mul_int];exact Bq.of_int (den_ne x y) h3 h4⟩
theorem qdiv_ok {j k:Nat} {x y:Rat} (hx:Bq j x) (hy:Bq k y) (h:j+k≤300) (h0:y≠0):qdivB x y=strQ (x / y)∧qdivE x y=0∧Bq (j+k) (x / y):=by
 have h3:=hx.num.mul hy.den
 have h4:=hy.num.mul hx.den
 rw [Nat.add_comm] at h4
 obtain ⟨l1,l2⟩:=lowB_ok h h3 h4
 have hn:y.num*(x.den:Int)≠0:=by
  intro q
  rcases Int.mul_eq_zero.1 q with q | q
  ·exact h0 (Rat.num_eq_zero.1 q)
  ·exact x.den_nz (Int.ofNat.inj q)
 unfold qdivB qdivE
 rw [l1,l2,div_int]
 exact ⟨rfl,rfl,by rw [←div_int];exact Bq.of_int hn h3 h4⟩
theorem qcmp_ok {j k:Nat} {x y:Rat} (hx:Bq j x) (hy:Bq k y) (h:j+k≤300):qcmpR x y=cmpQ x y∧qcmpE x y=0:=by
 have hc:=qcross_ok hx hy h
 exact ⟨if_pos hc,if_pos hc⟩
theorem cmpQ_lt {x y:Rat} (h:x<y):cmpQ x y = -1:=by unfold cmpQ cmpZ;rw [if_pos ((Rat.lt_iff x y).1 h)]
theorem cmpQ_gt {x y:Rat} (h:y<x):cmpQ x y=1:=by
 have:=(Rat.lt_iff y x).1 h
 unfold cmpQ cmpZ;rw [if_neg (by omega),if_pos this]
theorem cmpQ_eq (x:Rat):cmpQ x x=0:=by unfold cmpQ cmpZ;rw [if_neg (by omega),if_neg (by omega)]
theorem ratTri (x y:Rat):x<y∨x=y∨y<x:=by
 rcases Rat.le_total (a:=x) (b:=y) with h | h
 ·rcases Rat.le_iff_lt_or_eq.1 h with q | q
  ·exact Or.inl q
  ·exact Or.inr (Or.inl q)
 ·rcases Rat.le_iff_lt_or_eq.1 h with q | q
  ·exact Or.inr (Or.inr q)
  ·exact Or.inr (Or.inl q.symm)
end Go.Proofs.YtjdfjgfdbgmbiaaGreatDoor
namespace Go.Proofs.YtjdfjgfdbgmbiaaGreatDoor.T
open Go.Proofs.YtjdfjgfdbgmbiaaGreatDoor Go.RowKit
theorem times_core (a b r:ByteArray) (e0:Int) (w:World)
  (h:Calls Tryz.prog 162 #[.string a,.string b] w fun e W'=>e = .returned (.tuple #[.string r,.int .i64 e0])∧Below w.heap.size w W') :
  Calls Tryz.prog 220 #[.string a,.string b] w fun e W'=>e = .returned (.string r)∧Below w.heap.size w W':=by
 have C:=Lib.hid h;clear h
 go_enter Tryz.func220,Tryz.ntmps220
 go_wp2_with fail
 refine C.out.mono ?_
 rintro e w1 ⟨rfl,b⟩
 have H1:=Lib.hid b;clear b
 go_wp2
 go_ret
 exact ⟨rfl,H1.out⟩
theorem divide_core (a b r s:ByteArray) (e0:Int) (w:World)
  (h:Calls Tryz.prog 132 #[.string a,.string b] w fun e W'=>e = .returned (.tuple #[.string r,.string s,.int .i64 e0])∧Below w.heap.size w W') :
  Calls Tryz.prog 258 #[.string a,.string b] w fun e W'=>e = .returned (.tuple #[.string r,.string s])∧Below w.heap.size w W':=by
 have C:=Lib.hid h;clear h
 go_enter Tryz.func258,Tryz.ntmps258
 go_wp2_with fail
 refine C.out.mono ?_
 rintro e w1 ⟨rfl,b⟩
 have H1:=Lib.hid b;clear b
 go_wp2
 go_ret2
 exact ⟨rfl,H1.out⟩
theorem rootOf_core (a r:ByteArray) (e0:Int) (w:World)
  (h:Calls Tryz.prog 133 #[.string a] w fun e W'=>e = .returned (.tuple #[.string r,.int .i64 e0])∧Below w.heap.size w W') :
  Calls Tryz.prog 223 #[.string a] w fun e W'=>e = .returned (.string r)∧Below w.heap.size w W':=by
 have C:=Lib.hid h;clear h
 go_enter Tryz.func223,Tryz.ntmps223
 go_wp2_with fail
 refine C.out.mono ?_
 rintro e w1 ⟨rfl,b⟩
 have H1:=Lib.hid b;clear b
 go_wp2
 go_ret
 exact ⟨rfl,H1.out⟩
theorem otimes (x y:Int) (w:World) (hx:short x) (hy:short y) (hz:short (x*y)) (ht:Tab w) :
  Calls Tryz.prog 220 #[.string (strB x),.string (strB y)] w fun e W'=>e = .returned (.string (strB (x*y)))∧Below w.heap.size w W' :=
 times_core _ _ _ _ w (Mul_str x y w hx hy hz ht)
theorem odivide (x y:Int) (w:World) (hx:short x) (hy:short y) (h0:y≠0) (ht:Tab w) :
  Calls Tryz.prog 258 #[.string (strB x),.string (strB y)] w fun e W'=>e = .returned (.tuple #[.string (strB (x.fdiv y)),.string (strB (x.fmod y))])∧Below w.heap.size w W' :=
 divide_core _ _ _ _ _ w (Divide_strs x y w hx hy h0 ht)
theorem orootOf (x:Int) (w:World) (h0:0≤x) (hx:short x) (ht:Tab w) :
  Calls Tryz.prog 223 #[.string (strB x)] w fun e W'=>e = .returned (.string (strB (rootN x.natAbs:Nat)))∧Below w.heap.size w W' :=
 rootOf_core _ _ _ w (Root_str x w h0 hx ht)
end Go.Proofs.YtjdfjgfdbgmbiaaGreatDoor.T
namespace Go.Proofs.YtjdfjgfdbgmbiaaGreatDoor
open Go.Lib
theorem isNeg_cons {l:List UInt8} (h:isNeg l=true):∃ t,l=45::t∧szL l=t:=by
 cases l with
 | nil=>cases h
 | cons c t =>
  have hc:c=45:=by simpa [isNeg] using h
  subst hc
  exact ⟨t,rfl,by unfold szL;rw [h];rfl⟩
theorem szL_same {l:List UInt8} (h:isNeg l=false):szL l=l:=by unfold szL;rw [h];rfl
def sN (l:List UInt8):List UInt8:=(szL l).takeWhile (· != 47)
theorem cutN_sz (l:List UInt8):isNeg (cutN l)=isNeg l∧szL (cutN l)=sN l:=by
 unfold sN cutN
 cases hn:isNeg l
 ·rw [szL_same hn]
  have h2:isNeg (l.takeWhile (· != 47))=false:=by
   cases l with
   | nil=>rfl
   | cons c t =>
    by_cases hc:c=47
    ·subst hc;rfl
    ·rw [List.takeWhile_cons_of_pos (by simpa using hc)]
     simpa [isNeg] using hn
  exact ⟨h2,szL_same h2⟩
 ·obtain ⟨t,rfl,hs⟩:=isNeg_cons hn
  rw [hs,List.takeWhile_cons_of_pos (by decide)]
  exact ⟨rfl,rfl⟩
end Go.Proofs.YtjdfjgfdbgmbiaaGreatDoor
namespace Go.Proofs.YtjdfjgfdbgmbiaaGreatDoor
open Go.RowKit
def dOK (l:List UInt8):Bool:=chk l==0 && decide ((szL l).length≤18)
theorem dOK_bad {l:List UInt8} (h:chk l≠0∨18<(szL l).length):dOK l=false:=by
 unfold dOK
 rcases h with h | h
 ·rw [show (chk l==0)=false by simpa using h];rfl
 ·rw [decide_eq_false (by omega),Bool.and_false]
theorem dOK_good {l:List UInt8} (ha:(szL l).all isDig=true) (hne:szL l ≠ []) (h48:¬ ((szL l).head? = some 48∧l ≠ [48])) (hl:(szL l).length≤18):dOK l=true:=by
 unfold dOK
 have:chk l=0:=by
  rw [chk_good ha,if_neg (by rintro (h | h);exact hne h;exact h48 h),if_neg (by omega)]
 rw [this,decide_eq_true hl];rfl
def dVal (l:List UInt8):Int:=if dOK l then valOf l else 0
theorem dVal_ok {l:List UInt8} (h:dOK l=true):dVal l=valOf l:=if_pos h
theorem ret_no {l:List UInt8} (h:dOK l=false):Ending.returned (.tuple #[.int .i64 0,.bool false]) = .returned (.tuple #[.int .i64 (dVal l),.bool (dOK l)]):=by unfold dVal;rw [h];rfl
theorem ret_yes {l:List UInt8} {v:Int} (h:dOK l=true) (hv:v=valOf l):Ending.returned (.tuple #[.int .i64 v,.bool true]) = .returned (.tuple #[.int .i64 (dVal l),.bool (dOK l)]):=by unfold dVal;rw [h,hv];rfl
theorem head_size {s:ByteArray} (h:0<s.size):s.data.toList.head? = some s[0]:=by obtain ⟨t,ht⟩:=data_cons h;rw [ht];rfl
theorem ext_size (s:ByteArray):(s.extract 1 s.size).size=s.size - 1:=by rw [ByteArray.size_extract];omega
theorem readDigits_neg (s:ByteArray) (w:World) (hs:s.size≤maxLen) (hn:isNeg s.data.toList=true) (h1:1<s.size) :
  Calls Tryz.prog 122 #[.string s] w fun e W'=>e = .returned (.tuple #[.int .i64 (dVal s.data.toList),.bool (dOK s.data.toList)])∧w=W':=by
 unfold maxLen at hs
 have hsz:=ext_size s
 obtain ⟨t,ht⟩:∃ t,s.extract 1 s.size=t:=⟨_,rfl⟩
 have htl:t.data.toList=szL s.data.toList:=by rw [←ht,←szB_data];unfold szB;rw [if_pos hn]
 rw [ht] at hsz
 have h45:((s[0].toNat:Int)==45)=true:=(isNeg_pos (by omega)).trans hn
 have hE:(s.toList == [48])=false:=by
  rw [ByteArray.toList_eq,beq_eq_false_iff_ne];intro e;have:=congrArg List.length e;rw [size_len] at this;simp at this;omega
 have hg1:(1:Int)<s.size:=by omega
 have hte:=empty_false (s:=t) (by omega)
 have HN:=Lib.hid hn
 have HT:=Lib.hid htl
 clear hn htl
 have h0t:0<t.size:=by omega
 have hl:(szL s.data.toList).length=t.size:=by rw [←HT.out,size_len]
 by_cases h18:18<t.size
 ·have h18':(18:Int)<t.size:=by omega
  have hr:=Lib.hid (dOK_bad (l:=s.data.toList) (.inr (by omega)))
  clear hl
  go_enter Tryz.func122,Tryz.ntmps122
  go_wp2
  go_ret2
  exact ⟨ret_no hr.out,rfl⟩
 have h18':¬ (18:Int)<t.size:=by omega
 by_cases h48:((t[0].toNat:Int)==48)=true
 ·have hc:chk s.data.toList=11:=chk_11 (.inr ⟨by
   rw [←HT.out,head_size (by omega)]
   have:=u8_eq t[0] 48 (by decide)
   rw [show ((48:Nat):Int)=48 from rfl,h48] at this
   exact congrArg some (by simpa using this.symm),fun e=>by have:=congrArg List.length e;rw [size_len] at this;simp at this;omega⟩)
  have hr:=Lib.hid (dOK_bad (l:=s.data.toList) (.inl (by rw [hc];decide)))
  clear hl hc
  go_enter Tryz.func122,Tryz.ntmps122
  go_wp2
  go_ret2
  exact ⟨ret_no hr.out,rfl⟩
 ·have h48':((t[0].toNat:Int)==48)=false:=by simpa using h48
  have HF:=Lib.hid (show szL s.data.toList ≠ []∧¬ ((szL s.data.toList).head? = some 48∧s.data.toList ≠ [48])∧(szL s.data.toList).length≤18 from ⟨fun e=>by rw [e] at hl;simp at hl;omega,fun ⟨e,_⟩=>by
   rw [←HT.out,head_size (by omega)] at e
   have e:=Option.some.inj e
   rw [e] at h48';exact absurd h48' (by decide),by omega⟩)
  clear hl h48
  go_enter Tryz.func122,Tryz.ntmps122
  go_wp2
  go_loop [6,38] (fun n i=>∃ k:Nat,k≤t.size∧i = .int .i64 k∧n = .int .i64 (natOf (t.data.toList.take k):Nat)∧Hid ((t.data.toList.take k).all isDig=true)) (fun _ i=>t.size - (intOf i).toNat)
  case atStart=>exact ⟨0,Nat.zero_le _,rfl,rfl,rfl⟩
  case round =>
   obtain ⟨k,hk,rfl,rfl,hd⟩:=hrel
   by_cases hlt:k<t.size
   ·by_cases h3:(t[k].toNat:Int)<48
    ·go_wp2
     go_ret2
     refine ⟨ret_no (dOK_bad (.inl ?_)),rfl⟩
     rw [chk_bad]
     ·decide
     ·rw [←HT.out,List.all_eq_false];exact ⟨t[k],mem_get t k hlt,by rw [isDig_iff];omega⟩
    ·by_cases h4:(57:Int)<t[k].toNat
     ·go_wp2
      go_ret2
      refine ⟨ret_no (dOK_bad (.inl ?_)),rfl⟩
      rw [chk_bad]
      ·decide
      ·rw [←HT.out,List.all_eq_false];exact ⟨t[k],mem_get t k hlt,by rw [isDig_iff];omega⟩
     ·have hdk:isDig t[k]=true:=by rw [isDig_iff];omega
      have hd':Hid ((t.data.toList.take (k+1)).all isDig=true):=by
       show (t.data.toList.take (k+1)).all isDig=true
       rw [take_snoc t k hlt,List.all_append,hd.out];simp [hdk]
      have hn:natOf (t.data.toList.take k)<1000000000000000000:=by
       refine Nat.lt_of_lt_of_le (natOf_lt _ (fun c hc=>List.all_eq_true.1 hd.out c hc)) ?_
       exact Nat.le_trans (Nat.pow_le_pow_right (by decide) (Nat.le_trans (List.length_take_le _ _) (by omega:k≤18))) (by decide)
      have HS:Hid (natOf (t.data.toList.take (k+1))=natOf (t.data.toList.take k)*10+(t[k].toNat - 48)):=by rw [take_snoc t k hlt];exact natOf_snoc _ _
      have hn17:natOf (t.data.toList.take (k+1))<1000000000000000000:=by
       refine Nat.lt_of_lt_of_le (natOf_lt _ (fun c hc=>List.all_eq_true.1 hd'.out c hc)) ?_
       exact Nat.le_trans (Nat.pow_le_pow_right (by decide) (Nat.le_trans (List.length_take_le _ _) (by omega:k+1≤18))) (by decide)
      rw [HS.out] at hn17
      clear hd hdk
      go_wp2
      go_round
      case rel=>exact ⟨k+1,by omega,by go_num,by rw [HS.out];go_num,hd'⟩
      case measure=>simp [intOf];omega
   ·have hk2:t.data.toList.take k=t.data.toList:=List.take_of_length_le (by rw [size_len];omega)
    have hda:=hd.out
    rw [hk2,HT.out] at hda
    rw [hk2]
    have hok:=dOK_good hda HF.out.1 HF.out.2.1 HF.out.2.2
    have hn:natOf t.data.toList<1000000000000000000:=by
     refine Nat.lt_of_lt_of_le (natOf_lt _ (fun c hc=>List.all_eq_true.1 (by rw [HT.out];exact hda) c hc)) ?_
     exact Nat.le_trans (Nat.pow_le_pow_right (by decide) (show t.data.toList.length≤18 by rw [size_len];omega)) (by decide)
    have HO:=Lib.hid (And.intro hok (show -(natOf t.data.toList:Int)=valOf s.data.toList by rw [valOf_szL,HN.out,HT.out];rfl))
    clear hok hda hk2 hd
    go_wp2
    go_ret2
    exact ⟨ret_yes HO.out.1 HO.out.2,rfl⟩
theorem readDigits_pos (t:ByteArray) (w:World) (hs:t.size≤maxLen) (hn:isNeg t.data.toList=false) (h1:1<t.size) :
  Calls Tryz.prog 122 #[.string t] w fun e W'=>e = .returned (.tuple #[.int .i64 (dVal t.data.toList),.bool (dOK t.data.toList)])∧w=W':=by
 unfold maxLen at hs
 have htl:t.data.toList=szL t.data.toList:=(szL_same hn).symm
 have h45:((t[0].toNat:Int)==45)=false:=(isNeg_pos (by omega)).trans hn
 have hg1:(1:Int)<t.size:=by omega
 have hte:=empty_false (s:=t) (by omega)
 have HN:=Lib.hid hn
 have HT:=Lib.hid htl
 clear hn htl
 have h0t:0<t.size:=by omega
 have hl:(szL t.data.toList).length=t.size:=by rw [←HT.out,size_len]
 by_cases h18:18<t.size
 ·have h18':(18:Int)<t.size:=by omega
  have hr:=Lib.hid (dOK_bad (l:=t.data.toList) (.inr (by omega)))
  clear hl
  go_enter Tryz.func122,Tryz.ntmps122
  go_wp2
  all_goals (go_ret2;exact ⟨ret_no hr.out,rfl⟩)
 have h18':¬ (18:Int)<t.size:=by omega
 by_cases h48:((t[0].toNat:Int)==48)=true∧(t.toList == [48])=false
 ·obtain ⟨h48,hE⟩:=h48
  have hc:chk t.data.toList=11:=chk_11 (.inr ⟨by
   rw [←HT.out,head_size (by omega)]
   have:=u8_eq t[0] 48 (by decide)
   rw [show ((48:Nat):Int)=48 from rfl,h48] at this
   exact congrArg some (by simpa using this.symm),fun e=>by rw [ByteArray.toList_eq,e] at hE;cases hE⟩)
  have hr:=Lib.hid (dOK_bad (l:=t.data.toList) (.inl (by rw [hc];decide)))
  clear hl hc
  go_enter Tryz.func122,Tryz.ntmps122
  go_wp2
  all_goals (go_ret2;exact ⟨ret_no hr.out,rfl⟩)
 ·have h48':(((t[0].toNat:Int)==48) && !(t.toList == [48]))=false:=by
   cases h5:((t[0].toNat:Int)==48)
   ·rfl
   ·cases h6:(t.toList == [48])
    ·exact absurd ⟨h5,h6⟩ h48
    ·rfl
  have HF:=Lib.hid (show szL t.data.toList ≠ []∧¬ ((szL t.data.toList).head? = some 48∧t.data.toList ≠ [48])∧(szL t.data.toList).length≤18 from ⟨fun e=>by rw [e] at hl;simp at hl;omega,fun ⟨e,e2⟩=>by
   rw [←HT.out,head_size (by omega)] at e
   have e:=Option.some.inj e
   apply h48
   refine ⟨by rw [e];decide,?_⟩
   rw [ByteArray.toList_eq,beq_eq_false_iff_ne];exact e2,by omega⟩)
  clear hl h48
  by_cases h48a:((t[0].toNat:Int)==48)=true
  ·have hE:(t.toList == [48])=true:=by rw [h48a] at h48';simpa using h48'
   clear h48'
   go_enter Tryz.func122,Tryz.ntmps122
   go_wp2
   go_loop [6,38] (fun n i=>∃ k:Nat,k≤t.size∧i = .int .i64 k∧n = .int .i64 (natOf (t.data.toList.take k):Nat)∧Hid ((t.data.toList.take k).all isDig=true)) (fun _ i=>t.size - (intOf i).toNat)
   case atStart=>exact ⟨0,Nat.zero_le _,rfl,rfl,rfl⟩
   case round =>
    obtain ⟨k,hk,rfl,rfl,hd⟩:=hrel
    by_cases hlt:k<t.size
    ·by_cases h3:(t[k].toNat:Int)<48
     ·go_wp2
      go_ret2
      refine ⟨ret_no (dOK_bad (.inl ?_)),rfl⟩
      rw [chk_bad]
      ·decide
      ·rw [←HT.out,List.all_eq_false];exact ⟨t[k],mem_get t k hlt,by rw [isDig_iff];omega⟩
     ·by_cases h4:(57:Int)<t[k].toNat
      ·go_wp2
       go_ret2
       refine ⟨ret_no (dOK_bad (.inl ?_)),rfl⟩
       rw [chk_bad]
       ·decide
       ·rw [←HT.out,List.all_eq_false];exact ⟨t[k],mem_get t k hlt,by rw [isDig_iff];omega⟩
      ·have hdk:isDig t[k]=true:=by rw [isDig_iff];omega
       have hd':Hid ((t.data.toList.take (k+1)).all isDig=true):=by
        show (t.data.toList.take (k+1)).all isDig=true
        rw [take_snoc t k hlt,List.all_append,hd.out];simp [hdk]
       have hn:natOf (t.data.toList.take k)<1000000000000000000:=by
        refine Nat.lt_of_lt_of_le (natOf_lt _ (fun c hc=>List.all_eq_true.1 hd.out c hc)) ?_
        exact Nat.le_trans (Nat.pow_le_pow_right (by decide) (Nat.le_trans (List.length_take_le _ _) (by omega:k≤18))) (by decide)
       have HS:Hid (natOf (t.data.toList.take (k+1))=natOf (t.data.toList.take k)*10+(t[k].toNat - 48)):=by rw [take_snoc t k hlt];exact natOf_snoc _ _
       have hn17:natOf (t.data.toList.take (k+1))<1000000000000000000:=by
        refine Nat.lt_of_lt_of_le (natOf_lt _ (fun c hc=>List.all_eq_true.1 hd'.out c hc)) ?_
        exact Nat.le_trans (Nat.pow_le_pow_right (by decide) (Nat.le_trans (List.length_take_le _ _) (by omega:k+1≤18))) (by decide)
       rw [HS.out] at hn17
       clear hd hdk
       go_wp2
       go_round
       case rel=>exact ⟨k+1,by omega,by go_num,by rw [HS.out];go_num,hd'⟩
       case measure=>simp [intOf];omega
    ·have hk2:t.data.toList.take k=t.data.toList:=List.take_of_length_le (by rw [size_len];omega)
     have hda:=hd.out
     rw [hk2,HT.out] at hda
     rw [hk2]
     have hok:=dOK_good hda HF.out.1 HF.out.2.1 HF.out.2.2
     have hn:natOf t.data.toList<1000000000000000000:=by
      refine Nat.lt_of_lt_of_le (natOf_lt _ (fun c hc=>List.all_eq_true.1 (by rw [HT.out];exact hda) c hc)) ?_
      exact Nat.le_trans (Nat.pow_le_pow_right (by decide) (show t.data.toList.length≤18 by rw [size_len];omega)) (by decide)
     have HO:=Lib.hid (And.intro hok (show (natOf t.data.toList:Int)=valOf t.data.toList by rw [valOf_szL,HN.out,if_neg (by decide),szL_same HN.out]))
     clear hok hda hk2 hd
     go_wp2
     go_ret2
     exact ⟨ret_yes HO.out.1 HO.out.2,rfl⟩
  ·have h48b:((t[0].toNat:Int)==48)=false:=by simpa using h48a
   clear h48' h48a
   go_enter Tryz.func122,Tryz.ntmps122
   go_wp2
   go_loop [6,38] (fun n i=>∃ k:Nat,k≤t.size∧i = .int .i64 k∧n = .int .i64 (natOf (t.data.toList.take k):Nat)∧Hid ((t.data.toList.take k).all isDig=true)) (fun _ i=>t.size - (intOf i).toNat)
   case atStart=>exact ⟨0,Nat.zero_le _,rfl,rfl,rfl⟩
   case round =>
    obtain ⟨k,hk,rfl,rfl,hd⟩:=hrel
    by_cases hlt:k<t.size
    ·by_cases h3:(t[k].toNat:Int)<48
     ·go_wp2
      go_ret2
      refine ⟨ret_no (dOK_bad (.inl ?_)),rfl⟩
      rw [chk_bad]
      ·decide
      ·rw [←HT.out,List.all_eq_false];exact ⟨t[k],mem_get t k hlt,by rw [isDig_iff];omega⟩
     ·by_cases h4:(57:Int)<t[k].toNat
      ·go_wp2
       go_ret2
       refine ⟨ret_no (dOK_bad (.inl ?_)),rfl⟩
       rw [chk_bad]
       ·decide
       ·rw [←HT.out,List.all_eq_false];exact ⟨t[k],mem_get t k hlt,by rw [isDig_iff];omega⟩
      ·have hdk:isDig t[k]=true:=by rw [isDig_iff];omega
       have hd':Hid ((t.data.toList.take (k+1)).all isDig=true):=by
        show (t.data.toList.take (k+1)).all isDig=true
        rw [take_snoc t k hlt,List.all_append,hd.out];simp [hdk]
       have hn:natOf (t.data.toList.take k)<1000000000000000000:=by
        refine Nat.lt_of_lt_of_le (natOf_lt _ (fun c hc=>List.all_eq_true.1 hd.out c hc)) ?_
        exact Nat.le_trans (Nat.pow_le_pow_right (by decide) (Nat.le_trans (List.length_take_le _ _) (by omega:k≤18))) (by decide)
       have HS:Hid (natOf (t.data.toList.take (k+1))=natOf (t.data.toList.take k)*10+(t[k].toNat - 48)):=by rw [take_snoc t k hlt];exact natOf_snoc _ _
       have hn17:natOf (t.data.toList.take (k+1))<1000000000000000000:=by
        refine Nat.lt_of_lt_of_le (natOf_lt _ (fun c hc=>List.all_eq_true.1 hd'.out c hc)) ?_
        exact Nat.le_trans (Nat.pow_le_pow_right (by decide) (Nat.le_trans (List.length_take_le _ _) (by omega:k+1≤18))) (by decide)
       rw [HS.out] at hn17
       clear hd hdk
       go_wp2
       go_round
       case rel=>exact ⟨k+1,by omega,by go_num,by rw [HS.out];go_num,hd'⟩
       case measure=>simp [intOf];omega
    ·have hk2:t.data.toList.take k=t.data.toList:=List.take_of_length_le (by rw [size_len];omega)
     have hda:=hd.out
     rw [hk2,HT.out] at hda
     rw [hk2]
     have hok:=dOK_good hda HF.out.1 HF.out.2.1 HF.out.2.2
     have hn:natOf t.data.toList<1000000000000000000:=by
      refine Nat.lt_of_lt_of_le (natOf_lt _ (fun c hc=>List.all_eq_true.1 (by rw [HT.out];exact hda) c hc)) ?_
      exact Nat.le_trans (Nat.pow_le_pow_right (by decide) (show t.data.toList.length≤18 by rw [size_len];omega)) (by decide)
     have HO:=Lib.hid (And.intro hok (show (natOf t.data.toList:Int)=valOf t.data.toList by rw [valOf_szL,HN.out,if_neg (by decide),szL_same HN.out]))
     clear hok hda hk2 hd
     go_wp2
     go_ret2
     exact ⟨ret_yes HO.out.1 HO.out.2,rfl⟩
theorem readDigits_one (t:ByteArray) (w:World) (h:t.size=1) :
  Calls Tryz.prog 122 #[.string t] w fun e W'=>e = .returned (.tuple #[.int .i64 (dVal t.data.toList),.bool (dOK t.data.toList)])∧w=W':=by
 have h0t:0<t.size:=by omega
 obtain ⟨u,hu⟩:=data_cons h0t
 have hl:=size_len t
 rw [hu,h] at hl
 have hu0:u = []:=List.eq_nil_of_length_eq_zero (by simpa using hl)
 rw [hu0] at hu
 have hte:=empty_false h0t
 have hs1:(t.size:Int)=1:=by omega
 clear hl hu0
 by_cases hd:isDig t[0]=true
 ·have hq:=(isDig_iff t[0]).1 hd
  have h45:((t[0].toNat:Int)==45)=false:=by rw [beq_eq_false_iff_ne];omega
  have hok:dOK t.data.toList=true∧((t[0].toNat - 48:Nat):Int)=valOf t.data.toList:=by
   rw [hu]
   have hng:isNeg [t[0]]=false:=by
    unfold isNeg
    rw [List.head?_cons,beq_eq_false_iff_ne]
    intro e
    have e:=Option.some.inj e
    rw [e] at hq;exact absurd hq.1 (by decide)
   refine ⟨dOK_good (by rw [szL_same hng];simp [hd]) (by rw [szL_same hng];simp) (by
    rw [szL_same hng]
    rintro ⟨e,e2⟩
    have e:=Option.some.inj e
    exact e2 (by rw [e])) (by rw [szL_same hng];simp),?_⟩
   rw [valOf_szL,hng,szL_same hng,if_neg (by decide)]
   show _=(((0*10+(t[0].toNat - 48):Nat)):Int)
   omega
  have HO:=Lib.hid hok
  have hE:(((t[0].toNat:Int)==48) && !(t.toList == [48]))=false:=by
   rw [ByteArray.toList_eq,hu]
   by_cases h8:t[0]=48
   ·rw [h8];rfl
   ·have:=u8_eq t[0] 48 (by decide)
    rw [show ((48:Nat):Int)=48 from rfl] at this
    rw [this,show (t[0]==UInt8.ofNat 48)=false by rw [beq_eq_false_iff_ne];exact h8];rfl
  have HE:=Lib.hid hE
  clear hok hu hd hE u
  by_cases h8:((t[0].toNat:Int)==48)=true
  ·have hE2:(t.toList == [48])=true:=by have:=HE.out;rw [h8] at this;simpa using this
   go_enter Tryz.func122,Tryz.ntmps122
   go_wp2
   go_loop [6,38] (fun n i=>(i = .int .i64 0∧n = .int .i64 0)∨(i = .int .i64 1∧n = .int .i64 (t[0].toNat - 48:Nat))) (fun _ i=>1 - (intOf i).toNat)
   case atStart=>exact .inl ⟨rfl,rfl⟩
   case round =>
    rcases hrel with ⟨rfl,rfl⟩ | ⟨rfl,rfl⟩
    ·go_wp2
     go_round
     case rel=>exact .inr ⟨by go_num,by go_num⟩
     case measure=>simp [intOf]
    ·go_wp2
     go_ret2
     exact ⟨ret_yes HO.out.1 HO.out.2,rfl⟩
  ·have h8':((t[0].toNat:Int)==48)=false:=by simpa using h8
   clear h8
   go_enter Tryz.func122,Tryz.ntmps122
   go_wp2
   go_loop [6,38] (fun n i=>(i = .int .i64 0∧n = .int .i64 0)∨(i = .int .i64 1∧n = .int .i64 (t[0].toNat - 48:Nat))) (fun _ i=>1 - (intOf i).toNat)
   case atStart=>exact .inl ⟨rfl,rfl⟩
   case round =>
    rcases hrel with ⟨rfl,rfl⟩ | ⟨rfl,rfl⟩
    ·go_wp2
     go_round
     case rel=>exact .inr ⟨by go_num,by go_num⟩
     case measure=>simp [intOf]
    ·go_wp2
     go_ret2
     exact ⟨ret_yes HO.out.1 HO.out.2,rfl⟩
 ·have hr:dOK t.data.toList=false:=dOK_bad (.inl (by
   rw [hu]
   cases hn:isNeg [t[0]]
   ·rw [chk_bad]
    ·decide
    ·rw [szL_same hn];simpa using hd
   ·rw [chk_11]
    ·decide
    ·left;unfold szL;rw [hn];rfl))
  have h8:((t[0].toNat:Int)==48)=false:=by
   rw [beq_eq_false_iff_ne];intro e;apply hd;rw [isDig_iff];omega
  have hq:(t[0].toNat:Int)<48∨(57:Int)<t[0].toNat:=by
   by_cases h1:(t[0].toNat:Int)<48
   ·exact .inl h1
   ·right
    have:¬ (48≤t[0].toNat∧t[0].toNat≤57):=fun q=>hd ((isDig_iff _).2 q)
    omega
  have HR:=Lib.hid hr
  clear hr hu hd u
  rcases hq with h1 | h1
  ·go_enter Tryz.func122,Tryz.ntmps122
   go_wp2
   go_loop [6,38] (fun n i=>i = .int .i64 0∧n = .int .i64 0) (fun _ i=>1 - (intOf i).toNat)
   case atStart=>exact ⟨rfl,rfl⟩
   case round =>
    obtain ⟨rfl,rfl⟩:=hrel
    go_wp2
    go_ret2
    exact ⟨ret_no HR.out,rfl⟩
  ·have h2:¬ (t[0].toNat:Int)<48:=by omega
   go_enter Tryz.func122,Tryz.ntmps122
   go_wp2
   go_loop [6,38] (fun n i=>i = .int .i64 0∧n = .int .i64 0) (fun _ i=>1 - (intOf i).toNat)
   case atStart=>exact ⟨rfl,rfl⟩
   case round =>
    obtain ⟨rfl,rfl⟩:=hrel
    go_wp2
    go_ret2
    exact ⟨ret_no HR.out,rfl⟩
theorem readDigits_any (s:ByteArray) (w:World) (hs:s.size≤maxLen) :
  Calls Tryz.prog 122 #[.string s] w fun e W'=>e = .returned (.tuple #[.int .i64 (dVal s.data.toList),.bool (dOK s.data.toList)])∧w=W':=by
 by_cases h0:s.size=0
 ·have hE:=empty_true h0
  have hr:=Lib.hid (dOK_bad (l:=s.data.toList) (.inl (by rw [data_nil h0];decide)))
  go_enter Tryz.func122,Tryz.ntmps122
  go_wp2
  all_goals (go_ret2;exact ⟨ret_no hr.out,rfl⟩)
 ·by_cases h1:s.size=1
  ·exact readDigits_one s w h1
  ·cases hn:isNeg s.data.toList
   ·exact readDigits_pos s w hs hn (by omega)
   ·exact readDigits_neg s w hs hn (by omega)
end Go.Proofs.YtjdfjgfdbgmbiaaGreatDoor
namespace Go.Proofs.YtjdfjgfdbgmbiaaGreatDoor
open Go.Lib
theorem indexByte_no {l:List UInt8} {c:UInt8} (h:c ∉ l):indexByte l c = -1:=by
 induction l with
 | nil=>rfl
 | cons a t ih =>
  have h1:a≠c:=fun q=>h (by simp [q])
  have h2:c ∉ t:=fun q=>h (by simp [q])
  unfold indexByte
  rw [if_neg (by simpa using h1),ih h2];rfl
theorem indexByte_at {s:List UInt8} {c:UInt8} (t:List UInt8) (h:c ∉ s):indexByte (s++c::t) c=s.length:=by
 induction s with
 | nil=>simp [indexByte]
 | cons a s ih =>
  have h1:a≠c:=fun q=>h (by simp [q])
  have h2:c ∉ s:=fun q=>h (by simp [q])
  rw [List.cons_append]
  unfold indexByte
  rw [if_neg (by simpa using h1),ih h2,if_neg (by simp)]
  simp
theorem cutN_le (l:List UInt8):(cutN l).length≤l.length:=by
 rcases cut_eq l with ⟨_,h2,_⟩ | ⟨_,h2⟩
 ·rw [←h2];omega
 ·have:=congrArg List.length h2
  simp only [List.length_append,List.length_cons] at this;omega
end Go.Proofs.YtjdfjgfdbgmbiaaGreatDoor
namespace Go.Proofs.YtjdfjgfdbgmbiaaGreatDoor
open Go.RowKit
def tooL:Int := -9223372036854775808
theorem mach_size (a:Int) (w:World) (h0 : -9223372036854775808<a) (h1:a≤9223372036854775807) :
  Calls Tryz.prog 147 #[.int .i64 a] w fun e W'=>e = .returned (.int .u64 (a.natAbs:Int))∧w=W':=by
 by_cases hn:a<0
 ·go_enter Tryz.func147,Tryz.ntmps147
  go_wp2
  go_ret
  exact ⟨ret_int (by omega),rfl⟩
 ·go_enter Tryz.func147,Tryz.ntmps147
  go_wp2
  go_ret
  exact ⟨ret_int (by omega),rfl⟩
theorem mach_neg (a:Int) (w:World) :
  Calls Tryz.prog 292 #[.int .i64 a] w fun e W'=>e = .returned (.bool (decide (a<0)))∧w=W':=by
 go_enter Tryz.func292,Tryz.ntmps292
 go_wp2
 go_ret
 exact ⟨rfl,rfl⟩
theorem mach_one (a:Int) (w:World) :
  Calls Tryz.prog 293 #[.int .i64 a] w fun e W'=>e = .returned (.bool (a==1))∧w=W':=by
 go_enter Tryz.func293,Tryz.ntmps293
 go_wp2
 go_ret
 exact ⟨rfl,rfl⟩
theorem mach_opp (a:Int) (w:World) (h0 : -9223372036854775808<a) (h1:a≤9223372036854775807) :
  Calls Tryz.prog 294 #[.int .i64 a] w fun e W'=>e = .returned (.int .i64 (-a))∧w=W':=by
 go_enter Tryz.func294,Tryz.ntmps294
 go_wp2
 go_ret
 exact ⟨ret_int (by omega),rfl⟩
theorem mach_err (a:Int) (w:World) :
  Calls Tryz.prog 291 #[.int .i64 a] w fun e W'=>e = .returned (.int .i64 (if a=tooL then 4 else 0))∧w=W':=by
 by_cases h:a=tooL
 ·rw [if_pos h]
  unfold tooL at h;subst h
  go_enter Tryz.func291,Tryz.ntmps291
  go_wp2
  go_ret
  exact ⟨rfl,rfl⟩
 ·rw [if_neg h]
  unfold tooL at h
  go_enter Tryz.func291,Tryz.ntmps291
  go_wp2
  go_ret
  exact ⟨rfl,rfl⟩
theorem mach_over (a b:Int) (w:World) (h0 : -9223372036854775808<a) (h1:a≤9223372036854775807) (hb:0<b) (h2:b≤9223372036854775807) :
  Calls Tryz.prog 295 #[.int .i64 a,.int .i64 b] w fun e W'=>e = .returned (.int .i64 (a.tdiv b))∧w=W':=by
 have hb0:¬ b=0:=by omega
 have hb1:(b==0)=false:=by simpa using hb0
 go_enter Tryz.func295,Tryz.ntmps295
 go_wp2
 go_ret
 exact ⟨ret_int (by omega),rfl⟩
theorem mach_plus (a b:Int) (w:World) (h0 : -9223372036854775808<a) (h1:a≤9223372036854775807) (h2 : -9223372036854775808<b) (h3:b≤9223372036854775807)
  (h4 : -9223372036854775808<a+b) (h5:a+b≤9223372036854775807) :
  Calls Tryz.prog 296 #[.int .i64 a,.int .i64 b] w fun e W'=>e = .returned (.int .i64 (a+b))∧w=W':=by
 have n1:(a == -9223372036854775808)=false:=by simp;omega
 have n2:(b == -9223372036854775808)=false:=by simp;omega
 go_enter Tryz.func296,Tryz.ntmps296
 go_wp2
 go_ret
 exact ⟨ret_int (by omega),rfl⟩
theorem mach_plus1 (b:Int) (w:World) :
  Calls Tryz.prog 296 #[.int .i64 tooL,.int .i64 b] w fun e W'=>e = .returned (.int .i64 tooL)∧w=W':=by
 unfold tooL
 go_enter Tryz.func296,Tryz.ntmps296
 go_wp2
 go_ret
 exact ⟨rfl,rfl⟩
theorem mach_plus2 (a:Int) (w:World) :
  Calls Tryz.prog 296 #[.int .i64 a,.int .i64 tooL] w fun e W'=>e = .returned (.int .i64 tooL)∧w=W':=by
 by_cases h:a = -9223372036854775808
 ·subst h
  exact mach_plus1 _ w
 ·unfold tooL
  go_enter Tryz.func296,Tryz.ntmps296
  go_wp2
  go_ret
  exact ⟨rfl,rfl⟩
def timesM (a b:Int):Int:=if (a*b).natAbs<4611686018427387904 then a*b else tooL
theorem mach_times (a b:Int) (w:World) (h0 : -9223372036854775808<a) (h1:a≤9223372036854775807) (h2 : -9223372036854775808<b) (h3:b≤9223372036854775807) :
  Calls Tryz.prog 297 #[.int .i64 a,.int .i64 b] w fun e W'=>e = .returned (.int .i64 (timesM a b))∧w=W':=by
 have ca:=fun W=>mach_size a W h0 h1
 have cb:=fun W=>mach_size b W h2 h3
 have cm:=fun W=>Tryz.bits_Mul64 a.natAbs b.natAbs (by omega) (by omega) W
 have hab:(a*b).natAbs=a.natAbs*b.natAbs:=Int.natAbs_mul a b
 have C:=Lib.hid (And.intro ca (And.intro cb cm))
 clear ca cb cm
 generalize hx:a.natAbs*b.natAbs=x at *
 by_cases hb:18446744073709551616≤x
 ·have e1:timesM a b=tooL:=if_neg (by omega)
  have d1:((x / 18446744073709551616:Nat):Int)≠0:=by omega
  rw [e1];unfold tooL
  have D:=Lib.hid d1
  clear hx hab hb e1
  generalize x / 18446744073709551616=hi at *
  generalize x % 18446744073709551616=lo at *
  go_enter Tryz.func297,Tryz.ntmps297
  go_wp2_with fail
  refine (C.out.1 _).mono ?_
  rintro e w' ⟨rfl,rfl⟩
  go_wp2_with fail
  refine (C.out.2.1 _).mono ?_
  rintro e w' ⟨rfl,rfl⟩
  go_wp2_with fail
  refine (C.out.2.2 _).mono ?_
  rintro e w' ⟨rfl,rfl⟩
  go_wp2
  go_ret
  exact ⟨rfl,rfl⟩
 ·have d1:x / 18446744073709551616=0:=by omega
  have d2:x % 18446744073709551616=x:=by omega
  rw [d1,d2] at C
  by_cases hs:4611686018427387904≤x
  ·have e1:timesM a b=tooL:=if_neg (by omega)
   rw [e1];unfold tooL
   have hs':(4611686018427387904:Int)≤(x:Int):=by omega
   clear hx hab hb e1 d1 d2
   go_enter Tryz.func297,Tryz.ntmps297
   go_wp2_with fail
   refine (C.out.1 _).mono ?_
   rintro e w' ⟨rfl,rfl⟩
   go_wp2_with fail
   refine (C.out.2.1 _).mono ?_
   rintro e w' ⟨rfl,rfl⟩
   go_wp2_with fail
   refine (C.out.2.2 _).mono ?_
   rintro e w' ⟨rfl,rfl⟩
   go_wp2
   go_ret
   exact ⟨rfl,rfl⟩
  ·have e1:timesM a b=a*b:=if_pos (by omega)
   rw [e1]
   have hs':¬ (4611686018427387904:Int)≤(x:Int):=by omega
   have l1 : -9223372036854775808≤a*b:=by omega
   have l2:a*b≤9223372036854775807:=by omega
   clear hx hab hb e1 d1 d2 hs
   generalize (x:Int)=X at *
   go_enter Tryz.func297,Tryz.ntmps297
   go_wp2_with fail
   refine (C.out.1 _).mono ?_
   rintro e w' ⟨rfl,rfl⟩
   go_wp2_with fail
   refine (C.out.2.1 _).mono ?_
   rintro e w' ⟨rfl,rfl⟩
   go_wp2_with fail
   refine (C.out.2.2 _).mono ?_
   rintro e w' ⟨rfl,rfl⟩
   go_wp2
   go_ret
   exact ⟨ret_int (by omega),rfl⟩
end Go.Proofs.YtjdfjgfdbgmbiaaGreatDoor
namespace Go.Proofs.YtjdfjgfdbgmbiaaGreatDoor
open Go.Lib
theorem ctz_spec {x:Nat} (h0:x≠0) (h:x<18446744073709551616):∃ m,x=2 ^ ctz 64 x*(2*m+1)∧ctz 64 x<64:=by
 obtain ⟨m,h1,h2⟩:=ctzFrom_spec 64 x (by omega) (by simpa using h)
 exact ⟨m,by unfold ctz;rw [if_neg h0];exact h1,by unfold ctz;rw [if_neg h0];exact h2⟩
theorem odd_cop (k m:Nat):Nat.Coprime (2 ^ k) (2*m+1):=by
 refine Nat.Coprime.pow_left k ?_
 unfold Nat.Coprime
 rw [Nat.gcd_rec,show (2*m+1) % 2=1 by omega];rfl
theorem gcd_odd (m k n:Nat):Nat.gcd (2*m+1) (2 ^ k*n)=Nat.gcd (2*m+1) n:=by
 rw [Nat.gcd_comm,Nat.Coprime.gcd_mul_left_cancel n (odd_cop k m),Nat.gcd_comm]
theorem shr_odd {x:Nat} (h0:x≠0) (h:x<18446744073709551616):∃ m,x / 2 ^ ctz 64 x=2*m+1∧x=2 ^ ctz 64 x*(2*m+1):=by
 obtain ⟨m,h1,_⟩:=ctz_spec h0 h
 refine ⟨m,?_,h1⟩
 have:x / 2 ^ ctz 64 x=(2 ^ ctz 64 x*(2*m+1)) / 2 ^ ctz 64 x:=congrArg (· / 2 ^ ctz 64 x) h1
 rw [this,Nat.mul_div_cancel_left _ (Nat.pow_pos (by decide))]
theorem dvd_ctz {x k m c:Nat} (h:x=2 ^ c*(2*m+1)):2 ^ k∣x↔k≤c:=by
 constructor
 ·intro hd
  rcases Nat.lt_or_ge c k with q | q
  ·exfalso
   have h1:2 ^ (c+1)∣2 ^ c*(2*m+1):=by rw [←h];exact Nat.dvd_trans (Nat.pow_dvd_pow 2 q) hd
   rw [Nat.pow_succ] at h1
   have:=Nat.dvd_of_mul_dvd_mul_left (Nat.pow_pos (by decide)) h1
   omega
  ·exact q
 ·intro q
  rw [h];exact Nat.dvd_trans (Nat.pow_dvd_pow 2 q) (Nat.dvd_mul_right _ _)
theorem dvd_or (x y k:Nat):2 ^ k∣(x ||| y)↔2 ^ k∣x∧2 ^ k∣y:=by
 rw [Nat.dvd_iff_mod_eq_zero,Nat.dvd_iff_mod_eq_zero,Nat.dvd_iff_mod_eq_zero,Nat.or_mod_two_pow,Nat.or_eq_zero_iff]
theorem ctz_or {x y:Nat} (hx:x≠0) (hy:y≠0) (h:x<18446744073709551616) (h':y<18446744073709551616):ctz 64 (x ||| y)=min (ctz 64 x) (ctz 64 y):=by
 obtain ⟨m,h1,_⟩:=ctz_spec hx h
 obtain ⟨n,h2,_⟩:=ctz_spec hy h'
 have h3:x ||| y≠0:=fun q=>hx (Nat.or_eq_zero_iff.1 q).1
 obtain ⟨l,h4,_⟩:=ctz_spec h3 (Nat.or_lt_two_pow (n:=64) h h')
 have hk:∀ k,k≤ctz 64 (x ||| y)↔k≤ctz 64 x∧k≤ctz 64 y:=fun k=>by
  rw [←dvd_ctz h4,dvd_or,dvd_ctz h1,dvd_ctz h2]
 have a:=(hk (ctz 64 (x ||| y))).1 (Nat.le_refl _)
 have b:=(hk (min (ctz 64 x) (ctz 64 y))).2 ⟨Nat.min_le_left _ _,Nat.min_le_right _ _⟩
 omega
theorem bin_start {x y:Nat} (hx:x≠0) (hy:y≠0) (h:x<18446744073709551616) (h':y<18446744073709551616) :
  Nat.gcd x y=Nat.gcd (x / 2 ^ ctz 64 x) y*2 ^ ctz 64 (x ||| y):=by
 obtain ⟨m,h1,h2⟩:=shr_odd hx h
 obtain ⟨n,_,h4⟩:=shr_odd hy h'
 rw [ctz_or hx hy h h',h1]
 generalize ctz 64 x=a at *
 generalize ctz 64 y=b at *
 subst h2;subst h4
 rw [gcd_odd]
 rcases Nat.le_total a b with q | q
 ·obtain ⟨c,rfl⟩:=Nat.exists_eq_add_of_le q
  rw [Nat.min_eq_left q,Nat.pow_add,Nat.mul_assoc,Nat.gcd_mul_left,gcd_odd,Nat.mul_comm]
 ·obtain ⟨c,rfl⟩:=Nat.exists_eq_add_of_le q
  rw [Nat.min_eq_right q,Nat.pow_add,Nat.mul_assoc,Nat.gcd_mul_left,Nat.Coprime.gcd_mul_left_cancel _ (odd_cop c n),Nat.mul_comm]
theorem bin_round {x y:Nat} (hx:x % 2=1) (hy:y≠0) (h':y<18446744073709551616) :
  Nat.gcd (min x (y / 2 ^ ctz 64 y)) (max x (y / 2 ^ ctz 64 y) - min x (y / 2 ^ ctz 64 y))=Nat.gcd x y∧min x (y / 2 ^ ctz 64 y) % 2=1 ∧
   min x (y / 2 ^ ctz 64 y)+(max x (y / 2 ^ ctz 64 y) - min x (y / 2 ^ ctz 64 y))<x+y∧y / 2 ^ ctz 64 y≤y:=by
 obtain ⟨n,h3,h4⟩:=shr_odd hy h'
 have h5:y / 2 ^ ctz 64 y≤y:=Nat.div_le_self _ _
 have h6:Nat.gcd x y=Nat.gcd x (y / 2 ^ ctz 64 y):=by
  rw [h3]
  conv=>lhs;rw [h4]
  obtain ⟨m,rfl⟩:∃ m,x=2*m+1:=⟨x / 2,by omega⟩
  exact gcd_odd _ _ _
 rw [h6]
 generalize y / 2 ^ ctz 64 y=z at *
 rcases Nat.le_total x z with q | q
 ·rw [Nat.min_eq_left q,Nat.max_eq_right q]
  exact ⟨Nat.gcd_sub_self_right q,hx,by omega,h5⟩
 ·rw [Nat.min_eq_right q,Nat.max_eq_left q]
  exact ⟨by rw [Nat.gcd_sub_self_right q,Nat.gcd_comm],by omega,by omega,h5⟩
end Go.Proofs.YtjdfjgfdbgmbiaaGreatDoor
