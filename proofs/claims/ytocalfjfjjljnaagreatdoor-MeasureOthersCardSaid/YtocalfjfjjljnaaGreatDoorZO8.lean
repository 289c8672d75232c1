/- Parts of the proof of the text YtocalfjfjjljnaaGreatDoorZO44. -/
import Derived.Lib.TrailingZeros
import Derived.Shelf.Spec.TrailingZeros
import Derived.Lib.MinMax
import Derived.Test.YtocalfjfjjljnaaGreatDoorZO1
import Derived.Test.YtocalfjfjjljnaaGreatDoorZO2
import Derived.Test.YtocalfjfjjljnaaGreatDoorZO3
import Derived.Test.YtocalfjfjjljnaaGreatDoorZO7
set_option linter.all false
set_option maxRecDepth 100000
set_option maxHeartbeats 8000000
namespace Go.Proofs.YtocalfjfjjljnaaGreatDoor
section
open Go.RowKit
def dOK (l:List UInt8):Bool:=chk l==0 && decide ((szL l).length≤18)
theorem dP {l:List UInt8} (h:chk l≠0∨18<(szL l).length):dOK l=false:=by
 unfold dOK
 rcases h with h | h
 ·rw [show (chk l==0)=false by simpa using h];rfl
 ·rw [decide_eq_false (by omega),Bool.and_false]
theorem lL {l:List UInt8} (ha:(szL l).all aj=true) (hne:szL l ≠ []) (h48:¬ ((szL l).head? = some 48∧l ≠ [48])) (hl:(szL l).length≤18):dOK l=true:=by
 unfold dOK
 have:chk l=0:=by
  rw [fE ha,if_neg (by rintro (h | h);exact hne h;exact h48 h),if_neg (by omega)]
 rw [this,decide_eq_true hl];rfl
def m7 (l:List UInt8):Int:=if dOK l then valOf l else 0
theorem lM {l:List UInt8} (h:dOK l=true):m7 l=valOf l:=if_pos h
theorem fk {l:List UInt8} (h:dOK l=false):Ending.returned (.tuple #[.int .i64 0,.bool false]) = .returned (.tuple #[.int .i64 (m7 l),.bool (dOK l)]):=by unfold m7;rw [h];rfl
theorem lN {l:List UInt8} {v:Int} (h:dOK l=true) (hv:v=valOf l):Ending.returned (.tuple #[.int .i64 v,.bool true]) = .returned (.tuple #[.int .i64 (m7 l),.bool (dOK l)]):=by unfold m7;rw [h,hv];rfl
theorem iD {s:ByteArray} (h:0<s.size):s.data.toList.head? = some s[0]:=by obtain ⟨t,ht⟩:=jF h;rw [ht];rfl
theorem ext_size (s:ByteArray):(s.extract 1 s.size).size=s.size - 1:=by rw [ByteArray.size_extract];omega
theorem oQ (s:ByteArray) (w:World) (hs:s.size≤maxLen) (hn:af s.data.toList=true) (h1:1<s.size) :
  Calls Tryz.prog 129 #[.string s] w fun e W'=>e = .returned (.tuple #[.int .i64 (m7 s.data.toList),.bool (dOK s.data.toList)])∧w=W':=by
 unfold maxLen at hs
 have hsz:=ext_size s
 obtain ⟨t,ht⟩:∃ t,s.extract 1 s.size=t:=⟨_,rfl⟩
 have htl:t.data.toList=szL s.data.toList:=by rw [←ht,←ck];unfold szB;rw [if_pos hn]
 rw [ht] at hsz
 have h45:((s[0].toNat:Int)==45)=true:=(au (by omega)).trans hn
 have hE:(s.toList == [48])=false:=by
  rw [ByteArray.toList_eq,beq_eq_false_iff_ne];intro e;have:=congrArg List.length e;rw [ac] at this;simp at this;omega
 have hg1:(1:Int)<s.size:=by omega
 have hte:=fC (s:=t) (by omega)
 have HN:=Ha hn
 have HT:=Ha htl
 clear hn htl
 have h0t:0<t.size:=by omega
 have hl:(szL s.data.toList).length=t.size:=by rw [←HT.out,ac]
 by_cases h18:18<t.size
 ·have h18':(18:Int)<t.size:=by omega
  have hr:=Ha (dP (l:=s.data.toList) (.inr (by omega)))
  clear hl
  go_enter Tryz.func129,Tryz.ntmps129
  go_wp2
  go_ret2
  exact ⟨fk hr.out,rfl⟩
 have h18':¬ (18:Int)<t.size:=by omega
 by_cases h48:((t[0].toNat:Int)==48)=true
 ·have hc:chk s.data.toList=11:=kK (.inr ⟨by
   rw [←HT.out,iD (by omega)]
   have:=mE t[0] 48 (by decide)
   rw [show ((48:Nat):Int)=48 from rfl,h48] at this
   exact congrArg some (by simpa using this.symm),fun e=>by have:=congrArg List.length e;rw [ac] at this;simp at this;omega⟩)
  have hr:=Ha (dP (l:=s.data.toList) (.inl (by rw [hc];decide)))
  clear hl hc
  go_enter Tryz.func129,Tryz.ntmps129
  go_wp2
  go_ret2
  exact ⟨fk hr.out,rfl⟩
 ·have h48':((t[0].toNat:Int)==48)=false:=by simpa using h48
  have HF:=Ha (show szL s.data.toList ≠ []∧¬ ((szL s.data.toList).head? = some 48∧s.data.toList ≠ [48])∧(szL s.data.toList).length≤18 from ⟨fun e=>by rw [e] at hl;simp at hl;omega,fun ⟨e,_⟩=>by
   rw [←HT.out,iD (by omega)] at e
   have e:=Option.some.inj e
   rw [e] at h48';exact absurd h48' (by decide),by omega⟩)
  clear hl h48
  go_enter Tryz.func129,Tryz.ntmps129
  go_wp2
  go_loop [6,38] (fun n i=>∃ k:Nat,k≤t.size∧i = .int .i64 k∧n = .int .i64 (ad (t.data.toList.take k):Nat)∧Hid ((t.data.toList.take k).all aj=true)) (fun _ i=>t.size - (intOf i).toNat)
  case atStart=>exact ⟨0,Nat.zero_le _,rfl,rfl,rfl⟩
  case round =>
   obtain ⟨k,hk,rfl,rfl,hd⟩:=hrel
   by_cases hlt:k<t.size
   ·by_cases h3:(t[k].toNat:Int)<48
    ·go_wp2
     go_ret2
     refine ⟨fk (dP (.inl ?_)),rfl⟩
     rw [cO]
     ·decide
     ·rw [←HT.out,List.all_eq_false];exact ⟨t[k],cD t k hlt,by rw [ao];omega⟩
    ·by_cases h4:(57:Int)<t[k].toNat
     ·go_wp2
      go_ret2
      refine ⟨fk (dP (.inl ?_)),rfl⟩
      rw [cO]
      ·decide
      ·rw [←HT.out,List.all_eq_false];exact ⟨t[k],cD t k hlt,by rw [ao];omega⟩
     ·have hdk:aj t[k]=true:=by rw [ao];omega
      have hd':Hid ((t.data.toList.take (k+1)).all aj=true):=by
       show (t.data.toList.take (k+1)).all aj=true
       rw [a8 t k hlt,List.all_append,hd.out];simp [hdk]
      have hn:ad (t.data.toList.take k)<1000000000000000000:=by
       refine Nat.lt_of_lt_of_le (bg _ (fun c hc=>List.all_eq_true.1 hd.out c hc)) ?_
       exact Nat.le_trans (Nat.pow_le_pow_right (by decide) (Nat.le_trans (List.length_take_le _ _) (by omega:k≤18))) (by decide)
      have HS:Hid (ad (t.data.toList.take (k+1))=ad (t.data.toList.take k)*10+(t[k].toNat - 48)):=by rw [a8 t k hlt];exact bH _ _
      have hn17:ad (t.data.toList.take (k+1))<1000000000000000000:=by
       refine Nat.lt_of_lt_of_le (bg _ (fun c hc=>List.all_eq_true.1 hd'.out c hc)) ?_
       exact Nat.le_trans (Nat.pow_le_pow_right (by decide) (Nat.le_trans (List.length_take_le _ _) (by omega:k+1≤18))) (by decide)
      rw [HS.out] at hn17
      clear hd hdk
      go_wp2
      go_round
      case rel=>exact ⟨k+1,by omega,by go_num,by rw [HS.out];go_num,hd'⟩
      case measure=>simp [intOf];omega
   ·have hk2:t.data.toList.take k=t.data.toList:=List.take_of_length_le (by rw [ac];omega)
    have hda:=hd.out
    rw [hk2,HT.out] at hda
    rw [hk2]
    have hok:=lL hda HF.out.1 HF.out.2.1 HF.out.2.2
    have hn:ad t.data.toList<1000000000000000000:=by
     refine Nat.lt_of_lt_of_le (bg _ (fun c hc=>List.all_eq_true.1 (by rw [HT.out];exact hda) c hc)) ?_
     exact Nat.le_trans (Nat.pow_le_pow_right (by decide) (show t.data.toList.length≤18 by rw [ac];omega)) (by decide)
    have HO:=Ha (Hb hok (show -(ad t.data.toList:Int)=valOf s.data.toList by rw [cF,HN.out,HT.out];rfl))
    clear hok hda hk2 hd
    go_wp2
    go_ret2
    exact ⟨lN HO.out.1 HO.out.2,rfl⟩
theorem oR (t:ByteArray) (w:World) (hs:t.size≤maxLen) (hn:af t.data.toList=false) (h1:1<t.size) :
  Calls Tryz.prog 129 #[.string t] w fun e W'=>e = .returned (.tuple #[.int .i64 (m7 t.data.toList),.bool (dOK t.data.toList)])∧w=W':=by
 unfold maxLen at hs
 have htl:t.data.toList=szL t.data.toList:=(bi hn).symm
 have h45:((t[0].toNat:Int)==45)=false:=(au (by omega)).trans hn
 have hg1:(1:Int)<t.size:=by omega
 have hte:=fC (s:=t) (by omega)
 have HN:=Ha hn
 have HT:=Ha htl
 clear hn htl
 have h0t:0<t.size:=by omega
 have hl:(szL t.data.toList).length=t.size:=by rw [←HT.out,ac]
 by_cases h18:18<t.size
 ·have h18':(18:Int)<t.size:=by omega
  have hr:=Ha (dP (l:=t.data.toList) (.inr (by omega)))
  clear hl
  go_enter Tryz.func129,Tryz.ntmps129
  go_wp2
  all_goals (go_ret2;exact ⟨fk hr.out,rfl⟩)
 have h18':¬ (18:Int)<t.size:=by omega
 by_cases h48:((t[0].toNat:Int)==48)=true∧(t.toList == [48])=false
 ·obtain ⟨h48,hE⟩:=h48
  have hc:chk t.data.toList=11:=kK (.inr ⟨by
   rw [←HT.out,iD (by omega)]
   have:=mE t[0] 48 (by decide)
   rw [show ((48:Nat):Int)=48 from rfl,h48] at this
   exact congrArg some (by simpa using this.symm),fun e=>by rw [ByteArray.toList_eq,e] at hE;cases hE⟩)
  have hr:=Ha (dP (l:=t.data.toList) (.inl (by rw [hc];decide)))
  clear hl hc
  go_enter Tryz.func129,Tryz.ntmps129
  go_wp2
  all_goals (go_ret2;exact ⟨fk hr.out,rfl⟩)
 ·have h48':(((t[0].toNat:Int)==48) && !(t.toList == [48]))=false:=by
   cases h5:((t[0].toNat:Int)==48)
   ·rfl
   ·cases h6:(t.toList == [48])
    ·exact absurd ⟨h5,h6⟩ h48
    ·rfl
  have HF:=Ha (show szL t.data.toList ≠ []∧¬ ((szL t.data.toList).head? = some 48∧t.data.toList ≠ [48])∧(szL t.data.toList).length≤18 from ⟨fun e=>by rw [e] at hl;simp at hl;omega,fun ⟨e,e2⟩=>by
   rw [←HT.out,iD (by omega)] at e
   have e:=Option.some.inj e
   apply h48
   refine ⟨by rw [e];decide,?_⟩
   rw [ByteArray.toList_eq,beq_eq_false_iff_ne];exact e2,by omega⟩)
  clear hl h48
  by_cases h48a:((t[0].toNat:Int)==48)=true
  ·have hE:(t.toList == [48])=true:=by rw [h48a] at h48';simpa using h48'
   clear h48'
   go_enter Tryz.func129,Tryz.ntmps129
   go_wp2
   go_loop [6,38] (fun n i=>∃ k:Nat,k≤t.size∧i = .int .i64 k∧n = .int .i64 (ad (t.data.toList.take k):Nat)∧Hid ((t.data.toList.take k).all aj=true)) (fun _ i=>t.size - (intOf i).toNat)
   case atStart=>exact ⟨0,Nat.zero_le _,rfl,rfl,rfl⟩
   case round =>
    obtain ⟨k,hk,rfl,rfl,hd⟩:=hrel
    by_cases hlt:k<t.size
    ·by_cases h3:(t[k].toNat:Int)<48
     ·go_wp2
      go_ret2
      refine ⟨fk (dP (.inl ?_)),rfl⟩
      rw [cO]
      ·decide
      ·rw [←HT.out,List.all_eq_false];exact ⟨t[k],cD t k hlt,by rw [ao];omega⟩
     ·by_cases h4:(57:Int)<t[k].toNat
      ·go_wp2
       go_ret2
       refine ⟨fk (dP (.inl ?_)),rfl⟩
       rw [cO]
       ·decide
       ·rw [←HT.out,List.all_eq_false];exact ⟨t[k],cD t k hlt,by rw [ao];omega⟩
      ·have hdk:aj t[k]=true:=by rw [ao];omega
       have hd':Hid ((t.data.toList.take (k+1)).all aj=true):=by
        show (t.data.toList.take (k+1)).all aj=true
        rw [a8 t k hlt,List.all_append,hd.out];simp [hdk]
       have hn:ad (t.data.toList.take k)<1000000000000000000:=by
        refine Nat.lt_of_lt_of_le (bg _ (fun c hc=>List.all_eq_true.1 hd.out c hc)) ?_
        exact Nat.le_trans (Nat.pow_le_pow_right (by decide) (Nat.le_trans (List.length_take_le _ _) (by omega:k≤18))) (by decide)
       have HS:Hid (ad (t.data.toList.take (k+1))=ad (t.data.toList.take k)*10+(t[k].toNat - 48)):=by rw [a8 t k hlt];exact bH _ _
       have hn17:ad (t.data.toList.take (k+1))<1000000000000000000:=by
        refine Nat.lt_of_lt_of_le (bg _ (fun c hc=>List.all_eq_true.1 hd'.out c hc)) ?_
        exact Nat.le_trans (Nat.pow_le_pow_right (by decide) (Nat.le_trans (List.length_take_le _ _) (by omega:k+1≤18))) (by decide)
       rw [HS.out] at hn17
       clear hd hdk
       go_wp2
       go_round
       case rel=>exact ⟨k+1,by omega,by go_num,by rw [HS.out];go_num,hd'⟩
       case measure=>simp [intOf];omega
    ·have hk2:t.data.toList.take k=t.data.toList:=List.take_of_length_le (by rw [ac];omega)
     have hda:=hd.out
     rw [hk2,HT.out] at hda
     rw [hk2]
     have hok:=lL hda HF.out.1 HF.out.2.1 HF.out.2.2
     have hn:ad t.data.toList<1000000000000000000:=by
      refine Nat.lt_of_lt_of_le (bg _ (fun c hc=>List.all_eq_true.1 (by rw [HT.out];exact hda) c hc)) ?_
      exact Nat.le_trans (Nat.pow_le_pow_right (by decide) (show t.data.toList.length≤18 by rw [ac];omega)) (by decide)
     have HO:=Ha (Hb hok (show (ad t.data.toList:Int)=valOf t.data.toList by rw [cF,HN.out,if_neg (by decide),bi HN.out]))
     clear hok hda hk2 hd
     go_wp2
     go_ret2
     exact ⟨lN HO.out.1 HO.out.2,rfl⟩
  ·have h48b:((t[0].toNat:Int)==48)=false:=by simpa using h48a
   clear h48' h48a
   go_enter Tryz.func129,Tryz.ntmps129
   go_wp2
   go_loop [6,38] (fun n i=>∃ k:Nat,k≤t.size∧i = .int .i64 k∧n = .int .i64 (ad (t.data.toList.take k):Nat)∧Hid ((t.data.toList.take k).all aj=true)) (fun _ i=>t.size - (intOf i).toNat)
   case atStart=>exact ⟨0,Nat.zero_le _,rfl,rfl,rfl⟩
   case round =>
    obtain ⟨k,hk,rfl,rfl,hd⟩:=hrel
    by_cases hlt:k<t.size
    ·by_cases h3:(t[k].toNat:Int)<48
     ·go_wp2
      go_ret2
      refine ⟨fk (dP (.inl ?_)),rfl⟩
      rw [cO]
      ·decide
      ·rw [←HT.out,List.all_eq_false];exact ⟨t[k],cD t k hlt,by rw [ao];omega⟩
     ·by_cases h4:(57:Int)<t[k].toNat
      ·go_wp2
       go_ret2
       refine ⟨fk (dP (.inl ?_)),rfl⟩
       rw [cO]
       ·decide
       ·rw [←HT.out,List.all_eq_false];exact ⟨t[k],cD t k hlt,by rw [ao];omega⟩
      ·have hdk:aj t[k]=true:=by rw [ao];omega
       have hd':Hid ((t.data.toList.take (k+1)).all aj=true):=by
        show (t.data.toList.take (k+1)).all aj=true
        rw [a8 t k hlt,List.all_append,hd.out];simp [hdk]
       have hn:ad (t.data.toList.take k)<1000000000000000000:=by
        refine Nat.lt_of_lt_of_le (bg _ (fun c hc=>List.all_eq_true.1 hd.out c hc)) ?_
        exact Nat.le_trans (Nat.pow_le_pow_right (by decide) (Nat.le_trans (List.length_take_le _ _) (by omega:k≤18))) (by decide)
       have HS:Hid (ad (t.data.toList.take (k+1))=ad (t.data.toList.take k)*10+(t[k].toNat - 48)):=by rw [a8 t k hlt];exact bH _ _
       have hn17:ad (t.data.toList.take (k+1))<1000000000000000000:=by
        refine Nat.lt_of_lt_of_le (bg _ (fun c hc=>List.all_eq_true.1 hd'.out c hc)) ?_
        exact Nat.le_trans (Nat.pow_le_pow_right (by decide) (Nat.le_trans (List.length_take_le _ _) (by omega:k+1≤18))) (by decide)
       rw [HS.out] at hn17
       clear hd hdk
       go_wp2
       go_round
       case rel=>exact ⟨k+1,by omega,by go_num,by rw [HS.out];go_num,hd'⟩
       case measure=>simp [intOf];omega
    ·have hk2:t.data.toList.take k=t.data.toList:=List.take_of_length_le (by rw [ac];omega)
     have hda:=hd.out
     rw [hk2,HT.out] at hda
     rw [hk2]
     have hok:=lL hda HF.out.1 HF.out.2.1 HF.out.2.2
     have hn:ad t.data.toList<1000000000000000000:=by
      refine Nat.lt_of_lt_of_le (bg _ (fun c hc=>List.all_eq_true.1 (by rw [HT.out];exact hda) c hc)) ?_
      exact Nat.le_trans (Nat.pow_le_pow_right (by decide) (show t.data.toList.length≤18 by rw [ac];omega)) (by decide)
     have HO:=Ha (Hb hok (show (ad t.data.toList:Int)=valOf t.data.toList by rw [cF,HN.out,if_neg (by decide),bi HN.out]))
     clear hok hda hk2 hd
     go_wp2
     go_ret2
     exact ⟨lN HO.out.1 HO.out.2,rfl⟩
theorem oS (t:ByteArray) (w:World) (h:t.size=1) :
  Calls Tryz.prog 129 #[.string t] w fun e W'=>e = .returned (.tuple #[.int .i64 (m7 t.data.toList),.bool (dOK t.data.toList)])∧w=W':=by
 have h0t:0<t.size:=by omega
 obtain ⟨u,hu⟩:=jF h0t
 have hl:=ac t
 rw [hu,h] at hl
 have hu0:u = []:=List.eq_nil_of_length_eq_zero (by simpa using hl)
 rw [hu0] at hu
 have hte:=fC h0t
 have hs1:(t.size:Int)=1:=by omega
 clear hl hu0
 by_cases hd:aj t[0]=true
 ·have hq:=(ao t[0]).1 hd
  have h45:((t[0].toNat:Int)==45)=false:=by rw [beq_eq_false_iff_ne];omega
  have hok:dOK t.data.toList=true∧((t[0].toNat - 48:Nat):Int)=valOf t.data.toList:=by
   rw [hu]
   have hng:af [t[0]]=false:=by
    unfold af
    rw [List.head?_cons,beq_eq_false_iff_ne]
    intro e
    have e:=Option.some.inj e
    rw [e] at hq;exact absurd hq.1 (by decide)
   refine ⟨lL (by rw [bi hng];simp [hd]) (by rw [bi hng];simp) (by
    rw [bi hng]
    rintro ⟨e,e2⟩
    have e:=Option.some.inj e
    exact e2 (by rw [e])) (by rw [bi hng];simp),?_⟩
   rw [cF,hng,bi hng,if_neg (by decide)]
   show _=(((0*10+(t[0].toNat - 48):Nat)):Int)
   omega
  have HO:=Ha hok
  have hE:(((t[0].toNat:Int)==48) && !(t.toList == [48]))=false:=by
   rw [ByteArray.toList_eq,hu]
   by_cases h8:t[0]=48
   ·rw [h8];rfl
   ·have:=mE t[0] 48 (by decide)
    rw [show ((48:Nat):Int)=48 from rfl] at this
    rw [this,show (t[0]==UInt8.ofNat 48)=false by rw [beq_eq_false_iff_ne];exact h8];rfl
  have HE:=Ha hE
  clear hok hu hd hE u
  by_cases h8:((t[0].toNat:Int)==48)=true
  ·have hE2:(t.toList == [48])=true:=by have:=HE.out;rw [h8] at this;simpa using this
   go_enter Tryz.func129,Tryz.ntmps129
   go_wp2
   go_loop [6,38] (fun n i=>(i = .int .i64 0∧n = .int .i64 0)∨(i = .int .i64 1∧n = .int .i64 (t[0].toNat - 48:Nat))) (fun _ i=>1 - (intOf i).toNat)
   case atStart=>exact .inl ⟨rfl,rfl⟩
   case round =>
    rcases hrel with ⟨rfl,rfl⟩ | ⟨rfl,rfl⟩
    ·go_wp2
     go_round
     case rel=>exact .inr ⟨by go_num,by go_num⟩
     case measure=>simp [intOf]
    ·go_wp2
     go_ret2
     exact ⟨lN HO.out.1 HO.out.2,rfl⟩
  ·have h8':((t[0].toNat:Int)==48)=false:=by simpa using h8
   clear h8
   go_enter Tryz.func129,Tryz.ntmps129
   go_wp2
   go_loop [6,38] (fun n i=>(i = .int .i64 0∧n = .int .i64 0)∨(i = .int .i64 1∧n = .int .i64 (t[0].toNat - 48:Nat))) (fun _ i=>1 - (intOf i).toNat)
   case atStart=>exact .inl ⟨rfl,rfl⟩
   case round =>
    rcases hrel with ⟨rfl,rfl⟩ | ⟨rfl,rfl⟩
    ·go_wp2
     go_round
     case rel=>exact .inr ⟨by go_num,by go_num⟩
     case measure=>simp [intOf]
    ·go_wp2
     go_ret2
     exact ⟨lN HO.out.1 HO.out.2,rfl⟩
 ·have hr:dOK t.data.toList=false:=dP (.inl (by
   rw [hu]
   cases hn:af [t[0]]
   ·rw [cO]
    ·decide
    ·rw [bi hn];simpa using hd
   ·rw [kK]
    ·decide
    ·left;unfold szL;rw [hn];rfl))
  have h8:((t[0].toNat:Int)==48)=false:=by
   rw [beq_eq_false_iff_ne];intro e;apply hd;rw [ao];omega
  have hq:(t[0].toNat:Int)<48∨(57:Int)<t[0].toNat:=by
   by_cases h1:(t[0].toNat:Int)<48
   ·exact .inl h1
   ·right
    have:¬ (48≤t[0].toNat∧t[0].toNat≤57):=fun q=>hd ((ao _).2 q)
    omega
  have HR:=Ha hr
  clear hr hu hd u
  rcases hq with h1 | h1
  ·go_enter Tryz.func129,Tryz.ntmps129
   go_wp2
   go_loop [6,38] (fun n i=>i = .int .i64 0∧n = .int .i64 0) (fun _ i=>1 - (intOf i).toNat)
   case atStart=>exact ⟨rfl,rfl⟩
   case round =>
    obtain ⟨rfl,rfl⟩:=hrel
    go_wp2
    go_ret2
    exact ⟨fk HR.out,rfl⟩
  ·have h2:¬ (t[0].toNat:Int)<48:=by omega
   go_enter Tryz.func129,Tryz.ntmps129
   go_wp2
   go_loop [6,38] (fun n i=>i = .int .i64 0∧n = .int .i64 0) (fun _ i=>1 - (intOf i).toNat)
   case atStart=>exact ⟨rfl,rfl⟩
   case round =>
    obtain ⟨rfl,rfl⟩:=hrel
    go_wp2
    go_ret2
    exact ⟨fk HR.out,rfl⟩
theorem cU (s:ByteArray) (w:World) (hs:s.size≤maxLen) :
  Calls Tryz.prog 129 #[.string s] w fun e W'=>e = .returned (.tuple #[.int .i64 (m7 s.data.toList),.bool (dOK s.data.toList)])∧w=W':=by
 by_cases h0:s.size=0
 ·have hE:=gg h0
  have hr:=Ha (dP (l:=s.data.toList) (.inl (by rw [cQ h0];decide)))
  go_enter Tryz.func129,Tryz.ntmps129
  go_wp2
  all_goals (go_ret2;exact ⟨fk hr.out,rfl⟩)
 ·by_cases h1:s.size=1
  ·exact oS s w h1
  ·cases hn:af s.data.toList
   ·exact oR s w hs hn (by omega)
   ·exact oQ s w hs hn (by omega)
def aY:Int := -9223372036854775808
theorem jZ (a:Int) (w:World) (h0 : -9223372036854775808<a) (h1:a≤9223372036854775807) :
  Calls Tryz.prog 170 #[.int .i64 a] w fun e W'=>e = .returned (.int .u64 (a.natAbs:Int))∧w=W':=by
 by_cases hn:a<0
 ·go_enter Tryz.func170,Tryz.ntmps170
  go_wp2
  go_ret
  exact ⟨ah (by omega),rfl⟩
 ·go_enter Tryz.func170,Tryz.ntmps170
  go_wp2
  go_ret
  exact ⟨ah (by omega),rfl⟩
theorem lO (a:Int) (w:World) :
  Calls Tryz.prog 239 #[.int .i64 a] w fun e W'=>e = .returned (.bool (decide (a<0)))∧w=W':=by
 go_enter Tryz.func239,Tryz.ntmps239
 go_wp2
 go_ret
 exact ⟨rfl,rfl⟩
theorem jz (a:Int) (w:World) :
  Calls Tryz.prog 240 #[.int .i64 a] w fun e W'=>e = .returned (.bool (a==1))∧w=W':=by
 go_enter Tryz.func240,Tryz.ntmps240
 go_wp2
 go_ret
 exact ⟨rfl,rfl⟩
theorem fJ (a:Int) (w:World) (h0 : -9223372036854775808<a) (h1:a≤9223372036854775807) :
  Calls Tryz.prog 241 #[.int .i64 a] w fun e W'=>e = .returned (.int .i64 (-a))∧w=W':=by
 go_enter Tryz.func241,Tryz.ntmps241
 go_wp2
 go_ret
 exact ⟨ah (by omega),rfl⟩
theorem sV (a:Int) (w:World) :
  Calls Tryz.prog 238 #[.int .i64 a] w fun e W'=>e = .returned (.int .i64 (if a=aY then 4 else 0))∧w=W':=by
 by_cases h:a=aY
 ·rw [if_pos h]
  unfold aY at h;subst h
  go_enter Tryz.func238,Tryz.ntmps238
  go_wp2
  go_ret
  exact ⟨rfl,rfl⟩
 ·rw [if_neg h]
  unfold aY at h
  go_enter Tryz.func238,Tryz.ntmps238
  go_wp2
  go_ret
  exact ⟨rfl,rfl⟩
theorem j2 (a b:Int) (w:World) (h0 : -9223372036854775808<a) (h1:a≤9223372036854775807) (hb:0<b) (h2:b≤9223372036854775807) :
  Calls Tryz.prog 242 #[.int .i64 a,.int .i64 b] w fun e W'=>e = .returned (.int .i64 (a.tdiv b))∧w=W':=by
 have hb0:¬ b=0:=by omega
 have hb1:(b==0)=false:=by simpa using hb0
 go_enter Tryz.func242,Tryz.ntmps242
 go_wp2
 go_ret
 exact ⟨ah (by omega),rfl⟩
theorem xh (a b:Int) (w:World) (h0 : -9223372036854775808<a) (h1:a≤9223372036854775807) (h2 : -9223372036854775808<b) (h3:b≤9223372036854775807)
  (h4 : -9223372036854775808<a+b) (h5:a+b≤9223372036854775807) :
  Calls Tryz.prog 243 #[.int .i64 a,.int .i64 b] w fun e W'=>e = .returned (.int .i64 (a+b))∧w=W':=by
 have n1:(a == -9223372036854775808)=false:=by simp;omega
 have n2:(b == -9223372036854775808)=false:=by simp;omega
 go_enter Tryz.func243,Tryz.ntmps243
 go_wp2
 go_ret
 exact ⟨ah (by omega),rfl⟩
theorem oT (b:Int) (w:World) :
  Calls Tryz.prog 243 #[.int .i64 aY,.int .i64 b] w fun e W'=>e = .returned (.int .i64 aY)∧w=W':=by
 unfold aY
 go_enter Tryz.func243,Tryz.ntmps243
 go_wp2
 go_ret
 exact ⟨rfl,rfl⟩
theorem ux (a:Int) (w:World) :
  Calls Tryz.prog 243 #[.int .i64 a,.int .i64 aY] w fun e W'=>e = .returned (.int .i64 aY)∧w=W':=by
 by_cases h:a = -9223372036854775808
 ·subst h
  exact oT _ w
 ·unfold aY
  go_enter Tryz.func243,Tryz.ntmps243
  go_wp2
  go_ret
  exact ⟨rfl,rfl⟩
def az (a b:Int):Int:=if (a*b).natAbs<4611686018427387904 then a*b else aY
theorem dV (a b:Int) (w:World) (h0 : -9223372036854775808<a) (h1:a≤9223372036854775807) (h2 : -9223372036854775808<b) (h3:b≤9223372036854775807) :
  Calls Tryz.prog 244 #[.int .i64 a,.int .i64 b] w fun e W'=>e = .returned (.int .i64 (az a b))∧w=W':=by
 have ca:=fun W=>jZ a W h0 h1
 have cb:=fun W=>jZ b W h2 h3
 have cm:=fun W=>Tryz.bits_Mul64 a.natAbs b.natAbs (by omega) (by omega) W
 have hab:(a*b).natAbs=a.natAbs*b.natAbs:=Int.natAbs_mul a b
 have C:=Ha (Hb ca (Hb cb cm))
 clear ca cb cm
 generalize hx:a.natAbs*b.natAbs=x at *
 by_cases hb:18446744073709551616≤x
 ·have e1:az a b=aY:=if_neg (by omega)
  have d1:((x / 18446744073709551616:Nat):Int)≠0:=by omega
  rw [e1];unfold aY
  have D:=Ha d1
  clear hx hab hb e1
  generalize x / 18446744073709551616=hi at *
  generalize x % 18446744073709551616=lo at *
  go_enter Tryz.func244,Tryz.ntmps244
  go_wp2_with fail
  refine (C.out.1 _).mono ?_
  rintro e w' ⟨rfl,rfl⟩
  go_wp2_with fail
  refine (C.out.2.1 _).mono ?_
  rintro e w' ⟨rfl,rfl⟩
  go_wp2_with fail
  refine (C.out.2.2 _).mono ?_
  rintro e w' ⟨rfl,rfl⟩
  go_wp2
  go_ret
  exact ⟨rfl,rfl⟩
 ·have d1:x / 18446744073709551616=0:=by omega
  have d2:x % 18446744073709551616=x:=by omega
  rw [d1,d2] at C
  by_cases hs:4611686018427387904≤x
  ·have e1:az a b=aY:=if_neg (by omega)
   rw [e1];unfold aY
   have hs':(4611686018427387904:Int)≤(x:Int):=by omega
   clear hx hab hb e1 d1 d2
   go_enter Tryz.func244,Tryz.ntmps244
   go_wp2_with fail
   refine (C.out.1 _).mono ?_
   rintro e w' ⟨rfl,rfl⟩
   go_wp2_with fail
   refine (C.out.2.1 _).mono ?_
   rintro e w' ⟨rfl,rfl⟩
   go_wp2_with fail
   refine (C.out.2.2 _).mono ?_
   rintro e w' ⟨rfl,rfl⟩
   go_wp2
   go_ret
   exact ⟨rfl,rfl⟩
  ·have e1:az a b=a*b:=if_pos (by omega)
   rw [e1]
   have hs':¬ (4611686018427387904:Int)≤(x:Int):=by omega
   have l1 : -9223372036854775808≤a*b:=by omega
   have l2:a*b≤9223372036854775807:=by omega
   clear hx hab hb e1 d1 d2 hs
   generalize (x:Int)=X at *
   go_enter Tryz.func244,Tryz.ntmps244
   go_wp2_with fail
   refine (C.out.1 _).mono ?_
   rintro e w' ⟨rfl,rfl⟩
   go_wp2_with fail
   refine (C.out.2.1 _).mono ?_
   rintro e w' ⟨rfl,rfl⟩
   go_wp2_with fail
   refine (C.out.2.2 _).mono ?_
   rintro e w' ⟨rfl,rfl⟩
   go_wp2
   go_ret
   exact ⟨ah (by omega),rfl⟩
end
section
open Go.Lib
theorem gC {x:Nat} (h0:x≠0) (h:x<18446744073709551616):∃ m,x=2 ^ ctz 64 x*(2*m+1)∧ctz 64 x<64:=by
 obtain ⟨m,h1,h2⟩:=ctzFrom_spec 64 x (by omega) (by simpa using h)
 exact ⟨m,by unfold ctz;rw [if_neg h0];exact h1,by unfold ctz;rw [if_neg h0];exact h2⟩
theorem vB (k m:Nat):Nat.Coprime (2 ^ k) (2*m+1):=by
 refine Nat.Coprime.pow_left k ?_
 unfold Nat.Coprime
 rw [Nat.gcd_rec,show (2*m+1) % 2=1 by omega];rfl
theorem qU (m k n:Nat):Nat.gcd (2*m+1) (2 ^ k*n)=Nat.gcd (2*m+1) n:=by
 rw [Nat.gcd_comm,Nat.Coprime.gcd_mul_left_cancel n (vB k m),Nat.gcd_comm]
theorem nw {x:Nat} (h0:x≠0) (h:x<18446744073709551616):∃ m,x / 2 ^ ctz 64 x=2*m+1∧x=2 ^ ctz 64 x*(2*m+1):=by
 obtain ⟨m,h1,_⟩:=gC h0 h
 refine ⟨m,?_,h1⟩
 have:x / 2 ^ ctz 64 x=(2 ^ ctz 64 x*(2*m+1)) / 2 ^ ctz 64 x:=congrArg (· / 2 ^ ctz 64 x) h1
 rw [this,Nat.mul_div_cancel_left _ (Nat.pow_pos (by decide))]
theorem qV {x k m c:Nat} (h:x=2 ^ c*(2*m+1)):2 ^ k∣x↔k≤c:=by
 constructor
 ·intro hd
  rcases Nat.lt_or_ge c k with q | q
  ·exfalso
   have h1:2 ^ (c+1)∣2 ^ c*(2*m+1):=by rw [←h];exact Nat.dvd_trans (Nat.pow_dvd_pow 2 q) hd
   rw [Nat.pow_succ] at h1
   have:=Nat.dvd_of_mul_dvd_mul_left (Nat.pow_pos (by decide)) h1
   omega
  ·exact q
 ·intro q
  rw [h];exact Nat.dvd_trans (Nat.pow_dvd_pow 2 q) (Nat.dvd_mul_right _ _)
theorem Dw (x y k:Nat):2 ^ k∣(x ||| y)↔2 ^ k∣x∧2 ^ k∣y:=by
 rw [Nat.dvd_iff_mod_eq_zero,Nat.dvd_iff_mod_eq_zero,Nat.dvd_iff_mod_eq_zero,Nat.or_mod_two_pow,Nat.or_eq_zero_iff]
theorem Dx {x y:Nat} (hx:x≠0) (hy:y≠0) (h:x<18446744073709551616) (h':y<18446744073709551616):ctz 64 (x ||| y)=min (ctz 64 x) (ctz 64 y):=by
 obtain ⟨m,h1,_⟩:=gC hx h
 obtain ⟨n,h2,_⟩:=gC hy h'
 have h3:x ||| y≠0:=fun q=>hx (Nat.or_eq_zero_iff.1 q).1
 obtain ⟨l,h4,_⟩:=gC h3 (Nat.or_lt_two_pow (n:=64) h h')
 have hk:∀ k,k≤ctz 64 (x ||| y)↔k≤ctz 64 x∧k≤ctz 64 y:=fun k=>by
  rw [←qV h4,Dw,qV h1,qV h2]
 have a:=(hk (ctz 64 (x ||| y))).1 (Nat.le_refl _)
 have b:=(hk (min (ctz 64 x) (ctz 64 y))).2 ⟨Nat.min_le_left _ _,Nat.min_le_right _ _⟩
 omega
theorem xi {x y:Nat} (hx:x≠0) (hy:y≠0) (h:x<18446744073709551616) (h':y<18446744073709551616) :
  Nat.gcd x y=Nat.gcd (x / 2 ^ ctz 64 x) y*2 ^ ctz 64 (x ||| y):=by
 obtain ⟨m,h1,h2⟩:=nw hx h
 obtain ⟨n,_,h4⟩:=nw hy h'
 rw [Dx hx hy h h',h1]
 generalize ctz 64 x=a at *
 generalize ctz 64 y=b at *
 subst h2;subst h4
 rw [qU]
 rcases Nat.le_total a b with q | q
 ·obtain ⟨c,rfl⟩:=Nat.exists_eq_add_of_le q
  rw [Nat.min_eq_left q,Nat.pow_add,Nat.mul_assoc,Nat.gcd_mul_left,qU,Nat.mul_comm]
 ·obtain ⟨c,rfl⟩:=Nat.exists_eq_add_of_le q
  rw [Nat.min_eq_right q,Nat.pow_add,Nat.mul_assoc,Nat.gcd_mul_left,Nat.Coprime.gcd_mul_left_cancel _ (vB c n),Nat.mul_comm]
theorem xj {x y:Nat} (hx:x % 2=1) (hy:y≠0) (h':y<18446744073709551616) :
  Nat.gcd (min x (y / 2 ^ ctz 64 y)) (max x (y / 2 ^ ctz 64 y) - min x (y / 2 ^ ctz 64 y))=Nat.gcd x y∧min x (y / 2 ^ ctz 64 y) % 2=1 ∧
   min x (y / 2 ^ ctz 64 y)+(max x (y / 2 ^ ctz 64 y) - min x (y / 2 ^ ctz 64 y))<x+y∧y / 2 ^ ctz 64 y≤y:=by
 obtain ⟨n,h3,h4⟩:=nw hy h'
 have h5:y / 2 ^ ctz 64 y≤y:=Nat.div_le_self _ _
 have h6:Nat.gcd x y=Nat.gcd x (y / 2 ^ ctz 64 y):=by
  rw [h3]
  conv=>lhs;rw [h4]
  obtain ⟨m,rfl⟩:∃ m,x=2*m+1:=⟨x / 2,by omega⟩
  exact qU _ _ _
 rw [h6]
 generalize y / 2 ^ ctz 64 y=z at *
 rcases Nat.le_total x z with q | q
 ·rw [Nat.min_eq_left q,Nat.max_eq_right q]
  exact ⟨Nat.gcd_sub_self_right q,hx,by omega,h5⟩
 ·rw [Nat.min_eq_right q,Nat.max_eq_left q]
  exact ⟨by rw [Nat.gcd_sub_self_right q,Nat.gcd_comm],by omega,by omega,h5⟩
end
section
open Go.RowKit
def cE (w:World):Prop:=TabAt 4 Lib.deBruijn64tab w
theorem BC (x k idx:Nat) (w:World) (hx0:((x:Int)==0)=false)
  (key:IntKind.u64.wrap (bits BinOp.and IntKind.u64 (x:Int) (IntKind.u64.wrap (-(x:Int)))*285870213051353865) / 288230376151711744=(idx:Int))
  (hi:idx<64) (hk:k<64) (hcell:w.cell? ⟨4,idx,none⟩=some (.int .u8 k)) :
  Calls Tryz.prog 171 #[.int .u64 x] w fun e w'=>e = .returned (.int .i64 k)∧w=w':=by
 go_enter Tryz.func171,Tryz.ntmps171
 go_wp2_with (simp only [key])
 go_ret
 exact ⟨rfl,rfl⟩
theorem uy (x:Nat) (w:World) (h0:x≠0) (hx:x<18446744073709551616) (ht:cE w) :
  Calls Tryz.prog 171 #[.int .u64 x] w fun e w'=>e = .returned (.int .i64 (Lib.ctz 64 x:Nat))∧w=w':=by
 obtain ⟨hlow,hk⟩:=Lib.lowest_bit 64 x h0 hx
 obtain ⟨hi,htab⟩:=Lib.deBruijn64_at _ hk
 have hcell:=ht _ hi
 rw [htab] at hcell
 exact BC x _ _ w (by simp;omega) (tz64_key x _ hx h0 hlow) hi hk hcell
theorem mS (a b:Nat) (ha:a<18446744073709551616) (hb:b<18446744073709551616):bits .or .u64 (a:Int) (b:Int)=((a ||| b:Nat):Int):=by
 have hx:a ||| b<2 ^ 64:=Nat.or_lt_two_pow ha hb
 have h1:(BitVec.ofInt 64 (a:Int)).toNat=a:=by
  rw [BitVec.ofInt_natCast,BitVec.toNat_ofNat];exact Nat.mod_eq_of_lt (by omega)
 have h2:(BitVec.ofInt 64 (b:Int)).toNat=b:=by
  rw [BitVec.ofInt_natCast,BitVec.toNat_ofNat];exact Nat.mod_eq_of_lt (by omega)
 show IntKind.u64.wrap ((BitVec.ofInt 64 (a:Int) ||| BitVec.ofInt 64 (b:Int)).toNat:Int)=_
 rw [BitVec.toNat_or,h1,h2,IntKind.wrap_u64]
 omega
theorem fc (a b:Int) (w:World) (h0 : -9223372036854775808<a) (h1:a≤9223372036854775807) (h2 : -9223372036854775808<b) (h3:b≤9223372036854775807) (ht:cE w) :
  Calls Tryz.prog 130 #[.int .i64 a,.int .i64 b] w fun e W'=>e = .returned (.int .i64 (Nat.gcd a.natAbs b.natAbs:Nat))∧w=W':=by
 have ca:=fun W=>jZ a W h0 h1
 have cb:=fun W=>jZ b W h2 h3
 have ha:a.natAbs<9223372036854775808:=by omega
 have hb:b.natAbs<9223372036854775808:=by omega
 have C:=Ha (Hb ca cb)
 have HT:=Ha ht
 clear ca cb h0 h1 h2 h3 ht
 generalize a.natAbs=x at *
 generalize b.natAbs=y at *
 by_cases hz:x=0∨y=0
 ·have hg:((Nat.gcd x y:Nat):Int)=(x:Int)+(y:Int):=by
   rcases hz with h | h
   ·subst h;rw [Nat.gcd_zero_left];simp
   ·subst h;rw [Nat.gcd_zero_right];simp
  rw [hg]
  have hs1:(x:Int)+(y:Int)≤9223372036854775807:=by rcases hz with h | h <;> omega
  by_cases hx:x=0
  ·have hx':((x:Int)==0)=true:=by simp [hx]
   clear hg hz
   go_enter Tryz.func130,Tryz.ntmps130
   go_wp2_with fail
   refine (C.out.1 _).mono ?_
   rintro e w' ⟨rfl,rfl⟩
   go_wp2_with fail
   refine (C.out.2 _).mono ?_
   rintro e w' ⟨rfl,rfl⟩
   go_wp2
   go_ret
   exact ⟨ah (by omega),rfl⟩
  ·have hx':((x:Int)==0)=false:=by simp [hx]
   have hy':((y:Int)==0)=true:=by have:=hz.resolve_left hx;simp [this]
   clear hg hz
   go_enter Tryz.func130,Tryz.ntmps130
   go_wp2_with fail
   refine (C.out.1 _).mono ?_
   rintro e w' ⟨rfl,rfl⟩
   go_wp2_with fail
   refine (C.out.2 _).mono ?_
   rintro e w' ⟨rfl,rfl⟩
   go_wp2
   go_ret
   exact ⟨ah (by omega),rfl⟩
 ·have hx:x≠0:=fun h=>hz (.inl h)
  have hy:y≠0:=fun h=>hz (.inr h)
  have hx':((x:Int)==0)=false:=by simp [hx]
  have hy':((y:Int)==0)=false:=by simp [hy]
  have hor:bits BinOp.or IntKind.u64 (x:Int) (y:Int)=((x ||| y:Nat):Int):=mS x y (by omega) (by omega)
  have ct:=fun W (h:cE W)=>uy (x ||| y) W (fun q=>hx (Nat.or_eq_zero_iff.1 q).1) (Nat.or_lt_two_pow (n:=64) (by omega) (by omega)) h
  have cx:=fun W (h:cE W)=>uy x W hx (by omega) h
  have hst:=xi hx hy (by omega) (by omega)
  have hmx:∃ m,x / 2 ^ Lib.ctz 64 x=2*m+1:=by obtain ⟨m,h,_⟩:=nw hx (by omega);exact ⟨m,h⟩
  have HGL:=Ha (show Nat.gcd x y<9223372036854775808 from Nat.lt_of_le_of_lt (Nat.gcd_le_left _ (by omega)) ha)
  have hle:x / 2 ^ Lib.ctz 64 x≤x:=Nat.div_le_self _ _
  have hcx:Lib.ctz 64 x<64:=by obtain ⟨_,_,h⟩:=gC hx (by omega);exact h
  have htt:Lib.ctz 64 (x ||| y)<64:=by obtain ⟨_,_,h⟩:=gC (x:=x ||| y) (fun q=>hx (Nat.or_eq_zero_iff.1 q).1) (Nat.or_lt_two_pow (n:=64) (by omega) (by omega));exact h
  have HT2:=Ha (Hb ct cx)
  clear ct cx hz hx hy
  generalize Lib.ctz 64 (x ||| y)=t at *
  have HST:=Ha (Hb hst (Hb hmx (Hb hle (Hb hcx htt))))
  clear hst hmx hle hor hcx htt
  have HOR:=Ha (mS x y (by omega) (by omega))
  generalize x ||| y=xy at *
  go_enter Tryz.func130,Tryz.ntmps130
  go_wp2_with fail
  refine (C.out.1 _).mono ?_
  rintro e w' ⟨rfl,rfl⟩
  have HX:=Ha (Hb hx' (Hb hy' (Hb ha hb)))
  clear ha hb hx' hy'
  go_wp2_with fail
  refine (C.out.2 _).mono ?_
  rintro e w' ⟨rfl,rfl⟩
  clear C
  have hx':=HX.out.1
  have hy':=HX.out.2.1
  have hor:=HOR.out
  go_wp2_with fail
  refine (HT2.out.1 _ HT.out).mono ?_
  rintro e w' ⟨rfl,rfl⟩
  clear hor hx' hy'
  go_wp2_with fail
  refine (HT2.out.2 _ HT.out).mono ?_
  rintro e w' ⟨rfl,rfl⟩
  clear HT2
  generalize Lib.ctz 64 x=cx at *
  go_wp2_with fail
  have hst:=HST.out
  have hmin:min cx 64=cx:=by have:=hst.2.2.2.1;omega
  have e0:((x:Int) / 2 ^ cx)=((x / 2 ^ cx:Nat):Int):=by simp
  rw [hmin,e0]
  clear e0 hmin
  have HT64:=Ha hst.2.2.2.2
  clear HST
  generalize hz:x / 2 ^ cx=z at *
  have HG:=Ha hst.1
  obtain ⟨m,hm⟩:=hst.2.1
  have hzl:=hst.2.2.1
  have hx:=HX.out.2.2.1
  have hyl:=HX.out.2.2.2
  clear hst hz HX
  have HZ:=Ha (show z % 2=1∧z<9223372036854775808∧y<9223372036854775808 by omega)
  clear hx hyl hzl hm m
  go_loop [5,6] (fun u v=>∃ X Y:Nat,u = .int .u64 X∧v = .int .u64 Y∧Hid (X % 2=1∧X<9223372036854775808∧Y<9223372036854775808)∧Hid (Nat.gcd X Y=Nat.gcd z y)) (fun u v=>(intOf u+intOf v).toNat)
  case atStart=>exact ⟨z,y,rfl,rfl,HZ,rfl⟩
  case round =>
   obtain ⟨X,Y,rfl,rfl,hb,hg⟩:=hrel
   by_cases hY:Y=0
   ·have hY':((Y:Int)==0)=true:=by simp [hY]
    have hgg:=hg.out
    rw [hY,Nat.gcd_zero_right] at hgg
    have hfin:X*2 ^ t=Nat.gcd x y:=by rw [HG.out,←hgg]
    have hlt:X*2 ^ t<9223372036854775808:=by
     rw [hfin];exact HGL.out
    have HF:=Ha (Hb hfin hlt)
    clear hfin hlt hgg hY
    go_wp2
    go_ret
    refine ⟨ah ?_,rfl⟩
    have h1:=HF.out.1
    have h2:=HF.out.2
    have hm:min t 64=t:=by have:=HT64.out;omega
    rw [hm,show ((X:Int)*2 ^ t)=((X*2 ^ t:Nat):Int) by simp,←h1]
    generalize X*2 ^ t=g at *
    rw [IntKind.wrap_u64]
    unfold wrap64
    omega
   ·have hY':((Y:Int)==0)=false:=by simp [hY]
    have hr:=xj hb.out.1 hY (by have:=hb.out.2.2;omega)
    have ct:=uy Y w hY (by have:=hb.out.2.2;omega) HT.out
    have hc64:Lib.ctz 64 Y<64:=by obtain ⟨_,_,h⟩:=gC hY (by have:=hb.out.2.2;omega);exact h
    have HR:=Ha (Hb hr (Hb ct hc64))
    clear hr ct hc64
    generalize Lib.ctz 64 Y=cy at *
    go_wp2_with fail
    refine HR.out.2.1.mono ?_
    rintro e w' ⟨rfl,rfl⟩
    obtain ⟨⟨r1,r2,r3,r4⟩,_,hc64⟩:=HR.out
    obtain ⟨Z,hZ⟩:∃ Z,Y / 2 ^ cy=Z:=⟨_,rfl⟩
    have e1:(Y:Int) / 2 ^ min cy 64=(Z:Int):=by rw [show min cy 64=cy by omega,←hZ];simp
    rw [hZ] at r1 r2 r3 r4
    have hX1:=hb.out.2.1
    have hY1:=hb.out.2.2
    have hX0:=hb.out.1
    by_cases hxz:X≤Z
    ·rw [Nat.min_eq_left hxz] at r1 r2 r3
     rw [Nat.max_eq_right hxz] at r1 r3
     have emin:min (X:Int) (Z:Int)=X:=by omega
     have emax:max (X:Int) (Z:Int)=Z:=by omega
     have HQ:=Ha (Hb (r1.trans hg.out) r3)
     have HW:=Ha (show X % 2=1∧X<9223372036854775808∧Z - X<9223372036854775808 by omega)
     have esub:IntKind.u64.wrap ((Z:Int) - (X:Int))=((Z - X:Nat):Int):=by rw [IntKind.wrap_u64];omega
     have HS:=Ha hxz
     clear r1 r2 r3 r4 hZ HR hb hg hX0 hX1 hY1 hc64 hxz
     go_wp2
     go_round
     case rel=>exact ⟨X,Z - X,rfl,by go_num,HW,HQ.out.1⟩
     case measure=>have:=HQ.out.2;have:=HS.out;simp [intOf];omega
    ·have hxz:Z≤X:=by omega
     rw [Nat.min_eq_right hxz] at r1 r2 r3
     rw [Nat.max_eq_left hxz] at r1 r3
     have emin:min (X:Int) (Z:Int)=Z:=by omega
     have emax:max (X:Int) (Z:Int)=X:=by omega
     have HQ:=Ha (Hb (r1.trans hg.out) r3)
     have HW:=Ha (show Z % 2=1∧Z<9223372036854775808∧X - Z<9223372036854775808 by omega)
     have esub:IntKind.u64.wrap ((X:Int) - (Z:Int))=((X - Z:Nat):Int):=by rw [IntKind.wrap_u64];omega
     have HS:=Ha hxz
     clear r1 r2 r3 r4 hZ HR hb hg hX0 hX1 hY1 hc64 hxz
     go_wp2
     go_round
     case rel=>exact ⟨Z,X - Z,rfl,by go_num,HW,HQ.out.1⟩
     case measure=>have:=HQ.out.2;have:=HS.out;simp [intOf];omega
end
end Go.Proofs.YtocalfjfjjljnaaGreatDoor
