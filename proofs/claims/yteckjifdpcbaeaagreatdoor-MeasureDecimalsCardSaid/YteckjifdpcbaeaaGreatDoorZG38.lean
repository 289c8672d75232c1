/- Parts of the proof of the text YteckjifdpcbaeaaGreatDoorZG38. -/
import Derived.Test.YteckjifdpcbaeaaGreatDoorZG1
import Derived.Test.YteckjifdpcbaeaaGreatDoorZG25
import Derived.Test.YteckjifdpcbaeaaGreatDoorZG37
set_option linter.all false
set_option maxRecDepth 100000
set_option maxHeartbeats 8000000
namespace Go.Proofs.YteckjifdpcbaeaaGreatDoor.T
open Go.Proofs.YteckjifdpcbaeaaGreatDoor Go Go.RowKit
theorem rsz (s:ByteArray) (w:World) (hs:s.size≤100000) :
  Calls Tryz.prog 53 #[.string s] w fun e W'=>e = .returned (.int .i64 ((szL s.data.toList).length:Nat))∧Below w.heap.size w W':=by
 have hm:s.size≤9223372036854775807:=by omega
 have hl:s.data.toList.length=s.size:=rfl
 by_cases h0:s.size=0
 ·have hE:=empty_true h0
  have e0:s.data.toList = []:=data_nil h0
  have hE':(s.toList != [])=false:=by rw [bne,ByteArray.toList_eq,e0];rfl
  have HR:=Lib.hid (show (szL s.data.toList).length=0 by rw [e0];rfl)
  clear hl e0 hs
  go_enter Tryz.func53,Tryz.ntmps53
  go_wp2
  go_ret
  exact ⟨ret_int (by rw [HR.out];rfl),Below.refl _ _⟩
 ·have hp:0<s.size:=by omega
  have hE':s.toList.isEmpty=false:=by
   rw [ByteArray.toList_eq]
   cases hd:s.data.toList with
   | nil=>rw [hd] at hl;simp at hl;omega
   | cons a t=>rfl
  cases hn:isNeg s.data.toList
  ·have h45:((s[0].toNat:Int)==45)=false:=(isNeg_pos hp).trans hn
   have HR:=Lib.hid (show (szL s.data.toList).length=s.size by unfold szL;rw [hn];rfl)
   clear hl hn hs
   go_enter Tryz.func53,Tryz.ntmps53
   go_wp2
   go_ret
   exact ⟨ret_int (by rw [HR.out]),Below.refl _ _⟩
  ·have h45:((s[0].toNat:Int)==45)=true:=(isNeg_pos hp).trans hn
   have HR:=Lib.hid (show (szL s.data.toList).length=s.size - 1 by unfold szL;rw [hn,if_pos rfl,List.length_tail];rfl)
   clear hl hn hs
   go_enter Tryz.func53,Tryz.ntmps53
   go_wp2
   go_ret
   exact ⟨ret_int (by rw [HR.out];omega),Below.refl _ _⟩
theorem rdg (s:ByteArray) (w:World) (hs:s.size≤100000) :
  Calls Tryz.prog 35 #[.string s] w fun e W'=>e = .returned (.int .i64 (ndg s.data.toList:Nat))∧Below w.heap.size w W':=by
 have hm:s.size≤9223372036854775807:=by omega
 clear hs
 go_enter Tryz.func35,Tryz.ntmps35
 go_wp2
 go_loop [3] (fun i=>∃ k:Nat,k≤s.size∧i = .int .i64 k∧Hid ((s.data.toList.take k).all isDig=true)) (fun i=>s.size - (intOf i).toNat)
 case atStart=>exact ⟨0,Nat.zero_le _,rfl,rfl⟩
 case round =>
  obtain ⟨k,hk,rfl,hd⟩:=hrel
  by_cases hlt:k<s.size
  ·have out:isDig s[k]=false→Hid (ndg s.data.toList=k):=fun h=>Lib.hid (ndg_eq hd.out (.inr ⟨s[k],List.getElem?_eq_getElem (show k<s.data.toList.length from hlt),h⟩) hk)
   by_cases h1:(48:Int)≤s[k].toNat
   ·by_cases h2:(s[k].toNat:Int)≤57
    ·have hd':Hid ((s.data.toList.take (k+1)).all isDig=true):=by
      show (s.data.toList.take (k+1)).all isDig=true
      rw [take_snoc s k hlt,List.all_append,hd.out]
      have:isDig s[k]=true:=by rw [isDig_iff];omega
      simp [this]
     clear hd out
     go_wp2
     go_round
     case rel=>exact ⟨k+1,by omega,by go_num,hd'⟩
     case measure=>simp [intOf];omega
    ·have HO:=out (by rw [←Bool.not_eq_true,isDig_iff];omega)
     clear hd out
     go_wp2
     go_ret
     exact ⟨ret_int (by rw [HO.out]),Below.refl _ _⟩
   ·have HO:=out (by rw [←Bool.not_eq_true,isDig_iff];omega)
    clear hd out
    go_wp2
    go_ret
    exact ⟨ret_int (by rw [HO.out]),Below.refl _ _⟩
  ·have HO:=Lib.hid (ndg_eq hd.out (.inl (show s.size≤k by omega)) hk)
   clear hd
   go_wp2
   go_ret
   exact ⟨ret_int (by rw [HO.out]),Below.refl _ _⟩
theorem rpw (n:Nat) (w:World) (hn:n≤1000) :
  Calls Tryz.prog 28 #[.int .i64 n] w fun e W'=>e = .returned (.string (strQ (pw n)))∧Below w.heap.size w W':=by
 have H0:=Lib.hid (pw_str n)
 go_enter Tryz.func28,Tryz.ntmps28
 go_wp2
 go_loop [3,4] (fun x i=>∃ (k:Nat) (u:ByteArray),k≤n∧i = .int .i64 k∧x = .string u∧u.size=1+k∧Hid (u=bO (49::List.replicate k 48))) (fun _ i=>n - (intOf i).toNat)
 case atStart=>exact ⟨0,⟨#[49]⟩,Nat.zero_le _,rfl,rfl,rfl,rfl⟩
 case round =>
  obtain ⟨k,u,hk,rfl,rfl,hz,hu⟩:=hrel
  by_cases hlt:k<n
  ·have hu':Hid (u++⟨#[48]⟩=bO (49::List.replicate (k+1) 48)):=by
    show _=_
    rw [hu.out,show (⟨#[48]⟩:ByteArray)=bO [48] from rfl,bO_app,List.replicate_succ'];rfl
   have hz':(u++⟨#[48]⟩).size=1+(k+1):=by rw [ByteArray.size_append,hz];rfl
   have HZ:=Lib.hid hz'
   have n1:¬ (9223372036854775807:Int)<(u.size:Int)+1:=by omega
   clear hu hz hz'
   go_wp2
   go_round
   case rel=>exact ⟨k+1,_,by omega,by go_num,rfl,HZ.out,hu'⟩
   case measure=>simp [intOf];omega
  ·obtain rfl:k=n:=by omega
   clear hz hlt hk hn
   go_wp2
   go_ret
   exact ⟨by rw [hu.out,H0.out];rfl,Below.refl _ _⟩
theorem wz_step {t:List UInt8} (h:t ≠ []):wz (48::t)=wz t:=by
 unfold wz nz
 rw [List.dropWhile_cons_of_pos (by decide)]
theorem wz_stop {c:UInt8} {t:List UInt8} (h:c≠48∨t = []):wz (c::t)=c::t:=by
 unfold wz nz
 by_cases hc:c=48
 ·subst hc
  rcases h with q | rfl
  ·exact absurd rfl q
  ·rfl
 ·rw [List.dropWhile_cons_of_neg (by simpa using hc),if_neg (by simp)]
theorem rwh (s:ByteArray) (w:World) (hs:s.size≤100000) (h0:0<s.size) :
  Calls Tryz.prog 36 #[.string s] w fun e W'=>e = .returned (.string (bO (wz s.data.toList)))∧Below w.heap.size w W':=by
 go_enter Tryz.func36,Tryz.ntmps36
 go_wp2
 go_loop [0] (fun x=>∃ u:ByteArray,x = .string u∧0<u.size∧u.size≤100000∧Hid (wz u.data.toList=wz s.data.toList)) (fun x=>match x with | .string u=>u.size | _=>0)
 case atStart=>exact ⟨s,rfl,h0,hs,rfl⟩
 case round =>
  obtain ⟨u,rfl,hp,hu,hw⟩:=hrel
  have hm:u.size≤9223372036854775807:=by omega
  obtain ⟨t,ht⟩:=data_cons hp
  have hlen:t.length+1=u.size:=by have:=congrArg List.length ht;rw [List.length_cons] at this;exact this.symm
  by_cases h1:1<u.size
  ·have h1':(1:Int)<u.size:=by omega
   cases hc:((u[0].toNat:Int)==48)
   ·have HS:=Lib.hid (show wz u.data.toList=u.data.toList by
     rw [ht];exact wz_stop (.inl (fun e=>by rw [e] at hc;revert hc;decide)))
    clear ht hlen hu
    go_wp2
    go_ret
    exact ⟨by rw [←hw.out,HS.out,bO_of];rfl,Below.refl _ _⟩
   ·have h48:u[0]=48:=UInt8.toNat_inj.1 (by rw [beq_iff_eq] at hc;have:(48:UInt8).toNat=48:=rfl;omega)
    have hd:(u.extract 1 u.size).data.toList=t:=by
     rw [Lib.extract_data,ht,List.take_of_length_le (by rw [List.length_drop,List.length_cons];omega)];rfl
    have hz:=ext_size u
    have HW:Hid (wz (u.extract 1 u.size).data.toList=wz s.data.toList):=by
     show _=_
     rw [hd,←hw.out,ht,h48,wz_step (fun e=>by rw [e] at hlen;simp at hlen;omega)]
    have HZ:=Lib.hid (show 0<(u.extract 1 u.size).size∧(u.extract 1 u.size).size≤100000∧(u.extract 1 u.size).size<u.size by omega)
    clear hd hz ht hlen hw h48
    go_wp2
    go_round
    case rel=>exact ⟨_,rfl,HZ.out.1,HZ.out.2.1,HW⟩
    case measure=>exact HZ.out.2.2
  ·have h1':¬ (1:Int)<u.size:=by omega
   have HS:=Lib.hid (show wz u.data.toList=u.data.toList by
    rw [ht];exact wz_stop (.inr (List.eq_nil_of_length_eq_zero (by omega))))
   clear ht hlen hu
   go_wp2
   go_ret
   exact ⟨by rw [←hw.out,HS.out,bO_of];rfl,Below.refl _ _⟩
theorem op_q {x y:Rat} (hx:Sq x) (hy:Sq y):(∀ f,opB f (strQ x) (strQ y)=f x y)∧∀ f,opE f (strQ x) (strQ y)=f x y:=by
 have h:chk2Q (strQ x) (strQ y)=0:=by unfold chk2Q;rw [if_pos hx.chk,hy.chk]
 have rx:rat (strQ x)=x:=strQ_rat x
 have ry:rat (strQ y)=y:=strQ_rat y
 exact ⟨fun f=>by unfold opB;rw [if_pos h,rx,ry],fun f=>by unfold opE;rw [if_pos h,rx,ry]⟩
theorem rprod_core (a b c:ByteArray) (E:Int) (w:World)
  (h1:∀ W,Below w.heap.size w W→Calls Tryz.prog 58 #[.string a,.string b] W fun e W'=>e = .returned (.tuple #[.string c,.int .i64 E])∧Below W.heap.size W W')
  : Calls Tryz.prog 27 #[.string a,.string b] w fun e W'=>e = .returned (.string c)∧Below w.heap.size w W':=by
 have O:=Lib.hid (h1);clear h1
 go_enter Tryz.func27,Tryz.ntmps27
 have HB:=Lib.hid (Below.refl w.heap.size w)
 go_wp2_with fail
 refine (O.out _ HB.out).mono ?_
 rintro e w1 ⟨rfl,b⟩
 have HN:=Lib.hid (HB.out.trans (b.mono HB.out.size));clear HB b;have HB:=HN;clear HN
 go_wp2
 go_ret
 exact ⟨rfl,HB.out⟩
theorem rnear_core (a b n:ByteArray) (E F:Int) (w:World)
  (h1:∀ W,Below w.heap.size w W→Calls Tryz.prog 38 #[.string a,.string ⟨#[49,47,50]⟩] W fun e W'=>e = .returned (.tuple #[.string b,.int .i64 E])∧Below W.heap.size W W')
  (h2:∀ W,Below w.heap.size w W→Calls Tryz.prog 30 #[.string b] W fun e W'=>e = .returned (.tuple #[.string n,.int .i64 F])∧Below W.heap.size W W')
  : Calls Tryz.prog 26 #[.string a] w fun e W'=>e = .returned (.string n)∧Below w.heap.size w W':=by
 have O:=Lib.hid (And.intro h1 (h2));clear h1 h2
 go_enter Tryz.func26,Tryz.ntmps26
 have HB:=Lib.hid (Below.refl w.heap.size w)
 go_wp2_with fail
 refine (O.out.1 _ HB.out).mono ?_
 rintro e w1 ⟨rfl,b⟩
 have HN:=Lib.hid (HB.out.trans (b.mono HB.out.size));clear HB b;have HB:=HN;clear HN
 go_wp2_with fail
 refine (O.out.2 _ HB.out).mono ?_
 rintro e w2 ⟨rfl,b⟩
 have HN:=Lib.hid (HB.out.trans (b.mono HB.out.size));clear HB b;have HB:=HN;clear HN
 go_wp2
 go_ret
 exact ⟨rfl,HB.out⟩
theorem rprod (x y:Rat) {j k:Nat} (w:World) (hx:Bq j x) (hy:Bq k y) (hb:j+k≤300) (T:TabM w) :
  Calls Tryz.prog 27 #[.string (strQ x),.string (strQ y)] w fun e W'=>e = .returned (.string (strQ (x*y)))∧Below w.heap.size w W':=by
 obtain ⟨a1,a2,_⟩:=qmul_ok hx hy hb
 have sx:Sq x:=hx.lim (by omega)
 have sy:Sq y:=hy.lim (by omega)
 refine rprod_core _ _ _ 0 w (fun W hW => ?_)
 have c:=rMul_any (strQ x) (strQ y) W sx.size sy.size (T.next hW).1
 rwa [(op_q sx sy).1,(op_q sx sy).2,a1,a2] at c
theorem rnear (x:Rat) {k:Nat} (w:World) (h:Bq k x) (hk:k≤290) (T:TabM w) :
  Calls Tryz.prog 26 #[.string (strQ x)] w fun e W'=>e = .returned (.string (strB (nr x)))∧Below w.heap.size w W':=by
 obtain ⟨a1,a2,a3⟩:=half_add h hk
 have sx:Sq x:=h.lim (by omega)
 have sh:Sq half:=half_bq.lim (by decide)
 have sa:Sq (x+half):=a3.lim (by omega)
 refine rnear_core _ (strQ (x+half)) _ 0 0 w (fun W hW => ?_) (fun W hW => ?_)
 ·have c:=rAdd_any (strQ x) (strQ half) W sx.size sh.size (T.next hW).1
  rwa [(op_q sx sh).1,(op_q sx sh).2,a1,a2,half_str] at c
 ·have c:=rFloor_any (strQ (x+half)) W sa.size (T.next hW).1
  unfold floB at c
  rwa [if_pos sa.chk,sa.chk,show rat (strQ (x+half))=x+half from strQ_rat _] at c
theorem rchk_err (a:ByteArray) (E:Int) (w:World) (e0:(E==0)=false) (e1:(E != 0)=true)
  (h1:∀ W,Below w.heap.size w W→Calls Tryz.prog 51 #[.string a] W fun e W'=>e = .returned (.int .i64 E)∧Below W.heap.size W W')
  : Calls Tryz.prog 22 #[.string a] w fun e W'=>e = .returned (.int .i64 E)∧Below w.heap.size w W':=by
 have O:=Lib.hid (h1);clear h1
 go_enter Tryz.func22,Tryz.ntmps22
 have HB:=Lib.hid (Below.refl w.heap.size w)
 go_wp2_with fail
 refine (O.out _ HB.out).mono ?_
 rintro e w1 ⟨rfl,b⟩
 have HN:=Lib.hid (HB.out.trans (b.mono HB.out.size));clear HB b;have HB:=HN;clear HN
 go_wp2
 go_ret
 exact ⟨rfl,HB.out⟩
theorem rchk_1 (a p d:ByteArray) (F n:Int) (w:World) (s1:90<n)
  (h1:∀ W,Below w.heap.size w W→Calls Tryz.prog 51 #[.string a] W fun e W'=>e = .returned (.int .i64 0)∧Below W.heap.size W W')
  (h2:∀ W,Below w.heap.size w W→Calls Tryz.prog 52 #[.string a] W fun e W'=>e = .returned (.tuple #[.string p,.string d,.int .i64 F])∧Below W.heap.size W W')
  (h3:∀ W,Below w.heap.size w W→Calls Tryz.prog 53 #[.string p] W fun e W'=>e = .returned (.int .i64 n)∧Below W.heap.size W W')
  : Calls Tryz.prog 22 #[.string a] w fun e W'=>e = .returned (.int .i64 4)∧Below w.heap.size w W':=by
 have O:=Lib.hid (And.intro h1 (And.intro h2 (h3)));clear h1 h2 h3
 go_enter Tryz.func22,Tryz.ntmps22
 have HB:=Lib.hid (Below.refl w.heap.size w)
 go_wp2_with fail
 refine (O.out.1 _ HB.out).mono ?_
 rintro e w1 ⟨rfl,b⟩
 have HN:=Lib.hid (HB.out.trans (b.mono HB.out.size));clear HB b;have HB:=HN;clear HN
 go_wp2_with fail
 refine (O.out.2.1 _ HB.out).mono ?_
 rintro e w2 ⟨rfl,b⟩
 have HN:=Lib.hid (HB.out.trans (b.mono HB.out.size));clear HB b;have HB:=HN;clear HN
 go_wp2_with fail
 refine (O.out.2.2 _ HB.out).mono ?_
 rintro e w3 ⟨rfl,b⟩
 have HN:=Lib.hid (HB.out.trans (b.mono HB.out.size));clear HB b;have HB:=HN;clear HN
 go_wp2
 go_ret
 exact ⟨rfl,HB.out⟩
theorem rchk_2 (a p d:ByteArray) (F n m:Int) (w:World) (s1:¬ 90<n) (s2:90<m)
  (h1:∀ W,Below w.heap.size w W→Calls Tryz.prog 51 #[.string a] W fun e W'=>e = .returned (.int .i64 0)∧Below W.heap.size W W')
  (h2:∀ W,Below w.heap.size w W→Calls Tryz.prog 52 #[.string a] W fun e W'=>e = .returned (.tuple #[.string p,.string d,.int .i64 F])∧Below W.heap.size W W')
  (h3:∀ W,Below w.heap.size w W→Calls Tryz.prog 53 #[.string p] W fun e W'=>e = .returned (.int .i64 n)∧Below W.heap.size W W')
  (h4:∀ W,Below w.heap.size w W→Calls Tryz.prog 53 #[.string d] W fun e W'=>e = .returned (.int .i64 m)∧Below W.heap.size W W')
  : Calls Tryz.prog 22 #[.string a] w fun e W'=>e = .returned (.int .i64 4)∧Below w.heap.size w W':=by
 have O:=Lib.hid (And.intro h1 (And.intro h2 (And.intro h3 (h4))));clear h1 h2 h3 h4
 go_enter Tryz.func22,Tryz.ntmps22
 have HB:=Lib.hid (Below.refl w.heap.size w)
 go_wp2_with fail
 refine (O.out.1 _ HB.out).mono ?_
 rintro e w1 ⟨rfl,b⟩
 have HN:=Lib.hid (HB.out.trans (b.mono HB.out.size));clear HB b;have HB:=HN;clear HN
 go_wp2_with fail
 refine (O.out.2.1 _ HB.out).mono ?_
 rintro e w2 ⟨rfl,b⟩
 have HN:=Lib.hid (HB.out.trans (b.mono HB.out.size));clear HB b;have HB:=HN;clear HN
 go_wp2_with fail
 refine (O.out.2.2.1 _ HB.out).mono ?_
 rintro e w3 ⟨rfl,b⟩
 have HN:=Lib.hid (HB.out.trans (b.mono HB.out.size));clear HB b;have HB:=HN;clear HN
 go_wp2_with fail
 refine (O.out.2.2.2 _ HB.out).mono ?_
 rintro e w4 ⟨rfl,b⟩
 have HN:=Lib.hid (HB.out.trans (b.mono HB.out.size));clear HB b;have HB:=HN;clear HN
 go_wp2
 go_ret
 exact ⟨rfl,HB.out⟩
theorem rchk_3 (a p d:ByteArray) (F n m:Int) (w:World) (s1:¬ 90<n) (s2:¬ 90<m)
  (h1:∀ W,Below w.heap.size w W→Calls Tryz.prog 51 #[.string a] W fun e W'=>e = .returned (.int .i64 0)∧Below W.heap.size W W')
  (h2:∀ W,Below w.heap.size w W→Calls Tryz.prog 52 #[.string a] W fun e W'=>e = .returned (.tuple #[.string p,.string d,.int .i64 F])∧Below W.heap.size W W')
  (h3:∀ W,Below w.heap.size w W→Calls Tryz.prog 53 #[.string p] W fun e W'=>e = .returned (.int .i64 n)∧Below W.heap.size W W')
  (h4:∀ W,Below w.heap.size w W→Calls Tryz.prog 53 #[.string d] W fun e W'=>e = .returned (.int .i64 m)∧Below W.heap.size W W')
  : Calls Tryz.prog 22 #[.string a] w fun e W'=>e = .returned (.int .i64 0)∧Below w.heap.size w W':=by
 have O:=Lib.hid (And.intro h1 (And.intro h2 (And.intro h3 (h4))));clear h1 h2 h3 h4
 go_enter Tryz.func22,Tryz.ntmps22
 have HB:=Lib.hid (Below.refl w.heap.size w)
 go_wp2_with fail
 refine (O.out.1 _ HB.out).mono ?_
 rintro e w1 ⟨rfl,b⟩
 have HN:=Lib.hid (HB.out.trans (b.mono HB.out.size));clear HB b;have HB:=HN;clear HN
 go_wp2_with fail
 refine (O.out.2.1 _ HB.out).mono ?_
 rintro e w2 ⟨rfl,b⟩
 have HN:=Lib.hid (HB.out.trans (b.mono HB.out.size));clear HB b;have HB:=HN;clear HN
 go_wp2_with fail
 refine (O.out.2.2.1 _ HB.out).mono ?_
 rintro e w3 ⟨rfl,b⟩
 have HN:=Lib.hid (HB.out.trans (b.mono HB.out.size));clear HB b;have HB:=HN;clear HN
 go_wp2_with fail
 refine (O.out.2.2.2 _ HB.out).mono ?_
 rintro e w4 ⟨rfl,b⟩
 have HN:=Lib.hid (HB.out.trans (b.mono HB.out.size));clear HB b;have HB:=HN;clear HN
 go_wp2
 go_ret
 exact ⟨rfl,HB.out⟩
theorem rchk7 (a:ByteArray) (w:World) (ha:a.size≤maxLen) (T:TabM w) :
  Calls Tryz.prog 22 #[.string a] w fun e W'=>e = .returned (.int .i64 (ckV a.data.toList))∧Below w.heap.size w W':=by
 have kc:=fun W (hW:Below w.heap.size w W)=>Check2_any a W ha (T.next hW).1
 unfold ckV
 by_cases h1:chkQ a.data.toList=0
 ·rw [if_pos h1]
  have kp:=fun W (hW:Below w.heap.size w W)=>rParts_any a W ha (T.next hW).1
  rw [h1] at kc
  have ea:=str_of_chkQ h1
  have hl:=chkQ_lim h1
  have sx:Sq (ratOf a.data.toList):=hl
  unfold paN paD at kp
  rw [if_pos h1,if_pos h1] at kp
  generalize hx:ratOf a.data.toList=x at *
  have z1:(bN a)=strB x.num:=by rw [ea];exact bN_strQ x
  have z2:(bD a)=strB (x.den:Int):=by rw [ea];exact bD_strQ x
  have y1:=strB_size sx.n
  have y2:=strB_size sx.d
  have k1:=fun W (_:Below w.heap.size w W)=>rsz (strB x.num) W (by omega)
  have k2:=fun W (_:Below w.heap.size w W)=>rsz (strB (x.den:Int)) W (by omega)
  have e1:(szL (strB x.num).data.toList).length=(Lib.decDigits x.num.natAbs).length:=by rw [strB_data,szL_itoa]
  have e2:(szL (strB (x.den:Int)).data.toList).length=(Lib.decDigits x.den).length:=by rw [strB_data,szL_itoa,Int.natAbs_natCast]
  rw [e1] at k1
  rw [e2] at k2
  rw [z1,z2] at kp
  have len:∀ m:Nat,(Lib.decDigits m).length≤90↔m<tenTo 90:=fun m=>by rw [Lib.decDigits_length];exact nDigits_le_iff m 90 (by decide)
  by_cases h2:x.num.natAbs<tenTo 90
  ·have q1:=(len _).2 h2
   by_cases h3:x.den<tenTo 90
   ·have q2:=(len _).2 h3
    rw [if_pos ⟨h2,h3⟩]
    exact rchk_3 a _ _ _ _ _ w (by omega) (by omega) kc kp k1 k2
   ·have q2:=mt (len _).1 h3
    rw [if_neg (fun q=>h3 q.2)]
    exact rchk_2 a _ _ _ _ _ w (by omega) (by omega) kc kp k1 k2
  ·have q1:=mt (len _).1 h2
   rw [if_neg (fun q=>h2 q.1)]
   exact rchk_1 a _ _ _ _ w (by omega) kc kp k1
 ·rw [if_neg h1]
  obtain ⟨e0,e1⟩:=bool_ne h1
  exact rchk_err a _ w e0 e1 kc
end Go.Proofs.YteckjifdpcbaeaaGreatDoor.T
