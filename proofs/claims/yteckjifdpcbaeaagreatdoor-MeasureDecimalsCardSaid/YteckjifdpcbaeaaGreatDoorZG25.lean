/- Parts of the proof of the text YteckjifdpcbaeaaGreatDoorZG38. -/
import Derived.Test.YteckjifdpcbaeaaGreatDoorZG1
import Derived.Test.YteckjifdpcbaeaaGreatDoorZG24
import Derived.Test.YteckjifdpcbaeaaGreatDoorZG9
set_option linter.all false
set_option maxRecDepth 100000
set_option maxHeartbeats 8000000
namespace Go.Proofs.YteckjifdpcbaeaaGreatDoor.T
open Go.Proofs.YteckjifdpcbaeaaGreatDoor Go Go.RowKit
def TabM (w:World):Prop:=Tab w∧Tab64 w
theorem TabM.next {w W:World} (h:TabM w) (b:Below w.heap.size w W):TabM W:=⟨h.1.next b,TabQ_next h.2 b⟩
theorem half_str:strQ half=⟨#[49,47,50]⟩:=by decide+kernel
theorem half_bq:Bq 1 half:=by constructor <;> decide+kernel
theorem tw_str:strQ tw=⟨#[49,50,55,47,54,48]⟩:=by decide+kernel
theorem tw_bq:Bq 3 tw:=by constructor <;> decide+kernel
theorem pw_bd (n:Nat):Bd (n+1) ((tenTo n:Nat):Int):=by
 show Int.natAbs _<tenTo (n+1)
 rw [Int.natAbs_natCast]
 exact Nat.pow_lt_pow_right (by decide) (by omega)
theorem pw_bq (n:Nat):Bq (n+1) (pw n):=Bq_int (by omega) (pw_bd n)
theorem strB_dec (m:Nat):bO (Lib.decDigits m)=strB (m:Int):=by
 unfold strB bO;rw [Lib.itoa_nonneg]
theorem strB_sg (z:Int):strB z=bO (sg (decide (z<0)) (Lib.decDigits z.natAbs)):=by
 unfold strB bO;rw [itoa_sg]
theorem pw_str (n:Nat):bO (49::List.replicate n 48)=strQ (pw n):=by
 unfold pw
 rw [strQ_int,←strB_dec,show tenTo n=10 ^ n from rfl,mdec_ten]
theorem zB_str (z:Int):zB (strB z)=bO (Lib.decDigits z.natAbs):=by unfold zB;rw [strB_data,szL_itoa]
theorem neg_str (z:Int):isNeg (strB z).data.toList=decide (z<0):=by rw [strB_data,head_itoa_neg]
theorem dec_len {k m:Nat} (hk:1≤k) (h:m<tenTo k):(Lib.decDigits m).length≤k:=by
 rw [Lib.decDigits_length];exact (nDigits_le_iff _ k hk).2 h
theorem nr_bd {k:Nat} {x:Rat} (h:Bq k (x+half)):Bd k (nr x):=Nat.lt_of_le_of_lt (fdiv_abs (x:=(x+half).num) (den_0 _)).1 h.num
theorem half_add {k:Nat} {x:Rat} (h:Bq k x) (hk:k≤290):qaddB x half=strQ (x+half)∧qaddE x half=0∧Bq (k+2) (x+half):=qadd_ok h half_bq (by omega)
theorem near_q (x:Rat) {k:Nat} (w:World) (h:Bq k x) (hk:k≤290) (T:TabM w) :
  Calls Tryz.prog 24 #[.string (strQ x)] w fun e W'=>e = .returned (.tuple #[.string (strB (nr x)),.int .i64 0])∧Below w.heap.size w W':=by
 obtain ⟨a1,a2,a3⟩:=half_add h hk
 refine near_core _ (strQ (x+half)) _ w (fun W hW => ?_) (fun W hW => ?_)
 ·have c:=Add_q x half W (h.lim (by omega)) (half_bq.lim (by decide)) (T.next hW).1 (T.next hW).2
  rwa [a1,a2,half_str] at c
 ·exact Floor_q (x+half) W (a3.lim (by omega)) (T.next hW).1 (T.next hW).2
theorem check_q7 (x:Rat) (w:World) (h:Bq 90 x) (T:TabM w) :
  Calls Tryz.prog 39 #[.string (strQ x)] w fun e W'=>e = .returned (.int .i64 0)∧Below w.heap.size w W':=by
 have l1:=dec_len (k:=90) (by decide) h.num
 have l2:=dec_len (k:=90) (by decide) h.2
 refine check_core _ (strB x.num) (strB (x.den:Int)) (bO (Lib.decDigits x.num.natAbs)) (decide (x.num<0)) w ?_ ?_ (fun W hW=>Parts_q x W (h.lim (by decide)) (T.next hW).1 (T.next hW).2) (fun W hW => ?_)
 ·rw [bO_size];omega
 ·rw [←strB_dec,bO_size];omega
 ·have c:=mprefix (strB x.num) W
  rwa [zB_str,neg_str] at c
theorem inl_q (x:Rat) (n:Nat) (w:World) (h:Bq 90 x) (hn:n≤100) (T:TabM w) :
  Calls Tryz.prog 23 #[.string (strQ x),.int .i64 n] w fun e W'=>e = .returned (.tuple #[.string (strQ (x*pw n)),.int .i64 0])∧Below w.heap.size w W':=by
 obtain ⟨a1,a2,a3⟩:=qmul_ok h (pw_bq n) (by omega)
 refine inl_core _ (strQ (pw n)) _ n w (by omega) (by omega) (fun W hW=>check_q7 x W h (T.next hW)) (fun W hW => ?_) (fun W hW => ?_)
 ·have c:=mten n W (by omega)
  rwa [pw_str] at c
 ·have c:=Mul_q x (pw n) W (h.lim (by decide)) ((pw_bq n).lim (by omega)) (T.next hW).1 (T.next hW).2
  rwa [a1,a2] at c
theorem sgB_bO {b:Bool} {l:List UInt8} (h:b=true→l ≠ [48]):sgB b (bO l)=bO (sg b l):=by
 unfold sgB sg
 cases b
 ·rfl
 ·have h1:((bO l).toList != [48])=true:=by rw [bne,ByteArray.toList_eq,bO_data,Bool.not_eq_true',beq_eq_false_iff_ne];exact h rfl
  rw [h1]
  exact bO_app [45] l
theorem dec_0 {m:Nat} (h:Lib.decDigits m = [48]):m=0:=by
 have h1:=natOf_dec m
 rw [h] at h1;rw [←h1];decide
theorem sgB_str (b:Bool) (m:Nat):sgB b (bO (Lib.decDigits m))=strB (if b then -(m:Int) else (m:Int)):=by
 cases b
 ·unfold sgB;rw [Bool.false_and,if_neg (by decide)];exact strB_dec m
 ·by_cases h:m=0
  ·subst h
   have e:Lib.decDigits 0 = [48]:=by decide+kernel
   have h1:((bO [48]).toList != [48])=false:=by rw [bne,ByteArray.toList_eq,bO_data];rfl
   unfold sgB
   rw [e,h1]
   show bO [48]=strB (-((0:Nat):Int))
   rw [←e]
   exact strB_dec 0
  ·rw [sgB_bO (fun _ e=>h (dec_0 e)),if_pos rfl,strB_sg,decide_eq_true (show -(m:Int)<0 by omega),show (-(m:Int)).natAbs=m by omega]
theorem ext_take (l:List UInt8) (a:Nat):(bO l).extract 0 a=bO (l.take a):=by
 apply bytes_ext
 rw [Lib.extract_data,bO_data,bO_data];simp
theorem ext_drop (l:List UInt8) (a:Nat):(bO l).extract a (bO l).size=bO (l.drop a):=by
 apply bytes_ext
 rw [Lib.extract_data,bO_data,bO_data,bO_size,List.take_of_length_le (by rw [List.length_drop];exact Nat.le_refl _)]
theorem dec_q (z:Int) (n:Nat) (w:World) (hn:n≤100) (hz:Bd 300 z) :
  Calls Tryz.prog 25 #[.string (strB z),.int .i64 n] w fun e W'=>e = .returned (.string (bO (decT n z)))∧Below w.heap.size w W':=by
 have l1:=dec_len (k:=300) (by decide) hz
 have kp:∀ W,Below w.heap.size w W→Calls Tryz.prog 31 #[.string (strB z),.string ⟨#[45]⟩] W fun e W'=>e = .returned (.tuple #[.string (bO (Lib.decDigits z.natAbs)),.bool (decide (z<0))])∧Below W.heap.size W W':=fun W _=>by
  have c:=mprefix (strB z) W
  rwa [zB_str,neg_str] at c
 by_cases h0:n=0
 ·subst h0
  refine dec0_core _ _ _ (decide (z<0)) w kp (fun W hW => ?_)
  have c:=msigned (decide (z<0)) (bO (Lib.decDigits z.natAbs)) W (by rw [bO_size];omega)
  rwa [sgB_bO (fun h e=>by have:=dec_0 e;have:=of_decide_eq_true h;omega)] at c
 ·have p1:=pad_len n z.natAbs
  have p2:=pad_le n z.natAbs
  have ep:bO (List.replicate (n+1 - (Lib.decDigits z.natAbs).length) 48)++bO (Lib.decDigits z.natAbs)=bO (pad n z.natAbs):=bO_app _ _
  have el:(pad n z.natAbs).length=(n+1 - (Lib.decDigits z.natAbs).length)+(Lib.decDigits z.natAbs).length:=by unfold pad;rw [List.length_append,List.length_replicate]
  refine dec_core _ (bO (Lib.decDigits z.natAbs)) _ (bO (List.replicate (n+1 - (Lib.decDigits z.natAbs).length) 48)) (bO ((pad n z.natAbs).take ((pad n z.natAbs).length - n))) (bO ((pad n z.natAbs).drop ((pad n z.natAbs).length - n))) (decide (z<0)) n (n+1 - (Lib.decDigits z.natAbs).length) ((pad n z.natAbs).length - n) w (by simp;omega) (by rw [bO_size]) (by omega) (by rw [bO_size];omega) (by rw [bO_size,List.length_replicate]) (by rw [bO_size,bO_size,List.length_replicate];omega) (by rw [ep];exact ext_take _ _) (by rw [ep];exact ext_drop _ _) (by rw [ep,bO_size,bO_size,bO_size,List.length_replicate];omega) (by rw [bO_size,List.length_take];omega) (by rw [bO_size,List.length_drop];omega) kp (fun j hj W hW=>by rw [hj];exact mrep _ W (by omega)) (fun W hW => ?_)
  rw [show (⟨#[46]⟩:ByteArray)=bO [46] from rfl,bO_app,bO_app,List.append_assoc,List.singleton_append]
  have e:(pad n z.natAbs).take ((pad n z.natAbs).length - n)++46::(pad n z.natAbs).drop ((pad n z.natAbs).length - n)=decU n z.natAbs:=by unfold decU;rw [if_neg h0]
  rw [e]
  have c:=msigned (decide (z<0)) (bO (decU n z.natAbs)) W (by rw [bO_size];have:=decU_len n z.natAbs;omega)
  rwa [sgB_bO (fun _ e=>by
   have:=congrArg List.length e
   unfold decU at this
   rw [if_neg h0,List.length_append,List.length_cons,List.length_take,List.length_drop,List.length_singleton] at this
   omega)] at c
theorem print_q (x:Rat) (n:Nat) (w:World) (h:Bq 90 x) (hn:n≤100) (T:TabM w) :
  Calls Tryz.prog 7 #[.string (strQ x),.int .i64 n] w fun e W'=>e = .returned (.tuple #[.string (bO (decT n (nr (x*pw n)))),.int .i64 0])∧Below w.heap.size w W':=by
 obtain ⟨_,_,a3⟩:=qmul_ok h (pw_bq n) (by omega)
 obtain ⟨_,_,b3⟩:=half_add a3 (by omega)
 exact print_core _ _ _ _ n w (fun W hW=>inl_q x n W h hn (T.next hW)) (fun W hW=>near_q _ W a3 (by omega) (T.next hW)) (fun W hW=>dec_q _ n W hn ((nr_bd b3).up (by omega)))
theorem sq_size {x:Rat} (h:Sq x):(strQ x).size≤1000000:=by
 have h1:=strB_size h.n
 have h2:=strB_size h.d
 rw [strB_len] at h1 h2
 rw [←size_len,strQ_data]
 unfold itoaQ
 split
 ·omega
 ·rw [List.length_append,List.length_cons];omega
theorem exact_q (x:Rat) (n:Nat) (w:World) (h:Bq 90 x) (hn:n≤100) (T:TabM w) :
  Calls Tryz.prog 9 #[.string (strQ x),.int .i64 n] w fun e W'=>e = .returned (.tuple #[.bool (decide ((x*pw n).den=1)),.int .i64 0])∧Below w.heap.size w W':=by
 obtain ⟨_,_,a3⟩:=qmul_ok h (pw_bq n) (by omega)
 have c:=exact_core (strQ x) (strQ (x*pw n)) _ _ (decide ((x*pw n).den≠1)) n w (fun W hW=>inl_q x n W h hn (T.next hW)) (fun W hW=>by
  have c:=mcut 47 (strQ (x*pw n)) W (sq_size (a3.lim (by omega)))
  rwa [show kH 47 (strQ (x*pw n)).data.toList=decide ((x*pw n).den≠1) by rw [strQ_data];exact (itoaQ_cut _).2.2] at c)
 have e:(!decide ((x*pw n).den≠1))=decide ((x*pw n).den=1):=by
  by_cases h:(x*pw n).den=1 <;> simp [h]
 rwa [e] at c
theorem frac_any (s:ByteArray) (w:World) (hs:s.size≤90) :
  Calls Tryz.prog 32 #[.string s] w fun e W'=>e = .returned (.tuple #[.string (bO (frN s.data.toList)),.string (bO (frD s.data.toList)),.bool (frO s.data.toList)])∧Below w.heap.size w W':=by
 have hl:s.data.toList.length≤90:=hs
 have e1:∀ c,(k1 c s).size=(kA c s.data.toList).length:=fun c=>bO_size _
 have e2:∀ c,(k2 c s).size=(kB c s.data.toList).length:=fun c=>bO_size _
 have l46:=k_len 46 s.data.toList
 have l47:=k_len 47 s.data.toList
 have k46:=fun W (_:Below w.heap.size w W)=>mcut 46 s W (by omega)
 have k47:=fun W (_:Below w.heap.size w W)=>mcut 47 s W (by omega)
 have d1:∀ c,(k1 c s).data.toList=kA c s.data.toList:=fun c=>bO_data _
 have d2:∀ c,(k2 c s).data.toList=kB c s.data.toList:=fun c=>bO_data _
 have s46:¬ (9223372036854775807:Int)<((k1 46 s).size:Int)+((k2 46 s).size:Int):=by rw [e1,e2];omega
 have s47:¬ (9223372036854775807:Int)<((k1 47 s).size:Int)+((k2 47 s).size:Int):=by rw [e1,e2];omega
 have c1:∀ c W,Below w.heap.size w W→Calls Tryz.prog 48 #[.string (k1 c s),.func (.func 67) #[] #[]] W fun e W'=>e = .returned (.bool (dgs (kA c s.data.toList)))∧Below W.heap.size W W':=fun c W _=>by
  have k:=mcons (k1 c s) W (by rw [e1];have:=(k_len c s.data.toList).1;omega)
  rwa [d1] at k
 have c2:∀ c W,Below w.heap.size w W→Calls Tryz.prog 48 #[.string (k2 c s),.func (.func 67) #[] #[]] W fun e W'=>e = .returned (.bool (dgs (kB c s.data.toList)))∧Below W.heap.size W W':=fun c W _=>by
  have k:=mcons (k2 c s) W (by rw [e2];have:=(k_len c s.data.toList).2;omega)
  rwa [d2] at k
 have c0:∀ W,Below w.heap.size w W→Calls Tryz.prog 48 #[.string ⟨#[49]⟩,.func (.func 67) #[] #[]] W fun e W'=>e = .returned (.bool (dgs [49]))∧Below W.heap.size W W':=fun W _=>mcons ⟨#[49]⟩ W (by decide)
 have z1:∀ W,Below w.heap.size w W→Calls Tryz.prog 66 #[.string (k1 47 s)] W fun e W'=>e = .returned (.string (bO (wz (kA 47 s.data.toList))))∧Below W.heap.size W W':=fun W _=>by
  have k:=mwz (k1 47 s) W
  rwa [d1] at k
 have z2:∀ W,Below w.heap.size w W→Calls Tryz.prog 66 #[.string (k2 47 s)] W fun e W'=>e = .returned (.string (bO (wz (kB 47 s.data.toList))))∧Below W.heap.size W W':=fun W _=>by
  have k:=mwz (k2 47 s) W
  rwa [d2] at k
 have z0:∀ W,Below w.heap.size w W→Calls Tryz.prog 66 #[.string ⟨#[49]⟩] W fun e W'=>e = .returned (.string (bO (wz [49])))∧Below W.heap.size W W':=fun W _=>mwz ⟨#[49]⟩ W
 have za:∀ W,Below w.heap.size w W→Calls Tryz.prog 66 #[.string (k1 46 s++k2 46 s)] W fun e W'=>e = .returned (.string (bO (wz (kA 46 s.data.toList++kB 46 s.data.toList))))∧Below W.heap.size W W':=fun W _=>by
  have k:=mwz (k1 46 s++k2 46 s) W
  rwa [ByteArray.data_append,Array.toList_append,d1,d2] at k
 have zt:∀ W,Below w.heap.size w W→Calls Tryz.prog 54 #[.int .i64 (k2 46 s).size] W fun e W'=>e = .returned (.string (bO (49::List.replicate (kB 46 s.data.toList).length 48)))∧Below W.heap.size W W':=fun W _=>by
  rw [e2];exact mten _ W (by omega)
 unfold frN frD frO
 cases h:kH 46 s.data.toList
 ·rw [h] at k46
  simp only [Bool.false_eq_true,if_false]
  cases h2:kH 47 s.data.toList
  ·rw [h2] at k47
   simp only [Bool.false_eq_true,if_false]
   cases g:dgs (kA 47 s.data.toList)
   ·have c:=c1 47;rw [g] at c
    rw [Bool.false_and]
    exact fr_nnn s _ _ _ _ _ _ true w s47 k46 k47 z1 z0 c
   ·have c:=c1 47;rw [g] at c
    rw [Bool.true_and]
    exact fr_nny s _ _ _ _ _ _ _ w s47 k46 k47 z1 z0 c c0
  ·rw [h2] at k47
   simp only [if_true]
   cases g:dgs (kA 47 s.data.toList)
   ·have c:=c1 47;rw [g] at c
    rw [Bool.false_and]
    exact fr_nyn s _ _ _ _ _ _ true w s47 k46 k47 z1 z2 c
   ·have c:=c1 47;rw [g] at c
    rw [Bool.true_and]
    exact fr_nyy s _ _ _ _ _ _ _ w s47 k46 k47 z1 z2 c (c2 47)
 ·rw [h] at k46
  simp only [if_true]
  cases g:dgs (kA 46 s.data.toList)
  ·have c:=c1 46;rw [g] at c
   rw [Bool.false_and]
   exact fr_yn s s s _ _ _ _ true w s46 k46 za zt c
  ·have c:=c1 46;rw [g] at c
   rw [Bool.true_and]
   exact fr_yy s s s _ _ _ _ _ w s46 k46 za zt c (c2 46)
theorem sg_len (b:Bool) (l:List UInt8):(sg b l).length≤l.length+1:=by
 unfold sg
 cases b
 ·exact Nat.le_succ _
 ·exact Nat.le_refl _
theorem szL_len (l:List UInt8):(szL l).length≤l.length:=by
 unfold szL;split
 ·rw [List.length_tail];omega
 ·exact Nat.le_refl _
theorem prV_bq {l:List UInt8} (hl:l.length≤90) (ho:frO (szL l)=true) (hd:deV (szL l)≠0):Bq 90 ((nuZ l:Int):Rat)∧Bq 91 (((deV (szL l):Nat):Int):Rat):=by
 obtain ⟨f1,f2⟩:=fr_lt ho (Nat.le_trans (szL_len l) hl) (by decide)
 refine ⟨Bq_int (by decide) ?_,Bq_int (by decide) ?_⟩
 ·show Int.natAbs _<_
  unfold nuZ
  split <;> simpa using f1
 ·show Int.natAbs _<_
  rw [Int.natAbs_natCast];exact f2
theorem parse_ok (s:ByteArray) (w:World) (hs:s.size≤90) (ho:frO (szL s.data.toList)=true) (hd:deV (szL s.data.toList)≠0) (T:TabM w) :
  Calls Tryz.prog 11 #[.string s] w fun e W'=>e = .returned (.tuple #[.string (strQ (prV s.data.toList)),.int .i64 0])∧Below w.heap.size w W':=by
 have hl:s.data.toList.length≤90:=hs
 obtain ⟨v1,v2⟩:=fr_val ho
 obtain ⟨b1,b2⟩:=prV_bq hl ho hd
 obtain ⟨q1,q2,_⟩:=qdiv_ok b1 b2 (by decide) (cast_ne hd)
 have zd:(zB s).data.toList=szL s.data.toList:=bO_data _
 have zs:(zB s).size≤90:=by show (bO _).size≤90;rw [bO_size];exact Nat.le_trans (szL_len _) hl
 have f1:=(fr_lt ho (Nat.le_trans (szL_len _) hl) (by decide)).1
 have sz:=dec_len (k:=90) (by decide) f1
 refine parse_core s (zB s) (bO (Lib.decDigits (nuV (szL s.data.toList)))) (strQ (((deV (szL s.data.toList):Nat):Int):Rat)) (strQ ((nuZ s.data.toList:Int):Rat)) _ (isNeg s.data.toList) 0 w (by omega) (fun W hW=>mprefix s W) (fun W hW => ?_) (fun W hW => ?_) (fun W hW => ?_)
 ·have c:=frac_any (zB s) W zs
  rwa [zd,ho,v1,v2,strB_dec (deV _),←strQ_int] at c
 ·have c:=msigned (isNeg s.data.toList) (bO (Lib.decDigits (nuV (szL s.data.toList)))) W (by rw [bO_size];omega)
  rw [sgB_str] at c
  rw [strQ_int]
  exact c
 ·have c:=Div_q _ _ W (b1.lim (by decide)) (b2.lim (by decide)) (cast_ne hd) (T.next hW).1 (T.next hW).2
  rwa [q1,q2] at c
end Go.Proofs.YteckjifdpcbaeaaGreatDoor.T
namespace Go.Proofs.YteckjifdpcbaeaaGreatDoor.T
open Go.Proofs.YteckjifdpcbaeaaGreatDoor Go Go.RowKit
theorem check_err (a n d:ByteArray) (E:Int) (w:World) (e0:(E==0)=false) (e1:(E != 0)=true)
  (h1:∀ W,Below w.heap.size w W→Calls Tryz.prog 77 #[.string a] W fun e W'=>e = .returned (.tuple #[.string n,.string d,.int .i64 E])∧Below W.heap.size W W')
  : Calls Tryz.prog 39 #[.string a] w fun e W'=>e = .returned (.int .i64 E)∧Below w.heap.size w W':=by
 have O:=Lib.hid (h1);clear h1
 go_enter Tryz.func39,Tryz.ntmps39
 have HB:=Lib.hid (Below.refl w.heap.size w)
 go_wp2_with fail
 refine (O.out _ HB.out).mono ?_
 rintro e w1 ⟨rfl,b⟩
 have HN:=Lib.hid (HB.out.trans (b.mono HB.out.size));clear HB b;have HB:=HN;clear HN
 go_wp2
 go_ret
 exact ⟨rfl,HB.out⟩
theorem check_big1 (a n d z:ByteArray) (g:Bool) (w:World) (s1:(90:Int)<z.size)
  (h1:∀ W,Below w.heap.size w W→Calls Tryz.prog 77 #[.string a] W fun e W'=>e = .returned (.tuple #[.string n,.string d,.int .i64 0])∧Below W.heap.size W W')
  (h2:∀ W,Below w.heap.size w W→Calls Tryz.prog 31 #[.string n,.string ⟨#[45]⟩] W fun e W'=>e = .returned (.tuple #[.string z,.bool g])∧Below W.heap.size W W')
  : Calls Tryz.prog 39 #[.string a] w fun e W'=>e = .returned (.int .i64 4)∧Below w.heap.size w W':=by
 have O:=Lib.hid (And.intro h1 (h2));clear h1 h2
 go_enter Tryz.func39,Tryz.ntmps39
 have HB:=Lib.hid (Below.refl w.heap.size w)
 go_wp2_with fail
 refine (O.out.1 _ HB.out).mono ?_
 rintro e w1 ⟨rfl,b⟩
 have HN:=Lib.hid (HB.out.trans (b.mono HB.out.size));clear HB b;have HB:=HN;clear HN
 go_wp2_with fail
 refine (O.out.2 _ HB.out).mono ?_
 rintro e w2 ⟨rfl,b⟩
 have HN:=Lib.hid (HB.out.trans (b.mono HB.out.size));clear HB b;have HB:=HN;clear HN
 go_wp2
 go_ret
 exact ⟨rfl,HB.out⟩
theorem check_big2 (a n d z:ByteArray) (g:Bool) (w:World) (s1:¬ (90:Int)<z.size) (s2:(90:Int)<d.size)
  (h1:∀ W,Below w.heap.size w W→Calls Tryz.prog 77 #[.string a] W fun e W'=>e = .returned (.tuple #[.string n,.string d,.int .i64 0])∧Below W.heap.size W W')
  (h2:∀ W,Below w.heap.size w W→Calls Tryz.prog 31 #[.string n,.string ⟨#[45]⟩] W fun e W'=>e = .returned (.tuple #[.string z,.bool g])∧Below W.heap.size W W')
  : Calls Tryz.prog 39 #[.string a] w fun e W'=>e = .returned (.int .i64 4)∧Below w.heap.size w W':=by
 have O:=Lib.hid (And.intro h1 (h2));clear h1 h2
 go_enter Tryz.func39,Tryz.ntmps39
 have HB:=Lib.hid (Below.refl w.heap.size w)
 go_wp2_with fail
 refine (O.out.1 _ HB.out).mono ?_
 rintro e w1 ⟨rfl,b⟩
 have HN:=Lib.hid (HB.out.trans (b.mono HB.out.size));clear HB b;have HB:=HN;clear HN
 go_wp2_with fail
 refine (O.out.2 _ HB.out).mono ?_
 rintro e w2 ⟨rfl,b⟩
 have HN:=Lib.hid (HB.out.trans (b.mono HB.out.size));clear HB b;have HB:=HN;clear HN
 go_wp2
 go_ret
 exact ⟨rfl,HB.out⟩
theorem inl_err (a:ByteArray) (q E:Int) (w:World) (e0:(E==0)=false) (e1:(E != 0)=true)
  (h1:∀ W,Below w.heap.size w W→Calls Tryz.prog 39 #[.string a] W fun e W'=>e = .returned (.int .i64 E)∧Below W.heap.size W W')
  : Calls Tryz.prog 23 #[.string a,.int .i64 q] w fun e W'=>e = .returned (.tuple #[.string ⟨#[]⟩,.int .i64 E])∧Below w.heap.size w W':=by
 have O:=Lib.hid (h1);clear h1
 go_enter Tryz.func23,Tryz.ntmps23
 have HB:=Lib.hid (Below.refl w.heap.size w)
 go_wp2_with fail
 refine (O.out _ HB.out).mono ?_
 rintro e w1 ⟨rfl,b⟩
 have HN:=Lib.hid (HB.out.trans (b.mono HB.out.size));clear HB b;have HB:=HN;clear HN
 go_wp2
 go_ret2
 exact ⟨rfl,HB.out⟩
theorem inl_rng1 (a:ByteArray) (q:Int) (w:World) (q1:q<0)
  (h1:∀ W,Below w.heap.size w W→Calls Tryz.prog 39 #[.string a] W fun e W'=>e = .returned (.int .i64 0)∧Below W.heap.size W W')
  : Calls Tryz.prog 23 #[.string a,.int .i64 q] w fun e W'=>e = .returned (.tuple #[.string ⟨#[]⟩,.int .i64 2])∧Below w.heap.size w W':=by
 have O:=Lib.hid (h1);clear h1
 go_enter Tryz.func23,Tryz.ntmps23
 have HB:=Lib.hid (Below.refl w.heap.size w)
 go_wp2_with fail
 refine (O.out _ HB.out).mono ?_
 rintro e w1 ⟨rfl,b⟩
 have HN:=Lib.hid (HB.out.trans (b.mono HB.out.size));clear HB b;have HB:=HN;clear HN
 go_wp2
 go_ret2
 exact ⟨rfl,HB.out⟩
theorem inl_rng2 (a:ByteArray) (q:Int) (w:World) (q1:¬ q<0) (q2:100<q)
  (h1:∀ W,Below w.heap.size w W→Calls Tryz.prog 39 #[.string a] W fun e W'=>e = .returned (.int .i64 0)∧Below W.heap.size W W')
  : Calls Tryz.prog 23 #[.string a,.int .i64 q] w fun e W'=>e = .returned (.tuple #[.string ⟨#[]⟩,.int .i64 2])∧Below w.heap.size w W':=by
 have O:=Lib.hid (h1);clear h1
 go_enter Tryz.func23,Tryz.ntmps23
 have HB:=Lib.hid (Below.refl w.heap.size w)
 go_wp2_with fail
 refine (O.out _ HB.out).mono ?_
 rintro e w1 ⟨rfl,b⟩
 have HN:=Lib.hid (HB.out.trans (b.mono HB.out.size));clear HB b;have HB:=HN;clear HN
 go_wp2
 go_ret2
 exact ⟨rfl,HB.out⟩
theorem print_err (a:ByteArray) (q E:Int) (w:World) (e0:(E==0)=false) (e1:(E != 0)=true)
  (h1:∀ W,Below w.heap.size w W→Calls Tryz.prog 23 #[.string a,.int .i64 q] W fun e W'=>e = .returned (.tuple #[.string ⟨#[]⟩,.int .i64 E])∧Below W.heap.size W W')
  : Calls Tryz.prog 7 #[.string a,.int .i64 q] w fun e W'=>e = .returned (.tuple #[.string ⟨#[]⟩,.int .i64 E])∧Below w.heap.size w W':=by
 have O:=Lib.hid (h1);clear h1
 go_enter Tryz.func7,Tryz.ntmps7
 have HB:=Lib.hid (Below.refl w.heap.size w)
 go_wp2_with fail
 refine (O.out _ HB.out).mono ?_
 rintro e w1 ⟨rfl,b⟩
 have HN:=Lib.hid (HB.out.trans (b.mono HB.out.size));clear HB b;have HB:=HN;clear HN
 go_wp2
 go_ret2
 exact ⟨rfl,HB.out⟩
theorem exact_err (a:ByteArray) (q E:Int) (w:World) (e0:(E==0)=false) (e1:(E != 0)=true)
  (h1:∀ W,Below w.heap.size w W→Calls Tryz.prog 23 #[.string a,.int .i64 q] W fun e W'=>e = .returned (.tuple #[.string ⟨#[]⟩,.int .i64 E])∧Below W.heap.size W W')
  : Calls Tryz.prog 9 #[.string a,.int .i64 q] w fun e W'=>e = .returned (.tuple #[.bool false,.int .i64 E])∧Below w.heap.size w W':=by
 have O:=Lib.hid (h1);clear h1
 go_enter Tryz.func9,Tryz.ntmps9
 have HB:=Lib.hid (Below.refl w.heap.size w)
 go_wp2_with fail
 refine (O.out _ HB.out).mono ?_
 rintro e w1 ⟨rfl,b⟩
 have HN:=Lib.hid (HB.out.trans (b.mono HB.out.size));clear HB b;have HB:=HN;clear HN
 go_wp2
 go_ret2
 exact ⟨rfl,HB.out⟩
theorem parse_long (s:ByteArray) (w:World) (s1:(90:Int)<s.size) :
  Calls Tryz.prog 11 #[.string s] w fun e W'=>e = .returned (.tuple #[.string ⟨#[]⟩,.int .i64 4])∧Below w.heap.size w W':=by
 go_enter Tryz.func11,Tryz.ntmps11
 go_wp2
 go_ret2
 exact ⟨rfl,Below.refl _ _⟩
def ckV (l:List UInt8):Int:=if chkQ l=0 then (if (ratOf l).num.natAbs<tenTo 90∧(ratOf l).den<tenTo 90 then 0 else 4) else chkQ l
theorem ckV_ok {l:List UInt8} (h:ckV l=0):chkQ l=0∧Bq 90 (ratOf l):=by
 unfold ckV at h
 by_cases h1:chkQ l=0
 ·rw [if_pos h1] at h
  by_cases h2:(ratOf l).num.natAbs<tenTo 90∧(ratOf l).den<tenTo 90
  ·exact ⟨h1,h2⟩
  ·rw [if_neg h2] at h;cases h
 ·rw [if_neg h1] at h;exact absurd h h1
theorem check7_any (a:ByteArray) (w:World) (ha:a.size≤maxLen) (T:TabM w) :
  Calls Tryz.prog 39 #[.string a] w fun e W'=>e = .returned (.int .i64 (ckV a.data.toList))∧Below w.heap.size w W':=by
 have kp:=fun W (hW:Below w.heap.size w W)=>partsQ_any a W ha (T.next hW).1 (T.next hW).2
 unfold ckV
 by_cases h1:chkQ a.data.toList=0
 ·rw [if_pos h1]
  have ea:=str_of_chkQ h1
  have hl:=chkQ_lim h1
  generalize ratOf a.data.toList=x at *
  subst ea
  by_cases h2:x.num.natAbs<tenTo 90∧x.den<tenTo 90
  ·rw [if_pos h2];exact check_q7 x w h2 T
  ·rw [if_neg h2]
   have kc:∀ W,Below w.heap.size w W→Calls Tryz.prog 31 #[.string (strB x.num),.string ⟨#[45]⟩] W fun e W'=>e = .returned (.tuple #[.string (bO (Lib.decDigits x.num.natAbs)),.bool (decide (x.num<0))])∧Below W.heap.size W W':=fun W _=>by
    have c:=mprefix (strB x.num) W
    rwa [zB_str,neg_str] at c
   have kq:=fun W (hW:Below w.heap.size w W)=>Parts_q x W hl (T.next hW).1 (T.next hW).2
   have sz:∀ m:Nat,¬ m<tenTo 90→90<(bO (Lib.decDigits m)).size:=fun m hm=>by
    rw [bO_size,Lib.decDigits_length]
    have:=mt (nDigits_le_iff m 90 (by decide)).1 hm
    omega
   by_cases h3:x.num.natAbs<tenTo 90
   ·have h4:=sz x.den (fun q=>h2 ⟨h3,q⟩)
    rw [strB_dec] at h4
    have l1:=dec_len (k:=90) (by decide) h3
    exact check_big2 _ _ _ _ _ w (by rw [bO_size];omega) (by omega) kq kc
   ·have h4:=sz x.num.natAbs h3
    exact check_big1 _ _ _ _ _ w (by omega) kq kc
 ·rw [if_neg h1]
  obtain ⟨e0,e1⟩:=bool_ne h1
  exact check_err a _ _ _ w e0 e1 kp
def plV (l:List UInt8) (q:Int):Int:=if ckV l=0 then (if 0≤q∧q≤100 then 0 else 2) else ckV l
theorem inl_bad (a:ByteArray) (q:Int) (w:World) (ha:a.size≤maxLen) (h:plV a.data.toList q≠0) (T:TabM w) :
  Calls Tryz.prog 23 #[.string a,.int .i64 q] w fun e W'=>e = .returned (.tuple #[.string ⟨#[]⟩,.int .i64 (plV a.data.toList q)])∧Below w.heap.size w W':=by
 have kc:=fun W (hW:Below w.heap.size w W)=>check7_any a W ha (T.next hW)
 unfold plV at h ⊢
 by_cases h1:ckV a.data.toList=0
 ·rw [if_pos h1] at h ⊢
  rw [h1] at kc
  by_cases h2:0≤q∧q≤100
  ·rw [if_pos h2] at h;exact absurd rfl h
  ·rw [if_neg h2]
   by_cases h3:q<0
   ·exact inl_rng1 a q w h3 kc
   ·exact inl_rng2 a q w h3 (by omega) kc
 ·rw [if_neg h1] at h ⊢
  obtain ⟨e0,e1⟩:=bool_ne h1
  exact inl_err a q _ w e0 e1 kc
theorem print_bad (a:ByteArray) (q:Int) (w:World) (ha:a.size≤maxLen) (h:plV a.data.toList q≠0) (T:TabM w) :
  Calls Tryz.prog 7 #[.string a,.int .i64 q] w fun e W'=>e = .returned (.tuple #[.string ⟨#[]⟩,.int .i64 (plV a.data.toList q)])∧Below w.heap.size w W':=by
 obtain ⟨e0,e1⟩:=bool_ne h
 exact print_err a q _ w e0 e1 (fun W hW=>inl_bad a q W ha h (T.next hW))
theorem exact_bad (a:ByteArray) (q:Int) (w:World) (ha:a.size≤maxLen) (h:plV a.data.toList q≠0) (T:TabM w) :
  Calls Tryz.prog 9 #[.string a,.int .i64 q] w fun e W'=>e = .returned (.tuple #[.bool false,.int .i64 (plV a.data.toList q)])∧Below w.heap.size w W':=by
 obtain ⟨e0,e1⟩:=bool_ne h
 exact exact_err a q _ w e0 e1 (fun W hW=>inl_bad a q W ha h (T.next hW))
def psE (l:List UInt8):Int:=if 90<l.length then 4 else if frO (szL l) then (if deV (szL l)=0 then 12 else 0) else 3
def psB (l:List UInt8):ByteArray:=if psE l=0 then strQ (prV l) else ⟨#[]⟩
theorem parse_any (s:ByteArray) (w:World) (T:TabM w) :
  Calls Tryz.prog 11 #[.string s] w fun e W'=>e = .returned (.tuple #[.string (psB s.data.toList),.int .i64 (psE s.data.toList)])∧Below w.heap.size w W':=by
 have hl:s.data.toList.length=s.size:=rfl
 unfold psB psE
 rw [hl]
 by_cases h1:90<s.size
 ·rw [if_pos h1]
  exact parse_long s w (by omega)
 ·rw [if_neg h1]
  have zd:(zB s).data.toList=szL s.data.toList:=bO_data _
  have zs:(zB s).size≤90:=by show (bO _).size≤90;rw [bO_size];exact Nat.le_trans (szL_len _) (by omega)
  cases ho:frO (szL s.data.toList)
  ·refine parse_no s (zB s) (bO (frN (szL s.data.toList))) (bO (frD (szL s.data.toList))) (isNeg s.data.toList) w (by omega) (fun W _=>mprefix s W) (fun W _ => ?_)
   have c:=frac_any (zB s) W zs
   rwa [zd,ho] at c
  ·rw [if_pos rfl]
   by_cases hd:deV (szL s.data.toList)=0
   ·rw [if_pos hd,if_neg (by decide)]
    obtain ⟨v1,v2⟩:=fr_val ho
    have f1:=(fr_lt ho (Nat.le_trans (szL_len _) (by omega:s.data.toList.length≤90)) (by decide)).1
    have sz:=dec_len (k:=90) (by decide) f1
    have b1:Bq 90 ((nuZ s.data.toList:Int):Rat):=by
     refine Bq_int (by decide) ?_
     show Int.natAbs _<_
     unfold nuZ
     split <;> simpa using f1
    refine parse_core s (zB s) (bO (Lib.decDigits (nuV (szL s.data.toList)))) ⟨#[48]⟩ (strQ ((nuZ s.data.toList:Int):Rat)) _ (isNeg s.data.toList) 12 w (by omega) (fun W hW=>mprefix s W) (fun W hW => ?_) (fun W hW => ?_) (fun W hW=>Div_zero _ W (b1.lim (by decide)) (T.next hW).1 (T.next hW).2)
    ·have c:=frac_any (zB s) W zs
     rw [zd,ho,v1,v2,hd] at c
     rwa [show bO (Lib.decDigits 0)=⟨#[48]⟩ by decide+kernel] at c
    ·have c:=msigned (isNeg s.data.toList) (bO (Lib.decDigits (nuV (szL s.data.toList)))) W (by rw [bO_size];omega)
     rw [sgB_str] at c
     rw [strQ_int]
     exact c
   ·rw [if_neg hd,if_pos rfl]
    exact parse_ok s w (by omega) ho hd T
end Go.Proofs.YteckjifdpcbaeaaGreatDoor.T
namespace Go.Proofs.YteckjifdpcbaeaaGreatDoor.T
open Go.Proofs.YteckjifdpcbaeaaGreatDoor Go Go.Lib
def ndg (l:List UInt8):Nat:=(l.takeWhile isDig).length
theorem ndg_eq {l:List UInt8} {k:Nat} (h1:(l.take k).all isDig=true) (h2:l.length≤k∨∃ c,l[k]? = some c∧isDig c=false) (hk:k≤l.length):ndg l=k:=by
 unfold ndg
 induction l generalizing k with
 | nil=>simp at hk;subst hk;rfl
 | cons a t ih =>
  cases k with
  | zero =>
   rcases h2 with q | ⟨c,hc,hd⟩
   ·simp at q
   ·rw [List.getElem?_cons_zero] at hc
    injection hc with hc
    subst hc
    rw [List.takeWhile_cons_of_neg (by rw [hd];decide)];rfl
  | succ k =>
   rw [List.take_succ_cons,List.all_cons,Bool.and_eq_true] at h1
   rw [List.takeWhile_cons_of_pos h1.1,List.length_cons,ih h1.2 (by
    rcases h2 with q | ⟨c,hc,hd⟩
    ·exact .inl (by rw [List.length_cons] at q;omega)
    ·exact .inr ⟨c,by rwa [List.getElem?_cons_succ] at hc,hd⟩) (by rw [List.length_cons] at hk;omega)]
theorem ndg_all {l:List UInt8} (h:∀ c∈l,isDig c=true):ndg l=l.length:=ndg_eq (by rw [List.take_of_length_le (Nat.le_refl _)];exact List.all_eq_true.2 h) (.inl (Nat.le_refl _)) (Nat.le_refl _)
theorem ndg_app {l:List UInt8} (h:∀ c∈l,isDig c=true) {c:UInt8} (hc:isDig c=false) (r:List UInt8):ndg (l++c::r)=l.length:=by
 refine ndg_eq ?_ (.inr ⟨c,?_,hc⟩) (by rw [List.length_append];omega)
 ·rw [List.take_left' rfl];exact List.all_eq_true.2 h
 ·rw [List.getElem?_append_right (Nat.le_refl _),Nat.sub_self];rfl
theorem ndg_split:∀ l:List UInt8,∃ D R,l=D++R∧(∀ c∈D,isDig c=true)∧ndg l=D.length∧(R = []∨∃ c r,R=c::r∧isDig c=false)
 | []=>⟨[],[],rfl,fun _ h=>(by cases h),rfl,.inl rfl⟩
 | a::t=>by
  by_cases ha:isDig a=true
  ·obtain ⟨D,R,e,h1,h2,h3⟩:=ndg_split t
   refine ⟨a::D,R,by rw [e];rfl,fun c hc => ?_,?_,h3⟩
   ·rcases List.mem_cons.1 hc with q | q
    ·rw [q];exact ha
    ·exact h1 c q
   ·unfold ndg at h2 ⊢
    rw [List.takeWhile_cons_of_pos ha,List.length_cons,h2];rfl
  ·refine ⟨[],a::t,rfl,fun _ h=>(by cases h),?_,.inr ⟨a,t,rfl,by simpa using ha⟩⟩
   unfold ndg
   rw [List.takeWhile_cons_of_neg ha]
theorem ndg_full {l:List UInt8} (h0:ndg l≠0) (h1:¬ ndg l<l.length):dgs l=true:=by
 obtain ⟨D,R,e,hd,h2,_⟩:=ndg_split l
 have hR:R = []:=by
  have:=congrArg List.length e
  rw [List.length_append] at this
  exact List.eq_nil_of_length_eq_zero (by omega)
 rw [hR,List.append_nil] at e
 rw [e]
 exact dgs_of hd (fun q=>h0 (by rw [h2,q];rfl))
theorem fr_int {D:List UInt8} (h:dgs D=true):frO D=true∧nuV D=natOf D∧deV D=1:=by
 have n1:kH 46 D=false:=kH_no (dig_no (dgs_all h) (by decide))
 have n2:kH 47 D=false:=kH_no (dig_no (dgs_all h) (by decide))
 have e2:=(k_no (dig_no (dgs_all h) (c:=47) (by decide))).1
 unfold frO nuV deV
 rw [n1,n2,e2,h]
 exact ⟨rfl,rfl,rfl⟩
theorem fr_dot {D r:List UInt8} (h:dgs D=true) (hr:dgs r=true):frO (D++46::r)=true∧nuV (D++46::r)=natOf (D++r)∧deV (D++46::r)=10 ^ r.length:=by
 obtain ⟨e1,e2,e3⟩:=k_app (c:=46) r (dig_no (dgs_all h) (by decide))
 unfold frO nuV deV
 rw [e1,e2,e3,h,hr]
 exact ⟨rfl,rfl,rfl⟩
theorem fr_sl {D r:List UInt8} (h:dgs D=true) (hr:dgs r=true):frO (D++47::r)=true∧nuV (D++47::r)=natOf D∧deV (D++47::r)=natOf r:=by
 obtain ⟨e1,e2,e3⟩:=k_app (c:=47) r (dig_no (dgs_all h) (by decide))
 have n1:kH 46 (D++47::r)=false:=kH_no (fun hm=>by
  rcases List.mem_append.1 hm with q | q
  ·exact dig_no (dgs_all h) (by decide) q
  ·rcases List.mem_cons.1 q with q | q
   ·revert q;decide
   ·exact dig_no (dgs_all hr) (by decide) q)
 unfold frO nuV deV
 rw [n1,e1,e2,e3,h]
 simp only [Bool.false_eq_true,if_false,if_true]
 rw [hr]
 exact ⟨rfl,trivial,trivial⟩
theorem fr_inv {l:List UInt8} (h:frO l=true):dgs l=true∨∃ D r c,l=D++c::r∧dgs D=true∧dgs r=true∧(c=46∨c=47):=by
 unfold frO at h
 by_cases h1:kH 46 l=true
 ·rw [if_pos h1,Bool.and_eq_true] at h
  exact .inr ⟨_,_,_,k_split (kH_iff.1 h1),h.1,h.2,.inl rfl⟩
 ·rw [if_neg h1,Bool.and_eq_true] at h
  by_cases h2:kH 47 l=true
  ·rw [if_pos h2] at h
   exact .inr ⟨_,_,_,k_split (kH_iff.1 h2),h.1,h.2,.inr rfl⟩
  ·left
   have:=(k_no (fun hm=>h2 (kH_iff.2 hm))).1
   rw [this] at h
   exact h.1
theorem fr_not {l:List UInt8} (h:frO l=false):ndg l=0∨∃ D c r,l=D++c::r∧dgs D=true∧isDig c=false∧(ndg r=0∨ndg r<r.length∨c≠46∧c≠47):=by
 obtain ⟨D,R,e,hd,h2,h3⟩:=ndg_split l
 by_cases h0:D = []
 ·exact .inl (by rw [h2,h0];rfl)
 ·right
  have hD:=dgs_of hd h0
  rcases h3 with rfl | ⟨c,r,rfl,hc⟩
  ·rw [List.append_nil] at e
   rw [e,(fr_int hD).1] at h;cases h
  ·refine ⟨D,c,r,e,hD,hc,?_⟩
   by_cases g1:ndg r=0
   ·exact .inl g1
   ·by_cases g2:ndg r<r.length
    ·exact .inr (.inl g2)
    ·right;right
     have hra:=ndg_full g1 g2
     constructor
     ·rintro rfl
      rw [e,(fr_dot hD hra).1] at h;cases h
     ·rintro rfl
      rw [e,(fr_sl hD hra).1] at h;cases h
end Go.Proofs.YteckjifdpcbaeaaGreatDoor.T
