/- Parts of the proof of the text YteckjifdpcbaeaaGreatDoorZGD4. -/
import Derived.Test.YteckjifdpcbaeaaGreatDoorZG1
import Derived.Test.YteckjifdpcbaeaaGreatDoorZGD1
import Derived.Test.YteckjifdpcbaeaaGreatDoorZGD2
set_option linter.all false
set_option maxRecDepth 100000
set_option maxHeartbeats 8000000
namespace Go.Proofs.YteckjifdpcbaeaaGreatDoor.T
open Go.Proofs.YteckjifdpcbaeaaGreatDoor Go Go.RowKit
theorem ck_q {x:Rat} (h:Bq 90 x):ckV (strQ x).data.toList=0:=by
 have sx:Sq x:=h.lim (by decide)
 unfold ckV
 rw [if_pos sx.chk,show ratOf (strQ x).data.toList=x from strQ_rat x,if_pos ⟨h.num,h.den⟩]
theorem minus_bO (l:List UInt8):(⟨#[45]⟩:ByteArray)++bO l=bO (45::l):=by
 rw [show (⟨#[45]⟩:ByteArray)=bO [45] from rfl,bO_app];rfl
theorem nil_bO (l:List UInt8):(⟨#[]⟩:ByteArray)++bO l=bO l:=by
 rw [show (⟨#[]⟩:ByteArray)=bO [] from rfl,bO_app];rfl
theorem dot_bO (a b:List UInt8):bO a++(⟨#[46]⟩:ByteArray)++bO b=bO (a++46::b):=by
 rw [show (⟨#[46]⟩:ByteArray)=bO [46] from rfl,bO_app,bO_app,List.append_assoc];rfl
theorem decU_if (n m:Nat):bO (decU n m)=if n=0 then bO (List.replicate (n+1 - (Lib.decDigits m).length) 48++Lib.decDigits m) else bO ((pad n m).take ((pad n m).length - n)++46::(pad n m).drop ((pad n m).length - n)):=by
 unfold decU
 by_cases h:n=0
 ·rw [if_pos h,if_pos h]
  have h1:0<(Lib.decDigits m).length:=List.length_pos_iff.2 (decDigits_ne m)
  rw [show n+1 - (Lib.decDigits m).length=0 by omega];rfl
 ·rw [if_neg h,if_neg h]
theorem rPrint_q (x:Rat) (n:Nat) (w:World) (h:Bq 90 x) (hn:n≤100) (T:TabM w) :
  Calls Tryz.prog 8 #[.string (strQ x),.int .i64 n] w fun e W'=>e = .returned (.tuple #[.string (bO (decT n (nr (x*pw n)))),.int .i64 0])∧Below w.heap.size w W':=by
 obtain ⟨_,_,a3⟩:=qmul_ok h (pw_bq n) (by omega)
 obtain ⟨_,_,b3⟩:=half_add a3 (by omega)
 have sx:Sq x:=h.lim (by decide)
 have l1:=dec_len (k:=90+(n+1)+2) (by omega) (nr_bd b3)
 have kc:∀ W,Below w.heap.size w W→Calls Tryz.prog 22 #[.string (strQ x)] W fun e W'=>e = .returned (.int .i64 0)∧Below W.heap.size W W':=fun W hW=>by
  have k:=rchk7 (strQ x) W sx.size (T.next hW)
  rwa [ck_q h] at k
 have kp:=fun W (_:Below w.heap.size w W)=>rpw n W (by omega)
 have km:=fun W (hW:Below w.heap.size w W)=>rprod x (pw n) W h (pw_bq n) (by omega) (T.next hW)
 have kn:=fun W (hW:Below w.heap.size w W)=>rnear (x*pw n) W a3 (by omega) (T.next hW)
 generalize nr (x*pw n)=z at l1 kn
 have pl:n+1 - (Lib.decDigits z.natAbs).length+(Lib.decDigits z.natAbs).length=(pad n z.natAbs).length:=by unfold pad;rw [List.length_append,List.length_replicate]
 have pu:List.replicate (n+1 - (Lib.decDigits z.natAbs).length) 48++Lib.decDigits z.natAbs=pad n z.natAbs:=rfl
 have ple:=pad_le n z.natAbs
 have f2:(bO (List.replicate (n+1 - (Lib.decDigits z.natAbs).length) 48++(bO (Lib.decDigits z.natAbs)).data.toList)).extract 0 (n+1 - (Lib.decDigits z.natAbs).length+(bO (Lib.decDigits z.natAbs)).size - n)=bO ((pad n z.natAbs).take ((pad n z.natAbs).length - n)):=by
  rw [bO_data,bO_size,pl,pu];exact ext_take _ _
 have f3:(bO (List.replicate (n+1 - (Lib.decDigits z.natAbs).length) 48++(bO (Lib.decDigits z.natAbs)).data.toList)).extract (n+1 - (Lib.decDigits z.natAbs).length+(bO (Lib.decDigits z.natAbs)).size - n) (n+1 - (Lib.decDigits z.natAbs).length+(bO (Lib.decDigits z.natAbs)).size)=bO ((pad n z.natAbs).drop ((pad n z.natAbs).length - n)):=by
  rw [bO_data,bO_size,pl,pu]
  have:=ext_drop (pad n z.natAbs) ((pad n z.natAbs).length - n)
  rwa [bO_size] at this
 have sD:(bO ((pad n z.natAbs).take ((pad n z.natAbs).length - n))).size≤1000:=by rw [bO_size,List.length_take];omega
 have sE:(bO ((pad n z.natAbs).drop ((pad n z.natAbs).length - n))).size≤1000:=by rw [bO_size,List.length_drop];omega
 have zz:(bO (Lib.decDigits z.natAbs)).size≤400:=by rw [bO_size];omega
 have hk:n+1 - (Lib.decDigits z.natAbs).length=n+1 - (bO (Lib.decDigits z.natAbs)).size:=by rw [bO_size]
 have sl:(strB z).size≤401:=by
  rw [strB_sg,bO_size]
  have:=sg_len (decide (z<0)) (Lib.decDigits z.natAbs)
  omega
 have hu:=decU_if n z.natAbs
 by_cases hz:z<0
 ·have hn':isNeg (strB z).data.toList=true:=by rw [neg_str,decide_eq_true hz]
  have hp:=isNeg_size hn'
  have c:=rPrint_neg (strQ x) (strQ (pw n)) (strQ (x*pw n)) (strB z) (bO (Lib.decDigits z.natAbs)) _ _ n _ w (by omega) (by omega) hp ((isNeg_pos hp).trans hn') ((neg_ext hn').trans (zB_str z)) zz sl hk f2 f3 sD sE kc kp km kn
  have e:(if n=0 then (⟨#[45]⟩:ByteArray)++bO (List.replicate (n+1 - (Lib.decDigits z.natAbs).length) 48++(bO (Lib.decDigits z.natAbs)).data.toList) else ⟨#[45]⟩++bO ((pad n z.natAbs).take ((pad n z.natAbs).length - n))++⟨#[46]⟩++bO ((pad n z.natAbs).drop ((pad n z.natAbs).length - n)))=bO (decT n z):=by
   unfold decT
   rw [decide_eq_true hz,show sg true (decU n z.natAbs)=45::decU n z.natAbs from rfl,←minus_bO,hu,bO_data]
   by_cases h0:n=0
   ·rw [if_pos h0,if_pos h0]
   ·rw [if_neg h0,if_neg h0,minus_bO,dot_bO,minus_bO];rfl
  rwa [e] at c
 ·have hn':isNeg (strB z).data.toList=false:=by rw [neg_str,decide_eq_false hz]
  have es:strB z=bO (Lib.decDigits z.natAbs):=by rw [strB_sg,decide_eq_false hz];rfl
  have hp:0<(strB z).size:=by rw [es,bO_size];exact List.length_pos_iff.2 (decDigits_ne _)
  have c:=rPrint_pos (strQ x) (strQ (pw n)) (strQ (x*pw n)) (strB z) (bO (Lib.decDigits z.natAbs)) _ _ n _ w (by omega) (by omega) hp ((isNeg_pos hp).trans hn') es zz sl hk f2 f3 sD sE kc kp km kn
  have e:(if n=0 then (⟨#[]⟩:ByteArray)++bO (List.replicate (n+1 - (Lib.decDigits z.natAbs).length) 48++(bO (Lib.decDigits z.natAbs)).data.toList) else ⟨#[]⟩++bO ((pad n z.natAbs).take ((pad n z.natAbs).length - n))++⟨#[46]⟩++bO ((pad n z.natAbs).drop ((pad n z.natAbs).length - n)))=bO (decT n z):=by
   unfold decT
   rw [decide_eq_false hz,show sg false (decU n z.natAbs)=decU n z.natAbs from rfl,hu,bO_data]
   by_cases h0:n=0
   ·rw [if_pos h0,if_pos h0,nil_bO]
   ·rw [if_neg h0,if_neg h0,nil_bO,dot_bO]
  rwa [e] at c
theorem sgn_cast (b:Bool) (m:Nat):(((if b=true then -(m:Int) else (m:Int)):Int):Rat)=(if b=true then -1 else 1)*(((m:Nat):Int):Rat):=by
 cases b
 ·show ((m:Int):Rat)=1*_;rw [Rat.one_mul]
 ·show ((-(m:Int):Int):Rat) = -1*_;rw [Rat.intCast_neg];grind
theorem qF (a b P g:Rat) (h:P≠0):g*(a*P+b) / P=g*(a+b / P):=by
 have:=Rat.mul_inv_cancel P h
 rw [Rat.div_def,Rat.div_def]
 grind
theorem one_div' (a:Rat):a / (((1:Nat):Int):Rat)=a:=by
 rw [show (((1:Nat):Int):Rat)=1 from rfl,Rat.div_def,show (1:Rat)⁻¹=1 by decide+kernel,Rat.mul_one]
theorem ps_ok {l:List UInt8} (h1:¬ 90<l.length) (h2:frO (szL l)=true) (h3:deV (szL l)≠0):psE l=0∧psB l=strQ (prV l):=by
 have e:psE l=0:=by unfold psE;rw [if_neg h1,if_pos h2,if_neg h3]
 exact ⟨e,by unfold psB;rw [if_pos e]⟩
theorem rParse_any (s:ByteArray) (w:World) (T:TabM w) :
  Calls Tryz.prog 12 #[.string s] w fun e W'=>e = .returned (.tuple #[.string (psB s.data.toList),.int .i64 (psE s.data.toList)])∧Below w.heap.size w W':=by
 have hl:s.data.toList.length=s.size:=rfl
 by_cases h1:90<s.size
 ·have e1:psE s.data.toList=4:=by unfold psE;rw [if_pos (by omega)]
  have e2:psB s.data.toList=⟨#[]⟩:=by unfold psB;rw [e1,if_neg (by decide)]
  rw [e1,e2]
  exact rParse_long s w (by omega)
 ·have h9:s.size≤90:=by omega
  have h1':¬ 90<s.data.toList.length:=by omega
  cases ho:frO (szL s.data.toList)
  ·have e1:psE s.data.toList=3:=by unfold psE;rw [if_neg h1',ho];rfl
   have e2:psB s.data.toList=⟨#[]⟩:=by unfold psB;rw [e1,if_neg (by decide)]
   rw [e1,e2]
   rcases fr_not ho with q | ⟨D,c,r,e,hD,hc,hb⟩
   ·exact rP_A s w h9 T q
   ·exact rP_C s w h9 T D r c e hD hc hb
  ·rcases fr_inv ho with hD | ⟨D,r,c,e,hD,hr,hc⟩
   ·obtain ⟨_,v2,v3⟩:=fr_int hD
    obtain ⟨e1,e2⟩:=ps_ok h1' ho (by rw [v3];decide)
    rw [e1,e2]
    have c:=rP_B s w h9 T _ rfl hD
    rwa [show (if isNeg s.data.toList then -1 else 1)*(((natOf (szL s.data.toList):Nat):Int):Rat)=prV s.data.toList by
     unfold prV nuZ;rw [v2,v3,one_div',sgn_cast]] at c
   ·rcases hc with rfl | rfl
    ·obtain ⟨_,v2,v3⟩:=fr_dot hD hr
     rw [←e] at v2 v3
     obtain ⟨e1,e2⟩:=ps_ok h1' ho (by rw [v3];exact Nat.ne_of_gt (Nat.pow_pos (by decide)))
     rw [e1,e2]
     have c:=rP_F s w h9 T D r e hD hr
     rwa [show (if isNeg s.data.toList then -1 else 1)*((((natOf D:Nat):Int):Rat)+(((natOf r:Nat):Int):Rat) / pw r.length)=prV s.data.toList by
      unfold prV nuZ
      rw [v2,v3,sgn_cast,natOf_append,Int.natCast_add,Int.natCast_mul,Rat.intCast_add,Rat.intCast_mul]
      exact (qF _ _ _ _ (pw_ne r.length)).symm] at c
    ·obtain ⟨_,v2,v3⟩:=fr_sl hD hr
     rw [←e] at v2 v3
     by_cases h0:natOf r=0
     ·have e1:psE s.data.toList=12:=by unfold psE;rw [if_neg h1',ho,if_pos rfl,v3,if_pos h0]
      have e2:psB s.data.toList=⟨#[]⟩:=by unfold psB;rw [e1,if_neg (by decide)]
      rw [e1,e2]
      exact rP_D s w h9 T D r e hD hr h0
     ·obtain ⟨e1,e2⟩:=ps_ok h1' ho (by rw [v3];exact h0)
      rw [e1,e2]
      have c:=rP_E s w h9 T D r e hD hr h0
      rwa [show (if isNeg s.data.toList then -1 else 1)*(((natOf D:Nat):Int):Rat) / (((natOf r:Nat):Int):Rat)=prV s.data.toList by
       unfold prV nuZ;rw [v2,v3,sgn_cast]] at c
def grM (a:ByteArray):Bool:=decide (40<a.size∧ckV a.data.toList=0) || decide (330<a.size)
theorem gr_short (a:ByteArray) (E:Int) (w:World) (s1:¬ (40:Int)<a.size)  (s2:¬ (330:Int)<a.size)
  : Calls Tryz.prog 5 #[.string a] w fun e W'=>e = .returned (.bool false)∧Below w.heap.size w W':=by
 have hm9:a.size≤9223372036854775807:=by omega
 go_enter Tryz.func5,Tryz.ntmps5
 have HB:=Lib.hid (Below.refl w.heap.size w)
 go_wp2
 go_ret
 exact ⟨rfl,HB.out⟩
theorem gr_yes (a:ByteArray) (E:Int) (w:World) (s0:a.size≤9223372036854775807) (s1:(40:Int)<a.size)
  (h1:∀ W,Below w.heap.size w W→Calls Tryz.prog 22 #[.string a] W fun e W'=>e = .returned (.int .i64 0)∧Below W.heap.size W W')
  : Calls Tryz.prog 5 #[.string a] w fun e W'=>e = .returned (.bool true)∧Below w.heap.size w W':=by
 have O:=Lib.hid (h1);clear h1
 have hm9:a.size≤9223372036854775807:=by omega
 go_enter Tryz.func5,Tryz.ntmps5
 have HB:=Lib.hid (Below.refl w.heap.size w)
 go_wp2_with fail
 refine (O.out _ HB.out).mono ?_
 rintro e w1 ⟨rfl,b⟩
 have HN:=Lib.hid (HB.out.trans (b.mono HB.out.size));clear HB b;have HB:=HN;clear HN
 go_wp2
 go_ret
 exact ⟨rfl,HB.out⟩
theorem gr_no (a:ByteArray) (E:Int) (w:World) (s0:a.size≤9223372036854775807) (s1:(40:Int)<a.size) (e0:(E==0)=false)
  (h1:∀ W,Below w.heap.size w W→Calls Tryz.prog 22 #[.string a] W fun e W'=>e = .returned (.int .i64 E)∧Below W.heap.size W W')
  : Calls Tryz.prog 5 #[.string a] w fun e W'=>e = .returned (.bool (decide ((330:Int)<a.size)))∧Below w.heap.size w W':=by
 have O:=Lib.hid (h1);clear h1
 have hm9:a.size≤9223372036854775807:=by omega
 go_enter Tryz.func5,Tryz.ntmps5
 have HB:=Lib.hid (Below.refl w.heap.size w)
 go_wp2_with fail
 refine (O.out _ HB.out).mono ?_
 rintro e w1 ⟨rfl,b⟩
 have HN:=Lib.hid (HB.out.trans (b.mono HB.out.size));clear HB b;have HB:=HN;clear HN
 go_wp2
 go_ret
 exact ⟨rfl,HB.out⟩
theorem rGreat_any (a:ByteArray) (w:World) (ha:a.size≤maxLen) (T:TabM w) :
  Calls Tryz.prog 5 #[.string a] w fun e W'=>e = .returned (.bool (grM a))∧Below w.heap.size w W':=by
 have kc:=fun W (hW:Below w.heap.size w W)=>rchk7 a W ha (T.next hW)
 have hM:a.size≤9223372036854775807:=Nat.le_trans ha (by decide)
 by_cases h1:40<a.size
 ·by_cases h2:ckV a.data.toList=0
  ·rw [show grM a=true by unfold grM;rw [decide_eq_true ⟨h1,h2⟩];rfl]
   rw [h2] at kc
   exact gr_yes a 0 w hM (by omega) kc
  ·have e0:(ckV a.data.toList==0)=false:=beq_eq_false_iff_ne.2 h2
   by_cases h3:330<a.size
   ·rw [show grM a=true by unfold grM;rw [decide_eq_true h3,Bool.or_true]]
    have k:=gr_no a _ w hM (by omega) e0 kc
    rwa [show decide ((330:Int)<a.size)=true from decide_eq_true (by omega)] at k
   ·rw [show grM a=false by unfold grM;rw [decide_eq_false h3,decide_eq_false (fun q=>h2 q.2)];rfl]
    have k:=gr_no a _ w hM (by omega) e0 kc
    rwa [show decide ((330:Int)<a.size)=false from decide_eq_false (by omega)] at k
 ·rw [show grM a=false by unfold grM;rw [decide_eq_false (fun q=>h1 q.1),decide_eq_false (show ¬ 330<a.size by omega)];rfl]
  exact gr_short a 0 w (by omega) (by omega)
end Go.Proofs.YteckjifdpcbaeaaGreatDoor.T
namespace Go.Proofs.YteckjifdpcbaeaaGreatDoor.T
open Go.Proofs.YteckjifdpcbaeaaGreatDoor Go Go.RowKit
theorem MeasureDecimals_yes (a s x p:ByteArray) (u:Bool) (q E G I:Int) (w:World) (z1:¬ (120:Int)<s.size) (x1:(x.toList==x.toList)=true) (p1:(p.toList==p.toList)=true) (E1:(E==E)=true) (G1:(G==G)=true) (I1:(I==I)=true) (u1:(u==u)=true)
  (h1:∀ W,Below w.heap.size w W→Calls Tryz.prog 5 #[.string a] W fun e W'=>e = .returned (.bool false)∧Below W.heap.size W W')
  (h2:∀ W,Below w.heap.size w W→Calls Tryz.prog 7 #[.string a,.int .i64 q] W fun e W'=>e = .returned (.tuple #[.string x,.int .i64 E])∧Below W.heap.size W W')
  (h3:∀ W,Below w.heap.size w W→Calls Tryz.prog 8 #[.string a,.int .i64 q] W fun e W'=>e = .returned (.tuple #[.string x,.int .i64 E])∧Below W.heap.size W W')
  (h4:∀ W,Below w.heap.size w W→Calls Tryz.prog 9 #[.string a,.int .i64 q] W fun e W'=>e = .returned (.tuple #[.bool u,.int .i64 G])∧Below W.heap.size W W')
  (h5:∀ W,Below w.heap.size w W→Calls Tryz.prog 10 #[.string a,.int .i64 q] W fun e W'=>e = .returned (.tuple #[.bool u,.int .i64 G])∧Below W.heap.size W W')
  (h6:∀ W,Below w.heap.size w W→Calls Tryz.prog 11 #[.string s] W fun e W'=>e = .returned (.tuple #[.string p,.int .i64 I])∧Below W.heap.size W W')
  (h7:∀ W,Below w.heap.size w W→Calls Tryz.prog 12 #[.string s] W fun e W'=>e = .returned (.tuple #[.string p,.int .i64 I])∧Below W.heap.size W W')
  (h8:∀ W,Below w.heap.size w W→Calls Tryz.prog 6 #[] W fun e W'=>e = .returned (.bool true)∧Below W.heap.size W W')
  : Calls Tryz.prog 3 #[.string a,.int .i64 q,.string s] w fun e W'=>e = .returned (.bool true)∧Below w.heap.size w W':=by
 have O:=Lib.hid (And.intro h1 (And.intro h2 (And.intro h3 (And.intro h4 (And.intro h5 (And.intro h6 (And.intro h7 (h8))))))));clear h1 h2 h3 h4 h5 h6 h7 h8
 go_enter Tryz.func3,Tryz.ntmps3
 have HB:=Lib.hid (Below.refl w.heap.size w)
 go_wp2_with fail
 refine (O.out.1 _ HB.out).mono ?_
 rintro e w1 ⟨rfl,b⟩
 have HN:=Lib.hid (HB.out.trans (b.mono HB.out.size));clear HB b;have HB:=HN;clear HN
 go_wp2_with fail
 refine (O.out.2.1 _ HB.out).mono ?_
 rintro e w2 ⟨rfl,b⟩
 have HN:=Lib.hid (HB.out.trans (b.mono HB.out.size));clear HB b;have HB:=HN;clear HN
 go_wp2_with fail
 refine (O.out.2.2.1 _ HB.out).mono ?_
 rintro e w3 ⟨rfl,b⟩
 have HN:=Lib.hid (HB.out.trans (b.mono HB.out.size));clear HB b;have HB:=HN;clear HN
 go_wp2_with fail
 refine (O.out.2.2.2.1 _ HB.out).mono ?_
 rintro e w4 ⟨rfl,b⟩
 have HN:=Lib.hid (HB.out.trans (b.mono HB.out.size));clear HB b;have HB:=HN;clear HN
 go_wp2_with fail
 refine (O.out.2.2.2.2.1 _ HB.out).mono ?_
 rintro e w5 ⟨rfl,b⟩
 have HN:=Lib.hid (HB.out.trans (b.mono HB.out.size));clear HB b;have HB:=HN;clear HN
 go_wp2_with fail
 refine (O.out.2.2.2.2.2.1 _ HB.out).mono ?_
 rintro e w6 ⟨rfl,b⟩
 have HN:=Lib.hid (HB.out.trans (b.mono HB.out.size));clear HB b;have HB:=HN;clear HN
 go_wp2_with fail
 refine (O.out.2.2.2.2.2.2.1 _ HB.out).mono ?_
 rintro e w7 ⟨rfl,b⟩
 have HN:=Lib.hid (HB.out.trans (b.mono HB.out.size));clear HB b;have HB:=HN;clear HN
 go_wp2_with fail
 refine (O.out.2.2.2.2.2.2.2 _ HB.out).mono ?_
 rintro e w8 ⟨rfl,b⟩
 have HN:=Lib.hid (HB.out.trans (b.mono HB.out.size));clear HB b;have HB:=HN;clear HN
 go_wp2
 go_ret
 exact ⟨rfl,HB.out⟩
theorem MeasureDecimals_no (a s:ByteArray) (q:Int) (w:World)
  (h1:∀ W,Below w.heap.size w W→Calls Tryz.prog 5 #[.string a] W fun e W'=>e = .returned (.bool true)∧Below W.heap.size W W')
  (h2:∀ W,Below w.heap.size w W→Calls Tryz.prog 6 #[] W fun e W'=>e = .returned (.bool true)∧Below W.heap.size W W')
  : Calls Tryz.prog 3 #[.string a,.int .i64 q,.string s] w fun e W'=>e = .returned (.bool true)∧Below w.heap.size w W':=by
 have O:=Lib.hid (And.intro h1 (h2));clear h1 h2
 go_enter Tryz.func3,Tryz.ntmps3
 have HB:=Lib.hid (Below.refl w.heap.size w)
 go_wp2_with fail
 refine (O.out.1 _ HB.out).mono ?_
 rintro e w1 ⟨rfl,b⟩
 have HN:=Lib.hid (HB.out.trans (b.mono HB.out.size));clear HB b;have HB:=HN;clear HN
 go_wp2_with fail
 refine (O.out.2 _ HB.out).mono ?_
 rintro e w2 ⟨rfl,b⟩
 have HN:=Lib.hid (HB.out.trans (b.mono HB.out.size));clear HB b;have HB:=HN;clear HN
 go_wp2
 go_ret
 exact ⟨rfl,HB.out⟩
theorem MeasureDecimals_long (a s:ByteArray) (q:Int) (w:World) (z1:(120:Int)<s.size)
  (h1:∀ W,Below w.heap.size w W→Calls Tryz.prog 5 #[.string a] W fun e W'=>e = .returned (.bool false)∧Below W.heap.size W W')
  (h2:∀ W,Below w.heap.size w W→Calls Tryz.prog 6 #[] W fun e W'=>e = .returned (.bool true)∧Below W.heap.size W W')
  : Calls Tryz.prog 3 #[.string a,.int .i64 q,.string s] w fun e W'=>e = .returned (.bool true)∧Below w.heap.size w W':=by
 have O:=Lib.hid (And.intro h1 (h2));clear h1 h2
 go_enter Tryz.func3,Tryz.ntmps3
 have HB:=Lib.hid (Below.refl w.heap.size w)
 go_wp2_with fail
 refine (O.out.1 _ HB.out).mono ?_
 rintro e w1 ⟨rfl,b⟩
 have HN:=Lib.hid (HB.out.trans (b.mono HB.out.size));clear HB b;have HB:=HN;clear HN
 go_wp2_with fail
 refine (O.out.2 _ HB.out).mono ?_
 rintro e w2 ⟨rfl,b⟩
 have HN:=Lib.hid (HB.out.trans (b.mono HB.out.size));clear HB b;have HB:=HN;clear HN
 go_wp2
 go_ret
 exact ⟨rfl,HB.out⟩
theorem MeasureDecimals_any (a:ByteArray) (q:Int) (s:ByteArray) (w:World) (ha:a.size≤maxLen) (_hq:(Lit.int .i64 q).wf=true) (_hs:s.size≤maxLen) (T:TabM w) :
  Calls Tryz.prog 3 #[.string a,.int .i64 q,.string s] w fun e W'=>e = .returned (.bool true)∧Below w.heap.size w W':=by
 have hG:=fun W (hW:Below w.heap.size w W)=>rGreat_any a W ha (T.next hW)
 have hA:=fun W (hW:Below w.heap.size w W)=>awake7_any W (T.next hW)
 cases hg:grM a
 ·rw [hg] at hG
  by_cases h1:120<s.size
  ·exact MeasureDecimals_long a s q w (by omega) hG hA
  ·have kP:=fun W (hW:Below w.heap.size w W)=>parse_any s W (T.next hW)
   have kR:=fun W (hW:Below w.heap.size w W)=>rParse_any s W (T.next hW)
   by_cases hp:plV a.data.toList q=0
   ·have hc:ckV a.data.toList=0:=by
     unfold plV at hp
     by_cases h2:ckV a.data.toList=0
     ·exact h2
     ·rw [if_neg h2] at hp;exact absurd hp h2
    have hq:0≤q∧q≤100:=by
     unfold plV at hp
     rw [if_pos hc] at hp
     by_cases h2:0≤q∧q≤100
     ·exact h2
     ·rw [if_neg h2] at hp;cases hp
    obtain ⟨c1,c2⟩:=ckV_ok hc
    obtain ⟨n,rfl⟩:∃ n:Nat,q=n:=⟨q.toNat,by omega⟩
    have ea:=str_of_chkQ c1
    rw [ea]
    rw [ea] at hG
    have hn:n≤100:=by omega
    exact MeasureDecimals_yes _ s _ _ _ n 0 0 _ w (by omega) (beq_self_eq_true _) (beq_self_eq_true _) (beq_self_eq_true _) (beq_self_eq_true _) (beq_self_eq_true _) (beq_self_eq_true _) hG
     (fun W hW=>print_q _ n W c2 hn (T.next hW)) (fun W hW=>rPrint_q _ n W c2 hn (T.next hW)) (fun W hW=>exact_q _ n W c2 hn (T.next hW)) (fun W hW=>rExact_q _ n W c2 hn (T.next hW)) kP kR hA
   ·exact MeasureDecimals_yes a s _ _ _ q _ _ _ w (by omega) (beq_self_eq_true _) (beq_self_eq_true _) (beq_self_eq_true _) (beq_self_eq_true _) (beq_self_eq_true _) (beq_self_eq_true _) hG
     (fun W hW=>print_bad a q W ha hp (T.next hW)) (fun W hW=>rPrint_bad a q W ha hp (T.next hW)) (fun W hW=>exact_bad a q W ha hp (T.next hW)) (fun W hW=>rExact_bad a q W ha hp (T.next hW)) kP kR hA
 ·rw [hg] at hG
  exact MeasureDecimals_no a s q w hG hA
end Go.Proofs.YteckjifdpcbaeaaGreatDoor.T
