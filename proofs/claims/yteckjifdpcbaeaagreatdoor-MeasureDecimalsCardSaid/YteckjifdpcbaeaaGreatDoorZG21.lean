/- Parts of the proof of the text YteckjifdpcbaeaaGreatDoorZG38. -/
import Derived.Test.YteckjifdpcbaeaaGreatDoorZG1
import Derived.Test.YteckjifdpcbaeaaGreatDoorZG17
import Derived.Test.YteckjifdpcbaeaaGreatDoorZG18
import Derived.Test.YteckjifdpcbaeaaGreatDoorZG20
set_option linter.all false
set_option maxRecDepth 100000
set_option maxHeartbeats 8000000
namespace Go.Proofs.YteckjifdpcbaeaaGreatDoor
open Go.RowKit
def rlN (s:ByteArray):ByteArray:=if chkQ s.data.toList=0 then bN s else ⟨#[]⟩
def rlD (s:ByteArray):ByteArray:=if chkQ s.data.toList=0 then bD s else ⟨#[]⟩
theorem rl_bad {s:ByteArray} {r:Int} (h:chkQ s.data.toList=r) (hr:r≠0):rlN s=⟨#[]⟩∧rlD s=⟨#[]⟩∧chkQ s.data.toList=r :=
 ⟨if_neg (by rw [h];exact hr),if_neg (by rw [h];exact hr),h⟩
theorem rl_good {s:ByteArray} (h:chkQ s.data.toList=0):rlN s=bN s∧rlD s=bD s:=⟨if_pos h,if_pos h⟩
theorem toList_48 (s:ByteArray) (l:List UInt8):(s.toList==l)=(s.data.toList==l):=by rw [ByteArray.toList_eq]
theorem bool_ne {a b:Int} (h:a≠b):(a==b)=false∧(a != b)=true:=by
 constructor
 ·rw [beq_eq_false_iff_ne];exact h
 ·rw [bne_iff_ne];exact h
theorem str_chk {s:ByteArray} (h:chk s.data.toList=0):s=strB (valOf s.data.toList):=bytes_ext (by rw [strB_data,itoa_valOf _ h])
theorem chk_short {l:List UInt8} (h:chk l=0):short (valOf l):=by
 have h1:=chk_itoa (valOf l)
 rw [itoa_valOf _ h,h] at h1
 show Int.natAbs _<lim
 by_cases q:(valOf l).natAbs<lim
 ·exact q
 ·rw [if_neg q] at h1;cases h1
theorem readLong_any (s:ByteArray) (w:World) (hs:s.size≤maxLen) (ht:Tab w) :
  Calls Tryz.prog 112 #[.string s] w fun e W'=>e = .returned (.tuple #[.agg #[.string (rlN s),.int .i64 0,.string (rlD s),.int .i64 0],.int .i64 (chkQ s.data.toList)])∧Below w.heap.size w W':=by
 have hm1:1≤maxLen:=by unfold maxLen;omega
 have hD:(bD s).size≤maxLen:=by
  by_cases h0:0<s.size
  ·exact Nat.le_trans (bD_size s h0) hs
  ·have h1:=data_nil (s:=s) (by omega)
   rw [←size_len,bD_data,h1];exact hm1
 have kc:=fun W (_:Below w.heap.size w W)=>cut_any s W hs
 have k1:CqB w 155 #[.string (bN s)] (.int .i64 (chk (cutN s.data.toList))):=fun W _=>by
  have c:=check_any (bN s) W (Nat.le_trans (bN_size s) hs)
  rw [bN_data] at c
  exact c.mono fun e W' h=>⟨h.1,by rw [←h.2];exact Below.refl _ _⟩
 have k2:CqB w 155 #[.string (bD s)] (.int .i64 (chk (cutD s.data.toList))):=fun W _=>by
  have c:=check_any (bD s) W hD
  rw [bD_data] at c
  exact c.mono fun e W' h=>⟨h.1,by rw [←h.2];exact Below.refl _ _⟩
 by_cases e1:chk (cutN s.data.toList)=11
 ·have hq:chkQ s.data.toList=11:=by
   unfold chkQ
   rw [if_pos]
   unfold formQ;rw [e1];rfl
  obtain ⟨q1,q2,q3⟩:=rl_bad hq (by decide)
  rw [e1] at k1
  rw [q1,q2,q3]
  exact rl_n s (bN s) (bD s) _ _ w kc k1 k2
 have n1:=bool_ne e1
 by_cases e2:chk (cutD s.data.toList)=11
 ·have hq:chkQ s.data.toList=11:=by
   unfold chkQ
   rw [if_pos]
   unfold formQ;rw [e2];simp
  obtain ⟨q1,q2,q3⟩:=rl_bad hq (by decide)
  rw [e2] at k2
  rw [q1,q2,q3]
  exact rl_d s (bN s) (bD s) _ _ w n1.1 n1.2 kc k1 k2
 have n2:=bool_ne e2
 have hp:0<(bD s).size:=by
  rcases Nat.eq_zero_or_pos (bD s).size with h | h
  ·exfalso;apply e2
   rw [←bD_data,data_nil h];decide
  ·exact h
 have hp':(0:Int)<(bD s).size:=by omega
 have hng:=isNeg_pos hp
 rw [bD_data] at hng
 by_cases hn1:isNeg (cutD s.data.toList)=true
 ·have hn:=hn1
  have hq:chkQ s.data.toList=11:=by
   unfold chkQ
   rw [if_pos]
   unfold formQ;rw [hn];simp
  obtain ⟨q1,q2,q3⟩:=rl_bad hq (by decide)
  rw [q1,q2,q3]
  exact rl_m s (bN s) (bD s) _ _ _ w n1.1 n1.2 n2.1 n2.2 hp hp' (hng.trans hn) (by rw [bne,hng.trans hn];rfl) kc k1 k2
 have hn:isNeg (cutD s.data.toList)=false:=by simpa using hn1
 have hm:=hng.trans hn
 have hm':(((bD s)[0].toNat:Int) != 45)=true:=by rw [bne,hm];rfl
 by_cases e0:cutD s.data.toList = [48]
 ·have hq:chkQ s.data.toList=11:=by
   unfold chkQ
   rw [if_pos]
   unfold formQ;rw [e0];simp
  obtain ⟨q1,q2,q3⟩:=rl_bad hq (by decide)
  rw [q1,q2,q3]
  have z:((bD s).toList == [48])=true:=by rw [toList_48,bD_data,e0];rfl
  exact rl_0 s (bN s) (bD s) _ _ _ w n1.1 n1.2 n2.1 n2.2 hp hp' hm hm' z (by rw [bne,z];rfl) kc k1 k2
 have z0:((bD s).toList == [48])=false:=by rw [toList_48,bD_data,beq_eq_false_iff_ne];exact e0
 have z0':((bD s).toList != [48])=true:=by rw [bne,z0];rfl
 cases hf:hasS s.data.toList
 ·rw [hf] at kc
  have hform:formQ s.data.toList=true:=by
   unfold formQ;rw [hf,hn];simp [e1,e2,e0]
  by_cases b1:chk (cutN s.data.toList)=0
  ·by_cases b2:chk (cutD s.data.toList)=0
   ·have hd:cutD s.data.toList = [49]:=by unfold cutD;rw [hf];rfl
    have hq:chkQ s.data.toList=0:=by
     unfold chkQ
     rw [hform,if_neg (by decide),if_neg (by rw [b1,b2];simp),if_pos (by rw [hd,natOf_one,Nat.gcd_one_right])]
    obtain ⟨q1,q2⟩:=rl_good hq
    rw [q1,q2,hq]
    rw [b1] at k1
    rw [b2] at k2
    exact rl_ok s (bN s) (bD s) w hp hp' hm hm' z0 z0' kc k1 k2
   ·have hq:chkQ s.data.toList=4:=by
     unfold chkQ
     rw [hform,if_neg (by decide),if_pos (.inr b2)]
    obtain ⟨q1,q2,q3⟩:=rl_bad hq (by decide)
    rw [q1,q2,q3]
    rw [b1] at k1
    have m2:=bool_ne b2
    exact rl_b0 s (bN s) (bD s) _ w n2.1 n2.2 hp hp' hm hm' z0 z0' m2.1 m2.2 kc k1 k2
  ·have hq:chkQ s.data.toList=4:=by
    unfold chkQ
    rw [hform,if_neg (by decide),if_pos (.inl b1)]
   obtain ⟨q1,q2,q3⟩:=rl_bad hq (by decide)
   rw [q1,q2,q3]
   have m1:=bool_ne b1
   exact rl_a0 s (bN s) (bD s) _ _ w n1.1 n1.2 n2.1 n2.2 hp hp' hm hm' z0 z0' m1.1 m1.2 kc k1 k2
 ·rw [hf] at kc
  by_cases e9:cutD s.data.toList = [49]
  ·have hq:chkQ s.data.toList=11:=by
    unfold chkQ
    rw [if_pos]
    unfold formQ;rw [hf,e9];simp
   obtain ⟨q1,q2,q3⟩:=rl_bad hq (by decide)
   rw [q1,q2,q3]
   exact rl_1 s (bN s) (bD s) _ _ w n1.1 n1.2 n2.1 n2.2 hp hp' hm hm' z0 z0' (by rw [toList_48,bD_data,e9];rfl) kc k1 k2
  have z1:((bD s).toList == [49])=false:=by rw [toList_48,bD_data,beq_eq_false_iff_ne];exact e9
  have hform:formQ s.data.toList=true:=by
   unfold formQ;rw [hf,hn];simp [e1,e2,e0,e9]
  by_cases b1:chk (cutN s.data.toList)=0
  ·by_cases b2:chk (cutD s.data.toList)=0
   ·rw [b1] at k1
    rw [b2] at k2
    have s1:=str_chk (s:=bN s) (by rw [bN_data];exact b1)
    have s2:=str_chk (s:=bD s) (by rw [bD_data];exact b2)
    rw [bN_data] at s1
    rw [bD_data] at s2
    have hnat:=natOf_val hn
    have kd:CqB w 156 #[.agg #[.string (bN s),.int .i64 0],.agg #[.string (bD s),.int .i64 0]] (.agg #[.string (strB (gcdZ (valOf (cutN s.data.toList)) (valOf (cutD s.data.toList)))),.int .i64 0]):=fun W hW=>by
     rw [s1,s2]
     exact long_div1 _ _ W (chk_short b1) (chk_short b2) (ht.next hW)
    have ko:=fun W (_:Below w.heap.size w W)=>long_one (gcdZ (valOf (cutN s.data.toList)) (valOf (cutD s.data.toList))) W
    by_cases g1:gcdZ (valOf (cutN s.data.toList)) (valOf (cutD s.data.toList))=1
    ·have hq:chkQ s.data.toList=0:=by
      unfold chkQ
      rw [hform,if_neg (by decide),if_neg (by rw [b1,b2];simp),if_pos]
      unfold gcdZ at g1
      rw [←hnat,Int.natAbs_natCast] at g1
      exact Int.ofNat.inj g1
     obtain ⟨q1,q2⟩:=rl_good hq
     rw [q1,q2,hq]
     rw [decide_eq_true g1] at ko
     exact rl_ok2 s (bN s) (bD s) _ w hp hp' hm hm' z0 z0' z1 kc k1 k2 kd ko
    ·have hq:chkQ s.data.toList=11:=by
      unfold chkQ
      rw [hform,if_neg (by decide),if_neg (by rw [b1,b2];simp),if_neg]
      intro h
      apply g1
      unfold gcdZ
      rw [←hnat,Int.natAbs_natCast,h];rfl
     obtain ⟨q1,q2,q3⟩:=rl_bad hq (by decide)
     rw [q1,q2,q3]
     rw [decide_eq_false g1] at ko
     exact rl_g s (bN s) (bD s) _ w hp hp' hm hm' z0 z0' z1 kc k1 k2 kd ko
   ·have hq:chkQ s.data.toList=4:=by
     unfold chkQ
     rw [hform,if_neg (by decide),if_pos (.inr b2)]
    obtain ⟨q1,q2,q3⟩:=rl_bad hq (by decide)
    rw [q1,q2,q3]
    rw [b1] at k1
    have m2:=bool_ne b2
    exact rl_b1 s (bN s) (bD s) _ w n2.1 n2.2 hp hp' hm hm' z0 z0' z1 m2.1 m2.2 kc k1 k2
  ·have hq:chkQ s.data.toList=4:=by
    unfold chkQ
    rw [hform,if_neg (by decide),if_pos (.inl b1)]
   obtain ⟨q1,q2,q3⟩:=rl_bad hq (by decide)
   rw [q1,q2,q3]
   have m1:=bool_ne b1
   exact rl_a1 s (bN s) (bD s) _ _ w n1.1 n1.2 n2.1 n2.2 hp hp' hm hm' z0 z0' z1 m1.1 m1.2 kc k1 k2
theorem readMachines_yes (a b:ByteArray) (w:World) (ha:a.size≤maxLen) (hb:b.size≤maxLen) (oa:mOK a.data.toList=true) (ob:mOK b.data.toList=true) (ht:Tab64 w) :
  Calls Tryz.prog 111 #[.string a,.string b] w fun e W'=>e = .returned (.tuple #[.agg #[.int .i64 (valOf (cutN a.data.toList)),.int .i64 (valOf (cutD a.data.toList))],.agg #[.int .i64 (valOf (cutN b.data.toList)),.int .i64 (valOf (cutD b.data.toList))],.bool true])∧Below w.heap.size w W':=by
 have c:=readMachines_two a b _ _ true (fun z u=>z=valOf (cutN b.data.toList)∧u=valOf (cutD b.data.toList)) w (fun W hW=>readMachine_ok a W ha oa (TabQ_next ht hW))
  (fun W hW=>(readMachine_ok b W hb ob (TabQ_next ht hW)).mono fun e W' h=>⟨⟨_,_,⟨rfl,rfl⟩,h.1⟩,h.2⟩)
 refine c.mono ?_
 rintro e W' ⟨⟨z,u,⟨rfl,rfl⟩,he⟩,hB⟩
 exact ⟨he,hB⟩
theorem readMachines_no (a b:ByteArray) (w:World) (ha:a.size≤maxLen) (hb:b.size≤maxLen) (h:¬ (mOK a.data.toList=true∧mOK b.data.toList=true)) (ht:Tab64 w) :
  Calls Tryz.prog 111 #[.string a,.string b] w fun e W'=>(∃ x y z u,e = .returned (.tuple #[.agg #[.int .i64 x,.int .i64 y],.agg #[.int .i64 z,.int .i64 u],.bool false]))∧Below w.heap.size w W':=by
 cases oa:mOK a.data.toList
 ·exact readMachines_no1 a b w (fun W hW=>readMachine_no a W ha oa (TabQ_next ht hW))
 ·have ob:mOK b.data.toList=false:=by
   cases ob:mOK b.data.toList
   ·rfl
   ·exact absurd ⟨oa,ob⟩ h
  have c:=readMachines_two a b _ _ false (fun _ _=>True) w (fun W hW=>readMachine_ok a W ha oa (TabQ_next ht hW))
   (fun W hW=>(readMachine_no b W hb ob (TabQ_next ht hW)).mono fun e W' ⟨⟨x,y,he⟩,hB⟩=>⟨⟨x,y,trivial,he⟩,hB⟩)
  exact c.mono fun e W' ⟨⟨z,u,_,he⟩,hB⟩=>⟨⟨_,_,z,u,he⟩,hB⟩
theorem checkQ_core (s:ByteArray) (x y:Int) (r:Int) (n d:ByteArray) (o:Bool) (w:World) (h1:o=true→r=0)
  (hm:∀ W,Below w.heap.size w W→Calls Tryz.prog 117 #[.string s] W fun e W'=>(∃ x y,e = .returned (.tuple #[.agg #[.int .i64 x,.int .i64 y],.bool o]))∧Below W.heap.size W W')
  (hl:CqB w 112 #[.string s] (.tuple #[.agg #[.string n,.int .i64 0,.string d,.int .i64 0],.int .i64 r])) :
  Calls Tryz.prog 73 #[.string s] w fun e W'=>e = .returned (.int .i64 r)∧Below w.heap.size w W':=by
 have C:=Lib.hid (And.intro hm hl);clear hm hl
 cases o
 ·clear h1
  go_enter Tryz.func73,Tryz.ntmps73
  go_wp2_with fail
  refine (C.out.1 _ (Below.refl _ _)).mono ?_
  rintro e w1 ⟨⟨x,y,rfl⟩,b⟩
  go_wp2_with fail
  have H1:=Lib.hid (b.alloc b.size (.cells #[.int .i64 x,.int .i64 y] 124));clear b
  generalize w1.alloc (.cells #[.int .i64 x,.int .i64 y] 124)=w2 at *
  refine (C.out.2 _ H1.out).mono ?_
  rintro e w3 ⟨rfl,b⟩
  have H2:=Lib.hid ((H1.out.trans (b.mono H1.out.size)).alloc (Nat.le_trans H1.out.size b.size) (.cells #[.string n,.int .i64 0,.string d,.int .i64 0] 128));clear b H1
  go_wp2
  go_ret
  exact ⟨rfl,H2.out⟩
 ·have hr:=h1 rfl
  subst hr
  go_enter Tryz.func73,Tryz.ntmps73
  go_wp2_with fail
  refine (C.out.1 _ (Below.refl _ _)).mono ?_
  rintro e w1 ⟨⟨x,y,rfl⟩,b⟩
  have H1:=Lib.hid (b.alloc b.size (.cells #[.int .i64 x,.int .i64 y] 124));clear b
  go_wp2
  go_ret
  exact ⟨rfl,H1.out⟩
theorem checkQ_any (s:ByteArray) (w:World) (hs:s.size≤maxLen) (ht:Tab w) (ht2:Tab64 w) :
  Calls Tryz.prog 73 #[.string s] w fun e W'=>e = .returned (.int .i64 (chkQ s.data.toList))∧Below w.heap.size w W':=by
 have kl:=fun W (hW:Below w.heap.size w W)=>readLong_any s W hs (ht.next hW)
 cases o:mOK s.data.toList
 ·exact checkQ_core s 0 0 _ _ _ false w (fun h=>by cases h) (fun W hW=>readMachine_no s W hs o (TabQ_next ht2 hW)) kl
 ·exact checkQ_core s 0 0 _ _ _ true w (fun _=>(mOK_chk o).1) (fun W hW=>(readMachine_ok s W hs o (TabQ_next ht2 hW)).mono fun e W' h=>⟨⟨_,_,h.1⟩,h.2⟩) kl
def paN (s:ByteArray):ByteArray:=if chkQ s.data.toList=0 then bN s else ⟨#[]⟩
def paD (s:ByteArray):ByteArray:=if chkQ s.data.toList=0 then bD s else ⟨#[]⟩
theorem partsQ_any (s:ByteArray) (w:World) (hs:s.size≤maxLen) (ht:Tab w) (ht2:Tab64 w) :
  Calls Tryz.prog 77 #[.string s] w fun e W'=>e = .returned (.tuple #[.string (paN s),.string (paD s),.int .i64 (chkQ s.data.toList)])∧Below w.heap.size w W':=by
 have kk:=checkQ_any s w hs ht ht2
 have kc:=fun W=>cut_any s W hs
 by_cases h:chkQ s.data.toList=0
 ·unfold paN paD
  rw [if_pos h,if_pos h]
  rw [h] at kk ⊢
  have C:=Lib.hid (And.intro kk kc);clear kk kc h ht ht2 hs
  generalize bN s=n at *
  generalize bD s=d at *
  generalize hasS s.data.toList=f at *
  go_enter Tryz.func77,Tryz.ntmps77
  go_wp2_with fail
  refine C.out.1.mono ?_
  rintro e w1 ⟨rfl,b⟩
  have H1:=Lib.hid b;clear b
  go_wp2_with fail
  refine (C.out.2 _).mono ?_
  rintro e w2 ⟨rfl,b⟩
  have H2:=Lib.hid (H1.out.trans (b.mono H1.out.size));clear b
  go_wp2
  go_ret3
  exact ⟨rfl,H2.out⟩
 ·unfold paN paD
  rw [if_neg h,if_neg h]
  have n:=bool_ne h
  have C:=Lib.hid kk;clear kk kc h ht ht2 hs
  obtain ⟨n1,n2⟩:=n
  generalize chkQ s.data.toList=c at *
  go_enter Tryz.func77,Tryz.ntmps77
  go_wp2_with fail
  refine C.out.mono ?_
  rintro e w1 ⟨rfl,b⟩
  have H1:=Lib.hid b;clear b
  go_wp2
  go_ret3
  exact ⟨rfl,H1.out⟩
theorem mkf:∀ (fn:Fn) (first cap:Array Value) (w:World),(Instr.makeFunc fn first cap).run Tryz.prog w = .ok (.func fn first cap) w:=fun _ _ _ _=>rfl
theorem reducedM_mk (kr:FuncId) (w:World) :
  Calls Tryz.prog 69 #[.func (.func kr) #[] #[]] w fun e W'=>e = .returned (.func (.func 113) #[] #[.pointer (some ⟨w.heap.size,0,none⟩)])∧Blk W' w.heap.size #[.func (.func kr) #[] #[]]∧Below w.heap.size w W':=by
 have hmf:=mkf
 go_enter Tryz.func69,Tryz.ntmps69
 go_wp2
 go_ret
 exact ⟨rfl,Blk.new w _ _,(Below.refl _ w).alloc (Nat.le_refl _) _⟩
theorem reducedL_mk (kr:FuncId) (w:World) :
  Calls Tryz.prog 71 #[.func (.func kr) #[] #[]] w fun e W'=>e = .returned (.func (.func 115) #[] #[.pointer (some ⟨w.heap.size,0,none⟩)])∧Blk W' w.heap.size #[.func (.func kr) #[] #[]]∧Below w.heap.size w W':=by
 have hmf:=mkf
 go_enter Tryz.func71,Tryz.ntmps71
 go_wp2
 go_ret
 exact ⟨rfl,Blk.new w _ _,(Below.refl _ w).alloc (Nat.le_refl _) _⟩
theorem ruleM_any (kr:FuncId) (p:Nat) (a b c d n m:Int) (r:ByteArray) (x:Int) (w:World) (eg:∀ args W,(callFunc kr args).run Tryz.prog W = .ok (.enter kr args) W) (hb:Blk w p #[.func (.func kr) #[] #[]])
  (hr:CqB w kr #[.agg #[.int .i64 a,.int .i64 b],.agg #[.int .i64 c,.int .i64 d]] (.agg #[.int .i64 n,.int .i64 m]))
  (hl:CqB w 114 #[.agg #[.int .i64 n,.int .i64 m]] (.tuple #[.string r,.int .i64 x])) :
  Calls Tryz.prog 113 #[.agg #[.int .i64 a,.int .i64 b],.agg #[.int .i64 c,.int .i64 d],.pointer (some ⟨p,0,none⟩)] w fun e W'=>e = .returned (.tuple #[.string r,.int .i64 x])∧Below w.heap.size w W':=by
 have cp:((w.alloc (.cells #[.int .i64 a,.int .i64 b] 124)).alloc (.cells #[.int .i64 c,.int .i64 d] 124)).cell? ⟨p,0,none⟩=some (.func (.func kr) #[] #[]):=((hb.alloc _).alloc _).cell 0 _ rfl
 have hB:Below w.heap.size w ((w.alloc (.cells #[.int .i64 a,.int .i64 b] 124)).alloc (.cells #[.int .i64 c,.int .i64 d] 124)):=((Below.refl _ w).alloc (Nat.le_refl _) _).alloc (by simp) _
 have C:=Lib.hid (And.intro hr hl)
 clear hr hl hb
 go_enter Tryz.func113,Tryz.ntmps113
 go_wp2_with fail
 generalize (w.alloc (.cells #[.int .i64 a,.int .i64 b] 124)).alloc (.cells #[.int .i64 c,.int .i64 d] 124)=W0 at *
 have HB:=Lib.hid hB;clear hB cp
 refine (C.out.1 _ HB.out).mono ?_
 rintro e w1 ⟨rfl,b⟩
 have H1:=Lib.hid (HB.out.trans (b.mono HB.out.size));clear b HB
 go_wp2_with fail
 refine (C.out.2 _ H1.out).mono ?_
 rintro e w2 ⟨rfl,b⟩
 have H2:=Lib.hid (H1.out.trans (b.mono H1.out.size));clear b H1
 go_wp2
 go_ret2
 exact ⟨rfl,H2.out⟩
theorem ruleL_any (kr:FuncId) (p:Nat) (a b c d n m:ByteArray) (a' b' c' d' n' m':Int) (r:ByteArray) (x:Int) (w:World) (eg:∀ args W,(callFunc kr args).run Tryz.prog W = .ok (.enter kr args) W) (hb:Blk w p #[.func (.func kr) #[] #[]])
  (hr:CqB w kr #[.agg #[.string a,.int .i64 a',.string b,.int .i64 b'],.agg #[.string c,.int .i64 c',.string d,.int .i64 d']] (.agg #[.string n,.int .i64 n',.string m,.int .i64 m']))
  (hl:CqB w 116 #[.agg #[.string n,.int .i64 n',.string m,.int .i64 m']] (.tuple #[.string r,.int .i64 x])) :
  Calls Tryz.prog 115 #[.agg #[.string a,.int .i64 a',.string b,.int .i64 b'],.agg #[.string c,.int .i64 c',.string d,.int .i64 d'],.pointer (some ⟨p,0,none⟩)] w fun e W'=>e = .returned (.tuple #[.string r,.int .i64 x])∧Below w.heap.size w W':=by
 have cp:((w.alloc (.cells #[.string a,.int .i64 a',.string b,.int .i64 b'] 128)).alloc (.cells #[.string c,.int .i64 c',.string d,.int .i64 d'] 128)).cell? ⟨p,0,none⟩=some (.func (.func kr) #[] #[]):=((hb.alloc _).alloc _).cell 0 _ rfl
 have hB:Below w.heap.size w ((w.alloc (.cells #[.string a,.int .i64 a',.string b,.int .i64 b'] 128)).alloc (.cells #[.string c,.int .i64 c',.string d,.int .i64 d'] 128)):=((Below.refl _ w).alloc (Nat.le_refl _) _).alloc (by simp) _
 have C:=Lib.hid (And.intro hr hl)
 clear hr hl hb
 go_enter Tryz.func115,Tryz.ntmps115
 go_wp2_with fail
 generalize (w.alloc (.cells #[.string a,.int .i64 a',.string b,.int .i64 b'] 128)).alloc (.cells #[.string c,.int .i64 c',.string d,.int .i64 d'] 128)=W0 at *
 have HB:=Lib.hid hB;clear hB cp
 refine (C.out.1 _ HB.out).mono ?_
 rintro e w1 ⟨rfl,b⟩
 have H1:=Lib.hid (HB.out.trans (b.mono HB.out.size));clear b HB
 go_wp2_with fail
 refine (C.out.2 _ H1.out).mono ?_
 rintro e w2 ⟨rfl,b⟩
 have H2:=Lib.hid (H1.out.trans (b.mono H1.out.size));clear b H1
 go_wp2
 go_ret2
 exact ⟨rfl,H2.out⟩
theorem computeN_short (ks kl:FuncId) (p q:Nat) (a b:ByteArray) (x0 x1 y0 y1:Int) (r:ByteArray) (w:World)
  (hm:CqB w 111 #[.string a,.string b] (.tuple #[.agg #[.int .i64 x0,.int .i64 x1],.agg #[.int .i64 y0,.int .i64 y1],.bool true]))
  (es:∀ args W,(callFunc ks args).run Tryz.prog W = .ok (.enter ks args) W)
  (hs:CqB w ks #[.agg #[.int .i64 x0,.int .i64 x1],.agg #[.int .i64 y0,.int .i64 y1],.pointer (some ⟨p,0,none⟩)] (.tuple #[.string r,.int .i64 0])) :
  Calls Tryz.prog 68 #[.string a,.string b,(.func (.func ks) #[] #[.pointer (some ⟨p,0,none⟩)]),(.func (.func kl) #[] #[.pointer (some ⟨q,0,none⟩)])] w fun e W'=>e = .returned (.tuple #[.string r,.int .i64 0])∧Below w.heap.size w W':=by
 have C:=Lib.hid ((And.intro hm (And.intro hs trivial)));clear hm hs
 go_enter Tryz.func68,Tryz.ntmps68
 go_wp2_with fail
 refine (C.out.1 _ (Below.refl _ _)).mono ?_
 rintro e w1 ⟨rfl,b⟩
 have q0:=(Blk.new w1 #[.int .i64 x0,.int .i64 x1] 124).alloc (.cells #[.int .i64 y0,.int .i64 y1] 124)
 have q1:=Blk.new (w1.alloc (.cells #[.int .i64 x0,.int .i64 x1] 124)) #[.int .i64 y0,.int .i64 y1] 124
 rw [World.size_alloc] at q1
 have c0:=q0.cell 0 (.int .i64 x0) rfl
 have c1:=q0.cell 1 (.int .i64 x1) rfl
 have c2:=q1.cell 0 (.int .i64 y0) rfl
 have c3:=q1.cell 1 (.int .i64 y1) rfl
 have hB:=(b.alloc b.size (.cells #[.int .i64 x0,.int .i64 x1] 124)).alloc (by have:=b.size;simp;omega) (.cells #[.int .i64 y0,.int .i64 y1] 124)
 clear q0 q1
 go_wp2_with fail
 generalize (w1.alloc (.cells #[.int .i64 x0,.int .i64 x1] 124)).alloc (.cells #[.int .i64 y0,.int .i64 y1] 124)=w2 at *
 have H2:=Lib.hid hB;clear hB b c0 c1 c2 c3
 refine (C.out.2.1 _ H2.out).mono ?_
 rintro e w3 ⟨rfl,b⟩
 have H3:=Lib.hid (H2.out.trans (b.mono H2.out.size));clear b H2
 go_wp2
 go_ret2
 exact ⟨rfl,H3.out⟩
theorem computeN_both (ks kl:FuncId) (p q:Nat) (a b:ByteArray) (x0 x1 y0 y1:Int) (n d m f:ByteArray) (r' r:ByteArray) (e' e0:Int) (w:World) (n1:(e'==0)=false) (n2:(e' != 0)=true)
  (hm:CqB w 111 #[.string a,.string b] (.tuple #[.agg #[.int .i64 x0,.int .i64 x1],.agg #[.int .i64 y0,.int .i64 y1],.bool true]))
  (es:∀ args W,(callFunc ks args).run Tryz.prog W = .ok (.enter ks args) W)
  (hs:CqB w ks #[.agg #[.int .i64 x0,.int .i64 x1],.agg #[.int .i64 y0,.int .i64 y1],.pointer (some ⟨p,0,none⟩)] (.tuple #[.string r',.int .i64 e']))
  (hra:CqB w 112 #[.string a] (.tuple #[.agg #[.string n,.int .i64 0,.string d,.int .i64 0],.int .i64 0]))
  (hrb:CqB w 112 #[.string b] (.tuple #[.agg #[.string m,.int .i64 0,.string f,.int .i64 0],.int .i64 0]))
  (el:∀ args W,(callFunc kl args).run Tryz.prog W = .ok (.enter kl args) W)
  (hl:CqB w kl #[.agg #[.string n,.int .i64 0,.string d,.int .i64 0],.agg #[.string m,.int .i64 0,.string f,.int .i64 0],.pointer (some ⟨q,0,none⟩)] (.tuple #[.string r,.int .i64 e0])) :
  Calls Tryz.prog 68 #[.string a,.string b,(.func (.func ks) #[] #[.pointer (some ⟨p,0,none⟩)]),(.func (.func kl) #[] #[.pointer (some ⟨q,0,none⟩)])] w fun e W'=>e = .returned (.tuple #[.string r,.int .i64 e0])∧Below w.heap.size w W':=by
 have C:=Lib.hid ((And.intro hm (And.intro hs (And.intro hra (And.intro hrb hl)))));clear hm hs hra hrb hl
 go_enter Tryz.func68,Tryz.ntmps68
 go_wp2_with fail
 refine (C.out.1 _ (Below.refl _ _)).mono ?_
 rintro e w1 ⟨rfl,b⟩
 have q0:=(Blk.new w1 #[.int .i64 x0,.int .i64 x1] 124).alloc (.cells #[.int .i64 y0,.int .i64 y1] 124)
 have q1:=Blk.new (w1.alloc (.cells #[.int .i64 x0,.int .i64 x1] 124)) #[.int .i64 y0,.int .i64 y1] 124
 rw [World.size_alloc] at q1
 have c0:=q0.cell 0 (.int .i64 x0) rfl
 have c1:=q0.cell 1 (.int .i64 x1) rfl
 have c2:=q1.cell 0 (.int .i64 y0) rfl
 have c3:=q1.cell 1 (.int .i64 y1) rfl
 have hB:=(b.alloc b.size (.cells #[.int .i64 x0,.int .i64 x1] 124)).alloc (by have:=b.size;simp;omega) (.cells #[.int .i64 y0,.int .i64 y1] 124)
 clear q0 q1
 go_wp2_with fail
 generalize (w1.alloc (.cells #[.int .i64 x0,.int .i64 x1] 124)).alloc (.cells #[.int .i64 y0,.int .i64 y1] 124)=w2 at *
 have H2:=Lib.hid hB;clear hB b c0 c1 c2 c3
 refine (C.out.2.1 _ H2.out).mono ?_
 rintro e w3 ⟨rfl,b⟩
 have H3:=Lib.hid (H2.out.trans (b.mono H2.out.size));clear b H2
 go_wp2_with fail
 refine (C.out.2.2.1 _ H3.out).mono ?_
 rintro e w4 ⟨rfl,b⟩
 have H4:=Lib.hid (H3.out.trans (b.mono H3.out.size));clear b H3
 go_wp2_with fail
 have q0:=Blk.new w4 #[.string n,.int .i64 0,.string d,.int .i64 0] 128
 have hB:=H4.out.alloc H4.out.size (.cells #[.string n,.int .i64 0,.string d,.int .i64 0] 128)
 generalize w4.alloc (.cells #[.string n,.int .i64 0,.string d,.int .i64 0] 128)=w5 at *
 generalize w4.heap.size=j at *
 have H5:=Lib.hid (And.intro hB q0);clear hB q0 H4
 refine (C.out.2.2.2.1 _ H5.out.1).mono ?_
 rintro e w6 ⟨rfl,b⟩
 have q0:=(H5.out.2.next b).alloc (.cells #[.string m,.int .i64 0,.string f,.int .i64 0] 128)
 have q1:=Blk.new w6 #[.string m,.int .i64 0,.string f,.int .i64 0] 128
 have hB:=(H5.out.1.trans (b.mono H5.out.1.size)).alloc (Nat.le_trans H5.out.1.size b.size) (.cells #[.string m,.int .i64 0,.string f,.int .i64 0] 128)
 have c0:=q0.cell 0 (.string n) rfl
 have c1:=q0.cell 1 (.int .i64 0) rfl
 have c2:=q0.cell 2 (.string d) rfl
 have c3:=q0.cell 3 (.int .i64 0) rfl
 have c4:=q1.cell 0 (.string m) rfl
 have c5:=q1.cell 1 (.int .i64 0) rfl
 have c6:=q1.cell 2 (.string f) rfl
 have c7:=q1.cell 3 (.int .i64 0) rfl
 clear b H5 q0 q1
 go_wp2_with fail
 generalize w6.alloc (.cells #[.string m,.int .i64 0,.string f,.int .i64 0] 128)=w7 at *
 have H7:=Lib.hid hB;clear hB c0 c1 c2 c3 c4 c5 c6 c7
 refine (C.out.2.2.2.2 _ H7.out).mono ?_
 rintro e w8 ⟨rfl,b⟩
 have H8:=Lib.hid (H7.out.trans (b.mono H7.out.size));clear b H7
 go_wp2
 go_ret2
 exact ⟨rfl,H8.out⟩
theorem computeN_long (ks kl:FuncId) (p q:Nat) (a b:ByteArray) (n d m f:ByteArray) (r:ByteArray) (e0:Int) (w:World)
  (hm:∀ W,Below w.heap.size w W→Calls Tryz.prog 111 #[.string a,.string b] W fun e W'=>(∃ x y z u,e = .returned (.tuple #[.agg #[.int .i64 x,.int .i64 y],.agg #[.int .i64 z,.int .i64 u],.bool false]))∧Below W.heap.size W W')
  (hra:CqB w 112 #[.string a] (.tuple #[.agg #[.string n,.int .i64 0,.string d,.int .i64 0],.int .i64 0]))
  (hrb:CqB w 112 #[.string b] (.tuple #[.agg #[.string m,.int .i64 0,.string f,.int .i64 0],.int .i64 0]))
  (el:∀ args W,(callFunc kl args).run Tryz.prog W = .ok (.enter kl args) W)
  (hl:CqB w kl #[.agg #[.string n,.int .i64 0,.string d,.int .i64 0],.agg #[.string m,.int .i64 0,.string f,.int .i64 0],.pointer (some ⟨q,0,none⟩)] (.tuple #[.string r,.int .i64 e0])) :
  Calls Tryz.prog 68 #[.string a,.string b,(.func (.func ks) #[] #[.pointer (some ⟨p,0,none⟩)]),(.func (.func kl) #[] #[.pointer (some ⟨q,0,none⟩)])] w fun e W'=>e = .returned (.tuple #[.string r,.int .i64 e0])∧Below w.heap.size w W':=by
 have C:=Lib.hid ((And.intro hm (And.intro hra (And.intro hrb hl))));clear hm hra hrb hl
 go_enter Tryz.func68,Tryz.ntmps68
 go_wp2_with fail
 refine (C.out.1 _ (Below.refl _ _)).mono ?_
 rintro e w1 ⟨⟨x,y,z,u,rfl⟩,b⟩
 go_wp2_with fail
 have H3:=Lib.hid ((b.alloc b.size (.cells #[.int .i64 x,.int .i64 y] 124)).alloc (by have:=b.size;simp;omega) (.cells #[.int .i64 z,.int .i64 u] 124));clear b
 generalize (w1.alloc (.cells #[.int .i64 x,.int .i64 y] 124)).alloc (.cells #[.int .i64 z,.int .i64 u] 124)=w3 at *
 go_wp2_with fail
 refine (C.out.2.1 _ H3.out).mono ?_
 rintro e w4 ⟨rfl,b⟩
 have H4:=Lib.hid (H3.out.trans (b.mono H3.out.size));clear b H3
 go_wp2_with fail
 have q0:=Blk.new w4 #[.string n,.int .i64 0,.string d,.int .i64 0] 128
 have hB:=H4.out.alloc H4.out.size (.cells #[.string n,.int .i64 0,.string d,.int .i64 0] 128)
 generalize w4.alloc (.cells #[.string n,.int .i64 0,.string d,.int .i64 0] 128)=w5 at *
 generalize w4.heap.size=j at *
 have H5:=Lib.hid (And.intro hB q0);clear hB q0 H4
 refine (C.out.2.2.1 _ H5.out.1).mono ?_
 rintro e w6 ⟨rfl,b⟩
 have q0:=(H5.out.2.next b).alloc (.cells #[.string m,.int .i64 0,.string f,.int .i64 0] 128)
 have q1:=Blk.new w6 #[.string m,.int .i64 0,.string f,.int .i64 0] 128
 have hB:=(H5.out.1.trans (b.mono H5.out.1.size)).alloc (Nat.le_trans H5.out.1.size b.size) (.cells #[.string m,.int .i64 0,.string f,.int .i64 0] 128)
 have c0:=q0.cell 0 (.string n) rfl
 have c1:=q0.cell 1 (.int .i64 0) rfl
 have c2:=q0.cell 2 (.string d) rfl
 have c3:=q0.cell 3 (.int .i64 0) rfl
 have c4:=q1.cell 0 (.string m) rfl
 have c5:=q1.cell 1 (.int .i64 0) rfl
 have c6:=q1.cell 2 (.string f) rfl
 have c7:=q1.cell 3 (.int .i64 0) rfl
 clear b H5 q0 q1
 go_wp2_with fail
 generalize w6.alloc (.cells #[.string m,.int .i64 0,.string f,.int .i64 0] 128)=w7 at *
 have H7:=Lib.hid hB;clear hB c0 c1 c2 c3 c4 c5 c6 c7
 refine (C.out.2.2.2 _ H7.out).mono ?_
 rintro e w8 ⟨rfl,b⟩
 have H8:=Lib.hid (H7.out.trans (b.mono H7.out.size));clear b H7
 go_wp2
 go_ret2
 exact ⟨rfl,H8.out⟩
theorem lowestM_n1 (n d n' d':Int) (en : -n=n') (ed : -d=d') (w:World) (n0 : -9223372036854775808<n) (n1:n≤9223372036854775807) (d0 : -9223372036854775808<d) (d1:d≤9223372036854775807) (hd:d<0) (hg:gcdZ n' d'=1) (ht:Tab w) (ht2:Tab64 w) :
  Calls Tryz.prog 114 #[.agg #[.int .i64 n,.int .i64 d]] w fun e W'=>e = .returned (.tuple #[.string (strT n' d'),.int .i64 0])∧Below w.heap.size w W':=by
 have cf:=fun W=>fitM_any n d W
 rw [if_neg (show ¬ (n=tooL∨d=tooL) by unfold tooL;omega)] at cf
 have cn:=fun W=>mach_neg d W
 rw [decide_eq_true hd] at cn
 have co1:=fun W=>still (mach_opp n W n0 n1)
 have co2:=fun W=>still (mach_opp d W d0 d1)
 rw [en] at co1
 rw [ed] at co2
 have cg:=fun W (hW:Below w.heap.size w W)=>mach_divisor n' d' W (by omega) (by omega) (by omega) (by omega) (TabQ_next ht2 hW)
 have c1:=fun W=>mach_one (gcdZ n' d') W
 rw [show (gcdZ n' d'==1)=true by simpa using hg] at c1
 have cv1:=trivial
 have cv2:=trivial
 have ct:=fun W (hW:Below w.heap.size w W)=>textM_any n' d' W (by omega) (by omega) (by omega) (by omega) (ht.next hW)
 have C:=Lib.hid (And.intro cf (And.intro cn (And.intro co1 (And.intro co2 (And.intro cg (And.intro c1 (And.intro cv1 (And.intro cv2 ct))))))))
 clear en ed cf cn co1 co2 cg c1 cv1 cv2 ct ht ht2 n0 n1 d0 d1 hd hg
 rw [show ((Nat.gcd (n').natAbs (d').natAbs:Nat):Int)=gcdZ n' d' from rfl] at C
 generalize gcdZ n' d'=g at *
 go_enter Tryz.func114,Tryz.ntmps114
 go_wp2_with fail
 have hb:=Cell2.new w (.int .i64 n) (.int .i64 d) 124
 generalize w.alloc (.cells #[.int .i64 n,.int .i64 d] 124)=W0 at *
 generalize hk:w.heap.size=k at *
 have HK:=Lib.hid hk;clear hk
 have HB:=Lib.hid hb;clear hb
 refine (C.out.1 _).mono ?_
 rintro e w1 ⟨rfl,b⟩
 have H1:=Lib.hid (HB.out.next b);clear b HB
 have c0:=H1.out.c0
 have c1:=H1.out.c1
 go_wp2_with fail
 refine (C.out.2.1 _).mono ?_
 rintro e w' ⟨rfl,rfl⟩
 have f0:=H1.out.f0
 have f1:=H1.out.f1
 go_wp2
 have H2:=Lib.hid (show Cell2 w k _ _ w1.drew from H1.out.next (Below.refl _ _).drew)
 clear H1
 have c0:=H2.out.c0
 have c1:=H2.out.c1
 have mt:=mth_opp
 have en1:∀ args W,(callFunc 263 args).run Tryz.prog W = .ok (.enter 263 args) W:=enters_of Tryz.func263 (by kernel_rfl) rfl
 go_still_tail 8,(by kernel_rfl)
 still_call (C.out.2.2.1 _)
 repeat still_step
 still_call (C.out.2.2.2.1 _)
 repeat still_step
 refine wpStill_nil ?_
 change wpList _ _ _ _ _ w1.drew
 clear c0 c1 f0 f1 mt en1
 generalize w1.drew=w1 at *
 have f0:=H2.out.f0
 have f1:=H2.out.f1
 have H1:=Lib.hid (H2.out.put2 (.int .i64 n') (.int .i64 d'))
 have c0:=H1.out.c0
 have c1:=H1.out.c1
 have d0:=H2.out.c0
 have d1:=H2.out.c1
 obtain ⟨g0,g1⟩:=two_back d0 d1 (.int .i64 n') (.int .i64 d')
 clear H2
 go_wp2_with fail
 clear f0 f1 d0 d1 g0 g1
 generalize (w1.setCell ⟨k,0,none⟩ (.int .i64 n')).setCell ⟨k,1,none⟩ (.int .i64 d')=w1 at *
 go_wp2_with fail
 refine (C.out.2.2.2.2.1 _ (by have:=H1.out.below;rwa [HK.out] at this)).mono ?_
 rintro e w' ⟨rfl,rfl⟩
 go_wp2_with fail
 refine (C.out.2.2.2.2.2.1 _).mono ?_
 rintro e w' ⟨rfl,rfl⟩
 go_wp2_with fail
 refine (C.out.2.2.2.2.2.2.2.2 _ (by have:=H1.out.below;rwa [HK.out] at this)).mono ?_
 rintro e w2 ⟨rfl,b⟩
 have H2:=Lib.hid (H1.out.below.trans (b.mono H1.out.below.size))
 clear b c0 c1
 go_wp2
 go_ret2
 exact ⟨rfl,by have:=H2.out;rwa [HK.out] at this ⊢⟩
theorem lowestM_ng (n d n' d':Int) (en : -n=n') (ed : -d=d') (w:World) (n0 : -9223372036854775808<n) (n1:n≤9223372036854775807) (d0 : -9223372036854775808<d) (d1:d≤9223372036854775807) (hd:d<0) (hg:¬ gcdZ n' d'=1) (ht:Tab w) (ht2:Tab64 w) :
  Calls Tryz.prog 114 #[.agg #[.int .i64 n,.int .i64 d]] w fun e W'=>e = .returned (.tuple #[.string (strT (n'.tdiv (gcdZ n' d')) (d'.tdiv (gcdZ n' d'))),.int .i64 0])∧Below w.heap.size w W':=by
 have cf:=fun W=>fitM_any n d W
 rw [if_neg (show ¬ (n=tooL∨d=tooL) by unfold tooL;omega)] at cf
 have cn:=fun W=>mach_neg d W
 rw [decide_eq_true hd] at cn
 have co1:=fun W=>still (mach_opp n W n0 n1)
 have co2:=fun W=>still (mach_opp d W d0 d1)
 rw [en] at co1
 rw [ed] at co2
 have cg:=fun W (hW:Below w.heap.size w W)=>mach_divisor n' d' W (by omega) (by omega) (by omega) (by omega) (TabQ_next ht2 hW)
 have c1:=fun W=>mach_one (gcdZ n' d') W
 rw [show (gcdZ n' d'==1)=false by simpa using hg] at c1
 have hgp:=gcdZ_pos (n:=n') (d:=d') (by omega)
 have hgl:gcdZ n' d'≤9223372036854775807:=by
  have:gcdZ n' d'≤d':=Int.le_of_dvd (by omega) (gcdZ_dvd n' d').2
  omega
 have bn:=tdiv_b (n:=n') hgp (by omega) (by omega)
 have bd:=tdiv_b (n:=d') hgp (by omega) (by omega)
 have cv1:=fun W=>still (mach_over n' (gcdZ n' d') W (by omega) (by omega) hgp hgl)
 have cv2:=fun W=>still (mach_over d' (gcdZ n' d') W (by omega) (by omega) hgp hgl)
 have ct:=fun W (hW:Below w.heap.size w W)=>textM_any (n'.tdiv (gcdZ n' d')) (d'.tdiv (gcdZ n' d')) W bn.1 bn.2 bd.1 bd.2 (ht.next hW)
 clear hgp hgl bn bd
 have C:=Lib.hid (And.intro cf (And.intro cn (And.intro co1 (And.intro co2 (And.intro cg (And.intro c1 (And.intro cv1 (And.intro cv2 ct))))))))
 clear en ed cf cn co1 co2 cg c1 cv1 cv2 ct ht ht2 n0 n1 d0 d1 hd hg
 rw [show ((Nat.gcd (n').natAbs (d').natAbs:Nat):Int)=gcdZ n' d' from rfl] at C
 generalize gcdZ n' d'=g at *
 go_enter Tryz.func114,Tryz.ntmps114
 go_wp2_with fail
 have hb:=Cell2.new w (.int .i64 n) (.int .i64 d) 124
 generalize w.alloc (.cells #[.int .i64 n,.int .i64 d] 124)=W0 at *
 generalize hk:w.heap.size=k at *
 have HK:=Lib.hid hk;clear hk
 have HB:=Lib.hid hb;clear hb
 refine (C.out.1 _).mono ?_
 rintro e w1 ⟨rfl,b⟩
 have H1:=Lib.hid (HB.out.next b);clear b HB
 have c0:=H1.out.c0
 have c1:=H1.out.c1
 go_wp2_with fail
 refine (C.out.2.1 _).mono ?_
 rintro e w' ⟨rfl,rfl⟩
 have f0:=H1.out.f0
 have f1:=H1.out.f1
 go_wp2
 have H2:=Lib.hid (show Cell2 w k _ _ w1.drew from H1.out.next (Below.refl _ _).drew)
 clear H1
 have c0:=H2.out.c0
 have c1:=H2.out.c1
 have mt:=mth_opp
 have en1:∀ args W,(callFunc 263 args).run Tryz.prog W = .ok (.enter 263 args) W:=enters_of Tryz.func263 (by kernel_rfl) rfl
 go_still_tail 8,(by kernel_rfl)
 still_call (C.out.2.2.1 _)
 repeat still_step
 still_call (C.out.2.2.2.1 _)
 repeat still_step
 refine wpStill_nil ?_
 change wpList _ _ _ _ _ w1.drew
 clear c0 c1 f0 f1 mt en1
 generalize w1.drew=w1 at *
 have f0:=H2.out.f0
 have f1:=H2.out.f1
 have H1:=Lib.hid (H2.out.put2 (.int .i64 n') (.int .i64 d'))
 have c0:=H1.out.c0
 have c1:=H1.out.c1
 have d0:=H2.out.c0
 have d1:=H2.out.c1
 obtain ⟨g0,g1⟩:=two_back d0 d1 (.int .i64 n') (.int .i64 d')
 clear H2
 go_wp2_with fail
 clear f0 f1 d0 d1 g0 g1
 generalize (w1.setCell ⟨k,0,none⟩ (.int .i64 n')).setCell ⟨k,1,none⟩ (.int .i64 d')=w1 at *
 go_wp2_with fail
 refine (C.out.2.2.2.2.1 _ (by have:=H1.out.below;rwa [HK.out] at this)).mono ?_
 rintro e w' ⟨rfl,rfl⟩
 go_wp2_with fail
 refine (C.out.2.2.2.2.2.1 _).mono ?_
 rintro e w' ⟨rfl,rfl⟩
 have f0:=H1.out.f0
 have f1:=H1.out.f1
 go_wp2
 have H2:=Lib.hid (show Cell2 w k _ _ w1.drew from H1.out.next (Below.refl _ _).drew)
 clear H1
 have c0:=H2.out.c0
 have c1:=H2.out.c1
 have mt:=mth_over
 have en1:∀ args W,(callFunc 264 args).run Tryz.prog W = .ok (.enter 264 args) W:=enters_of Tryz.func264 (by kernel_rfl) rfl
 go_still_tail 10,(by kernel_rfl)
 still_call (C.out.2.2.2.2.2.2.1 _)
 repeat still_step
 still_call (C.out.2.2.2.2.2.2.2.1 _)
 repeat still_step
 refine wpStill_nil ?_
 change wpList _ _ _ _ _ w1.drew
 clear c0 c1 f0 f1 mt en1
 generalize w1.drew=w1 at *
 have f0:=H2.out.f0
 have f1:=H2.out.f1
 have H1:=Lib.hid (H2.out.put2 (.int .i64 (n'.tdiv g)) (.int .i64 (d'.tdiv g)))
 have c0:=H1.out.c0
 have c1:=H1.out.c1
 have d0:=H2.out.c0
 have d1:=H2.out.c1
 obtain ⟨g0,g1⟩:=two_back d0 d1 (.int .i64 (n'.tdiv g)) (.int .i64 (d'.tdiv g))
 clear H2
 go_wp2_with fail
 clear f0 f1 d0 d1 g0 g1
 generalize (w1.setCell ⟨k,0,none⟩ (.int .i64 (n'.tdiv g))).setCell ⟨k,1,none⟩ (.int .i64 (d'.tdiv g))=w1 at *
 go_wp2_with fail
 refine (C.out.2.2.2.2.2.2.2.2 _ (by have:=H1.out.below;rwa [HK.out] at this)).mono ?_
 rintro e w2 ⟨rfl,b⟩
 have H2:=Lib.hid (H1.out.below.trans (b.mono H1.out.below.size))
 clear b c0 c1
 go_wp2
 go_ret2
 exact ⟨rfl,by have:=H2.out;rwa [HK.out] at this ⊢⟩
def lowRE (n d:Int):Int:=if n=tooL∨d=tooL then 4 else 0
theorem lowestM_any (n d:Int) (w:World) (n0 : -9223372036854775808≤n) (n1:n≤9223372036854775807) (d0 : -9223372036854775808≤d) (d1:d≤9223372036854775807) (hd:d≠0) (ht:Tab w) (ht2:Tab64 w) :
  Calls Tryz.prog 114 #[.agg #[.int .i64 n,.int .i64 d]] w fun e W'=>e = .returned (.tuple #[.string (lowR n d),.int .i64 (lowRE n d)])∧Below w.heap.size w W':=by
 by_cases h:n=tooL∨d=tooL
 ·have c:=lowestM_bad n d w h
  unfold lowR lowRE
  rw [if_pos h,if_pos h];exact c
 ·unfold lowR lowRE
  rw [if_neg h,if_neg h]
  have hn : -9223372036854775808<n:=by
   have:n≠tooL:=fun e=>h (.inl e)
   unfold tooL at this;omega
  have hd2 : -9223372036854775808<d:=by
   have:d≠tooL:=fun e=>h (.inr e)
   unfold tooL at this;omega
  rcases Int.lt_or_gt_of_ne hd with hs | hs
  ·have hp:0 < -d:=by omega
   by_cases hg:gcdZ (-n) (-d)=1
   ·have c:=lowestM_n1 n d (-n) (-d) rfl rfl w hn n1 hd2 d1 hs hg ht ht2
    rwa [low_1 hp hg,Rat.neg_divInt_neg] at c
   ·have c:=lowestM_ng n d (-n) (-d) rfl rfl w hn n1 hd2 d1 hs hg ht ht2
    rwa [low_t hp,Rat.neg_divInt_neg] at c
  ·by_cases hg:gcdZ n d=1
   ·have c:=lowestM_p1 n d w hn n1 hd2 d1 hs hg ht ht2
    rwa [low_1 hs hg] at c
   ·have c:=lowestM_pg n d w hn n1 hd2 d1 hs hg ht ht2
    rwa [low_t hs] at c
end Go.Proofs.YteckjifdpcbaeaaGreatDoor
