/- Parts of the proof of the text YtjdomibbaemdnaaGreatDoorZK42. -/
import Derived.Test.YtjdomibbaemdnaaGreatDoorZK1
import Derived.Test.YtjdomibbaemdnaaGreatDoorZK18
import Derived.Test.YtjdomibbaemdnaaGreatDoorZK19
import Derived.Test.YtjdomibbaemdnaaGreatDoorZK21
set_option linter.all false
set_option maxRecDepth 100000
set_option maxHeartbeats 8000000
namespace Go.Proofs.YtjdomibbaemdnaaGreatDoor
open Go.RowKit
def rlN (s:ByteArray):ByteArray:=if aM s.data.toList=0 then bN s else ⟨#[]⟩
def rlD (s:ByteArray):ByteArray:=if aM s.data.toList=0 then bD s else ⟨#[]⟩
theorem gj {s:ByteArray} {r:Int} (h:aM s.data.toList=r) (hr:r≠0):rlN s=⟨#[]⟩∧rlD s=⟨#[]⟩∧aM s.data.toList=r :=
 ⟨if_neg (by rw [h];exact hr),if_neg (by rw [h];exact hr),h⟩
theorem po {s:ByteArray} (h:aM s.data.toList=0):rlN s=bN s∧rlD s=bD s:=⟨if_pos h,if_pos h⟩
theorem jd (s:ByteArray) (l:List UInt8):(s.toList==l)=(s.data.toList==l):=by rw [ByteArray.toList_eq]
theorem bc {a b:Int} (h:a≠b):(a==b)=false∧(a != b)=true:=by
 constructor
 ·rw [beq_eq_false_iff_ne];exact h
 ·rw [bne_iff_ne];exact h
theorem tJ {s:ByteArray} (h:chk s.data.toList=0):s=aa (valOf s.data.toList):=aY (by rw [ay,cZ _ h])
theorem oF {l:List UInt8} (h:chk l=0):short (valOf l):=by
 have h1:=fC (valOf l)
 rw [cZ _ h,h] at h1
 show Int.natAbs _<lim
 by_cases q:(valOf l).natAbs<lim
 ·exact q
 ·rw [if_neg q] at h1;cases h1
theorem j4 (s:ByteArray) (w:World) (hs:s.size≤maxLen) (ht:Tab w) :
  Calls Tryz.prog 106 #[.string s] w fun e W'=>e = .returned (.tuple #[.agg #[.string (rlN s),.int .i64 0,.string (rlD s),.int .i64 0],.int .i64 (aM s.data.toList)])∧Below w.heap.size w W':=by
 have hm1:1≤maxLen:=by unfold maxLen;omega
 have hD:(bD s).size≤maxLen:=by
  by_cases h0:0<s.size
  ·exact Nat.le_trans (pg s h0) hs
  ·have h1:=dO (s:=s) (by omega)
   rw [←ac,cM,h1];exact hm1
 have kc:=fun W (_:Below w.heap.size w W)=>jX s W hs
 have k1:CqB w 150 #[.string (bN s)] (.int .i64 (chk (bj s.data.toList))):=fun W _=>by
  have c:=dV (bN s) W (Nat.le_trans (jW s) hs)
  rw [dE] at c
  exact c.mono fun e W' h=>⟨h.1,by rw [←h.2];exact Below.refl _ _⟩
 have k2:CqB w 150 #[.string (bD s)] (.int .i64 (chk (aH s.data.toList))):=fun W _=>by
  have c:=dV (bD s) W hD
  rw [cM] at c
  exact c.mono fun e W' h=>⟨h.1,by rw [←h.2];exact Below.refl _ _⟩
 by_cases e1:chk (bj s.data.toList)=11
 ·have hq:aM s.data.toList=11:=by
   unfold aM
   rw [if_pos]
   unfold cX;rw [e1];rfl
  obtain ⟨q1,q2,q3⟩:=gj hq (by decide)
  rw [e1] at k1
  rw [q1,q2,q3]
  exact BK s (bN s) (bD s) _ _ w kc k1 k2
 have n1:=bc e1
 by_cases e2:chk (aH s.data.toList)=11
 ·have hq:aM s.data.toList=11:=by
   unfold aM
   rw [if_pos]
   unfold cX;rw [e2];simp
  obtain ⟨q1,q2,q3⟩:=gj hq (by decide)
  rw [e2] at k2
  rw [q1,q2,q3]
  exact BM s (bN s) (bD s) _ _ w n1.1 n1.2 kc k1 k2
 have n2:=bc e2
 have hp:0<(bD s).size:=by
  rcases Nat.eq_zero_or_pos (bD s).size with h | h
  ·exfalso;apply e2
   rw [←cM,dO h];decide
  ·exact h
 have hp':(0:Int)<(bD s).size:=by omega
 have hng:=bF hp
 rw [cM] at hng
 by_cases hn1:ap (aH s.data.toList)=true
 ·have hn:=hn1
  have hq:aM s.data.toList=11:=by
   unfold aM
   rw [if_pos]
   unfold cX;rw [hn];simp
  obtain ⟨q1,q2,q3⟩:=gj hq (by decide)
  rw [q1,q2,q3]
  exact BN s (bN s) (bD s) _ _ _ w n1.1 n1.2 n2.1 n2.2 hp hp' (hng.trans hn) (by rw [bne,hng.trans hn];rfl) kc k1 k2
 have hn:ap (aH s.data.toList)=false:=by simpa using hn1
 have hm:=hng.trans hn
 have hm':(((bD s)[0].toNat:Int) != 45)=true:=by rw [bne,hm];rfl
 by_cases e0:aH s.data.toList = [48]
 ·have hq:aM s.data.toList=11:=by
   unfold aM
   rw [if_pos]
   unfold cX;rw [e0];simp
  obtain ⟨q1,q2,q3⟩:=gj hq (by decide)
  rw [q1,q2,q3]
  have z:((bD s).toList == [48])=true:=by rw [jd,cM,e0];rfl
  exact BP s (bN s) (bD s) _ _ _ w n1.1 n1.2 n2.1 n2.2 hp hp' hm hm' z (by rw [bne,z];rfl) kc k1 k2
 have z0:((bD s).toList == [48])=false:=by rw [jd,cM,beq_eq_false_iff_ne];exact e0
 have z0':((bD s).toList != [48])=true:=by rw [bne,z0];rfl
 cases hf:bI s.data.toList
 ·rw [hf] at kc
  have hform:cX s.data.toList=true:=by
   unfold cX;rw [hf,hn];simp [e1,e2,e0]
  by_cases b1:chk (bj s.data.toList)=0
  ·by_cases b2:chk (aH s.data.toList)=0
   ·have hd:aH s.data.toList = [49]:=by unfold aH;rw [hf];rfl
    have hq:aM s.data.toList=0:=by
     unfold aM
     rw [hform,if_neg (by decide),if_neg (by rw [b1,b2];simp),if_pos (by rw [hd,kV,Nat.gcd_one_right])]
    obtain ⟨q1,q2⟩:=po hq
    rw [q1,q2,hq]
    rw [b1] at k1
    rw [b2] at k2
    exact A4 s (bN s) (bD s) w hp hp' hm hm' z0 z0' kc k1 k2
   ·have hq:aM s.data.toList=4:=by
     unfold aM
     rw [hform,if_neg (by decide),if_pos (.inr b2)]
    obtain ⟨q1,q2,q3⟩:=gj hq (by decide)
    rw [q1,q2,q3]
    rw [b1] at k1
    have m2:=bc b2
    exact A6 s (bN s) (bD s) _ w n2.1 n2.2 hp hp' hm hm' z0 z0' m2.1 m2.2 kc k1 k2
  ·have hq:aM s.data.toList=4:=by
    unfold aM
    rw [hform,if_neg (by decide),if_pos (.inl b1)]
   obtain ⟨q1,q2,q3⟩:=gj hq (by decide)
   rw [q1,q2,q3]
   have m1:=bc b1
   exact A3 s (bN s) (bD s) _ _ w n1.1 n1.2 n2.1 n2.2 hp hp' hm hm' z0 z0' m1.1 m1.2 kc k1 k2
 ·rw [hf] at kc
  by_cases e9:aH s.data.toList = [49]
  ·have hq:aM s.data.toList=11:=by
    unfold aM
    rw [if_pos]
    unfold cX;rw [hf,e9];simp
   obtain ⟨q1,q2,q3⟩:=gj hq (by decide)
   rw [q1,q2,q3]
   exact BL s (bN s) (bD s) _ _ w n1.1 n1.2 n2.1 n2.2 hp hp' hm hm' z0 z0' (by rw [jd,cM,e9];rfl) kc k1 k2
  have z1:((bD s).toList == [49])=false:=by rw [jd,cM,beq_eq_false_iff_ne];exact e9
  have hform:cX s.data.toList=true:=by
   unfold cX;rw [hf,hn];simp [e1,e2,e0,e9]
  by_cases b1:chk (bj s.data.toList)=0
  ·by_cases b2:chk (aH s.data.toList)=0
   ·rw [b1] at k1
    rw [b2] at k2
    have s1:=tJ (s:=bN s) (by rw [dE];exact b1)
    have s2:=tJ (s:=bD s) (by rw [cM];exact b2)
    rw [dE] at s1
    rw [cM] at s2
    have hnat:=gv hn
    have kd:CqB w 151 #[.agg #[.string (bN s),.int .i64 0],.agg #[.string (bD s),.int .i64 0]] (.agg #[.string (aa (aE (valOf (bj s.data.toList)) (valOf (aH s.data.toList)))),.int .i64 0]):=fun W hW=>by
     rw [s1,s2]
     exact ld _ _ W (oF b1) (oF b2) (ht.next hW)
    have ko:=fun W (_:Below w.heap.size w W)=>jV (aE (valOf (bj s.data.toList)) (valOf (aH s.data.toList))) W
    by_cases g1:aE (valOf (bj s.data.toList)) (valOf (aH s.data.toList))=1
    ·have hq:aM s.data.toList=0:=by
      unfold aM
      rw [hform,if_neg (by decide),if_neg (by rw [b1,b2];simp),if_pos]
      unfold aE at g1
      rw [←hnat,Int.natAbs_natCast] at g1
      exact Int.ofNat.inj g1
     obtain ⟨q1,q2⟩:=po hq
     rw [q1,q2,hq]
     rw [decide_eq_true g1] at ko
     exact zR s (bN s) (bD s) _ w hp hp' hm hm' z0 z0' z1 kc k1 k2 kd ko
    ·have hq:aM s.data.toList=11:=by
      unfold aM
      rw [hform,if_neg (by decide),if_neg (by rw [b1,b2];simp),if_neg]
      intro h
      apply g1
      unfold aE
      rw [←hnat,Int.natAbs_natCast,h];rfl
     obtain ⟨q1,q2,q3⟩:=gj hq (by decide)
     rw [q1,q2,q3]
     rw [decide_eq_false g1] at ko
     exact BO s (bN s) (bD s) _ w hp hp' hm hm' z0 z0' z1 kc k1 k2 kd ko
   ·have hq:aM s.data.toList=4:=by
     unfold aM
     rw [hform,if_neg (by decide),if_pos (.inr b2)]
    obtain ⟨q1,q2,q3⟩:=gj hq (by decide)
    rw [q1,q2,q3]
    rw [b1] at k1
    have m2:=bc b2
    exact A2 s (bN s) (bD s) _ w n2.1 n2.2 hp hp' hm hm' z0 z0' z1 m2.1 m2.2 kc k1 k2
  ·have hq:aM s.data.toList=4:=by
    unfold aM
    rw [hform,if_neg (by decide),if_pos (.inl b1)]
   obtain ⟨q1,q2,q3⟩:=gj hq (by decide)
   rw [q1,q2,q3]
   have m1:=bc b1
   exact A5 s (bN s) (bD s) _ _ w n1.1 n1.2 n2.1 n2.2 hp hp' hm hm' z0 z0' z1 m1.1 m1.2 kc k1 k2
theorem lf (a b:ByteArray) (w:World) (ha:a.size≤maxLen) (hb:b.size≤maxLen) (oa:mOK a.data.toList=true) (ob:mOK b.data.toList=true) (ht:aW w) :
  Calls Tryz.prog 127 #[.string a,.string b] w fun e W'=>e = .returned (.tuple #[.agg #[.int .i64 (valOf (bj a.data.toList)),.int .i64 (valOf (aH a.data.toList))],.agg #[.int .i64 (valOf (bj b.data.toList)),.int .i64 (valOf (aH b.data.toList))],.bool true])∧Below w.heap.size w W':=by
 have c:=gD a b _ _ true (fun z u=>z=valOf (bj b.data.toList)∧u=valOf (aH b.data.toList)) w (fun W hW=>dP a W ha oa (ai ht hW))
  (fun W hW=>(dP b W hb ob (ai ht hW)).mono fun e W' h=>⟨⟨_,_,⟨rfl,rfl⟩,h.1⟩,h.2⟩)
 refine c.mono ?_
 rintro e W' ⟨⟨z,u,⟨rfl,rfl⟩,he⟩,hB⟩
 exact ⟨he,hB⟩
theorem mc (a b:ByteArray) (w:World) (ha:a.size≤maxLen) (hb:b.size≤maxLen) (h:¬ (mOK a.data.toList=true∧mOK b.data.toList=true)) (ht:aW w) :
  Calls Tryz.prog 127 #[.string a,.string b] w fun e W'=>(∃ x y z u,e = .returned (.tuple #[.agg #[.int .i64 x,.int .i64 y],.agg #[.int .i64 z,.int .i64 u],.bool false]))∧Below w.heap.size w W':=by
 cases oa:mOK a.data.toList
 ·exact k8 a b w (fun W hW=>fH a W ha oa (ai ht hW))
 ·have ob:mOK b.data.toList=false:=by
   cases ob:mOK b.data.toList
   ·rfl
   ·exact absurd ⟨oa,ob⟩ h
  have c:=gD a b _ _ false (fun _ _=>True) w (fun W hW=>dP a W ha oa (ai ht hW))
   (fun W hW=>(fH b W hb ob (ai ht hW)).mono fun e W' ⟨⟨x,y,he⟩,hB⟩=>⟨⟨x,y,trivial,he⟩,hB⟩)
  exact c.mono fun e W' ⟨⟨z,u,_,he⟩,hB⟩=>⟨⟨_,_,z,u,he⟩,hB⟩
theorem lO (s:ByteArray) (x y:Int) (r:Int) (n d:ByteArray) (o:Bool) (w:World) (h1:o=true→r=0)
  (hm:∀ W,Below w.heap.size w W→Calls Tryz.prog 105 #[.string s] W fun e W'=>(∃ x y,e = .returned (.tuple #[.agg #[.int .i64 x,.int .i64 y],.bool o]))∧Below W.heap.size W W')
  (hl:CqB w 106 #[.string s] (.tuple #[.agg #[.string n,.int .i64 0,.string d,.int .i64 0],.int .i64 r])) :
  Calls Tryz.prog 54 #[.string s] w fun e W'=>e = .returned (.int .i64 r)∧Below w.heap.size w W':=by
 have C:=Ha (Hb hm hl);clear hm hl
 cases o
 ·clear h1
  go_enter Tryz.func54,Tryz.ntmps54
  go_wp2_with fail
  refine (C.out.1 _ (Below.refl _ _)).mono ?_
  rintro e w1 ⟨⟨x,y,rfl⟩,b⟩
  go_wp2_with fail
  have H1:=Ha (b.alloc b.size (.cells #[.int .i64 x,.int .i64 y] 136));clear b
  generalize w1.alloc (.cells #[.int .i64 x,.int .i64 y] 136)=w2 at *
  refine (C.out.2 _ H1.out).mono ?_
  rintro e w3 ⟨rfl,b⟩
  have H2:=Ha ((H1.out.trans (b.mono H1.out.size)).alloc (Nat.le_trans H1.out.size b.size) (.cells #[.string n,.int .i64 0,.string d,.int .i64 0] 140));clear b H1
  go_wp2
  go_ret
  exact ⟨rfl,H2.out⟩
 ·have hr:=h1 rfl
  subst hr
  go_enter Tryz.func54,Tryz.ntmps54
  go_wp2_with fail
  refine (C.out.1 _ (Below.refl _ _)).mono ?_
  rintro e w1 ⟨⟨x,y,rfl⟩,b⟩
  have H1:=Ha (b.alloc b.size (.cells #[.int .i64 x,.int .i64 y] 136));clear b
  go_wp2
  go_ret
  exact ⟨rfl,H1.out⟩
theorem jD (s:ByteArray) (w:World) (hs:s.size≤maxLen) (ht:Tab w) (ht2:aW w) :
  Calls Tryz.prog 54 #[.string s] w fun e W'=>e = .returned (.int .i64 (aM s.data.toList))∧Below w.heap.size w W':=by
 have kl:=fun W (hW:Below w.heap.size w W)=>j4 s W hs (ht.next hW)
 cases o:mOK s.data.toList
 ·exact lO s 0 0 _ _ _ false w (fun h=>by cases h) (fun W hW=>fH s W hs o (ai ht2 hW)) kl
 ·exact lO s 0 0 _ _ _ true w (fun _=>(tH o).1) (fun W hW=>(dP s W hs o (ai ht2 hW)).mono fun e W' h=>⟨⟨_,_,h.1⟩,h.2⟩) kl
def paN (s:ByteArray):ByteArray:=if aM s.data.toList=0 then bN s else ⟨#[]⟩
def paD (s:ByteArray):ByteArray:=if aM s.data.toList=0 then bD s else ⟨#[]⟩
theorem mkf:∀ (fn:Fn) (first cap:Array Value) (w:World),(Instr.makeFunc fn first cap).run Tryz.prog w = .ok (.func fn first cap) w:=fun _ _ _ _=>rfl
theorem lP (kr:FuncId) (w:World) :
  Calls Tryz.prog 72 #[.func (.func kr) #[] #[]] w fun e W'=>e = .returned (.func (.func 128) #[] #[.pointer (some ⟨w.heap.size,0,none⟩)])∧Blk W' w.heap.size #[.func (.func kr) #[] #[]]∧Below w.heap.size w W':=by
 have hmf:=mkf
 go_enter Tryz.func72,Tryz.ntmps72
 go_wp2
 go_ret
 exact ⟨rfl,Blk.new w _ _,(Below.refl _ w).alloc (Nat.le_refl _) _⟩
theorem lQ (kr:FuncId) (w:World) :
  Calls Tryz.prog 74 #[.func (.func kr) #[] #[]] w fun e W'=>e = .returned (.func (.func 130) #[] #[.pointer (some ⟨w.heap.size,0,none⟩)])∧Blk W' w.heap.size #[.func (.func kr) #[] #[]]∧Below w.heap.size w W':=by
 have hmf:=mkf
 go_enter Tryz.func74,Tryz.ntmps74
 go_wp2
 go_ret
 exact ⟨rfl,Blk.new w _ _,(Below.refl _ w).alloc (Nat.le_refl _) _⟩
theorem oG (kr:FuncId) (p:Nat) (a b c d n m:Int) (r:ByteArray) (x:Int) (w:World) (eg:∀ args W,(callFunc kr args).run Tryz.prog W = .ok (.enter kr args) W) (hb:Blk w p #[.func (.func kr) #[] #[]])
  (hr:CqB w kr #[.agg #[.int .i64 a,.int .i64 b],.agg #[.int .i64 c,.int .i64 d]] (.agg #[.int .i64 n,.int .i64 m]))
  (hl:CqB w 129 #[.agg #[.int .i64 n,.int .i64 m]] (.tuple #[.string r,.int .i64 x])) :
  Calls Tryz.prog 128 #[.agg #[.int .i64 a,.int .i64 b],.agg #[.int .i64 c,.int .i64 d],.pointer (some ⟨p,0,none⟩)] w fun e W'=>e = .returned (.tuple #[.string r,.int .i64 x])∧Below w.heap.size w W':=by
 have cp:((w.alloc (.cells #[.int .i64 a,.int .i64 b] 136)).alloc (.cells #[.int .i64 c,.int .i64 d] 136)).cell? ⟨p,0,none⟩=some (.func (.func kr) #[] #[]):=((hb.alloc _).alloc _).cell 0 _ rfl
 have hB:Below w.heap.size w ((w.alloc (.cells #[.int .i64 a,.int .i64 b] 136)).alloc (.cells #[.int .i64 c,.int .i64 d] 136)):=((Below.refl _ w).alloc (Nat.le_refl _) _).alloc (by simp) _
 have C:=Ha (Hb hr hl)
 clear hr hl hb
 go_enter Tryz.func128,Tryz.ntmps128
 go_wp2_with fail
 generalize (w.alloc (.cells #[.int .i64 a,.int .i64 b] 136)).alloc (.cells #[.int .i64 c,.int .i64 d] 136)=W0 at *
 have HB:=Ha hB;clear hB cp
 refine (C.out.1 _ HB.out).mono ?_
 rintro e w1 ⟨rfl,b⟩
 have H1:=Ha (HB.out.trans (b.mono HB.out.size));clear b HB
 go_wp2_with fail
 refine (C.out.2 _ H1.out).mono ?_
 rintro e w2 ⟨rfl,b⟩
 have H2:=Ha (H1.out.trans (b.mono H1.out.size));clear b H1
 go_wp2
 go_ret2
 exact ⟨rfl,H2.out⟩
theorem oH (kr:FuncId) (p:Nat) (a b c d n m:ByteArray) (a' b' c' d' n' m':Int) (r:ByteArray) (x:Int) (w:World) (eg:∀ args W,(callFunc kr args).run Tryz.prog W = .ok (.enter kr args) W) (hb:Blk w p #[.func (.func kr) #[] #[]])
  (hr:CqB w kr #[.agg #[.string a,.int .i64 a',.string b,.int .i64 b'],.agg #[.string c,.int .i64 c',.string d,.int .i64 d']] (.agg #[.string n,.int .i64 n',.string m,.int .i64 m']))
  (hl:CqB w 131 #[.agg #[.string n,.int .i64 n',.string m,.int .i64 m']] (.tuple #[.string r,.int .i64 x])) :
  Calls Tryz.prog 130 #[.agg #[.string a,.int .i64 a',.string b,.int .i64 b'],.agg #[.string c,.int .i64 c',.string d,.int .i64 d'],.pointer (some ⟨p,0,none⟩)] w fun e W'=>e = .returned (.tuple #[.string r,.int .i64 x])∧Below w.heap.size w W':=by
 have cp:((w.alloc (.cells #[.string a,.int .i64 a',.string b,.int .i64 b'] 140)).alloc (.cells #[.string c,.int .i64 c',.string d,.int .i64 d'] 140)).cell? ⟨p,0,none⟩=some (.func (.func kr) #[] #[]):=((hb.alloc _).alloc _).cell 0 _ rfl
 have hB:Below w.heap.size w ((w.alloc (.cells #[.string a,.int .i64 a',.string b,.int .i64 b'] 140)).alloc (.cells #[.string c,.int .i64 c',.string d,.int .i64 d'] 140)):=((Below.refl _ w).alloc (Nat.le_refl _) _).alloc (by simp) _
 have C:=Ha (Hb hr hl)
 clear hr hl hb
 go_enter Tryz.func130,Tryz.ntmps130
 go_wp2_with fail
 generalize (w.alloc (.cells #[.string a,.int .i64 a',.string b,.int .i64 b'] 140)).alloc (.cells #[.string c,.int .i64 c',.string d,.int .i64 d'] 140)=W0 at *
 have HB:=Ha hB;clear hB cp
 refine (C.out.1 _ HB.out).mono ?_
 rintro e w1 ⟨rfl,b⟩
 have H1:=Ha (HB.out.trans (b.mono HB.out.size));clear b HB
 go_wp2_with fail
 refine (C.out.2 _ H1.out).mono ?_
 rintro e w2 ⟨rfl,b⟩
 have H2:=Ha (H1.out.trans (b.mono H1.out.size));clear b H1
 go_wp2
 go_ret2
 exact ⟨rfl,H2.out⟩
theorem mS (ks kl:FuncId) (p q:Nat) (a b:ByteArray) (x0 x1 y0 y1:Int) (r:ByteArray) (w:World)
  (hm:CqB w 127 #[.string a,.string b] (.tuple #[.agg #[.int .i64 x0,.int .i64 x1],.agg #[.int .i64 y0,.int .i64 y1],.bool true]))
  (es:∀ args W,(callFunc ks args).run Tryz.prog W = .ok (.enter ks args) W)
  (hs:CqB w ks #[.agg #[.int .i64 x0,.int .i64 x1],.agg #[.int .i64 y0,.int .i64 y1],.pointer (some ⟨p,0,none⟩)] (.tuple #[.string r,.int .i64 0])) :
  Calls Tryz.prog 71 #[.string a,.string b,(.func (.func ks) #[] #[.pointer (some ⟨p,0,none⟩)]),(.func (.func kl) #[] #[.pointer (some ⟨q,0,none⟩)])] w fun e W'=>e = .returned (.tuple #[.string r,.int .i64 0])∧Below w.heap.size w W':=by
 have C:=Ha ((Hb hm (Hb hs trivial)));clear hm hs
 go_enter Tryz.func71,Tryz.ntmps71
 go_wp2_with fail
 refine (C.out.1 _ (Below.refl _ _)).mono ?_
 rintro e w1 ⟨rfl,b⟩
 have q0:=(Blk.new w1 #[.int .i64 x0,.int .i64 x1] 136).alloc (.cells #[.int .i64 y0,.int .i64 y1] 136)
 have q1:=Blk.new (w1.alloc (.cells #[.int .i64 x0,.int .i64 x1] 136)) #[.int .i64 y0,.int .i64 y1] 136
 rw [World.size_alloc] at q1
 have c0:=q0.cell 0 (.int .i64 x0) rfl
 have c1:=q0.cell 1 (.int .i64 x1) rfl
 have c2:=q1.cell 0 (.int .i64 y0) rfl
 have c3:=q1.cell 1 (.int .i64 y1) rfl
 have hB:=(b.alloc b.size (.cells #[.int .i64 x0,.int .i64 x1] 136)).alloc (by have:=b.size;simp;omega) (.cells #[.int .i64 y0,.int .i64 y1] 136)
 clear q0 q1
 go_wp2_with fail
 generalize (w1.alloc (.cells #[.int .i64 x0,.int .i64 x1] 136)).alloc (.cells #[.int .i64 y0,.int .i64 y1] 136)=w2 at *
 have H2:=Ha hB;clear hB b c0 c1 c2 c3
 refine (C.out.2.1 _ H2.out).mono ?_
 rintro e w3 ⟨rfl,b⟩
 have H3:=Ha (H2.out.trans (b.mono H2.out.size));clear b H2
 go_wp2
 go_ret2
 exact ⟨rfl,H3.out⟩
theorem om (ks kl:FuncId) (p q:Nat) (a b:ByteArray) (x0 x1 y0 y1:Int) (n d m f:ByteArray) (r' r:ByteArray) (e' e0:Int) (w:World) (n1:(e'==0)=false) (n2:(e' != 0)=true)
  (hm:CqB w 127 #[.string a,.string b] (.tuple #[.agg #[.int .i64 x0,.int .i64 x1],.agg #[.int .i64 y0,.int .i64 y1],.bool true]))
  (es:∀ args W,(callFunc ks args).run Tryz.prog W = .ok (.enter ks args) W)
  (hs:CqB w ks #[.agg #[.int .i64 x0,.int .i64 x1],.agg #[.int .i64 y0,.int .i64 y1],.pointer (some ⟨p,0,none⟩)] (.tuple #[.string r',.int .i64 e']))
  (hra:CqB w 106 #[.string a] (.tuple #[.agg #[.string n,.int .i64 0,.string d,.int .i64 0],.int .i64 0]))
  (hrb:CqB w 106 #[.string b] (.tuple #[.agg #[.string m,.int .i64 0,.string f,.int .i64 0],.int .i64 0]))
  (el:∀ args W,(callFunc kl args).run Tryz.prog W = .ok (.enter kl args) W)
  (hl:CqB w kl #[.agg #[.string n,.int .i64 0,.string d,.int .i64 0],.agg #[.string m,.int .i64 0,.string f,.int .i64 0],.pointer (some ⟨q,0,none⟩)] (.tuple #[.string r,.int .i64 e0])) :
  Calls Tryz.prog 71 #[.string a,.string b,(.func (.func ks) #[] #[.pointer (some ⟨p,0,none⟩)]),(.func (.func kl) #[] #[.pointer (some ⟨q,0,none⟩)])] w fun e W'=>e = .returned (.tuple #[.string r,.int .i64 e0])∧Below w.heap.size w W':=by
 have C:=Ha ((Hb hm (Hb hs (Hb hra (Hb hrb hl)))));clear hm hs hra hrb hl
 go_enter Tryz.func71,Tryz.ntmps71
 go_wp2_with fail
 refine (C.out.1 _ (Below.refl _ _)).mono ?_
 rintro e w1 ⟨rfl,b⟩
 have q0:=(Blk.new w1 #[.int .i64 x0,.int .i64 x1] 136).alloc (.cells #[.int .i64 y0,.int .i64 y1] 136)
 have q1:=Blk.new (w1.alloc (.cells #[.int .i64 x0,.int .i64 x1] 136)) #[.int .i64 y0,.int .i64 y1] 136
 rw [World.size_alloc] at q1
 have c0:=q0.cell 0 (.int .i64 x0) rfl
 have c1:=q0.cell 1 (.int .i64 x1) rfl
 have c2:=q1.cell 0 (.int .i64 y0) rfl
 have c3:=q1.cell 1 (.int .i64 y1) rfl
 have hB:=(b.alloc b.size (.cells #[.int .i64 x0,.int .i64 x1] 136)).alloc (by have:=b.size;simp;omega) (.cells #[.int .i64 y0,.int .i64 y1] 136)
 clear q0 q1
 go_wp2_with fail
 generalize (w1.alloc (.cells #[.int .i64 x0,.int .i64 x1] 136)).alloc (.cells #[.int .i64 y0,.int .i64 y1] 136)=w2 at *
 have H2:=Ha hB;clear hB b c0 c1 c2 c3
 refine (C.out.2.1 _ H2.out).mono ?_
 rintro e w3 ⟨rfl,b⟩
 have H3:=Ha (H2.out.trans (b.mono H2.out.size));clear b H2
 go_wp2_with fail
 refine (C.out.2.2.1 _ H3.out).mono ?_
 rintro e w4 ⟨rfl,b⟩
 have H4:=Ha (H3.out.trans (b.mono H3.out.size));clear b H3
 go_wp2_with fail
 have q0:=Blk.new w4 #[.string n,.int .i64 0,.string d,.int .i64 0] 140
 have hB:=H4.out.alloc H4.out.size (.cells #[.string n,.int .i64 0,.string d,.int .i64 0] 140)
 generalize w4.alloc (.cells #[.string n,.int .i64 0,.string d,.int .i64 0] 140)=w5 at *
 generalize w4.heap.size=j at *
 have H5:=Ha (Hb hB q0);clear hB q0 H4
 refine (C.out.2.2.2.1 _ H5.out.1).mono ?_
 rintro e w6 ⟨rfl,b⟩
 have q0:=(H5.out.2.next b).alloc (.cells #[.string m,.int .i64 0,.string f,.int .i64 0] 140)
 have q1:=Blk.new w6 #[.string m,.int .i64 0,.string f,.int .i64 0] 140
 have hB:=(H5.out.1.trans (b.mono H5.out.1.size)).alloc (Nat.le_trans H5.out.1.size b.size) (.cells #[.string m,.int .i64 0,.string f,.int .i64 0] 140)
 have c0:=q0.cell 0 (.string n) rfl
 have c1:=q0.cell 1 (.int .i64 0) rfl
 have c2:=q0.cell 2 (.string d) rfl
 have c3:=q0.cell 3 (.int .i64 0) rfl
 have c4:=q1.cell 0 (.string m) rfl
 have c5:=q1.cell 1 (.int .i64 0) rfl
 have c6:=q1.cell 2 (.string f) rfl
 have c7:=q1.cell 3 (.int .i64 0) rfl
 clear b H5 q0 q1
 go_wp2_with fail
 generalize w6.alloc (.cells #[.string m,.int .i64 0,.string f,.int .i64 0] 140)=w7 at *
 have H7:=Ha hB;clear hB c0 c1 c2 c3 c4 c5 c6 c7
 refine (C.out.2.2.2.2 _ H7.out).mono ?_
 rintro e w8 ⟨rfl,b⟩
 have H8:=Ha (H7.out.trans (b.mono H7.out.size));clear b H7
 go_wp2
 go_ret2
 exact ⟨rfl,H8.out⟩
theorem oo (ks kl:FuncId) (p q:Nat) (a b:ByteArray) (n d m f:ByteArray) (r:ByteArray) (e0:Int) (w:World)
  (hm:∀ W,Below w.heap.size w W→Calls Tryz.prog 127 #[.string a,.string b] W fun e W'=>(∃ x y z u,e = .returned (.tuple #[.agg #[.int .i64 x,.int .i64 y],.agg #[.int .i64 z,.int .i64 u],.bool false]))∧Below W.heap.size W W')
  (hra:CqB w 106 #[.string a] (.tuple #[.agg #[.string n,.int .i64 0,.string d,.int .i64 0],.int .i64 0]))
  (hrb:CqB w 106 #[.string b] (.tuple #[.agg #[.string m,.int .i64 0,.string f,.int .i64 0],.int .i64 0]))
  (el:∀ args W,(callFunc kl args).run Tryz.prog W = .ok (.enter kl args) W)
  (hl:CqB w kl #[.agg #[.string n,.int .i64 0,.string d,.int .i64 0],.agg #[.string m,.int .i64 0,.string f,.int .i64 0],.pointer (some ⟨q,0,none⟩)] (.tuple #[.string r,.int .i64 e0])) :
  Calls Tryz.prog 71 #[.string a,.string b,(.func (.func ks) #[] #[.pointer (some ⟨p,0,none⟩)]),(.func (.func kl) #[] #[.pointer (some ⟨q,0,none⟩)])] w fun e W'=>e = .returned (.tuple #[.string r,.int .i64 e0])∧Below w.heap.size w W':=by
 have C:=Ha ((Hb hm (Hb hra (Hb hrb hl))));clear hm hra hrb hl
 go_enter Tryz.func71,Tryz.ntmps71
 go_wp2_with fail
 refine (C.out.1 _ (Below.refl _ _)).mono ?_
 rintro e w1 ⟨⟨x,y,z,u,rfl⟩,b⟩
 go_wp2_with fail
 have H3:=Ha ((b.alloc b.size (.cells #[.int .i64 x,.int .i64 y] 136)).alloc (by have:=b.size;simp;omega) (.cells #[.int .i64 z,.int .i64 u] 136));clear b
 generalize (w1.alloc (.cells #[.int .i64 x,.int .i64 y] 136)).alloc (.cells #[.int .i64 z,.int .i64 u] 136)=w3 at *
 go_wp2_with fail
 refine (C.out.2.1 _ H3.out).mono ?_
 rintro e w4 ⟨rfl,b⟩
 have H4:=Ha (H3.out.trans (b.mono H3.out.size));clear b H3
 go_wp2_with fail
 have q0:=Blk.new w4 #[.string n,.int .i64 0,.string d,.int .i64 0] 140
 have hB:=H4.out.alloc H4.out.size (.cells #[.string n,.int .i64 0,.string d,.int .i64 0] 140)
 generalize w4.alloc (.cells #[.string n,.int .i64 0,.string d,.int .i64 0] 140)=w5 at *
 generalize w4.heap.size=j at *
 have H5:=Ha (Hb hB q0);clear hB q0 H4
 refine (C.out.2.2.1 _ H5.out.1).mono ?_
 rintro e w6 ⟨rfl,b⟩
 have q0:=(H5.out.2.next b).alloc (.cells #[.string m,.int .i64 0,.string f,.int .i64 0] 140)
 have q1:=Blk.new w6 #[.string m,.int .i64 0,.string f,.int .i64 0] 140
 have hB:=(H5.out.1.trans (b.mono H5.out.1.size)).alloc (Nat.le_trans H5.out.1.size b.size) (.cells #[.string m,.int .i64 0,.string f,.int .i64 0] 140)
 have c0:=q0.cell 0 (.string n) rfl
 have c1:=q0.cell 1 (.int .i64 0) rfl
 have c2:=q0.cell 2 (.string d) rfl
 have c3:=q0.cell 3 (.int .i64 0) rfl
 have c4:=q1.cell 0 (.string m) rfl
 have c5:=q1.cell 1 (.int .i64 0) rfl
 have c6:=q1.cell 2 (.string f) rfl
 have c7:=q1.cell 3 (.int .i64 0) rfl
 clear b H5 q0 q1
 go_wp2_with fail
 generalize w6.alloc (.cells #[.string m,.int .i64 0,.string f,.int .i64 0] 140)=w7 at *
 have H7:=Ha hB;clear hB c0 c1 c2 c3 c4 c5 c6 c7
 refine (C.out.2.2.2 _ H7.out).mono ?_
 rintro e w8 ⟨rfl,b⟩
 have H8:=Ha (H7.out.trans (b.mono H7.out.size));clear b H7
 go_wp2
 go_ret2
 exact ⟨rfl,H8.out⟩
theorem so (n d n' d':Int) (en : -n=n') (ed : -d=d') (w:World) (n0 : -9223372036854775808<n) (n1:n≤9223372036854775807) (d0 : -9223372036854775808<d) (d1:d≤9223372036854775807) (hd:d<0) (hg:aE n' d'=1) (ht:Tab w) (ht2:aW w) :
  Calls Tryz.prog 129 #[.agg #[.int .i64 n,.int .i64 d]] w fun e W'=>e = .returned (.tuple #[.string (dc n' d'),.int .i64 0])∧Below w.heap.size w W':=by
 have cf:=fun W=>iE n d W
 rw [if_neg (show ¬ (n=bE∨d=bE) by unfold bE;omega)] at cf
 have cn:=fun W=>kP d W
 rw [decide_eq_true hd] at cn
 have co1:=fun W=>still (eV n W n0 n1)
 have co2:=fun W=>still (eV d W d0 d1)
 rw [en] at co1
 rw [ed] at co2
 have cg:=fun W (hW:Below w.heap.size w W)=>dT n' d' W (by omega) (by omega) (by omega) (by omega) (ai ht2 hW)
 have c1:=fun W=>iU (aE n' d') W
 rw [show (aE n' d'==1)=true by simpa using hg] at c1
 have cv1:=trivial
 have cv2:=trivial
 have ct:=fun W (hW:Below w.heap.size w W)=>jb n' d' W (by omega) (by omega) (by omega) (by omega) (ht.next hW)
 have C:=Ha (Hb cf (Hb cn (Hb co1 (Hb co2 (Hb cg (Hb c1 (Hb cv1 (Hb cv2 ct))))))))
 clear en ed cf cn co1 co2 cg c1 cv1 cv2 ct ht ht2 n0 n1 d0 d1 hd hg
 rw [show ((Nat.gcd (n').natAbs (d').natAbs:Nat):Int)=aE n' d' from rfl] at C
 generalize aE n' d'=g at *
 go_enter Tryz.func129,Tryz.ntmps129
 go_wp2_with fail
 have hb:=Cell2.new w (.int .i64 n) (.int .i64 d) 136
 generalize w.alloc (.cells #[.int .i64 n,.int .i64 d] 136)=W0 at *
 generalize hk:w.heap.size=k at *
 have HK:=Ha hk;clear hk
 have HB:=Ha hb;clear hb
 refine (C.out.1 _).mono ?_
 rintro e w1 ⟨rfl,b⟩
 have H1:=Ha (HB.out.next b);clear b HB
 have c0:=H1.out.c0
 have c1:=H1.out.c1
 go_wp2_with fail
 refine (C.out.2.1 _).mono ?_
 rintro e w' ⟨rfl,rfl⟩
 have f0:=H1.out.f0
 have f1:=H1.out.f1
 go_wp2
 have H2:=Ha (show Cell2 w k _ _ w1.drew from H1.out.next (Below.refl _ _).drew)
 clear H1
 have c0:=H2.out.c0
 have c1:=H2.out.c1
 have mt:=tI
 have en1:∀ args W,(callFunc 275 args).run Tryz.prog W = .ok (.enter 275 args) W:=enters_of Tryz.func275 (by kernel_rfl) rfl
 go_still_tail 8,(by kernel_rfl)
 still_call (C.out.2.2.1 _)
 repeat still_step
 still_call (C.out.2.2.2.1 _)
 repeat still_step
 refine wpStill_nil ?_
 change wpList _ _ _ _ _ w1.drew
 clear c0 c1 f0 f1 mt en1
 generalize w1.drew=w1 at *
 have f0:=H2.out.f0
 have f1:=H2.out.f1
 have H1:=Ha (H2.out.put2 (.int .i64 n') (.int .i64 d'))
 have c0:=H1.out.c0
 have c1:=H1.out.c1
 have d0:=H2.out.c0
 have d1:=H2.out.c1
 obtain ⟨g0,g1⟩:=au d0 d1 (.int .i64 n') (.int .i64 d')
 clear H2
 go_wp2_with fail
 clear f0 f1 d0 d1 g0 g1
 generalize (w1.setCell ⟨k,0,none⟩ (.int .i64 n')).setCell ⟨k,1,none⟩ (.int .i64 d')=w1 at *
 go_wp2_with fail
 refine (C.out.2.2.2.2.1 _ (by have:=H1.out.below;rwa [HK.out] at this)).mono ?_
 rintro e w' ⟨rfl,rfl⟩
 go_wp2_with fail
 refine (C.out.2.2.2.2.2.1 _).mono ?_
 rintro e w' ⟨rfl,rfl⟩
 go_wp2_with fail
 refine (C.out.2.2.2.2.2.2.2.2 _ (by have:=H1.out.below;rwa [HK.out] at this)).mono ?_
 rintro e w2 ⟨rfl,b⟩
 have H2:=Ha (H1.out.below.trans (b.mono H1.out.below.size))
 clear b c0 c1
 go_wp2
 go_ret2
 exact ⟨rfl,by have:=H2.out;rwa [HK.out] at this ⊢⟩
theorem sp (n d n' d':Int) (en : -n=n') (ed : -d=d') (w:World) (n0 : -9223372036854775808<n) (n1:n≤9223372036854775807) (d0 : -9223372036854775808<d) (d1:d≤9223372036854775807) (hd:d<0) (hg:¬ aE n' d'=1) (ht:Tab w) (ht2:aW w) :
  Calls Tryz.prog 129 #[.agg #[.int .i64 n,.int .i64 d]] w fun e W'=>e = .returned (.tuple #[.string (dc (n'.tdiv (aE n' d')) (d'.tdiv (aE n' d'))),.int .i64 0])∧Below w.heap.size w W':=by
 have cf:=fun W=>iE n d W
 rw [if_neg (show ¬ (n=bE∨d=bE) by unfold bE;omega)] at cf
 have cn:=fun W=>kP d W
 rw [decide_eq_true hd] at cn
 have co1:=fun W=>still (eV n W n0 n1)
 have co2:=fun W=>still (eV d W d0 d1)
 rw [en] at co1
 rw [ed] at co2
 have cg:=fun W (hW:Below w.heap.size w W)=>dT n' d' W (by omega) (by omega) (by omega) (by omega) (ai ht2 hW)
 have c1:=fun W=>iU (aE n' d') W
 rw [show (aE n' d'==1)=false by simpa using hg] at c1
 have hgp:=j2 (n:=n') (d:=d') (by omega)
 have hgl:aE n' d'≤9223372036854775807:=by
  have:aE n' d'≤d':=Int.le_of_dvd (by omega) (j3 n' d').2
  omega
 have bn:=pm (n:=n') hgp (by omega) (by omega)
 have bd:=pm (n:=d') hgp (by omega) (by omega)
 have cv1:=fun W=>still (jt n' (aE n' d') W (by omega) (by omega) hgp hgl)
 have cv2:=fun W=>still (jt d' (aE n' d') W (by omega) (by omega) hgp hgl)
 have ct:=fun W (hW:Below w.heap.size w W)=>jb (n'.tdiv (aE n' d')) (d'.tdiv (aE n' d')) W bn.1 bn.2 bd.1 bd.2 (ht.next hW)
 clear hgp hgl bn bd
 have C:=Ha (Hb cf (Hb cn (Hb co1 (Hb co2 (Hb cg (Hb c1 (Hb cv1 (Hb cv2 ct))))))))
 clear en ed cf cn co1 co2 cg c1 cv1 cv2 ct ht ht2 n0 n1 d0 d1 hd hg
 rw [show ((Nat.gcd (n').natAbs (d').natAbs:Nat):Int)=aE n' d' from rfl] at C
 generalize aE n' d'=g at *
 go_enter Tryz.func129,Tryz.ntmps129
 go_wp2_with fail
 have hb:=Cell2.new w (.int .i64 n) (.int .i64 d) 136
 generalize w.alloc (.cells #[.int .i64 n,.int .i64 d] 136)=W0 at *
 generalize hk:w.heap.size=k at *
 have HK:=Ha hk;clear hk
 have HB:=Ha hb;clear hb
 refine (C.out.1 _).mono ?_
 rintro e w1 ⟨rfl,b⟩
 have H1:=Ha (HB.out.next b);clear b HB
 have c0:=H1.out.c0
 have c1:=H1.out.c1
 go_wp2_with fail
 refine (C.out.2.1 _).mono ?_
 rintro e w' ⟨rfl,rfl⟩
 have f0:=H1.out.f0
 have f1:=H1.out.f1
 go_wp2
 have H2:=Ha (show Cell2 w k _ _ w1.drew from H1.out.next (Below.refl _ _).drew)
 clear H1
 have c0:=H2.out.c0
 have c1:=H2.out.c1
 have mt:=tI
 have en1:∀ args W,(callFunc 275 args).run Tryz.prog W = .ok (.enter 275 args) W:=enters_of Tryz.func275 (by kernel_rfl) rfl
 go_still_tail 8,(by kernel_rfl)
 still_call (C.out.2.2.1 _)
 repeat still_step
 still_call (C.out.2.2.2.1 _)
 repeat still_step
 refine wpStill_nil ?_
 change wpList _ _ _ _ _ w1.drew
 clear c0 c1 f0 f1 mt en1
 generalize w1.drew=w1 at *
 have f0:=H2.out.f0
 have f1:=H2.out.f1
 have H1:=Ha (H2.out.put2 (.int .i64 n') (.int .i64 d'))
 have c0:=H1.out.c0
 have c1:=H1.out.c1
 have d0:=H2.out.c0
 have d1:=H2.out.c1
 obtain ⟨g0,g1⟩:=au d0 d1 (.int .i64 n') (.int .i64 d')
 clear H2
 go_wp2_with fail
 clear f0 f1 d0 d1 g0 g1
 generalize (w1.setCell ⟨k,0,none⟩ (.int .i64 n')).setCell ⟨k,1,none⟩ (.int .i64 d')=w1 at *
 go_wp2_with fail
 refine (C.out.2.2.2.2.1 _ (by have:=H1.out.below;rwa [HK.out] at this)).mono ?_
 rintro e w' ⟨rfl,rfl⟩
 go_wp2_with fail
 refine (C.out.2.2.2.2.2.1 _).mono ?_
 rintro e w' ⟨rfl,rfl⟩
 have f0:=H1.out.f0
 have f1:=H1.out.f1
 go_wp2
 have H2:=Ha (show Cell2 w k _ _ w1.drew from H1.out.next (Below.refl _ _).drew)
 clear H1
 have c0:=H2.out.c0
 have c1:=H2.out.c1
 have mt:=qI
 have en1:∀ args W,(callFunc 276 args).run Tryz.prog W = .ok (.enter 276 args) W:=enters_of Tryz.func276 (by kernel_rfl) rfl
 go_still_tail 10,(by kernel_rfl)
 still_call (C.out.2.2.2.2.2.2.1 _)
 repeat still_step
 still_call (C.out.2.2.2.2.2.2.2.1 _)
 repeat still_step
 refine wpStill_nil ?_
 change wpList _ _ _ _ _ w1.drew
 clear c0 c1 f0 f1 mt en1
 generalize w1.drew=w1 at *
 have f0:=H2.out.f0
 have f1:=H2.out.f1
 have H1:=Ha (H2.out.put2 (.int .i64 (n'.tdiv g)) (.int .i64 (d'.tdiv g)))
 have c0:=H1.out.c0
 have c1:=H1.out.c1
 have d0:=H2.out.c0
 have d1:=H2.out.c1
 obtain ⟨g0,g1⟩:=au d0 d1 (.int .i64 (n'.tdiv g)) (.int .i64 (d'.tdiv g))
 clear H2
 go_wp2_with fail
 clear f0 f1 d0 d1 g0 g1
 generalize (w1.setCell ⟨k,0,none⟩ (.int .i64 (n'.tdiv g))).setCell ⟨k,1,none⟩ (.int .i64 (d'.tdiv g))=w1 at *
 go_wp2_with fail
 refine (C.out.2.2.2.2.2.2.2.2 _ (by have:=H1.out.below;rwa [HK.out] at this)).mono ?_
 rintro e w2 ⟨rfl,b⟩
 have H2:=Ha (H1.out.below.trans (b.mono H1.out.below.size))
 clear b c0 c1
 go_wp2
 go_ret2
 exact ⟨rfl,by have:=H2.out;rwa [HK.out] at this ⊢⟩
def j5 (n d:Int):Int:=if n=bE∨d=bE then 4 else 0
theorem lR (n d:Int) (w:World) (n0 : -9223372036854775808≤n) (n1:n≤9223372036854775807) (d0 : -9223372036854775808≤d) (d1:d≤9223372036854775807) (hd:d≠0) (ht:Tab w) (ht2:aW w) :
  Calls Tryz.prog 129 #[.agg #[.int .i64 n,.int .i64 d]] w fun e W'=>e = .returned (.tuple #[.string (qH n d),.int .i64 (j5 n d)])∧Below w.heap.size w W':=by
 by_cases h:n=bE∨d=bE
 ·have c:=qJ n d w h
  unfold qH j5
  rw [if_pos h,if_pos h];exact c
 ·unfold qH j5
  rw [if_neg h,if_neg h]
  have hn : -9223372036854775808<n:=by
   have:n≠bE:=fun e=>h (.inl e)
   unfold bE at this;omega
  have hd2 : -9223372036854775808<d:=by
   have:d≠bE:=fun e=>h (.inr e)
   unfold bE at this;omega
  rcases Int.lt_or_gt_of_ne hd with hs | hs
  ·have hp:0 < -d:=by omega
   by_cases hg:aE (-n) (-d)=1
   ·have c:=so n d (-n) (-d) rfl rfl w hn n1 hd2 d1 hs hg ht ht2
    rwa [wi hp hg,Rat.neg_divInt_neg] at c
   ·have c:=sp n d (-n) (-d) rfl rfl w hn n1 hd2 d1 hs hg ht ht2
    rwa [wh hp,Rat.neg_divInt_neg] at c
  ·by_cases hg:aE n d=1
   ·have c:=sk n d w hn n1 hd2 d1 hs hg ht ht2
    rwa [wi hs hg] at c
   ·have c:=sl n d w hn n1 hd2 d1 hs hg ht ht2
    rwa [wh hs] at c
end Go.Proofs.YtjdomibbaemdnaaGreatDoor
