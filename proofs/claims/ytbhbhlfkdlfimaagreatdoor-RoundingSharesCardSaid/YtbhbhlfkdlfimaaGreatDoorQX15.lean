/- Parts of the proof of the text YtbhbhlfkdlfimaaGreatDoorQX29. -/
import Derived.Test.YtbhbhlfkdlfimaaGreatDoorQX1
import Derived.Test.YtbhbhlfkdlfimaaGreatDoorQX10
import Derived.Test.YtbhbhlfkdlfimaaGreatDoorQX12
import Derived.Test.YtbhbhlfkdlfimaaGreatDoorQX13
import Derived.Test.YtbhbhlfkdlfimaaGreatDoorQX14
set_option linter.all false
set_option maxRecDepth 100000
set_option maxHeartbeats 8000000
namespace Go.Proofs.YtbhbhlfkdlfimaaGreatDoor
section
open Go.RowKit
def rlN (s:ByteArray):ByteArray:=if bB s.data.toList=0 then bN s else ⟨#[]⟩
def rlD (s:ByteArray):ByteArray:=if bB s.data.toList=0 then bD s else ⟨#[]⟩
theorem gQ {s:ByteArray} {r:Int} (h:bB s.data.toList=r) (hr:r≠0):rlN s=⟨#[]⟩∧rlD s=⟨#[]⟩∧bB s.data.toList=r :=
 ⟨if_neg (by rw [h];exact hr),if_neg (by rw [h];exact hr),h⟩
theorem rY {s:ByteArray} (h:bB s.data.toList=0):rlN s=bN s∧rlD s=bD s:=⟨if_pos h,if_pos h⟩
theorem jP (s:ByteArray) (l:List UInt8):(s.toList==l)=(s.data.toList==l):=by rw [ByteArray.toList_eq]
theorem cJ {a b:Int} (h:a≠b):(a==b)=false∧(a != b)=true:=by
 constructor
 ·rw [beq_eq_false_iff_ne];exact h
 ·rw [bne_iff_ne];exact h
theorem xF {s:ByteArray} (h:chk s.data.toList=0):s=aa (valOf s.data.toList):=aU (by rw [aF,dy _ h])
theorem qR {l:List UInt8} (h:chk l=0):short (valOf l):=by
 have h1:=gm (valOf l)
 rw [dy _ h,h] at h1
 show Int.natAbs _<lim
 by_cases q:(valOf l).natAbs<lim
 ·exact q
 ·rw [if_neg q] at h1;cases h1
theorem k6 (s:ByteArray) (w:World) (hs:s.size≤maxLen) (ht:Tab w) :
  Calls Tryz.prog 75 #[.string s] w fun e W'=>e = .returned (.tuple #[.agg #[.string (rlN s),.int .i64 0,.string (rlD s),.int .i64 0],.int .i64 (bB s.data.toList)])∧Below w.heap.size w W':=by
 have hm1:1≤maxLen:=by unfold maxLen;omega
 have hD:(bD s).size≤maxLen:=by
  by_cases h0:0<s.size
  ·exact Nat.le_trans (rR s h0) hs
  ·have h1:=fF (s:=s) (by omega)
   rw [←ag,cI,h1];exact hm1
 have kc:=fun W (_:Below w.heap.size w W)=>jK s W hs
 have k1:CqB w 84 #[.string (bN s)] (.int .i64 (chk (be s.data.toList))):=fun W _=>by
  have c:=f9 (bN s) W (Nat.le_trans (kW s) hs)
  rw [dK] at c
  exact c.mono fun e W' h=>⟨h.1,by rw [←h.2];exact Below.refl _ _⟩
 have k2:CqB w 84 #[.string (bD s)] (.int .i64 (chk (aK s.data.toList))):=fun W _=>by
  have c:=f9 (bD s) W hD
  rw [cI] at c
  exact c.mono fun e W' h=>⟨h.1,by rw [←h.2];exact Below.refl _ _⟩
 by_cases e1:chk (be s.data.toList)=11
 ·have hq:bB s.data.toList=11:=by
   unfold bB
   rw [if_pos]
   unfold dv;rw [e1];rfl
  obtain ⟨q1,q2,q3⟩:=gQ hq (by decide)
  rw [e1] at k1
  rw [q1,q2,q3]
  exact GB s (bN s) (bD s) _ _ w kc k1 k2
 have n1:=cJ e1
 by_cases e2:chk (aK s.data.toList)=11
 ·have hq:bB s.data.toList=11:=by
   unfold bB
   rw [if_pos]
   unfold dv;rw [e2];simp
  obtain ⟨q1,q2,q3⟩:=gQ hq (by decide)
  rw [e2] at k2
  rw [q1,q2,q3]
  exact GD s (bN s) (bD s) _ _ w n1.1 n1.2 kc k1 k2
 have n2:=cJ e2
 have hp:0<(bD s).size:=by
  rcases Nat.eq_zero_or_pos (bD s).size with h | h
  ·exfalso;apply e2
   rw [←cI,fF h];decide
  ·exact h
 have hp':(0:Int)<(bD s).size:=by omega
 have hng:=dq hp
 rw [cI] at hng
 by_cases hn1:aw (aK s.data.toList)=true
 ·have hn:=hn1
  have hq:bB s.data.toList=11:=by
   unfold bB
   rw [if_pos]
   unfold dv;rw [hn];simp
  obtain ⟨q1,q2,q3⟩:=gQ hq (by decide)
  rw [q1,q2,q3]
  exact GE s (bN s) (bD s) _ _ _ w n1.1 n1.2 n2.1 n2.2 hp hp' (hng.trans hn) (by rw [bne,hng.trans hn];rfl) kc k1 k2
 have hn:aw (aK s.data.toList)=false:=by simpa using hn1
 have hm:=hng.trans hn
 have hm':(((bD s)[0].toNat:Int) != 45)=true:=by rw [bne,hm];rfl
 by_cases e0:aK s.data.toList = [48]
 ·have hq:bB s.data.toList=11:=by
   unfold bB
   rw [if_pos]
   unfold dv;rw [e0];simp
  obtain ⟨q1,q2,q3⟩:=gQ hq (by decide)
  rw [q1,q2,q3]
  have z:((bD s).toList == [48])=true:=by rw [jP,cI,e0];rfl
  exact GG s (bN s) (bD s) _ _ _ w n1.1 n1.2 n2.1 n2.2 hp hp' hm hm' z (by rw [bne,z];rfl) kc k1 k2
 have z0:((bD s).toList == [48])=false:=by rw [jP,cI,beq_eq_false_iff_ne];exact e0
 have z0':((bD s).toList != [48])=true:=by rw [bne,z0];rfl
 cases hf:bz s.data.toList
 ·rw [hf] at kc
  have hform:dv s.data.toList=true:=by
   unfold dv;rw [hf,hn];simp [e1,e2,e0]
  by_cases b1:chk (be s.data.toList)=0
  ·by_cases b2:chk (aK s.data.toList)=0
   ·have hd:aK s.data.toList = [49]:=by unfold aK;rw [hf];rfl
    have hq:bB s.data.toList=0:=by
     unfold bB
     rw [hform,if_neg (by decide),if_neg (by rw [b1,b2];simp),if_pos (by rw [hd,lX,Nat.gcd_one_right])]
    obtain ⟨q1,q2⟩:=rY hq
    rw [q1,q2,hq]
    rw [b1] at k1
    rw [b2] at k2
    exact FX s (bN s) (bD s) w hp hp' hm hm' z0 z0' kc k1 k2
   ·have hq:bB s.data.toList=4:=by
     unfold bB
     rw [hform,if_neg (by decide),if_pos (.inr b2)]
    obtain ⟨q1,q2,q3⟩:=gQ hq (by decide)
    rw [q1,q2,q3]
    rw [b1] at k1
    have m2:=cJ b2
    exact FZ s (bN s) (bD s) _ w n2.1 n2.2 hp hp' hm hm' z0 z0' m2.1 m2.2 kc k1 k2
  ·have hq:bB s.data.toList=4:=by
    unfold bB
    rw [hform,if_neg (by decide),if_pos (.inl b1)]
   obtain ⟨q1,q2,q3⟩:=gQ hq (by decide)
   rw [q1,q2,q3]
   have m1:=cJ b1
   exact FW s (bN s) (bD s) _ _ w n1.1 n1.2 n2.1 n2.2 hp hp' hm hm' z0 z0' m1.1 m1.2 kc k1 k2
 ·rw [hf] at kc
  by_cases e9:aK s.data.toList = [49]
  ·have hq:bB s.data.toList=11:=by
    unfold bB
    rw [if_pos]
    unfold dv;rw [hf,e9];simp
   obtain ⟨q1,q2,q3⟩:=gQ hq (by decide)
   rw [q1,q2,q3]
   exact GC s (bN s) (bD s) _ _ w n1.1 n1.2 n2.1 n2.2 hp hp' hm hm' z0 z0' (by rw [jP,cI,e9];rfl) kc k1 k2
  have z1:((bD s).toList == [49])=false:=by rw [jP,cI,beq_eq_false_iff_ne];exact e9
  have hform:dv s.data.toList=true:=by
   unfold dv;rw [hf,hn];simp [e1,e2,e0,e9]
  by_cases b1:chk (be s.data.toList)=0
  ·by_cases b2:chk (aK s.data.toList)=0
   ·rw [b1] at k1
    rw [b2] at k2
    have s1:=xF (s:=bN s) (by rw [dK];exact b1)
    have s2:=xF (s:=bD s) (by rw [cI];exact b2)
    rw [dK] at s1
    rw [cI] at s2
    have hnat:=gV hn
    have kd:CqB w 124 #[.agg #[.string (bN s),.int .i64 0],.agg #[.string (bD s),.int .i64 0]] (.agg #[.string (aa (aN (valOf (be s.data.toList)) (valOf (aK s.data.toList)))),.int .i64 0]):=fun W hW=>by
     rw [s1,s2]
     exact l8 _ _ W (qR b1) (qR b2) (ht.next hW)
    have ko:=fun W (_:Below w.heap.size w W)=>kV (aN (valOf (be s.data.toList)) (valOf (aK s.data.toList))) W
    by_cases g1:aN (valOf (be s.data.toList)) (valOf (aK s.data.toList))=1
    ·have hq:bB s.data.toList=0:=by
      unfold bB
      rw [hform,if_neg (by decide),if_neg (by rw [b1,b2];simp),if_pos]
      unfold aN at g1
      rw [←hnat,Int.natAbs_natCast] at g1
      exact Int.ofNat.inj g1
     obtain ⟨q1,q2⟩:=rY hq
     rw [q1,q2,hq]
     rw [decide_eq_true g1] at ko
     exact ER s (bN s) (bD s) _ w hp hp' hm hm' z0 z0' z1 kc k1 k2 kd ko
    ·have hq:bB s.data.toList=11:=by
      unfold bB
      rw [hform,if_neg (by decide),if_neg (by rw [b1,b2];simp),if_neg]
      intro h
      apply g1
      unfold aN
      rw [←hnat,Int.natAbs_natCast,h];rfl
     obtain ⟨q1,q2,q3⟩:=gQ hq (by decide)
     rw [q1,q2,q3]
     rw [decide_eq_false g1] at ko
     exact GF s (bN s) (bD s) _ w hp hp' hm hm' z0 z0' z1 kc k1 k2 kd ko
   ·have hq:bB s.data.toList=4:=by
     unfold bB
     rw [hform,if_neg (by decide),if_pos (.inr b2)]
    obtain ⟨q1,q2,q3⟩:=gQ hq (by decide)
    rw [q1,q2,q3]
    rw [b1] at k1
    have m2:=cJ b2
    exact FV s (bN s) (bD s) _ w n2.1 n2.2 hp hp' hm hm' z0 z0' z1 m2.1 m2.2 kc k1 k2
  ·have hq:bB s.data.toList=4:=by
    unfold bB
    rw [hform,if_neg (by decide),if_pos (.inl b1)]
   obtain ⟨q1,q2,q3⟩:=gQ hq (by decide)
   rw [q1,q2,q3]
   have m1:=cJ b1
   exact FY s (bN s) (bD s) _ _ w n1.1 n1.2 n2.1 n2.2 hp hp' hm hm' z0 z0' z1 m1.1 m1.2 kc k1 k2
theorem ic (a b:ByteArray) (w:World) (ha:a.size≤maxLen) (hb:b.size≤maxLen) (oa:mOK a.data.toList=true) (ob:mOK b.data.toList=true) (ht:aH w) :
  Calls Tryz.prog 74 #[.string a,.string b] w fun e W'=>e = .returned (.tuple #[.agg #[.int .i64 (valOf (be a.data.toList)),.int .i64 (valOf (aK a.data.toList))],.agg #[.int .i64 (valOf (be b.data.toList)),.int .i64 (valOf (aK b.data.toList))],.bool true])∧Below w.heap.size w W':=by
 have c:=hU a b _ _ true (fun z u=>z=valOf (be b.data.toList)∧u=valOf (aK b.data.toList)) w (fun W hW=>eZ a W ha oa (ae ht hW))
  (fun W hW=>(eZ b W hb ob (ae ht hW)).mono fun e W' h=>⟨⟨_,_,⟨rfl,rfl⟩,h.1⟩,h.2⟩)
 refine c.mono ?_
 rintro e W' ⟨⟨z,u,⟨rfl,rfl⟩,he⟩,hB⟩
 exact ⟨he,hB⟩
theorem iS (a b:ByteArray) (w:World) (ha:a.size≤maxLen) (hb:b.size≤maxLen) (h:¬ (mOK a.data.toList=true∧mOK b.data.toList=true)) (ht:aH w) :
  Calls Tryz.prog 74 #[.string a,.string b] w fun e W'=>(∃ x y z u,e = .returned (.tuple #[.agg #[.int .i64 x,.int .i64 y],.agg #[.int .i64 z,.int .i64 u],.bool false]))∧Below w.heap.size w W':=by
 cases oa:mOK a.data.toList
 ·exact l6 a b w (fun W hW=>gr a W ha oa (ae ht hW))
 ·have ob:mOK b.data.toList=false:=by
   cases ob:mOK b.data.toList
   ·rfl
   ·exact absurd ⟨oa,ob⟩ h
  have c:=hU a b _ _ false (fun _ _=>True) w (fun W hW=>eZ a W ha oa (ae ht hW))
   (fun W hW=>(gr b W hb ob (ae ht hW)).mono fun e W' ⟨⟨x,y,he⟩,hB⟩=>⟨⟨x,y,trivial,he⟩,hB⟩)
  exact c.mono fun e W' ⟨⟨z,u,_,he⟩,hB⟩=>⟨⟨_,_,z,u,he⟩,hB⟩
theorem mU (s:ByteArray) (x y:Int) (r:Int) (n d:ByteArray) (o:Bool) (w:World) (h1:o=true→r=0)
  (hm:∀ W,Below w.heap.size w W→Calls Tryz.prog 80 #[.string s] W fun e W'=>(∃ x y,e = .returned (.tuple #[.agg #[.int .i64 x,.int .i64 y],.bool o]))∧Below W.heap.size W W')
  (hl:CqB w 75 #[.string s] (.tuple #[.agg #[.string n,.int .i64 0,.string d,.int .i64 0],.int .i64 r])) :
  Calls Tryz.prog 38 #[.string s] w fun e W'=>e = .returned (.int .i64 r)∧Below w.heap.size w W':=by
 have C:=Ha (Hb hm hl);clear hm hl
 cases o
 ·clear h1
  go_enter Tryz.func38,Tryz.ntmps38
  go_wp2_with fail
  refine (C.out.1 _ (Below.refl _ _)).mono ?_
  rintro e w1 ⟨⟨x,y,rfl⟩,b⟩
  go_wp2_with fail
  have H1:=Ha (b.alloc b.size (.cells #[.int .i64 x,.int .i64 y] 115));clear b
  generalize w1.alloc (.cells #[.int .i64 x,.int .i64 y] 115)=w2 at *
  refine (C.out.2 _ H1.out).mono ?_
  rintro e w3 ⟨rfl,b⟩
  have H2:=Ha ((H1.out.trans (b.mono H1.out.size)).alloc (Nat.le_trans H1.out.size b.size) (.cells #[.string n,.int .i64 0,.string d,.int .i64 0] 119));clear b H1
  go_wp2
  go_ret
  exact ⟨rfl,H2.out⟩
 ·have hr:=h1 rfl
  subst hr
  go_enter Tryz.func38,Tryz.ntmps38
  go_wp2_with fail
  refine (C.out.1 _ (Below.refl _ _)).mono ?_
  rintro e w1 ⟨⟨x,y,rfl⟩,b⟩
  have H1:=Ha (b.alloc b.size (.cells #[.int .i64 x,.int .i64 y] 115));clear b
  go_wp2
  go_ret
  exact ⟨rfl,H1.out⟩
theorem oC (s:ByteArray) (w:World) (hs:s.size≤maxLen) (ht:Tab w) (ht2:aH w) :
  Calls Tryz.prog 38 #[.string s] w fun e W'=>e = .returned (.int .i64 (bB s.data.toList))∧Below w.heap.size w W':=by
 have kl:=fun W (hW:Below w.heap.size w W)=>k6 s W hs (ht.next hW)
 cases o:mOK s.data.toList
 ·exact mU s 0 0 _ _ _ false w (fun h=>by cases h) (fun W hW=>gr s W hs o (ae ht2 hW)) kl
 ·exact mU s 0 0 _ _ _ true w (fun _=>(xC o).1) (fun W hW=>(eZ s W hs o (ae ht2 hW)).mono fun e W' h=>⟨⟨_,_,h.1⟩,h.2⟩) kl
def paN (s:ByteArray):ByteArray:=if bB s.data.toList=0 then bN s else ⟨#[]⟩
def paD (s:ByteArray):ByteArray:=if bB s.data.toList=0 then bD s else ⟨#[]⟩
theorem vT (s:ByteArray) (w:World) (hs:s.size≤maxLen) (ht:Tab w) (ht2:aH w) :
  Calls Tryz.prog 13 #[.string s] w fun e W'=>e = .returned (.tuple #[.string (paN s),.string (paD s),.int .i64 (bB s.data.toList)])∧Below w.heap.size w W':=by
 have kk:=oC s w hs ht ht2
 have kc:=fun W=>jK s W hs
 by_cases h:bB s.data.toList=0
 ·unfold paN paD
  rw [if_pos h,if_pos h]
  rw [h] at kk ⊢
  have C:=Ha (Hb kk kc);clear kk kc h ht ht2 hs
  generalize bN s=n at *
  generalize bD s=d at *
  generalize bz s.data.toList=f at *
  go_enter Tryz.func13,Tryz.ntmps13
  go_wp2_with fail
  refine C.out.1.mono ?_
  rintro e w1 ⟨rfl,b⟩
  have H1:=Ha b;clear b
  go_wp2_with fail
  refine (C.out.2 _).mono ?_
  rintro e w2 ⟨rfl,b⟩
  have H2:=Ha (H1.out.trans (b.mono H1.out.size));clear b
  go_wp2
  go_ret3
  exact ⟨rfl,H2.out⟩
 ·unfold paN paD
  rw [if_neg h,if_neg h]
  have n:=cJ h
  have C:=Ha kk;clear kk kc h ht ht2 hs
  obtain ⟨n1,n2⟩:=n
  generalize bB s.data.toList=c at *
  go_enter Tryz.func13,Tryz.ntmps13
  go_wp2_with fail
  refine C.out.mono ?_
  rintro e w1 ⟨rfl,b⟩
  have H1:=Ha b;clear b
  go_wp2
  go_ret3
  exact ⟨rfl,H1.out⟩
end
namespace T
open Go.Proofs.YtbhbhlfkdlfimaaGreatDoor
def strip (p n:Nat):Nat × Nat :=
 if _h:2≤p∧0<n∧n % (p*p)=0 then (p*(strip p (n / (p*p))).1,(strip p (n / (p*p))).2) else (1,n)
termination_by n
decreasing_by all_goals exact Nat.div_lt_self _h.2.1 (Nat.lt_of_lt_of_le (by decide:1<2*2) (Nat.mul_le_mul _h.1 _h.1))
theorem l9 {p n:Nat} (hp:2≤p) (hn:0<n) (h:n % (p*p)=0):strip p n=(p*(strip p (n / (p*p))).1,(strip p (n / (p*p))).2):=by
 rw [strip,dif_pos ⟨hp,hn,h⟩]
theorem fJ {p n:Nat} (h:n % (p*p)≠0):strip p n=(1,n):=by
 rw [strip,dif_neg (fun q=>h q.2.2)]
theorem mc {p:Nat} (hp:2≤p):1<p*p:=Nat.lt_of_lt_of_le (by decide:1<2*2) (Nat.mul_le_mul hp hp)
theorem yW {p:Nat} (hp:2≤p) {C:Nat→Prop} (no:∀ n,0<n→n % (p*p)≠0→C n) (yes:∀ n,0<n→C n→C (p*p*n)) :
  ∀ n,0<n→C n:=by
 intro n
 induction n using Nat.strongRecOn with
 | _ n ih =>
  intro hn
  rcases Nat.decEq (n % (p*p)) 0 with h | h
  ·exact no n hn h
  ·have e:n=p*p*(n / (p*p)):=by have:=Nat.div_add_mod n (p*p);omega
   have q:0<n / (p*p):=Nat.pos_of_ne_zero fun z=>by rw [z] at e;omega
   rw [e];exact yes _ q (ih _ (Nat.div_lt_self hn (mc hp)) q)
theorem gw {p n:Nat} (hp:2≤p) (hn:0<n):strip p (p*p*n)=(p*(strip p n).1,(strip p n).2):=by
 have q:=mc hp
 rw [l9 hp (Nat.mul_pos (by omega) hn) (Nat.mul_mod_right _ _),Nat.mul_div_cancel_left _ (by omega)]
theorem ku {p n:Nat} (hp:2≤p) (hn:0<n):n=(strip p n).1*(strip p n).1*(strip p n).2∧0<(strip p n).1∧0<(strip p n).2∧¬ p*p∣(strip p n).2:=by
 refine yW hp (C:=fun n=>n=(strip p n).1*(strip p n).1*(strip p n).2∧0<(strip p n).1∧0<(strip p n).2∧¬ p*p∣(strip p n).2) ?_ ?_ n hn
 ·intro n hn h
  rw [fJ h]
  exact ⟨by simp,Nat.one_pos,hn,fun d=>h (Nat.mod_eq_zero_of_dvd d)⟩
 ·rintro n hn ⟨h1,h2,h3,h4⟩
  rw [gw hp hn]
  refine ⟨?_,Nat.mul_pos (by omega) h2,h3,h4⟩
  show p*p*n=p*(strip p n).1*(p*(strip p n).1)*(strip p n).2
  rw [Nat.mul_mul_mul_comm,Nat.mul_assoc (p*p),←h1]
theorem tV {p n:Nat} (hn:0<n) (h:n<p*p):strip p n=(1,n):=fJ (by rw [Nat.mod_eq_of_lt h];omega)
def ai:List Nat→Nat→Nat × Nat
 | [],n=>(1,n)
 | p::l,n=>((strip p n).1*(ai l (strip p n).2).1,(ai l (strip p n).2).2)
theorem aS:∀ (l:List Nat) (_:∀ p∈l,2≤p) {n:Nat} (_:0<n),n=(ai l n).1*(ai l n).1*(ai l n).2∧0<(ai l n).1∧0<(ai l n).2∧(ai l n).2∣n∧∀ p∈l,¬ p*p∣(ai l n).2
 | [],_,n,hn=>⟨by simp [ai],Nat.one_pos,hn,Nat.dvd_refl _,by simp⟩
 | p::l,hl,n,hn=>by
  obtain ⟨a1,a2,a3,a4⟩:=ku (hl p (by simp)) hn
  obtain ⟨b1,b2,b3,b4,b5⟩:=aS l (fun q hq=>hl q (by simp [hq])) a3
  simp only [ai]
  generalize (strip p n).1=k at *
  generalize (strip p n).2=m at *
  generalize (ai l m).1=k' at *
  generalize (ai l m).2=m' at *
  refine ⟨?_,Nat.mul_pos a2 b2,b3,?_,?_⟩
  ·rw [a1,b1,Nat.mul_mul_mul_comm k k' k k',Nat.mul_assoc (k*k) (k'*k') m']
  ·rw [a1];exact Nat.dvd_trans b4 (Nat.dvd_mul_left _ _)
  ·intro q hq
   rcases List.mem_cons.1 hq with rfl | hq
   ·exact fun d=>a4 (Nat.dvd_trans d b4)
   ·exact b5 q hq
theorem iF {v:Nat} (hv:0<v):∀ (l:List Nat) (_:∀ p∈l,v<p*p),ai l v=(1,v)
 | [],_=>rfl
 | p::l,hl=>by
  simp only [ai];rw [tV hv (hl p (by simp))]
  simp only [iF hv l (fun q hq=>hl q (by simp [hq]))]
def Pr (p:Nat):Prop:=2≤p∧∀ d,d∣p→d=1∨d=p
theorem Pr.gcd {p:Nat} (h:Pr p) (x:Nat):p∣x∨Nat.Coprime p x:=by
 rcases h.2 _ (Nat.gcd_dvd_left p x) with e | e
 ·exact .inr e
 ·exact .inl (e ▸ Nat.gcd_dvd_right p x)
theorem Pr.sq {p x y:Nat} (h:Pr p) (c:Nat.Coprime x y) (d:p*p∣x*y):p*p∣x∨p*p∣y:=by
 rcases h.gcd y with e | e
 ·rcases h.gcd x with f | f
  ·exact absurd (Nat.dvd_gcd f e) (by
    rw [show Nat.gcd x y=1 from c];intro q;have:=Nat.le_of_dvd Nat.one_pos q;have:=h.1;omega)
  ·exact .inr ((f.mul_left f).dvd_of_dvd_mul_left d)
 ·exact .inl ((e.mul_left e).dvd_of_dvd_mul_right d)
theorem yX {p:Nat} (hp:Pr p):∀ (n x y:Nat),n=x*y→0<x→0<y→Nat.Coprime x y →
  strip p (x*y)=((strip p x).1*(strip p y).1,(strip p x).2*(strip p y).2):=by
 have q:=mc hp.1
 intro n
 induction n using Nat.strongRecOn with
 | _ n ih =>
  intro x y hn hx hy c
  rcases Nat.decEq ((x*y) % (p*p)) 0 with h | h
  ·have h1:x % (p*p)≠0:=fun z=>h (Nat.mod_eq_zero_of_dvd (Nat.dvd_trans (Nat.dvd_of_mod_eq_zero z) (Nat.dvd_mul_right _ _)))
   have h2:y % (p*p)≠0:=fun z=>h (Nat.mod_eq_zero_of_dvd (Nat.dvd_trans (Nat.dvd_of_mod_eq_zero z) (Nat.dvd_mul_left _ _)))
   rw [fJ h,fJ h1,fJ h2,Nat.mul_one]
  ·rcases hp.sq c (Nat.dvd_of_mod_eq_zero h) with ⟨x',rfl⟩ | ⟨y',rfl⟩
   ·have hx':0<x':=Nat.pos_of_ne_zero fun z=>by subst z;omega
    have hl:x'*y<n:=by
     rw [hn,Nat.mul_assoc];exact (Nat.lt_mul_iff_one_lt_left (Nat.mul_pos hx' hy)).2 q
    have:=ih _ hl x' y rfl hx' hy (Nat.Coprime.coprime_dvd_left (Nat.dvd_mul_left _ _) c)
    rw [Nat.mul_assoc,gw hp.1 (Nat.mul_pos hx' hy),gw hp.1 hx',this]
    simp only [Nat.mul_assoc]
   ·have hy':0<y':=Nat.pos_of_ne_zero fun z=>by subst z;omega
    have hl:x*y'<n:=by
     rw [hn,Nat.mul_left_comm];exact (Nat.lt_mul_iff_one_lt_left (Nat.mul_pos hx hy')).2 q
    have:=ih _ hl x y' rfl hx hy' (Nat.Coprime.coprime_dvd_right (Nat.dvd_mul_left _ _) c)
    rw [Nat.mul_left_comm,gw hp.1 (Nat.mul_pos hx hy'),gw hp.1 hy',this]
    simp only [Nat.mul_left_comm]
theorem oD:∀ (l:List Nat) (_:∀ p∈l,Pr p) (x y:Nat),0<x→0<y→Nat.Coprime x y →
  ai l (x*y)=((ai l x).1*(ai l y).1,(ai l x).2*(ai l y).2)
 | [],_,x,y,_,_,_=>by simp [ai]
 | p::l,hl,x,y,hx,hy,c=>by
  have hp:=hl p (by simp)
  obtain ⟨a1,a2,a3,_⟩:=ku hp.1 hx
  obtain ⟨b1,b2,b3,_⟩:=ku hp.1 hy
  have c':Nat.Coprime (strip p x).2 (strip p y).2 :=
   Nat.Coprime.coprime_dvd_left (k:=x) ⟨_,a1.trans (Nat.mul_comm _ _)⟩ (Nat.Coprime.coprime_dvd_right (m:=y) ⟨_,b1.trans (Nat.mul_comm _ _)⟩ c)
  simp only [ai]
  rw [yX hp _ x y rfl hx hy c]
  simp only
  rw [oD l (fun q hq=>hl q (by simp [hq])) _ _ a3 b3 c']
  simp only [Nat.mul_assoc,Nat.mul_left_comm]
def Sqr (n:Nat):Prop:=∃ r,r*r=n
theorem Sqr.mul {x y:Nat} (h:Sqr x) (k:Sqr y):Sqr (x*y):=by
 obtain ⟨r,rfl⟩:=h;obtain ⟨s,rfl⟩:=k;exact ⟨r*s,Nat.mul_mul_mul_comm _ _ _ _⟩
theorem Sqr.left {x y:Nat} (h:Sqr (x*y)) (c:Nat.Coprime x y):Sqr x:=by
 obtain ⟨r,hr⟩:=h
 refine ⟨Nat.gcd r x,?_⟩
 have:=(Nat.pow_gcd_pow (k:=2) (n:=r) (m:=x))
 rw [Nat.pow_two,Nat.pow_two,Nat.pow_two] at this
 rw [←this,hr,Nat.gcd_mul_left,Nat.gcd_comm,show Nat.gcd x y=1 from c,Nat.mul_one]
def au:List Nat := [2,3,5,7,11,13,17,19,23,29,31,37,41,43,47,53,59,61,67,71,73,79,83,89,97]
theorem F2 {p:Nat} (h2:2≤p) (h:∀ d,d<p+1→d∣p→d=1∨d=p):Pr p :=
 ⟨h2,fun d hd=>h d (Nat.lt_succ_of_le (Nat.le_of_dvd (by omega) hd)) hd⟩
theorem me:∀ p∈au,Pr p:=by
 intro p hp
 refine F2 ?_ ?_
 ·revert p;decide+kernel
 ·revert p;decide+kernel
theorem ck:∀ p∈au,2≤p:=fun p hp=>(me p hp).1
theorem AG {x y u v:Int} (h1:x<y↔u<v) (h2:y<x↔v<u):bF x y=bF u v:=by
 unfold bF
 by_cases a:x<y
 ·rw [if_pos a,if_pos (h1.1 a)]
 ·rw [if_neg a,if_neg (fun q=>a (h1.2 q))]
  by_cases b:y<x
  ·rw [if_pos b,if_pos (h2.1 b)]
  ·rw [if_neg b,if_neg (fun q=>b (h2.2 q))]
def RQ (q:Rat) (r:Nat):Prop:=((r*r:Nat):Rat)≤q∧q<(((r+1)*(r+1):Nat):Rat)
theorem vU {n d x:Nat} (hd:0<d):mkRat n d<(x:Rat)↔n<x*d:=by
 have h:(0:Rat)<(d:Rat):=by have:=Rat.natCast_lt_natCast (a:=0) (b:=d);exact this.2 hd
 rw [Rat.mkRat_eq_div,Rat.intCast_natCast,Rat.div_lt_iff h,←Rat.natCast_mul,Rat.natCast_lt_natCast]
theorem vV {n d x:Nat} (hd:0<d):(x:Rat)≤mkRat n d↔x*d≤n:=by
 rw [←Rat.not_lt,vU hd,Nat.not_lt]
theorem Dm {n d:Nat} (hn:0<n) (hd:0<d) (c:Nat.Coprime n d) (l:List Nat) (hl:∀ p∈l,Pr p) :
  mkRat ((ai l (n*d)).1:Nat) d=mkRat ((ai l n).1:Nat) ((ai l d).1*(ai l d).2) ∧
  (ai l (n*d)).2=(ai l n).2*(ai l d).2∧Nat.Coprime (ai l n).1 ((ai l d).1*(ai l d).2)∧0<(ai l d).1*(ai l d).2:=by
 obtain ⟨a1,a2,a3,a4,_⟩:=aS l (fun p h=>(hl p h).1) hn
 obtain ⟨b1,b2,b3,b4,_⟩:=aS l (fun p h=>(hl p h).1) hd
 have e:=oD l hl n d hn hd c
 generalize ai l (n*d)=s at *
 subst e
 generalize (ai l n).1=a at *
 generalize (ai l n).2=m at *
 generalize (ai l d).1=b at *
 generalize (ai l d).2=k at *
 have hbk:0<b*k:=Nat.mul_pos b2 b3
 refine ⟨?_,rfl,?_,hbk⟩
 ·refine (Rat.mkRat_eq_iff (Nat.ne_of_gt hd) (Nat.ne_of_gt hbk)).2 ?_
  rw [←Int.natCast_mul,←Int.natCast_mul]
  congr 1
  show a*b*(b*k)=a*d
  rw [b1];simp only [Nat.mul_assoc]
 ·refine Nat.Coprime.coprime_dvd_left (k:=n) ?_ (Nat.Coprime.coprime_dvd_right (m:=d) ?_ c)
  ·rw [a1,Nat.mul_assoc];exact Nat.dvd_mul_right _ _
  ·rw [b1,Nat.mul_assoc];exact Nat.dvd_mul_left _ _
theorem Dn {n d:Nat} (hn:0<n) (hd:0<d) (l:List Nat) (hl:∀ p∈l,2≤p) :
  mkRat ((ai l n).1:Nat) ((ai l d).1*(ai l d).2)*mkRat ((ai l n).1:Nat) ((ai l d).1*(ai l d).2)*(((ai l n).2*(ai l d).2:Nat):Rat)=mkRat n d:=by
 obtain ⟨a1,a2,a3,a4,_⟩:=aS l hl hn
 obtain ⟨b1,b2,b3,b4,_⟩:=aS l hl hd
 generalize (ai l n).1=a at *
 generalize (ai l n).2=m at *
 generalize (ai l d).1=b at *
 generalize (ai l d).2=k at *
 have hbk:0<b*k:=Nat.mul_pos b2 b3
 rw [show (((m*k:Nat):Rat))=mkRat ((m*k:Nat):Int) 1 from by rw [Rat.mkRat_one,Rat.intCast_natCast],Rat.mkRat_mul_mkRat,Rat.mkRat_mul_mkRat]
 refine (Rat.mkRat_eq_iff (Nat.ne_of_gt (by rw [Nat.mul_one];exact Nat.mul_pos hbk hbk)) (Nat.ne_of_gt hd)).2 ?_
 rw [←Int.natCast_mul,←Int.natCast_mul,←Int.natCast_mul,←Int.natCast_mul]
 congr 1
 rw [Nat.mul_one,a1,b1]
 simp only [Nat.mul_assoc,Nat.mul_left_comm]
end T
namespace T
open Go.Proofs.YtbhbhlfkdlfimaaGreatDoor
theorem qS:((1:Nat):Rat)=1:=rfl
theorem tW {n:Nat}:Sqr n↔am n*am n=n:=by
 constructor
 ·rintro ⟨r,rfl⟩
  rw [gn (r:=r) ⟨Nat.le_refl _,by simp only [Nat.add_mul,Nat.mul_add];omega⟩]
 ·exact fun h=>⟨_,h⟩
def bG (q:Rat):Prop:=am q.num.natAbs*am q.num.natAbs=q.num.natAbs∧am q.den*am q.den=q.den
noncomputable instance (q:Rat):Decidable (bG q):=inferInstanceAs (Decidable (_∧_))
theorem mf {q:Rat}:bG q↔Sqr q.num.natAbs∧Sqr q.den:=by unfold bG;rw [tW,tW]
noncomputable def cN (q:Rat):Nat:=if bG q then am q.num.natAbs else (ai au q.num.natAbs).1
noncomputable def cD (q:Rat):Nat:=if bG q then am q.den else (ai au q.den).1*(ai au q.den).2
noncomputable def nN (q:Rat):Nat:=if bG q then 1 else (ai au q.num.natAbs).2*(ai au q.den).2
noncomputable def nC (q:Rat):Rat:=mkRat (cN q:Nat) (cD q)
theorem k7 {q:Rat} (h:0≤q):((q.num.natAbs:Nat):Int)=q.num:=by
 have:=Rat.num_nonneg.2 h;omega
theorem AH {q:Rat} (h:0≤q):mkRat ((q.num.natAbs:Nat):Int) q.den=q:=by rw [k7 h,Rat.mkRat_self]
theorem ET:am 0=0:=gn ⟨Nat.le_refl _,by decide⟩
theorem AI:am 1=1:=gn ⟨by decide,by decide⟩
theorem fp {q:Rat} (h:¬ bG q):0<q.num.natAbs:=by
 refine Nat.pos_of_ne_zero fun z=>h ?_
 have e:q.num=0:=by omega
 have d:q.den=1:=by have:=q.reduced;rw [z] at this;exact (Nat.coprime_zero_left _).1 this
 unfold bG;rw [z,d,ET,AI];exact ⟨rfl,rfl⟩
theorem EU (q:Rat):0<cD q:=by
 unfold cD
 split
 ·rename_i h;exact Nat.pos_of_ne_zero fun z=>by have:=h.2;rw [z] at this;have:=q.den_pos;omega
 ·obtain ⟨_,b2,b3,_⟩:=aS au ck q.den_pos;exact Nat.mul_pos b2 b3
theorem AJ (q:Rat):0<nN q:=by
 unfold nN
 split
 ·exact Nat.one_pos
 ·rename_i h
  obtain ⟨_,_,a3,_⟩:=aS au ck (fp h)
  obtain ⟨_,_,b3,_⟩:=aS au ck q.den_pos
  exact Nat.mul_pos a3 b3
theorem cop (q:Rat):Nat.Coprime (cN q) (cD q):=by
 unfold cN cD
 split
 ·rename_i h
  refine Nat.Coprime.coprime_dvd_left (k:=q.num.natAbs) ?_ (Nat.Coprime.coprime_dvd_right (m:=q.den) ?_ q.reduced)
  ·exact ⟨_,h.1.symm⟩
  ·exact ⟨_,h.2.symm⟩
 ·rename_i h;exact (Dm (fp h) q.den_pos q.reduced au me).2.2.1
theorem mV {q:Rat} (h0:0≤q):nC q*nC q*((nN q:Nat):Rat)=q:=by
 unfold nC cN cD nN
 split
 ·rename_i h
  rw [Rat.mkRat_mul_mkRat,←Int.natCast_mul,h.1,h.2,AH h0,qS,Rat.mul_one]
 ·rename_i h
  rw [Dn (fp h) q.den_pos au ck,AH h0]
theorem xG (q:Rat):∀ p∈au,¬ p*p∣nN q:=by
 intro p hp
 unfold nN
 split
 ·intro d
  have:=Nat.le_of_dvd Nat.one_pos d
  have:=mc (ck p hp);omega
 ·rename_i h
  obtain ⟨_,_,_,a4,a5⟩:=aS au ck (fp h)
  obtain ⟨_,_,_,b4,b5⟩:=aS au ck q.den_pos
  intro d
  rcases (me p hp).sq (Nat.Coprime.coprime_dvd_left a4 (Nat.Coprime.coprime_dvd_right b4 q.reduced)) d with e | e
  ·exact a5 p hp e
  ·exact b5 p hp e
theorem k8 (c:Rat):(c*c).num.natAbs=c.num.natAbs*c.num.natAbs∧(c*c).den=c.den*c.den:=by
 have hc:Nat.Coprime (c.num*c.num).natAbs (c.den*c.den):=by
  rw [Int.natAbs_mul];exact (c.reduced.mul_left c.reduced).mul_right (c.reduced.mul_left c.reduced)
 have e:c*c=⟨c.num*c.num,c.den*c.den,Nat.ne_of_gt (Nat.mul_pos c.den_pos c.den_pos),hc⟩:=by
  rw [Rat.mk_eq_mkRat,←Rat.mkRat_mul_mkRat,Rat.mkRat_self]
 rw [e];exact ⟨Int.natAbs_mul _ _,rfl⟩
theorem EV {q:Rat} (h0:0≤q):nN q=1↔∃ c:Rat,c*c=q:=by
 constructor
 ·intro h
  refine ⟨nC q,?_⟩
  have:=mV h0
  rwa [h,qS,Rat.mul_one] at this
 ·rintro ⟨c,rfl⟩
  unfold nN
  rw [if_pos]
  rw [mf,(k8 c).1,(k8 c).2]
  exact ⟨⟨_,rfl⟩,⟨_,rfl⟩⟩
theorem mg (q:Rat):0≤nC q:=by
 have h:=(vV (n:=cN q) (x:=0) (EU q)).2 (by rw [Nat.zero_mul];exact Nat.zero_le _)
 exact h
end T
namespace T
open Go.Proofs.YtbhbhlfkdlfimaaGreatDoor
theorem aP (r:Nat):(0:Rat)≤(r:Rat):=by
 have:=Rat.natCast_le_natCast (a:=0) (b:=r)
 exact this.2 (Nat.zero_le _)
theorem RQ.le {z:Rat} {r:Nat} (h:RQ z r):(r:Rat)*r≤z:=by have:=h.1;rwa [Rat.natCast_mul] at this
theorem RQ.lt {z:Rat} {r:Nat} (h:RQ z r):z<((r:Rat)+1)*((r:Rat)+1):=by
 have:=h.2;rw [Rat.natCast_mul,Rat.natCast_add] at this;exact this
def CQ (z:Rat) (c:Nat):Prop:=z≤((c*c:Nat):Rat)∧∀ k:Nat,z≤((k*k:Nat):Rat)→c≤k
theorem CQ.exact {z:Rat} {r:Nat} (h:((r*r:Nat):Rat)=z):CQ z r:=by
 subst h
 refine ⟨Rat.le_refl,fun k hk => ?_⟩
 have:=Rat.natCast_le_natCast.1 hk
 rcases Nat.lt_or_ge k r with l | l
 ·exact absurd (Nat.mul_self_lt_mul_self l) (by omega)
 ·exact l
theorem CQ.next {z:Rat} {r:Nat} (h:RQ z r) (hn:((r*r:Nat):Rat)≠z):CQ z (r+1):=by
 refine ⟨Rat.le_of_lt h.2,fun k hk => ?_⟩
 have a:((r*r:Nat):Rat)<((k*k:Nat):Rat):=Std.lt_of_lt_of_le (Rat.lt_of_le_of_ne h.1 hn) hk
 have:=Rat.natCast_lt_natCast.1 a
 rcases Nat.lt_or_ge r k with l | l
 ·exact l
 ·exact absurd (Nat.mul_self_le_mul_self l) (by omega)
end T
namespace T
open Go.Proofs.YtbhbhlfkdlfimaaGreatDoor
theorem tri (x y:Rat):x<y∨x=y∨y<x:=by grind
def sg (a:Rat):Rat:=if a<0 then -(a*a) else a*a
theorem qT (a:Rat):0≤a*a:=by
 rcases tri a 0 with h | rfl | h
 ·have:=Rat.mul_pos (a := -a) (b := -a) (by grind) (by grind);grind
 ·rw [Rat.zero_mul];exact Rat.le_refl
 ·exact Rat.le_of_lt (Rat.mul_pos h h)
theorem mh {a:Rat} (h:0<a):sg a=a*a:=if_neg (by grind)
theorem rZ {a:Rat} (h:a<0):sg a = -(a*a):=if_pos h
theorem xH:sg 0=0:=by unfold sg;rw [if_neg (by grind),Rat.zero_mul]
theorem EB {a b:Rat} (h:a<b):sg a<sg b:=by
 rcases tri a 0 with k | rfl | k
 ·rcases tri b 0 with l | rfl | l
  ·rw [rZ k,rZ l]
   have:=Rat.mul_pos (a:=b - a) (b := -(a+b)) (by grind) (by grind)
   grind
  ·rw [rZ k,xH]
   have:=Rat.mul_pos (a := -a) (b := -a) (by grind) (by grind)
   grind
  ·rw [rZ k,mh l]
   have:=Rat.mul_pos (a := -a) (b := -a) (by grind) (by grind)
   have:=Rat.mul_pos l l
   grind
 ·rw [xH,mh h];exact Rat.mul_pos h h
 ·rw [mh k,mh (by grind)]
  have:=Rat.mul_pos (a:=b - a) (b:=a+b) (by grind) (by grind)
  grind
end T
namespace T
open Go.Proofs.YtbhbhlfkdlfimaaGreatDoor
def F3 (z:Rat):Prop:=∃ c:Rat,c*c=z
noncomputable def bf (z:Rat):Rat:=mkRat (am z.num.natAbs:Nat) (am z.den)
theorem jd {z:Rat} (h:F3 z):bG z:=by
 obtain ⟨c,rfl⟩:=h
 rw [mf,(k8 c).1,(k8 c).2];exact ⟨⟨_,rfl⟩,⟨_,rfl⟩⟩
theorem jQ {z:Rat} (h:bG z):nC z=bf z∧nN z=1:=by
 unfold nC bf cN cD nN;rw [if_pos h,if_pos h,if_pos h];exact ⟨rfl,rfl⟩
theorem fK {z:Rat} (h0:0≤z) (h:bG z):bf z*bf z=z:=by
 have:=mV h0
 rwa [(jQ h).1,(jQ h).2,qS,Rat.mul_one] at this
theorem dL {z:Rat} (h:bG z):0≤bf z:=(jQ h).1 ▸ mg z
theorem AK {z:Rat} (h0:0≤z):bG z↔F3 z:=⟨fun h=>⟨_,fK h0 h⟩,jd⟩
theorem vW {x y:Rat} (hx:0≤x) (hy:0≤y) (h:x*x=y*y):x=y:=by
 have e:sg x=sg y:=by
  rcases tri x 0 with k | rfl | k
  ·exact absurd k (by grind)
  ·rw [Rat.zero_mul] at h
   rcases tri y 0 with l | rfl | l
   ·exact absurd l (by grind)
   ·rfl
   ·have:=Rat.mul_pos l l;grind
  ·have:=Rat.mul_pos k k
   rcases tri y 0 with l | rfl | l
   ·exact absurd l (by grind)
   ·rw [Rat.zero_mul] at h;grind
   ·rw [mh k,mh l,h]
 rcases tri x y with k | k | k
 ·have:=EB k;grind
 ·exact k
 ·have:=EB k;grind
end T
namespace T
open Go.Proofs.YtbhbhlfkdlfimaaGreatDoor
abbrev Tm:=Rat × Rat
def Rl (x y:Rat):Prop:=∃ r:Rat,0<r∧x=r*r*y
theorem Rl.refl (x:Rat):Rl x x:=⟨1,by decide,by grind⟩
theorem Rl.symm {x y:Rat} (h:Rl x y):Rl y x:=by
 obtain ⟨r,h0,rfl⟩:=h
 refine ⟨r⁻¹,Rat.inv_pos.2 h0,?_⟩
 have e:r⁻¹*r=1:=Rat.inv_mul_cancel _ (by grind)
 have:r⁻¹*r⁻¹*(r*r*y)=(r⁻¹*r)*(r⁻¹*r)*y:=by grind
 rw [this,e];grind
theorem Rl.trans {x y z:Rat} (h:Rl x y) (k:Rl y z):Rl x z:=by
 obtain ⟨r,h0,rfl⟩:=h
 obtain ⟨s,k0,rfl⟩:=k
 exact ⟨r*s,Rat.mul_pos h0 k0,by grind⟩
noncomputable def co (m:Rat) (t:Tm):Rat:=if bG (t.2 / m) then t.1*bf (t.2 / m) else 0
theorem AL {r m:Rat} (hm:0<m):r*r*m / m=r*r:=Rat.mul_div_cancel (by grind)
theorem oE {m r:Rat} (c:Rat) (hm:0<m) (hr:0≤r):co m (c,r*r*m)=c*r:=by
 unfold co
 have b:bG (r*r):=jd ⟨r,rfl⟩
 show (if bG (r*r*m / m) then c*bf (r*r*m / m) else 0)=_
 rw [AL hm,if_pos b,vW (dL b) hr (fK (qT r) b)]
theorem AM {m q:Rat} (c:Rat) (hm:0<m) (hq:0≤q) (h:¬ ∃ r:Rat,0≤r∧q=r*r*m):co m (c,q)=0:=by
 unfold co
 refine if_neg fun b=>h ?_
 have p:0≤q / m:=by
  rw [Rat.div_def];exact Rat.mul_nonneg hq (Rat.le_of_lt (Rat.inv_pos.2 hm))
 refine ⟨bf (q / m),dL b,?_⟩
 rw [fK p b]
 exact (Rat.div_mul_cancel (by grind)).symm
theorem r6 (m q:Rat):co m (0,q)=0:=by
 unfold co
 split
 ·exact Rat.zero_mul _
 ·rfl
theorem AN {m q:Rat} (c:Rat) (hm:0<m) (hq:0<q) (h:¬ Rl q m):co m (c,q)=0:=by
 refine AM c hm (Rat.le_of_lt hq) fun ⟨r,r0,e⟩=>h ⟨r,?_,e⟩
 refine Rat.lt_of_le_of_ne r0 fun z => ?_
 rw [←z] at e
 have:(0:Rat)*0*m=0:=by grind
 rw [this] at e;grind
theorem r7 {m:Rat} (c:Rat) (hm:0<m):co m (c,m)=c:=by
 have:=oE (m:=m) (r:=1) c hm (by decide)
 rwa [show (1:Rat)*1*m=m by grind,Rat.mul_one] at this
theorem vX {m q k:Rat} (c:Rat) (hm:0<m) (hq:0<q) (hk:0≤k):co m (c,k*k*q)=co m (c*k,q):=by
 by_cases h:∃ r:Rat,0≤r∧q=r*r*m
 ·obtain ⟨r,r0,rfl⟩:=h
  rw [show k*k*(r*r*m)=(k*r)*(k*r)*m by grind,oE c hm (Rat.mul_nonneg hk r0),oE _ hm r0];grind
 ·rw [AM _ hm (Rat.le_of_lt hq) h]
  by_cases z:k=0
  ·subst z
   have:=oE (m:=m) (r:=0) c hm (by decide)
   rw [show (0:Rat)*0*q=0*0*m by grind,this];grind
  ·have kp:0<k:=by grind
   refine AM _ hm (Rat.mul_nonneg (qT k) (Rat.le_of_lt hq)) fun ⟨r,r0,e⟩=>h ⟨r / k,?_,?_⟩
   ·rw [Rat.div_def];exact Rat.mul_nonneg r0 (Rat.le_of_lt (Rat.inv_pos.2 kp))
   ·have d:r / k*k=r:=Rat.div_mul_cancel z
    have e2:(q - r / k*(r / k)*m)*(k*k)=0:=by
     have:r / k*(r / k)*m*(k*k)=(r / k*k)*(r / k*k)*m:=by grind
     grind
    rcases Rat.mul_eq_zero.1 e2 with y | y
    ·grind
    ·rcases Rat.mul_eq_zero.1 y with y | y <;> exact absurd y z
theorem vY {m:Rat} (c d q:Rat):co m (c+d,q)=co m (c,q)+co m (d,q):=by
 unfold co
 dsimp only
 split
 ·exact Rat.add_mul _ _ _
 ·grind
theorem EW {m:Rat} (c d q:Rat):co m (c*d,q)=c*co m (d,q):=by
 unfold co
 dsimp only
 split
 ·exact Rat.mul_assoc _ _ _
 ·grind
noncomputable def vl (m:Rat):List Tm→Rat
 | []=>0
 | t::l=>co m t+vl m l
theorem ie (m:Rat) (l k:List Tm):vl m (l++k)=vl m l+vl m k:=by
 induction l with
 | nil=>show vl m k=0+vl m k;grind
 | cons t l ih=>show co m t+vl m (l++k)=co m t+vl m l+vl m k;rw [ih];grind
theorem Do {m:Rat} {l k:List Tm} (h:l.Perm k):vl m l=vl m k:=by
 induction h with
 | nil=>rfl
 | cons t _ ih=>show co m t+_=co m t+_;rw [ih]
 | swap s t l=>show co m t+(co m s+vl m l)=co m s+(co m t+vl m l);grind
 | trans _ _ a b=>exact a.trans b
theorem yY (m:Rat) (l:List Tm):vl m (l.filter fun t=>decide (t.1≠0))=vl m l:=by
 induction l with
 | nil=>rfl
 | cons t l ih =>
  obtain ⟨c,q⟩:=t
  by_cases h:c=0
  ·subst h
   rw [List.filter_cons_of_neg (by simp),ih]
   show vl m l=co m (0,q)+vl m l
   rw [r6];grind
  ·rw [List.filter_cons_of_pos (by simpa using h)]
   show co m (c,q)+_=co m (c,q)+_
   rw [ih]
def jZ (s t:Tm):Tm:=if t.2<s.2 then t else s
def kv (s t:Tm):Tm:=if t.2<s.2 then s else t
def fL (s t:Tm):Prop:=bG ((kv s t).2 / (jZ s t).2)
noncomputable instance (s t:Tm):Decidable (fL s t):=inferInstanceAs (Decidable (bG _))
noncomputable def iG (s t:Tm):Tm:=((jZ s t).1+(kv s t).1*bf ((kv s t).2 / (jZ s t).2),(jZ s t).2)
noncomputable def ins:List Tm→Tm→List Tm
 | [],t => [t]
 | s::l,t=>if fL s t then iG s t::l else s::ins l t
theorem kw {x y:Rat} (hx:0≤x) (hy:0<y):0≤x / y:=by
 rw [Rat.div_def];exact Rat.mul_nonneg hx (Rat.le_of_lt (Rat.inv_pos.2 hy))
theorem nO {x y:Rat} (hx:0<x) (hy:0<y):bG (x / y)↔Rl x y:=by
 constructor
 ·intro b
  have p:=kw (Rat.le_of_lt hx) hy
  have s:=fK p b
  have e:x=bf (x / y)*bf (x / y)*y:=by rw [s];exact (Rat.div_mul_cancel (by grind)).symm
  refine ⟨bf (x / y),?_,e⟩
  refine Rat.lt_of_le_of_ne (dL b) fun z => ?_
  rw [←z] at e;grind
 ·rintro ⟨r,r0,rfl⟩
  rw [AL hy];exact jd ⟨r,rfl⟩
theorem GH {P:Tm→Prop} {s t:Tm} (hs:P s) (ht:P t):P (jZ s t)∧P (kv s t):=by
 unfold jZ kv
 split
 ·exact ⟨ht,hs⟩
 ·exact ⟨hs,ht⟩
theorem oF {s t:Tm} (hs:0<s.2) (ht:0<t.2):fL s t↔Rl t.2 s.2:=by
 unfold fL jZ kv
 split
 ·rw [nO hs ht];exact ⟨Rl.symm,Rl.symm⟩
 ·rw [nO ht hs]
theorem Dp {m:Rat} {s t:Tm} (hm:0<m) (hs:0<s.2) (ht:0<t.2) (h:fL s t):co m (iG s t)=co m s+co m t:=by
 obtain ⟨lp,hp⟩:=GH (P:=fun x=>0<x.2) hs ht
 have e:co m s+co m t=co m (jZ s t)+co m (kv s t):=by
  unfold jZ kv;split
  ·grind
  ·rfl
 rw [e]
 unfold iG fL at *
 have r0:=dL h
 have r2:=fK (kw (Rat.le_of_lt hp) lp) h
 have q:(kv s t).2=bf ((kv s t).2 / (jZ s t).2)*bf ((kv s t).2 / (jZ s t).2)*(jZ s t).2:=by rw [r2];exact (Rat.div_mul_cancel (by grind)).symm
 have c:=vX (kv s t).1 hm lp r0
 rw [←q] at c
 rw [vY,←c]
theorem AO {m:Rat} (hm:0<m) {t:Tm} (ht:0<t.2):∀ {l:List Tm},(∀ s∈l,0<s.2)→vl m (ins l t)=vl m l+co m t
 | [],_=>by show co m t+0=0+co m t;grind
 | s::l,h=>by
  unfold ins
  have hs:=h s List.mem_cons_self
  have ih:=AO hm ht (l:=l) fun x hx=>h x (List.mem_cons_of_mem _ hx)
  split
  ·next k=>show co m (iG s t)+vl m l=co m s+vl m l+co m t;rw [Dp hm hs ht k];grind
  ·show co m s+vl m (ins l t)=co m s+vl m l+co m t;rw [ih];grind
def Red (l:List Tm):Prop:=(∀ s∈l,0<s.2)∧l.Pairwise fun s t=>¬ Rl s.2 t.2
theorem xI {s t:Tm} (hs:0<s.2) (ht:0<t.2) (h:fL s t):0<(iG s t).2∧Rl (iG s t).2 s.2∧((iG s t).2=s.2∨(iG s t).2=t.2):=by
 have k:=(oF hs ht).1 h
 unfold iG jZ
 dsimp only
 split
 ·exact ⟨ht,k,.inr rfl⟩
 ·exact ⟨hs,Rl.refl _,.inl rfl⟩
theorem r8 {t:Tm} (ht:0<t.2):∀ {l:List Tm},(∀ s∈l,0<s.2)→∀ x∈ins l t,0<x.2∧((∃ s∈l,Rl x.2 s.2)∨Rl x.2 t.2)∧(x.2=t.2∨∃ s∈l,x.2=s.2)
 | [],_,x,hx=>by
  have:x=t:=by simpa [ins] using hx
  subst this;exact ⟨ht,.inr (Rl.refl _),.inl rfl⟩
 | s::l,h,x,hx=>by
  have hs:=h s List.mem_cons_self
  unfold ins at hx
  split at hx
  ·next k =>
   rcases List.mem_cons.1 hx with rfl | hx
   ·have c:=xI hs ht k
    exact ⟨c.1,.inl ⟨s,List.mem_cons_self,c.2.1⟩,c.2.2.elim (fun e => .inr ⟨s,List.mem_cons_self,e⟩) .inl⟩
   ·exact ⟨h x (List.mem_cons_of_mem _ hx),.inl ⟨x,List.mem_cons_of_mem _ hx,Rl.refl _⟩,.inr ⟨x,List.mem_cons_of_mem _ hx,rfl⟩⟩
  ·rcases List.mem_cons.1 hx with rfl | hx
   ·exact ⟨hs,.inl ⟨x,List.mem_cons_self,Rl.refl _⟩,.inr ⟨x,List.mem_cons_self,rfl⟩⟩
   ·have ih:=r8 ht (l:=l) (fun y hy=>h y (List.mem_cons_of_mem _ hy)) x hx
    refine ⟨ih.1,ih.2.1.elim (fun ⟨y,hy,e⟩ => .inl ⟨y,List.mem_cons_of_mem _ hy,e⟩) .inr,ih.2.2.elim .inl fun ⟨y,hy,e⟩ => .inr ⟨y,List.mem_cons_of_mem _ hy,e⟩⟩
theorem xJ {t : Tm} (ht : 0 < t.2) : ∀ {l : List Tm}, Red l → Red (ins l t)
 | [], _ => ⟨fun x hx => by have : x = t := by simpa [ins] using hx
                            subst this; exact ht, by simp [ins]⟩
 | s :: l, h => by
   have hs := h.1 s List.mem_cons_self
   have hl : Red l := ⟨fun x hx => h.1 x (List.mem_cons_of_mem _ hx), (List.pairwise_cons.1 h.2).2⟩
   have hn := (List.pairwise_cons.1 h.2).1
   unfold ins
   split
   · next k =>
     have c := xI hs ht k
     refine ⟨fun x hx => ?_, List.pairwise_cons.2 ⟨fun x hx r => hn x hx (c.2.1.symm.trans r), hl.2⟩⟩
     rcases List.mem_cons.1 hx with rfl | hx
     · exact c.1
     · exact hl.1 x hx
   · next k =>
     have ih := xJ ht hl
     refine ⟨fun x hx => ?_, List.pairwise_cons.2 ⟨fun x hx r => ?_, ih.2⟩⟩
     · rcases List.mem_cons.1 hx with rfl | hx
       · exact hs
       · exact ih.1 x hx
     · have m := (r8 ht hl.1 x hx).2.1
       rcases m with ⟨y, hy, e⟩ | e
       · exact hn y hy (r.trans e)
       · exact k ((oF hs ht).2 (r.trans e).symm)
theorem Red.filter {l:List Tm} (h:Red l) (p:Tm→Bool):Red (l.filter p) :=
 ⟨fun s hs=>h.1 s (List.mem_filter.1 hs).1,h.2.filter p⟩
theorem Red.perm {l k:List Tm} (h:Red l) (e:l.Perm k):Red k :=
 ⟨fun s hs=>h.1 s (e.mem_iff.2 hs),(e.pairwise_iff fun {a b} (n:¬ Rl a.2 b.2) (q:Rl b.2 a.2)=>n q.symm).1 h.2⟩
theorem k9 {m:Rat} (hm:0<m):∀ {l:List Tm},(∀ s∈l,0<s.2)→(∀ s∈l,¬ Rl m s.2)→vl m l=0
 | [],_,_=>rfl
 | s::l,h,k=>by
  show co m s+vl m l=0
  rw [k9 hm (fun x hx=>h x (List.mem_cons_of_mem _ hx)) fun x hx=>k x (List.mem_cons_of_mem _ hx),
   AN s.1 hm (h s List.mem_cons_self) fun r=>k s List.mem_cons_self r.symm]
  grind
theorem oG {l:List Tm} (h:Red l) {t:Tm} (ht:t∈l):vl t.2 l=t.1:=by
 obtain ⟨a,b,rfl⟩:=List.append_of_mem ht
 have hp:=h.1 t ht
 have pa:=List.pairwise_append.1 h.2
 have pb:=List.pairwise_cons.1 pa.2.1
 rw [ie,k9 hp (fun s hs=>h.1 s (by simp [hs])) (fun s hs r=>pa.2.2 s hs t List.mem_cons_self r.symm)]
 show 0+(co t.2 t+vl t.2 b)=t.1
 rw [k9 hp (fun s hs=>h.1 s (by simp [hs])) (fun s hs r=>pb.1 s hs r),show co t.2 t=t.1 from r7 t.1 hp]
 grind
theorem EX {l:List Tm} (h:Red l) (hc:∀ t∈l,t.1≠0) (z:∀ m,0<m→vl m l=0):l = []:=by
 cases l with
 | nil=>rfl
 | cons t l =>
  have a:=oG h (t:=t) List.mem_cons_self
  rw [z t.2 (h.1 t List.mem_cons_self)] at a
  exact absurd a.symm (hc t List.mem_cons_self)
noncomputable def pr (m:Rat) (k:List Tm):List Tm→Rat
 | []=>0
 | t::l=>vl m (k.map fun s=>(t.1*s.1,t.2*s.2))+pr m k l
end T
namespace T
open Go.Proofs.YtbhbhlfkdlfimaaGreatDoor
theorem qU {n d : Int} (hd : d ≠ 0) : (Rat.divInt n d).num.natAbs ≤ n.natAbs ∧ (Rat.divInt n d).den ∣ d.natAbs := by
 refine ⟨?_, ?_⟩
 · rw [Rat.num_divInt, Int.natAbs_ediv_of_dvd (by
     refine Int.dvd_trans ?_ (Int.dvd_mul_left _ _)
     exact Int.gcd_dvd_right _ _), Int.natAbs_mul]
   refine Nat.le_trans (Nat.div_le_self _ _) ?_
   have : d.sign.natAbs ≤ 1 := by rcases Int.lt_trichotomy d 0 with q | q | q
                                  · rw [Int.sign_eq_neg_one_of_neg q]; decide
                                  · exact absurd q hd
                                  · rw [Int.sign_eq_one_of_pos q]; decide
   calc _ ≤ 1 * n.natAbs := Nat.mul_le_mul_right _ this
     _ = n.natAbs := Nat.one_mul _
 · rw [Rat.den_divInt, if_neg hd]
   exact Nat.div_dvd_of_dvd (Int.natAbs_dvd_natAbs.2 (Int.gcd_dvd_left d n))
theorem EY (x:Rat):(x.num:Rat)=x*(x.den:Rat):=by
 have h:(x.num:Rat) / (x.den:Rat)=x:=by
  have:=Rat.num_divInt_den x
  rwa [Rat.divInt_eq_div,Rat.intCast_natCast] at this
 have p:(0:Rat)<(x.den:Rat):=Rat.natCast_lt_natCast (a:=0).2 x.den_pos
 conv=>rhs;lhs;rw [←h]
 exact (Rat.div_mul_cancel (by grind)).symm
theorem nP (n:Nat):am n≤n:=by
 have:=(bZ n).1
 rcases Nat.eq_zero_or_pos (am n) with z | z
 ·omega
 ·exact Nat.le_trans (Nat.le_mul_of_pos_left _ z) this
def J (D M:Nat) (x:Rat):Prop:=∃ z:Int,x*(D:Rat)=(z:Rat)∧z.natAbs≤M
theorem J.up {D M M':Nat} {x:Rat} (h:J D M x) (k:M≤M'):J D M' x:=by obtain ⟨z,e,b⟩:=h;exact ⟨z,e,Nat.le_trans b k⟩
theorem J.add {D M M':Nat} {x y:Rat} (h:J D M x) (k:J D M' y):J D (M+M') (x+y):=by
 obtain ⟨z,e,b⟩:=h
 obtain ⟨z',e',b'⟩:=k
 exact ⟨z+z',by rw [Rat.add_mul,e,e',Rat.intCast_add],Nat.le_trans (Int.natAbs_add_le z z') (Nat.add_le_add b b')⟩
theorem J.mul {D M D' M':Nat} {x y:Rat} (h:J D M x) (k:J D' M' y):J (D*D') (M*M') (x*y):=by
 obtain ⟨z,e,b⟩:=h
 obtain ⟨z',e',b'⟩:=k
 refine ⟨z*z',?_,by rw [Int.natAbs_mul];exact Nat.mul_le_mul b b'⟩
 rw [Rat.natCast_mul,Rat.intCast_mul,←e,←e'];grind
theorem J.wide {D M:Nat} {x:Rat} (h:J D M x) (k:Nat):J (D*k) (M*k) x:=by
 obtain ⟨z,e,b⟩:=h
 refine ⟨z*k,?_,by rw [Int.natAbs_mul,Int.natAbs_natCast];exact Nat.mul_le_mul_right k b⟩
 rw [Rat.natCast_mul,Rat.intCast_mul,←e,Rat.intCast_natCast];grind
theorem J.zero (D M:Nat):J D M 0:=⟨0,by rw [Rat.zero_mul];rfl,Nat.zero_le _⟩
theorem J.int (z:Int):J 1 z.natAbs (z:Rat):=⟨z,by rw [show ((1:Nat):Rat)=1 from rfl,Rat.mul_one],Nat.le_refl _⟩
theorem J.parts {D M:Nat} {x:Rat} (hD:0<D) (h:J D M x):x.num.natAbs≤M∧x.den≤D:=by
 obtain ⟨z,e,b⟩:=h
 have d0:((D:Nat):Rat)≠0:=by
  have:=Rat.natCast_lt_natCast (a:=0).2 hD
  intro k;rw [k] at this;exact absurd this (by decide)
 have hx:x=Rat.divInt z (D:Int):=by
  rw [Rat.divInt_eq_div,←e,Rat.intCast_natCast]
  exact (Rat.mul_div_cancel d0).symm
 have l:=qU (n:=z) (d:=(D:Int)) (by omega)
 rw [←hx,Int.natAbs_natCast] at l
 exact ⟨Nat.le_trans l.1 b,Nat.le_of_dvd hD l.2⟩
theorem J.bq {D M k:Nat} {x:Rat} (hD:0<D) (h:J D M x) (h1:M<ak k) (h2:D<ak k):Bq k x :=
 ⟨Nat.lt_of_le_of_lt (h.parts hD).1 h1,Nat.lt_of_le_of_lt (h.parts hD).2 h2⟩
theorem J.root {a b:Nat} (hb:0<b) (h:bG ((a:Rat) / (b:Rat))):J b (a*b) (bf ((a:Rat) / (b:Rat))):=by
 have b0:(0:Rat)<(b:Rat):=Rat.natCast_lt_natCast (a:=0).2 hb
 have e:(a:Rat) / (b:Rat)=Rat.divInt (a:Int) (b:Int):=by rw [Rat.divInt_eq_div,Rat.intCast_natCast,Rat.intCast_natCast]
 have z0:(0:Rat)≤(a:Rat) / (b:Rat):=kw (aP a) b0
 have hz:J b a ((a:Rat) / (b:Rat)):=⟨a,by rw [Rat.intCast_natCast];exact Rat.div_mul_cancel (by grind),by simp⟩
 generalize hq:(a:Rat) / (b:Rat)=q at *
 obtain ⟨n1,d1⟩:=hz.parts hb
 have hdv:q.den∣b:=by
  have:=(qU (n:=(a:Int)) (d:=(b:Int)) (by omega)).2
  rwa [←e,Int.natAbs_natCast] at this
 obtain ⟨s1,s2⟩:=h
 have rd:am q.den∣b:=Nat.dvd_trans ⟨am q.den,s2.symm⟩ hdv
 obtain ⟨k,hk⟩:=rd
 have rp:0<am q.den:=Nat.pos_of_ne_zero fun z=>by rw [z] at s2;have:=q.den_pos;omega
 have rr:bf q*(am q.den:Rat)=(am q.num.natAbs:Rat):=by
  unfold bf
  rw [Rat.mkRat_eq_div,Rat.intCast_natCast]
  have:(0:Rat)<(am q.den:Rat):=Rat.natCast_lt_natCast (a:=0).2 rp
  exact Rat.div_mul_cancel (by grind)
 refine ⟨(am q.num.natAbs*k:Nat),?_,?_⟩
 ·rw [Rat.intCast_natCast,Rat.natCast_mul,←rr]
  conv=>lhs;rw [hk]
  rw [Rat.natCast_mul];grind
 ·rw [Int.natAbs_natCast]
  have h1:am q.num.natAbs≤q.num.natAbs:=nP _
  have h2:k≤b:=by rw [hk];exact Nat.le_mul_of_pos_left _ rp
  exact Nat.mul_le_mul (Nat.le_trans h1 n1) h2
def Nrm (r:Nat):Prop:=0<r∧nC (r:Rat)=1∧nN (r:Rat)=r
theorem fM (r:Nat):((r:Nat):Rat).num.natAbs=r:=by rw [Rat.num_natCast,Int.natAbs_natCast]
theorem oH (r:Nat):((r:Nat):Rat).den=1:=Rat.den_natCast r
theorem cz {r:Nat} (h:0<r):(0:Rat)<(r:Rat):=Rat.natCast_lt_natCast (a:=0).2 h
theorem kz:∀ l:List Nat,(∀ p∈l,2≤p)→ai l 1=(1,1):=fun l h=>iF (by decide) l fun p hp=>by
 have:=h p hp
 exact Nat.lt_of_lt_of_le (by decide:1<2*2) (Nat.mul_le_mul this this)
theorem mW:∀ (l:List Nat) (_:∀ p∈l,2≤p) {n:Nat} (_:0<n) (_:∀ p∈l,¬ p*p∣n),ai l n=(1,n)
 | [],_,_,_,_=>rfl
 | p::l,h,n,hn,hf=>by
  have e:strip p n=(1,n):=fJ fun k=>hf p List.mem_cons_self (Nat.dvd_of_mod_eq_zero k)
  have ih:=mW l (fun q hq=>h q (List.mem_cons_of_mem _ hq)) hn fun q hq=>hf q (List.mem_cons_of_mem _ hq)
  unfold ai
  simp [e,ih]
theorem EZ (q:Rat) (hq:¬ bG q→¬ Sqr (nN q)):Nrm (nN q):=by
 have p:=AJ q
 refine ⟨p,?_⟩
 by_cases hb:bG q
 ·have e:nN q=1:=(jQ hb).2
  rw [e]
  have b1:bG ((1:Nat):Rat):=jd ⟨1,by rw [qS];grind⟩
  obtain ⟨c1,c2⟩:=jQ b1
  refine ⟨?_,c2⟩
  rw [c1]
  exact vW (dL b1) (by decide) (by rw [fK (by rw [qS];decide) b1,qS];grind)
 ·have ns:=hq hb
  have nb:¬ bG ((nN q:Nat):Rat):=fun b=>ns (by
   have:=(mf.1 b).1
   rwa [fM] at this)
  have f:=mW au ck p (xG q)
  refine ⟨?_,?_⟩
  ·unfold nC cN cD
   rw [if_neg nb,if_neg nb,fM,oH,f,kz _ ck]
   show mkRat ((1:Nat):Int) (1*1)=1
   decide+kernel
  ·generalize nN q=m at *
   unfold nN
   rw [if_neg nb,fM,oH,f,kz _ ck]
   show m*1=m
   exact Nat.mul_one _
theorem E0 {q:Rat} (h0:0≤q) (h:¬ bG q):¬ Sqr (nN q):=by
 rintro ⟨r,e⟩
 refine h ((AK h0).2 ⟨nC q*(r:Rat),?_⟩)
 have:=mV h0
 rw [←e,Rat.natCast_mul] at this
 rw [←this];grind
theorem oI {q:Rat} (h0:0≤q):Nrm (nN q):=EZ q (E0 h0)
theorem Nrm.free {r:Nat} (h:Nrm r):∀ p∈au,¬ p*p∣r:=by
 have:=xG (r:Rat)
 rwa [h.2.2] at this
theorem yZ:∀ x,x<100→2≤x→∃ p∈au,p∣x:=by decide+kernel
theorem Nrm.sqf {r:Nat} (h:Nrm r) (hr:r<10000) {x:Nat} (d:x*x∣r):x=1:=by
 have hp:=h.1
 have x0:0<x:=Nat.pos_of_ne_zero fun z=>by subst z;have:=Nat.eq_zero_of_zero_dvd d;omega
 have hx:x<100:=by
  rcases Nat.lt_or_ge x 100 with l | l
  ·exact l
  ·exfalso
   have:=Nat.mul_le_mul l l
   have:=Nat.le_of_dvd hp d
   omega
 rcases Nat.lt_or_ge x 2 with l | l
 ·omega
 ·exfalso
  obtain ⟨p,hm,hd⟩:=yZ x hx l
  exact h.free p hm (Nat.dvd_trans (Nat.mul_dvd_mul hd hd) d)
theorem qV {a b:Nat} (ha:Nrm a) (hb:Nrm b) (la:a<10000) (lb:b<10000) (h:bG ((a:Rat) / (b:Rat))):a=b:=by
 have b0:=cz hb.1
 have r2:=fK (kw (aP a) b0) h
 generalize bf ((a:Rat) / (b:Rat))=r at r2
 have e:r*r*(b:Rat)=(a:Rat):=by rw [r2];exact Rat.div_mul_cancel (by grind)
 have rn:=EY r
 have e2:(r.num:Rat)*r.num*(b:Rat)=(a:Rat)*((r.den:Rat)*r.den):=by rw [rn,←e];grind
 have e3:r.num.natAbs*r.num.natAbs*b=a*(r.den*r.den):=by
  have h1:r.num*r.num*(b:Int)=(a:Int)*((r.den:Int)*r.den):=by
   rw [←Rat.intCast_natCast,←Rat.intCast_natCast,←Rat.intCast_natCast,←Rat.intCast_mul,←Rat.intCast_mul,←Rat.intCast_mul,←Rat.intCast_mul] at e2
   exact Rat.intCast_inj.1 e2
  have h2:=congrArg Int.natAbs h1
  rwa [Int.natAbs_mul,Int.natAbs_mul,Int.natAbs_mul,Int.natAbs_mul,Int.natAbs_natCast,Int.natAbs_natCast,Int.natAbs_natCast] at h2
 have c:Nat.Coprime (r.num.natAbs*r.num.natAbs) (r.den*r.den):=by
  have:=r.reduced
  exact (Nat.Coprime.mul_left this this).mul_right (Nat.Coprime.mul_left this this)
 have d1:r.num.natAbs*r.num.natAbs∣a:=by
  refine c.dvd_of_dvd_mul_right ?_
  exact ⟨b,e3.symm⟩
 have d2:r.den*r.den∣b:=by
  refine c.symm.dvd_of_dvd_mul_left ?_
  exact ⟨a,by rw [e3,Nat.mul_comm]⟩
 have n1:=ha.sqf la d1
 have n2:=hb.sqf lb d2
 rw [n1,n2] at e3
 omega
end T
end Go.Proofs.YtbhbhlfkdlfimaaGreatDoor
