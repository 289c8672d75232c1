/- Parts of the proof of the text YtjdomibbaemdnaaGreatDoorZK42. -/
import Derived.Test.YtjdomibbaemdnaaGreatDoorZK1
import Derived.Test.YtjdomibbaemdnaaGreatDoorZK16
import Derived.Test.YtjdomibbaemdnaaGreatDoorZK17
import Derived.Test.YtjdomibbaemdnaaGreatDoorZK20
import Derived.Test.YtjdomibbaemdnaaGreatDoorZK21
import Derived.Test.YtjdomibbaemdnaaGreatDoorZK22
import Derived.Test.YtjdomibbaemdnaaGreatDoorZK7
import Derived.Test.YtjdomibbaemdnaaGreatDoorZK8
import Derived.Test.YtjdomibbaemdnaaGreatDoorZK9
set_option linter.all false
set_option maxRecDepth 100000
set_option maxHeartbeats 8000000
namespace Go.Proofs.YtjdomibbaemdnaaGreatDoor
section
open Go.RowKit
def qM:Option Int→Option Int→ByteArray
 | some n,some d=>ah (Rat.divInt n d)
 | _,_=>⟨#[]⟩
def qN:Option Int→Option Int→Int
 | some _,some _=>0
 | _,_=>4
theorem pt (a b c d:Int) (w:World) (ha:B18 a) (hb:B18 b) (hc:B18 c) (hd:B18 d) :
  Calls Tryz.prog 141 #[.agg #[.int .i64 a,.int .i64 b],.agg #[.int .i64 c,.int .i64 d]] w fun e W'=>e = .returned (.agg #[.int .i64 (aN a c),.int .i64 (aN b d)])∧Below w.heap.size w W':=by
 have q0:=fun W=>still (ir a c W ha.lo ha.hi hc.lo hc.hi)
 have q1:=fun W=>still (ir b d W hb.lo hb.hi hd.lo hd.hi)
 have C:=Ha (Hb q0 (Hb q1 trivial))
 clear q0 q1 ha hb hc hd
 go_enter Tryz.func141,Tryz.ntmps141
 go_wp2
 have hbx:=bR w (.int .i64 a) (.int .i64 b) (.int .i64 c) (.int .i64 d) (.int .i64 0) (.int .i64 0) 136
 generalize ((w.alloc (.cells #[.int .i64 a,.int .i64 b] 136)).alloc (.cells #[.int .i64 c,.int .i64 d] 136)).alloc (.cells #[.int .i64 0,.int .i64 0] 136)=W0 at *
 generalize hk:w.heap.size=k at *
 have HK:=Ha hk;clear hk
 have HBD:=Ha hbx.drew
 clear hbx
 obtain ⟨c1,c2,c3,c4,c5,c6,f5,f6,_,_⟩:=HBD.out
 have m1:=oD
 have en1:∀ args W,(callFunc 277 args).run Tryz.prog W = .ok (.enter 277 args) W:=enters_of Tryz.func277 (by kernel_rfl) rfl
 go_still_tail 12,(by kernel_rfl)
 still_call (C.out.1 _)
 repeat still_step
 still_call (C.out.2.1 _)
 repeat still_step
 refine wpStill_nil ?_
 change wpList _ _ _ _ _ W0.drew
 clear c1 c2 c3 c4
 generalize W0.drew=W2 at *
 obtain ⟨g5,g6⟩:=au c5 c6 (.int .i64 (aN a c)) (.int .i64 (aN b d))
 go_wp2
 refine bodyPost_ret (v := .agg #[.int .i64 (aN a c),.int .i64 (aN b d)]) (by simp [results,Tryz.results141,go_sem,g5,g6]) rfl ?_
 refine ⟨rfl,?_⟩
 rw [HK.out]
 exact ((HBD.out.below).setCell (p:=⟨k+1+1,0,none⟩) (by show k≤k+1+1;omega) _).setCell (p:=⟨k+1+1,1,none⟩) (by show k≤k+1+1;omega) _
theorem sr (a b c d:Int) (w:World) (ha:B18 a) (hb:B18 b) (hc:B18 c) (hd:B18 d) :
  Calls Tryz.prog 73 #[.agg #[.int .i64 a,.int .i64 b],.agg #[.int .i64 c,.int .i64 d]] w fun e W'=>e = .returned (.agg #[.int .i64 (aN a d),.int .i64 (aN c b)])∧Below w.heap.size w W':=by
 have q0:=fun W=>still (ir a d W ha.lo ha.hi hd.lo hd.hi)
 have q1:=fun W=>still (ir c b W hc.lo hc.hi hb.lo hb.hi)
 have C:=Ha (Hb q0 (Hb q1 trivial))
 clear q0 q1 ha hb hc hd
 go_enter Tryz.func73,Tryz.ntmps73
 go_wp2
 have hbx:=bR w (.int .i64 a) (.int .i64 b) (.int .i64 c) (.int .i64 d) (.int .i64 0) (.int .i64 0) 136
 generalize ((w.alloc (.cells #[.int .i64 a,.int .i64 b] 136)).alloc (.cells #[.int .i64 c,.int .i64 d] 136)).alloc (.cells #[.int .i64 0,.int .i64 0] 136)=W0 at *
 generalize hk:w.heap.size=k at *
 have HK:=Ha hk;clear hk
 have HBD:=Ha hbx.drew
 clear hbx
 obtain ⟨c1,c2,c3,c4,c5,c6,f5,f6,_,_⟩:=HBD.out
 have m1:=oD
 have en1:∀ args W,(callFunc 277 args).run Tryz.prog W = .ok (.enter 277 args) W:=enters_of Tryz.func277 (by kernel_rfl) rfl
 go_still_tail 12,(by kernel_rfl)
 still_call (C.out.1 _)
 repeat still_step
 still_call (C.out.2.1 _)
 repeat still_step
 refine wpStill_nil ?_
 change wpList _ _ _ _ _ W0.drew
 clear c1 c2 c3 c4
 generalize W0.drew=W2 at *
 obtain ⟨g5,g6⟩:=au c5 c6 (.int .i64 (aN a d)) (.int .i64 (aN c b))
 go_wp2
 refine bodyPost_ret (v := .agg #[.int .i64 (aN a d),.int .i64 (aN c b)]) (by simp [results,Tryz.results73,go_sem,g5,g6]) rfl ?_
 refine ⟨rfl,?_⟩
 rw [HK.out]
 exact ((HBD.out.below).setCell (p:=⟨k+1+1,0,none⟩) (by show k≤k+1+1;omega) _).setCell (p:=⟨k+1+1,1,none⟩) (by show k≤k+1+1;omega) _
theorem fi {z:Int} (h:z.natAbs<9223372036854775808):short z :=
 Nat.lt_of_lt_of_le (Nat.lt_of_lt_of_le h (by decide:9223372036854775808≤aO 19)) (aP (by decide:19≤300))
theorem j6 {a b:Int} (h:aN a b≠bE):aN a b=a*b∧(a*b).natAbs<4611686018427387904:=by
 unfold aN at h ⊢
 by_cases c:(a*b).natAbs<4611686018427387904
 ·rw [if_pos c];exact ⟨rfl,c⟩
 ·rw [if_neg c] at h;exact absurd rfl h
theorem MOK.lo {x:Int} (h:MOK x) : -9223372036854775808≤x:=by
 rcases h with h | h
 ·rw [h];unfold bE;omega
 ·omega
theorem MOK.hi {x:Int} (h:MOK x):x≤9223372036854775807:=by
 rcases h with h | h
 ·rw [h];unfold bE;omega
 ·omega
theorem qO {n d:Int} (h:j5 n d=0):n≠bE∧d≠bE:=by
 unfold j5 at h
 by_cases c:n=bE∨d=bE
 ·rw [if_pos c] at h;cases h
 ·rwa [not_or] at c
theorem tK {n d:Int} (h1:n≠bE) (h2:d≠bE):qH n d=ah (Rat.divInt n d):=if_neg (by rintro (h | h);exact h1 h;exact h2 h)
theorem qP {a b:Int} (ha:a≠0) (hb:b≠0):aN a b≠0:=by
 unfold aN
 split
 ·intro h
  rcases Int.mul_eq_zero.1 h with h | h
  ·exact ha h
  ·exact hb h
 ·unfold bE;omega
theorem mT (x:Rat):(x.den:Int)≠0:=by have:=x.den_nz;omega
theorem qQ {n d:Int} (h1:short n) (h2:short d):nO n d=ah (Rat.divInt n d)∧nP n d=0:=⟨if_pos ⟨h1,h2⟩,if_pos ⟨h1,h2⟩⟩
theorem yj (x y:Rat) (h:j5 (aN x.num y.num) (aN x.den y.den)=0):qH (aN x.num y.num) (aN x.den y.den)=nQ x y∧nR x y=0:=by
 obtain ⟨h1,h2⟩:=qO h
 rw [tK h1 h2]
 obtain ⟨e1,b1⟩:=j6 h1
 obtain ⟨e2,b2⟩:=j6 h2
 rw [e1,e2]
 obtain ⟨l1,l2⟩:=qQ (n:=x.num*y.num) (d:=x.den*y.den) (fi (by omega)) (fi (by omega))
 unfold nQ nR
 rw [l1,l2]
 exact ⟨rfl,rfl⟩
theorem yk (x y:Rat) (h:j5 (aN x.num y.den) (aN y.num x.den)=0):qH (aN x.num y.den) (aN y.num x.den)=jz x y∧jA x y=0:=by
 obtain ⟨h1,h2⟩:=qO h
 rw [tK h1 h2]
 obtain ⟨e1,b1⟩:=j6 h1
 obtain ⟨e2,b2⟩:=j6 h2
 rw [e1,e2]
 obtain ⟨l1,l2⟩:=qQ (n:=x.num*y.den) (d:=y.num*x.den) (fi (by omega)) (fi (by omega))
 unfold jz jA
 rw [l1,l2]
 exact ⟨rfl,rfl⟩
theorem gG (f:Int→Int→Int) (a b:Int):opL f (some a) (some b)=mkL (f a b):=rfl
theorem uK (o:Option Int):qM none o=⟨#[]⟩∧qN none o=4:=by cases o <;> exact ⟨rfl,rfl⟩
theorem tL (n d:Int):qM (mkL n) (mkL d)=nO n d∧qN (mkL n) (mkL d)=nP n d:=by
 unfold nO nP mkL
 by_cases h1:short n
 ·by_cases h2:short d
  ·rw [if_pos h1,if_pos h2,if_pos (show short n∧short d from ⟨h1,h2⟩),if_pos (show short n∧short d from ⟨h1,h2⟩)];exact ⟨rfl,rfl⟩
  ·rw [if_pos h1,if_neg h2,if_neg (show ¬ (short n∧short d) from fun h=>h2 h.2),if_neg (show ¬ (short n∧short d) from fun h=>h2 h.2)];exact ⟨rfl,rfl⟩
 ·rw [if_neg h1,if_neg (show ¬ (short n∧short d) from fun h=>h1 h.1),if_neg (show ¬ (short n∧short d) from fun h=>h1 h.1)];exact uK _
theorem tM (x y:Rat):qM (opL (· * ·) (some x.num) (some y.num)) (opL (· * ·) (some x.den) (some y.den))=nQ x y∧qN (opL (· * ·) (some x.num) (some y.num)) (opL (· * ·) (some x.den) (some y.den))=nR x y:=by
 rw [gG,gG]
 exact tL _ _
theorem tN (x y:Rat):qM (opL (· * ·) (some x.num) (some y.den)) (opL (· * ·) (some y.num) (some x.den))=jz x y∧qN (opL (· * ·) (some x.num) (some y.den)) (opL (· * ·) (some y.num) (some x.den))=jA x y:=by
 rw [gG,gG]
 exact tL _ _
end
section
open Go.Lib
theorem fI (z:Int):ah (z:Rat)=aa z:=by
 unfold ah aa cQ
 rw [Rat.den_intCast,if_pos rfl,Rat.num_intCast]
theorem dL:ah 0=⟨#[48]⟩:=by
 have h:=fI 0
 rw [Rat.intCast_zero] at h
 rw [h];exact gp 0 [48] fp
theorem uL (l m:List UInt8) (h:l ≠ []):ap (l++m)=ap l:=by
 cases l with
 | nil=>exact absurd rfl h
 | cons a t=>rfl
theorem mh (z:Int):itoa z ≠ []:=fun h=>by
 have h1:=fC z
 rw [h,show chk []=11 by decide] at h1
 split at h1 <;> omega
theorem qR (q:Rat):ap (ah q).data.toList=decide (q<0):=by
 have h:decide (q<0)=decide (q.num<0):=by
  apply decide_eq_decide.2
  rw [←Rat.not_le,←Rat.num_nonneg];omega
 rw [bH,h]
 unfold cQ
 split
 ·rw [a6]
 ·rw [uL _ _ (mh _),a6]
theorem wj (q:Rat):0<(ah q).size:=by
 rw [←ac,bH]
 have h:=List.length_pos_iff.2 (mh q.num)
 unfold cQ
 split
 ·exact h
 ·rw [List.length_append];omega
theorem qS (x y:Rat):((ah x).toList==(ah y).toList)=decide (x=y):=by
 by_cases h:x=y
 ·subst h;simp
 ·rw [decide_eq_false h,beq_eq_false_iff_ne,ByteArray.toList_eq,ByteArray.toList_eq,bH,bH]
  exact fun e=>h (ux e)
theorem j7 (x:Rat):((ah x).toList == [48])=decide (x=0):=by
 have h:=qS x 0
 rw [dL,ByteArray.toList_eq ⟨#[48]⟩] at h
 exact h
theorem pw {k:Nat} {z:Int} (hk:1≤k) (h:Bd k z):Bq k (z:Rat):=by
 refine ⟨by rw [Rat.num_intCast];exact h,?_⟩
 rw [Rat.den_intCast]
 exact Nat.lt_of_lt_of_le (by decide) (aP hk)
theorem j8 (z:Int):0<(aa z).size:=by
 rw [←ac,ay]
 exact List.length_pos_iff.2 (mh z)
end
section
open Go.RowKit
def Sq (x:Rat):Prop:=x.num.natAbs<lim∧x.den<lim
theorem Sq.n {x:Rat} (h:Sq x):short x.num:=h.1
theorem Sq.d {x:Rat} (h:Sq x):short (x.den:Int):=by show Int.natAbs _<lim;rw [Int.natAbs_natCast];exact h.2
theorem py (x:Rat):bN (ah x)=aa x.num:=aY (by rw [dE,bH,ay,(cW x).1])
theorem pz (x:Rat):bD (ah x)=aa (x.den:Int):=aY (by rw [cM,bH,ay,(cW x).2.1])
theorem gH (x:Rat):valOf (bj (ah x).data.toList)=x.num∧valOf (aH (ah x).data.toList)=x.den:=by
 rw [bH,(cW x).1,(cW x).2.1,cG,cG];exact ⟨rfl,rfl⟩
theorem Sq.chk {x:Rat} (h:Sq x):aM (ah x).data.toList=0:=rS h.1 h.2
theorem Sq.size {x:Rat} (h:Sq x):(ah x).size≤maxLen:=by
 have h1:=aG h.n
 have h2:=aG h.d
 rw [←ac,ay] at h1 h2
 rw [←ac,bH]
 unfold cQ maxLen
 split
 ·omega
 ·rw [List.length_append,List.length_cons];omega
theorem mU (x:Rat) (w:World) (hx:Sq x) (ht:Tab w) :
  Calls Tryz.prog 106 #[.string (ah x)] w fun e W'=>e = .returned (.tuple #[.agg #[.string (aa x.num),.int .i64 0,.string (aa (x.den:Int)),.int .i64 0],.int .i64 0])∧Below w.heap.size w W':=by
 have c:=j4 (ah x) w hx.size ht
 obtain ⟨q1,q2⟩:=po hx.chk
 rwa [q1,q2,py,pz,hx.chk] at c
theorem tO {x:Rat} (h:mOK (ah x).data.toList=true):B18 x.num∧B18 (x.den:Int):=by
 have:=(tH h).2
 rwa [(gH x).1,(gH x).2] at this
theorem mV (x y:Rat) (p q:Nat) (rM:ByteArray) (eM:Int) (B:ByteArray) (E:Int) (w:World) (hx:Sq x) (hy:Sq y) (ht:Tab w) (ht2:aW w)
  (hs:B18 x.num→B18 (x.den:Int)→B18 y.num→B18 (y.den:Int)→CqB w 128 #[.agg #[.int .i64 x.num,.int .i64 (x.den:Int)],.agg #[.int .i64 y.num,.int .i64 (y.den:Int)],.pointer (some ⟨p,0,none⟩)] (.tuple #[.string rM,.int .i64 eM]))
  (hok:eM=0→rM=B∧E=0)
  (hl:CqB w 130 #[.agg #[.string (aa x.num),.int .i64 0,.string (aa (x.den:Int)),.int .i64 0],.agg #[.string (aa y.num),.int .i64 0,.string (aa (y.den:Int)),.int .i64 0],.pointer (some ⟨q,0,none⟩)] (.tuple #[.string B,.int .i64 E])) :
  Calls Tryz.prog 71 #[.string (ah x),.string (ah y),.func (.func 128) #[] #[.pointer (some ⟨p,0,none⟩)],.func (.func 130) #[] #[.pointer (some ⟨q,0,none⟩)]] w fun e W'=>e = .returned (.tuple #[.string B,.int .i64 E])∧Below w.heap.size w W':=by
 have el:∀ args W,(callFunc 130 args).run Tryz.prog W = .ok (.enter 130 args) W:=enters_of Tryz.func130 (by kernel_rfl) rfl
 have es:∀ args W,(callFunc 128 args).run Tryz.prog W = .ok (.enter 128 args) W:=enters_of Tryz.func128 (by kernel_rfl) rfl
 have ra:=fun W (hW:Below w.heap.size w W)=>mU x W hx (ht.next hW)
 have rb:=fun W (hW:Below w.heap.size w W)=>mU y W hy (ht.next hW)
 by_cases o:mOK (ah x).data.toList=true∧mOK (ah y).data.toList=true
 ·have hm:=fun W (hW:Below w.heap.size w W)=>lf (ah x) (ah y) W hx.size hy.size o.1 o.2 (ai ht2 hW)
  simp only [(gH x).1,(gH x).2,(gH y).1,(gH y).2] at hm
  have hs:=hs (tO o.1).1 (tO o.1).2 (tO o.2).1 (tO o.2).2
  by_cases he:eM=0
  ·obtain ⟨h1,h2⟩:=hok he
   subst h1;subst h2;subst he
   exact mS _ _ p q _ _ _ _ _ _ _ w hm es hs
  ·exact om _ _ p q _ _ _ _ _ _ _ _ _ _ _ _ _ _ w (bc he).1 (bc he).2 hm es hs ra rb el hl
 ·have hm:=fun W (hW:Below w.heap.size w W)=>mc (ah x) (ah y) W hx.size hy.size o (ai ht2 hW)
  exact oo _ _ p q _ _ _ _ _ _ _ _ w hm ra rb el hl
theorem B18.ok {z:Int} (h:B18 z):z.natAbs<4611686018427387904:=by unfold B18 at h;omega
theorem pA {x:Rat} (h:Sq x):Lwf (some (x.den:Int)):=fU h.d
theorem pB {x:Rat} (h:Sq x):Lwf (some x.num):=fU h.n
theorem yl (x y:Rat):opL (· * ·) (some (x.den:Int)) (some (y.den:Int))≠some 0:=by
 rw [gG]
 unfold mkL
 intro h
 split at h
 ·have h1:=Option.some.inj h
  rcases Int.mul_eq_zero.1 h1 with q | q
  ·exact mT x q
  ·exact mT y q
 ·cases h
theorem ym {x y:Rat} (hy:y≠0):opL (· * ·) (some y.num) (some (x.den:Int))≠some 0:=by
 rw [gG]
 unfold mkL
 intro h
 split at h
 ·have h1:=Option.some.inj h
  rcases Int.mul_eq_zero.1 h1 with q | q
  ·exact hy (Rat.num_eq_zero.1 q)
  ·exact mT x q
 ·cases h
theorem uM (x y:Rat) (p:Nat) (w:World) (bx:B18 x.num) (cx:B18 (x.den:Int)) (by_:B18 y.num) (cy:B18 (y.den:Int)) (hb:Blk w p #[.func (.func 141) #[] #[]]) (ht:Tab w) (ht2:aW w) :
  Calls Tryz.prog 128 #[.agg #[.int .i64 x.num,.int .i64 (x.den:Int)],.agg #[.int .i64 y.num,.int .i64 (y.den:Int)],.pointer (some ⟨p,0,none⟩)] w fun e W'=>e = .returned (.tuple #[.string (qH (aN x.num y.num) (aN x.den y.den)),.int .i64 (j5 (aN x.num y.num) (aN x.den y.den))])∧Below w.heap.size w W' :=
 oG 141 p _ _ _ _ _ _ _ _ w (enters_of Tryz.func141 (by kernel_rfl) rfl) hb (fun W _=>pt _ _ _ _ W bx cx by_ cy)
  (fun W hW=>lR _ _ W (dK _ _).lo (dK _ _).hi (dK _ _).lo (dK _ _).hi (qP (mT x) (mT y)) (ht.next hW) (ai ht2 hW))
theorem uP (a b r:ByteArray) (e0:Int) (w:World)
  (h:∀ W p q,Below w.heap.size w W→Blk W p #[.func (.func 141) #[] #[]]→Blk W q #[.func (.func 142) #[] #[]]→Calls Tryz.prog 71 #[.string a,.string b,.func (.func 128) #[] #[.pointer (some ⟨p,0,none⟩)],.func (.func 130) #[] #[.pointer (some ⟨q,0,none⟩)]] W fun e W'=>e = .returned (.tuple #[.string r,.int .i64 e0])∧Below W.heap.size W W') :
  Calls Tryz.prog 90 #[.string a,.string b] w fun e W'=>e = .returned (.tuple #[.string r,.int .i64 e0])∧Below w.heap.size w W':=by
 have C:=Ha (Hb h (Hb (fun W=>lP 141 W) (fun W=>lQ 142 W)));clear h
 go_enter Tryz.func90,Tryz.ntmps90
 go_wp2_with fail
 refine (C.out.2.1 _).mono ?_
 rintro e w1 ⟨rfl,k0,b⟩
 have H1:=Ha (Hb k0 b);clear k0 b
 go_wp2_with fail
 refine (C.out.2.2 _).mono ?_
 rintro e w2 ⟨rfl,k1,b⟩
 have H2:=Ha (Hb (H1.out.1.next b) (Hb k1 (H1.out.2.trans (b.mono H1.out.2.size))));clear k1 b H1
 go_wp2_with fail
 refine (C.out.1 _ _ _ H2.out.2.2 H2.out.1 H2.out.2.1).mono ?_
 rintro e w3 ⟨rfl,b⟩
 have H3:=Ha (H2.out.2.2.trans (b.mono H2.out.2.2.size));clear b
 go_wp2
 go_ret2
 exact ⟨rfl,H3.out⟩
theorem uQ (x y:Rat) (p:Nat) (w:World) (bx:B18 x.num) (cx:B18 (x.den:Int)) (by_:B18 y.num) (cy:B18 (y.den:Int)) (h0:y≠0) (hb:Blk w p #[.func (.func 73) #[] #[]]) (ht:Tab w) (ht2:aW w) :
  Calls Tryz.prog 128 #[.agg #[.int .i64 x.num,.int .i64 (x.den:Int)],.agg #[.int .i64 y.num,.int .i64 (y.den:Int)],.pointer (some ⟨p,0,none⟩)] w fun e W'=>e = .returned (.tuple #[.string (qH (aN x.num y.den) (aN y.num x.den)),.int .i64 (j5 (aN x.num y.den) (aN y.num x.den))])∧Below w.heap.size w W' :=
 oG 73 p _ _ _ _ _ _ _ _ w (enters_of Tryz.func73 (by kernel_rfl) rfl) hb (fun W _=>sr _ _ _ _ W bx cx by_ cy)
  (fun W hW=>lR _ _ W (dK _ _).lo (dK _ _).hi (dK _ _).lo (dK _ _).hi (qP (fun e=>h0 (Rat.num_eq_zero.1 e)) (mT x)) (ht.next hW) (ai ht2 hW))
theorem uS (a b r:ByteArray) (e0:Int) (hz:(b.toList == [48])=false) (hz':(b.toList != [48])=true) (w:World)
  (h:∀ W p q,Below w.heap.size w W→Blk W p #[.func (.func 73) #[] #[]]→Blk W q #[.func (.func 75) #[] #[]]→Calls Tryz.prog 71 #[.string a,.string b,.func (.func 128) #[] #[.pointer (some ⟨p,0,none⟩)],.func (.func 130) #[] #[.pointer (some ⟨q,0,none⟩)]] W fun e W'=>e = .returned (.tuple #[.string r,.int .i64 e0])∧Below W.heap.size W W') :
  Calls Tryz.prog 34 #[.string a,.string b] w fun e W'=>e = .returned (.tuple #[.string r,.int .i64 e0])∧Below w.heap.size w W':=by
 have C:=Ha (Hb h (Hb (fun W=>lP 73 W) (fun W=>lQ 75 W)));clear h
 go_enter Tryz.func34,Tryz.ntmps34
 go_wp2_with fail
 refine (C.out.2.1 _).mono ?_
 rintro e w1 ⟨rfl,k0,b⟩
 have H1:=Ha (Hb k0 b);clear k0 b
 go_wp2_with fail
 refine (C.out.2.2 _).mono ?_
 rintro e w2 ⟨rfl,k1,b⟩
 have H2:=Ha (Hb (H1.out.1.next b) (Hb k1 (H1.out.2.trans (b.mono H1.out.2.size))));clear k1 b H1
 go_wp2_with fail
 refine (C.out.1 _ _ _ H2.out.2.2 H2.out.1 H2.out.2.1).mono ?_
 rintro e w3 ⟨rfl,b⟩
 have H3:=Ha (H2.out.2.2.trans (b.mono H2.out.2.2.size));clear b
 go_wp2
 go_ret2
 exact ⟨rfl,H3.out⟩
end
namespace T
open Go.Proofs.YtjdomibbaemdnaaGreatDoor Go
def ckR (l:List UInt8):Int:=if aM l=0 then (if (bZ l).num.natAbs<aO 90∧(bZ l).den<aO 90 then 0 else 4) else aM l
theorem wk {l:List UInt8} (h:ckR l=0):aM l=0∧Bq 90 (bZ l):=by
 unfold ckR at h
 by_cases h1:aM l=0
 ·rw [if_pos h1] at h
  by_cases h2:(bZ l).num.natAbs<aO 90∧(bZ l).den<aO 90
  ·exact ⟨h1,h2⟩
  ·rw [if_neg h2] at h;cases h
 ·rw [if_neg h1] at h;exact absurd h h1
theorem mi {s:ByteArray} (h:ckR s.data.toList=0):∃ x:Rat,s=ah x∧Bq 90 x:=⟨_,eO (wk h).1,(wk h).2⟩
def lfP (q:Rat):Nat:=q.num.natAbs*q.den
theorem ss {q:Rat} (h:0<q):0<q.num.natAbs:=by
 have h1:=Rat.num_nonneg.2 (Rat.le_of_lt h)
 refine Nat.pos_of_ne_zero fun z => ?_
 have e:q.num=0:=by omega
 rw [Rat.num_eq_zero.1 e] at h
 exact absurd h (by decide)
theorem yn {q:Rat} (h:0<q) {t:Nat} (ht:t*t=(ad af (lfP q)).2):nN q=1∧nC q=mkRat (((ad af (lfP q)).1*t:Nat):Int) q.den:=by
 have hn:=ss h
 have hs:Sqr (ad af (lfP q)).2:=⟨t,ht⟩
 have hb:=(rU hn q.den_pos q.reduced af gU).1 hs
 have hB:cj q:=jr.2 hb
 obtain ⟨a1,_⟩:=aV af fS (Nat.mul_pos hn q.den_pos)
 have k:=xI (n:=q.num.natAbs) (d:=q.den) q.den_pos q.reduced hB.1 hB.2 a1 ht
 refine ⟨by unfold nN;rw [if_pos hB],?_⟩
 unfold nC cN cD
 rw [if_pos hB,if_pos hB]
 exact k.1.symm
theorem zS {q:Rat} (h:0<q) (ht:¬ Sqr (ad af (lfP q)).2):nN q=(ad af (lfP q)).2∧nC q=mkRat (((ad af (lfP q)).1:Nat):Int) q.den:=by
 have hn:=ss h
 have hB:¬ cj q:=fun k=>ht ((rU hn q.den_pos q.reduced af gU).2 (jr.1 k))
 have k:=un hn q.den_pos q.reduced af gU
 refine ⟨by unfold nN;rw [if_neg hB];exact k.2.1.symm,?_⟩
 unfold nC cN cD
 rw [if_neg hB,if_neg hB]
 exact k.1.symm
end T
namespace T
open Go.RowKit
theorem sw (a b r:ByteArray) (e0:Int) (w:World)
  (h:Calls Tryz.prog 113 #[.string a,.string b] w fun e W'=>e = .returned (.tuple #[.string r,.int .i64 e0])∧Below w.heap.size w W') :
  Calls Tryz.prog 60 #[.string a,.string b] w fun e W'=>e = .returned (.string r)∧Below w.heap.size w W':=by
 have C:=Ha h;clear h
 go_enter Tryz.func60,Tryz.ntmps60
 go_wp2_with fail
 refine C.out.mono ?_
 rintro e w1 ⟨rfl,b⟩
 have H1:=Ha b;clear b
 go_wp2
 go_ret
 exact ⟨rfl,H1.out⟩
theorem qT (a b r s:ByteArray) (e0:Int) (w:World)
  (h:Calls Tryz.prog 132 #[.string a,.string b] w fun e W'=>e = .returned (.tuple #[.string r,.string s,.int .i64 e0])∧Below w.heap.size w W') :
  Calls Tryz.prog 78 #[.string a,.string b] w fun e W'=>e = .returned (.tuple #[.string r,.string s])∧Below w.heap.size w W':=by
 have C:=Ha h;clear h
 go_enter Tryz.func78,Tryz.ntmps78
 go_wp2_with fail
 refine C.out.mono ?_
 rintro e w1 ⟨rfl,b⟩
 have H1:=Ha b;clear b
 go_wp2
 go_ret2
 exact ⟨rfl,H1.out⟩
theorem qU (a r:ByteArray) (e0:Int) (w:World)
  (h:Calls Tryz.prog 126 #[.string a] w fun e W'=>e = .returned (.tuple #[.string r,.int .i64 e0])∧Below w.heap.size w W') :
  Calls Tryz.prog 70 #[.string a] w fun e W'=>e = .returned (.string r)∧Below w.heap.size w W':=by
 have C:=Ha h;clear h
 go_enter Tryz.func70,Tryz.ntmps70
 go_wp2_with fail
 refine C.out.mono ?_
 rintro e w1 ⟨rfl,b⟩
 have H1:=Ha b;clear b
 go_wp2
 go_ret
 exact ⟨rfl,H1.out⟩
theorem sA (x y:Int) (w:World) (hx:short x) (hy:short y) (hz:short (x*y)) (ht:Tab w) :
  Calls Tryz.prog 60 #[.string (aa x),.string (aa y)] w fun e W'=>e = .returned (.string (aa (x*y)))∧Below w.heap.size w W' :=
 sw _ _ _ _ w (zq x y w hx hy hz ht)
theorem tP (x y:Int) (w:World) (hx:short x) (hy:short y) (h0:y≠0) (ht:Tab w) :
  Calls Tryz.prog 78 #[.string (aa x),.string (aa y)] w fun e W'=>e = .returned (.tuple #[.string (aa (x.fdiv y)),.string (aa (x.fmod y))])∧Below w.heap.size w W' :=
 qT _ _ _ _ _ w (lF x y w hx hy h0 ht)
theorem tQ (x:Int) (w:World) (h0:0≤x) (hx:short x) (ht:Tab w) :
  Calls Tryz.prog 70 #[.string (aa x)] w fun e W'=>e = .returned (.string (aa (aj x.natAbs:Nat)))∧Below w.heap.size w W' :=
 qU _ _ _ w (vX x w h0 hx ht)
end T
end Go.Proofs.YtjdomibbaemdnaaGreatDoor
