/- Parts of the proof of the text YtjdomibbaemdnaaGreatDoorZK42. -/
import Derived.Deep.RegionHeld3
import Derived.Test.YtjdomibbaemdnaaGreatDoorZK1
import Derived.Test.YtjdomibbaemdnaaGreatDoorZK5
set_option linter.all false
set_option maxRecDepth 100000
set_option maxHeartbeats 8000000
namespace Go.Proofs.YtjdomibbaemdnaaGreatDoor
open Go.RowKit
theorem oW (args:Array Value) (W:World):(callFunc 234 args).run Tryz.prog W = .ok (.enter 234 args) W:=enters_of Tryz.func234 (by kernel_rfl) rfl args W
theorem vD (args:Array Value) (W:World):(callFunc 238 args).run Tryz.prog W = .ok (.enter 238 args) W:=enters_of Tryz.func238 (by kernel_rfl) rfl args W
theorem rP:tf 234 ec:=fun x y c W hx hy hc=>jy x y c W hx hy hc
theorem xD:tf 238 gn:=fun x y c W hx hy hc=>ow x y c W hx hy hc
theorem mu (va vb:Value) (a b:Nat) (w:World) (ha:IsNat w va a) (hb:IsNat w vb b) (hla:(dg a).length≤1000000) (hlb:(dg b).length≤1000000) :
  Calls Tryz.prog 212 #[va,vb] w fun e W'=>∃ v,e = .returned v∧IsNat W' v (a+b)∧Fresh w.heap.size v∧Below w.heap.size w W':=by
 obtain ⟨pa,ca,rfl,a1,a2,_⟩:=id ha
 obtain ⟨pb,cb,rfl,b1,b2,_⟩:=id hb
 by_cases hlt:(dg a).length<(dg b).length
 ·have c:=iP 234 ec rP uc oW pb pa cb ca (dg b) (dg a) w hb ha (aq b) (aq a) hlb
  rw [oT (aq b) (aq a) (by omega),ar,ar,Nat.add_comm] at c
  have C:=Ha c;clear c ha hb
  generalize (dg a).length=la at *
  generalize (dg b).length=lb at *
  have hlt':(la:Int)<(lb:Int):=by omega
  go_enter Tryz.func212,Tryz.ntmps212
  go_wp2_with fail
  refine C.out.mono ?_
  clear C
  rintro e w' ⟨v,rfl,h⟩
  have H:=Ha h;clear h
  go_wp2
  go_ret
  exact ⟨v,rfl,H.out⟩
 ·have c:=iP 234 ec rP uc oW pa pb ca cb (dg a) (dg b) w ha hb (aq a) (aq b) hla
  rw [oT (aq a) (aq b) (by omega),ar,ar] at c
  have C:=Ha c;clear c ha hb
  generalize (dg a).length=la at *
  generalize (dg b).length=lb at *
  have hlt':¬ (la:Int)<(lb:Int):=by omega
  go_enter Tryz.func212,Tryz.ntmps212
  go_wp2_with fail
  refine C.out.mono ?_
  clear C
  rintro e w' ⟨v,rfl,h⟩
  have H:=Ha h;clear h
  go_wp2
  go_ret
  exact ⟨v,rfl,H.out⟩
theorem xE {a b:Nat} (h:b≤a):(dg b).length≤(dg a).length:=by
 rw [ak]
 exact Nat.lt_of_le_of_lt h ((ak a _).1 (Nat.le_refl _))
theorem fP (va vb:Value) (a b:Nat) (w:World) (ha:IsNat w va a) (hb:IsNat w vb b) (hla:(dg a).length≤1000000) (hle:b≤a) :
  Calls Tryz.prog 219 #[va,vb] w fun e W'=>∃ v,e = .returned v∧IsNat W' v (a - b)∧Fresh w.heap.size v∧Below w.heap.size w W':=by
 obtain ⟨pa,ca,rfl,a1,a2,_⟩:=id ha
 obtain ⟨pb,cb,rfl,b1,b2,_⟩:=id hb
 have c:=iP 238 gn xD ms vD pa pb ca cb (dg a) (dg b) w ha hb (aq a) (aq b) hla
 rw [vo (aq a) (aq b) (xE hle) (by rw [ar,ar];exact hle),ar,ar] at c
 have C:=Ha c;clear c ha hb hle
 generalize (dg a).length=la at *
 generalize (dg b).length=lb at *
 go_enter Tryz.func219,Tryz.ntmps219
 go_wp2_with fail
 refine C.out.mono ?_
 clear C
 rintro e w' ⟨v,rfl,h⟩
 have H:=Ha h;clear h
 go_wp2
 go_ret
 exact ⟨v,rfl,H.out⟩
def bW (a b:Nat):Int:=if a<b then -1 else if b<a then 1 else 0
theorem dp {a b:Nat} (h:a<b):bW a b = -1:=by unfold bW;rw [if_pos h]
theorem er {a b:Nat} (h:b<a):bW a b=1:=by unfold bW;rw [if_neg (by omega),if_pos h]
theorem kH {a b:Nat} (h:a=b):bW a b=0:=by unfold bW;rw [if_neg (by omega),if_neg (by omega)]
theorem tg (x y:Nat) (w:World) :
  Calls Tryz.prog 236 #[.int .u64 x,.int .u64 y] w fun e w'=>e = .returned (.int .i64 (bW x y))∧w'=w:=by
 rcases Nat.lt_trichotomy x y with h | h | h
 ·rw [dp h]
  have h1:(x:Int)<y:=by omega
  clear h
  go_enter Tryz.func236,Tryz.ntmps236
  go_wp2_with go_in
  go_ret
  exact ⟨rfl,rfl⟩
 ·rw [kH h]
  subst h
  go_enter Tryz.func236,Tryz.ntmps236
  go_wp2_with go_in
  go_ret
  exact ⟨rfl,rfl⟩
 ·rw [er h]
  have h1:(y:Int)<x:=by omega
  clear h
  go_enter Tryz.func236,Tryz.ntmps236
  go_wp2_with go_in
  go_ret
  exact ⟨rfl,rfl⟩
theorem gK {a b:Nat} (h:(dg a).length<(dg b).length):a<b:=by
 have h1:=(ak a _).1 (Nat.le_refl _)
 have h2:¬ b<B ^ (dg a).length:=fun hc=>by have:=(ak b _).2 hc;omega
 omega
theorem gL (l:List Nat) (i:Nat) (h:i<l.length):toN l=toN (l.take i)+B ^ i*l.getD i 0+B ^ (i+1)*toN (l.drop (i+1)):=by
 conv=>lhs;rw [←List.take_append_drop (i+1) l]
 rw [bJ,aB l i h,List.length_take,Nat.min_eq_left (by omega)]
theorem eH {la lb:List Nat} {i:Nat} (ha:Dig la) (hia:i<la.length) (hib:i<lb.length) (hd:la.drop (i+1)=lb.drop (i+1)) (h:la.getD i 0<lb.getD i 0):toN la<toN lb:=by
 rw [gL la i hia,gL lb i hib,hd]
 have h1:=cI (ha.take i)
 rw [List.length_take,Nat.min_eq_left (by omega)] at h1
 have h2:B ^ i*la.getD i 0+B ^ i≤B ^ i*lb.getD i 0:=by rw [←Nat.mul_succ];exact Nat.mul_le_mul_left _ h
 omega
theorem vE (a b:Nat):Lib.compareInt (a:Int) (b:Int)=bW a b:=by
 unfold Lib.compareInt bW
 by_cases h:a<b
 ·rw [if_pos h,if_pos (by omega)]
 ·rw [if_neg h,if_neg (by omega)]
  by_cases h2:b<a
  ·rw [if_pos h2,if_pos (by omega)]
  ·rw [if_neg h2,if_neg (by omega)]
theorem eK (va vb:Value) (a b:Nat) (w:World) (ha:IsNat w va a) (hb:IsNat w vb b) :
  Calls Tryz.prog 216 #[va,vb] w fun e W'=>e = .returned (.int .i64 (bW a b))∧∃ n,W'=w.drewN n:=by
 obtain ⟨pa,ca,rfl,a1,a2,a3⟩:=ha
 obtain ⟨pb,cb,rfl,b1,b2,b3⟩:=hb
 have HA:=Ha a3;have HB:=Ha b3;clear a3 b3
 have HN:=Ha (Hb (ar a) (ar b))
 have HD:=Ha (Hb (aq a) (aq b))
 have hlt:=Ha (fun h=>gK (a:=a) (b:=b) h)
 have hgt:=Ha (fun h=>gK (a:=b) (b:=a) h)
 by_cases hne:(dg a).length=(dg b).length
 ·have HC:=Ha (show bW a b=bW (toN (dg a)) (toN (dg b)) by rw [ar,ar])
  generalize dg a=la at *
  generalize dg b=lb at *
  rw [HC.out]
  clear hlt hgt HN HC
  have HL:=Ha hne
  obtain ⟨n,hn⟩:∃ n,la.length=n:=⟨_,rfl⟩
  have hn2:lb.length=n:=by omega
  have HN:=Ha (Hb hn hn2)
  rw [hn] at a1 ⊢
  rw [hn2] at b1 ⊢
  clear hne hn hn2
  have hneq:((n:Int) != n)=false:=by simp
  go_enter Tryz.func216,Tryz.ntmps216
  go_wp2
  go_loopw [5] (fun x wr=>∃ j:Nat,j≤n∧x = .int .i64 ((j:Int) - 1)∧Hid (la.drop j=lb.drop j)∧∃ k,wr=w.drewN k) (fun x _=>(intOf x+1).toNat)
  case atStart=>exact ⟨n,Nat.le_refl _,rfl,by show _=_;rw [List.drop_of_length_le (by rw [HN.out.1];exact Nat.le_refl _),List.drop_of_length_le (by rw [HN.out.2];exact Nat.le_refl _)],0,rfl⟩
  case round =>
   obtain ⟨j,hj,rfl,hd,hk⟩:=hrel
   have HK:=Ha hk;clear hk
   by_cases hj0:j=0
   ·subst hj0
    have he:bW (toN la) (toN lb)=0:=kH (by have:=hd.out;rw [List.drop_zero,List.drop_zero] at this;rw [this])
    have HE:=Ha he;clear he
    go_wp2
    go_ret
    exact ⟨by rw [HE.out];rfl,HK.out⟩
   ·obtain ⟨i,rfl⟩:∃ i,j=i+1:=⟨j - 1,by omega⟩
    have hia:i<la.length:=by rw [HN.out.1];omega
    have hib:i<lb.length:=by rw [HN.out.2];omega
    obtain ⟨ba,oa,rfl,hca⟩:=HA.out (by intro e;rw [e] at hia;simp at hia)
    obtain ⟨bb,ob,rfl,hcb⟩:=HB.out (by intro e;rw [e] at hib;simp at hib)
    have xa:wr.cell? ⟨ba,oa+i,none⟩=some (.int .u64 (la.getD i 0:Nat)):=by obtain ⟨kk,e⟩:=HK.out;rw [e];exact hca i hia
    have xb:wr.cell? ⟨bb,ob+i,none⟩=some (.int .u64 (lb.getD i 0:Nat)):=by obtain ⟨kk,e⟩:=HK.out;rw [e];exact hcb i hib
    have e1:=Ha (fun h=>eH (la:=la) (lb:=lb) (i:=i) HD.out.1 hia hib hd.out h)
    have e2:=Ha (fun h=>eH (la:=lb) (lb:=la) (i:=i) HD.out.2 hib hia hd.out.symm h)
    have e3:Hid (la.getD i 0=lb.getD i 0→la.drop i=lb.drop i):=fun h=>by rw [dM hia,dM hib,h,hd.out]
    clear hca hcb hia hib hd
    generalize la.getD i 0=x at *
    generalize lb.getD i 0=y at *
    have ei:((i:Int)+1 - 1)=(i:Int):=by omega
    have hx1:(i:Int)<(n:Int):=by omega
    by_cases hxy:x=y
    ·subst hxy
     have h3:Hid (la.drop i=lb.drop i):=e3.out rfl
     clear e1 e2 e3
     have hq:((x:Int) != x)=false:=by simp
     go_wp2
     go_quiet (fail)
     go_wp2
     go_roundw
     case rel=>exact ⟨i,by omega,by go_num,h3,by obtain ⟨kk,e⟩:=HK.out;exact ⟨_,by rw [e,World.drewN_drewN]⟩⟩
     case measure=>simp [intOf]
    ·have hq:((x:Int) != y)=true:=by rw [bne_iff_ne];omega
     have hf:Hid (bW x y=bW (toN la) (toN lb)):=by
      show bW x y=_
      rcases Nat.lt_or_gt_of_ne hxy with h | h
      ·rw [dp h,dp (e1.out h)]
      ·rw [er h,er (e2.out h)]
     clear e1 e2 e3 hxy
     go_wp2
     go_quiet (fail)
     have ya:(wr.drewN nq).cell? ⟨ba,oa+i,none⟩=some (.int .u64 (x:Nat)):=xa
     have yb:(wr.drewN nq).cell? ⟨bb,ob+i,none⟩=some (.int .u64 (y:Nat)):=xb
     have HK2:Hid (∃ n,wr.drewN nq=w.drewN n):=by obtain ⟨kk,e⟩:=HK.out;exact ⟨_,by rw [e,World.drewN_drewN]⟩
     clear xa xb HK
     generalize wr.drewN nq=W2 at *
     go_wp2
     go_quiet ((go_at_call 236;exact Calls.quiet_of_same (tg _ _ _)))
     go_wp2
     go_ret
     exact ⟨by rw [←hf.out];rfl,by obtain ⟨kk,e⟩:=HK2.out;exact ⟨_,by rw [e,World.drewN_drewN]⟩⟩
 ·have hc:bW a b=Lib.compareInt (((dg a).length:Nat):Int) (((dg b).length:Nat):Int):=by
   rw [vE]
   rcases Nat.lt_or_gt_of_ne hne with h | h
   ·rw [dp h,dp (hlt.out h)]
   ·rw [er h,er (hgt.out h)]
  have HC:=Ha hc;clear hc hlt hgt HN HD HA HB
  generalize (dg a).length=la at *
  generalize (dg b).length=lb at *
  have hn:((la:Int) != (lb:Int))=true:=by rw [bne_iff_ne];omega
  clear hne
  go_enter Tryz.func216,Tryz.ntmps216
  go_wp2_with fail
  refine (Tryz.cmp_Compare_int _ _ _).mono ?_
  rintro e w' ⟨rfl,rfl⟩
  go_wp2
  go_ret
  exact ⟨by rw [HC.out];rfl,0,rfl⟩
structure Fz (k:Nat) (W:World):Prop where
 f1:W.frozen? ⟨k,0,none⟩=false
 f2:W.frozen? ⟨k,1,none⟩=false
 f3:W.frozen? ⟨k+1,0,none⟩=false
 f4:W.frozen? ⟨k+1,1,none⟩=false
theorem xF (w:World) (x0 x1 y0 y1 z0 z1:Value) (t:TypeId):Fz w.heap.size (((w.alloc (.cells #[x0,x1] t)).alloc (.cells #[y0,y1] t)).alloc (.cells #[z0,z1] t)) :=
 ⟨by simp [go_sem],by simp [go_sem],by simp [go_sem],by simp [go_sem]⟩
theorem Fz.drewN {k:Nat} {W:World} (h:Fz k W) (n:Nat):Fz k (W.drewN n):=⟨h.f1,h.f2,h.f3,h.f4⟩
theorem Boxes.drewN {w:World} {k:Nat} {x0 x1 y0 y1 z0 z1:Value} {W:World} (h:Boxes w k x0 x1 y0 y1 z0 z1 W) (n:Nat):Boxes w k x0 x1 y0 y1 z0 z1 (W.drewN n) :=
 h.next ⟨rfl,rfl,rfl,Nat.le_refl _,fun _ _=>rfl⟩
theorem kI (neg:Bool) (a b:Nat):am neg (a+b)=am neg a+am neg b:=by unfold am;cases neg <;> simp <;> omega
theorem mv (na nb:Bool) (h:na≠nb) (a b:Nat) (hle:b≤a):am na (a - b)=am na a+am nb b:=by
 unfold am;cases na <;> cases nb <;> simp at h ⊢ <;> omega
theorem th {W:World} {k:Nat} {x0 x1 y0 y1:Value} (c1:W.cell? ⟨k,0,none⟩=some x0) (c2:W.cell? ⟨k,1,none⟩=some x1) (c3:W.cell? ⟨k+1,0,none⟩=some y0) (c4:W.cell? ⟨k+1,1,none⟩=some y1) (X0 X1 Y0 Y1:Value) :
  let W':=(((W.setCell ⟨k,0,none⟩ X0).setCell ⟨k,1,none⟩ X1).setCell ⟨k+1,0,none⟩ Y0).setCell ⟨k+1,1,none⟩ Y1
  W'.cell? ⟨k,0,none⟩=some X0∧W'.cell? ⟨k,1,none⟩=some X1∧W'.cell? ⟨k+1,0,none⟩=some Y0∧W'.cell? ⟨k+1,1,none⟩=some Y1:=by
 intro W'
 have hk:∀ (w:World) (o o':Nat) (u:Value),(w.setCell ⟨k+1,o,none⟩ u).cell? ⟨k,o',none⟩=w.cell? ⟨k,o',none⟩:=fun w o o' u=>World.cell?_of_block (Below.heap_setCell _ _ _ _ (by show k≠k+1;omega))
 have hk':∀ (w:World) (o o':Nat) (u:Value),(w.setCell ⟨k,o,none⟩ u).cell? ⟨k+1,o',none⟩=w.cell? ⟨k+1,o',none⟩:=fun w o o' u=>World.cell?_of_block (Below.heap_setCell _ _ _ _ (by show k+1≠k;omega))
 have a0:=(au c1 c2 X0 X1).1
 have a1:=(au c1 c2 X0 X1).2
 have a0':((W.setCell ⟨k,0,none⟩ X0).setCell ⟨k,1,none⟩ X1).cell? ⟨k,0,none⟩=some X0:=by go_cell
 have b3:((W.setCell ⟨k,0,none⟩ X0).setCell ⟨k,1,none⟩ X1).cell? ⟨k+1,0,none⟩=some y0:=by rw [hk',hk'];exact c3
 have b4:((W.setCell ⟨k,0,none⟩ X0).setCell ⟨k,1,none⟩ X1).cell? ⟨k+1,1,none⟩=some y1:=by rw [hk',hk'];exact c4
 refine ⟨?_,?_,?_,?_⟩
 ·show ((((W.setCell ⟨k,0,none⟩ X0).setCell ⟨k,1,none⟩ X1).setCell ⟨k+1,0,none⟩ Y0).setCell ⟨k+1,1,none⟩ Y1).cell? ⟨k,0,none⟩=_
  rw [hk,hk];exact a0'
 ·show ((((W.setCell ⟨k,0,none⟩ X0).setCell ⟨k,1,none⟩ X1).setCell ⟨k+1,0,none⟩ Y0).setCell ⟨k+1,1,none⟩ Y1).cell? ⟨k,1,none⟩=_
  rw [hk,hk];exact a1
 ·show ((((W.setCell ⟨k,0,none⟩ X0).setCell ⟨k,1,none⟩ X1).setCell ⟨k+1,0,none⟩ Y0).setCell ⟨k+1,1,none⟩ Y1).cell? ⟨k+1,0,none⟩=_
  have:=(au b3 b4 Y0 Y1).1
  go_cell
 ·exact (au b3 b4 Y0 Y1).2
theorem nH {w:World} {k:Nat} {x0 x1 y0 y1 z0 z1:Value} {W:World} (h:Boxes w k x0 x1 y0 y1 z0 z1 W) :
  Boxes w k y0 y1 x0 x1 z0 z1 ((((W.setCell ⟨k,0,none⟩ y0).setCell ⟨k,1,none⟩ y1).setCell ⟨k+1,0,none⟩ x0).setCell ⟨k+1,1,none⟩ x1):=by
 obtain ⟨d1,d2,d3,d4⟩:=th h.c1 h.c2 h.c3 h.c4 y0 y1 x0 x1
 have hb:∀ j,k+1<j→((((W.setCell ⟨k,0,none⟩ y0).setCell ⟨k,1,none⟩ y1).setCell ⟨k+1,0,none⟩ x0).setCell ⟨k+1,1,none⟩ x1).heap[j]? = W.heap[j]? := fun j hj=>by
  rw [Below.heap_setCell _ _ _ _ (by show j≠k+1;omega),Below.heap_setCell _ _ _ _ (by show j≠k+1;omega),Below.heap_setCell _ _ _ _ (by show j≠k;omega),Below.heap_setCell _ _ _ _ (by show j≠k;omega)]
 refine ⟨d1,d2,d3,d4,(World.cell?_of_block (hb _ (by show k+1<k+1+1;omega))).trans h.c5,(World.cell?_of_block (hb _ (by show k+1<k+1+1;omega))).trans h.c6,
  (World.frozen?_of_block (hb _ (by show k+1<k+1+1;omega))).trans h.f5,(World.frozen?_of_block (hb _ (by show k+1<k+1+1;omega))).trans h.f6,by have:=h.size;simp [World.setCell];exact this,?_⟩
 exact (((h.below.setCell (p:=⟨k,0,none⟩) (Nat.le_refl _) _).setCell (p:=⟨k,1,none⟩) (Nat.le_refl _) _).setCell (p:=⟨k+1,0,none⟩) (by show k≤k+1;omega) _).setCell (p:=⟨k+1,1,none⟩) (by show k≤k+1;omega) _
theorem p4 (neg:Bool) (v:Value) (n:Nat) (w:World) (h:IsNat w v n) :
  Calls Tryz.prog 289 #[.agg #[.bool neg,v]] w fun e W'=>e = .returned (.agg #[.bool (!neg),v])∧Below w.heap.size w W':=by
 obtain ⟨p,cap,rfl⟩:=h.shape
 clear h
 generalize (dg n).length=l at *
 go_enter Tryz.func289,Tryz.ntmps289
 go_wp2
 refine bodyPost_ret (v := .agg #[.bool (!neg),.slice p l cap]) (by simp [results,Tryz.results289,go_sem]) rfl ?_
 exact ⟨rfl,by go_grown⟩
theorem kn (na nb:Bool) (va vb:Value) (a b:Nat) (w:World) (ha:IsNat w va a) (hb:IsNat w vb b) (hla:(dg a).length≤1000000) (hlb:(dg b).length≤1000000) :
  Calls Tryz.prog 186 #[.agg #[.bool na,va],.agg #[.bool nb,vb]] w fun e W'=>∃ neg n v,e = .returned (.agg #[.bool neg,v])∧IsNat W' v n∧(am neg n=am na a+am nb b∧n≤a+b)∧Fresh w.heap.size v∧Below w.heap.size w W':=by
 obtain ⟨pa,ca,rfl⟩:=ha.shape
 obtain ⟨pb,cb,rfl⟩:=hb.shape
 have HAB:=Ha (Hb ha hb)
 have hw:(((w.alloc (.cells #[.bool na,.slice pa (dg a).length ca] 184)).alloc (.cells #[.bool nb,.slice pb (dg b).length cb] 184)).alloc (.cells #[.bool false,.slice none 0 0] 184)).heap.size=w.heap.size+3:=by simp
 by_cases hs:na=nb
 ·have cp:∀ W,Below w.heap.size w W→Calls Tryz.prog 212 #[.slice pa (dg a).length ca,.slice pb (dg b).length cb] W fun e W'=>∃ v,e = .returned v∧IsNat W' v (a+b)∧Fresh W.heap.size v∧Below W.heap.size W W' :=
   fun W hW=>mu _ _ a b W (ha.next hW) (hb.next hW) hla hlb
  have CP:=Ha cp;clear cp ha hb hla hlb hw
  have HZ:Hid (am na (a+b)=am na a+am nb b∧a+b≤a+b):=⟨by rw [←hs];exact kI na a b,Nat.le_refl _⟩
  have hq:(na==nb)=true:=by simpa using hs
  clear hs
  generalize (dg a).length=la at *
  generalize (dg b).length=lb at *
  go_enter Tryz.func186,Tryz.ntmps186
  go_wp2
  have hbx:=bR w (.bool na) (.slice pa la ca) (.bool nb) (.slice pb lb cb) (.bool false) (.slice none 0 0) 184
  generalize ((w.alloc (.cells #[.bool na,.slice pa la ca] 184)).alloc (.cells #[.bool nb,.slice pb lb cb] 184)).alloc (.cells #[.bool false,.slice none 0 0] 184)=W0 at *
  generalize hk:w.heap.size=k at *
  have HK:=Ha hk;clear hk
  have HBD:=Ha hbx.drew
  clear hbx
  obtain ⟨c1,c2,c3,c4,_,_,_,_,_,_⟩:=HBD.out
  go_region_held3 (fun w'=>w'.cell? ⟨k,0,none⟩=some (.bool na)∧w'.cell? ⟨k,1,none⟩=some (.slice pa la ca)∧w'.cell? ⟨k+1,0,none⟩=some (.bool nb)∧w'.cell? ⟨k+1,1,none⟩=some (.slice pb lb cb)) (first | (go_keep;done) | ((try dsimp only);refine ⟨?_,?_,?_,?_⟩ <;> (first | (exact dU (by omega) (by assumption)) | (go_keep;done))))
   (first | (go_at_call 212;refine (CP.out _ HBD.out.below).mono ?_;rintro e w1 ⟨v,rfl,hv,hf,hb1⟩;obtain ⟨p,cap,rfl⟩:=hv.shape;have HB1:=Ha (HBD.out.next hb1);have HV:=Ha (Hb hv (Hb hf hb1));clear hv hf hb1;obtain ⟨e1,e2,e3,e4,e5,e6,e7,e8,_,_⟩:=HB1.out))
  obtain ⟨g5,g6⟩:=au e5 e6 (.bool na) (.slice p (dg (a+b)).length cap)
  go_wp2
  refine bodyPost_ret (v := .agg #[.bool na,.slice p (dg (a+b)).length cap]) (by simp [results,Tryz.results186,go_sem,g5,g6]) rfl ?_
  obtain ⟨hv,hf,hb1⟩:=HV.out
  have hf':Fresh (k+3) (.slice p (dg (a+b)).length cap):=hf.mono HBD.out.size
  refine ⟨_,_,_,rfl,(hv.setCell hf' (by show k+1+1<k+3;omega) _).setCell hf' (by show k+1+1<k+3;omega) _,HZ.out,hf'.mono (by rw [HK.out];omega),?_⟩
  rw [HK.out]
  exact ((HB1.out.below).setCell (p:=⟨k+1+1,0,none⟩) (by show k≤k+1+1;omega) _).setCell (p:=⟨k+1+1,1,none⟩) (by show k≤k+1+1;omega) _
 ·have hq:(na==nb)=false:=by simpa using hs
  have hbx:=bR w (.bool na) (.slice pa (dg a).length ca) (.bool nb) (.slice pb (dg b).length cb) (.bool false) (.slice none 0 0) 184
  have hfz:=xF w (.bool na) (.slice pa (dg a).length ca) (.bool nb) (.slice pb (dg b).length cb) (.bool false) (.slice none 0 0) 184
  have cc:=eK (.slice pa (dg a).length ca) (.slice pb (dg b).length cb) a b _ (ha.next hbx.below) (hb.next hbx.below)
  have CC:=Ha cc;clear cc
  by_cases hle:b≤a
  ·have hcmp:0≤bW a b:=by
    rcases Nat.lt_or_eq_of_le hle with h | h
    ·rw [er h];decide
    ·rw [kH h.symm];decide
   have cp:∀ W,Below w.heap.size w W→Calls Tryz.prog 219 #[.slice pa (dg a).length ca,.slice pb (dg b).length cb] W fun e W'=>∃ v,e = .returned v∧IsNat W' v (a - b)∧Fresh W.heap.size v∧Below W.heap.size W W' :=
    fun W hW=>fP _ _ a b W (ha.next hW) (hb.next hW) hla hle
   have CP:=Ha cp;clear cp ha hb hla hlb hw
   have HZ:Hid (am na (a - b)=am na a+am nb b∧a - b≤a+b):=⟨mv na nb hs a b hle,by omega⟩
   have HBX:=Ha (Hb hbx hfz)
   clear hs hle hbx hfz
   generalize (dg a).length=la at *
   generalize (dg b).length=lb at *
   generalize bW a b=cm at *
   go_enter Tryz.func186,Tryz.ntmps186
   go_wp2_with fail
   refine CC.out.mono ?_
   rintro e w' ⟨rfl,nn,rfl⟩
   clear CC
   have hbx2:=HBX.out.1.drewN nn
   clear HBX
   generalize (((w.alloc (.cells #[.bool na,.slice pa la ca] 184)).alloc (.cells #[.bool nb,.slice pb lb cb] 184)).alloc (.cells #[.bool false,.slice none 0 0] 184)).drewN nn=W0 at *
   generalize hk:w.heap.size=k at *
   have HK:=Ha hk;clear hk
   have HBX:=Ha hbx2
   obtain ⟨b1,b2,b3,b4,_,_,_,_,_,_⟩:=hbx2
   go_wp2
   have HBD:=Ha HBX.out.drew
   clear b1 b2 b3 b4 HBX
   obtain ⟨c1,c2,c3,c4,_,_,_,_,_,_⟩:=HBD.out
   go_region_held3 (fun w'=>w'.cell? ⟨k,0,none⟩=some (.bool na)∧w'.cell? ⟨k,1,none⟩=some (.slice pa la ca)∧w'.cell? ⟨k+1,0,none⟩=some (.bool nb)∧w'.cell? ⟨k+1,1,none⟩=some (.slice pb lb cb)) (first | (go_keep;done) | ((try dsimp only);refine ⟨?_,?_,?_,?_⟩ <;> (first | (exact dU (by omega) (by assumption)) | (go_keep;done))))
    (first | (go_at_call 219;refine (CP.out _ HBD.out.below).mono ?_;rintro e w1 ⟨v,rfl,hv,hf,hb1⟩;obtain ⟨p,cap,rfl⟩:=hv.shape;have HB1:=Ha (HBD.out.next hb1);have HV:=Ha (Hb hv (Hb hf hb1));clear hv hf hb1;obtain ⟨e1,e2,e3,e4,e5,e6,e7,e8,_,_⟩:=HB1.out))
   obtain ⟨g5,g6⟩:=au e5 e6 (.bool na) (.slice p (dg (a - b)).length cap)
   go_wp2
   refine bodyPost_ret (v := .agg #[.bool na,.slice p (dg (a - b)).length cap]) (by simp [results,Tryz.results186,go_sem,g5,g6]) rfl ?_
   obtain ⟨hv,hf,hb1⟩:=HV.out
   have hf':Fresh (k+3) (.slice p (dg (a - b)).length cap):=hf.mono HBD.out.size
   refine ⟨_,_,_,rfl,(hv.setCell hf' (by show k+1+1<k+3;omega) _).setCell hf' (by show k+1+1<k+3;omega) _,HZ.out,hf'.mono (by rw [HK.out];omega),?_⟩
   rw [HK.out]
   exact ((HB1.out.below).setCell (p:=⟨k+1+1,0,none⟩) (by show k≤k+1+1;omega) _).setCell (p:=⟨k+1+1,1,none⟩) (by show k≤k+1+1;omega) _
  ·have hcmp:bW a b<0:=by rw [dp (by omega)];decide
   have cp:∀ W,Below w.heap.size w W→Calls Tryz.prog 219 #[.slice pb (dg b).length cb,.slice pa (dg a).length ca] W fun e W'=>∃ v,e = .returned v∧IsNat W' v (b - a)∧Fresh W.heap.size v∧Below W.heap.size W W' :=
    fun W hW=>fP _ _ b a W (hb.next hW) (ha.next hW) hlb (by omega)
   have CP:=Ha cp;clear cp ha hb hla hlb hw
   have HZ:Hid (am nb (b - a)=am na a+am nb b∧b - a≤a+b):=⟨by rw [mv nb na (fun h=>hs h.symm) b a (by omega),Int.add_comm],by omega⟩
   have HBX:=Ha (Hb hbx hfz)
   clear hs hle hbx hfz
   generalize (dg a).length=la at *
   generalize (dg b).length=lb at *
   generalize bW a b=cm at *
   go_enter Tryz.func186,Tryz.ntmps186
   go_wp2_with fail
   refine CC.out.mono ?_
   rintro e w' ⟨rfl,nn,rfl⟩
   clear CC
   have hbx2:=HBX.out.1.drewN nn
   have hfz2:=HBX.out.2.drewN nn
   clear HBX
   generalize (((w.alloc (.cells #[.bool na,.slice pa la ca] 184)).alloc (.cells #[.bool nb,.slice pb lb cb] 184)).alloc (.cells #[.bool false,.slice none 0 0] 184)).drewN nn=W0 at *
   generalize hk:w.heap.size=k at *
   have HK:=Ha hk;clear hk
   have HBX:=Ha hbx2
   obtain ⟨b1,b2,b3,b4,_,_,_,_,_,_⟩:=hbx2
   obtain ⟨f1,f2,f3,f4⟩:=hfz2
   go_wp2
   have hsw:=nH HBX.out
   clear b1 b2 b3 b4 HBX f1 f2 f3 f4
   generalize (((W0.setCell ⟨k,0,none⟩ (.bool nb)).setCell ⟨k,1,none⟩ (.slice pb lb cb)).setCell ⟨k+1,0,none⟩ (.bool na)).setCell ⟨k+1,1,none⟩ (.slice pa la ca)=W1 at *
   have HBD:=Ha hsw.drew
   clear hsw
   obtain ⟨c1,c2,c3,c4,_,_,_,_,_,_⟩:=HBD.out
   go_region_held3 (fun w'=>w'.cell? ⟨k,0,none⟩=some (.bool nb)∧w'.cell? ⟨k,1,none⟩=some (.slice pb lb cb)∧w'.cell? ⟨k+1,0,none⟩=some (.bool na)∧w'.cell? ⟨k+1,1,none⟩=some (.slice pa la ca)) (first | (go_keep;done) | ((try dsimp only);refine ⟨?_,?_,?_,?_⟩ <;> (first | (exact dU (by omega) (by assumption)) | (go_keep;done))))
    (first | (go_at_call 219;refine (CP.out _ HBD.out.below).mono ?_;rintro e w1 ⟨v,rfl,hv,hf,hb1⟩;obtain ⟨p,cap,rfl⟩:=hv.shape;have HB1:=Ha (HBD.out.next hb1);have HV:=Ha (Hb hv (Hb hf hb1));clear hv hf hb1;obtain ⟨e1,e2,e3,e4,e5,e6,e7,e8,_,_⟩:=HB1.out))
   obtain ⟨g5,g6⟩:=au e5 e6 (.bool nb) (.slice p (dg (b - a)).length cap)
   go_wp2
   refine bodyPost_ret (v := .agg #[.bool nb,.slice p (dg (b - a)).length cap]) (by simp [results,Tryz.results186,go_sem,g5,g6]) rfl ?_
   obtain ⟨hv,hf,hb1⟩:=HV.out
   have hf':Fresh (k+3) (.slice p (dg (b - a)).length cap):=hf.mono HBD.out.size
   refine ⟨_,_,_,rfl,(hv.setCell hf' (by show k+1+1<k+3;omega) _).setCell hf' (by show k+1+1<k+3;omega) _,HZ.out,hf'.mono (by rw [HK.out];omega),?_⟩
   rw [HK.out]
   exact ((HB1.out.below).setCell (p:=⟨k+1+1,0,none⟩) (by show k≤k+1+1;omega) _).setCell (p:=⟨k+1+1,1,none⟩) (by show k≤k+1+1;omega) _
theorem fu {w W':World} {x0 x1:Value} {t:TypeId} (hb:Below (w.heap.size+1) (w.alloc (.cells #[x0,x1] t)) W') :
  W'.cell? ⟨w.heap.size,0,none⟩=some x0∧W'.cell? ⟨w.heap.size,1,none⟩=some x1 :=
 ⟨(hb.cell (p:=⟨w.heap.size,0,none⟩) (Nat.lt_succ_self _)).trans (by go_cell),(hb.cell (p:=⟨w.heap.size,1,none⟩) (Nat.lt_succ_self _)).trans (by go_cell)⟩
theorem iR {w W':World} {o:Obj} {a:Addr} {u:Value} (hb:Below (w.heap.size+1) (w.alloc o) W') (h:w.cell? a=some u):W'.cell? a=some u:=by
 have hl:=World.block_lt_of_cell? w a h
 exact (hb.cell (p:=a) (by omega)).trans ((World.cell?_of_block (Below.heap_alloc _ _ _ hl)).trans h)
theorem Tab.old {w W':World} {o:Obj} (h:Tab w) (hb:Below (w.heap.size+1) (w.alloc o) W'):Tab W':=by
 have h1:Tab (w.alloc o):=h.next ((Below.refl _ w).alloc (Nat.le_refl _) _)
 have:=h.lt
 exact h1.below hb (by omega)
theorem iS (neg:Bool) (v:Value) (n:Nat) (w:World) (h:IsNat w v n) (hn:(dg n).length≤100000) (ht:Tab w) :
  Calls Tryz.prog 161 #[.agg #[.bool neg,v]] w fun e W'=>e = .returned (.tuple #[.string (fj (am neg n)),.int .i64 (fk (am neg n))])∧Below w.heap.size w W':=by
 have cl:=fun W hW=>sK v n W (Nats.next h hW) (by omega)
 obtain ⟨p,cap,hv,h1,h2,h3⟩:=id h
 subst hv
 have hlim:=xC neg n
 have CL:=Ha cl;clear cl
 have H3:=Ha h3;clear h3
 by_cases hbig:300<eJ n
 ·have hb:(300:Int)<(eJ n:Nat):=by omega
  have e1:fj (am neg n)=ByteArray.empty:=by unfold fj;rw [if_neg (hlim.1 hbig)]
  have e2:fk (am neg n)=4:=by unfold fk;rw [if_neg (hlim.1 hbig)]
  rw [e1,e2]
  clear e1 e2 hlim hbig
  generalize eJ n=m at *
  go_enter Tryz.func161,Tryz.ntmps161
  go_wp2_with fail
  refine (CL.out _ ((Below.refl _ w).alloc (Nat.le_refl _) _)).mono ?_
  rintro e w' ⟨rfl,rfl⟩
  go_wp2
  go_ret2
  exact ⟨rfl,(Below.refl _ w).alloc (Nat.le_refl _) _⟩
 ·have hb:((eJ n:Nat):Int)≤300:=by omega
  have hlt:(am neg n).natAbs<lim:=Decidable.byContradiction fun hc=>hbig (hlim.2 hc)
  have e1:fj (am neg n)=aa (am neg n):=by unfold fj;rw [if_pos hlt]
  have e2:fk (am neg n)=0:=by unfold fk;rw [if_pos hlt]
  rw [e1,e2]
  clear e1 e2 hlim hbig hlt
  by_cases h0:n=0
  ·subst h0
   have hl:(dg 0).length=0:=by rw [av];rfl
   have hz:aa (am neg 0)=⟨#[48]⟩:=by
    have:am neg 0=0:=by unfold am;cases neg <;> rfl
    rw [this];unfold aa;rw [fp]
   rw [hz,hl]
   rw [hl] at CL
   have hb2:=hb
   clear hz hl hb hn h1 h H3
   generalize eJ 0=m at *
   go_enter Tryz.func161,Tryz.ntmps161
   go_wp2_with fail
   refine (CL.out _ ((Below.refl _ w).alloc (Nat.le_refl _) _)).mono ?_
   rintro e w' ⟨rfl,rfl⟩
   go_wp2
   go_ret2
   exact ⟨rfl,(Below.refl _ w).alloc (Nat.le_refl _) _⟩
  ·have hne:dg n ≠ []:=fun e=>h0 ((cU n).1 e)
   obtain ⟨b,off,rfl,hc⟩:=H3.out hne
   have hl0:0<(dg n).length:=List.length_pos_iff.2 hne
   have hz:Lib.itoa (am neg n)=lY neg++txt ((dg n).drop 0):=by rw [nG neg h0,List.drop_zero,AL h0]
   have hD:=aq n
   have hlast:=(aq n).getD ((dg n).length - 1)
   have HT:=Ha ht
   have HC:=Ha hc
   have HZ:=Ha hz
   have HD:=Ha hD
   obtain ⟨i0,hi,hz0,hz1,hz2⟩:=info_parts eh
   have HI:=Ha (Hb hi (Hb hz0 (Hb hz1 hz2)));clear hi hz0 hz1 hz2
   clear hz hc H3 ht h hne hD
   generalize dg n=l at *
   generalize eJ n=m at *
   obtain ⟨t,hlt⟩:∃ t,l.length=t+1:=⟨l.length - 1,by omega⟩
   have HL:=Ha hlt
   rw [hlt] at CL h1 hn ⊢
   have hdl:l.getD t 0<1000000000:=HD.out.getD t
   obtain ⟨dl,hdl2⟩:∃ x,l.getD t 0=x:=⟨_,rfl⟩
   rw [hdl2] at hdl
   have HDL:=Ha hdl2
   have HCL:=Ha (show w.cell? ⟨b,off+t,none⟩=some (.int .u64 (dl:Nat)) by rw [←hdl2];exact HC.out t (by omega))
   clear hlt hl0 hlast hdl2
   have hB0:=Ha ((Below.refl (w.heap.size+1) (w.alloc (.cells #[.bool neg,.slice (some ⟨b,off,none⟩) (t+1) cap] 184))))
   cases neg
   case' false =>
    go_enter Tryz.func161,Tryz.ntmps161
    go_wp2_with fail
    refine (CL.out _ ((Below.refl _ w).alloc (Nat.le_refl _) _)).mono ?_
    rintro e w' ⟨rfl,rfl⟩
    clear CL
    go_wp2_with (at_make;refine wpList_make_own _ rfl _ _ 115 rfl (w.heap.size+1) 5 i0 (.int .u8 0) 1 Tryz.underlying115 HI.out.1 HI.out.2.1 HI.out.2.2.1 .i64 .i64 _ 301 rfl rfl rfl (by rw [HI.out.2.2.2];omega) (by unfold maxLen;omega) (by simp) ?_;intro w1 hown hgrow;have hb1:=hB0.out.grown hgrow (by simp) (fun k e=>by cases e);obtain ⟨d0,d1⟩:=fu hb1;have cd1:=iR hb1 HCL.out)
    simp only [World.size_alloc] at hown
    obtain ⟨pre,hpre,hown2⟩:∃ pre:List UInt8,Hid (pre=lY false)∧w1.ownsRow (w.heap.size+1) 5 1 (.slice (some ⟨w.heap.size+1,0,none⟩) 0 301) pre.length (Lib.byteCells pre):=⟨[],rfl,hown⟩
    clear hown hgrow
   case' true =>
    go_enter Tryz.func161,Tryz.ntmps161
    go_wp2_with fail
    refine (CL.out _ ((Below.refl _ w).alloc (Nat.le_refl _) _)).mono ?_
    rintro e w' ⟨rfl,rfl⟩
    clear CL
    go_wp2_with (first | (at_make;refine wpList_make_own _ rfl _ _ 115 rfl (w.heap.size+1) 5 i0 (.int .u8 0) 1 Tryz.underlying115 HI.out.1 HI.out.2.1 HI.out.2.2.1 .i64 .i64 _ 301 rfl rfl rfl (by rw [HI.out.2.2.2];omega) (by unfold maxLen;omega) (by simp) ?_;intro w0 hown0 hgrow0;simp only [World.size_alloc] at hown0;have hb00:=hB0.out.grown hgrow0 (by simp) (fun k e=>by cases e);obtain ⟨d00,d01⟩:=fu hb00;have HO:=Ha (Hb hown0 (Hb hgrow0 hb00));clear hown0 hgrow0 hb00) | (at_builtin;refine wpList_append_own _ rfl _ _ 115 rfl (w.heap.size+1) 5 i0 (.int .u8 0) 1 1 Tryz.underlying115 HI.out.1 HI.out.2.1 HI.out.2.2.1 HI.out.2.2.2 rfl (by decide) _ _ _ rfl (HO.out.1.alloc _) ⟨w0.heap.size,0,none⟩ 1 1 [.int .u8 45] rfl rfl (cell_one_new _ _ _) (by simp [Value.oneCell']) (by unfold maxLen;omega) (by omega) (by have:=HO.out.2.2.size;simp at this ⊢; omega) ?_;intro v1 w1 hown1 hgrow1 _;have hb1:=(HO.out.2.2.alloc (by have:=HO.out.2.2.size;simp at this;omega) _).grown hgrow1 (by have:=HO.out.2.2.size;simp at this ⊢; omega) (fun k e=>by cases e;exact Nat.le_refl _);obtain ⟨d0,d1⟩:=fu hb1;have cd1:=iR hb1 HCL.out))
    obtain ⟨pre,hpre,hown2⟩:∃ pre:List UInt8,Hid (pre=lY true)∧w1.ownsRow (w.heap.size+1) 5 1 v1 pre.length (Lib.byteCells pre):=⟨[45],rfl,hown1⟩
    clear hown1 hgrow1 HO d00 d01
   all_goals
    have hpl:pre.length≤1:=by rw [hpre.out];simp [lY]
    refine (kG (w.heap.size+1) pre.length dl (by omega) _ _ _ hown2 (by have:=hb1.size;simp at this;omega) (by omega) (HT.out.old hb1)).mono ?_
    rintro e w2 ⟨v2,rfl,hown3,hb2⟩
    have hb3:=hb1.trans hb2
    clear hown2 hb2 hb1 d0 d1 cd1
    obtain ⟨d0,d1⟩:=fu hb3
    have hX:∃ X:List UInt8,Hid (X=pre++txt (l.drop t))∧X.length≤30∧0<X.length∧w2.ownsRow (w.heap.size+1) 5 1 v2 X.length (Lib.byteCells X):=by
     refine ⟨pre++Lib.decDigits dl,?_,?_,?_,?_⟩
     ·show _=_
      rw [xB (by rw [HL.out]),HDL.out]
     ·have:=(aJ dl 9 (by decide)).2 (by omega)
      rw [List.length_append,Lib.decDigits_length];omega
     ·have:=Lib.nDigits_pos dl
      rw [List.length_append,Lib.decDigits_length];omega
     ·rw [List.length_append,Lib.byteCells_append];exact hown3
    clear hown3
    obtain ⟨X,hX,hXl,hX0,hown⟩:=hX
    have HB3:=Ha hb3;clear hb3
    go_wp2
    clear d0 d1
    go_loopw [4,6] (fun x y wr=>∃ (j:Nat) (X:List UInt8),j≤t∧y = .int .i64 ((j:Int) - 1)∧Hid (X=pre++txt (l.drop j))∧X.length+9*j≤30+9*t∧0<X.length∧wr.ownsRow (w.heap.size+1) 5 1 x X.length (Lib.byteCells X) ∧
      Hid (Below (w.heap.size+1) (w.alloc (.cells #[_,.slice (some ⟨b,off,none⟩) (t+1) cap] 184)) wr))
     (fun _ y _=>(intOf y+1).toNat)
    case atStart=>exact ⟨t,X,Nat.le_refl _,rfl,hX,by omega,hX0,hown,HB3⟩
    case round =>
     clear hX hXl hX0 hown HB3 X
     obtain ⟨j,X,hj,rfl,hX,hXl,hX0,hown,hbel⟩:=hrel
     obtain ⟨d0,d1⟩:=fu hbel.out
     by_cases hj0:j=0
     ·subst hj0
      have hXz:Hid (X=Lib.itoa (am _ n)):=hX.trans (by rw [hpre.out];exact HZ.out.symm)
      obtain ⟨k,hk⟩:∃ k,X.length=k+1:=⟨X.length - 1,by omega⟩
      rw [hk] at hown
      obtain ⟨g,cp,rfl⟩:=ownsRow_succ hown
      have hconv:=run_convert_bytes_back (P:=Tryz.prog) wr 115 9 5 ⟨g,0,none⟩ cp X Tryz.underlying115 Tryz.underlying5 Tryz.underlying9 (fun j hj=>by
       refine hown.cells (g:=g) rfl j _ ?_
       simp [Lib.byteCells,List.getElem?_eq_getElem hj])
      rw [hk] at hconv
      clear hown hX hk hX0 hXl
      go_wp2
      go_ret2
      refine ⟨?_,?_⟩
      ·rw [hXz.out];rfl
      ·exact ((Below.refl _ w).alloc (Nat.le_refl _) _).trans (hbel.out.mono (by omega))
     ·obtain ⟨i,rfl⟩:∃ i,j=i+1:=⟨j - 1,by omega⟩
      have hdi:=HD.out.getD i
      have ci:=iR hbel.out (HC.out i (by rw [HL.out];omega))
      have hX2:Hid (X++pad 9 (l.getD i 0)=pre++txt (l.drop i)):=by
       show X++pad 9 (l.getD i 0)=_
       have hs:=xA (l:=l) (m:=i) (by rw [HL.out];omega)
       rw [hX.out,hs,List.append_assoc]
      obtain ⟨d,hd⟩:∃ x,l.getD i 0=x:=⟨_,rfl⟩
      rw [hd] at hdi ci hX2
      have hsz:=hbel.out.size
      have c:=ln (w.heap.size+1) X.length d hdi _ _ wr hown (by simp at hsz;omega) (by omega)
      have C:=Ha c
      clear c hd hX hown hsz
      go_wp2_with fail
      refine C.out.mono ?_
      clear C
      rintro e w3 ⟨v3,rfl,hown3,hb3⟩
      have HO3:=Ha (Hb hown3 hb3);clear hown3 hb3
      go_wp2
      go_roundw
      case rel =>
       refine ⟨i,X++pad 9 d,by omega,by go_num,hX2,?_,?_,?_,hbel.out.trans HO3.out.2⟩
       ·rw [List.length_append,cJ];omega
       ·rw [List.length_append];omega
       ·rw [List.length_append,cJ,Lib.byteCells_append];exact HO3.out.1
      case measure=>simp [intOf]
end Go.Proofs.YtjdomibbaemdnaaGreatDoor
