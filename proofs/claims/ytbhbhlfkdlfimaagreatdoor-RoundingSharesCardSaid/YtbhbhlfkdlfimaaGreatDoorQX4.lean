/- Parts of the proof of the text YtbhbhlfkdlfimaaGreatDoorQX29. -/
import Derived.Deep.RegionHeld3
import Derived.Test.YtbhbhlfkdlfimaaGreatDoorQX1
import Derived.Test.YtbhbhlfkdlfimaaGreatDoorQX3
set_option linter.all false
set_option maxRecDepth 100000
set_option maxHeartbeats 8000000
namespace Go.Proofs.YtbhbhlfkdlfimaaGreatDoor
open Go.RowKit
theorem rB (args:Array Value) (W:World):(callFunc 273 args).run Tryz.prog W = .ok (.enter 273 args) W:=enters_of Tryz.func273 (by kernel_rfl) rfl args W
theorem z8 (args:Array Value) (W:World):(callFunc 298 args).run Tryz.prog W = .ok (.enter 298 args) W:=enters_of Tryz.func298 (by kernel_rfl) rfl args W
theorem u6:w9 273 fu:=fun x y c W hx hy hc=>ke x y c W hx hy hc
theorem Cn:w9 298 gT:=fun x y c W hx hy hc=>qF x y c W hx hy hc
theorem nU (va vb:Value) (a b:Nat) (w:World) (ha:IsNat w va a) (hb:IsNat w vb b) (hla:(dg a).length≤1000000) (hlb:(dg b).length≤1000000) :
  Calls Tryz.prog 286 #[va,vb] w fun e W'=>∃ v,e = .returned v∧IsNat W' v (a+b)∧Fresh w.heap.size v∧Below w.heap.size w W':=by
 obtain ⟨pa,ca,rfl,a1,a2,_⟩:=id ha
 obtain ⟨pb,cb,rfl,b1,b2,_⟩:=id hb
 by_cases hlt:(dg a).length<(dg b).length
 ·have c:=jz 273 fu u6 yv rB pb pa cb ca (dg b) (dg a) w hb ha (aB b) (aB a) hlb
  rw [rz (aB b) (aB a) (by omega),aE,aE,Nat.add_comm] at c
  have C:=Ha c;clear c ha hb
  generalize (dg a).length=la at *
  generalize (dg b).length=lb at *
  have hlt':(la:Int)<(lb:Int):=by omega
  go_enter Tryz.func286,Tryz.ntmps286
  go_wp2_with fail
  refine C.out.mono ?_
  clear C
  rintro e w' ⟨v,rfl,h⟩
  have H:=Ha h;clear h
  go_wp2
  go_ret
  exact ⟨v,rfl,H.out⟩
 ·have c:=jz 273 fu u6 yv rB pa pb ca cb (dg a) (dg b) w ha hb (aB a) (aB b) hla
  rw [rz (aB a) (aB b) (by omega),aE,aE] at c
  have C:=Ha c;clear c ha hb
  generalize (dg a).length=la at *
  generalize (dg b).length=lb at *
  have hlt':¬ (la:Int)<(lb:Int):=by omega
  go_enter Tryz.func286,Tryz.ntmps286
  go_wp2_with fail
  refine C.out.mono ?_
  clear C
  rintro e w' ⟨v,rfl,h⟩
  have H:=Ha h;clear h
  go_wp2
  go_ret
  exact ⟨v,rfl,H.out⟩
theorem Co {a b:Nat} (h:b≤a):(dg b).length≤(dg a).length:=by
 rw [av]
 exact Nat.lt_of_le_of_lt h ((av a _).1 (Nat.le_refl _))
theorem gG (va vb:Value) (a b:Nat) (w:World) (ha:IsNat w va a) (hb:IsNat w vb b) (hla:(dg a).length≤1000000) (hle:b≤a) :
  Calls Tryz.prog 287 #[va,vb] w fun e W'=>∃ v,e = .returned v∧IsNat W' v (a - b)∧Fresh w.heap.size v∧Below w.heap.size w W':=by
 obtain ⟨pa,ca,rfl,a1,a2,_⟩:=id ha
 obtain ⟨pb,cb,rfl,b1,b2,_⟩:=id hb
 have c:=jz 298 gT Cn nT z8 pa pb ca cb (dg a) (dg b) w ha hb (aB a) (aB b) hla
 rw [zX (aB a) (aB b) (Co hle) (by rw [aE,aE];exact hle),aE,aE] at c
 have C:=Ha c;clear c ha hb hle
 generalize (dg a).length=la at *
 generalize (dg b).length=lb at *
 go_enter Tryz.func287,Tryz.ntmps287
 go_wp2_with fail
 refine C.out.mono ?_
 clear C
 rintro e w' ⟨v,rfl,h⟩
 have H:=Ha h;clear h
 go_wp2
 go_ret
 exact ⟨v,rfl,H.out⟩
def bM (a b:Nat):Int:=if a<b then -1 else if b<a then 1 else 0
theorem cT {a b:Nat} (h:a<b):bM a b = -1:=by unfold bM;rw [if_pos h]
theorem dY {a b:Nat} (h:b<a):bM a b=1:=by unfold bM;rw [if_neg (by omega),if_pos h]
theorem lM {a b:Nat} (h:a=b):bM a b=0:=by unfold bM;rw [if_neg (by omega),if_neg (by omega)]
theorem xc (x y:Nat) (w:World) :
  Calls Tryz.prog 132 #[.int .u64 x,.int .u64 y] w fun e w'=>e = .returned (.int .i64 (bM x y))∧w'=w:=by
 rcases Nat.lt_trichotomy x y with h | h | h
 ·rw [cT h]
  have h1:(x:Int)<y:=by omega
  clear h
  go_enter Tryz.func132,Tryz.ntmps132
  go_wp2_with go_in
  go_ret
  exact ⟨rfl,rfl⟩
 ·rw [lM h]
  subst h
  go_enter Tryz.func132,Tryz.ntmps132
  go_wp2_with go_in
  go_ret
  exact ⟨rfl,rfl⟩
 ·rw [dY h]
  have h1:(y:Int)<x:=by omega
  clear h
  go_enter Tryz.func132,Tryz.ntmps132
  go_wp2_with go_in
  go_ret
  exact ⟨rfl,rfl⟩
theorem il {a b:Nat} (h:(dg a).length<(dg b).length):a<b:=by
 have h1:=(av a _).1 (Nat.le_refl _)
 have h2:¬ b<B ^ (dg a).length:=fun hc=>by have:=(av b _).2 hc;omega
 omega
theorem im (l:List Nat) (i:Nat) (h:i<l.length):toN l=toN (l.take i)+B ^ i*l.getD i 0+B ^ (i+1)*toN (l.drop (i+1)):=by
 conv=>lhs;rw [←List.take_append_drop (i+1) l]
 rw [bT,aC l i h,List.length_take,Nat.min_eq_left (by omega)]
theorem fR {la lb:List Nat} {i:Nat} (ha:Dig la) (hia:i<la.length) (hib:i<lb.length) (hd:la.drop (i+1)=lb.drop (i+1)) (h:la.getD i 0<lb.getD i 0):toN la<toN lb:=by
 rw [im la i hia,im lb i hib,hd]
 have h1:=cO (ha.take i)
 rw [List.length_take,Nat.min_eq_left (by omega)] at h1
 have h2:B ^ i*la.getD i 0+B ^ i≤B ^ i*lb.getD i 0:=by rw [←Nat.mul_succ];exact Nat.mul_le_mul_left _ h
 omega
theorem rC (a b:Nat):Lib.compareInt (a:Int) (b:Int)=bM a b:=by
 unfold Lib.compareInt bM
 by_cases h:a<b
 ·rw [if_pos h,if_pos (by omega)]
 ·rw [if_neg h,if_neg (by omega)]
  by_cases h2:b<a
  ·rw [if_pos h2,if_pos (by omega)]
  ·rw [if_neg h2,if_neg (by omega)]
theorem fS (va vb:Value) (a b:Nat) (w:World) (ha:IsNat w va a) (hb:IsNat w vb b) :
  Calls Tryz.prog 86 #[va,vb] w fun e W'=>e = .returned (.int .i64 (bM a b))∧∃ n,W'=w.drewN n:=by
 obtain ⟨pa,ca,rfl,a1,a2,a3⟩:=ha
 obtain ⟨pb,cb,rfl,b1,b2,b3⟩:=hb
 have HA:=Ha a3;have HB:=Ha b3;clear a3 b3
 have HN:=Ha (Hb (aE a) (aE b))
 have HD:=Ha (Hb (aB a) (aB b))
 have hlt:=Ha (fun h=>il (a:=a) (b:=b) h)
 have hgt:=Ha (fun h=>il (a:=b) (b:=a) h)
 by_cases hne:(dg a).length=(dg b).length
 ·have HC:=Ha (show bM a b=bM (toN (dg a)) (toN (dg b)) by rw [aE,aE])
  generalize dg a=la at *
  generalize dg b=lb at *
  rw [HC.out]
  clear hlt hgt HN HC
  have HL:=Ha hne
  obtain ⟨n,hn⟩:∃ n,la.length=n:=⟨_,rfl⟩
  have hn2:lb.length=n:=by omega
  have HN:=Ha (Hb hn hn2)
  rw [hn] at a1 ⊢
  rw [hn2] at b1 ⊢
  clear hne hn hn2
  have hneq:((n:Int) != n)=false:=by simp
  go_enter Tryz.func86,Tryz.ntmps86
  go_wp2
  go_loopw [5] (fun x wr=>∃ j:Nat,j≤n∧x = .int .i64 ((j:Int) - 1)∧Hid (la.drop j=lb.drop j)∧∃ k,wr=w.drewN k) (fun x _=>(intOf x+1).toNat)
  case atStart=>exact ⟨n,Nat.le_refl _,rfl,by show _=_;rw [List.drop_of_length_le (by rw [HN.out.1];exact Nat.le_refl _),List.drop_of_length_le (by rw [HN.out.2];exact Nat.le_refl _)],0,rfl⟩
  case round =>
   obtain ⟨j,hj,rfl,hd,hk⟩:=hrel
   have HK:=Ha hk;clear hk
   by_cases hj0:j=0
   ·subst hj0
    have he:bM (toN la) (toN lb)=0:=lM (by have:=hd.out;rw [List.drop_zero,List.drop_zero] at this;rw [this])
    have HE:=Ha he;clear he
    go_wp2
    go_ret
    exact ⟨by rw [HE.out];rfl,HK.out⟩
   ·obtain ⟨i,rfl⟩:∃ i,j=i+1:=⟨j - 1,by omega⟩
    have hia:i<la.length:=by rw [HN.out.1];omega
    have hib:i<lb.length:=by rw [HN.out.2];omega
    obtain ⟨ba,oa,rfl,hca⟩:=HA.out (by intro e;rw [e] at hia;simp at hia)
    obtain ⟨bb,ob,rfl,hcb⟩:=HB.out (by intro e;rw [e] at hib;simp at hib)
    have xa:wr.cell? ⟨ba,oa+i,none⟩=some (.int .u64 (la.getD i 0:Nat)):=by obtain ⟨kk,e⟩:=HK.out;rw [e];exact hca i hia
    have xb:wr.cell? ⟨bb,ob+i,none⟩=some (.int .u64 (lb.getD i 0:Nat)):=by obtain ⟨kk,e⟩:=HK.out;rw [e];exact hcb i hib
    have e1:=Ha (fun h=>fR (la:=la) (lb:=lb) (i:=i) HD.out.1 hia hib hd.out h)
    have e2:=Ha (fun h=>fR (la:=lb) (lb:=la) (i:=i) HD.out.2 hib hia hd.out.symm h)
    have e3:Hid (la.getD i 0=lb.getD i 0→la.drop i=lb.drop i):=fun h=>by rw [eH hia,eH hib,h,hd.out]
    clear hca hcb hia hib hd
    generalize la.getD i 0=x at *
    generalize lb.getD i 0=y at *
    have ei:((i:Int)+1 - 1)=(i:Int):=by omega
    have hx1:(i:Int)<(n:Int):=by omega
    by_cases hxy:x=y
    ·subst hxy
     have h3:Hid (la.drop i=lb.drop i):=e3.out rfl
     clear e1 e2 e3
     have hq:((x:Int) != x)=false:=by simp
     go_wp2
     go_quiet (fail)
     go_wp2
     go_roundw
     case rel=>exact ⟨i,by omega,by go_num,h3,by obtain ⟨kk,e⟩:=HK.out;exact ⟨_,by rw [e,World.drewN_drewN]⟩⟩
     case measure=>simp [intOf]
    ·have hq:((x:Int) != y)=true:=by rw [bne_iff_ne];omega
     have hf:Hid (bM x y=bM (toN la) (toN lb)):=by
      show bM x y=_
      rcases Nat.lt_or_gt_of_ne hxy with h | h
      ·rw [cT h,cT (e1.out h)]
      ·rw [dY h,dY (e2.out h)]
     clear e1 e2 e3 hxy
     go_wp2
     go_quiet (fail)
     have ya:(wr.drewN nq).cell? ⟨ba,oa+i,none⟩=some (.int .u64 (x:Nat)):=xa
     have yb:(wr.drewN nq).cell? ⟨bb,ob+i,none⟩=some (.int .u64 (y:Nat)):=xb
     have HK2:Hid (∃ n,wr.drewN nq=w.drewN n):=by obtain ⟨kk,e⟩:=HK.out;exact ⟨_,by rw [e,World.drewN_drewN]⟩
     clear xa xb HK
     generalize wr.drewN nq=W2 at *
     go_wp2
     go_quiet ((go_at_call 132;exact Calls.quiet_of_same (xc _ _ _)))
     go_wp2
     go_ret
     exact ⟨by rw [←hf.out];rfl,by obtain ⟨kk,e⟩:=HK2.out;exact ⟨_,by rw [e,World.drewN_drewN]⟩⟩
 ·have hc:bM a b=Lib.compareInt (((dg a).length:Nat):Int) (((dg b).length:Nat):Int):=by
   rw [rC]
   rcases Nat.lt_or_gt_of_ne hne with h | h
   ·rw [cT h,cT (hlt.out h)]
   ·rw [dY h,dY (hgt.out h)]
  have HC:=Ha hc;clear hc hlt hgt HN HD HA HB
  generalize (dg a).length=la at *
  generalize (dg b).length=lb at *
  have hn:((la:Int) != (lb:Int))=true:=by rw [bne_iff_ne];omega
  clear hne
  go_enter Tryz.func86,Tryz.ntmps86
  go_wp2_with fail
  refine (Tryz.cmp_Compare_int _ _ _).mono ?_
  rintro e w' ⟨rfl,rfl⟩
  go_wp2
  go_ret
  exact ⟨by rw [HC.out];rfl,0,rfl⟩
structure Fz (k:Nat) (W:World):Prop where
 f1:W.frozen? ⟨k,0,none⟩=false
 f2:W.frozen? ⟨k,1,none⟩=false
 f3:W.frozen? ⟨k+1,0,none⟩=false
 f4:W.frozen? ⟨k+1,1,none⟩=false
theorem FP (w:World) (x0 x1 y0 y1 z0 z1:Value) (t:TypeId):Fz w.heap.size (((w.alloc (.cells #[x0,x1] t)).alloc (.cells #[y0,y1] t)).alloc (.cells #[z0,z1] t)) :=
 ⟨by simp [go_sem],by simp [go_sem],by simp [go_sem],by simp [go_sem]⟩
theorem Fz.drewN {k:Nat} {W:World} (h:Fz k W) (n:Nat):Fz k (W.drewN n):=⟨h.f1,h.f2,h.f3,h.f4⟩
theorem Boxes.drewN {w:World} {k:Nat} {x0 x1 y0 y1 z0 z1:Value} {W:World} (h:Boxes w k x0 x1 y0 y1 z0 z1 W) (n:Nat):Boxes w k x0 x1 y0 y1 z0 z1 (W.drewN n) :=
 h.next ⟨rfl,rfl,rfl,Nat.le_refl _,fun _ _=>rfl⟩
theorem tg (neg:Bool) (a b:Nat):aL neg (a+b)=aL neg a+aL neg b:=by unfold aL;cases neg <;> simp <;> omega
theorem yy (na nb:Bool) (h:na≠nb) (a b:Nat) (hle:b≤a):aL na (a - b)=aL na a+aL nb b:=by
 unfold aL;cases na <;> cases nb <;> simp at h ⊢ <;> omega
theorem xd {W:World} {k:Nat} {x0 x1 y0 y1:Value} (c1:W.cell? ⟨k,0,none⟩=some x0) (c2:W.cell? ⟨k,1,none⟩=some x1) (c3:W.cell? ⟨k+1,0,none⟩=some y0) (c4:W.cell? ⟨k+1,1,none⟩=some y1) (X0 X1 Y0 Y1:Value) :
  let W':=(((W.setCell ⟨k,0,none⟩ X0).setCell ⟨k,1,none⟩ X1).setCell ⟨k+1,0,none⟩ Y0).setCell ⟨k+1,1,none⟩ Y1
  W'.cell? ⟨k,0,none⟩=some X0∧W'.cell? ⟨k,1,none⟩=some X1∧W'.cell? ⟨k+1,0,none⟩=some Y0∧W'.cell? ⟨k+1,1,none⟩=some Y1:=by
 intro W'
 have hk:∀ (w:World) (o o':Nat) (u:Value),(w.setCell ⟨k+1,o,none⟩ u).cell? ⟨k,o',none⟩=w.cell? ⟨k,o',none⟩:=fun w o o' u=>World.cell?_of_block (Below.heap_setCell _ _ _ _ (by show k≠k+1;omega))
 have hk':∀ (w:World) (o o':Nat) (u:Value),(w.setCell ⟨k,o,none⟩ u).cell? ⟨k+1,o',none⟩=w.cell? ⟨k+1,o',none⟩:=fun w o o' u=>World.cell?_of_block (Below.heap_setCell _ _ _ _ (by show k+1≠k;omega))
 have a0:=(aJ c1 c2 X0 X1).1
 have a1:=(aJ c1 c2 X0 X1).2
 have a0':((W.setCell ⟨k,0,none⟩ X0).setCell ⟨k,1,none⟩ X1).cell? ⟨k,0,none⟩=some X0:=by go_cell
 have b3:((W.setCell ⟨k,0,none⟩ X0).setCell ⟨k,1,none⟩ X1).cell? ⟨k+1,0,none⟩=some y0:=by rw [hk',hk'];exact c3
 have b4:((W.setCell ⟨k,0,none⟩ X0).setCell ⟨k,1,none⟩ X1).cell? ⟨k+1,1,none⟩=some y1:=by rw [hk',hk'];exact c4
 refine ⟨?_,?_,?_,?_⟩
 ·show ((((W.setCell ⟨k,0,none⟩ X0).setCell ⟨k,1,none⟩ X1).setCell ⟨k+1,0,none⟩ Y0).setCell ⟨k+1,1,none⟩ Y1).cell? ⟨k,0,none⟩=_
  rw [hk,hk];exact a0'
 ·show ((((W.setCell ⟨k,0,none⟩ X0).setCell ⟨k,1,none⟩ X1).setCell ⟨k+1,0,none⟩ Y0).setCell ⟨k+1,1,none⟩ Y1).cell? ⟨k,1,none⟩=_
  rw [hk,hk];exact a1
 ·show ((((W.setCell ⟨k,0,none⟩ X0).setCell ⟨k,1,none⟩ X1).setCell ⟨k+1,0,none⟩ Y0).setCell ⟨k+1,1,none⟩ Y1).cell? ⟨k+1,0,none⟩=_
  have:=(aJ b3 b4 Y0 Y1).1
  go_cell
 ·exact (aJ b3 b4 Y0 Y1).2
theorem xe {w:World} {k:Nat} {x0 x1 y0 y1 z0 z1:Value} {W:World} (h:Boxes w k x0 x1 y0 y1 z0 z1 W) :
  Boxes w k y0 y1 x0 x1 z0 z1 ((((W.setCell ⟨k,0,none⟩ y0).setCell ⟨k,1,none⟩ y1).setCell ⟨k+1,0,none⟩ x0).setCell ⟨k+1,1,none⟩ x1):=by
 obtain ⟨d1,d2,d3,d4⟩:=xd h.c1 h.c2 h.c3 h.c4 y0 y1 x0 x1
 have hb:∀ j,k+1<j→((((W.setCell ⟨k,0,none⟩ y0).setCell ⟨k,1,none⟩ y1).setCell ⟨k+1,0,none⟩ x0).setCell ⟨k+1,1,none⟩ x1).heap[j]? = W.heap[j]? := fun j hj=>by
  rw [Below.heap_setCell _ _ _ _ (by show j≠k+1;omega),Below.heap_setCell _ _ _ _ (by show j≠k+1;omega),Below.heap_setCell _ _ _ _ (by show j≠k;omega),Below.heap_setCell _ _ _ _ (by show j≠k;omega)]
 refine ⟨d1,d2,d3,d4,(World.cell?_of_block (hb _ (by show k+1<k+1+1;omega))).trans h.c5,(World.cell?_of_block (hb _ (by show k+1<k+1+1;omega))).trans h.c6,
  (World.frozen?_of_block (hb _ (by show k+1<k+1+1;omega))).trans h.f5,(World.frozen?_of_block (hb _ (by show k+1<k+1+1;omega))).trans h.f6,by have:=h.size;simp [World.setCell];exact this,?_⟩
 exact (((h.below.setCell (p:=⟨k,0,none⟩) (Nat.le_refl _) _).setCell (p:=⟨k,1,none⟩) (Nat.le_refl _) _).setCell (p:=⟨k+1,0,none⟩) (by show k≤k+1;omega) _).setCell (p:=⟨k+1,1,none⟩) (by show k≤k+1;omega) _
theorem th (neg:Bool) (v:Value) (n:Nat) (w:World) (h:IsNat w v n) :
  Calls Tryz.prog 358 #[.agg #[.bool neg,v]] w fun e W'=>e = .returned (.agg #[.bool (!neg),v])∧Below w.heap.size w W':=by
 obtain ⟨p,cap,rfl⟩:=h.shape
 clear h
 generalize (dg n).length=l at *
 go_enter Tryz.func358,Tryz.ntmps358
 go_wp2
 refine bodyPost_ret (v := .agg #[.bool (!neg),.slice p l cap]) (by simp [results,Tryz.results358,go_sem]) rfl ?_
 exact ⟨rfl,by go_grown⟩
theorem u7 (na nb:Bool) (va vb:Value) (a b:Nat) (w:World) (ha:IsNat w va a) (hb:IsNat w vb b) (hla:(dg a).length≤1000000) (hlb:(dg b).length≤1000000) :
  Calls Tryz.prog 299 #[.agg #[.bool na,va],.agg #[.bool nb,vb]] w fun e W'=>∃ neg n v,e = .returned (.agg #[.bool neg,v])∧IsNat W' v n∧(aL neg n=aL na a+aL nb b∧n≤a+b)∧Fresh w.heap.size v∧Below w.heap.size w W':=by
 obtain ⟨pa,ca,rfl⟩:=ha.shape
 obtain ⟨pb,cb,rfl⟩:=hb.shape
 have HAB:=Ha (Hb ha hb)
 have hw:(((w.alloc (.cells #[.bool na,.slice pa (dg a).length ca] 90)).alloc (.cells #[.bool nb,.slice pb (dg b).length cb] 90)).alloc (.cells #[.bool false,.slice none 0 0] 90)).heap.size=w.heap.size+3:=by simp
 by_cases hs:na=nb
 ·have cp:∀ W,Below w.heap.size w W→Calls Tryz.prog 286 #[.slice pa (dg a).length ca,.slice pb (dg b).length cb] W fun e W'=>∃ v,e = .returned v∧IsNat W' v (a+b)∧Fresh W.heap.size v∧Below W.heap.size W W' :=
   fun W hW=>nU _ _ a b W (ha.next hW) (hb.next hW) hla hlb
  have CP:=Ha cp;clear cp ha hb hla hlb hw
  have HZ:Hid (aL na (a+b)=aL na a+aL nb b∧a+b≤a+b):=⟨by rw [←hs];exact tg na a b,Nat.le_refl _⟩
  have hq:(na==nb)=true:=by simpa using hs
  clear hs
  generalize (dg a).length=la at *
  generalize (dg b).length=lb at *
  go_enter Tryz.func299,Tryz.ntmps299
  go_wp2
  have hbx:=cX w (.bool na) (.slice pa la ca) (.bool nb) (.slice pb lb cb) (.bool false) (.slice none 0 0) 90
  generalize ((w.alloc (.cells #[.bool na,.slice pa la ca] 90)).alloc (.cells #[.bool nb,.slice pb lb cb] 90)).alloc (.cells #[.bool false,.slice none 0 0] 90)=W0 at *
  generalize hk:w.heap.size=k at *
  have HK:=Ha hk;clear hk
  have HBD:=Ha hbx.drew
  clear hbx
  obtain ⟨c1,c2,c3,c4,_,_,_,_,_,_⟩:=HBD.out
  go_region_held3 (fun w'=>w'.cell? ⟨k,0,none⟩=some (.bool na)∧w'.cell? ⟨k,1,none⟩=some (.slice pa la ca)∧w'.cell? ⟨k+1,0,none⟩=some (.bool nb)∧w'.cell? ⟨k+1,1,none⟩=some (.slice pb lb cb)) (first | (go_keep;done) | ((try dsimp only);refine ⟨?_,?_,?_,?_⟩ <;> (first | (exact jb (by omega) (by assumption)) | (go_keep;done))))
   (first | (go_at_call 286;refine (CP.out _ HBD.out.below).mono ?_;rintro e w1 ⟨v,rfl,hv,hf,hb1⟩;obtain ⟨p,cap,rfl⟩:=hv.shape;have HB1:=Ha (HBD.out.next hb1);have HV:=Ha (Hb hv (Hb hf hb1));clear hv hf hb1;obtain ⟨e1,e2,e3,e4,e5,e6,e7,e8,_,_⟩:=HB1.out))
  obtain ⟨g5,g6⟩:=aJ e5 e6 (.bool na) (.slice p (dg (a+b)).length cap)
  go_wp2
  refine bodyPost_ret (v := .agg #[.bool na,.slice p (dg (a+b)).length cap]) (by simp [results,Tryz.results299,go_sem,g5,g6]) rfl ?_
  obtain ⟨hv,hf,hb1⟩:=HV.out
  have hf':Fresh (k+3) (.slice p (dg (a+b)).length cap):=hf.mono HBD.out.size
  refine ⟨_,_,_,rfl,(hv.setCell hf' (by show k+1+1<k+3;omega) _).setCell hf' (by show k+1+1<k+3;omega) _,HZ.out,hf'.mono (by rw [HK.out];omega),?_⟩
  rw [HK.out]
  exact ((HB1.out.below).setCell (p:=⟨k+1+1,0,none⟩) (by show k≤k+1+1;omega) _).setCell (p:=⟨k+1+1,1,none⟩) (by show k≤k+1+1;omega) _
 ·have hq:(na==nb)=false:=by simpa using hs
  have hbx:=cX w (.bool na) (.slice pa (dg a).length ca) (.bool nb) (.slice pb (dg b).length cb) (.bool false) (.slice none 0 0) 90
  have hfz:=FP w (.bool na) (.slice pa (dg a).length ca) (.bool nb) (.slice pb (dg b).length cb) (.bool false) (.slice none 0 0) 90
  have cc:=fS (.slice pa (dg a).length ca) (.slice pb (dg b).length cb) a b _ (ha.next hbx.below) (hb.next hbx.below)
  have CC:=Ha cc;clear cc
  by_cases hle:b≤a
  ·have hcmp:0≤bM a b:=by
    rcases Nat.lt_or_eq_of_le hle with h | h
    ·rw [dY h];decide
    ·rw [lM h.symm];decide
   have cp:∀ W,Below w.heap.size w W→Calls Tryz.prog 287 #[.slice pa (dg a).length ca,.slice pb (dg b).length cb] W fun e W'=>∃ v,e = .returned v∧IsNat W' v (a - b)∧Fresh W.heap.size v∧Below W.heap.size W W' :=
    fun W hW=>gG _ _ a b W (ha.next hW) (hb.next hW) hla hle
   have CP:=Ha cp;clear cp ha hb hla hlb hw
   have HZ:Hid (aL na (a - b)=aL na a+aL nb b∧a - b≤a+b):=⟨yy na nb hs a b hle,by omega⟩
   have HBX:=Ha (Hb hbx hfz)
   clear hs hle hbx hfz
   generalize (dg a).length=la at *
   generalize (dg b).length=lb at *
   generalize bM a b=cm at *
   go_enter Tryz.func299,Tryz.ntmps299
   go_wp2_with fail
   refine CC.out.mono ?_
   rintro e w' ⟨rfl,nn,rfl⟩
   clear CC
   have hbx2:=HBX.out.1.drewN nn
   clear HBX
   generalize (((w.alloc (.cells #[.bool na,.slice pa la ca] 90)).alloc (.cells #[.bool nb,.slice pb lb cb] 90)).alloc (.cells #[.bool false,.slice none 0 0] 90)).drewN nn=W0 at *
   generalize hk:w.heap.size=k at *
   have HK:=Ha hk;clear hk
   have HBX:=Ha hbx2
   obtain ⟨b1,b2,b3,b4,_,_,_,_,_,_⟩:=hbx2
   go_wp2
   have HBD:=Ha HBX.out.drew
   clear b1 b2 b3 b4 HBX
   obtain ⟨c1,c2,c3,c4,_,_,_,_,_,_⟩:=HBD.out
   go_region_held3 (fun w'=>w'.cell? ⟨k,0,none⟩=some (.bool na)∧w'.cell? ⟨k,1,none⟩=some (.slice pa la ca)∧w'.cell? ⟨k+1,0,none⟩=some (.bool nb)∧w'.cell? ⟨k+1,1,none⟩=some (.slice pb lb cb)) (first | (go_keep;done) | ((try dsimp only);refine ⟨?_,?_,?_,?_⟩ <;> (first | (exact jb (by omega) (by assumption)) | (go_keep;done))))
    (first | (go_at_call 287;refine (CP.out _ HBD.out.below).mono ?_;rintro e w1 ⟨v,rfl,hv,hf,hb1⟩;obtain ⟨p,cap,rfl⟩:=hv.shape;have HB1:=Ha (HBD.out.next hb1);have HV:=Ha (Hb hv (Hb hf hb1));clear hv hf hb1;obtain ⟨e1,e2,e3,e4,e5,e6,e7,e8,_,_⟩:=HB1.out))
   obtain ⟨g5,g6⟩:=aJ e5 e6 (.bool na) (.slice p (dg (a - b)).length cap)
   go_wp2
   refine bodyPost_ret (v := .agg #[.bool na,.slice p (dg (a - b)).length cap]) (by simp [results,Tryz.results299,go_sem,g5,g6]) rfl ?_
   obtain ⟨hv,hf,hb1⟩:=HV.out
   have hf':Fresh (k+3) (.slice p (dg (a - b)).length cap):=hf.mono HBD.out.size
   refine ⟨_,_,_,rfl,(hv.setCell hf' (by show k+1+1<k+3;omega) _).setCell hf' (by show k+1+1<k+3;omega) _,HZ.out,hf'.mono (by rw [HK.out];omega),?_⟩
   rw [HK.out]
   exact ((HB1.out.below).setCell (p:=⟨k+1+1,0,none⟩) (by show k≤k+1+1;omega) _).setCell (p:=⟨k+1+1,1,none⟩) (by show k≤k+1+1;omega) _
  ·have hcmp:bM a b<0:=by rw [cT (by omega)];decide
   have cp:∀ W,Below w.heap.size w W→Calls Tryz.prog 287 #[.slice pb (dg b).length cb,.slice pa (dg a).length ca] W fun e W'=>∃ v,e = .returned v∧IsNat W' v (b - a)∧Fresh W.heap.size v∧Below W.heap.size W W' :=
    fun W hW=>gG _ _ b a W (hb.next hW) (ha.next hW) hlb (by omega)
   have CP:=Ha cp;clear cp ha hb hla hlb hw
   have HZ:Hid (aL nb (b - a)=aL na a+aL nb b∧b - a≤a+b):=⟨by rw [yy nb na (fun h=>hs h.symm) b a (by omega),Int.add_comm],by omega⟩
   have HBX:=Ha (Hb hbx hfz)
   clear hs hle hbx hfz
   generalize (dg a).length=la at *
   generalize (dg b).length=lb at *
   generalize bM a b=cm at *
   go_enter Tryz.func299,Tryz.ntmps299
   go_wp2_with fail
   refine CC.out.mono ?_
   rintro e w' ⟨rfl,nn,rfl⟩
   clear CC
   have hbx2:=HBX.out.1.drewN nn
   have hfz2:=HBX.out.2.drewN nn
   clear HBX
   generalize (((w.alloc (.cells #[.bool na,.slice pa la ca] 90)).alloc (.cells #[.bool nb,.slice pb lb cb] 90)).alloc (.cells #[.bool false,.slice none 0 0] 90)).drewN nn=W0 at *
   generalize hk:w.heap.size=k at *
   have HK:=Ha hk;clear hk
   have HBX:=Ha hbx2
   obtain ⟨b1,b2,b3,b4,_,_,_,_,_,_⟩:=hbx2
   obtain ⟨f1,f2,f3,f4⟩:=hfz2
   go_wp2
   have hsw:=xe HBX.out
   clear b1 b2 b3 b4 HBX f1 f2 f3 f4
   generalize (((W0.setCell ⟨k,0,none⟩ (.bool nb)).setCell ⟨k,1,none⟩ (.slice pb lb cb)).setCell ⟨k+1,0,none⟩ (.bool na)).setCell ⟨k+1,1,none⟩ (.slice pa la ca)=W1 at *
   have HBD:=Ha hsw.drew
   clear hsw
   obtain ⟨c1,c2,c3,c4,_,_,_,_,_,_⟩:=HBD.out
   go_region_held3 (fun w'=>w'.cell? ⟨k,0,none⟩=some (.bool nb)∧w'.cell? ⟨k,1,none⟩=some (.slice pb lb cb)∧w'.cell? ⟨k+1,0,none⟩=some (.bool na)∧w'.cell? ⟨k+1,1,none⟩=some (.slice pa la ca)) (first | (go_keep;done) | ((try dsimp only);refine ⟨?_,?_,?_,?_⟩ <;> (first | (exact jb (by omega) (by assumption)) | (go_keep;done))))
    (first | (go_at_call 287;refine (CP.out _ HBD.out.below).mono ?_;rintro e w1 ⟨v,rfl,hv,hf,hb1⟩;obtain ⟨p,cap,rfl⟩:=hv.shape;have HB1:=Ha (HBD.out.next hb1);have HV:=Ha (Hb hv (Hb hf hb1));clear hv hf hb1;obtain ⟨e1,e2,e3,e4,e5,e6,e7,e8,_,_⟩:=HB1.out))
   obtain ⟨g5,g6⟩:=aJ e5 e6 (.bool nb) (.slice p (dg (b - a)).length cap)
   go_wp2
   refine bodyPost_ret (v := .agg #[.bool nb,.slice p (dg (b - a)).length cap]) (by simp [results,Tryz.results299,go_sem,g5,g6]) rfl ?_
   obtain ⟨hv,hf,hb1⟩:=HV.out
   have hf':Fresh (k+3) (.slice p (dg (b - a)).length cap):=hf.mono HBD.out.size
   refine ⟨_,_,_,rfl,(hv.setCell hf' (by show k+1+1<k+3;omega) _).setCell hf' (by show k+1+1<k+3;omega) _,HZ.out,hf'.mono (by rw [HK.out];omega),?_⟩
   rw [HK.out]
   exact ((HB1.out.below).setCell (p:=⟨k+1+1,0,none⟩) (by show k≤k+1+1;omega) _).setCell (p:=⟨k+1+1,1,none⟩) (by show k≤k+1+1;omega) _
theorem gh {w W':World} {x0 x1:Value} {t:TypeId} (hb:Below (w.heap.size+1) (w.alloc (.cells #[x0,x1] t)) W') :
  W'.cell? ⟨w.heap.size,0,none⟩=some x0∧W'.cell? ⟨w.heap.size,1,none⟩=some x1 :=
 ⟨(hb.cell (p:=⟨w.heap.size,0,none⟩) (Nat.lt_succ_self _)).trans (by go_cell),(hb.cell (p:=⟨w.heap.size,1,none⟩) (Nat.lt_succ_self _)).trans (by go_cell)⟩
theorem jB {w W':World} {o:Obj} {a:Addr} {u:Value} (hb:Below (w.heap.size+1) (w.alloc o) W') (h:w.cell? a=some u):W'.cell? a=some u:=by
 have hl:=World.block_lt_of_cell? w a h
 exact (hb.cell (p:=a) (by omega)).trans ((World.cell?_of_block (Below.heap_alloc _ _ _ hl)).trans h)
theorem Tab.old {w W':World} {o:Obj} (h:Tab w) (hb:Below (w.heap.size+1) (w.alloc o) W'):Tab W':=by
 have h1:Tab (w.alloc o):=h.next ((Below.refl _ w).alloc (Nat.le_refl _) _)
 have:=h.lt
 exact h1.below hb (by omega)
theorem io (neg:Bool) (v:Value) (n:Nat) (w:World) (h:IsNat w v n) (hn:(dg n).length≤100000) (ht:Tab w) :
  Calls Tryz.prog 51 #[.agg #[.bool neg,v]] w fun e W'=>e = .returned (.tuple #[.string (iM (aL neg n)),.int .i64 (iN (aL neg n))])∧Below w.heap.size w W':=by
 have cl:=fun W hW=>wj v n W (Nats.next h hW) (by omega)
 obtain ⟨p,cap,hv,h1,h2,h3⟩:=id h
 subst hv
 have hlim:=Cm neg n
 have CL:=Ha cl;clear cl
 have H3:=Ha h3;clear h3
 by_cases hbig:300<fP n
 ·have hb:(300:Int)<(fP n:Nat):=by omega
  have e1:iM (aL neg n)=ByteArray.empty:=by unfold iM;rw [if_neg (hlim.1 hbig)]
  have e2:iN (aL neg n)=4:=by unfold iN;rw [if_neg (hlim.1 hbig)]
  rw [e1,e2]
  clear e1 e2 hlim hbig
  generalize fP n=m at *
  go_enter Tryz.func51,Tryz.ntmps51
  go_wp2_with fail
  refine (CL.out _ ((Below.refl _ w).alloc (Nat.le_refl _) _)).mono ?_
  rintro e w' ⟨rfl,rfl⟩
  go_wp2
  go_ret2
  exact ⟨rfl,(Below.refl _ w).alloc (Nat.le_refl _) _⟩
 ·have hb:((fP n:Nat):Int)≤300:=by omega
  have hlt:(aL neg n).natAbs<lim:=Decidable.byContradiction fun hc=>hbig (hlim.2 hc)
  have e1:iM (aL neg n)=aa (aL neg n):=by unfold iM;rw [if_pos hlt]
  have e2:iN (aL neg n)=0:=by unfold iN;rw [if_pos hlt]
  rw [e1,e2]
  clear e1 e2 hlim hbig hlt
  by_cases h0:n=0
  ·subst h0
   have hl:(dg 0).length=0:=by rw [aD];rfl
   have hz:aa (aL neg 0)=⟨#[48]⟩:=by
    have:aL neg 0=0:=by unfold aL;cases neg <;> rfl
    rw [this];unfold aa;rw [fZ]
   rw [hz,hl]
   rw [hl] at CL
   have hb2:=hb
   clear hz hl hb hn h1 h H3
   generalize fP 0=m at *
   go_enter Tryz.func51,Tryz.ntmps51
   go_wp2_with fail
   refine (CL.out _ ((Below.refl _ w).alloc (Nat.le_refl _) _)).mono ?_
   rintro e w' ⟨rfl,rfl⟩
   go_wp2
   go_ret2
   exact ⟨rfl,(Below.refl _ w).alloc (Nat.le_refl _) _⟩
  ·have hne:dg n ≠ []:=fun e=>h0 ((dD n).1 e)
   obtain ⟨b,off,rfl,hc⟩:=H3.out hne
   have hl0:0<(dg n).length:=List.length_pos_iff.2 hne
   have hz:Lib.itoa (aL neg n)=rA neg++txt ((dg n).drop 0):=by rw [u5 neg h0,List.drop_zero,FO h0]
   have hD:=aB n
   have hlast:=(aB n).getD ((dg n).length - 1)
   have HT:=Ha ht
   have HC:=Ha hc
   have HZ:=Ha hz
   have HD:=Ha hD
   obtain ⟨i0,hi,hz0,hz1,hz2⟩:=info_parts fW
   have HI:=Ha (Hb hi (Hb hz0 (Hb hz1 hz2)));clear hi hz0 hz1 hz2
   clear hz hc H3 ht h hne hD
   generalize dg n=l at *
   generalize fP n=m at *
   obtain ⟨t,hlt⟩:∃ t,l.length=t+1:=⟨l.length - 1,by omega⟩
   have HL:=Ha hlt
   rw [hlt] at CL h1 hn ⊢
   have hdl:l.getD t 0<1000000000:=HD.out.getD t
   obtain ⟨dl,hdl2⟩:∃ x,l.getD t 0=x:=⟨_,rfl⟩
   rw [hdl2] at hdl
   have HDL:=Ha hdl2
   have HCL:=Ha (show w.cell? ⟨b,off+t,none⟩=some (.int .u64 (dl:Nat)) by rw [←hdl2];exact HC.out t (by omega))
   clear hlt hl0 hlast hdl2
   have hB0:=Ha ((Below.refl (w.heap.size+1) (w.alloc (.cells #[.bool neg,.slice (some ⟨b,off,none⟩) (t+1) cap] 90))))
   cases neg
   case' false =>
    go_enter Tryz.func51,Tryz.ntmps51
    go_wp2_with fail
    refine (CL.out _ ((Below.refl _ w).alloc (Nat.le_refl _) _)).mono ?_
    rintro e w' ⟨rfl,rfl⟩
    clear CL
    go_wp2_with (at_make;refine wpList_make_own _ rfl _ _ 150 rfl (w.heap.size+1) 5 i0 (.int .u8 0) 1 Tryz.underlying150 HI.out.1 HI.out.2.1 HI.out.2.2.1 .i64 .i64 _ 301 rfl rfl rfl (by rw [HI.out.2.2.2];omega) (by unfold maxLen;omega) (by simp) ?_;intro w1 hown hgrow;have hb1:=hB0.out.grown hgrow (by simp) (fun k e=>by cases e);obtain ⟨d0,d1⟩:=gh hb1;have cd1:=jB hb1 HCL.out)
    simp only [World.size_alloc] at hown
    obtain ⟨pre,hpre,hown2⟩:∃ pre:List UInt8,Hid (pre=rA false)∧w1.ownsRow (w.heap.size+1) 5 1 (.slice (some ⟨w.heap.size+1,0,none⟩) 0 301) pre.length (Lib.byteCells pre):=⟨[],rfl,hown⟩
    clear hown hgrow
   case' true =>
    go_enter Tryz.func51,Tryz.ntmps51
    go_wp2_with fail
    refine (CL.out _ ((Below.refl _ w).alloc (Nat.le_refl _) _)).mono ?_
    rintro e w' ⟨rfl,rfl⟩
    clear CL
    go_wp2_with (first | (at_make;refine wpList_make_own _ rfl _ _ 150 rfl (w.heap.size+1) 5 i0 (.int .u8 0) 1 Tryz.underlying150 HI.out.1 HI.out.2.1 HI.out.2.2.1 .i64 .i64 _ 301 rfl rfl rfl (by rw [HI.out.2.2.2];omega) (by unfold maxLen;omega) (by simp) ?_;intro w0 hown0 hgrow0;simp only [World.size_alloc] at hown0;have hb00:=hB0.out.grown hgrow0 (by simp) (fun k e=>by cases e);obtain ⟨d00,d01⟩:=gh hb00;have HO:=Ha (Hb hown0 (Hb hgrow0 hb00));clear hown0 hgrow0 hb00) | (at_builtin;refine wpList_append_own _ rfl _ _ 150 rfl (w.heap.size+1) 5 i0 (.int .u8 0) 1 1 Tryz.underlying150 HI.out.1 HI.out.2.1 HI.out.2.2.1 HI.out.2.2.2 rfl (by decide) _ _ _ rfl (HO.out.1.alloc _) ⟨w0.heap.size,0,none⟩ 1 1 [.int .u8 45] rfl rfl (cell_one_new _ _ _) (by simp [Value.oneCell']) (by unfold maxLen;omega) (by omega) (by have:=HO.out.2.2.size;simp at this ⊢; omega) ?_;intro v1 w1 hown1 hgrow1 _;have hb1:=(HO.out.2.2.alloc (by have:=HO.out.2.2.size;simp at this;omega) _).grown hgrow1 (by have:=HO.out.2.2.size;simp at this ⊢; omega) (fun k e=>by cases e;exact Nat.le_refl _);obtain ⟨d0,d1⟩:=gh hb1;have cd1:=jB hb1 HCL.out))
    obtain ⟨pre,hpre,hown2⟩:∃ pre:List UInt8,Hid (pre=rA true)∧w1.ownsRow (w.heap.size+1) 5 1 v1 pre.length (Lib.byteCells pre):=⟨[45],rfl,hown1⟩
    clear hown1 hgrow1 HO d00 d01
   all_goals
    have hpl:pre.length≤1:=by rw [hpre.out];simp [rA]
    refine (lL (w.heap.size+1) pre.length dl (by omega) _ _ _ hown2 (by have:=hb1.size;simp at this;omega) (by omega) (HT.out.old hb1)).mono ?_
    rintro e w2 ⟨v2,rfl,hown3,hb2⟩
    have hb3:=hb1.trans hb2
    clear hown2 hb2 hb1 d0 d1 cd1
    obtain ⟨d0,d1⟩:=gh hb3
    have hX:∃ X:List UInt8,Hid (X=pre++txt (l.drop t))∧X.length≤30∧0<X.length∧w2.ownsRow (w.heap.size+1) 5 1 v2 X.length (Lib.byteCells X):=by
     refine ⟨pre++Lib.decDigits dl,?_,?_,?_,?_⟩
     ·show _=_
      rw [Ck (by rw [HL.out]),HDL.out]
     ·have:=(bh dl 9 (by decide)).2 (by omega)
      rw [List.length_append,Lib.decDigits_length];omega
     ·have:=Lib.nDigits_pos dl
      rw [List.length_append,Lib.decDigits_length];omega
     ·rw [List.length_append,Lib.byteCells_append];exact hown3
    clear hown3
    obtain ⟨X,hX,hXl,hX0,hown⟩:=hX
    have HB3:=Ha hb3;clear hb3
    go_wp2
    clear d0 d1
    go_loopw [4,6] (fun x y wr=>∃ (j:Nat) (X:List UInt8),j≤t∧y = .int .i64 ((j:Int) - 1)∧Hid (X=pre++txt (l.drop j))∧X.length+9*j≤30+9*t∧0<X.length∧wr.ownsRow (w.heap.size+1) 5 1 x X.length (Lib.byteCells X) ∧
      Hid (Below (w.heap.size+1) (w.alloc (.cells #[_,.slice (some ⟨b,off,none⟩) (t+1) cap] 90)) wr))
     (fun _ y _=>(intOf y+1).toNat)
    case atStart=>exact ⟨t,X,Nat.le_refl _,rfl,hX,by omega,hX0,hown,HB3⟩
    case round =>
     clear hX hXl hX0 hown HB3 X
     obtain ⟨j,X,hj,rfl,hX,hXl,hX0,hown,hbel⟩:=hrel
     obtain ⟨d0,d1⟩:=gh hbel.out
     by_cases hj0:j=0
     ·subst hj0
      have hXz:Hid (X=Lib.itoa (aL _ n)):=hX.trans (by rw [hpre.out];exact HZ.out.symm)
      obtain ⟨k,hk⟩:∃ k,X.length=k+1:=⟨X.length - 1,by omega⟩
      rw [hk] at hown
      obtain ⟨g,cp,rfl⟩:=ownsRow_succ hown
      have hconv:=run_convert_bytes_back (P:=Tryz.prog) wr 150 9 5 ⟨g,0,none⟩ cp X Tryz.underlying150 Tryz.underlying5 Tryz.underlying9 (fun j hj=>by
       refine hown.cells (g:=g) rfl j _ ?_
       simp [Lib.byteCells,List.getElem?_eq_getElem hj])
      rw [hk] at hconv
      clear hown hX hk hX0 hXl
      go_wp2
      go_ret2
      refine ⟨?_,?_⟩
      ·rw [hXz.out];rfl
      ·exact ((Below.refl _ w).alloc (Nat.le_refl _) _).trans (hbel.out.mono (by omega))
     ·obtain ⟨i,rfl⟩:∃ i,j=i+1:=⟨j - 1,by omega⟩
      have hdi:=HD.out.getD i
      have ci:=jB hbel.out (HC.out i (by rw [HL.out];omega))
      have hX2:Hid (X++pad 9 (l.getD i 0)=pre++txt (l.drop i)):=by
       show X++pad 9 (l.getD i 0)=_
       have hs:=Cj (l:=l) (m:=i) (by rw [HL.out];omega)
       rw [hX.out,hs,List.append_assoc]
      obtain ⟨d,hd⟩:∃ x,l.getD i 0=x:=⟨_,rfl⟩
      rw [hd] at hdi ci hX2
      have hsz:=hbel.out.size
      have c:=mE (w.heap.size+1) X.length d hdi _ _ wr hown (by simp at hsz;omega) (by omega)
      have C:=Ha c
      clear c hd hX hown hsz
      go_wp2_with fail
      refine C.out.mono ?_
      clear C
      rintro e w3 ⟨v3,rfl,hown3,hb3⟩
      have HO3:=Ha (Hb hown3 hb3);clear hown3 hb3
      go_wp2
      go_roundw
      case rel =>
       refine ⟨i,X++pad 9 d,by omega,by go_num,hX2,?_,?_,?_,hbel.out.trans HO3.out.2⟩
       ·rw [List.length_append,cQ];omega
       ·rw [List.length_append];omega
       ·rw [List.length_append,cQ,Lib.byteCells_append];exact HO3.out.1
      case measure=>simp [intOf]
def Cp (e z:Int):ByteArray:=if e=0 then iM z else ByteArray.empty
def Cq (e z:Int):Int:=if e=0 then iN z else e
theorem gN (z:Int):Cp 0 z=iM z:=if_pos rfl
theorem gO (z:Int):Cq 0 z=iN z:=if_pos rfl
theorem pX {e:Int} (h:e≠0) (z:Int):Cp e z=⟨#[]⟩:=if_neg h
theorem pY {e:Int} (h:e≠0) (z:Int):Cq e z=e:=if_neg h
theorem ip {a b:List UInt8} (h:c9 a b=0):chk a=0∧chk b=0:=by
 unfold c9 at h;split at h
 ·exact ⟨‹_›, h⟩
 ·exact absurd h ‹_›
theorem bP {s:ByteArray} (h:chk s.data.toList=0):s.size≤301:=by
 have h1:(szL s.data.toList).length≤300:=by
  unfold chk at h
  by_cases h1:(szL s.data.toList).all aA
  ·simp only [h1,Bool.not_true,Bool.false_eq_true,if_false] at h
   split at h
   ·cases h
   ·split at h
    ·cases h
    ·omega
  ·simp only [h1] at h;cases h
 have h2:s.data.toList.length≤(szL s.data.toList).length+1:=by
  unfold szL;split
  ·rw [List.length_tail];omega
  ·omega
 rw [ag] at h2;omega
theorem ti:1000000000000000000000000000000000000000≤lim:=by
 have:ak 39≤ak 300:=aG (by decide)
 have h2:ak 39=1000000000000000000000000000000000000000:=by decide
 unfold lim;omega
theorem kE {z:Int} (h:z.natAbs<1000000000000000000000000000000000000000):iM z=aa z:=by unfold iM;rw [if_pos (Nat.lt_of_lt_of_le h ti)]
theorem kF {z:Int} (h:z.natAbs<1000000000000000000000000000000000000000):iN z=0:=by unfold iN;rw [if_pos (Nat.lt_of_lt_of_le h ti)]
theorem fD (l:List UInt8):aL (aw l) (ah (szL l))=valOf l:=by rw [bY];unfold aL;rfl
theorem d9 {l:List UInt8} (h:chk l=0):ah (szL l)<lim:=by
 have:=Ao l h
 rw [bY] at this;split at this <;> simpa using this
theorem Eh (k:Nat):B ^ k=ak (9*k):=ED k
theorem Cr:lim≤B ^ 34:=by
 rw [Eh]
 exact aG (by decide)
theorem fk {n:Nat} (h:n<lim):(dg n).length≤34:=(av n 34).2 (Nat.lt_of_lt_of_le h Cr)
theorem Cs {a b n:Nat} (ha:a<lim) (hb:b<lim) (h:n≤a+b):(dg n).length≤35:=by
 rw [av]
 have h1:=Cr
 have h2:B ^ 35=B ^ 34*B:=by rw [show (35:Nat)=34+1 from rfl,Nat.pow_succ]
 have h3:B ^ 34*2≤B ^ 34*B:=Nat.mul_le_mul_left _ (by decide)
 omega
theorem FQ {a b:Nat} (ha:a<lim) (hb:b<lim):(dg (a*b)).length≤68:=by
 rw [av,show B ^ 68=B ^ 34*B ^ 34 from (Nat.pow_add B 34 34)]
 have h1:=Cr
 exact Nat.mul_lt_mul'' (Nat.lt_of_lt_of_le ha h1) (Nat.lt_of_lt_of_le hb h1)
theorem Ei (na nb:Bool) (a b:Nat):aL (na != nb) (a*b)=aL na a*aL nb b:=by
 unfold aL;cases na <;> cases nb <;> simp [Int.mul_neg,Int.neg_mul]
theorem Ej (nb:Bool) (b:Nat):aL (!nb) b = -aL nb b:=by unfold aL;cases nb <;> simp
theorem yz (a b:ByteArray) (w:World) (ha:a.size≤maxLen) (hb:b.size≤maxLen) (ht:Tab w) :
  Calls Tryz.prog 288 #[.string a,.string b] w fun e W'=>e = .returned (.tuple #[.string (Cp (c9 a.data.toList b.data.toList) (valOf a.data.toList+valOf b.data.toList)),.int .i64 (Cq (c9 a.data.toList b.data.toList) (valOf a.data.toList+valOf b.data.toList))])∧Below w.heap.size w W':=by
 have cb:=bW a b w ha hb
 generalize he:c9 a.data.toList b.data.toList=e at *
 have CB:=Ha cb;clear cb
 by_cases h0:e=0
 ·subst h0
  obtain ⟨k1,k2⟩:=ip he
  have s1:=bP k1
  have s2:=bP k2
  have i1:=fun W=>aY a W ha
  have i2:=fun W=>aY b W hb
  have IS:=Ha (Hb i1 i2);clear i1 i2
  have HT:=Ha ht
  rw [gN,gO]
  have q1:(a.size:Int)≤18∨¬ (a.size:Int)≤18:=Decidable.em _
  by_cases hsh:a.size≤18∧b.size≤18
  ·obtain ⟨hs1,hs2⟩:=hsh
   have t1:decide ((a.size:Int)≤18)=true:=by simp;omega
   have t2:decide ((b.size:Int)≤18)=true:=by simp;omega
   rw [t1,t2] at IS
   clear q1
   have v1:=bX k1 (by rw [ag];omega)
   have v2:=bX k2 (by rw [ag];omega)
   have m1:=fun W=>dc a W (by omega) k1
   have m2:=fun W=>dc b W (by omega) k2
   have mo:=fun W' (h:Below w.heap.size w W')=>dt (valOf a.data.toList+valOf b.data.toList) W' (by omega) (by omega) (HT.out.next h)
   have r1:=kE (z:=valOf a.data.toList+valOf b.data.toList) (by omega)
   have r2:=kF (z:=valOf a.data.toList+valOf b.data.toList) (by omega)
   rw [r1,r2]
   have MM:=Ha (Hb m1 (Hb m2 mo))
   clear m1 m2 mo r1 r2 he k1 k2 ht
   generalize valOf a.data.toList=x at *
   generalize valOf b.data.toList=y at *
   go_enter Tryz.func288,Tryz.ntmps288
   go_wp2_with fail
   refine CB.out.mono ?_
   rintro e w' ⟨rfl,rfl⟩
   clear CB
   go_wp2_with fail
   refine (IS.out.1 _).mono ?_
   rintro e w' ⟨rfl,rfl⟩
   go_wp2_with fail
   refine (IS.out.2 _).mono ?_
   rintro e w' ⟨rfl,rfl⟩
   clear IS
   go_wp2_with fail
   refine (MM.out.1 _).mono ?_
   rintro e w' ⟨rfl,rfl⟩
   go_wp2_with fail
   refine (MM.out.2.1 _).mono ?_
   rintro e w' ⟨rfl,rfl⟩
   go_wp2_with fail
   refine (MM.out.2.2 _ (Below.refl _ _)).mono ?_
   rintro e w' ⟨rfl,hbb⟩
   have HB:=Ha hbb;clear hbb MM
   go_wp2
   go_ret2
   exact ⟨rfl,HB.out⟩
  ·have rr1:=fun W=>dG a W (by omega) k1
   have rr2:=fun W=>dG b W (by omega) k2
   have RR:=Ha (Hb rr1 rr2)
   have NL:=Ha (Hb (d9 k1) (d9 k2))
   clear rr1 rr2 he k1 k2 ht
   by_cases hs1:a.size≤18
   case' pos =>
    have t1:decide ((a.size:Int)≤18)=true:=by simp;omega
    have t2:decide ((b.size:Int)≤18)=false:=by simp;omega
    rw [t1,t2] at IS
    clear q1
    go_enter Tryz.func288,Tryz.ntmps288
    go_wp2_with fail
    refine CB.out.mono ?_
    rintro e w' ⟨rfl,rfl⟩
    clear CB
    go_wp2_with fail
    refine (IS.out.1 _).mono ?_
    rintro e w' ⟨rfl,rfl⟩
    go_wp2_with fail
    refine (IS.out.2 _).mono ?_
    rintro e w' ⟨rfl,rfl⟩
   case' neg =>
    have t1:decide ((a.size:Int)≤18)=false:=by simp;omega
    rw [t1] at IS
    clear q1
    go_enter Tryz.func288,Tryz.ntmps288
    go_wp2_with fail
    refine CB.out.mono ?_
    rintro e w' ⟨rfl,rfl⟩
    clear CB
    go_wp2_with fail
    refine (IS.out.1 _).mono ?_
    rintro e w' ⟨rfl,rfl⟩
   all_goals
    go_wp2_with fail
    refine (RR.out.1 _).mono ?_
    rintro e w1 ⟨va,rfl,hva,_,hb1⟩
    have H1:=Ha (Hb hva hb1);clear hva hb1
    go_wp2_with fail
    refine (RR.out.2 _).mono ?_
    rintro e w2 ⟨vb,rfl,hvb,_,hb2⟩
    have H2:=Ha (Hb (H1.out.1.next hb2) (Hb hvb (H1.out.2.trans (hb2.mono H1.out.2.size))));clear hvb hb2 H1
    go_wp2_with fail
    refine (u7 _ _ _ _ _ _ _ H2.out.1 H2.out.2.1 (Nat.le_trans (fk NL.out.1) (by decide)) (Nat.le_trans (fk NL.out.2) (by decide))).mono ?_
    rintro e w4 ⟨neg,n,v,rfl,hv,hz,_,hb4⟩
    have hzz:aL neg n=valOf a.data.toList+valOf b.data.toList:=by rw [hz.1,fD,fD]
    have H4:=Ha (Hb hv (H2.out.2.2.trans (hb4.mono H2.out.2.2.size)))
    have ctx:=io neg v n w4 hv (Nat.le_trans (Cs NL.out.1 NL.out.2 hz.2) (by decide)) (HT.out.next H4.out.2)
    rw [hzz] at ctx
    have CT:=Ha ctx
    clear ctx hv hb4 hz hzz
    go_wp2_with fail
    refine CT.out.mono ?_
    rintro e w5 ⟨rfl,hb5⟩
    have HB:=Ha (H4.out.2.trans (hb5.mono H4.out.2.size));clear hb5 H4 CT
    go_wp2
    go_ret2
    exact ⟨rfl,HB.out⟩
 ·have hn:(e != 0)=true:=by simpa using h0
  rw [pX h0,pY h0]
  clear he ht h0
  go_enter Tryz.func288,Tryz.ntmps288
  go_wp2_with fail
  refine CB.out.mono ?_
  rintro e w' ⟨rfl,rfl⟩
  clear CB
  go_wp2
  go_ret2
  exact ⟨rfl,Below.refl _ _⟩
theorem Ek (a b:ByteArray) (w:World) (ha:a.size≤maxLen) (hb:b.size≤maxLen) (ht:Tab w) :
  Calls Tryz.prog 356 #[.string a,.string b] w fun e W'=>e = .returned (.tuple #[.string (Cp (c9 a.data.toList b.data.toList) (valOf a.data.toList - valOf b.data.toList)),.int .i64 (Cq (c9 a.data.toList b.data.toList) (valOf a.data.toList - valOf b.data.toList))])∧Below w.heap.size w W':=by
 have cb:=bW a b w ha hb
 generalize he:c9 a.data.toList b.data.toList=e at *
 have CB:=Ha cb;clear cb
 by_cases h0:e=0
 ·subst h0
  obtain ⟨k1,k2⟩:=ip he
  have s1:=bP k1
  have s2:=bP k2
  have i1:=fun W=>aY a W ha
  have i2:=fun W=>aY b W hb
  have IS:=Ha (Hb i1 i2);clear i1 i2
  have HT:=Ha ht
  rw [gN,gO]
  have q1:(a.size:Int)≤18∨¬ (a.size:Int)≤18:=Decidable.em _
  by_cases hsh:a.size≤18∧b.size≤18
  ·obtain ⟨hs1,hs2⟩:=hsh
   have t1:decide ((a.size:Int)≤18)=true:=by simp;omega
   have t2:decide ((b.size:Int)≤18)=true:=by simp;omega
   rw [t1,t2] at IS
   clear q1
   have v1:=bX k1 (by rw [ag];omega)
   have v2:=bX k2 (by rw [ag];omega)
   have m1:=fun W=>dc a W (by omega) k1
   have m2:=fun W=>dc b W (by omega) k2
   have mo:=fun W' (h:Below w.heap.size w W')=>dt (valOf a.data.toList - valOf b.data.toList) W' (by omega) (by omega) (HT.out.next h)
   have r1:=kE (z:=valOf a.data.toList - valOf b.data.toList) (by omega)
   have r2:=kF (z:=valOf a.data.toList - valOf b.data.toList) (by omega)
   rw [r1,r2]
   have MM:=Ha (Hb m1 (Hb m2 mo))
   clear m1 m2 mo r1 r2 he k1 k2 ht
   generalize valOf a.data.toList=x at *
   generalize valOf b.data.toList=y at *
   go_enter Tryz.func356,Tryz.ntmps356
   go_wp2_with fail
   refine CB.out.mono ?_
   rintro e w' ⟨rfl,rfl⟩
   clear CB
   go_wp2_with fail
   refine (IS.out.1 _).mono ?_
   rintro e w' ⟨rfl,rfl⟩
   go_wp2_with fail
   refine (IS.out.2 _).mono ?_
   rintro e w' ⟨rfl,rfl⟩
   clear IS
   go_wp2_with fail
   refine (MM.out.1 _).mono ?_
   rintro e w' ⟨rfl,rfl⟩
   go_wp2_with fail
   refine (MM.out.2.1 _).mono ?_
   rintro e w' ⟨rfl,rfl⟩
   go_wp2_with fail
   refine (MM.out.2.2 _ (Below.refl _ _)).mono ?_
   rintro e w' ⟨rfl,hbb⟩
   have HB:=Ha hbb;clear hbb MM
   go_wp2
   go_ret2
   exact ⟨rfl,HB.out⟩
  ·have rr1:=fun W=>dG a W (by omega) k1
   have rr2:=fun W=>dG b W (by omega) k2
   have RR:=Ha (Hb rr1 rr2)
   have NL:=Ha (Hb (d9 k1) (d9 k2))
   clear rr1 rr2 he k1 k2 ht
   by_cases hs1:a.size≤18
   case' pos =>
    have t1:decide ((a.size:Int)≤18)=true:=by simp;omega
    have t2:decide ((b.size:Int)≤18)=false:=by simp;omega
    rw [t1,t2] at IS
    clear q1
    go_enter Tryz.func356,Tryz.ntmps356
    go_wp2_with fail
    refine CB.out.mono ?_
    rintro e w' ⟨rfl,rfl⟩
    clear CB
    go_wp2_with fail
    refine (IS.out.1 _).mono ?_
    rintro e w' ⟨rfl,rfl⟩
    go_wp2_with fail
    refine (IS.out.2 _).mono ?_
    rintro e w' ⟨rfl,rfl⟩
   case' neg =>
    have t1:decide ((a.size:Int)≤18)=false:=by simp;omega
    rw [t1] at IS
    clear q1
    go_enter Tryz.func356,Tryz.ntmps356
    go_wp2_with fail
    refine CB.out.mono ?_
    rintro e w' ⟨rfl,rfl⟩
    clear CB
    go_wp2_with fail
    refine (IS.out.1 _).mono ?_
    rintro e w' ⟨rfl,rfl⟩
   all_goals
    go_wp2_with fail
    refine (RR.out.1 _).mono ?_
    rintro e w1 ⟨va,rfl,hva,_,hb1⟩
    have H1:=Ha (Hb hva hb1);clear hva hb1
    go_wp2_with fail
    refine (RR.out.2 _).mono ?_
    rintro e w2 ⟨vb,rfl,hvb,_,hb2⟩
    have H2:=Ha (Hb (H1.out.1.next hb2) (Hb hvb (H1.out.2.trans (hb2.mono H1.out.2.size))));clear hvb hb2 H1
    go_wp2_with fail
    refine (th _ _ _ _ H2.out.2.1).mono ?_
    rintro e w3 ⟨rfl,hb3⟩
    have H3:=Ha (Hb (H2.out.1.next hb3) (Hb (H2.out.2.1.next hb3) (H2.out.2.2.trans (hb3.mono H2.out.2.2.size))));clear hb3 H2
    go_wp2_with fail
    refine (u7 _ _ _ _ _ _ _ H3.out.1 H3.out.2.1 (Nat.le_trans (fk NL.out.1) (by decide)) (Nat.le_trans (fk NL.out.2) (by decide))).mono ?_
    rintro e w4 ⟨neg,n,v,rfl,hv,hz,_,hb4⟩
    have hzz:aL neg n=valOf a.data.toList - valOf b.data.toList:=by rw [hz.1,Ej,fD,fD];omega
    have H4:=Ha (Hb hv (H3.out.2.2.trans (hb4.mono H3.out.2.2.size)))
    have ctx:=io neg v n w4 hv (Nat.le_trans (Cs NL.out.1 NL.out.2 hz.2) (by decide)) (HT.out.next H4.out.2)
    rw [hzz] at ctx
    have CT:=Ha ctx
    clear ctx hv hb4 hz hzz
    go_wp2_with fail
    refine CT.out.mono ?_
    rintro e w5 ⟨rfl,hb5⟩
    have HB:=Ha (H4.out.2.trans (hb5.mono H4.out.2.size));clear hb5 H4 CT
    go_wp2
    go_ret2
    exact ⟨rfl,HB.out⟩
 ·have hn:(e != 0)=true:=by simpa using h0
  rw [pX h0,pY h0]
  clear he ht h0
  go_enter Tryz.func356,Tryz.ntmps356
  go_wp2_with fail
  refine CB.out.mono ?_
  rintro e w' ⟨rfl,rfl⟩
  clear CB
  go_wp2
  go_ret2
  exact ⟨rfl,Below.refl _ _⟩
theorem xf {a b:ByteArray} (ka:chk a.data.toList=0) (kb:chk b.data.toList=0) (h:a.size+b.size≤18) :
  -1000000000000000000<valOf a.data.toList*valOf b.data.toList∧valOf a.data.toList*valOf b.data.toList<1000000000000000000:=by
 have h1:=aX _ (dh ka)
 have h2:=aX _ (dh kb)
 have l1:=gA a.data.toList
 have l2:=gA b.data.toList
 rw [ag] at l1 l2
 have h3:ah (szL a.data.toList)*ah (szL b.data.toList)<10 ^ 18:=by
  refine Nat.lt_of_lt_of_le (Nat.mul_lt_mul'' h1 h2) ?_
  rw [←Nat.pow_add]
  exact Nat.pow_le_pow_right (by decide) (by omega)
 have h4:(valOf a.data.toList*valOf b.data.toList).natAbs=ah (szL a.data.toList)*ah (szL b.data.toList):=by
  rw [Int.natAbs_mul,bY,bY]
  congr 1 <;> split <;> simp
 omega
theorem yA (a b:ByteArray) (w:World) (ha:a.size≤maxLen) (hb:b.size≤maxLen) (ht:Tab w) :
  Calls Tryz.prog 295 #[.string a,.string b] w fun e W'=>e = .returned (.tuple #[.string (Cp (c9 a.data.toList b.data.toList) (valOf a.data.toList*valOf b.data.toList)),.int .i64 (Cq (c9 a.data.toList b.data.toList) (valOf a.data.toList*valOf b.data.toList))])∧Below w.heap.size w W':=by
 have cb:=bW a b w ha hb
 generalize he:c9 a.data.toList b.data.toList=e at *
 have CB:=Ha cb;clear cb
 by_cases h0:e=0
 ·subst h0
  obtain ⟨k1,k2⟩:=ip he
  have s1:=bP k1
  have s2:=bP k2
  have i1:=fun W=>aY a W ha
  have i2:=fun W=>aY b W hb
  have IS:=Ha (Hb i1 i2);clear i1 i2
  have HT:=Ha ht
  rw [gN,gO]
  by_cases hsh:a.size+b.size≤18
  ·have hs1:a.size≤18:=by omega
   have hs2:b.size≤18:=by omega
   have hsi:(a.size:Int)+b.size≤18:=by omega
   have hprod:=xf k1 k2 hsh
   have v1:=bX k1 (by rw [ag];omega)
   have v2:=bX k2 (by rw [ag];omega)
   have m1:=fun W=>dc a W (by omega) k1
   have m2:=fun W=>dc b W (by omega) k2
   have mo:=fun W' (h:Below w.heap.size w W')=>dt (valOf a.data.toList*valOf b.data.toList) W' (by omega) (by omega) (HT.out.next h)
   have r1:=kE (z:=valOf a.data.toList*valOf b.data.toList) (by omega)
   have r2:=kF (z:=valOf a.data.toList*valOf b.data.toList) (by omega)
   rw [r1,r2]
   have MM:=Ha (Hb m1 (Hb m2 mo))
   clear m1 m2 mo r1 r2 he k1 k2 ht
   generalize valOf a.data.toList=x at *
   generalize valOf b.data.toList=y at *
   go_enter Tryz.func295,Tryz.ntmps295
   go_wp2_with fail
   refine CB.out.mono ?_
   rintro e w' ⟨rfl,rfl⟩
   clear CB
   go_wp2_with fail
   refine (MM.out.1 _).mono ?_
   rintro e w' ⟨rfl,rfl⟩
   go_wp2_with fail
   refine (MM.out.2.1 _).mono ?_
   rintro e w' ⟨rfl,rfl⟩
   go_wp2_with fail
   refine (MM.out.2.2 _ (Below.refl _ _)).mono ?_
   rintro e w' ⟨rfl,hbb⟩
   have HB:=Ha hbb;clear hbb MM
   go_wp2
   go_ret2
   exact ⟨rfl,HB.out⟩
  ·have rr1:=fun W=>dG a W (by omega) k1
   have rr2:=fun W=>dG b W (by omega) k2
   have RR:=Ha (Hb rr1 rr2)
   have NL:=Ha (Hb (d9 k1) (d9 k2))
   clear rr1 rr2 he k1 k2 ht
   have hsi:¬ (a.size:Int)+b.size≤18:=by omega
   go_enter Tryz.func295,Tryz.ntmps295
   go_wp2_with fail
   refine CB.out.mono ?_
   rintro e w' ⟨rfl,rfl⟩
   clear CB
   go_wp2_with fail
   refine (RR.out.1 _).mono ?_
   rintro e w1 ⟨va,rfl,hva,_,hb1⟩
   have H1:=Ha (Hb hva hb1);clear hva hb1
   go_wp2_with fail
   refine (RR.out.2 _).mono ?_
   rintro e w2 ⟨vb,rfl,hvb,_,hb2⟩
   have H2:=Ha (Hb (H1.out.1.next hb2) (Hb hvb (H1.out.2.trans (hb2.mono H1.out.2.size))));clear hvb hb2 H1
   go_wp2_with fail
   refine (mC _ _ _ _ _ _ _ H2.out.1 H2.out.2.1 (Nat.le_trans (fk NL.out.1) (by decide)) (Nat.le_trans (fk NL.out.2) (by decide))).mono ?_
   rintro e w4 ⟨v,rfl,hv,_,hb4⟩
   have hzz:aL (aw a.data.toList != aw b.data.toList) (ah (szL a.data.toList)*ah (szL b.data.toList))=valOf a.data.toList*valOf b.data.toList:=by rw [Ei,fD,fD]
   have H4:=Ha (Hb hv (H2.out.2.2.trans (hb4.mono H2.out.2.2.size)))
   have ctx:=io (aw a.data.toList != aw b.data.toList) v _ w4 hv (Nat.le_trans (FQ NL.out.1 NL.out.2) (by decide)) (HT.out.next H4.out.2)
   rw [hzz] at ctx
   have CT:=Ha ctx
   clear ctx hv hb4 hzz
   go_wp2_with fail
   refine CT.out.mono ?_
   rintro e w5 ⟨rfl,hb5⟩
   have HB:=Ha (H4.out.2.trans (hb5.mono H4.out.2.size));clear hb5 H4 CT
   go_wp2
   go_ret2
   exact ⟨rfl,HB.out⟩
 ·have hn:(e != 0)=true:=by simpa using h0
  rw [pX h0,pY h0]
  clear he ht h0
  go_enter Tryz.func295,Tryz.ntmps295
  go_wp2_with fail
  refine CB.out.mono ?_
  rintro e w' ⟨rfl,rfl⟩
  clear CB
  go_wp2
  go_ret2
  exact ⟨rfl,Below.refl _ _⟩
end Go.Proofs.YtbhbhlfkdlfimaaGreatDoor
