/- Parts of the proof of the text YtjdomibbaemdnaaGreatDoorZK42. -/
import Derived.Test.YtjdomibbaemdnaaGreatDoorZK1
import Derived.Test.YtjdomibbaemdnaaGreatDoorZK30
set_option linter.all false
set_option maxRecDepth 100000
set_option maxHeartbeats 8000000
namespace Go.Proofs.YtjdomibbaemdnaaGreatDoor
namespace R
open Go.RowKit
theorem f9 (na nb:Bool) (va vb:Value) (a b:Nat) (w:World) (ha:IsNat w va a) (hb:IsNat w vb b) (hla:(dg a).length≤100000) (hlb:(dg b).length≤100000) :
  Calls Tryz.prog 120 #[.agg #[.bool na,va],.agg #[.bool nb,vb]] w fun e W'=>∃ neg n v,e = .returned (.agg #[.bool neg,v])∧IsNat W' v n∧(am neg n=am na a+am nb b∧n≤a+b)∧Fresh w.heap.size v∧Below w.heap.size w W':=by
 obtain ⟨pa,ca,rfl⟩:=ha.shape
 obtain ⟨pb,cb,rfl⟩:=hb.shape
 by_cases hs:na=nb
 ·have cp:∀ W,Below w.heap.size w W→Calls Tryz.prog 124 #[.slice pa (dg a).length ca,.slice pb (dg b).length cb] W fun e W'=>∃ v,e = .returned v∧IsNat W' v (a+b)∧Fresh W.heap.size v∧Below W.heap.size W W':=fun W hW=>by
   have:=kn _ _ (dg a) (dg b) W (Nats.next ha hW) (Nats.next hb hW) (aq a) (aq b) (by omega) (by omega)
   rwa [ar,ar] at this
  have CP:=Ha cp;clear cp ha hb hla hlb
  have HZ:Hid (am na (a+b)=am na a+am nb b∧a+b≤a+b):=⟨by rw [←hs];exact kI na a b,Nat.le_refl _⟩
  have hq:(na==nb)=true:=by simpa using hs
  clear hs
  generalize (dg a).length=la at *
  generalize (dg b).length=lb at *
  go_enter Tryz.func120,Tryz.ntmps120
  go_wp2
  have hbx:=bR w (.bool na) (.slice pa la ca) (.bool nb) (.slice pb lb cb) (.bool false) (.slice none 0 0) 122
  generalize ((w.alloc (.cells #[.bool na,.slice pa la ca] 122)).alloc (.cells #[.bool nb,.slice pb lb cb] 122)).alloc (.cells #[.bool false,.slice none 0 0] 122)=W0 at *
  generalize hk:w.heap.size=k at *
  have HK:=Ha hk;clear hk
  have HBD:=Ha hbx.drew
  clear hbx
  obtain ⟨c1,c2,c3,c4,_,_,_,_,_,_⟩:=HBD.out
  go_region_held3 (fun w'=>w'.cell? ⟨k,0,none⟩=some (.bool na)∧w'.cell? ⟨k,1,none⟩=some (.slice pa la ca)∧w'.cell? ⟨k+1,0,none⟩=some (.bool nb)∧w'.cell? ⟨k+1,1,none⟩=some (.slice pb lb cb)) (first | (go_keep;done) | ((try dsimp only);refine ⟨?_,?_,?_,?_⟩ <;> (first | (exact dU (by omega) (by assumption)) | (go_keep;done))))
   (first | (go_at_call 124;refine (CP.out _ HBD.out.below).mono ?_;rintro e w1 ⟨v,rfl,hv,hf,hb1⟩;obtain ⟨p,cap,rfl⟩:=hv.shape;have HB1:=Ha (HBD.out.next hb1);have HV:=Ha (Hb hv (Hb hf hb1));clear hv hf hb1;obtain ⟨e1,e2,e3,e4,e5,e6,e7,e8,_,_⟩:=HB1.out))
  obtain ⟨g5,g6⟩:=au e5 e6 (.bool na) (.slice p (dg (a+b)).length cap)
  go_wp2
  refine bodyPost_ret (v := .agg #[.bool na,.slice p (dg (a+b)).length cap]) (by simp [results,Tryz.results120,go_sem,g5,g6]) rfl ?_
  obtain ⟨hv,hf,hb1⟩:=HV.out
  have hf':Fresh (k+3) (.slice p (dg (a+b)).length cap):=hf.mono HBD.out.size
  refine ⟨_,_,_,rfl,(hv.setCell hf' (by show k+1+1<k+3;omega) _).setCell hf' (by show k+1+1<k+3;omega) _,HZ.out,hf'.mono (by rw [HK.out];omega),?_⟩
  rw [HK.out]
  exact ((HB1.out.below).setCell (p:=⟨k+1+1,0,none⟩) (by show k≤k+1+1;omega) _).setCell (p:=⟨k+1+1,1,none⟩) (by show k≤k+1+1;omega) _
 ·have hq:(na==nb)=false:=by simpa using hs
  have hbx:=bR w (.bool na) (.slice pa (dg a).length ca) (.bool nb) (.slice pb (dg b).length cb) (.bool false) (.slice none 0 0) 122
  have hfz:=xF w (.bool na) (.slice pa (dg a).length ca) (.bool nb) (.slice pb (dg b).length cb) (.bool false) (.slice none 0 0) 122
  have cc:=km (.slice pa (dg a).length ca) (.slice pb (dg b).length cb) a b _ (ha.next hbx.below) (hb.next hbx.below)
  have CC:=Ha cc;clear cc
  by_cases hle:b≤a
  ·have hcmp:0≤bW a b:=by
    rcases Nat.lt_or_eq_of_le hle with h | h
    ·rw [er h];decide
    ·rw [kH h.symm];decide
   have cp:∀ W,Below w.heap.size w W→Calls Tryz.prog 171 #[.slice pa (dg a).length ca,.slice pb (dg b).length cb] W fun e W'=>∃ v,e = .returned v∧IsNat W' v (a - b)∧Fresh W.heap.size v∧Below W.heap.size W W':=fun W hW=>by
    have:=jh _ _ (dg a) (dg b) W (Nats.next ha hW) (Nats.next hb hW) (aq a) (aq b) (by omega) (aC hle) (by rw [ar,ar];exact hle)
    rw [ar,ar] at this
    exact this.mono fun e W' ⟨g,cap,he,hn,hg,hB⟩=>⟨_,he,hn,fun k hk=>by cases hk;exact hg,hB⟩
   have CP:=Ha cp;clear cp ha hb hla hlb
   have HZ:Hid (am na (a - b)=am na a+am nb b∧a - b≤a+b):=⟨mv na nb hs a b hle,by omega⟩
   have HBX:=Ha (Hb hbx hfz)
   clear hs hle hbx hfz
   generalize (dg a).length=la at *
   generalize (dg b).length=lb at *
   generalize bW a b=cm at *
   have hcm2:¬ cm<0:=by omega
   go_enter Tryz.func120,Tryz.ntmps120
   go_wp2_with fail
   refine CC.out.mono ?_
   rintro e w' ⟨rfl,nn,rfl⟩
   clear CC
   have hbx2:=HBX.out.1.drewN nn
   clear HBX
   generalize (((w.alloc (.cells #[.bool na,.slice pa la ca] 122)).alloc (.cells #[.bool nb,.slice pb lb cb] 122)).alloc (.cells #[.bool false,.slice none 0 0] 122)).drewN nn=W0 at *
   generalize hk:w.heap.size=k at *
   have HK:=Ha hk;clear hk
   have HBX:=Ha hbx2
   obtain ⟨b1,b2,b3,b4,_,_,_,_,_,_⟩:=hbx2
   go_wp2
   clear b1 b2 b3 b4
   have HBD:=Ha HBX.out.drew
   have HBA:=Ha (HBX.out.next ((Below.refl _ W0).alloc (Nat.le_refl _) (.cells #[.bool false,.slice none 0 0] 122))).drew
   obtain ⟨c1,c2,c3,c4,_,_,_,_,_,_⟩:=HBX.out
   have hs0:k+3≤W0.heap.size:=HBX.out.size
   go_region_held3 (fun w'=>w'.cell? ⟨k,0,none⟩=some (.bool na)∧w'.cell? ⟨k,1,none⟩=some (.slice pa la ca)∧w'.cell? ⟨k+1,0,none⟩=some (.bool nb)∧w'.cell? ⟨k+1,1,none⟩=some (.slice pb lb cb))
    (first | (go_keep;done) | (exact ⟨ao c1,ao c2,ao c3,ao c4⟩) | (exact ⟨aU e1,aU e2,aU e3,aU e4⟩) | (exact ⟨ao e1,ao e2,ao e3,ao e4⟩) | (refine ⟨?_,?_,?_,?_⟩ <;> (first | (exact dU (by omega) (by assumption)) | (exact dU (by omega) (aU (by assumption))) | (exact dU (by omega) (ao (by assumption))))))
    (first
     | (go_at_call 171;with_reducible refine (CP.out _ HBA.out.below).mono ?_;rintro e w1 ⟨v,rfl,hv,hf,hb1⟩;obtain ⟨p,cap,rfl⟩:=hv.shape;have HB1:=Ha (HBA.out.next hb1);have z0:w1.cell? ⟨W0.heap.size,0,none⟩=some (.bool false):=(hb1.cell (p:=⟨W0.heap.size,0,none⟩) (by simp)).trans (by go_cell);have z1:w1.cell? ⟨W0.heap.size,1,none⟩=some (.slice none 0 0):=(hb1.cell (p:=⟨W0.heap.size,1,none⟩) (by simp)).trans (by go_cell);have y0:w1.frozen? ⟨W0.heap.size,0,none⟩=false:=(hb1.frozen (p:=⟨W0.heap.size,0,none⟩) (by simp)).trans (by simp [go_sem]);have y1:w1.frozen? ⟨W0.heap.size,1,none⟩=false:=(hb1.frozen (p:=⟨W0.heap.size,1,none⟩) (by simp)).trans (by simp [go_sem]);have HV:=Ha (Hb hv (Hb hf hb1));clear hv hf hb1;obtain ⟨e1,e2,e3,e4,e5,e6,e7,e8,hsz,_⟩:=HB1.out)
     | (go_at_call 171;with_reducible refine (CP.out _ HBD.out.below).mono ?_;rintro e w1 ⟨v,rfl,hv,hf,hb1⟩;obtain ⟨p,cap,rfl⟩:=hv.shape;have HB1:=Ha (HBD.out.next hb1);have HV:=Ha (Hb hv (Hb hf hb1));clear hv hf hb1;obtain ⟨e1,e2,e3,e4,e5,e6,e7,e8,hsz,_⟩:=HB1.out))
   ·have HOB:=Ha (OB.alloc (ng:=na) (T:=122) HB1.out HV.out.1 (HV.out.2.1.mono hs0))
    clear e1 e2 e3 e4 e5 e6 e7 e8 hsz HB1 HV c1 c2 c3 c4 HBX HBD HBA hs0 CP
    rename_i hHeld
    clear hHeld
    generalize w1.alloc (.cells #[.bool na,.slice p (dg (a - b)).length cap] 122)=W2 at *
    generalize w1.heap.size=o at *
    obtain ⟨p0,p1,g0,⟨u0,r0⟩,⟨u1,r1⟩,f0,f1,ho,hnat,hfr,hbel⟩:=HOB.out
    have hok:k+1+1≠o:=by omega
    have HX:=Ha (Hb hnat (Hb hfr (Hb hbel ho)))
    clear hnat hfr hbel HOB
    by_cases hz:a - b=0
    ·have hl:(dg (a - b)).length=0:=by rw [hz,av];rfl
     rw [hl] at p1 HX ⊢
     have HZ2:=Ha hz
     have q0:(W2.setCell ⟨o,0,none⟩ (.bool false)).cell? ⟨o,0,none⟩=some (.bool false):=World.cell?_setCell_same' _ _ _ (by rw [p0];rfl)
     have q1:(W2.setCell ⟨o,0,none⟩ (.bool false)).cell? ⟨o,1,none⟩=some (.slice p 0 cap):=by go_cell
     have s0:(W2.setCell ⟨o,0,none⟩ (.bool false)).cell? ⟨k+1+1,0,none⟩=some u0:=(World.cell?_of_block (Below.heap_setCell _ _ _ _ (by show k+1+1≠o;exact hok))).trans r0
     have s1:(W2.setCell ⟨o,0,none⟩ (.bool false)).cell? ⟨k+1+1,1,none⟩=some u1:=(World.cell?_of_block (Below.heap_setCell _ _ _ _ (by show k+1+1≠o;exact hok))).trans r1
     have f2:(W2.setCell ⟨o,0,none⟩ (.bool false)).frozen? ⟨k+1+1,0,none⟩=false:=by rw [aD];exact f0
     have f3:(W2.setCell ⟨o,0,none⟩ (.bool false)).frozen? ⟨k+1+1,1,none⟩=false:=by rw [aD];exact f1
     obtain ⟨b0,b1⟩:=au s0 s1 (.bool false) (.slice p 0 cap)
     clear hz hl r0 r1
     go_wp2
     refine bodyPost_ret (v := .agg #[.bool false,.slice p 0 cap]) (by simp [results,Tryz.results120,go_sem,b0,b1]) rfl ?_
     obtain ⟨hn,hf,hb,hoo⟩:=HX.out
     rw [HZ2.out] at hn
     refine ⟨false,0,_,rfl,hn.any0,?_,hf.mono (by rw [HK.out];omega),?_⟩
     ·have h1:=HZ.out
      rw [HZ2.out,aS] at h1
      exact ⟨by rw [aS];exact h1.1,by omega⟩
     ·rw [HK.out]
      exact ((hb.setCell (p:=⟨o,0,none⟩) (by show k≤o;omega) _).setCell (p:=⟨k+1+1,0,none⟩) (by show k≤k+1+1;omega) _).setCell (p:=⟨k+1+1,1,none⟩) (by show k≤k+1+1;omega) _
    ·have hl:(((dg (a - b)).length:Int)==0)=false:=by rw [beq_eq_false_iff_ne];have:=aR hz;omega
     obtain ⟨b0,b1⟩:=au r0 r1 (.bool na) (.slice p (dg (a - b)).length cap)
     clear hz
     go_wp2
     refine bodyPost_ret (v := .agg #[.bool na,.slice p (dg (a - b)).length cap]) (by simp [results,Tryz.results120,go_sem,b0,b1]) rfl ?_
     obtain ⟨hn,hf,hb,hoo⟩:=HX.out
     refine ⟨_,_,_,rfl,(hn.setCell hf (by show k+1+1<k+3;omega) _).setCell hf (by show k+1+1<k+3;omega) _,HZ.out,hf.mono (by rw [HK.out];omega),?_⟩
     rw [HK.out]
     exact (hb.setCell (p:=⟨k+1+1,0,none⟩) (by show k≤k+1+1;omega) _).setCell (p:=⟨k+1+1,1,none⟩) (by show k≤k+1+1;omega) _
   ·have HOB:=Ha (OB.set (ng:=na) HB1.out z0 z1 y0 hs0 HV.out.1 (HV.out.2.1.mono (by simp)))
    clear e1 e2 e3 e4 e5 e6 e7 e8 hsz HB1 HV c1 c2 c3 c4 HBX HBD HBA CP z0 z1 y0 y1
    rename_i hHeld
    clear hHeld
    generalize hsz0:W0.heap.size=o at *
    generalize (w1.setCell ⟨o,0,none⟩ (.bool na)).setCell ⟨o,1,none⟩ (.slice p (dg (a - b)).length cap)=W2 at *
    obtain ⟨p0,p1,g0,⟨u0,r0⟩,⟨u1,r1⟩,f0,f1,ho,hnat,hfr,hbel⟩:=HOB.out
    have hok:k+1+1≠o:=by omega
    have HX:=Ha (Hb hnat (Hb hfr (Hb hbel ho)))
    clear hnat hfr hbel HOB
    by_cases hz:a - b=0
    ·have hl:(dg (a - b)).length=0:=by rw [hz,av];rfl
     rw [hl] at p1 HX ⊢
     have HZ2:=Ha hz
     have q0:(W2.setCell ⟨o,0,none⟩ (.bool false)).cell? ⟨o,0,none⟩=some (.bool false):=World.cell?_setCell_same' _ _ _ (by rw [p0];rfl)
     have q1:(W2.setCell ⟨o,0,none⟩ (.bool false)).cell? ⟨o,1,none⟩=some (.slice p 0 cap):=by go_cell
     have s0:(W2.setCell ⟨o,0,none⟩ (.bool false)).cell? ⟨k+1+1,0,none⟩=some u0:=(World.cell?_of_block (Below.heap_setCell _ _ _ _ (by show k+1+1≠o;exact hok))).trans r0
     have s1:(W2.setCell ⟨o,0,none⟩ (.bool false)).cell? ⟨k+1+1,1,none⟩=some u1:=(World.cell?_of_block (Below.heap_setCell _ _ _ _ (by show k+1+1≠o;exact hok))).trans r1
     have f2:(W2.setCell ⟨o,0,none⟩ (.bool false)).frozen? ⟨k+1+1,0,none⟩=false:=by rw [aD];exact f0
     have f3:(W2.setCell ⟨o,0,none⟩ (.bool false)).frozen? ⟨k+1+1,1,none⟩=false:=by rw [aD];exact f1
     obtain ⟨b0,b1⟩:=au s0 s1 (.bool false) (.slice p 0 cap)
     clear hz hl r0 r1
     go_wp2
     refine bodyPost_ret (v := .agg #[.bool false,.slice p 0 cap]) (by simp [results,Tryz.results120,go_sem,b0,b1]) rfl ?_
     obtain ⟨hn,hf,hb,hoo⟩:=HX.out
     rw [HZ2.out] at hn
     refine ⟨false,0,_,rfl,hn.any0,?_,hf.mono (by rw [HK.out];omega),?_⟩
     ·have h1:=HZ.out
      rw [HZ2.out,aS] at h1
      exact ⟨by rw [aS];exact h1.1,by omega⟩
     ·rw [HK.out]
      exact ((hb.setCell (p:=⟨o,0,none⟩) (by show k≤o;omega) _).setCell (p:=⟨k+1+1,0,none⟩) (by show k≤k+1+1;omega) _).setCell (p:=⟨k+1+1,1,none⟩) (by show k≤k+1+1;omega) _
    ·have hl:(((dg (a - b)).length:Int)==0)=false:=by rw [beq_eq_false_iff_ne];have:=aR hz;omega
     obtain ⟨b0,b1⟩:=au r0 r1 (.bool na) (.slice p (dg (a - b)).length cap)
     clear hz
     go_wp2
     refine bodyPost_ret (v := .agg #[.bool na,.slice p (dg (a - b)).length cap]) (by simp [results,Tryz.results120,go_sem,b0,b1]) rfl ?_
     obtain ⟨hn,hf,hb,hoo⟩:=HX.out
     refine ⟨_,_,_,rfl,(hn.setCell hf (by show k+1+1<k+3;omega) _).setCell hf (by show k+1+1<k+3;omega) _,HZ.out,hf.mono (by rw [HK.out];omega),?_⟩
     rw [HK.out]
     exact (hb.setCell (p:=⟨k+1+1,0,none⟩) (by show k≤k+1+1;omega) _).setCell (p:=⟨k+1+1,1,none⟩) (by show k≤k+1+1;omega) _
  ·have hcmp:bW a b<0:=by rw [dp (by omega)];decide
   have cp:∀ W,Below w.heap.size w W→Calls Tryz.prog 171 #[.slice pb (dg b).length cb,.slice pa (dg a).length ca] W fun e W'=>∃ v,e = .returned v∧IsNat W' v (b - a)∧Fresh W.heap.size v∧Below W.heap.size W W':=fun W hW=>by
    have:=jh _ _ (dg b) (dg a) W (Nats.next hb hW) (Nats.next ha hW) (aq b) (aq a) (by omega) (aC (by omega)) (by rw [ar,ar];omega)
    rw [ar,ar] at this
    exact this.mono fun e W' ⟨g,cap,he,hn,hg,hB⟩=>⟨_,he,hn,fun k hk=>by cases hk;exact hg,hB⟩
   have CP:=Ha cp;clear cp ha hb hla hlb
   have HZ:Hid (am nb (b - a)=am na a+am nb b∧b - a≤a+b):=⟨by rw [mv nb na (fun h=>hs h.symm) b a (by omega),Int.add_comm],by omega⟩
   have HBX:=Ha (Hb hbx hfz)
   clear hs hle hbx hfz
   generalize (dg a).length=la at *
   generalize (dg b).length=lb at *
   generalize bW a b=cm at *
   go_enter Tryz.func120,Tryz.ntmps120
   go_wp2_with fail
   refine CC.out.mono ?_
   rintro e w' ⟨rfl,nn,rfl⟩
   clear CC
   have hbx2:=HBX.out.1.drewN nn
   have hfz2:=HBX.out.2.drewN nn
   clear HBX
   generalize (((w.alloc (.cells #[.bool na,.slice pa la ca] 122)).alloc (.cells #[.bool nb,.slice pb lb cb] 122)).alloc (.cells #[.bool false,.slice none 0 0] 122)).drewN nn=W00 at *
   generalize hk:w.heap.size=k at *
   have HK:=Ha hk;clear hk
   have HBX0:=Ha hbx2
   obtain ⟨b1,b2,b3,b4,_,_,_,_,_,_⟩:=hbx2
   obtain ⟨f1,f2,f3,f4⟩:=hfz2
   go_wp2
   have hsw:=nH HBX0.out
   clear b1 b2 b3 b4 HBX0 f1 f2 f3 f4
   generalize (((W00.setCell ⟨k,0,none⟩ (.bool nb)).setCell ⟨k,1,none⟩ (.slice pb lb cb)).setCell ⟨k+1,0,none⟩ (.bool na)).setCell ⟨k+1,1,none⟩ (.slice pa la ca)=W0 at *
   have HBX:=Ha hsw
   clear hsw
   have HBD:=Ha HBX.out.drew
   have HBA:=Ha (HBX.out.next ((Below.refl _ W0).alloc (Nat.le_refl _) (.cells #[.bool false,.slice none 0 0] 122))).drew
   obtain ⟨c1,c2,c3,c4,_,_,_,_,_,_⟩:=HBX.out
   have hs0:k+3≤W0.heap.size:=HBX.out.size
   go_region_held3 (fun w'=>w'.cell? ⟨k,0,none⟩=some (.bool nb)∧w'.cell? ⟨k,1,none⟩=some (.slice pb lb cb)∧w'.cell? ⟨k+1,0,none⟩=some (.bool na)∧w'.cell? ⟨k+1,1,none⟩=some (.slice pa la ca))
    (first | (go_keep;done) | (exact ⟨ao c1,ao c2,ao c3,ao c4⟩) | (exact ⟨aU e1,aU e2,aU e3,aU e4⟩) | (exact ⟨ao e1,ao e2,ao e3,ao e4⟩) | (refine ⟨?_,?_,?_,?_⟩ <;> (first | (exact dU (by omega) (by assumption)) | (exact dU (by omega) (aU (by assumption))) | (exact dU (by omega) (ao (by assumption))))))
    (first
     | (go_at_call 171;with_reducible refine (CP.out _ HBA.out.below).mono ?_;rintro e w1 ⟨v,rfl,hv,hf,hb1⟩;obtain ⟨p,cap,rfl⟩:=hv.shape;have HB1:=Ha (HBA.out.next hb1);have z0:w1.cell? ⟨W0.heap.size,0,none⟩=some (.bool false):=(hb1.cell (p:=⟨W0.heap.size,0,none⟩) (by simp)).trans (by go_cell);have z1:w1.cell? ⟨W0.heap.size,1,none⟩=some (.slice none 0 0):=(hb1.cell (p:=⟨W0.heap.size,1,none⟩) (by simp)).trans (by go_cell);have y0:w1.frozen? ⟨W0.heap.size,0,none⟩=false:=(hb1.frozen (p:=⟨W0.heap.size,0,none⟩) (by simp)).trans (by simp [go_sem]);have y1:w1.frozen? ⟨W0.heap.size,1,none⟩=false:=(hb1.frozen (p:=⟨W0.heap.size,1,none⟩) (by simp)).trans (by simp [go_sem]);have HV:=Ha (Hb hv (Hb hf hb1));clear hv hf hb1;obtain ⟨e1,e2,e3,e4,e5,e6,e7,e8,hsz,_⟩:=HB1.out)
     | (go_at_call 171;with_reducible refine (CP.out _ HBD.out.below).mono ?_;rintro e w1 ⟨v,rfl,hv,hf,hb1⟩;obtain ⟨p,cap,rfl⟩:=hv.shape;have HB1:=Ha (HBD.out.next hb1);have HV:=Ha (Hb hv (Hb hf hb1));clear hv hf hb1;obtain ⟨e1,e2,e3,e4,e5,e6,e7,e8,hsz,_⟩:=HB1.out))
   ·have HOB:=Ha (OB.alloc (ng:=nb) (T:=122) HB1.out HV.out.1 (HV.out.2.1.mono hs0))
    clear e1 e2 e3 e4 e5 e6 e7 e8 hsz HB1 HV c1 c2 c3 c4 HBX HBD HBA hs0 CP
    rename_i hHeld
    clear hHeld
    generalize w1.alloc (.cells #[.bool nb,.slice p (dg (b - a)).length cap] 122)=W2 at *
    generalize w1.heap.size=o at *
    obtain ⟨p0,p1,g0,⟨u0,r0⟩,⟨u1,r1⟩,f0,f1,ho,hnat,hfr,hbel⟩:=HOB.out
    have hok:k+1+1≠o:=by omega
    have HX:=Ha (Hb hnat (Hb hfr (Hb hbel ho)))
    clear hnat hfr hbel HOB
    by_cases hz:b - a=0
    ·have hl:(dg (b - a)).length=0:=by rw [hz,av];rfl
     rw [hl] at p1 HX ⊢
     have HZ2:=Ha hz
     have q0:(W2.setCell ⟨o,0,none⟩ (.bool false)).cell? ⟨o,0,none⟩=some (.bool false):=World.cell?_setCell_same' _ _ _ (by rw [p0];rfl)
     have q1:(W2.setCell ⟨o,0,none⟩ (.bool false)).cell? ⟨o,1,none⟩=some (.slice p 0 cap):=by go_cell
     have s0:(W2.setCell ⟨o,0,none⟩ (.bool false)).cell? ⟨k+1+1,0,none⟩=some u0:=(World.cell?_of_block (Below.heap_setCell _ _ _ _ (by show k+1+1≠o;exact hok))).trans r0
     have s1:(W2.setCell ⟨o,0,none⟩ (.bool false)).cell? ⟨k+1+1,1,none⟩=some u1:=(World.cell?_of_block (Below.heap_setCell _ _ _ _ (by show k+1+1≠o;exact hok))).trans r1
     have f2:(W2.setCell ⟨o,0,none⟩ (.bool false)).frozen? ⟨k+1+1,0,none⟩=false:=by rw [aD];exact f0
     have f3:(W2.setCell ⟨o,0,none⟩ (.bool false)).frozen? ⟨k+1+1,1,none⟩=false:=by rw [aD];exact f1
     obtain ⟨b0,b1⟩:=au s0 s1 (.bool false) (.slice p 0 cap)
     clear hz hl r0 r1
     go_wp2
     refine bodyPost_ret (v := .agg #[.bool false,.slice p 0 cap]) (by simp [results,Tryz.results120,go_sem,b0,b1]) rfl ?_
     obtain ⟨hn,hf,hb,hoo⟩:=HX.out
     rw [HZ2.out] at hn
     refine ⟨false,0,_,rfl,hn.any0,?_,hf.mono (by rw [HK.out];omega),?_⟩
     ·have h1:=HZ.out
      rw [HZ2.out,aS] at h1
      exact ⟨by rw [aS];exact h1.1,by omega⟩
     ·rw [HK.out]
      exact ((hb.setCell (p:=⟨o,0,none⟩) (by show k≤o;omega) _).setCell (p:=⟨k+1+1,0,none⟩) (by show k≤k+1+1;omega) _).setCell (p:=⟨k+1+1,1,none⟩) (by show k≤k+1+1;omega) _
    ·have hl:(((dg (b - a)).length:Int)==0)=false:=by rw [beq_eq_false_iff_ne];have:=aR hz;omega
     obtain ⟨b0,b1⟩:=au r0 r1 (.bool nb) (.slice p (dg (b - a)).length cap)
     clear hz
     go_wp2
     refine bodyPost_ret (v := .agg #[.bool nb,.slice p (dg (b - a)).length cap]) (by simp [results,Tryz.results120,go_sem,b0,b1]) rfl ?_
     obtain ⟨hn,hf,hb,hoo⟩:=HX.out
     refine ⟨_,_,_,rfl,(hn.setCell hf (by show k+1+1<k+3;omega) _).setCell hf (by show k+1+1<k+3;omega) _,HZ.out,hf.mono (by rw [HK.out];omega),?_⟩
     rw [HK.out]
     exact (hb.setCell (p:=⟨k+1+1,0,none⟩) (by show k≤k+1+1;omega) _).setCell (p:=⟨k+1+1,1,none⟩) (by show k≤k+1+1;omega) _
   ·have HOB:=Ha (OB.set (ng:=nb) HB1.out z0 z1 y0 hs0 HV.out.1 (HV.out.2.1.mono (by simp)))
    clear e1 e2 e3 e4 e5 e6 e7 e8 hsz HB1 HV c1 c2 c3 c4 HBX HBD HBA CP z0 z1 y0 y1
    rename_i hHeld
    clear hHeld
    generalize hsz0:W0.heap.size=o at *
    generalize (w1.setCell ⟨o,0,none⟩ (.bool nb)).setCell ⟨o,1,none⟩ (.slice p (dg (b - a)).length cap)=W2 at *
    obtain ⟨p0,p1,g0,⟨u0,r0⟩,⟨u1,r1⟩,f0,f1,ho,hnat,hfr,hbel⟩:=HOB.out
    have hok:k+1+1≠o:=by omega
    have HX:=Ha (Hb hnat (Hb hfr (Hb hbel ho)))
    clear hnat hfr hbel HOB
    by_cases hz:b - a=0
    ·have hl:(dg (b - a)).length=0:=by rw [hz,av];rfl
     rw [hl] at p1 HX ⊢
     have HZ2:=Ha hz
     have q0:(W2.setCell ⟨o,0,none⟩ (.bool false)).cell? ⟨o,0,none⟩=some (.bool false):=World.cell?_setCell_same' _ _ _ (by rw [p0];rfl)
     have q1:(W2.setCell ⟨o,0,none⟩ (.bool false)).cell? ⟨o,1,none⟩=some (.slice p 0 cap):=by go_cell
     have s0:(W2.setCell ⟨o,0,none⟩ (.bool false)).cell? ⟨k+1+1,0,none⟩=some u0:=(World.cell?_of_block (Below.heap_setCell _ _ _ _ (by show k+1+1≠o;exact hok))).trans r0
     have s1:(W2.setCell ⟨o,0,none⟩ (.bool false)).cell? ⟨k+1+1,1,none⟩=some u1:=(World.cell?_of_block (Below.heap_setCell _ _ _ _ (by show k+1+1≠o;exact hok))).trans r1
     have f2:(W2.setCell ⟨o,0,none⟩ (.bool false)).frozen? ⟨k+1+1,0,none⟩=false:=by rw [aD];exact f0
     have f3:(W2.setCell ⟨o,0,none⟩ (.bool false)).frozen? ⟨k+1+1,1,none⟩=false:=by rw [aD];exact f1
     obtain ⟨b0,b1⟩:=au s0 s1 (.bool false) (.slice p 0 cap)
     clear hz hl r0 r1
     go_wp2
     refine bodyPost_ret (v := .agg #[.bool false,.slice p 0 cap]) (by simp [results,Tryz.results120,go_sem,b0,b1]) rfl ?_
     obtain ⟨hn,hf,hb,hoo⟩:=HX.out
     rw [HZ2.out] at hn
     refine ⟨false,0,_,rfl,hn.any0,?_,hf.mono (by rw [HK.out];omega),?_⟩
     ·have h1:=HZ.out
      rw [HZ2.out,aS] at h1
      exact ⟨by rw [aS];exact h1.1,by omega⟩
     ·rw [HK.out]
      exact ((hb.setCell (p:=⟨o,0,none⟩) (by show k≤o;omega) _).setCell (p:=⟨k+1+1,0,none⟩) (by show k≤k+1+1;omega) _).setCell (p:=⟨k+1+1,1,none⟩) (by show k≤k+1+1;omega) _
    ·have hl:(((dg (b - a)).length:Int)==0)=false:=by rw [beq_eq_false_iff_ne];have:=aR hz;omega
     obtain ⟨b0,b1⟩:=au r0 r1 (.bool nb) (.slice p (dg (b - a)).length cap)
     clear hz
     go_wp2
     refine bodyPost_ret (v := .agg #[.bool nb,.slice p (dg (b - a)).length cap]) (by simp [results,Tryz.results120,go_sem,b0,b1]) rfl ?_
     obtain ⟨hn,hf,hb,hoo⟩:=HX.out
     refine ⟨_,_,_,rfl,(hn.setCell hf (by show k+1+1<k+3;omega) _).setCell hf (by show k+1+1<k+3;omega) _,HZ.out,hf.mono (by rw [HK.out];omega),?_⟩
     rw [HK.out]
     exact (hb.setCell (p:=⟨k+1+1,0,none⟩) (by show k≤k+1+1;omega) _).setCell (p:=⟨k+1+1,1,none⟩) (by show k≤k+1+1;omega) _
end R
namespace R
open Go.RowKit
theorem ku (l:List UInt8):valOf l=am (ap l) (ae (szL l)):=(fl l).symm
theorem kv {l:List UInt8} (h:chk l=0) (hl:l.length≤17) : -100000000000000000<valOf l∧valOf l<100000000000000000:=by
 have h1:=dC (szL l) (bY h) (szL l).length (Nat.le_trans (df l) hl)
 rw [List.take_length] at h1
 rw [ck];split <;> omega
theorem oI {l:List UInt8} (h:chk l=0):(valOf l).natAbs<10 ^ l.length:=by
 rw [fF]
 exact Nat.lt_of_lt_of_le (a7 _ (bY h)) (Nat.pow_le_pow_right (by decide) (df l))
theorem An {a b:List UInt8} (ha:chk a=0) (hb:chk b=0) (h:a.length+b.length≤18) : -1000000000000000000<valOf a*valOf b∧valOf a*valOf b<1000000000000000000:=by
 have h1:=oI ha
 have h2:=oI hb
 have h3:(valOf a).natAbs*(valOf b).natAbs≤10 ^ a.length*10 ^ b.length:=Nat.mul_le_mul (Nat.le_of_lt h1) (Nat.le_of_lt h2)
 have h4:(valOf a).natAbs*(valOf b).natAbs<10 ^ a.length*10 ^ b.length:=by
  rcases Nat.eq_zero_or_pos (valOf a).natAbs with h | h
  ·rw [h,Nat.zero_mul];exact Nat.mul_pos (Nat.pow_pos (by decide)) (Nat.pow_pos (by decide))
  ·exact Nat.lt_of_lt_of_le (Nat.mul_lt_mul_of_pos_left h2 h) (Nat.mul_le_mul_right _ (Nat.le_of_lt h1))
 rw [←Nat.pow_add,←Int.natAbs_mul] at h4
 have h5:10 ^ (a.length+b.length)≤10 ^ 18:=Nat.pow_le_pow_right (by decide) h
 have h6:(10:Nat) ^ 18=1000000000000000000:=by decide
 omega
theorem u5 {z:Int} (h0 : -1000000000000000000<z) (h1:z<1000000000000000000):fj z=aa z∧fk z=0:=by
 have h:z.natAbs<lim:=lp (by omega)
 exact ⟨if_pos h,if_pos h⟩
theorem yD {e:Int} (h:e≠0) (z:Int):ti e z=⟨#[]⟩∧tj e z=e:=⟨if_neg h,if_neg h⟩
theorem wG (z:Int):ti 0 z=fj z∧tj 0 z=fk z:=⟨if_pos rfl,if_pos rfl⟩
theorem Mul_any (a b:ByteArray) (w:World) (ha:a.size≤1000) (hb:b.size≤1000) (ht:Tab w) :
  Calls Tryz.prog 66 #[.string a,.string b] w fun e W'=>e = .returned (.tuple #[.string (ti (bC a.data.toList b.data.toList) (valOf a.data.toList*valOf b.data.toList)),.int .i64 (tj (bC a.data.toList b.data.toList) (valOf a.data.toList*valOf b.data.toList))])∧Below w.heap.size w W':=by
 have cb:=gN a b w (by unfold maxLen;omega) (by unfold maxLen;omega)
 by_cases hc:bC a.data.toList b.data.toList=0
 ·obtain ⟨k1,k2⟩:=fw hc
  rw [hc] at cb
  rw [hc,(wG _).1,(wG _).2]
  have CB:=Ha cb
  clear cb hc
  by_cases hs:a.size+b.size≤18∧a.size≤17∧b.size≤17
  ·obtain ⟨hs,hs1,hs2⟩:=hs
   have ct:=mm a b w hs1 hs2 k1 k2
   have hm:=An k1 k2 (by rw [ac,ac];exact hs)
   obtain ⟨e1,e2⟩:=u5 hm.1 hm.2
   have b1:=kv k1 (by rw [ac];omega)
   have b2:=kv k2 (by rw [ac];omega)
   rw [e1,e2]
   clear e1 e2 k1 k2
   generalize valOf a.data.toList=x at *
   generalize valOf b.data.toList=y at *
   have ci:=fun W (h:Below w.heap.size w W)=>gS (x*y) W (by omega) (by omega) (ht.next h)
   have C:=Ha (Hb ct ci)
   obtain ⟨m1,m2⟩:=hm
   clear ct ci ht
   go_enter Tryz.func66,Tryz.ntmps66
   go_wp2_with fail
   refine CB.out.mono ?_
   rintro e w' ⟨rfl,rfl⟩
   go_wp2_with fail
   refine C.out.1.mono ?_
   rintro e w' ⟨rfl,rfl⟩
   go_wp2_with fail
   refine (C.out.2 _ (Below.refl _ _)).mono ?_
   rintro e w1 ⟨rfl,hb1⟩
   have HB:=Ha hb1
   clear hb1
   go_wp2
   go_ret2
   exact ⟨rfl,HB.out⟩
  ·have n1:=im (cO k1)
   have n2:=im (cO k2)
   have r1:=fun W=>bM a W (by omega) k1
   have r2:=fun W=>bM b W (by omega) k2
   rw [ku,ku]
   have HT:=Ha (show (a.size≤17∧b.size≤17)∨¬ (a.size≤17∧b.size≤17) from Classical.em _)
   have t1:=fun h:a.size≤17∧b.size≤17=>mm a b w h.1 h.2 k1 k2
   have t2:=fun h:¬ (a.size≤17∧b.size≤17)=>sL a b w h k1 (by unfold maxLen;omega) (by unfold maxLen;omega)
   have CT:=Ha (Hb t1 t2)
   clear t1 t2
   generalize ap a.data.toList=na at *
   generalize ap b.data.toList=nb at *
   generalize ae (szL a.data.toList)=x at *
   generalize ae (szL b.data.toList)=y at *
   have cm:=fun va vb W (h1:IsNat W va x) (h2:IsNat W vb y)=>yC na nb va vb x y W h1 h2 (by omega) (by omega)
   have hxy:(dg (x*y)).length≤10000:=by
    refine (ak _ _).2 ?_
    have q1:=(ak x 50).1 n1
    have q2:=(ak y 50).1 n2
    refine Nat.lt_of_lt_of_le (Nat.mul_lt_mul'' q1 q2) ?_
    rw [←Nat.pow_add]
    exact BQ (50+50) 10000 (by decide)
   have cr:=fun ng v W (h:IsNat W v (x*y))=>aT ng v (x*y) W h hxy
   have C:=Ha (Hb r1 (Hb r2 (Hb cm cr)))
   clear r1 r2 cm cr k1 k2 n1 n2 hxy
   rcases HT.out with hs1 | hs1
   ·have hsum:¬ ((a.size:Int)+b.size≤18):=by omega
    have CT2:=Ha (CT.out.1 hs1)
    clear CT
    generalize valOf a.data.toList=zx at *
    generalize valOf b.data.toList=zy at *
    go_enter Tryz.func66,Tryz.ntmps66
    go_wp2_with fail
    refine CB.out.mono ?_
    rintro e w' ⟨rfl,rfl⟩
    go_wp2_with fail
    refine CT2.out.mono ?_
    rintro e w' ⟨rfl,rfl⟩
    go_wp2_with fail
    refine (C.out.1 _).mono ?_
    rintro e w1 ⟨va,rfl,hva,_,hb1⟩
    have H1:=Ha (Hb hva hb1)
    clear hva hb1
    go_wp2_with fail
    refine (C.out.2.1 _).mono ?_
    rintro e w2 ⟨vb,rfl,hvb,_,hb2⟩
    have H2:=Ha (Hb (H1.out.1.next hb2) (Hb hvb (H1.out.2.trans (hb2.mono H1.out.2.size))))
    clear hvb hb2 H1
    go_wp2_with fail
    refine (C.out.2.2.1 _ _ _ H2.out.1 H2.out.2.1).mono ?_
    rintro e w3 ⟨ng,v,rfl,hv,hz,_,hb3⟩
    have H3:=Ha (Hb hv (Hb hz (H2.out.2.2.trans (hb3.mono H2.out.2.2.size))))
    clear hv hz hb3 H2
    go_wp2_with fail
    refine (C.out.2.2.2 _ _ _ H3.out.1).mono ?_
    rw [H3.out.2.1]
    rintro e w4 ⟨rfl,hb4⟩
    have H4:=Ha (H3.out.2.2.trans (hb4.mono H3.out.2.2.size))
    clear hb4 H3 C
    go_wp2
    go_ret2
    exact ⟨rfl,H4.out⟩
   ·have CT2:=Ha (CT.out.2 hs1)
    clear CT
    go_enter Tryz.func66,Tryz.ntmps66
    go_wp2_with fail
    refine CB.out.mono ?_
    rintro e w' ⟨rfl,rfl⟩
    go_wp2_with fail
    refine CT2.out.mono ?_
    rintro e w' ⟨tx,ty,rfl,rfl⟩
    go_wp2_with fail
    refine (C.out.1 _).mono ?_
    rintro e w1 ⟨va,rfl,hva,_,hb1⟩
    have H1:=Ha (Hb hva hb1)
    clear hva hb1
    go_wp2_with fail
    refine (C.out.2.1 _).mono ?_
    rintro e w2 ⟨vb,rfl,hvb,_,hb2⟩
    have H2:=Ha (Hb (H1.out.1.next hb2) (Hb hvb (H1.out.2.trans (hb2.mono H1.out.2.size))))
    clear hvb hb2 H1
    go_wp2_with fail
    refine (C.out.2.2.1 _ _ _ H2.out.1 H2.out.2.1).mono ?_
    rintro e w3 ⟨ng,v,rfl,hv,hz,_,hb3⟩
    have H3:=Ha (Hb hv (Hb hz (H2.out.2.2.trans (hb3.mono H2.out.2.2.size))))
    clear hv hz hb3 H2
    go_wp2_with fail
    refine (C.out.2.2.2 _ _ _ H3.out.1).mono ?_
    rw [H3.out.2.1]
    rintro e w4 ⟨rfl,hb4⟩
    have H4:=Ha (H3.out.2.2.trans (hb4.mono H3.out.2.2.size))
    clear hb4 H3 C
    go_wp2
    go_ret2
    exact ⟨rfl,H4.out⟩
 ·have CB:=Ha cb
  obtain ⟨o1,o2⟩:=yD hc (valOf a.data.toList*valOf b.data.toList)
  rw [o1,o2]
  clear o1 o2 cb
  generalize bC a.data.toList b.data.toList=c at *
  have hn:(c != 0)=true:=by rw [bne_iff_ne];exact hc
  clear hc
  go_enter Tryz.func66,Tryz.ntmps66
  go_wp2_with fail
  refine CB.out.mono ?_
  rintro e w' ⟨rfl,rfl⟩
  go_wp2
  go_ret2
  exact ⟨rfl,Below.refl _ _⟩
end R
namespace R
open Go.RowKit
theorem pN (a b:ByteArray) (w:World) (hs1:a.size≤17) (hs2:b.size≤17) (k1:chk a.data.toList=0) (k2:chk b.data.toList=0) (h0:valOf b.data.toList≠0) (ht:Tab w) :
   Calls Tryz.prog 65 #[.string a,.string b] w fun e W'=>e = .returned (.tuple #[.string (aa ((valOf a.data.toList).fdiv (valOf b.data.toList))),.string (aa ((valOf a.data.toList).fmod (valOf b.data.toList))),.int .i64 0])∧Below w.heap.size w W':=by
 have cb:=gN a b w (by unfold maxLen;omega) (by unfold maxLen;omega)
 have hc2:bC a.data.toList b.data.toList=0:=by unfold bC;rw [if_pos k1];exact k2
 rw [hc2] at cb
 have hb48:(b.toList == [48])=false:=by
   rw [ByteArray.toList_eq,beq_eq_false_iff_ne]
   intro e;rw [e] at h0;exact h0 rfl
 have ct:=mm a b w hs1 hs2 k1 k2
 have b1:=kv k1 (by rw [ac];omega)
 have b2:=kv k2 (by rw [ac];omega)
 have C:=Ha (Hb cb ct)
 have HT:=Ha ht
 clear cb ct k1 k2 hc2 ht
 generalize valOf a.data.toList=x at *
 generalize valOf b.data.toList=y at *
 obtain ⟨x0,x1⟩:=b1
 obtain ⟨y0,y1⟩:=b2
 have hq:=pK x y (by omega) (by omega)
 have hr:=pL x y (by omega) (by omega)
 have hz:(y==0)=false:=by rw [beq_eq_false_iff_ne];exact h0
 have e1:=Ha (fun h => @fq x y h0 h)
 have e2:=Ha (fun h h' => @dY x y h0 h h')
 have ci:=Ha (fun (z:Int) W (h1 : -1000000000000000001<z) (h2:z<1000000000000000001) (h:Below w.heap.size w W)=>gS z W (by omega) (by omega) (HT.out.next h))
 obtain ⟨q0,q1⟩:=hq
 obtain ⟨r0,r1⟩:=hr
 go_enter Tryz.func65,Tryz.ntmps65
 go_wp2_with fail
 refine C.out.1.mono ?_
 rintro e w' ⟨rfl,rfl⟩
 go_wp2_with fail
 refine C.out.2.mono ?_
 rintro e w' ⟨rfl,rfl⟩
 go_wp2
 go_quiet (fail)
 have HB0:=Ha (Below.drewK w.heap.size w nq)
 clear hb48 hz h0
 generalize x.tdiv y=q at *
 generalize x.tmod y=r at *
 generalize w.drewN nq=w0 at *
 by_cases c0:r=0
 · have c1:(r != 0)=false:=by simpa using c0
   obtain ⟨f1,f2⟩:=e1.out (.inl c0)
   have F:=Ha (Hb f1 f2)
   clear f1 f2 c0 e1 e2
   go_wp2_with fail
   refine (ci.out q _ (by omega) (by omega) HB0.out).mono ?_
   rintro e w1 ⟨rfl,hb1⟩
   have HB1:=Ha (HB0.out.trans (hb1.mono HB0.out.size))
   clear hb1
   go_wp2_with fail
   refine (ci.out r _ (by omega) (by omega) HB1.out).mono ?_
   rintro e w2 ⟨rfl,hb2⟩
   have HB2:=Ha (HB1.out.trans (hb2.mono HB1.out.size))
   clear hb2
   go_wp2
   go_ret3
   exact ⟨by rw [F.out.1,F.out.2];rfl,HB2.out⟩
 · have c1:(r != 0)=true:=by simpa using c0
   by_cases c2:r<0 <;> by_cases c3:y<0
   all_goals
     first
     | (obtain ⟨f1,f2⟩:=e1.out (.inr (by omega))
        have F:=Ha (Hb f1 f2)
        clear f1 f2 c0 e1 e2
        go_wp2_with fail
        refine (ci.out q _ (by omega) (by omega) HB0.out).mono ?_
        rintro e w1 ⟨rfl,hb1⟩
        have HB1:=Ha (HB0.out.trans (hb1.mono HB0.out.size))
        clear hb1
        go_wp2_with fail
        refine (ci.out r _ (by omega) (by omega) HB1.out).mono ?_
        rintro e w2 ⟨rfl,hb2⟩
        have HB2:=Ha (HB1.out.trans (hb2.mono HB1.out.size))
        clear hb2
        go_wp2
        go_ret3
        exact ⟨by rw [F.out.1,F.out.2];rfl,HB2.out⟩)
     | (obtain ⟨f1,f2⟩:=e2.out c0 (by omega)
        have F:=Ha (Hb f1 f2)
        clear f1 f2 c0 e1 e2
        go_wp2_with fail
        refine (ci.out (q - 1) _ (by omega) (by omega) HB0.out).mono ?_
        rintro e w1 ⟨rfl,hb1⟩
        have HB1:=Ha (HB0.out.trans (hb1.mono HB0.out.size))
        clear hb1
        go_wp2_with fail
        refine (ci.out (r+y) _ (by omega) (by omega) HB1.out).mono ?_
        rintro e w2 ⟨rfl,hb2⟩
        have HB2:=Ha (HB1.out.trans (hb2.mono HB1.out.size))
        clear hb2
        go_wp2
        go_ret3
        exact ⟨by rw [F.out.1,F.out.2];rfl,HB2.out⟩)
end R
end Go.Proofs.YtjdomibbaemdnaaGreatDoor
