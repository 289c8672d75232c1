/- Parts of the proof of the text YteckjifdpcbaeaaGreatDoorZG38. -/
import Derived.Test.YteckjifdpcbaeaaGreatDoorZG1
import Derived.Test.YteckjifdpcbaeaaGreatDoorZG29
set_option linter.all false
set_option maxRecDepth 100000
set_option maxHeartbeats 8000000
namespace Go.Proofs.YteckjifdpcbaeaaGreatDoor.R
open Go.RowKit
theorem add_any (na nb:Bool) (va vb:Value) (a b:Nat) (w:World) (ha:IsNat w va a) (hb:IsNat w vb b) (hla:(dg a).length≤100000) (hlb:(dg b).length≤100000) :
  Calls Tryz.prog 106 #[.agg #[.bool na,va],.agg #[.bool nb,vb]] w fun e W'=>∃ neg n v,e = .returned (.agg #[.bool neg,v])∧IsNat W' v n∧(sgnZ neg n=sgnZ na a+sgnZ nb b∧n≤a+b)∧Fresh w.heap.size v∧Below w.heap.size w W':=by
 obtain ⟨pa,ca,rfl⟩:=ha.shape
 obtain ⟨pb,cb,rfl⟩:=hb.shape
 by_cases hs:na=nb
 ·have cp:∀ W,Below w.heap.size w W→Calls Tryz.prog 150 #[.slice pa (dg a).length ca,.slice pb (dg b).length cb] W fun e W'=>∃ v,e = .returned v∧IsNat W' v (a+b)∧Fresh W.heap.size v∧Below W.heap.size W W':=fun W hW=>by
   have:=plus_any _ _ (dg a) (dg b) W (Nats.next ha hW) (Nats.next hb hW) (dg_Dig a) (dg_Dig b) (by omega) (by omega)
   rwa [toN_dg,toN_dg] at this
  have CP:=Lib.hid cp;clear cp ha hb hla hlb
  have HZ:Hid (sgnZ na (a+b)=sgnZ na a+sgnZ nb b∧a+b≤a+b):=⟨by rw [←hs];exact sgn_add_same na a b,Nat.le_refl _⟩
  have hq:(na==nb)=true:=by simpa using hs
  clear hs
  generalize (dg a).length=la at *
  generalize (dg b).length=lb at *
  go_enter Tryz.func106,Tryz.ntmps106
  go_wp2
  have hbx:=boxes_new w (.bool na) (.slice pa la ca) (.bool nb) (.slice pb lb cb) (.bool false) (.slice none 0 0) 115
  generalize ((w.alloc (.cells #[.bool na,.slice pa la ca] 115)).alloc (.cells #[.bool nb,.slice pb lb cb] 115)).alloc (.cells #[.bool false,.slice none 0 0] 115)=W0 at *
  generalize hk:w.heap.size=k at *
  have HK:=Lib.hid hk;clear hk
  have HBD:=Lib.hid hbx.drew
  clear hbx
  obtain ⟨c1,c2,c3,c4,_,_,_,_,_,_⟩:=HBD.out
  go_region_held3 (fun w'=>w'.cell? ⟨k,0,none⟩=some (.bool na)∧w'.cell? ⟨k,1,none⟩=some (.slice pa la ca)∧w'.cell? ⟨k+1,0,none⟩=some (.bool nb)∧w'.cell? ⟨k+1,1,none⟩=some (.slice pb lb cb)) (first | (go_keep;done) | ((try dsimp only);refine ⟨?_,?_,?_,?_⟩ <;> (first | (exact far2 (by omega) (by assumption)) | (go_keep;done))))
   (first | (go_at_call 150;refine (CP.out _ HBD.out.below).mono ?_;rintro e w1 ⟨v,rfl,hv,hf,hb1⟩;obtain ⟨p,cap,rfl⟩:=hv.shape;have HB1:=Lib.hid (HBD.out.next hb1);have HV:=Lib.hid (And.intro hv (And.intro hf hb1));clear hv hf hb1;obtain ⟨e1,e2,e3,e4,e5,e6,e7,e8,_,_⟩:=HB1.out))
  obtain ⟨g5,g6⟩:=two_back e5 e6 (.bool na) (.slice p (dg (a+b)).length cap)
  go_wp2
  refine bodyPost_ret (v := .agg #[.bool na,.slice p (dg (a+b)).length cap]) (by simp [results,Tryz.results106,go_sem,g5,g6]) rfl ?_
  obtain ⟨hv,hf,hb1⟩:=HV.out
  have hf':Fresh (k+3) (.slice p (dg (a+b)).length cap):=hf.mono HBD.out.size
  refine ⟨_,_,_,rfl,(hv.setCell hf' (by show k+1+1<k+3;omega) _).setCell hf' (by show k+1+1<k+3;omega) _,HZ.out,hf'.mono (by rw [HK.out];omega),?_⟩
  rw [HK.out]
  exact ((HB1.out.below).setCell (p:=⟨k+1+1,0,none⟩) (by show k≤k+1+1;omega) _).setCell (p:=⟨k+1+1,1,none⟩) (by show k≤k+1+1;omega) _
 ·have hq:(na==nb)=false:=by simpa using hs
  have hbx:=boxes_new w (.bool na) (.slice pa (dg a).length ca) (.bool nb) (.slice pb (dg b).length cb) (.bool false) (.slice none 0 0) 115
  have hfz:=fz_new w (.bool na) (.slice pa (dg a).length ca) (.bool nb) (.slice pb (dg b).length cb) (.bool false) (.slice none 0 0) 115
  have cc:=size_any (.slice pa (dg a).length ca) (.slice pb (dg b).length cb) a b _ (ha.next hbx.below) (hb.next hbx.below)
  have CC:=Lib.hid cc;clear cc
  by_cases hle:b≤a
  ·have hcmp:0≤cmpN a b:=by
    rcases Nat.lt_or_eq_of_le hle with h | h
    ·rw [cmpN_gt h];decide
    ·rw [cmpN_eq h.symm];decide
   have cp:∀ W,Below w.heap.size w W→Calls Tryz.prog 147 #[.slice pa (dg a).length ca,.slice pb (dg b).length cb] W fun e W'=>∃ v,e = .returned v∧IsNat W' v (a - b)∧Fresh W.heap.size v∧Below W.heap.size W W':=fun W hW=>by
    have:=minus_any _ _ (dg a) (dg b) W (Nats.next ha hW) (Nats.next hb hW) (dg_Dig a) (dg_Dig b) (by omega) (dg_len_le hle) (by rw [toN_dg,toN_dg];exact hle)
    rw [toN_dg,toN_dg] at this
    exact this.mono fun e W' ⟨g,cap,he,hn,hg,hB⟩=>⟨_,he,hn,fun k hk=>by cases hk;exact hg,hB⟩
   have CP:=Lib.hid cp;clear cp ha hb hla hlb
   have HZ:Hid (sgnZ na (a - b)=sgnZ na a+sgnZ nb b∧a - b≤a+b):=⟨sgn_sub na nb hs a b hle,by omega⟩
   have HBX:=Lib.hid (And.intro hbx hfz)
   clear hs hle hbx hfz
   generalize (dg a).length=la at *
   generalize (dg b).length=lb at *
   generalize cmpN a b=cm at *
   have hcm2:¬ cm<0:=by omega
   go_enter Tryz.func106,Tryz.ntmps106
   go_wp2_with fail
   refine CC.out.mono ?_
   rintro e w' ⟨rfl,nn,rfl⟩
   clear CC
   have hbx2:=HBX.out.1.drewN nn
   clear HBX
   generalize (((w.alloc (.cells #[.bool na,.slice pa la ca] 115)).alloc (.cells #[.bool nb,.slice pb lb cb] 115)).alloc (.cells #[.bool false,.slice none 0 0] 115)).drewN nn=W0 at *
   generalize hk:w.heap.size=k at *
   have HK:=Lib.hid hk;clear hk
   have HBX:=Lib.hid hbx2
   obtain ⟨b1,b2,b3,b4,_,_,_,_,_,_⟩:=hbx2
   go_wp2
   clear b1 b2 b3 b4
   have HBD:=Lib.hid HBX.out.drew
   have HBA:=Lib.hid (HBX.out.next ((Below.refl _ W0).alloc (Nat.le_refl _) (.cells #[.bool false,.slice none 0 0] 115))).drew
   obtain ⟨c1,c2,c3,c4,_,_,_,_,_,_⟩:=HBX.out
   have hs0:k+3≤W0.heap.size:=HBX.out.size
   go_region_held3 (fun w'=>w'.cell? ⟨k,0,none⟩=some (.bool na)∧w'.cell? ⟨k,1,none⟩=some (.slice pa la ca)∧w'.cell? ⟨k+1,0,none⟩=some (.bool nb)∧w'.cell? ⟨k+1,1,none⟩=some (.slice pb lb cb))
    (first | (go_keep;done) | (exact ⟨alloc_drew_cell c1,alloc_drew_cell c2,alloc_drew_cell c3,alloc_drew_cell c4⟩) | (exact ⟨alloc_cell e1,alloc_cell e2,alloc_cell e3,alloc_cell e4⟩) | (exact ⟨alloc_drew_cell e1,alloc_drew_cell e2,alloc_drew_cell e3,alloc_drew_cell e4⟩) | (refine ⟨?_,?_,?_,?_⟩ <;> (first | (exact far2 (by omega) (by assumption)) | (exact far2 (by omega) (alloc_cell (by assumption))) | (exact far2 (by omega) (alloc_drew_cell (by assumption))))))
    (first
     | (go_at_call 147;with_reducible refine (CP.out _ HBA.out.below).mono ?_;rintro e w1 ⟨v,rfl,hv,hf,hb1⟩;obtain ⟨p,cap,rfl⟩:=hv.shape;have HB1:=Lib.hid (HBA.out.next hb1);have z0:w1.cell? ⟨W0.heap.size,0,none⟩=some (.bool false):=(hb1.cell (p:=⟨W0.heap.size,0,none⟩) (by simp)).trans (by go_cell);have z1:w1.cell? ⟨W0.heap.size,1,none⟩=some (.slice none 0 0):=(hb1.cell (p:=⟨W0.heap.size,1,none⟩) (by simp)).trans (by go_cell);have y0:w1.frozen? ⟨W0.heap.size,0,none⟩=false:=(hb1.frozen (p:=⟨W0.heap.size,0,none⟩) (by simp)).trans (by simp [go_sem]);have y1:w1.frozen? ⟨W0.heap.size,1,none⟩=false:=(hb1.frozen (p:=⟨W0.heap.size,1,none⟩) (by simp)).trans (by simp [go_sem]);have HV:=Lib.hid (And.intro hv (And.intro hf hb1));clear hv hf hb1;obtain ⟨e1,e2,e3,e4,e5,e6,e7,e8,hsz,_⟩:=HB1.out)
     | (go_at_call 147;with_reducible refine (CP.out _ HBD.out.below).mono ?_;rintro e w1 ⟨v,rfl,hv,hf,hb1⟩;obtain ⟨p,cap,rfl⟩:=hv.shape;have HB1:=Lib.hid (HBD.out.next hb1);have HV:=Lib.hid (And.intro hv (And.intro hf hb1));clear hv hf hb1;obtain ⟨e1,e2,e3,e4,e5,e6,e7,e8,hsz,_⟩:=HB1.out))
   ·have HOB:=Lib.hid (OB.alloc (ng:=na) (T:=115) HB1.out HV.out.1 (HV.out.2.1.mono hs0))
    clear e1 e2 e3 e4 e5 e6 e7 e8 hsz HB1 HV c1 c2 c3 c4 HBX HBD HBA hs0 CP
    rename_i hHeld
    clear hHeld
    generalize w1.alloc (.cells #[.bool na,.slice p (dg (a - b)).length cap] 115)=W2 at *
    generalize w1.heap.size=o at *
    obtain ⟨p0,p1,g0,⟨u0,r0⟩,⟨u1,r1⟩,f0,f1,ho,hnat,hfr,hbel⟩:=HOB.out
    have hok:k+1+1≠o:=by omega
    have HX:=Lib.hid (And.intro hnat (And.intro hfr (And.intro hbel ho)))
    clear hnat hfr hbel HOB
    by_cases hz:a - b=0
    ·have hl:(dg (a - b)).length=0:=by rw [hz,dg_zero];rfl
     rw [hl] at p1 HX ⊢
     have HZ2:=Lib.hid hz
     have q0:(W2.setCell ⟨o,0,none⟩ (.bool false)).cell? ⟨o,0,none⟩=some (.bool false):=World.cell?_setCell_same' _ _ _ (by rw [p0];rfl)
     have q1:(W2.setCell ⟨o,0,none⟩ (.bool false)).cell? ⟨o,1,none⟩=some (.slice p 0 cap):=by go_cell
     have s0:(W2.setCell ⟨o,0,none⟩ (.bool false)).cell? ⟨k+1+1,0,none⟩=some u0:=(World.cell?_of_block (Below.heap_setCell _ _ _ _ (by show k+1+1≠o;exact hok))).trans r0
     have s1:(W2.setCell ⟨o,0,none⟩ (.bool false)).cell? ⟨k+1+1,1,none⟩=some u1:=(World.cell?_of_block (Below.heap_setCell _ _ _ _ (by show k+1+1≠o;exact hok))).trans r1
     have f2:(W2.setCell ⟨o,0,none⟩ (.bool false)).frozen? ⟨k+1+1,0,none⟩=false:=by rw [frozen_set];exact f0
     have f3:(W2.setCell ⟨o,0,none⟩ (.bool false)).frozen? ⟨k+1+1,1,none⟩=false:=by rw [frozen_set];exact f1
     obtain ⟨b0,b1⟩:=two_back s0 s1 (.bool false) (.slice p 0 cap)
     clear hz hl r0 r1
     go_wp2
     refine bodyPost_ret (v := .agg #[.bool false,.slice p 0 cap]) (by simp [results,Tryz.results106,go_sem,b0,b1]) rfl ?_
     obtain ⟨hn,hf,hb,hoo⟩:=HX.out
     rw [HZ2.out] at hn
     refine ⟨false,0,_,rfl,hn.any0,?_,hf.mono (by rw [HK.out];omega),?_⟩
     ·have h1:=HZ.out
      rw [HZ2.out,sgn_zero] at h1
      exact ⟨by rw [sgn_zero];exact h1.1,by omega⟩
     ·rw [HK.out]
      exact ((hb.setCell (p:=⟨o,0,none⟩) (by show k≤o;omega) _).setCell (p:=⟨k+1+1,0,none⟩) (by show k≤k+1+1;omega) _).setCell (p:=⟨k+1+1,1,none⟩) (by show k≤k+1+1;omega) _
    ·have hl:(((dg (a - b)).length:Int)==0)=false:=by rw [beq_eq_false_iff_ne];have:=dg_len_pos hz;omega
     obtain ⟨b0,b1⟩:=two_back r0 r1 (.bool na) (.slice p (dg (a - b)).length cap)
     clear hz
     go_wp2
     refine bodyPost_ret (v := .agg #[.bool na,.slice p (dg (a - b)).length cap]) (by simp [results,Tryz.results106,go_sem,b0,b1]) rfl ?_
     obtain ⟨hn,hf,hb,hoo⟩:=HX.out
     refine ⟨_,_,_,rfl,(hn.setCell hf (by show k+1+1<k+3;omega) _).setCell hf (by show k+1+1<k+3;omega) _,HZ.out,hf.mono (by rw [HK.out];omega),?_⟩
     rw [HK.out]
     exact (hb.setCell (p:=⟨k+1+1,0,none⟩) (by show k≤k+1+1;omega) _).setCell (p:=⟨k+1+1,1,none⟩) (by show k≤k+1+1;omega) _
   ·have HOB:=Lib.hid (OB.set (ng:=na) HB1.out z0 z1 y0 hs0 HV.out.1 (HV.out.2.1.mono (by simp)))
    clear e1 e2 e3 e4 e5 e6 e7 e8 hsz HB1 HV c1 c2 c3 c4 HBX HBD HBA CP z0 z1 y0 y1
    rename_i hHeld
    clear hHeld
    generalize hsz0:W0.heap.size=o at *
    generalize (w1.setCell ⟨o,0,none⟩ (.bool na)).setCell ⟨o,1,none⟩ (.slice p (dg (a - b)).length cap)=W2 at *
    obtain ⟨p0,p1,g0,⟨u0,r0⟩,⟨u1,r1⟩,f0,f1,ho,hnat,hfr,hbel⟩:=HOB.out
    have hok:k+1+1≠o:=by omega
    have HX:=Lib.hid (And.intro hnat (And.intro hfr (And.intro hbel ho)))
    clear hnat hfr hbel HOB
    by_cases hz:a - b=0
    ·have hl:(dg (a - b)).length=0:=by rw [hz,dg_zero];rfl
     rw [hl] at p1 HX ⊢
     have HZ2:=Lib.hid hz
     have q0:(W2.setCell ⟨o,0,none⟩ (.bool false)).cell? ⟨o,0,none⟩=some (.bool false):=World.cell?_setCell_same' _ _ _ (by rw [p0];rfl)
     have q1:(W2.setCell ⟨o,0,none⟩ (.bool false)).cell? ⟨o,1,none⟩=some (.slice p 0 cap):=by go_cell
     have s0:(W2.setCell ⟨o,0,none⟩ (.bool false)).cell? ⟨k+1+1,0,none⟩=some u0:=(World.cell?_of_block (Below.heap_setCell _ _ _ _ (by show k+1+1≠o;exact hok))).trans r0
     have s1:(W2.setCell ⟨o,0,none⟩ (.bool false)).cell? ⟨k+1+1,1,none⟩=some u1:=(World.cell?_of_block (Below.heap_setCell _ _ _ _ (by show k+1+1≠o;exact hok))).trans r1
     have f2:(W2.setCell ⟨o,0,none⟩ (.bool false)).frozen? ⟨k+1+1,0,none⟩=false:=by rw [frozen_set];exact f0
     have f3:(W2.setCell ⟨o,0,none⟩ (.bool false)).frozen? ⟨k+1+1,1,none⟩=false:=by rw [frozen_set];exact f1
     obtain ⟨b0,b1⟩:=two_back s0 s1 (.bool false) (.slice p 0 cap)
     clear hz hl r0 r1
     go_wp2
     refine bodyPost_ret (v := .agg #[.bool false,.slice p 0 cap]) (by simp [results,Tryz.results106,go_sem,b0,b1]) rfl ?_
     obtain ⟨hn,hf,hb,hoo⟩:=HX.out
     rw [HZ2.out] at hn
     refine ⟨false,0,_,rfl,hn.any0,?_,hf.mono (by rw [HK.out];omega),?_⟩
     ·have h1:=HZ.out
      rw [HZ2.out,sgn_zero] at h1
      exact ⟨by rw [sgn_zero];exact h1.1,by omega⟩
     ·rw [HK.out]
      exact ((hb.setCell (p:=⟨o,0,none⟩) (by show k≤o;omega) _).setCell (p:=⟨k+1+1,0,none⟩) (by show k≤k+1+1;omega) _).setCell (p:=⟨k+1+1,1,none⟩) (by show k≤k+1+1;omega) _
    ·have hl:(((dg (a - b)).length:Int)==0)=false:=by rw [beq_eq_false_iff_ne];have:=dg_len_pos hz;omega
     obtain ⟨b0,b1⟩:=two_back r0 r1 (.bool na) (.slice p (dg (a - b)).length cap)
     clear hz
     go_wp2
     refine bodyPost_ret (v := .agg #[.bool na,.slice p (dg (a - b)).length cap]) (by simp [results,Tryz.results106,go_sem,b0,b1]) rfl ?_
     obtain ⟨hn,hf,hb,hoo⟩:=HX.out
     refine ⟨_,_,_,rfl,(hn.setCell hf (by show k+1+1<k+3;omega) _).setCell hf (by show k+1+1<k+3;omega) _,HZ.out,hf.mono (by rw [HK.out];omega),?_⟩
     rw [HK.out]
     exact (hb.setCell (p:=⟨k+1+1,0,none⟩) (by show k≤k+1+1;omega) _).setCell (p:=⟨k+1+1,1,none⟩) (by show k≤k+1+1;omega) _
  ·have hcmp:cmpN a b<0:=by rw [cmpN_lt (by omega)];decide
   have cp:∀ W,Below w.heap.size w W→Calls Tryz.prog 147 #[.slice pb (dg b).length cb,.slice pa (dg a).length ca] W fun e W'=>∃ v,e = .returned v∧IsNat W' v (b - a)∧Fresh W.heap.size v∧Below W.heap.size W W':=fun W hW=>by
    have:=minus_any _ _ (dg b) (dg a) W (Nats.next hb hW) (Nats.next ha hW) (dg_Dig b) (dg_Dig a) (by omega) (dg_len_le (by omega)) (by rw [toN_dg,toN_dg];omega)
    rw [toN_dg,toN_dg] at this
    exact this.mono fun e W' ⟨g,cap,he,hn,hg,hB⟩=>⟨_,he,hn,fun k hk=>by cases hk;exact hg,hB⟩
   have CP:=Lib.hid cp;clear cp ha hb hla hlb
   have HZ:Hid (sgnZ nb (b - a)=sgnZ na a+sgnZ nb b∧b - a≤a+b):=⟨by rw [sgn_sub nb na (fun h=>hs h.symm) b a (by omega),Int.add_comm],by omega⟩
   have HBX:=Lib.hid (And.intro hbx hfz)
   clear hs hle hbx hfz
   generalize (dg a).length=la at *
   generalize (dg b).length=lb at *
   generalize cmpN a b=cm at *
   go_enter Tryz.func106,Tryz.ntmps106
   go_wp2_with fail
   refine CC.out.mono ?_
   rintro e w' ⟨rfl,nn,rfl⟩
   clear CC
   have hbx2:=HBX.out.1.drewN nn
   have hfz2:=HBX.out.2.drewN nn
   clear HBX
   generalize (((w.alloc (.cells #[.bool na,.slice pa la ca] 115)).alloc (.cells #[.bool nb,.slice pb lb cb] 115)).alloc (.cells #[.bool false,.slice none 0 0] 115)).drewN nn=W00 at *
   generalize hk:w.heap.size=k at *
   have HK:=Lib.hid hk;clear hk
   have HBX0:=Lib.hid hbx2
   obtain ⟨b1,b2,b3,b4,_,_,_,_,_,_⟩:=hbx2
   obtain ⟨f1,f2,f3,f4⟩:=hfz2
   go_wp2
   have hsw:=boxes_swap HBX0.out
   clear b1 b2 b3 b4 HBX0 f1 f2 f3 f4
   generalize (((W00.setCell ⟨k,0,none⟩ (.bool nb)).setCell ⟨k,1,none⟩ (.slice pb lb cb)).setCell ⟨k+1,0,none⟩ (.bool na)).setCell ⟨k+1,1,none⟩ (.slice pa la ca)=W0 at *
   have HBX:=Lib.hid hsw
   clear hsw
   have HBD:=Lib.hid HBX.out.drew
   have HBA:=Lib.hid (HBX.out.next ((Below.refl _ W0).alloc (Nat.le_refl _) (.cells #[.bool false,.slice none 0 0] 115))).drew
   obtain ⟨c1,c2,c3,c4,_,_,_,_,_,_⟩:=HBX.out
   have hs0:k+3≤W0.heap.size:=HBX.out.size
   go_region_held3 (fun w'=>w'.cell? ⟨k,0,none⟩=some (.bool nb)∧w'.cell? ⟨k,1,none⟩=some (.slice pb lb cb)∧w'.cell? ⟨k+1,0,none⟩=some (.bool na)∧w'.cell? ⟨k+1,1,none⟩=some (.slice pa la ca))
    (first | (go_keep;done) | (exact ⟨alloc_drew_cell c1,alloc_drew_cell c2,alloc_drew_cell c3,alloc_drew_cell c4⟩) | (exact ⟨alloc_cell e1,alloc_cell e2,alloc_cell e3,alloc_cell e4⟩) | (exact ⟨alloc_drew_cell e1,alloc_drew_cell e2,alloc_drew_cell e3,alloc_drew_cell e4⟩) | (refine ⟨?_,?_,?_,?_⟩ <;> (first | (exact far2 (by omega) (by assumption)) | (exact far2 (by omega) (alloc_cell (by assumption))) | (exact far2 (by omega) (alloc_drew_cell (by assumption))))))
    (first
     | (go_at_call 147;with_reducible refine (CP.out _ HBA.out.below).mono ?_;rintro e w1 ⟨v,rfl,hv,hf,hb1⟩;obtain ⟨p,cap,rfl⟩:=hv.shape;have HB1:=Lib.hid (HBA.out.next hb1);have z0:w1.cell? ⟨W0.heap.size,0,none⟩=some (.bool false):=(hb1.cell (p:=⟨W0.heap.size,0,none⟩) (by simp)).trans (by go_cell);have z1:w1.cell? ⟨W0.heap.size,1,none⟩=some (.slice none 0 0):=(hb1.cell (p:=⟨W0.heap.size,1,none⟩) (by simp)).trans (by go_cell);have y0:w1.frozen? ⟨W0.heap.size,0,none⟩=false:=(hb1.frozen (p:=⟨W0.heap.size,0,none⟩) (by simp)).trans (by simp [go_sem]);have y1:w1.frozen? ⟨W0.heap.size,1,none⟩=false:=(hb1.frozen (p:=⟨W0.heap.size,1,none⟩) (by simp)).trans (by simp [go_sem]);have HV:=Lib.hid (And.intro hv (And.intro hf hb1));clear hv hf hb1;obtain ⟨e1,e2,e3,e4,e5,e6,e7,e8,hsz,_⟩:=HB1.out)
     | (go_at_call 147;with_reducible refine (CP.out _ HBD.out.below).mono ?_;rintro e w1 ⟨v,rfl,hv,hf,hb1⟩;obtain ⟨p,cap,rfl⟩:=hv.shape;have HB1:=Lib.hid (HBD.out.next hb1);have HV:=Lib.hid (And.intro hv (And.intro hf hb1));clear hv hf hb1;obtain ⟨e1,e2,e3,e4,e5,e6,e7,e8,hsz,_⟩:=HB1.out))
   ·have HOB:=Lib.hid (OB.alloc (ng:=nb) (T:=115) HB1.out HV.out.1 (HV.out.2.1.mono hs0))
    clear e1 e2 e3 e4 e5 e6 e7 e8 hsz HB1 HV c1 c2 c3 c4 HBX HBD HBA hs0 CP
    rename_i hHeld
    clear hHeld
    generalize w1.alloc (.cells #[.bool nb,.slice p (dg (b - a)).length cap] 115)=W2 at *
    generalize w1.heap.size=o at *
    obtain ⟨p0,p1,g0,⟨u0,r0⟩,⟨u1,r1⟩,f0,f1,ho,hnat,hfr,hbel⟩:=HOB.out
    have hok:k+1+1≠o:=by omega
    have HX:=Lib.hid (And.intro hnat (And.intro hfr (And.intro hbel ho)))
    clear hnat hfr hbel HOB
    by_cases hz:b - a=0
    ·have hl:(dg (b - a)).length=0:=by rw [hz,dg_zero];rfl
     rw [hl] at p1 HX ⊢
     have HZ2:=Lib.hid hz
     have q0:(W2.setCell ⟨o,0,none⟩ (.bool false)).cell? ⟨o,0,none⟩=some (.bool false):=World.cell?_setCell_same' _ _ _ (by rw [p0];rfl)
     have q1:(W2.setCell ⟨o,0,none⟩ (.bool false)).cell? ⟨o,1,none⟩=some (.slice p 0 cap):=by go_cell
     have s0:(W2.setCell ⟨o,0,none⟩ (.bool false)).cell? ⟨k+1+1,0,none⟩=some u0:=(World.cell?_of_block (Below.heap_setCell _ _ _ _ (by show k+1+1≠o;exact hok))).trans r0
     have s1:(W2.setCell ⟨o,0,none⟩ (.bool false)).cell? ⟨k+1+1,1,none⟩=some u1:=(World.cell?_of_block (Below.heap_setCell _ _ _ _ (by show k+1+1≠o;exact hok))).trans r1
     have f2:(W2.setCell ⟨o,0,none⟩ (.bool false)).frozen? ⟨k+1+1,0,none⟩=false:=by rw [frozen_set];exact f0
     have f3:(W2.setCell ⟨o,0,none⟩ (.bool false)).frozen? ⟨k+1+1,1,none⟩=false:=by rw [frozen_set];exact f1
     obtain ⟨b0,b1⟩:=two_back s0 s1 (.bool false) (.slice p 0 cap)
     clear hz hl r0 r1
     go_wp2
     refine bodyPost_ret (v := .agg #[.bool false,.slice p 0 cap]) (by simp [results,Tryz.results106,go_sem,b0,b1]) rfl ?_
     obtain ⟨hn,hf,hb,hoo⟩:=HX.out
     rw [HZ2.out] at hn
     refine ⟨false,0,_,rfl,hn.any0,?_,hf.mono (by rw [HK.out];omega),?_⟩
     ·have h1:=HZ.out
      rw [HZ2.out,sgn_zero] at h1
      exact ⟨by rw [sgn_zero];exact h1.1,by omega⟩
     ·rw [HK.out]
      exact ((hb.setCell (p:=⟨o,0,none⟩) (by show k≤o;omega) _).setCell (p:=⟨k+1+1,0,none⟩) (by show k≤k+1+1;omega) _).setCell (p:=⟨k+1+1,1,none⟩) (by show k≤k+1+1;omega) _
    ·have hl:(((dg (b - a)).length:Int)==0)=false:=by rw [beq_eq_false_iff_ne];have:=dg_len_pos hz;omega
     obtain ⟨b0,b1⟩:=two_back r0 r1 (.bool nb) (.slice p (dg (b - a)).length cap)
     clear hz
     go_wp2
     refine bodyPost_ret (v := .agg #[.bool nb,.slice p (dg (b - a)).length cap]) (by simp [results,Tryz.results106,go_sem,b0,b1]) rfl ?_
     obtain ⟨hn,hf,hb,hoo⟩:=HX.out
     refine ⟨_,_,_,rfl,(hn.setCell hf (by show k+1+1<k+3;omega) _).setCell hf (by show k+1+1<k+3;omega) _,HZ.out,hf.mono (by rw [HK.out];omega),?_⟩
     rw [HK.out]
     exact (hb.setCell (p:=⟨k+1+1,0,none⟩) (by show k≤k+1+1;omega) _).setCell (p:=⟨k+1+1,1,none⟩) (by show k≤k+1+1;omega) _
   ·have HOB:=Lib.hid (OB.set (ng:=nb) HB1.out z0 z1 y0 hs0 HV.out.1 (HV.out.2.1.mono (by simp)))
    clear e1 e2 e3 e4 e5 e6 e7 e8 hsz HB1 HV c1 c2 c3 c4 HBX HBD HBA CP z0 z1 y0 y1
    rename_i hHeld
    clear hHeld
    generalize hsz0:W0.heap.size=o at *
    generalize (w1.setCell ⟨o,0,none⟩ (.bool nb)).setCell ⟨o,1,none⟩ (.slice p (dg (b - a)).length cap)=W2 at *
    obtain ⟨p0,p1,g0,⟨u0,r0⟩,⟨u1,r1⟩,f0,f1,ho,hnat,hfr,hbel⟩:=HOB.out
    have hok:k+1+1≠o:=by omega
    have HX:=Lib.hid (And.intro hnat (And.intro hfr (And.intro hbel ho)))
    clear hnat hfr hbel HOB
    by_cases hz:b - a=0
    ·have hl:(dg (b - a)).length=0:=by rw [hz,dg_zero];rfl
     rw [hl] at p1 HX ⊢
     have HZ2:=Lib.hid hz
     have q0:(W2.setCell ⟨o,0,none⟩ (.bool false)).cell? ⟨o,0,none⟩=some (.bool false):=World.cell?_setCell_same' _ _ _ (by rw [p0];rfl)
     have q1:(W2.setCell ⟨o,0,none⟩ (.bool false)).cell? ⟨o,1,none⟩=some (.slice p 0 cap):=by go_cell
     have s0:(W2.setCell ⟨o,0,none⟩ (.bool false)).cell? ⟨k+1+1,0,none⟩=some u0:=(World.cell?_of_block (Below.heap_setCell _ _ _ _ (by show k+1+1≠o;exact hok))).trans r0
     have s1:(W2.setCell ⟨o,0,none⟩ (.bool false)).cell? ⟨k+1+1,1,none⟩=some u1:=(World.cell?_of_block (Below.heap_setCell _ _ _ _ (by show k+1+1≠o;exact hok))).trans r1
     have f2:(W2.setCell ⟨o,0,none⟩ (.bool false)).frozen? ⟨k+1+1,0,none⟩=false:=by rw [frozen_set];exact f0
     have f3:(W2.setCell ⟨o,0,none⟩ (.bool false)).frozen? ⟨k+1+1,1,none⟩=false:=by rw [frozen_set];exact f1
     obtain ⟨b0,b1⟩:=two_back s0 s1 (.bool false) (.slice p 0 cap)
     clear hz hl r0 r1
     go_wp2
     refine bodyPost_ret (v := .agg #[.bool false,.slice p 0 cap]) (by simp [results,Tryz.results106,go_sem,b0,b1]) rfl ?_
     obtain ⟨hn,hf,hb,hoo⟩:=HX.out
     rw [HZ2.out] at hn
     refine ⟨false,0,_,rfl,hn.any0,?_,hf.mono (by rw [HK.out];omega),?_⟩
     ·have h1:=HZ.out
      rw [HZ2.out,sgn_zero] at h1
      exact ⟨by rw [sgn_zero];exact h1.1,by omega⟩
     ·rw [HK.out]
      exact ((hb.setCell (p:=⟨o,0,none⟩) (by show k≤o;omega) _).setCell (p:=⟨k+1+1,0,none⟩) (by show k≤k+1+1;omega) _).setCell (p:=⟨k+1+1,1,none⟩) (by show k≤k+1+1;omega) _
    ·have hl:(((dg (b - a)).length:Int)==0)=false:=by rw [beq_eq_false_iff_ne];have:=dg_len_pos hz;omega
     obtain ⟨b0,b1⟩:=two_back r0 r1 (.bool nb) (.slice p (dg (b - a)).length cap)
     clear hz
     go_wp2
     refine bodyPost_ret (v := .agg #[.bool nb,.slice p (dg (b - a)).length cap]) (by simp [results,Tryz.results106,go_sem,b0,b1]) rfl ?_
     obtain ⟨hn,hf,hb,hoo⟩:=HX.out
     refine ⟨_,_,_,rfl,(hn.setCell hf (by show k+1+1<k+3;omega) _).setCell hf (by show k+1+1<k+3;omega) _,HZ.out,hf.mono (by rw [HK.out];omega),?_⟩
     rw [HK.out]
     exact (hb.setCell (p:=⟨k+1+1,0,none⟩) (by show k≤k+1+1;omega) _).setCell (p:=⟨k+1+1,1,none⟩) (by show k≤k+1+1;omega) _
end Go.Proofs.YteckjifdpcbaeaaGreatDoor.R
namespace Go.Proofs.YteckjifdpcbaeaaGreatDoor.R
open Go.RowKit
theorem val_agg (l:List UInt8):valOf l=sgnZ (isNeg l) (natOf (szL l)):=(val_sgn l).symm
theorem valOf_17 {l:List UInt8} (h:chk l=0) (hl:l.length≤17) : -100000000000000000<valOf l∧valOf l<100000000000000000:=by
 have h1:=natOf_take_17 (szL l) (chk_dig h) (szL l).length (Nat.le_trans (szL_length l) hl)
 rw [List.take_length] at h1
 rw [valOf_szL];split <;> omega
theorem natOf_pow {l:List UInt8} (h:chk l=0):(valOf l).natAbs<10 ^ l.length:=by
 rw [szL_valAbs]
 exact Nat.lt_of_lt_of_le (natOf_lt _ (chk_dig h)) (Nat.pow_le_pow_right (by decide) (szL_length l))
theorem mul_18 {a b:List UInt8} (ha:chk a=0) (hb:chk b=0) (h:a.length+b.length≤18) : -1000000000000000000<valOf a*valOf b∧valOf a*valOf b<1000000000000000000:=by
 have h1:=natOf_pow ha
 have h2:=natOf_pow hb
 have h3:(valOf a).natAbs*(valOf b).natAbs≤10 ^ a.length*10 ^ b.length:=Nat.mul_le_mul (Nat.le_of_lt h1) (Nat.le_of_lt h2)
 have h4:(valOf a).natAbs*(valOf b).natAbs<10 ^ a.length*10 ^ b.length:=by
  rcases Nat.eq_zero_or_pos (valOf a).natAbs with h | h
  ·rw [h,Nat.zero_mul];exact Nat.mul_pos (Nat.pow_pos (by decide)) (Nat.pow_pos (by decide))
  ·exact Nat.lt_of_lt_of_le (Nat.mul_lt_mul_of_pos_left h2 h) (Nat.mul_le_mul_right _ (Nat.le_of_lt h1))
 rw [←Nat.pow_add,←Int.natAbs_mul] at h4
 have h5:10 ^ (a.length+b.length)≤10 ^ 18:=Nat.pow_le_pow_right (by decide) h
 have h6:(10:Nat) ^ 18=1000000000000000000:=by decide
 omega
theorem res_small {z:Int} (h0 : -1000000000000000000<z) (h1:z<1000000000000000000):resB z=strB z∧resE z=0:=by
 have h:z.natAbs<lim:=small_lim (by omega)
 exact ⟨if_pos h,if_pos h⟩
theorem out_bad {e:Int} (h:e≠0) (z:Int):outB e z=⟨#[]⟩∧outE e z=e:=⟨if_neg h,if_neg h⟩
theorem out_ok (z:Int):outB 0 z=resB z∧outE 0 z=resE z:=⟨if_pos rfl,if_pos rfl⟩
theorem Mul_any (a b:ByteArray) (w:World) (ha:a.size≤1000) (hb:b.size≤1000) (ht:Tab w) :
  Calls Tryz.prog 164 #[.string a,.string b] w fun e W'=>e = .returned (.tuple #[.string (outB (chk2 a.data.toList b.data.toList) (valOf a.data.toList*valOf b.data.toList)),.int .i64 (outE (chk2 a.data.toList b.data.toList) (valOf a.data.toList*valOf b.data.toList))])∧Below w.heap.size w W':=by
 have cb:=both_any a b w (by unfold maxLen;omega) (by unfold maxLen;omega)
 by_cases hc:chk2 a.data.toList b.data.toList=0
 ·obtain ⟨k1,k2⟩:=chk2_zero hc
  rw [hc] at cb
  rw [hc,(out_ok _).1,(out_ok _).2]
  have CB:=Lib.hid cb
  clear cb hc
  by_cases hs:a.size+b.size≤18∧a.size≤17∧b.size≤17
  ·obtain ⟨hs,hs1,hs2⟩:=hs
   have ct:=two_yes a b w hs1 hs2 k1 k2
   have hm:=mul_18 k1 k2 (by rw [size_len,size_len];exact hs)
   obtain ⟨e1,e2⟩:=res_small hm.1 hm.2
   have b1:=valOf_17 k1 (by rw [size_len];omega)
   have b2:=valOf_17 k2 (by rw [size_len];omega)
   rw [e1,e2]
   clear e1 e2 k1 k2
   generalize valOf a.data.toList=x at *
   generalize valOf b.data.toList=y at *
   have ci:=fun W (h:Below w.heap.size w W)=>Itoa_any (x*y) W (by omega) (by omega) (ht.next h)
   have C:=Lib.hid (And.intro ct ci)
   obtain ⟨m1,m2⟩:=hm
   clear ct ci ht
   go_enter Tryz.func164,Tryz.ntmps164
   go_wp2_with fail
   refine CB.out.mono ?_
   rintro e w' ⟨rfl,rfl⟩
   go_wp2_with fail
   refine C.out.1.mono ?_
   rintro e w' ⟨rfl,rfl⟩
   go_wp2_with fail
   refine (C.out.2 _ (Below.refl _ _)).mono ?_
   rintro e w1 ⟨rfl,hb1⟩
   have HB:=Lib.hid hb1
   clear hb1
   go_wp2
   go_ret2
   exact ⟨rfl,HB.out⟩
  ·have n1:=dg_lim' (nat_lim k1)
   have n2:=dg_lim' (nat_lim k2)
   have r1:=fun W=>read_any a W (by omega) k1
   have r2:=fun W=>read_any b W (by omega) k2
   rw [val_agg,val_agg]
   have HT:=Lib.hid (show (a.size≤17∧b.size≤17)∨¬ (a.size≤17∧b.size≤17) from Classical.em _)
   have t1:=fun h:a.size≤17∧b.size≤17=>two_yes a b w h.1 h.2 k1 k2
   have t2:=fun h:¬ (a.size≤17∧b.size≤17)=>two_no a b w h k1 (by unfold maxLen;omega) (by unfold maxLen;omega)
   have CT:=Lib.hid (And.intro t1 t2)
   clear t1 t2
   generalize isNeg a.data.toList=na at *
   generalize isNeg b.data.toList=nb at *
   generalize natOf (szL a.data.toList)=x at *
   generalize natOf (szL b.data.toList)=y at *
   have cm:=fun va vb W (h1:IsNat W va x) (h2:IsNat W vb y)=>mul_any na nb va vb x y W h1 h2 (by omega) (by omega)
   have hxy:(dg (x*y)).length≤10000:=by
    refine (dg_length_le _ _).2 ?_
    have q1:=(dg_length_le x 50).1 n1
    have q2:=(dg_length_le y 50).1 n2
    refine Nat.lt_of_lt_of_le (Nat.mul_lt_mul'' q1 q2) ?_
    rw [←Nat.pow_add]
    exact B_le (50+50) 10000 (by decide)
   have cr:=fun ng v W (h:IsNat W v (x*y))=>result_any ng v (x*y) W h hxy
   have C:=Lib.hid (And.intro r1 (And.intro r2 (And.intro cm cr)))
   clear r1 r2 cm cr k1 k2 n1 n2 hxy
   rcases HT.out with hs1 | hs1
   ·have hsum:¬ ((a.size:Int)+b.size≤18):=by omega
    have CT2:=Lib.hid (CT.out.1 hs1)
    clear CT
    generalize valOf a.data.toList=zx at *
    generalize valOf b.data.toList=zy at *
    go_enter Tryz.func164,Tryz.ntmps164
    go_wp2_with fail
    refine CB.out.mono ?_
    rintro e w' ⟨rfl,rfl⟩
    go_wp2_with fail
    refine CT2.out.mono ?_
    rintro e w' ⟨rfl,rfl⟩
    go_wp2_with fail
    refine (C.out.1 _).mono ?_
    rintro e w1 ⟨va,rfl,hva,_,hb1⟩
    have H1:=Lib.hid (And.intro hva hb1)
    clear hva hb1
    go_wp2_with fail
    refine (C.out.2.1 _).mono ?_
    rintro e w2 ⟨vb,rfl,hvb,_,hb2⟩
    have H2:=Lib.hid (And.intro (H1.out.1.next hb2) (And.intro hvb (H1.out.2.trans (hb2.mono H1.out.2.size))))
    clear hvb hb2 H1
    go_wp2_with fail
    refine (C.out.2.2.1 _ _ _ H2.out.1 H2.out.2.1).mono ?_
    rintro e w3 ⟨ng,v,rfl,hv,hz,_,hb3⟩
    have H3:=Lib.hid (And.intro hv (And.intro hz (H2.out.2.2.trans (hb3.mono H2.out.2.2.size))))
    clear hv hz hb3 H2
    go_wp2_with fail
    refine (C.out.2.2.2 _ _ _ H3.out.1).mono ?_
    rw [H3.out.2.1]
    rintro e w4 ⟨rfl,hb4⟩
    have H4:=Lib.hid (H3.out.2.2.trans (hb4.mono H3.out.2.2.size))
    clear hb4 H3 C
    go_wp2
    go_ret2
    exact ⟨rfl,H4.out⟩
   ·have CT2:=Lib.hid (CT.out.2 hs1)
    clear CT
    go_enter Tryz.func164,Tryz.ntmps164
    go_wp2_with fail
    refine CB.out.mono ?_
    rintro e w' ⟨rfl,rfl⟩
    go_wp2_with fail
    refine CT2.out.mono ?_
    rintro e w' ⟨tx,ty,rfl,rfl⟩
    go_wp2_with fail
    refine (C.out.1 _).mono ?_
    rintro e w1 ⟨va,rfl,hva,_,hb1⟩
    have H1:=Lib.hid (And.intro hva hb1)
    clear hva hb1
    go_wp2_with fail
    refine (C.out.2.1 _).mono ?_
    rintro e w2 ⟨vb,rfl,hvb,_,hb2⟩
    have H2:=Lib.hid (And.intro (H1.out.1.next hb2) (And.intro hvb (H1.out.2.trans (hb2.mono H1.out.2.size))))
    clear hvb hb2 H1
    go_wp2_with fail
    refine (C.out.2.2.1 _ _ _ H2.out.1 H2.out.2.1).mono ?_
    rintro e w3 ⟨ng,v,rfl,hv,hz,_,hb3⟩
    have H3:=Lib.hid (And.intro hv (And.intro hz (H2.out.2.2.trans (hb3.mono H2.out.2.2.size))))
    clear hv hz hb3 H2
    go_wp2_with fail
    refine (C.out.2.2.2 _ _ _ H3.out.1).mono ?_
    rw [H3.out.2.1]
    rintro e w4 ⟨rfl,hb4⟩
    have H4:=Lib.hid (H3.out.2.2.trans (hb4.mono H3.out.2.2.size))
    clear hb4 H3 C
    go_wp2
    go_ret2
    exact ⟨rfl,H4.out⟩
 ·have CB:=Lib.hid cb
  obtain ⟨o1,o2⟩:=out_bad hc (valOf a.data.toList*valOf b.data.toList)
  rw [o1,o2]
  clear o1 o2 cb
  generalize chk2 a.data.toList b.data.toList=c at *
  have hn:(c != 0)=true:=by rw [bne_iff_ne];exact hc
  clear hc
  go_enter Tryz.func164,Tryz.ntmps164
  go_wp2_with fail
  refine CB.out.mono ?_
  rintro e w' ⟨rfl,rfl⟩
  go_wp2
  go_ret2
  exact ⟨rfl,Below.refl _ _⟩
end Go.Proofs.YteckjifdpcbaeaaGreatDoor.R
namespace Go.Proofs.YteckjifdpcbaeaaGreatDoor.R
open Go.RowKit
theorem Divide_short (a b:ByteArray) (w:World) (hs1:a.size≤17) (hs2:b.size≤17) (k1:chk a.data.toList=0) (k2:chk b.data.toList=0) (h0:valOf b.data.toList≠0) (ht:Tab w) :
   Calls Tryz.prog 63 #[.string a,.string b] w fun e W'=>e = .returned (.tuple #[.string (strB ((valOf a.data.toList).fdiv (valOf b.data.toList))),.string (strB ((valOf a.data.toList).fmod (valOf b.data.toList))),.int .i64 0])∧Below w.heap.size w W':=by
 have cb:=both_any a b w (by unfold maxLen;omega) (by unfold maxLen;omega)
 have hc2:chk2 a.data.toList b.data.toList=0:=by unfold chk2;rw [if_pos k1];exact k2
 rw [hc2] at cb
 have hb48:(b.toList == [48])=false:=by
   rw [ByteArray.toList_eq,beq_eq_false_iff_ne]
   intro e;rw [e] at h0;exact h0 rfl
 have ct:=two_yes a b w hs1 hs2 k1 k2
 have b1:=valOf_17 k1 (by rw [size_len];omega)
 have b2:=valOf_17 k2 (by rw [size_len];omega)
 have C:=Lib.hid (And.intro cb ct)
 have HT:=Lib.hid ht
 clear cb ct k1 k2 hc2 ht
 generalize valOf a.data.toList=x at *
 generalize valOf b.data.toList=y at *
 obtain ⟨x0,x1⟩:=b1
 obtain ⟨y0,y1⟩:=b2
 have hq:=tdiv_bd x y (by omega) (by omega)
 have hr:=tmod_bd x y (by omega) (by omega)
 have hz:(y==0)=false:=by rw [beq_eq_false_iff_ne];exact h0
 have e1:=Lib.hid (fun h => @fdiv_same x y h0 h)
 have e2:=Lib.hid (fun h h' => @fdiv_other x y h0 h h')
 have ci:=Lib.hid (fun (z:Int) W (h1 : -1000000000000000001<z) (h2:z<1000000000000000001) (h:Below w.heap.size w W)=>Itoa_any z W (by omega) (by omega) (HT.out.next h))
 obtain ⟨q0,q1⟩:=hq
 obtain ⟨r0,r1⟩:=hr
 go_enter Tryz.func63,Tryz.ntmps63
 go_wp2_with fail
 refine C.out.1.mono ?_
 rintro e w' ⟨rfl,rfl⟩
 go_wp2_with fail
 refine C.out.2.mono ?_
 rintro e w' ⟨rfl,rfl⟩
 go_wp2
 go_quiet (fail)
 have HB0:=Lib.hid (Below.drewK w.heap.size w nq)
 clear hb48 hz h0
 generalize x.tdiv y=q at *
 generalize x.tmod y=r at *
 generalize w.drewN nq=w0 at *
 by_cases c0:r=0
 · have c1:(r != 0)=false:=by simpa using c0
   obtain ⟨f1,f2⟩:=e1.out (.inl c0)
   have F:=Lib.hid (And.intro f1 f2)
   clear f1 f2 c0 e1 e2
   go_wp2_with fail
   refine (ci.out q _ (by omega) (by omega) HB0.out).mono ?_
   rintro e w1 ⟨rfl,hb1⟩
   have HB1:=Lib.hid (HB0.out.trans (hb1.mono HB0.out.size))
   clear hb1
   go_wp2_with fail
   refine (ci.out r _ (by omega) (by omega) HB1.out).mono ?_
   rintro e w2 ⟨rfl,hb2⟩
   have HB2:=Lib.hid (HB1.out.trans (hb2.mono HB1.out.size))
   clear hb2
   go_wp2
   go_ret3
   exact ⟨by rw [F.out.1,F.out.2];rfl,HB2.out⟩
 · have c1:(r != 0)=true:=by simpa using c0
   by_cases c2:r<0 <;> by_cases c3:y<0
   all_goals
     first
     | (obtain ⟨f1,f2⟩:=e1.out (.inr (by omega))
        have F:=Lib.hid (And.intro f1 f2)
        clear f1 f2 c0 e1 e2
        go_wp2_with fail
        refine (ci.out q _ (by omega) (by omega) HB0.out).mono ?_
        rintro e w1 ⟨rfl,hb1⟩
        have HB1:=Lib.hid (HB0.out.trans (hb1.mono HB0.out.size))
        clear hb1
        go_wp2_with fail
        refine (ci.out r _ (by omega) (by omega) HB1.out).mono ?_
        rintro e w2 ⟨rfl,hb2⟩
        have HB2:=Lib.hid (HB1.out.trans (hb2.mono HB1.out.size))
        clear hb2
        go_wp2
        go_ret3
        exact ⟨by rw [F.out.1,F.out.2];rfl,HB2.out⟩)
     | (obtain ⟨f1,f2⟩:=e2.out c0 (by omega)
        have F:=Lib.hid (And.intro f1 f2)
        clear f1 f2 c0 e1 e2
        go_wp2_with fail
        refine (ci.out (q - 1) _ (by omega) (by omega) HB0.out).mono ?_
        rintro e w1 ⟨rfl,hb1⟩
        have HB1:=Lib.hid (HB0.out.trans (hb1.mono HB0.out.size))
        clear hb1
        go_wp2_with fail
        refine (ci.out (r+y) _ (by omega) (by omega) HB1.out).mono ?_
        rintro e w2 ⟨rfl,hb2⟩
        have HB2:=Lib.hid (HB1.out.trans (hb2.mono HB1.out.size))
        clear hb2
        go_wp2
        go_ret3
        exact ⟨by rw [F.out.1,F.out.2];rfl,HB2.out⟩)
end Go.Proofs.YteckjifdpcbaeaaGreatDoor.R
