/- Parts of the proof of the text YtocalfjfjjljnaaGreatDoorZO44. -/
import Derived.Test.YtocalfjfjjljnaaGreatDoorZO1
import Derived.Test.YtocalfjfjjljnaaGreatDoorZO29
set_option linter.all false
set_option maxRecDepth 100000
set_option maxHeartbeats 8000000
namespace Go.Proofs.YtocalfjfjjljnaaGreatDoor
namespace R
open Go.RowKit
theorem yq (z:Int):chk (aa z).data.toList=0↔z.natAbs<lim:=by
 constructor
 ·intro h
  have h1:=bW h
  rwa [←gi,aW] at h1
 ·exact dh
theorem aO (neg:Bool) (v:Value) (n:Nat) (w:World) (h:IsNat w v n) (hn:(dg n).length≤10000) :
  Calls Tryz.prog 106 #[.agg #[.bool neg,v]] w fun e W'=>e = .returned (.tuple #[.string (fH (ak neg n)),.int .i64 (fI (ak neg n))])∧Below w.heap.size w W':=by
 have cw:=fun W (hW:Below w.heap.size w W)=>bc neg v n W (h.next hW) hn
 have hl:(aa (ak neg n)).size≤maxLen:=by
  rw [sU]
  by_cases h0:n=0
  ·subst h0
   have:ak neg 0=0:=aU neg
   rw [this];decide+kernel
  ·have hp:=a6 h0
   have hd:=(bh n (6*(dg n).length) (by omega)).2 (by rw [←qo];exact (an n _).1 (Nat.le_refl _))
   rw [oK neg h0,List.length_append,Lib.decDigits_length]
   have hs:(mR neg).length≤1:=by cases neg <;> simp [mR]
   unfold maxLen
   omega
 have cc:=fun W=>iQ (aa (ak neg n)) W hl
 obtain ⟨p,cap,rfl⟩:=h.shape
 have C:=Ha (Hb cw cc)
 have hk:=yq (ak neg n)
 by_cases hb:(ak neg n).natAbs<lim
 ·have e1:fH (ak neg n)=aa (ak neg n):=if_pos hb
  have e2:fI (ak neg n)=0:=if_pos hb
  rw [e1,e2]
  rw [hk.2 hb] at C
  clear cw cc hk hb e1 e2 h hl
  generalize aa (ak neg n)=s at *
  generalize (dg n).length=l at *
  go_enter Tryz.func106,Tryz.ntmps106
  go_wp2_with fail
  refine (C.out.1 _ ((Below.refl _ _).alloc (Nat.le_refl _) _)).mono ?_
  rintro e w1 ⟨rfl,hb1⟩
  have HB:=Ha (((Below.refl _ w).alloc (Nat.le_refl _) _).trans (hb1.mono (by simp)))
  clear hb1
  go_wp2_with fail
  refine (C.out.2 _).mono ?_
  rintro e w' ⟨rfl,rfl⟩
  go_wp2
  go_ret2
  exact ⟨rfl,HB.out⟩
 ·have e1:fH (ak neg n)=⟨#[]⟩:=if_neg hb
  have e2:fI (ak neg n)=4:=if_neg hb
  rw [e1,e2]
  have hne:(chk (aa (ak neg n)).data.toList != 0)=true:=by rw [bne_iff_ne];exact fun e=>hb (hk.1 e)
  clear cw cc hk hb e1 e2 h hl
  generalize aa (ak neg n)=s at *
  generalize chk s.data.toList=c at *
  generalize (dg n).length=l at *
  go_enter Tryz.func106,Tryz.ntmps106
  go_wp2_with fail
  refine (C.out.1 _ ((Below.refl _ _).alloc (Nat.le_refl _) _)).mono ?_
  rintro e w1 ⟨rfl,hb1⟩
  have HB:=Ha (((Below.refl _ w).alloc (Nat.le_refl _) _).trans (hb1.mono (by simp)))
  clear hb1
  go_wp2_with fail
  refine (C.out.2 _).mono ?_
  rintro e w' ⟨rfl,rfl⟩
  go_wp2
  go_ret2
  exact ⟨rfl,HB.out⟩
theorem am {w:World} {a:Addr} {o:Obj} {u:Value} (h:w.cell? a=some u):(w.alloc o).drew.cell? a=some u :=
 (World.cell?_of_block (w:=w) (Below.heap_alloc w o _ (World.block_lt_of_cell? w a h))).trans h
theorem aV {w:World} {a:Addr} {o:Obj} {u:Value} (h:w.cell? a=some u):(w.alloc o).cell? a=some u :=
 (World.cell?_of_block (w:=w) (Below.heap_alloc w o _ (World.block_lt_of_cell? w a h))).trans h
structure OB (w:World) (k o:Nat) (ng:Bool) (V:Value) (n:Nat) (W:World):Prop where
 p0:W.cell? ⟨o,0,none⟩=some (.bool ng)
 p1:W.cell? ⟨o,1,none⟩=some V
 g0:W.frozen? ⟨o,0,none⟩=false
 r0:∃ u,W.cell? ⟨k+1+1,0,none⟩=some u
 r1:∃ u,W.cell? ⟨k+1+1,1,none⟩=some u
 f0:W.frozen? ⟨k+1+1,0,none⟩=false
 f1:W.frozen? ⟨k+1+1,1,none⟩=false
 ho:k+3≤o
 nat:IsNat W V n
 fr:Fresh (k+3) V
 bel:Below k w W
theorem OB.alloc {w w1:World} {k:Nat} {ng:Bool} {V x0 x1 y0 y1 z0 z1:Value} {n:Nat} {T:TypeId} (h:Boxes w k x0 x1 y0 y1 z0 z1 w1) (hn:IsNat w1 V n) (hf:Fresh (k+3) V):OB w k w1.heap.size ng V n (w1.alloc (.cells #[.bool ng,V] T)):=by
 have hs:=h.size
 have ha:Below w1.heap.size w1 (w1.alloc (.cells #[.bool ng,V] T)):=(Below.refl _ _).alloc (Nat.le_refl _) _
 exact ⟨by go_cell,by go_cell,by simp [go_sem],⟨_,aV h.c5⟩,⟨_,aV h.c6⟩,(ha.frozen (p:=⟨k+1+1,0,none⟩) (by show k+1+1<_;omega)).trans h.f5,(ha.frozen (p:=⟨k+1+1,1,none⟩) (by show k+1+1<_;omega)).trans h.f6,hs,hn.next ha,hf,h.below.trans (ha.mono (by omega))⟩
theorem aC (w:World) (p q:Addr) (u:Value):(w.setCell p u).frozen? q=w.frozen? q:=by simp [go_sem]
theorem OB.set {w w1:World} {k o:Nat} {ng:Bool} {V x0 x1 y0 y1 z0 z1 u0 u1:Value} {n:Nat} (h:Boxes w k x0 x1 y0 y1 z0 z1 w1) (h0:w1.cell? ⟨o,0,none⟩=some u0) (h1:w1.cell? ⟨o,1,none⟩=some u1) (hfz:w1.frozen? ⟨o,0,none⟩=false) (ho:k+3≤o) (hn:IsNat w1 V n) (hf:Fresh (o+1) V) :
  OB w k o ng V n ((w1.setCell ⟨o,0,none⟩ (.bool ng)).setCell ⟨o,1,none⟩ V):=by
 have hs:=h.size
 obtain ⟨b0,b1⟩:=ap h0 h1 (.bool ng) V
 have q0:((w1.setCell ⟨o,0,none⟩ (.bool ng)).setCell ⟨o,1,none⟩ V).cell? ⟨o,0,none⟩=some (.bool ng):=by go_cell
 refine ⟨q0,b1,by rw [aC,aC];exact hfz,⟨_,fN (by omega) h.c5⟩,⟨_,fN (by omega) h.c6⟩,by rw [aC,aC];exact h.f5,by rw [aC,aC];exact h.f6,ho,(hn.setCell hf (by show o<o+1;omega) _).setCell hf (by show o<o+1;omega) _,hf.mono (by omega),(h.below.setCell (p:=⟨o,0,none⟩) (by show k≤o;omega) _).setCell (p:=⟨o,1,none⟩) (by show k≤o;omega) _⟩
theorem IsNat.any0 {w W:World} {v:Value} (h:IsNat w v 0):IsNat W v 0:=by
 obtain ⟨p,cap,e,h1,h2,_⟩:=h
 exact ⟨p,cap,e,h1,h2,fun h=>absurd av h⟩
theorem Ay (na nb:Bool) (va vb:Value) (a b:Nat) (w:World) (ha:IsNat w va a) (hb:IsNat w vb b) (hla:(dg a).length≤100000) (hlb:(dg b).length≤100000) :
  Calls Tryz.prog 181 #[.agg #[.bool na,va],.agg #[.bool nb,vb]] w fun e W'=>∃ neg v,e = .returned (.agg #[.bool neg,v])∧IsNat W' v (a*b)∧ak neg (a*b)=ak na a*ak nb b∧Fresh w.heap.size v∧Below w.heap.size w W':=by
 have cp:∀ W,Below w.heap.size w W→Calls Tryz.prog 149 #[va,vb] W fun e W'=>∃ v,e = .returned v∧IsNat W' v (a*b)∧Fresh W.heap.size v∧Below W.heap.size W W':=fun W hW=>by
  have:=jT va vb (dg a) (dg b) W (Nats.next ha hW) (Nats.next hb hW) (aq a) (aq b) hla hlb
  rwa [ar,ar] at this
 obtain ⟨pa,ca,rfl⟩:=ha.shape
 obtain ⟨pb,cb,rfl⟩:=hb.shape
 have CP:=Ha cp;clear cp ha hb hla hlb
 generalize (dg a).length=la at *
 generalize (dg b).length=lb at *
 go_enter Tryz.func181,Tryz.ntmps181
 go_wp2
 have hbx:=bK w (.bool na) (.slice pa la ca) (.bool nb) (.slice pb lb cb) (.bool false) (.slice none 0 0) 126
 generalize ((w.alloc (.cells #[.bool na,.slice pa la ca] 126)).alloc (.cells #[.bool nb,.slice pb lb cb] 126)).alloc (.cells #[.bool false,.slice none 0 0] 126)=W0 at *
 generalize hk:w.heap.size=k at *
 have HK:=Ha hk;clear hk
 have HBX:=Ha hbx
 have HBD:=Ha hbx.drew
 have HBA:=Ha (hbx.next ((Below.refl _ W0).alloc (Nat.le_refl _) (.cells #[.bool false,.slice none 0 0] 126))).drew
 clear hbx
 obtain ⟨c1,c2,c3,c4,_,_,_,_,_,_⟩:=HBX.out
 have hs0:k+3≤W0.heap.size:=HBX.out.size
 go_region_held3 (fun w'=>w'.cell? ⟨k,0,none⟩=some (.bool na)∧w'.cell? ⟨k,1,none⟩=some (.slice pa la ca)∧w'.cell? ⟨k+1,0,none⟩=some (.bool nb)∧w'.cell? ⟨k+1,1,none⟩=some (.slice pb lb cb))
  (first | (go_keep;done) | (exact ⟨am c1,am c2,am c3,am c4⟩) | (exact ⟨aV e1,aV e2,aV e3,aV e4⟩) | (exact ⟨am e1,am e2,am e3,am e4⟩) | (refine ⟨?_,?_,?_,?_⟩ <;> (first | (exact fN (by omega) (by assumption)) | (exact fN (by omega) (aV (by assumption))) | (exact fN (by omega) (am (by assumption))))))
  (first
   | (go_at_call 149;with_reducible refine (CP.out _ HBA.out.below).mono ?_;rintro e w1 ⟨v,rfl,hv,hf,hb1⟩;obtain ⟨p,cap,rfl⟩:=hv.shape;have HB1:=Ha (HBA.out.next hb1);have z0:w1.cell? ⟨W0.heap.size,0,none⟩=some (.bool false):=(hb1.cell (p:=⟨W0.heap.size,0,none⟩) (by simp)).trans (by go_cell);have z1:w1.cell? ⟨W0.heap.size,1,none⟩=some (.slice none 0 0):=(hb1.cell (p:=⟨W0.heap.size,1,none⟩) (by simp)).trans (by go_cell);have y0:w1.frozen? ⟨W0.heap.size,0,none⟩=false:=(hb1.frozen (p:=⟨W0.heap.size,0,none⟩) (by simp)).trans (by simp [go_sem]);have y1:w1.frozen? ⟨W0.heap.size,1,none⟩=false:=(hb1.frozen (p:=⟨W0.heap.size,1,none⟩) (by simp)).trans (by simp [go_sem]);have HV:=Ha (Hb hv (Hb hf hb1));clear hv hf hb1;obtain ⟨e1,e2,e3,e4,e5,e6,e7,e8,hsz,_⟩:=HB1.out)
   | (go_at_call 149;with_reducible refine (CP.out _ HBD.out.below).mono ?_;rintro e w1 ⟨v,rfl,hv,hf,hb1⟩;obtain ⟨p,cap,rfl⟩:=hv.shape;have HB1:=Ha (HBD.out.next hb1);have HV:=Ha (Hb hv (Hb hf hb1));clear hv hf hb1;obtain ⟨e1,e2,e3,e4,e5,e6,e7,e8,hsz,_⟩:=HB1.out))
 ·have HOB:=Ha (OB.alloc (ng := !(na==nb)) (T:=126) HB1.out HV.out.1 (HV.out.2.1.mono hs0))
  clear e1 e2 e3 e4 e5 e6 e7 e8 hsz HB1 HV c1 c2 c3 c4 HBX HBD HBA hs0 CP
  rename_i hHeld
  clear hHeld
  generalize w1.alloc (.cells #[.bool (!(na==nb)),.slice p (dg (a*b)).length cap] 126)=W2 at *
  generalize w1.heap.size=o at *
  obtain ⟨p0,p1,g0,⟨u0,r0⟩,⟨u1,r1⟩,f0,f1,ho,hnat,hfr,hbel⟩:=HOB.out
  have hok:k+1+1≠o:=by omega
  have HX:=Ha (Hb hnat (Hb hfr (Hb hbel ho)))
  clear hnat hfr hbel HOB
  by_cases hz:a*b=0
  ·have hl:(dg (a*b)).length=0:=by rw [hz,av];rfl
   rw [hl] at p1 HX ⊢
   have HZ:=Ha hz
   have q0:(W2.setCell ⟨o,0,none⟩ (.bool false)).cell? ⟨o,0,none⟩=some (.bool false):=World.cell?_setCell_same' _ _ _ (by rw [p0];rfl)
   have q1:(W2.setCell ⟨o,0,none⟩ (.bool false)).cell? ⟨o,1,none⟩=some (.slice p 0 cap):=by go_cell
   have s0:(W2.setCell ⟨o,0,none⟩ (.bool false)).cell? ⟨k+1+1,0,none⟩=some u0:=(World.cell?_of_block (Below.heap_setCell _ _ _ _ (by show k+1+1≠o;exact hok))).trans r0
   have s1:(W2.setCell ⟨o,0,none⟩ (.bool false)).cell? ⟨k+1+1,1,none⟩=some u1:=(World.cell?_of_block (Below.heap_setCell _ _ _ _ (by show k+1+1≠o;exact hok))).trans r1
   have f2:(W2.setCell ⟨o,0,none⟩ (.bool false)).frozen? ⟨k+1+1,0,none⟩=false:=by rw [aC];exact f0
   have f3:(W2.setCell ⟨o,0,none⟩ (.bool false)).frozen? ⟨k+1+1,1,none⟩=false:=by rw [aC];exact f1
   obtain ⟨b0,b1⟩:=ap s0 s1 (.bool false) (.slice p 0 cap)
   clear hz hl r0 r1
   go_wp2
   refine bodyPost_ret (v := .agg #[.bool false,.slice p 0 cap]) (by simp [results,Tryz.results181,go_sem,b0,b1]) rfl ?_
   obtain ⟨hn,hf,hb,hoo⟩:=HX.out
   rw [HZ.out] at hn ⊢
   refine ⟨false,_,rfl,hn.any0,?_,hf.mono (by rw [HK.out];omega),?_⟩
   ·have:=HZ.out
    rcases Nat.mul_eq_zero.1 this with rfl | rfl
    ·rw [aU,aU,Int.zero_mul]
    ·rw [aU,aU,Int.mul_zero]
   ·rw [HK.out]
    exact ((hb.setCell (p:=⟨o,0,none⟩) (by show k≤o;omega) _).setCell (p:=⟨k+1+1,0,none⟩) (by show k≤k+1+1;omega) _).setCell (p:=⟨k+1+1,1,none⟩) (by show k≤k+1+1;omega) _
  ·have hl:(((dg (a*b)).length:Int)==0)=false:=by rw [beq_eq_false_iff_ne];have:=a6 hz;omega
   obtain ⟨b0,b1⟩:=ap r0 r1 (.bool (!(na==nb))) (.slice p (dg (a*b)).length cap)
   clear hz
   go_wp2
   refine bodyPost_ret (v := .agg #[.bool (!(na==nb)),.slice p (dg (a*b)).length cap]) (by simp [results,Tryz.results181,go_sem,b0,b1]) rfl ?_
   obtain ⟨hn,hf,hb,hoo⟩:=HX.out
   refine ⟨_,_,rfl,(hn.setCell hf (by show k+1+1<k+3;omega) _).setCell hf (by show k+1+1<k+3;omega) _,?_,hf.mono (by rw [HK.out];omega),?_⟩
   ·exact qP na nb a b
   ·rw [HK.out]
    exact (hb.setCell (p:=⟨k+1+1,0,none⟩) (by show k≤k+1+1;omega) _).setCell (p:=⟨k+1+1,1,none⟩) (by show k≤k+1+1;omega) _
 ·have HOB:=Ha (OB.set (ng := !(na==nb)) HB1.out z0 z1 y0 hs0 HV.out.1 (HV.out.2.1.mono (by simp)))
  clear e1 e2 e3 e4 e5 e6 e7 e8 hsz HB1 HV c1 c2 c3 c4 HBX HBD HBA CP z0 z1 y0 y1
  rename_i hHeld
  clear hHeld
  generalize hsz0:W0.heap.size=o at *
  generalize (w1.setCell ⟨o,0,none⟩ (.bool (!(na==nb)))).setCell ⟨o,1,none⟩ (.slice p (dg (a*b)).length cap)=W2 at *
  obtain ⟨p0,p1,g0,⟨u0,r0⟩,⟨u1,r1⟩,f0,f1,ho,hnat,hfr,hbel⟩:=HOB.out
  have hok:k+1+1≠o:=by omega
  have HX:=Ha (Hb hnat (Hb hfr (Hb hbel ho)))
  clear hnat hfr hbel HOB
  by_cases hz:a*b=0
  ·have hl:(dg (a*b)).length=0:=by rw [hz,av];rfl
   rw [hl] at p1 HX ⊢
   have HZ:=Ha hz
   have q0:(W2.setCell ⟨o,0,none⟩ (.bool false)).cell? ⟨o,0,none⟩=some (.bool false):=World.cell?_setCell_same' _ _ _ (by rw [p0];rfl)
   have q1:(W2.setCell ⟨o,0,none⟩ (.bool false)).cell? ⟨o,1,none⟩=some (.slice p 0 cap):=by go_cell
   have s0:(W2.setCell ⟨o,0,none⟩ (.bool false)).cell? ⟨k+1+1,0,none⟩=some u0:=(World.cell?_of_block (Below.heap_setCell _ _ _ _ (by show k+1+1≠o;exact hok))).trans r0
   have s1:(W2.setCell ⟨o,0,none⟩ (.bool false)).cell? ⟨k+1+1,1,none⟩=some u1:=(World.cell?_of_block (Below.heap_setCell _ _ _ _ (by show k+1+1≠o;exact hok))).trans r1
   have f2:(W2.setCell ⟨o,0,none⟩ (.bool false)).frozen? ⟨k+1+1,0,none⟩=false:=by rw [aC];exact f0
   have f3:(W2.setCell ⟨o,0,none⟩ (.bool false)).frozen? ⟨k+1+1,1,none⟩=false:=by rw [aC];exact f1
   obtain ⟨b0,b1⟩:=ap s0 s1 (.bool false) (.slice p 0 cap)
   clear hz hl r0 r1
   go_wp2
   refine bodyPost_ret (v := .agg #[.bool false,.slice p 0 cap]) (by simp [results,Tryz.results181,go_sem,b0,b1]) rfl ?_
   obtain ⟨hn,hf,hb,hoo⟩:=HX.out
   rw [HZ.out] at hn ⊢
   refine ⟨false,_,rfl,hn.any0,?_,hf.mono (by rw [HK.out];omega),?_⟩
   ·have:=HZ.out
    rcases Nat.mul_eq_zero.1 this with rfl | rfl
    ·rw [aU,aU,Int.zero_mul]
    ·rw [aU,aU,Int.mul_zero]
   ·rw [HK.out]
    exact ((hb.setCell (p:=⟨o,0,none⟩) (by show k≤o;omega) _).setCell (p:=⟨k+1+1,0,none⟩) (by show k≤k+1+1;omega) _).setCell (p:=⟨k+1+1,1,none⟩) (by show k≤k+1+1;omega) _
  ·have hl:(((dg (a*b)).length:Int)==0)=false:=by rw [beq_eq_false_iff_ne];have:=a6 hz;omega
   obtain ⟨b0,b1⟩:=ap r0 r1 (.bool (!(na==nb))) (.slice p (dg (a*b)).length cap)
   clear hz
   go_wp2
   refine bodyPost_ret (v := .agg #[.bool (!(na==nb)),.slice p (dg (a*b)).length cap]) (by simp [results,Tryz.results181,go_sem,b0,b1]) rfl ?_
   obtain ⟨hn,hf,hb,hoo⟩:=HX.out
   refine ⟨_,_,rfl,(hn.setCell hf (by show k+1+1<k+3;omega) _).setCell hf (by show k+1+1<k+3;omega) _,?_,hf.mono (by rw [HK.out];omega),?_⟩
   ·exact qP na nb a b
   ·rw [HK.out]
    exact (hb.setCell (p:=⟨k+1+1,0,none⟩) (by show k≤k+1+1;omega) _).setCell (p:=⟨k+1+1,1,none⟩) (by show k≤k+1+1;omega) _
end R
namespace R
open Go.RowKit
theorem fP (na nb:Bool) (va vb:Value) (a b:Nat) (w:World) (ha:IsNat w va a) (hb:IsNat w vb b) (hla:(dg a).length≤100000) (hlb:(dg b).length≤100000) :
  Calls Tryz.prog 105 #[.agg #[.bool na,va],.agg #[.bool nb,vb]] w fun e W'=>∃ neg n v,e = .returned (.agg #[.bool neg,v])∧IsNat W' v n∧(ak neg n=ak na a+ak nb b∧n≤a+b)∧Fresh w.heap.size v∧Below w.heap.size w W':=by
 obtain ⟨pa,ca,rfl⟩:=ha.shape
 obtain ⟨pb,cb,rfl⟩:=hb.shape
 by_cases hs:na=nb
 ·have cp:∀ W,Below w.heap.size w W→Calls Tryz.prog 151 #[.slice pa (dg a).length ca,.slice pb (dg b).length cb] W fun e W'=>∃ v,e = .returned v∧IsNat W' v (a+b)∧Fresh W.heap.size v∧Below W.heap.size W W':=fun W hW=>by
   have:=lp _ _ (dg a) (dg b) W (Nats.next ha hW) (Nats.next hb hW) (aq a) (aq b) (by omega) (by omega)
   rwa [ar,ar] at this
  have CP:=Ha cp;clear cp ha hb hla hlb
  have HZ:Hid (ak na (a+b)=ak na a+ak nb b∧a+b≤a+b):=⟨by rw [←hs];exact lI na a b,Nat.le_refl _⟩
  have hq:(na==nb)=true:=by simpa using hs
  clear hs
  generalize (dg a).length=la at *
  generalize (dg b).length=lb at *
  go_enter Tryz.func105,Tryz.ntmps105
  go_wp2
  have hbx:=bK w (.bool na) (.slice pa la ca) (.bool nb) (.slice pb lb cb) (.bool false) (.slice none 0 0) 126
  generalize ((w.alloc (.cells #[.bool na,.slice pa la ca] 126)).alloc (.cells #[.bool nb,.slice pb lb cb] 126)).alloc (.cells #[.bool false,.slice none 0 0] 126)=W0 at *
  generalize hk:w.heap.size=k at *
  have HK:=Ha hk;clear hk
  have HBD:=Ha hbx.drew
  clear hbx
  obtain ⟨c1,c2,c3,c4,_,_,_,_,_,_⟩:=HBD.out
  go_region_held3 (fun w'=>w'.cell? ⟨k,0,none⟩=some (.bool na)∧w'.cell? ⟨k,1,none⟩=some (.slice pa la ca)∧w'.cell? ⟨k+1,0,none⟩=some (.bool nb)∧w'.cell? ⟨k+1,1,none⟩=some (.slice pb lb cb)) (first | (go_keep;done) | ((try dsimp only);refine ⟨?_,?_,?_,?_⟩ <;> (first | (exact fN (by omega) (by assumption)) | (go_keep;done))))
   (first | (go_at_call 151;refine (CP.out _ HBD.out.below).mono ?_;rintro e w1 ⟨v,rfl,hv,hf,hb1⟩;obtain ⟨p,cap,rfl⟩:=hv.shape;have HB1:=Ha (HBD.out.next hb1);have HV:=Ha (Hb hv (Hb hf hb1));clear hv hf hb1;obtain ⟨e1,e2,e3,e4,e5,e6,e7,e8,_,_⟩:=HB1.out))
  obtain ⟨g5,g6⟩:=ap e5 e6 (.bool na) (.slice p (dg (a+b)).length cap)
  go_wp2
  refine bodyPost_ret (v := .agg #[.bool na,.slice p (dg (a+b)).length cap]) (by simp [results,Tryz.results105,go_sem,g5,g6]) rfl ?_
  obtain ⟨hv,hf,hb1⟩:=HV.out
  have hf':Fresh (k+3) (.slice p (dg (a+b)).length cap):=hf.mono HBD.out.size
  refine ⟨_,_,_,rfl,(hv.setCell hf' (by show k+1+1<k+3;omega) _).setCell hf' (by show k+1+1<k+3;omega) _,HZ.out,hf'.mono (by rw [HK.out];omega),?_⟩
  rw [HK.out]
  exact ((HB1.out.below).setCell (p:=⟨k+1+1,0,none⟩) (by show k≤k+1+1;omega) _).setCell (p:=⟨k+1+1,1,none⟩) (by show k≤k+1+1;omega) _
 ·have hq:(na==nb)=false:=by simpa using hs
  have hbx:=bK w (.bool na) (.slice pa (dg a).length ca) (.bool nb) (.slice pb (dg b).length cb) (.bool false) (.slice none 0 0) 126
  have hfz:=zH w (.bool na) (.slice pa (dg a).length ca) (.bool nb) (.slice pb (dg b).length cb) (.bool false) (.slice none 0 0) 126
  have cc:=rX (.slice pa (dg a).length ca) (.slice pb (dg b).length cb) a b _ (ha.next hbx.below) (hb.next hbx.below)
  have CC:=Ha cc;clear cc
  by_cases hle:b≤a
  ·have hcmp:0≤cM a b:=by
    rcases Nat.lt_or_eq_of_le hle with h | h
    ·rw [fQ h];decide
    ·rw [lH h.symm];decide
   have cp:∀ W,Below w.heap.size w W→Calls Tryz.prog 148 #[.slice pa (dg a).length ca,.slice pb (dg b).length cb] W fun e W'=>∃ v,e = .returned v∧IsNat W' v (a - b)∧Fresh W.heap.size v∧Below W.heap.size W W':=fun W hW=>by
    have:=jS _ _ (dg a) (dg b) W (Nats.next ha hW) (Nats.next hb hW) (aq a) (aq b) (by omega) (aE hle) (by rw [ar,ar];exact hle)
    rw [ar,ar] at this
    exact this.mono fun e W' ⟨g,cap,he,hn,hg,hB⟩=>⟨_,he,hn,fun k hk=>by cases hk;exact hg,hB⟩
   have CP:=Ha cp;clear cp ha hb hla hlb
   have HZ:Hid (ak na (a - b)=ak na a+ak nb b∧a - b≤a+b):=⟨nv na nb hs a b hle,by omega⟩
   have HBX:=Ha (Hb hbx hfz)
   clear hs hle hbx hfz
   generalize (dg a).length=la at *
   generalize (dg b).length=lb at *
   generalize cM a b=cm at *
   have hcm2:¬ cm<0:=by omega
   go_enter Tryz.func105,Tryz.ntmps105
   go_wp2_with fail
   refine CC.out.mono ?_
   rintro e w' ⟨rfl,nn,rfl⟩
   clear CC
   have hbx2:=HBX.out.1.drewN nn
   clear HBX
   generalize (((w.alloc (.cells #[.bool na,.slice pa la ca] 126)).alloc (.cells #[.bool nb,.slice pb lb cb] 126)).alloc (.cells #[.bool false,.slice none 0 0] 126)).drewN nn=W0 at *
   generalize hk:w.heap.size=k at *
   have HK:=Ha hk;clear hk
   have HBX:=Ha hbx2
   obtain ⟨b1,b2,b3,b4,_,_,_,_,_,_⟩:=hbx2
   go_wp2
   clear b1 b2 b3 b4
   have HBD:=Ha HBX.out.drew
   have HBA:=Ha (HBX.out.next ((Below.refl _ W0).alloc (Nat.le_refl _) (.cells #[.bool false,.slice none 0 0] 126))).drew
   obtain ⟨c1,c2,c3,c4,_,_,_,_,_,_⟩:=HBX.out
   have hs0:k+3≤W0.heap.size:=HBX.out.size
   go_region_held3 (fun w'=>w'.cell? ⟨k,0,none⟩=some (.bool na)∧w'.cell? ⟨k,1,none⟩=some (.slice pa la ca)∧w'.cell? ⟨k+1,0,none⟩=some (.bool nb)∧w'.cell? ⟨k+1,1,none⟩=some (.slice pb lb cb))
    (first | (go_keep;done) | (exact ⟨am c1,am c2,am c3,am c4⟩) | (exact ⟨aV e1,aV e2,aV e3,aV e4⟩) | (exact ⟨am e1,am e2,am e3,am e4⟩) | (refine ⟨?_,?_,?_,?_⟩ <;> (first | (exact fN (by omega) (by assumption)) | (exact fN (by omega) (aV (by assumption))) | (exact fN (by omega) (am (by assumption))))))
    (first
     | (go_at_call 148;with_reducible refine (CP.out _ HBA.out.below).mono ?_;rintro e w1 ⟨v,rfl,hv,hf,hb1⟩;obtain ⟨p,cap,rfl⟩:=hv.shape;have HB1:=Ha (HBA.out.next hb1);have z0:w1.cell? ⟨W0.heap.size,0,none⟩=some (.bool false):=(hb1.cell (p:=⟨W0.heap.size,0,none⟩) (by simp)).trans (by go_cell);have z1:w1.cell? ⟨W0.heap.size,1,none⟩=some (.slice none 0 0):=(hb1.cell (p:=⟨W0.heap.size,1,none⟩) (by simp)).trans (by go_cell);have y0:w1.frozen? ⟨W0.heap.size,0,none⟩=false:=(hb1.frozen (p:=⟨W0.heap.size,0,none⟩) (by simp)).trans (by simp [go_sem]);have y1:w1.frozen? ⟨W0.heap.size,1,none⟩=false:=(hb1.frozen (p:=⟨W0.heap.size,1,none⟩) (by simp)).trans (by simp [go_sem]);have HV:=Ha (Hb hv (Hb hf hb1));clear hv hf hb1;obtain ⟨e1,e2,e3,e4,e5,e6,e7,e8,hsz,_⟩:=HB1.out)
     | (go_at_call 148;with_reducible refine (CP.out _ HBD.out.below).mono ?_;rintro e w1 ⟨v,rfl,hv,hf,hb1⟩;obtain ⟨p,cap,rfl⟩:=hv.shape;have HB1:=Ha (HBD.out.next hb1);have HV:=Ha (Hb hv (Hb hf hb1));clear hv hf hb1;obtain ⟨e1,e2,e3,e4,e5,e6,e7,e8,hsz,_⟩:=HB1.out))
   ·have HOB:=Ha (OB.alloc (ng:=na) (T:=126) HB1.out HV.out.1 (HV.out.2.1.mono hs0))
    clear e1 e2 e3 e4 e5 e6 e7 e8 hsz HB1 HV c1 c2 c3 c4 HBX HBD HBA hs0 CP
    rename_i hHeld
    clear hHeld
    generalize w1.alloc (.cells #[.bool na,.slice p (dg (a - b)).length cap] 126)=W2 at *
    generalize w1.heap.size=o at *
    obtain ⟨p0,p1,g0,⟨u0,r0⟩,⟨u1,r1⟩,f0,f1,ho,hnat,hfr,hbel⟩:=HOB.out
    have hok:k+1+1≠o:=by omega
    have HX:=Ha (Hb hnat (Hb hfr (Hb hbel ho)))
    clear hnat hfr hbel HOB
    by_cases hz:a - b=0
    ·have hl:(dg (a - b)).length=0:=by rw [hz,av];rfl
     rw [hl] at p1 HX ⊢
     have HZ2:=Ha hz
     have q0:(W2.setCell ⟨o,0,none⟩ (.bool false)).cell? ⟨o,0,none⟩=some (.bool false):=World.cell?_setCell_same' _ _ _ (by rw [p0];rfl)
     have q1:(W2.setCell ⟨o,0,none⟩ (.bool false)).cell? ⟨o,1,none⟩=some (.slice p 0 cap):=by go_cell
     have s0:(W2.setCell ⟨o,0,none⟩ (.bool false)).cell? ⟨k+1+1,0,none⟩=some u0:=(World.cell?_of_block (Below.heap_setCell _ _ _ _ (by show k+1+1≠o;exact hok))).trans r0
     have s1:(W2.setCell ⟨o,0,none⟩ (.bool false)).cell? ⟨k+1+1,1,none⟩=some u1:=(World.cell?_of_block (Below.heap_setCell _ _ _ _ (by show k+1+1≠o;exact hok))).trans r1
     have f2:(W2.setCell ⟨o,0,none⟩ (.bool false)).frozen? ⟨k+1+1,0,none⟩=false:=by rw [aC];exact f0
     have f3:(W2.setCell ⟨o,0,none⟩ (.bool false)).frozen? ⟨k+1+1,1,none⟩=false:=by rw [aC];exact f1
     obtain ⟨b0,b1⟩:=ap s0 s1 (.bool false) (.slice p 0 cap)
     clear hz hl r0 r1
     go_wp2
     refine bodyPost_ret (v := .agg #[.bool false,.slice p 0 cap]) (by simp [results,Tryz.results105,go_sem,b0,b1]) rfl ?_
     obtain ⟨hn,hf,hb,hoo⟩:=HX.out
     rw [HZ2.out] at hn
     refine ⟨false,0,_,rfl,hn.any0,?_,hf.mono (by rw [HK.out];omega),?_⟩
     ·have h1:=HZ.out
      rw [HZ2.out,aU] at h1
      exact ⟨by rw [aU];exact h1.1,by omega⟩
     ·rw [HK.out]
      exact ((hb.setCell (p:=⟨o,0,none⟩) (by show k≤o;omega) _).setCell (p:=⟨k+1+1,0,none⟩) (by show k≤k+1+1;omega) _).setCell (p:=⟨k+1+1,1,none⟩) (by show k≤k+1+1;omega) _
    ·have hl:(((dg (a - b)).length:Int)==0)=false:=by rw [beq_eq_false_iff_ne];have:=a6 hz;omega
     obtain ⟨b0,b1⟩:=ap r0 r1 (.bool na) (.slice p (dg (a - b)).length cap)
     clear hz
     go_wp2
     refine bodyPost_ret (v := .agg #[.bool na,.slice p (dg (a - b)).length cap]) (by simp [results,Tryz.results105,go_sem,b0,b1]) rfl ?_
     obtain ⟨hn,hf,hb,hoo⟩:=HX.out
     refine ⟨_,_,_,rfl,(hn.setCell hf (by show k+1+1<k+3;omega) _).setCell hf (by show k+1+1<k+3;omega) _,HZ.out,hf.mono (by rw [HK.out];omega),?_⟩
     rw [HK.out]
     exact (hb.setCell (p:=⟨k+1+1,0,none⟩) (by show k≤k+1+1;omega) _).setCell (p:=⟨k+1+1,1,none⟩) (by show k≤k+1+1;omega) _
   ·have HOB:=Ha (OB.set (ng:=na) HB1.out z0 z1 y0 hs0 HV.out.1 (HV.out.2.1.mono (by simp)))
    clear e1 e2 e3 e4 e5 e6 e7 e8 hsz HB1 HV c1 c2 c3 c4 HBX HBD HBA CP z0 z1 y0 y1
    rename_i hHeld
    clear hHeld
    generalize hsz0:W0.heap.size=o at *
    generalize (w1.setCell ⟨o,0,none⟩ (.bool na)).setCell ⟨o,1,none⟩ (.slice p (dg (a - b)).length cap)=W2 at *
    obtain ⟨p0,p1,g0,⟨u0,r0⟩,⟨u1,r1⟩,f0,f1,ho,hnat,hfr,hbel⟩:=HOB.out
    have hok:k+1+1≠o:=by omega
    have HX:=Ha (Hb hnat (Hb hfr (Hb hbel ho)))
    clear hnat hfr hbel HOB
    by_cases hz:a - b=0
    ·have hl:(dg (a - b)).length=0:=by rw [hz,av];rfl
     rw [hl] at p1 HX ⊢
     have HZ2:=Ha hz
     have q0:(W2.setCell ⟨o,0,none⟩ (.bool false)).cell? ⟨o,0,none⟩=some (.bool false):=World.cell?_setCell_same' _ _ _ (by rw [p0];rfl)
     have q1:(W2.setCell ⟨o,0,none⟩ (.bool false)).cell? ⟨o,1,none⟩=some (.slice p 0 cap):=by go_cell
     have s0:(W2.setCell ⟨o,0,none⟩ (.bool false)).cell? ⟨k+1+1,0,none⟩=some u0:=(World.cell?_of_block (Below.heap_setCell _ _ _ _ (by show k+1+1≠o;exact hok))).trans r0
     have s1:(W2.setCell ⟨o,0,none⟩ (.bool false)).cell? ⟨k+1+1,1,none⟩=some u1:=(World.cell?_of_block (Below.heap_setCell _ _ _ _ (by show k+1+1≠o;exact hok))).trans r1
     have f2:(W2.setCell ⟨o,0,none⟩ (.bool false)).frozen? ⟨k+1+1,0,none⟩=false:=by rw [aC];exact f0
     have f3:(W2.setCell ⟨o,0,none⟩ (.bool false)).frozen? ⟨k+1+1,1,none⟩=false:=by rw [aC];exact f1
     obtain ⟨b0,b1⟩:=ap s0 s1 (.bool false) (.slice p 0 cap)
     clear hz hl r0 r1
     go_wp2
     refine bodyPost_ret (v := .agg #[.bool false,.slice p 0 cap]) (by simp [results,Tryz.results105,go_sem,b0,b1]) rfl ?_
     obtain ⟨hn,hf,hb,hoo⟩:=HX.out
     rw [HZ2.out] at hn
     refine ⟨false,0,_,rfl,hn.any0,?_,hf.mono (by rw [HK.out];omega),?_⟩
     ·have h1:=HZ.out
      rw [HZ2.out,aU] at h1
      exact ⟨by rw [aU];exact h1.1,by omega⟩
     ·rw [HK.out]
      exact ((hb.setCell (p:=⟨o,0,none⟩) (by show k≤o;omega) _).setCell (p:=⟨k+1+1,0,none⟩) (by show k≤k+1+1;omega) _).setCell (p:=⟨k+1+1,1,none⟩) (by show k≤k+1+1;omega) _
    ·have hl:(((dg (a - b)).length:Int)==0)=false:=by rw [beq_eq_false_iff_ne];have:=a6 hz;omega
     obtain ⟨b0,b1⟩:=ap r0 r1 (.bool na) (.slice p (dg (a - b)).length cap)
     clear hz
     go_wp2
     refine bodyPost_ret (v := .agg #[.bool na,.slice p (dg (a - b)).length cap]) (by simp [results,Tryz.results105,go_sem,b0,b1]) rfl ?_
     obtain ⟨hn,hf,hb,hoo⟩:=HX.out
     refine ⟨_,_,_,rfl,(hn.setCell hf (by show k+1+1<k+3;omega) _).setCell hf (by show k+1+1<k+3;omega) _,HZ.out,hf.mono (by rw [HK.out];omega),?_⟩
     rw [HK.out]
     exact (hb.setCell (p:=⟨k+1+1,0,none⟩) (by show k≤k+1+1;omega) _).setCell (p:=⟨k+1+1,1,none⟩) (by show k≤k+1+1;omega) _
  ·have hcmp:cM a b<0:=by rw [dO (by omega)];decide
   have cp:∀ W,Below w.heap.size w W→Calls Tryz.prog 148 #[.slice pb (dg b).length cb,.slice pa (dg a).length ca] W fun e W'=>∃ v,e = .returned v∧IsNat W' v (b - a)∧Fresh W.heap.size v∧Below W.heap.size W W':=fun W hW=>by
    have:=jS _ _ (dg b) (dg a) W (Nats.next hb hW) (Nats.next ha hW) (aq b) (aq a) (by omega) (aE (by omega)) (by rw [ar,ar];omega)
    rw [ar,ar] at this
    exact this.mono fun e W' ⟨g,cap,he,hn,hg,hB⟩=>⟨_,he,hn,fun k hk=>by cases hk;exact hg,hB⟩
   have CP:=Ha cp;clear cp ha hb hla hlb
   have HZ:Hid (ak nb (b - a)=ak na a+ak nb b∧b - a≤a+b):=⟨by rw [nv nb na (fun h=>hs h.symm) b a (by omega),Int.add_comm],by omega⟩
   have HBX:=Ha (Hb hbx hfz)
   clear hs hle hbx hfz
   generalize (dg a).length=la at *
   generalize (dg b).length=lb at *
   generalize cM a b=cm at *
   go_enter Tryz.func105,Tryz.ntmps105
   go_wp2_with fail
   refine CC.out.mono ?_
   rintro e w' ⟨rfl,nn,rfl⟩
   clear CC
   have hbx2:=HBX.out.1.drewN nn
   have hfz2:=HBX.out.2.drewN nn
   clear HBX
   generalize (((w.alloc (.cells #[.bool na,.slice pa la ca] 126)).alloc (.cells #[.bool nb,.slice pb lb cb] 126)).alloc (.cells #[.bool false,.slice none 0 0] 126)).drewN nn=W00 at *
   generalize hk:w.heap.size=k at *
   have HK:=Ha hk;clear hk
   have HBX0:=Ha hbx2
   obtain ⟨b1,b2,b3,b4,_,_,_,_,_,_⟩:=hbx2
   obtain ⟨f1,f2,f3,f4⟩:=hfz2
   go_wp2
   have hsw:=oL HBX0.out
   clear b1 b2 b3 b4 HBX0 f1 f2 f3 f4
   generalize (((W00.setCell ⟨k,0,none⟩ (.bool nb)).setCell ⟨k,1,none⟩ (.slice pb lb cb)).setCell ⟨k+1,0,none⟩ (.bool na)).setCell ⟨k+1,1,none⟩ (.slice pa la ca)=W0 at *
   have HBX:=Ha hsw
   clear hsw
   have HBD:=Ha HBX.out.drew
   have HBA:=Ha (HBX.out.next ((Below.refl _ W0).alloc (Nat.le_refl _) (.cells #[.bool false,.slice none 0 0] 126))).drew
   obtain ⟨c1,c2,c3,c4,_,_,_,_,_,_⟩:=HBX.out
   have hs0:k+3≤W0.heap.size:=HBX.out.size
   go_region_held3 (fun w'=>w'.cell? ⟨k,0,none⟩=some (.bool nb)∧w'.cell? ⟨k,1,none⟩=some (.slice pb lb cb)∧w'.cell? ⟨k+1,0,none⟩=some (.bool na)∧w'.cell? ⟨k+1,1,none⟩=some (.slice pa la ca))
    (first | (go_keep;done) | (exact ⟨am c1,am c2,am c3,am c4⟩) | (exact ⟨aV e1,aV e2,aV e3,aV e4⟩) | (exact ⟨am e1,am e2,am e3,am e4⟩) | (refine ⟨?_,?_,?_,?_⟩ <;> (first | (exact fN (by omega) (by assumption)) | (exact fN (by omega) (aV (by assumption))) | (exact fN (by omega) (am (by assumption))))))
    (first
     | (go_at_call 148;with_reducible refine (CP.out _ HBA.out.below).mono ?_;rintro e w1 ⟨v,rfl,hv,hf,hb1⟩;obtain ⟨p,cap,rfl⟩:=hv.shape;have HB1:=Ha (HBA.out.next hb1);have z0:w1.cell? ⟨W0.heap.size,0,none⟩=some (.bool false):=(hb1.cell (p:=⟨W0.heap.size,0,none⟩) (by simp)).trans (by go_cell);have z1:w1.cell? ⟨W0.heap.size,1,none⟩=some (.slice none 0 0):=(hb1.cell (p:=⟨W0.heap.size,1,none⟩) (by simp)).trans (by go_cell);have y0:w1.frozen? ⟨W0.heap.size,0,none⟩=false:=(hb1.frozen (p:=⟨W0.heap.size,0,none⟩) (by simp)).trans (by simp [go_sem]);have y1:w1.frozen? ⟨W0.heap.size,1,none⟩=false:=(hb1.frozen (p:=⟨W0.heap.size,1,none⟩) (by simp)).trans (by simp [go_sem]);have HV:=Ha (Hb hv (Hb hf hb1));clear hv hf hb1;obtain ⟨e1,e2,e3,e4,e5,e6,e7,e8,hsz,_⟩:=HB1.out)
     | (go_at_call 148;with_reducible refine (CP.out _ HBD.out.below).mono ?_;rintro e w1 ⟨v,rfl,hv,hf,hb1⟩;obtain ⟨p,cap,rfl⟩:=hv.shape;have HB1:=Ha (HBD.out.next hb1);have HV:=Ha (Hb hv (Hb hf hb1));clear hv hf hb1;obtain ⟨e1,e2,e3,e4,e5,e6,e7,e8,hsz,_⟩:=HB1.out))
   ·have HOB:=Ha (OB.alloc (ng:=nb) (T:=126) HB1.out HV.out.1 (HV.out.2.1.mono hs0))
    clear e1 e2 e3 e4 e5 e6 e7 e8 hsz HB1 HV c1 c2 c3 c4 HBX HBD HBA hs0 CP
    rename_i hHeld
    clear hHeld
    generalize w1.alloc (.cells #[.bool nb,.slice p (dg (b - a)).length cap] 126)=W2 at *
    generalize w1.heap.size=o at *
    obtain ⟨p0,p1,g0,⟨u0,r0⟩,⟨u1,r1⟩,f0,f1,ho,hnat,hfr,hbel⟩:=HOB.out
    have hok:k+1+1≠o:=by omega
    have HX:=Ha (Hb hnat (Hb hfr (Hb hbel ho)))
    clear hnat hfr hbel HOB
    by_cases hz:b - a=0
    ·have hl:(dg (b - a)).length=0:=by rw [hz,av];rfl
     rw [hl] at p1 HX ⊢
     have HZ2:=Ha hz
     have q0:(W2.setCell ⟨o,0,none⟩ (.bool false)).cell? ⟨o,0,none⟩=some (.bool false):=World.cell?_setCell_same' _ _ _ (by rw [p0];rfl)
     have q1:(W2.setCell ⟨o,0,none⟩ (.bool false)).cell? ⟨o,1,none⟩=some (.slice p 0 cap):=by go_cell
     have s0:(W2.setCell ⟨o,0,none⟩ (.bool false)).cell? ⟨k+1+1,0,none⟩=some u0:=(World.cell?_of_block (Below.heap_setCell _ _ _ _ (by show k+1+1≠o;exact hok))).trans r0
     have s1:(W2.setCell ⟨o,0,none⟩ (.bool false)).cell? ⟨k+1+1,1,none⟩=some u1:=(World.cell?_of_block (Below.heap_setCell _ _ _ _ (by show k+1+1≠o;exact hok))).trans r1
     have f2:(W2.setCell ⟨o,0,none⟩ (.bool false)).frozen? ⟨k+1+1,0,none⟩=false:=by rw [aC];exact f0
     have f3:(W2.setCell ⟨o,0,none⟩ (.bool false)).frozen? ⟨k+1+1,1,none⟩=false:=by rw [aC];exact f1
     obtain ⟨b0,b1⟩:=ap s0 s1 (.bool false) (.slice p 0 cap)
     clear hz hl r0 r1
     go_wp2
     refine bodyPost_ret (v := .agg #[.bool false,.slice p 0 cap]) (by simp [results,Tryz.results105,go_sem,b0,b1]) rfl ?_
     obtain ⟨hn,hf,hb,hoo⟩:=HX.out
     rw [HZ2.out] at hn
     refine ⟨false,0,_,rfl,hn.any0,?_,hf.mono (by rw [HK.out];omega),?_⟩
     ·have h1:=HZ.out
      rw [HZ2.out,aU] at h1
      exact ⟨by rw [aU];exact h1.1,by omega⟩
     ·rw [HK.out]
      exact ((hb.setCell (p:=⟨o,0,none⟩) (by show k≤o;omega) _).setCell (p:=⟨k+1+1,0,none⟩) (by show k≤k+1+1;omega) _).setCell (p:=⟨k+1+1,1,none⟩) (by show k≤k+1+1;omega) _
    ·have hl:(((dg (b - a)).length:Int)==0)=false:=by rw [beq_eq_false_iff_ne];have:=a6 hz;omega
     obtain ⟨b0,b1⟩:=ap r0 r1 (.bool nb) (.slice p (dg (b - a)).length cap)
     clear hz
     go_wp2
     refine bodyPost_ret (v := .agg #[.bool nb,.slice p (dg (b - a)).length cap]) (by simp [results,Tryz.results105,go_sem,b0,b1]) rfl ?_
     obtain ⟨hn,hf,hb,hoo⟩:=HX.out
     refine ⟨_,_,_,rfl,(hn.setCell hf (by show k+1+1<k+3;omega) _).setCell hf (by show k+1+1<k+3;omega) _,HZ.out,hf.mono (by rw [HK.out];omega),?_⟩
     rw [HK.out]
     exact (hb.setCell (p:=⟨k+1+1,0,none⟩) (by show k≤k+1+1;omega) _).setCell (p:=⟨k+1+1,1,none⟩) (by show k≤k+1+1;omega) _
   ·have HOB:=Ha (OB.set (ng:=nb) HB1.out z0 z1 y0 hs0 HV.out.1 (HV.out.2.1.mono (by simp)))
    clear e1 e2 e3 e4 e5 e6 e7 e8 hsz HB1 HV c1 c2 c3 c4 HBX HBD HBA CP z0 z1 y0 y1
    rename_i hHeld
    clear hHeld
    generalize hsz0:W0.heap.size=o at *
    generalize (w1.setCell ⟨o,0,none⟩ (.bool nb)).setCell ⟨o,1,none⟩ (.slice p (dg (b - a)).length cap)=W2 at *
    obtain ⟨p0,p1,g0,⟨u0,r0⟩,⟨u1,r1⟩,f0,f1,ho,hnat,hfr,hbel⟩:=HOB.out
    have hok:k+1+1≠o:=by omega
    have HX:=Ha (Hb hnat (Hb hfr (Hb hbel ho)))
    clear hnat hfr hbel HOB
    by_cases hz:b - a=0
    ·have hl:(dg (b - a)).length=0:=by rw [hz,av];rfl
     rw [hl] at p1 HX ⊢
     have HZ2:=Ha hz
     have q0:(W2.setCell ⟨o,0,none⟩ (.bool false)).cell? ⟨o,0,none⟩=some (.bool false):=World.cell?_setCell_same' _ _ _ (by rw [p0];rfl)
     have q1:(W2.setCell ⟨o,0,none⟩ (.bool false)).cell? ⟨o,1,none⟩=some (.slice p 0 cap):=by go_cell
     have s0:(W2.setCell ⟨o,0,none⟩ (.bool false)).cell? ⟨k+1+1,0,none⟩=some u0:=(World.cell?_of_block (Below.heap_setCell _ _ _ _ (by show k+1+1≠o;exact hok))).trans r0
     have s1:(W2.setCell ⟨o,0,none⟩ (.bool false)).cell? ⟨k+1+1,1,none⟩=some u1:=(World.cell?_of_block (Below.heap_setCell _ _ _ _ (by show k+1+1≠o;exact hok))).trans r1
     have f2:(W2.setCell ⟨o,0,none⟩ (.bool false)).frozen? ⟨k+1+1,0,none⟩=false:=by rw [aC];exact f0
     have f3:(W2.setCell ⟨o,0,none⟩ (.bool false)).frozen? ⟨k+1+1,1,none⟩=false:=by rw [aC];exact f1
     obtain ⟨b0,b1⟩:=ap s0 s1 (.bool false) (.slice p 0 cap)
     clear hz hl r0 r1
     go_wp2
     refine bodyPost_ret (v := .agg #[.bool false,.slice p 0 cap]) (by simp [results,Tryz.results105,go_sem,b0,b1]) rfl ?_
     obtain ⟨hn,hf,hb,hoo⟩:=HX.out
     rw [HZ2.out] at hn
     refine ⟨false,0,_,rfl,hn.any0,?_,hf.mono (by rw [HK.out];omega),?_⟩
     ·have h1:=HZ.out
      rw [HZ2.out,aU] at h1
      exact ⟨by rw [aU];exact h1.1,by omega⟩
     ·rw [HK.out]
      exact ((hb.setCell (p:=⟨o,0,none⟩) (by show k≤o;omega) _).setCell (p:=⟨k+1+1,0,none⟩) (by show k≤k+1+1;omega) _).setCell (p:=⟨k+1+1,1,none⟩) (by show k≤k+1+1;omega) _
    ·have hl:(((dg (b - a)).length:Int)==0)=false:=by rw [beq_eq_false_iff_ne];have:=a6 hz;omega
     obtain ⟨b0,b1⟩:=ap r0 r1 (.bool nb) (.slice p (dg (b - a)).length cap)
     clear hz
     go_wp2
     refine bodyPost_ret (v := .agg #[.bool nb,.slice p (dg (b - a)).length cap]) (by simp [results,Tryz.results105,go_sem,b0,b1]) rfl ?_
     obtain ⟨hn,hf,hb,hoo⟩:=HX.out
     refine ⟨_,_,_,rfl,(hn.setCell hf (by show k+1+1<k+3;omega) _).setCell hf (by show k+1+1<k+3;omega) _,HZ.out,hf.mono (by rw [HK.out];omega),?_⟩
     rw [HK.out]
     exact (hb.setCell (p:=⟨k+1+1,0,none⟩) (by show k≤k+1+1;omega) _).setCell (p:=⟨k+1+1,1,none⟩) (by show k≤k+1+1;omega) _
end R
end Go.Proofs.YtocalfjfjjljnaaGreatDoor
