/- Parts of the proof of the text YtocalfjfjjljnaaGreatDoorZO44. -/
import Derived.Lib.RabinKarpLaws
import Derived.Test.YtocalfjfjjljnaaGreatDoorZO1
import Derived.Test.YtocalfjfjjljnaaGreatDoorZO5
import Derived.Test.YtocalfjfjjljnaaGreatDoorZO6
import Derived.Test.YtocalfjfjjljnaaGreatDoorZO7
import Derived.Test.YtocalfjfjjljnaaGreatDoorZO9
set_option linter.all false
set_option maxRecDepth 100000
set_option maxHeartbeats 8000000
namespace Go.Proofs.YtocalfjfjjljnaaGreatDoor
open Go.RowKit
theorem kV (A P R:List Nat) (x:Nat):(A++(P++(x::R))).getD (A.length+P.length) 0=x:=by
 rw [List.getD_eq_getElem?_getD,List.getElem?_append_right (by omega),List.getElem?_append_right (by omega)]
 simp
theorem iG (A P R:List Nat) (x y:Nat):(A++(P++(x::R))).set (A.length+P.length) y=A++(P++(y::R)):=by
 rw [List.set_append_right _ _ (by omega),List.set_append_right _ _ (by omega)]
 simp
theorem pS (A P R:List Nat) (x:Nat):A.length+P.length<(A++(P++(x::R))).length:=by simp
theorem nH (A P R:List Nat) (x:Nat):A++(P++(x::R))=A++((P ++ [x])++R):=by simp
theorem pT (g n c t top:Nat) (vb:Value) (A X Z lb:List Nat) (w:World) (hr:RowC w g (A++(X++(top::Z)))) (hb:Nats w vb lb) (dx:Dig X) (db:Dig lb) (htop:top<1000000000)
  (hX:X.length=n) (hlb:lb.length=n) (hn:n≤1000000) (_hA:A.length≤1000000) (hc:n+1≤c) (hc':c≤9223372036854775807) (ht:t<1000000000) (hne:vb.ownBlock≠some g)
  (hle:t*toN lb≤toN X+B ^ n*top+toN lb) :
  Calls Tryz.prog 216 #[.slice (some ⟨g,A.length,none⟩) (n+1) c,vb,.int .u64 t] w fun e W'=>∃ X' cy,Dig X'∧X'.length=n∧toN X'+t*toN lb=toN X+B ^ n*cy∧cy≤top+1∧e = .returned (.bool (decide (top<cy))) ∧
   RowC W' g (A++(X'++((if top<cy then 18446744073709551615 else top - cy)::Z)))∧Only g w W':=by
 obtain ⟨pb,cb,rfl,hb1,hb2,hb3⟩:=hb
 have HB:=Ha hb3;clear hb3
 have HD:=Ha (Hb dx db);clear dx db
 have HL:=Ha (Hb hX hlb)
 have HLE:=Ha hle;clear hle
 have HNE:=Ha hne;clear hne
 rw [hlb] at hb1 ⊢
 clear hX hlb
 go_enter Tryz.func216,Tryz.ntmps216
 go_wp2
 go_loopw [7,14] (fun y z wr=>∃ (cy j:Nat) (P:List Nat),j≤n∧y = .int .u64 cy∧z = .int .i64 j∧cy<1000000000∧P.length=j∧Hid (Dig P)∧Hid (RowC wr g (A++(P++(X.drop j++(top::Z))))) ∧
   Hid (toN P+t*toN (lb.take j)=toN (X.take j)+B ^ j*cy)∧Hid (Only g w wr))
  (fun _ z _=>n - (intOf z).toNat)
 case atStart=>exact ⟨0,0,[],Nat.zero_le _,rfl,rfl,by omega,rfl,Dig.nil,by show RowC _ _ _;simpa using hr,by show toN []+_=_;simp [toN],Only.refl _ _⟩
 case round =>
  clear hr
  obtain ⟨cy,j,P,hj,rfl,rfl,hcy,hPl,hP,hrow,hval,hon⟩:=hrel
  by_cases hjl:j<n
  ·obtain ⟨bb,boff,rfl,hcb⟩:=HB.out (by intro e;have:=HL.out.2;subst e;simp at this;omega)
   have hy:=HD.out.2.getD j
   have cb0:=hcb j (by rw [HL.out.2];exact hjl)
   have cbx:wr.cell? ⟨bb,boff+j,none⟩=some (.int .u64 (lb.getD j 0:Nat)):=hon.out.cell (p:=⟨bb,boff+j,none⟩) (by intro h;exact HNE.out (by have h:bb=g:=h;rw [h];rfl)) cb0
   have hx:=HD.out.1.getD j
   have eD:X.drop j=X.getD j 0::X.drop (j+1):=fl (by rw [HL.out.1];exact hjl)
   have R0:=hrow.out
   rw [eD,List.cons_append] at R0
   have hst:=zO (p:=toN P) (Yp:=toN (lb.take j)) (Xp:=toN (X.take j)) (P:=B ^ j) hx hy ht hcy hval.out
   have eX:=aw X j (by rw [HL.out.1];exact hjl)
   have eY:=aw lb j (by rw [HL.out.2];exact hjl)
   rw [←eX,←eY] at hst
   have HS:=Ha hst
   clear hst cb0 hcb eD hrow hval eX eY
   have hty:=fM ht hy
   generalize X.getD j 0=x at *
   generalize lb.getD j 0=y at *
   have co:=R0.cell (pS A P (X.drop (j+1)++(top::Z)) x)
   rw [kV] at co
   have fo:=R0.frozen (A.length+P.length)
   rw [hPl] at co fo
   have hP0:0≤(t:Int)*(y:Int):=by rw [←Int.natCast_mul];omega
   have hP1:(t:Int)*(y:Int)≤999999998000000001:=by rw [←Int.natCast_mul];omega
   obtain ⟨u,hu⟩:∃ u,t*y+cy=u:=⟨_,rfl⟩
   have hT:(t:Int)*(y:Int)+(cy:Int)=(u:Int):=by rw [←hu,Int.natCast_add,Int.natCast_mul]
   have hub:(u:Int)≤999999999000000000:=by omega
   rw [hu] at HS
   have HR:=Ha R0
   clear R0 hu hty
   by_cases hlt:x<u % 1000000000
   ·have hlt2:(x:Int)<(u:Int) % 1000000000:=by omega
    go_wp2
    go_roundw
    case rel =>
     obtain ⟨s1,s2,s3⟩:=HS.out.1 hlt
     refine ⟨u / 1000000000+1,j+1,P ++ [x+1000000000 - u % 1000000000],by omega,by go_num,by go_num,s1,by simp [hPl],hP.out.append (Dig.one s2),?_,?_,(hon.out.setCell _ _).setCell _ _⟩
     ·have r1:=HR.out.set (A.length+P.length) (x+1000000000)
      rw [iG] at r1
      have r2:=r1.set (A.length+P.length) (x+1000000000 - u % 1000000000)
      rw [iG,nH,hPl] at r2
      have e1:((x+1000000000:Nat):Int)=(x:Int)+1000000000:=by omega
      have e2:((x+1000000000 - u % 1000000000:Nat):Int)=(x:Int)+1000000000 - (u:Int) % 1000000000:=by omega
      rw [e1,e2] at r2
      exact r2
     ·show toN _+_=_
      rw [aS,hPl,Nat.pow_succ];exact s3
    case measure=>simp [intOf];omega
   ·have hlt2:¬ (x:Int)<(u:Int) % 1000000000:=by omega
    go_wp2
    go_roundw
    case rel =>
     obtain ⟨s1,s2,s3⟩:=HS.out.2 (by omega)
     refine ⟨u / 1000000000,j+1,P ++ [x - u % 1000000000],by omega,by go_num,by go_num,s1,by simp [hPl],hP.out.append (Dig.one s2),?_,?_,hon.out.setCell _ _⟩
     ·have r2:=HR.out.set (A.length+P.length) (x - u % 1000000000)
      rw [iG,nH,hPl] at r2
      have e2:((x - u % 1000000000:Nat):Int)=(x:Int) - (u:Int) % 1000000000:=by omega
      rw [e2] at r2
      exact r2
     ·show toN _+_=_
      rw [aS,hPl,Nat.pow_succ];exact s3
    case measure=>simp [intOf];omega
  ·have ej:j=n:=by omega
   subst ej
   have eX:X.take j=X:=List.take_of_length_le (by rw [HL.out.1];exact Nat.le_refl _)
   have eY:lb.take j=lb:=List.take_of_length_le (by rw [HL.out.2];exact Nat.le_refl _)
   have eD:X.drop j = []:=List.drop_of_length_le (by rw [HL.out.1];exact Nat.le_refl _)
   have hv:=hval.out
   have R0:=hrow.out
   rw [eX,eY] at hv
   rw [eD,List.nil_append] at R0
   have hlb':=cK HD.out.2
   rw [HL.out.2] at hlb'
   have hP':=cK hP.out
   rw [hPl] at hP'
   have hcy1:=xk hv hP' hlb' HLE.out
   have co:=R0.cell (pS A P Z top)
   rw [kV] at co
   have fo:=R0.frozen (A.length+P.length)
   rw [hPl] at co fo
   have HV:=Ha (Hb hv hP.out)
   have HR:=Ha R0
   have HO:=Ha hon.out
   clear hv R0 eX eY eD hlb' hP' hval hrow hP hon
   by_cases hlt:top<cy
   ·have hw1:(top:Int) - (cy:Int) = -1:=by omega
    have hw2:(top:Int)<(cy:Int):=by omega
    have hw3:IntKind.u64.wrap (-1)=18446744073709551615:=rfl
    clear hcy1
    go_wp2
    go_ret
    refine ⟨P,cy,HV.out.2,hPl,HV.out.1,by omega,?_,?_,?_⟩
    ·simp [hlt]
    ·rw [if_pos hlt]
     have r2:=HR.out.set (A.length+P.length) 18446744073709551615
     rw [iG,hPl] at r2
     exact r2
    ·exact HO.out.setCell _ _
   ·have hw2:¬ (top:Int)<(cy:Int):=by omega
    go_wp2
    go_ret
    refine ⟨P,HV.out.2,hPl,cy,HV.out.1,by omega,?_,?_,?_⟩
    ·simp [hlt]
    ·rw [if_neg hlt]
     have r2:=HR.out.set (A.length+P.length) (top - cy)
     rw [iG,hPl] at r2
     have e2:((top - cy:Nat):Int)=(top:Int) - (cy:Int):=by omega
     rw [e2] at r2
     exact r2
    ·exact HO.out.setCell _ _
theorem xD {p x y c P Yp Xp:Nat} (hx:x<1000000000) (hy:y<1000000000) (hc:c≤1) (h:p+P*c=Xp+Yp) :
  (fj x y c).1<1000000000∧(fj x y c).2≤1∧p+P*(fj x y c).1+P*B*(fj x y c).2=Xp+P*x+(Yp+P*y):=by
 have e0:P*(x+y+c)=P*x+P*y+P*c:=by rw [Nat.mul_add,Nat.mul_add]
 unfold fj
 by_cases h1:1000000000≤x+y+c
 ·rw [if_pos h1]
  refine ⟨by show x+y+c - 1000000000<_;omega,Nat.le_refl _,?_⟩
  show p+P*(x+y+c - 1000000000)+P*B*1=_
  obtain ⟨d,hd⟩:∃ d,x+y+c=d+B:=⟨x+y+c - B,by rw [dS];omega⟩
  rw [hd] at e0
  have e1:x+y+c - 1000000000=d:=by rw [hd,dS];exact Nat.add_sub_cancel _ _
  rw [e1]
  rw [Nat.mul_add P d B] at e0
  omega
 ·rw [if_neg h1]
  refine ⟨by show x+y+c<_;omega,by show 0≤1;omega,?_⟩
  show p+P*(x+y+c)+P*B*0=_
  omega
theorem rh (g n c:Nat) (vb:Value) (A X Z lb:List Nat) (w:World) (hr:RowC w g (A++(X++(18446744073709551615::Z)))) (hb:Nats w vb lb) (dx:Dig X) (db:Dig lb)
  (hX:X.length=n) (hlb:lb.length=n) (hn:n≤1000000) (_hA:A.length≤1000000) (hc:n+1≤c) (hc':c≤9223372036854775807) (hne:vb.ownBlock≠some g)
  (hle:B ^ n≤toN X+toN lb) :
  Calls Tryz.prog 217 #[.slice (some ⟨g,A.length,none⟩) (n+1) c,vb] w fun e W'=>∃ X',Dig X'∧X'.length=n∧toN X'+B ^ n=toN X+toN lb∧e = .returned (.tuple #[]) ∧
   RowC W' g (A++(X'++(0::Z)))∧Only g w W':=by
 obtain ⟨pb,cb,rfl,hb1,hb2,hb3⟩:=hb
 have HB:=Ha hb3;clear hb3
 have HD:=Ha (Hb dx db);clear dx db
 have HL:=Ha (Hb hX hlb)
 have HLE:=Ha hle;clear hle
 have HNE:=Ha hne;clear hne
 rw [hlb] at hb1 ⊢
 clear hX hlb
 go_enter Tryz.func217,Tryz.ntmps217
 go_wp2
 go_loopw [4,9] (fun y z wr=>∃ (cy j:Nat) (P:List Nat),j≤n∧y = .int .u64 cy∧z = .int .i64 j∧cy≤1∧P.length=j∧Hid (Dig P)∧Hid (RowC wr g (A++(P++(X.drop j++(18446744073709551615::Z))))) ∧
   Hid (toN P+B ^ j*cy=toN (X.take j)+toN (lb.take j))∧Hid (Only g w wr))
  (fun _ z _=>n - (intOf z).toNat)
 case atStart=>exact ⟨0,0,[],Nat.zero_le _,rfl,rfl,by omega,rfl,Dig.nil,by show RowC _ _ _;simpa using hr,by show toN []+_=_;simp [toN],Only.refl _ _⟩
 case round =>
  clear hr
  obtain ⟨cy,j,P,hj,rfl,rfl,hcy,hPl,hP,hrow,hval,hon⟩:=hrel
  by_cases hjl:j<n
  ·obtain ⟨bb,boff,rfl,hcb⟩:=HB.out (by intro e;have:=HL.out.2;subst e;simp at this;omega)
   have hy:=HD.out.2.getD j
   have cb0:=hcb j (by rw [HL.out.2];exact hjl)
   have cbx:wr.cell? ⟨bb,boff+j,none⟩=some (.int .u64 (lb.getD j 0:Nat)):=hon.out.cell (p:=⟨bb,boff+j,none⟩) (by intro h;exact HNE.out (by have h:bb=g:=h;rw [h];rfl)) cb0
   have hx:=HD.out.1.getD j
   have eD:X.drop j=X.getD j 0::X.drop (j+1):=fl (by rw [HL.out.1];exact hjl)
   have R0:=hrow.out
   rw [eD,List.cons_append] at R0
   have hst:=xD (p:=toN P) (Yp:=toN (lb.take j)) (Xp:=toN (X.take j)) (P:=B ^ j) hx hy hcy hval.out
   have eX:=aw X j (by rw [HL.out.1];exact hjl)
   have eY:=aw lb j (by rw [HL.out.2];exact hjl)
   rw [←eX,←eY] at hst
   clear cb0 hcb eD hrow hval eX eY
   generalize X.getD j 0=x at *
   generalize lb.getD j 0=y at *
   have ca:=ke x y cy wr hx hy hcy
   obtain ⟨d,hd⟩:∃ d,fj x y cy=d:=⟨_,rfl⟩
   rw [hd] at ca hst
   obtain ⟨d1,d2⟩:=d
   dsimp only at ca hst
   have CA:=Ha ca
   have HS:=Ha hst
   have co:=R0.cell (pS A P (X.drop (j+1)++(18446744073709551615::Z)) x)
   rw [kV] at co
   have fo:=R0.frozen (A.length+P.length)
   rw [hPl] at co fo
   have HR:=Ha R0
   clear R0 hst ca hd
   go_wp2_with fail
   refine CA.out.mono ?_
   rintro e w' ⟨rfl,rfl⟩
   clear CA
   go_wp2
   go_roundw
   case rel =>
    obtain ⟨s1,s2,s3⟩:=HS.out
    refine ⟨d2,j+1,P ++ [d1],by omega,rfl,by go_num,s2,by simp [hPl],hP.out.append (Dig.one s1),?_,?_,hon.out.setCell _ _⟩
    ·have r2:=HR.out.set (A.length+P.length) d1
     rw [iG,nH,hPl] at r2
     exact r2
    ·show toN _+_=_
     rw [aS,hPl,Nat.pow_succ];exact s3
   case measure=>simp [intOf];omega
  ·have ej:j=n:=by omega
   subst ej
   have eX:X.take j=X:=List.take_of_length_le (by rw [HL.out.1];exact Nat.le_refl _)
   have eY:lb.take j=lb:=List.take_of_length_le (by rw [HL.out.2];exact Nat.le_refl _)
   have eD:X.drop j = []:=List.drop_of_length_le (by rw [HL.out.1];exact Nat.le_refl _)
   have hv:=hval.out
   have R0:=hrow.out
   rw [eX,eY] at hv
   rw [eD,List.nil_append] at R0
   have hP':=cK hP.out
   rw [hPl] at hP'
   have hcy1:cy=1:=by
    have:=HLE.out
    rcases Nat.lt_or_ge cy 1 with h | h
    ·have h0:cy=0:=by omega
     rw [h0,Nat.mul_zero] at hv;omega
    ·omega
   subst hcy1
   rw [Nat.mul_one] at hv
   have co:=R0.cell (pS A P Z 18446744073709551615)
   rw [kV] at co
   have fo:=R0.frozen (A.length+P.length)
   rw [hPl] at co fo
   have HV:=Ha (Hb hv hP.out)
   have HR:=Ha R0
   have HO:=Ha hon.out
   have hw3:IntKind.u64.wrap 18446744073709551616=0:=rfl
   clear hv R0 eX eY eD hP' hval hrow hP hon
   go_wp2
   go_end0
   refine ⟨P,HV.out.2,hPl,HV.out.1,rfl,?_,HO.out.setCell _ _⟩
   have r2:=HR.out.set (A.length+P.length) 0
   rw [iG,hPl] at r2
   exact r2
theorem Only.drewN (g:Nat) (w:World) (k:Nat):Only g w (w.drewN k):=⟨rfl,rfl,rfl,Nat.le_refl _,fun _ _ _=>rfl⟩
theorem RowC.window {w:World} {g c:Nat} {A X Z:List Nat} {top:Nat} (h:RowC w g (A++(X++(top::Z)))) (hc:X.length+1≤c) (hc':c≤9223372036854775807) :
  Nats w (.slice (some ⟨g,A.length,none⟩) (X.length+1) c) (X ++ [top]):=by
 refine ⟨_,c,by simp,by simpa using hc,hc',fun _=>⟨g,A.length,rfl,fun i hi => ?_⟩⟩
 have hi':i<X.length+1:=by simpa using hi
 have h1:=h.cell (i:=A.length+i) (by simp;omega)
 rw [h1]
 congr 3
 rw [List.getD_eq_getElem?_getD,List.getD_eq_getElem?_getD,List.getElem?_append_right (by omega),show A.length+i - A.length=i by omega,
  show X++top::Z=(X ++ [top])++Z by simp,List.getElem?_append_left hi]
theorem mF (g n c top:Nat) (vb:Value) (A X Z lb:List Nat) (w:World) (hr:RowC w g (A++(X++(top::Z)))) (hb:Nats w vb lb) (dx:Dig X) (db:Dig lb) (htop:top<1000000000)
  (hX:X.length=n+2) (hlb:lb.length=n+2) (hn:n+2≤1000000) (hA:A.length≤1000000) (hc:n+3≤c) (hc':c≤9223372036854775807) (hne:vb.ownBlock≠some g)
  (h0:0<lb.getD (n+1) 0) (hlt:toN X+B ^ (n+2)*top<B*toN lb) :
  Calls Tryz.prog 202 #[.slice (some ⟨g,A.length,none⟩) (n+3) c,vb] w fun e W'=>∃ X',Dig X'∧X'.length=n+2∧toN X'=(toN X+B ^ (n+2)*top) % toN lb∧e = .returned (.int .u64 ((toN X+B ^ (n+2)*top) / toN lb:Nat)) ∧
   RowC W' g (A++(X'++(0::Z)))∧Only g w W':=by
 have hw:=hr.window (c:=c) (by omega) hc'
 rw [hX] at hw
 have hsn:toN (X ++ [top])=toN X+B ^ (n+2)*top:=by rw [aS,hX]
 have hY:toN lb<B ^ (n+2):=by have:=cK db;rwa [hlb] at this
 have ce:=qX _ vb (X ++ [top]) lb n w hw hb (dx.append (Dig.one htop)) db (by simp [hX]) hlb (by omega) h0 (by rw [hsn];exact hlt)
 rw [hsn] at ce
 have cs:=fun t k ht hle=>pT g (n+2) c t top vb A X Z lb (w.drewN k) (hr.of_block rfl) ((Only.drewN g w k).nats hne hb) dx db htop hX hlb hn hA hc hc' ht hne hle
 have cr:=fun X' W (hr:RowC W g (A++(X'++(18446744073709551615::Z)))) (ho:Only g w W) d hX hle=>rh g (n+2) c vb A X' Z lb W hr (ho.nats hne hb) d db hX hlb hn hA hc hc' hne hle
 have hup:=fun x' t c h h2 h3 => @BF x' (toN X) (toN lb) t (B ^ (n+2)) c top h hY h2 h3
 have hbk:=fun x' t h h1 h2 h3 => @xm x' (toN X) (toN lb) t (B ^ (n+2)) top h h1 h2 h3
 have hlen:∀ X':List Nat,Dig X'→X'.length=n+2→toN X'<B ^ (n+2):=fun X' d h=>by have:=cK d;rwa [h] at this
 have CE:=Ha ce
 have CS:=Ha cs
 have CR:=Ha cr
 have HUP:=Ha (Hb hup (Hb hbk hlen))
 clear ce cs cr hup hbk hlen hsn hw hr dx db hX hlb hc h0 hlt hne hn hA
 obtain ⟨pb,cb,rfl,hb1,hb2,hb3⟩:=hb
 clear hb1 hb2 hb3
 generalize hlbl:lb.length=lbl at *
 clear hlbl
 go_enter Tryz.func202,Tryz.ntmps202
 go_wp2_with fail
 refine CE.out.mono ?_
 rintro e w' ⟨t,rfl,ht,hW,hle,k,rfl⟩
 have H1:=Ha (Hb ht (Hb hW hle))
 clear CE hW hle
 go_wp2_with fail
 refine (CS.out t k ht H1.out.2.2).mono ?_
 rintro e w2 ⟨X',cy,d',l',hv,hcy,rfl,hr',ho⟩
 have ho2:Only g w w2:=(Only.drewN g w k).trans ho
 clear ho CS
 by_cases hlt:top<cy
 ·have hd:decide (top<cy)=true:=decide_eq_true hlt
  rw [if_pos hlt] at hr'
  have ecy:cy=top+1:=by omega
  subst ecy
  have ht0:0<t:=by
   rcases Nat.eq_zero_or_pos t with h | h
   ·exfalso
    have h3:=HUP.out.2.2 X' d' l'
    rw [h,Nat.zero_mul,Nat.mul_add,Nat.mul_one] at hv
    omega
   ·exact h
  obtain ⟨k1,k2,k3⟩:=HUP.out.2.1 (toN X') t hv (HUP.out.2.2 X' d' l') H1.out.2.2 ht0
  have CR2:=Ha (CR.out X' w2 hr' ho2 d' l' k1)
  have HK:=Ha (Hb k2 (Hb k3 k1))
  have HO:=Ha ho2
  clear k1 k2 k3 hv hr' ho2 hcy hlt CR d' l' H1
  go_wp2_with fail
  refine CR2.out.mono ?_
  rintro e w3 ⟨X'',d'',l'',hv'',rfl,hr'',ho''⟩
  have HO2:=Ha (HO.out.trans ho'')
  have H2:=Ha (Hb d'' (Hb l'' (Hb hv'' hr'')))
  clear CR2 d'' l'' hv'' hr'' ho''
  have ht2:(0:Int)≤(t:Int) - 1:=by omega
  go_wp2
  go_ret
  obtain ⟨k2,k3,k1⟩:=HK.out
  obtain ⟨d'',l'',hv'',hr''⟩:=H2.out
  refine ⟨X'',d'',l'',by omega,?_,hr'',HO2.out⟩
  exact ah (by omega)
 ·have hd:decide (top<cy)=false:=decide_eq_false hlt
  rw [if_neg hlt] at hr'
  obtain ⟨k1,k2,k3⟩:=HUP.out.1 (toN X') t cy hv H1.out.2.1 (by omega)
  have HK:=Ha (Hb k1 (Hb k2 k3))
  have H2:=Ha (Hb d' (Hb l' (Hb hr' ho2)))
  clear k1 k2 k3 hv hr' ho2 hcy hlt CR d' l' H1 HUP
  go_wp2
  go_ret
  obtain ⟨k1,k2,k3⟩:=HK.out
  obtain ⟨d'',l'',hr'',ho''⟩:=H2.out
  refine ⟨X',d'',l'',k3,by rw [k2];rfl,?_,ho''⟩
  rwa [k1,Nat.sub_self] at hr''
theorem Nats.setCell_off {w:World} {v:Value} {l:List Nat} {g o:Nat} (h:Nats w v l) (hf:v.ownBlock≠some g) (u:Value):Nats (w.setCell ⟨g,o,none⟩ u) v l:=by
 obtain ⟨p,cap,rfl,h1,h2,h3⟩:=h
 refine ⟨p,cap,rfl,h1,h2,fun hne => ?_⟩
 obtain ⟨b,off,e,hc⟩:=h3 hne
 exact ⟨b,off,e,fun i hi=>(World.cell?_of_block (Below.heap_setCell _ _ _ _ (by show b≠g;intro hb;exact hf (by rw [e,hb];rfl)))).trans (hc i hi)⟩
theorem nI (va vb:Value) (a b n m:Nat) (w:World) (ha:IsNat w va a) (hb:IsNat w vb b) (hla:(dg a).length=m+(n+2)) (hlb:(dg b).length=n+2) (hm:m+(n+2)≤900000) :
  Calls Tryz.prog 176 #[va,vb] w fun e W'=>∃ q r,e = .returned (.tuple #[q,r])∧IsNat W' q (a / b)∧IsNat W' r (a % b)∧Fresh w.heap.size q∧Fresh w.heap.size r∧Below w.heap.size w W':=by
 obtain ⟨i0,hi,hz0,hz1,hz2⟩:=info_parts dL
 have HI:=Ha (Hb hi (Hb hz0 (Hb hz1 hz2)));clear hi hz0 hz1 hz2
 have hv0:=lP hlb
 have hv:=(aq b).getD (n+1)
 have hsl:=oU hlb
 have hs0:=mC hv
 have hs1:=sZ hv0
 obtain ⟨pb,cb,evb⟩:=hb.shape
 subst evb
 obtain ⟨pa,ca,eva⟩:=ha.shape
 subst eva
 have cbx:∃ bb boff,pb=some ⟨bb,boff,none⟩∧w.cell? ⟨bb,boff+(n+1),none⟩=some (.int .u64 ((dg b).getD (n+1) 0:Nat)):=by
  obtain ⟨p',cap',he,h1,h2,h3⟩:=hb
  obtain ⟨bb,boff,e,hc⟩:=h3 (by intro e;rw [e] at hlb;simp at hlb)
  simp only [Value.slice.injEq] at he
  exact ⟨bb,boff,he.1.trans e,hc (n+1) (by omega)⟩
 obtain ⟨bb,boff,rfl,cbx⟩:=cbx
 obtain ⟨s,hs⟩:∃ s,1000000000 / ((dg b).getD (n+1) 0+1)=s:=⟨_,rfl⟩
 rw [hs] at hsl hs0 hs1
 have cm1:=fun W (h:Below w.heap.size w W)=>fT _ (dg a) s W (Nats.next ha h) (aq a) (by omega) hs1
 have cm2:=fun W (h:Below w.heap.size w W)=>fT _ (dg b) s W (Nats.next hb h) (aq b) (by omega) hs1
 rw [ar] at cm1 cm2
 have CM:=Ha (Hb cm1 cm2)
 have HS:=Ha (Hb hsl (Hb hs0 (Hb hs1 (Hb hla hlb))))
 generalize (dg b).getD (n+1) 0=v at *
 have eS:(1000000000:Int) / ((v:Int)+1)=(s:Int):=by rw [←hs];exact (Int.natCast_ediv _ _).symm
 have hv1:¬ (v:Int)+1=0:=by omega
 have hv2:(((v:Int)+1)==0)=false:=by rw [beq_eq_false_iff_ne];omega
 have hcb:n+2≤cb:=by obtain ⟨p',cap',he,h1,h2,h3⟩:=hb;simp only [Value.slice.injEq] at he;omega
 clear hs hsl cm1 cm2
 rw [hla,hlb] at CM ⊢
 obtain ⟨L,hL⟩:∃ L,n+2=L:=⟨_,rfl⟩
 obtain ⟨i1,hi1⟩:∃ i,n+1=i:=⟨_,rfl⟩
 rw [hL] at CM hcb ⊢
 rw [hi1] at cbx
 have hj1:(L:Int) - 1=(i1:Int):=by omega
 have x1:(i1:Int)<(L:Int):=by omega
 have HL:=Ha (Hb hL hi1)
 have hLm:m+L≤900000:=by omega
 clear hL hi1 hm ha hb hla hlb
 go_enter Tryz.func176,Tryz.ntmps176
 go_wp2_with fail
 rw [eS]
 clear eS hv1 hv2 cbx
 refine (CM.out.1 _ (Below.refl _ _)).mono ?_
 rintro e w1 ⟨g1,c1,l1,rfl,hc1,hc1',hg1,hr1,hd1,hl1,ht1,hB1⟩
 have hwg1:=hr1.lt
 have CM2:=Ha (CM.out.2 w1 hB1)
 have HR1:=Ha (Hb hr1 (Hb hd1 (Hb ht1 hB1)))
 have HL1:=Ha hl1
 rw [hl1] at hc1 ⊢
 clear CM hr1 hd1 ht1 hB1
 go_wp2_with fail
 refine CM2.out.mono ?_
 rintro e w2 ⟨g2,c2,l2,rfl,hc2,hc2',hg2,hr2,hd2,hl2,ht2,hB2⟩
 have hg12:g1<g2:=by omega
 have hN2:=hr2.nats hc2 (by unfold maxLen at hc2';omega)
 have ct:=bJ _ _ l2 w2 hN2 hd2
 have hN2':=hN2.take (aL hd2)
 rw [ht2] at ct hN2'
 rw [HS.out.1] at ct hN2'
 rw [show n+1+1=L from HL.out.1] at ct hN2'
 have CT:=Ha ct
 have hw2:=hr2.lt
 have HR2:=Ha (Hb (HR1.out.1.next hB2 hwg1) (Hb hN2' (HR1.out.2.2.2.trans (hB2.mono HR1.out.2.2.2.size))))
 have hsz1:w.heap.size≤w2.heap.size:=HR2.out.2.2.size
 clear CM2 hr2 hd2 ht2 hB2 hN2 hN2' ct
 rw [hl2] at hc2 CT ⊢
 clear hl2 hl1
 go_wp2_with fail
 refine CT.out.mono ?_
 rintro e w' ⟨rfl,rfl⟩
 clear CT
 have hm1:(m:Int)+(L:Int) - (L:Int)+1=((m+1:Nat):Int):=by omega
 go_wp2_with (at_make;refine wpList_make_full _ rfl _ _ 115 rfl w2.heap.size 156 i0 (.int .u64 0) 1 Tryz.underlying115 HI.out.1 HI.out.2.1 HI.out.2.2.1 .i64 .i64 _ _ (m+1) rfl rfl (by omega) (by omega) (by rw [HI.out.2.2.2];omega) (by unfold maxLen;omega) (Nat.le_refl _) ?_;intro w3 hown hgrow)
 have hQ:=Row.of_made hown
 have hwg3:=hQ.lt
 have hB3:Below w2.heap.size w2 w3:=(Below.refl _ w2).grown hgrow (Nat.le_refl _) (fun k e=>by cases e)
 have hr3:=HR2.out.1.next hB3 (by omega)
 have hn3:=Nats.next HR2.out.2.1 hB3
 have hbw:=HR2.out.2.2.trans (hB3.mono hsz1)
 have hwg2:=hB3.size
 clear hown hgrow hB3 HR2
 generalize hg3:w2.heap.size=g3 at *
 have hs0':=HS.out.2.1
 have hdb:=aq (b*s)
 have hYl:=HS.out.1
 have hYtop:0<(dg (b*s)).getD (n+1) 0:=lP hYl
 have hst:toN (l1.drop (m+1))<b*s:=oV (a:=a) (b:=b) (s:=s) (m:=m) (n:=n+1) (la:=m+L) (by
   have:=cK (aq a);rw [ar,HS.out.2.2.2.1,HL.out.1] at this;exact this)
  (by
   have hb0:b≠0:=fun e=>by have h:=HS.out.2.2.2.2;rw [e,av] at h;simp at h
   obtain ⟨r,q1,q2,q3⟩:=gv b hb0
   rw [HS.out.2.2.2.2,show n+2 - 1=n+1 by omega] at q1 q2 q3
   have:=Nat.mul_le_mul_left (B ^ (n+1)) q2
   omega) hs0' HR1.out.2.2.1 HL1.out (by have:=HL.out.1;omega) (by omega)
 have hlen1:(l1.drop (m+1)).length=n+2:=by have h1:=HL1.out;have h2:=HL.out.1;rw [List.length_drop];omega
 have hat:Hid (a*s=toN (l1.take (m+1))+B ^ (m+1)*(toN (l1.drop (m+1))+b*s*toN ((List.replicate (m+1) 0).drop (m+1)))):=by
  show _=_
  rw [←HR1.out.2.2.1,show (List.replicate (m+1) 0).drop (m+1) = [] from List.drop_of_length_le (by rw [List.length_replicate];exact Nat.le_refl _)]
  rw [show toN []=0 from rfl,Nat.mul_zero (b*s),Nat.add_zero]
  have h:=cz (l1.take (m+1)) (l1.drop (m+1))
  rw [List.take_append_drop,List.length_take,Nat.min_eq_left (by have:=HL1.out;omega)] at h
  exact h
 have HST:=Ha (Hb hst (Hb hlen1 (Hb hYl hYtop)))
 clear hst hlen1 hYl hYtop
 have HD1:=Ha (Hb hr3 (Hb hn3 hbw))
 have HD2:=Ha hdb
 clear hr3 hn3 hbw hdb
 go_loopw [10] (fun x wr=>∃ (j:Nat) (A X Z Q:List Nat),j≤m+1∧x = .int .i64 ((j:Int) - 1)∧A.length=j∧X.length=n+2∧A.length+X.length+Z.length=m+L+1∧Hid (Dig A∧Dig X∧Dig Z)∧Hid (toN Z=0) ∧
   Hid (RowC wr g1 (A++(X++Z)))∧Row wr g3 Q∧Q.length=m+1∧Hid (Dig Q)∧Hid (Nats wr (.slice (some ⟨g2,0,none⟩) L c2) (dg (b*s))) ∧
   Hid (a*s=toN A+B ^ j*(toN X+b*s*toN (Q.drop j)))∧Hid (toN X<b*s)∧Hid (Below w.heap.size w wr))
  (fun x _=>(intOf x+1).toNat)
 case atStart =>
  refine ⟨m+1,l1.take (m+1),l1.drop (m+1),[],List.replicate (m+1) 0,Nat.le_refl _,by go_num,?_,HST.out.2.1,?_,⟨HR1.out.2.1.take _,HR1.out.2.1.drop _,Dig.nil⟩,rfl,?_,hQ,List.length_replicate,Dig.replicate _,HD1.out.2.1,hat.out,HST.out.1,HD1.out.2.2⟩
  ·rw [List.length_take];have:=HL1.out;omega
  ·rw [List.length_take,List.length_drop,HL1.out];simp;omega
  ·show RowC _ _ _
   rw [List.append_nil,List.take_append_drop];exact HD1.out.1
 case round =>
  clear hQ hat
  obtain ⟨j,A,X,Z,Q,hj,rfl,hAl,hXl,hAXZ,hdig,hZ0,hrow,hQ,hQl,hQd,hby,hval,hXb,hbel⟩:=hrel
  cases j with
  | zero =>
   have eA:A = []:=List.eq_nil_of_length_eq_zero hAl
   subst eA
   have hv:=hval.out
   rw [List.drop_zero,Nat.pow_zero,Nat.one_mul,show toN []=0 from rfl,Nat.zero_add] at hv
   have hq:a / b=toN Q:=by
    rw [←(dH a b s hs0).1,hv,Nat.add_mul_div_left _ _ (by have:=hXb.out;omega),Nat.div_eq_of_lt hXb.out,Nat.zero_add]
   have hr:a % b*s=toN X:=by
    rw [←(dH a b s hs0).2,hv,Nat.add_mul_mod_self_left,Nat.mod_eq_of_lt hXb.out]
   obtain ⟨_,dX,dZ⟩:=hdig.out
   have R0:=hrow.out
   rw [List.nil_append] at R0
   have hlXZ:(X++Z).length=m+L+1:=by rw [List.length_append];simp at hAXZ;omega
   have hN1:Nats wr (.slice (some ⟨g1,0,none⟩) (X++Z).length c1) (X++Z):=R0.nats (by omega) (by unfold maxLen at hc1';omega)
   have eXZ:toN (X++Z)=a % b*s:=by rw [cz,hZ0.out,Nat.mul_zero,Nat.add_zero,hr]
   have ct1:=bJ _ _ (X++Z) wr hN1 (dX.append dZ)
   have hN2:=hN1.take (aL (dX.append dZ))
   rw [eXZ] at ct1 hN2
   rw [hlXZ] at ct1
   have hl3:(dg (a % b*s)).length≤1000000:=by
    have:=(aL (dX.append dZ)).length_le
    rw [eXZ] at this;omega
   have cd:=iW _ (dg (a % b*s)) s wr hN2 (aq _) hl3 hs0 hs1
   rw [ar,Nat.mul_div_cancel _ (by omega)] at cd
   have CT1:=Ha ct1
   have CD:=Ha cd
   have HQ:=Ha (Hb hQ (Hb hq hQl))
   clear ct1 cd hv hq hr R0 hlXZ hN1 hN2 eXZ hl3 dX dZ hQ hrow hval hXb hby hdig hZ0 hAXZ
   generalize (dg (a % b*s)).length=l3 at *
   go_wp2_with fail
   refine CT1.out.mono ?_
   rintro e w' ⟨rfl,rfl⟩
   clear CT1
   go_wp2_with fail
   refine CD.out.mono ?_
   rintro e w4 ⟨r,rfl,hr,hrf,hrb⟩
   obtain ⟨pr,cr,rfl⟩:=hr.shape
   have hQ4:Row w4 g3 Q:=(hrb.block g3 HQ.out.1.lt).trans HQ.out.1
   have hN0:Nats w4 (.slice (some ⟨g3,0,none⟩) Q.length (m+1)) Q:=hQ4.nats (by omega) (by omega)
   have ct:=bJ _ _ Q w4 hN0 hQd.out
   have hn:=hN0.take (aL hQd.out)
   rw [hQl,←HQ.out.2.1] at ct
   rw [←HQ.out.2.1] at hn
   have CT:=Ha ct
   have HN:=Ha (Hb hn (Hb hr (Hb hrf (hbel.out.trans (hrb.mono hbel.out.size)))))
   have hfr:=hbel.out.size
   clear CD ct hn hr hrf hrb hQ4 hN0
   generalize (dg (a % b)).length=l4 at *
   go_wp2_with fail
   refine CT.out.mono ?_
   rintro e w' ⟨rfl,rfl⟩
   clear CT
   go_wp2
   go_ret2
   obtain ⟨n1,n2,n3,n4⟩:=HN.out
   exact ⟨_,_,rfl,n1,n2,fun k hk=>by have hk:some g3=some k:=hk;cases hk;omega,n3.mono hfr,n4⟩
  | succ j =>
   obtain ⟨A',x,rfl⟩:∃ A' x,A=A' ++ [x]:=by
    have:=bq A j (by omega)
    rw [List.take_of_length_le (by omega)] at this
    exact ⟨_,_,this⟩
   obtain ⟨X0,top,rfl⟩:∃ X0 top,X=X0 ++ [top]:=by
    have:=bq X (n+1) (by omega)
    rw [List.take_of_length_le (by omega)] at this
    exact ⟨_,_,this⟩
   have hAl':A'.length=j:=by simpa using hAl
   have hXl':X0.length=n+1:=by simpa using hXl
   obtain ⟨dA,dX,dZ⟩:=hdig.out
   have hx:x<1000000000:=dA x (by simp)
   have htop:top<1000000000:=dX top (by simp)
   have dX0:Dig (x::X0):=Dig.cons hx (fun y hy=>dX y (by simp [hy]))
   have dA':Dig A':=fun y hy=>dA y (by simp [hy])
   have R0:=hrow.out
   rw [show A' ++ [x]++(X0 ++ [top]++Z)=A'++((x::X0)++(top::Z)) by simp] at R0
   have eW:toN (x::X0)+B ^ (n+2)*top=x+B*toN (X0 ++ [top]):=by
    rw [iF,aS,hXl',Nat.mul_add,←Nat.mul_assoc,Nat.mul_comm B (B ^ (n+1)),←Nat.pow_succ,Nat.add_assoc]
   have hlt:x+B*toN (X0 ++ [top])<B*(b*s):=by
    have h1:B*(toN (X0 ++ [top])+1)≤B*(b*s):=Nat.mul_le_mul_left _ hXb.out
    rw [Nat.mul_add,Nat.mul_one] at h1
    have:x<B:=hx
    omega
   have ct:=mF g1 n (c1 - j) top _ A' (x::X0) Z (dg (b*s)) wr R0 hby.out dX0 HD2.out htop (by simp [hXl']) HST.out.2.2.1 (by have:=HL.out.1;omega) (by omega) (by omega) (by unfold maxLen at hc1';omega)
    (by intro e;have e:some g2=some g1:=e;simp at e;omega) HST.out.2.2.2 (by rw [eW,ar];exact hlt)
   rw [eW,ar,hAl',show n+3=L+1 by have:=HL.out.1;omega] at ct
   have CT:=Ha ct
   clear ct R0
   have ej:(((j+1:Nat):Int) - 1)=(j:Int):=by omega
   rw [ej]
   clear ej
   go_wp2_with fail
   rw [show j+L+1 - j=L+1 by omega]
   refine CT.out.mono ?_
   rintro e w4 ⟨X',dX',lX',vX',rfl,hr',ho⟩
   have hQ4:Row w4 g3 Q:=(ho.block g3 (by omega) hQ.lt).trans hQ
   have co:=hQ4.cell (i:=j) (by omega)
   have fo:=hQ4.frozen j
   have hq:(x+B*toN (X0 ++ [top])) / (b*s)<1000000000:=by
    rw [Nat.div_lt_iff_lt_mul (by have:=hXb.out;omega)];exact hlt
   have HF:=Ha (Hb dX' (Hb lX' (Hb vX' (Hb hr' ho))))
   have HE:=Ha (Hb hq hQ4)
   clear CT dX' lX' vX' hr' ho hQ hlt eW
   have hQn:=hQl
   have hvn:a*s=toN A'+B ^ j*x+B ^ j*B*(toN (X0 ++ [top])+b*s*toN (Q.drop (j+1))):=by
    have:=hval.out
    rw [aS,hAl',Nat.pow_succ] at this
    exact this
   have HV:=Ha (Hb (pO hvn) (Hb dA' (Hb dZ (Hb hXb.out (Hb hby.out hbel.out)))))
   have HZ:=Ha hZ0.out
   clear hvn hval dA' dZ hXb hby hbel hdig dA dX dX0 hrow hXl hAl
   generalize Q.getD j 0=q0 at *
   generalize eW:(x+B*toN (X0 ++ [top])) / (b*s)=qj at *
   generalize eM:(x+B*toN (X0 ++ [top])) % (b*s)=rj at *
   have HEM:=Ha eM
   clear eW eM
   have RQ:=Ha (HE.out.2.set j qj)
   go_wp2
   go_roundw
   case rel =>
    obtain ⟨dX',lX',vX',hr',ho⟩:=HF.out
    obtain ⟨h1,dA',dZ,hXb,hby,hbel⟩:=HV.out
    have ho2:Below w.heap.size w w4:=ho.below hbel (by omega) hbel.size
    have hw4:=ho2.size
    refine ⟨j,A',X',0::Z,Q.set j qj,by omega,by go_num,hAl',lX',?_,⟨dA',dX',Dig.cons (by decide) dZ⟩,?_,?_,RQ.out,by rw [List.length_set];exact hQl,hQd.out.set _ HE.out.1,?_,?_,?_,ho2.setCell (p:=⟨g3,j,none⟩) (by show _≤g3;omega) _⟩
    ·simp at hAXZ ⊢; omega
    ·show toN (0::Z)=0
     rw [iF,HZ.out,Nat.mul_zero]
    ·exact hr'.of_block (Below.heap_setCell _ _ _ _ (by show g1≠g3;omega))
    ·have h2:=ho.nats (by intro e;have e:some g2=some g1:=e;simp at e;omega) hby
     exact h2.setCell_off (by intro e;have e:some g2=some g3:=e;simp at e;omega) _
    ·show a*s=_
     rw [jA (by omega),iF,vX'];exact h1
    ·show toN X'<b*s
     rw [vX',←HEM.out];exact Nat.mod_lt _ (by omega)
   case measure=>simp [intOf]
theorem Below.drewK (B:Nat) (w:World) (k:Nat):Below B w (w.drewN k):=⟨rfl,rfl,rfl,Nat.le_refl _,fun _ _=>rfl⟩
theorem aE {a b:Nat} (h:a≤b):(dg a).length≤(dg b).length:=by
 rw [an]
 exact Nat.lt_of_le_of_lt h ((an b _).1 (Nat.le_refl _))
theorem a6 {b:Nat} (h:b≠0):0<(dg b).length:=List.length_pos_iff.2 (fun e=>h ((dd b).1 e))
theorem vN {b:Nat} (h:(dg b).length=1):dg b = [b]∧b<1000000000:=by
 have h1:=(an b 1).1 (Nat.le_of_eq h)
 rw [Nat.pow_one] at h1
 exact ⟨jj (fun e=>by rw [e,av] at h;simp at h) h1,h1⟩
theorem dQ (va vb:Value) (a b:Nat) (w:World) (ha:IsNat w va a) (hb:IsNat w vb b) (h0:b≠0) (hla:(dg a).length≤900000) :
  Calls Tryz.prog 136 #[va,vb] w fun e W'=>∃ q r,e = .returned (.tuple #[q,r])∧IsNat W' q (a / b)∧IsNat W' r (a % b)∧Fresh w.heap.size q∧(Fresh w.heap.size r∨(a<b∧r=va))∧Below w.heap.size w W':=by
 have cc:=gO va vb a b w ha hb
 by_cases hlt:a<b
 ·have hq:a / b=0:=Nat.div_eq_of_lt hlt
  have hr:a % b=a:=Nat.mod_eq_of_lt hlt
  rw [hq,hr]
  rw [dO hlt] at cc
  have CC:=Ha cc
  have HA:=Ha (Hb ha hlt)
  obtain ⟨pa,ca,rfl⟩:=ha.shape
  clear cc hq hr ha hlt hb hla h0
  generalize (dg a).length=la at *
  go_enter Tryz.func136,Tryz.ntmps136
  go_wp2_with fail
  refine CC.out.mono ?_
  rintro e w' ⟨rfl,k,rfl⟩
  clear CC
  go_wp2
  go_ret2
  exact ⟨_,_,rfl,tS _,HA.out.1.next (Below.drewK _ _ _),Fresh.nil _,.inr ⟨HA.out.2,rfl⟩,Below.drewK _ _ _⟩
 ·have hcmp:¬ cM a b<0:=by
   unfold cM;rw [if_neg hlt];split <;> omega
  obtain ⟨c,hc⟩:∃ c,cM a b=c:=⟨_,rfl⟩
  rw [hc] at cc hcmp
  have CC:=Ha cc
  by_cases hl:(dg b).length=1
  ·obtain ⟨e1,hb9⟩:=vN hl
   have hcell:∃ bb off cap,vb = .slice (some ⟨bb,off,none⟩) 1 cap∧1≤cap∧w.cell? ⟨bb,off,none⟩=some (.int .u64 (b:Nat)):=by
    obtain ⟨p,cap,rfl,h1,h2,h3⟩:=hb
    obtain ⟨bb,off,rfl,hcell⟩:=h3 (by rw [e1];simp)
    refine ⟨bb,off,cap,by rw [hl],by omega,?_⟩
    have:=hcell 0 (by omega)
    rwa [e1] at this
   obtain ⟨bb,off,cap,rfl,hcap,hcell⟩:=hcell
   have cd:=fun k=>iW va (dg a) b (w.drewN k) (Nats.next ha (Below.drewK _ _ k)) (aq a) (by omega) (by omega) hb9
   rw [ar] at cd
   have hm:a % b<1000000000:=Nat.lt_trans (Nat.mod_lt _ (by omega)) hb9
   have CD:=Ha cd
   have CV:=Ha (fun W=>jm (a % b) W (by omega))
   obtain ⟨pa,ca,rfl⟩:=ha.shape
   clear cc cd ha hb hc e1 hl hlt hla
   generalize (dg a).length=la at *
   go_enter Tryz.func136,Tryz.ntmps136
   go_wp2_with fail
   refine CC.out.mono ?_
   rintro e w' ⟨rfl,k,rfl⟩
   clear CC
   have hcell':(w.drewN k).cell? ⟨bb,off,none⟩=some (.int .u64 (b:Nat)):=hcell
   go_wp2_with fail
   refine (CD.out k).mono ?_
   rintro e w1 ⟨q,rfl,hq,hqf,hqb⟩
   obtain ⟨pq,cq,rfl⟩:=hq.shape
   have hB:Below w.heap.size w w1:=(Below.drewK _ w k).trans hqb
   have HQ:=Ha (Hb hq (Hb hqf hB))
   clear hq hqf hqb CD hcell hcell' hB
   generalize (dg (a / b)).length=lq at *
   go_wp2_with fail
   refine (CV.out _).mono ?_
   rintro e w2 ⟨r,rfl,hr,hrf,hrb⟩
   obtain ⟨pr,cr,rfl⟩:=hr.shape
   have HR:=Ha (Hb hr (Hb hrf hrb))
   clear hr hrf hrb CV
   generalize (dg (a % b)).length=lr at *
   go_wp2
   go_ret2
   obtain ⟨q1,q2,q3⟩:=HQ.out
   obtain ⟨r1,r2,r3⟩:=HR.out
   exact ⟨_,_,rfl,q1.next r3,r1,q2,.inl (r2.mono q3.size),q3.trans (r3.mono q3.size)⟩
  ·have hp:=a6 h0
   have hle:=aE (Nat.le_of_not_lt hlt)
   obtain ⟨n,hn⟩:∃ n,(dg b).length=n+2:=⟨(dg b).length - 2,by omega⟩
   obtain ⟨m,hm⟩:∃ m,(dg a).length=m+(n+2):=⟨(dg a).length - (n+2),by omega⟩
   have cd:=fun k=>nI va vb a b n m (w.drewN k) (ha.next (Below.drewK _ _ k)) (hb.next (Below.drewK _ _ k)) hm hn (by omega)
   have CD:=Ha cd
   obtain ⟨pa,ca,rfl⟩:=ha.shape
   obtain ⟨pb,cb,rfl⟩:=hb.shape
   have hne:(((dg b).length:Int)==1)=false:=by rw [beq_eq_false_iff_ne];omega
   clear cc cd ha hb hc hlt hp hle hm hn hla
   generalize (dg a).length=la at *
   generalize (dg b).length=lb at *
   go_enter Tryz.func136,Tryz.ntmps136
   go_wp2_with fail
   refine CC.out.mono ?_
   rintro e w' ⟨rfl,k,rfl⟩
   clear CC
   go_wp2_with fail
   refine (CD.out k).mono ?_
   rintro e w1 ⟨q,r,rfl,hq,hr,hqf,hrf,hqb⟩
   obtain ⟨pq,cq,rfl⟩:=hq.shape
   obtain ⟨pr,cr,rfl⟩:=hr.shape
   have HQ:=Ha (Hb hq (Hb hr (Hb hqf (Hb hrf ((Below.drewK _ w k).trans hqb)))))
   clear hq hr hqf hrf hqb CD
   generalize (dg (a / b)).length=lq at *
   generalize (dg (a % b)).length=lr at *
   go_wp2
   go_ret2
   obtain ⟨q1,q2,q3,q4,q5⟩:=HQ.out
   exact ⟨_,_,rfl,q1,q2,q3,.inl q4,q5⟩
theorem Nats.setCell_ne {w:World} {v:Value} {l:List Nat} {c:Nat} (h:Nats w v l) (hf:l = []∨v.ownBlock≠some c) {o:Nat} (u:Value):Nats (w.setCell ⟨c,o,none⟩ u) v l:=by
 obtain ⟨p,cap,rfl,h1,h2,h3⟩:=h
 refine ⟨p,cap,rfl,h1,h2,fun hne => ?_⟩
 obtain ⟨b,off,e,hc⟩:=h3 hne
 refine ⟨b,off,e,fun i hi => ?_⟩
 have hb:b≠c:=fun hb=>(hf.resolve_left hne) (by rw [e,hb];rfl)
 exact (World.cell?_of_block (Below.heap_setCell _ _ _ _ (by show b≠c;exact hb))).trans (hc i hi)
theorem IsNat.setCell_ne {w:World} {v:Value} {n c:Nat} (h:IsNat w v n) (hf:dg n = []∨v.ownBlock≠some c) {o:Nat} (u:Value):IsNat (w.setCell ⟨c,o,none⟩ u) v n:=Nats.setCell_ne h hf u
theorem iH (ng:Bool) (m:Nat):(ak ng m).natAbs=m:=by unfold ak;cases ng <;> simp
structure PS (w:World) (X:Nat) (nx:Bool) (vx:Value) (a:Nat) (ng:Bool) (vp:Value) (m:Nat) (wr:World):Prop where
 c0:wr.cell? ⟨X,0,none⟩=some (.bool nx)
 c1:wr.cell? ⟨X,1,none⟩=some vx
 d0:wr.cell? ⟨X+1,0,none⟩=some (.bool ng)
 d1:wr.cell? ⟨X+1,1,none⟩=some vp
 f0:wr.frozen? ⟨X+1,0,none⟩=false
 f1:wr.frozen? ⟨X+1,1,none⟩=false
 size:X+1<wr.heap.size
 lo:w.heap.size≤X
 bel:Below w.heap.size w wr
 hx:IsNat wr vx a
 nx:dg a = []∨vx.ownBlock≠some (X+1)
 hp:IsNat wr vp m
theorem PS.next {w:World} {X:Nat} {nx:Bool} {vx:Value} {a:Nat} {ng:Bool} {vp:Value} {m:Nat} {wr W:World} (h:PS w X nx vx a ng vp m wr) (b:Below wr.heap.size wr W):PS w X nx vx a ng vp m W :=
 ⟨(b.cell (p:=⟨X,0,none⟩) (by have:=h.size;show X<_;omega)).trans h.c0,(b.cell (p:=⟨X,1,none⟩) (by have:=h.size;show X<_;omega)).trans h.c1,
  (b.cell (p:=⟨X+1,0,none⟩) h.size).trans h.d0,(b.cell (p:=⟨X+1,1,none⟩) h.size).trans h.d1,
  (b.frozen (p:=⟨X+1,0,none⟩) h.size).trans h.f0,(b.frozen (p:=⟨X+1,1,none⟩) h.size).trans h.f1,Nat.lt_of_lt_of_le h.size b.size,h.lo,
  h.bel.trans (b.mono h.bel.size),h.hx.next b,h.nx,h.hp.next b⟩
theorem PS.put {w:World} {X:Nat} {nx:Bool} {vx:Value} {a:Nat} {ng:Bool} {vp:Value} {m:Nat} {wr:World} (h:PS w X nx vx a ng vp m wr) (ng':Bool) {vq:Value} {m':Nat} (hq:IsNat wr vq m') (nq:dg m' = []∨vq.ownBlock≠some (X+1)) :
  PS w X nx vx a ng' vq m' ((wr.setCell ⟨X+1,0,none⟩ (.bool ng')).setCell ⟨X+1,1,none⟩ vq):=by
 obtain ⟨e0,e1⟩:=ap h.d0 h.d1 (.bool ng') vq
 have hk:∀ (W:World) (o o':Nat) (u:Value),(W.setCell ⟨X+1,o,none⟩ u).cell? ⟨X,o',none⟩=W.cell? ⟨X,o',none⟩:=fun W o o' u=>World.cell?_of_block (Below.heap_setCell _ _ _ _ (by show X≠X+1;omega))
 refine ⟨by rw [hk,hk];exact h.c0,by rw [hk,hk];exact h.c1,?_,e1,?_,?_,by have:=h.size;simpa [World.setCell] using this,h.lo,
  (h.bel.setCell (p:=⟨X+1,0,none⟩) (by have:=h.lo;show _≤X+1;omega) _).setCell (p:=⟨X+1,1,none⟩) (by have:=h.lo;show _≤X+1;omega) _,(h.hx.setCell_ne h.nx _).setCell_ne h.nx _,h.nx,(hq.setCell_ne nq _).setCell_ne nq _⟩
 ·go_cell
 ·simp [go_sem,h.f0]
 ·simp [go_sem,h.f1]
end Go.Proofs.YtocalfjfjjljnaaGreatDoor
