/- Parts of the proof of the text YtjdomibbaemdnaaGreatDoorZK42. -/
import Derived.Lib.RabinKarpLaws
import Derived.Test.YtjdomibbaemdnaaGreatDoorZK1
import Derived.Test.YtjdomibbaemdnaaGreatDoorZK10
import Derived.Test.YtjdomibbaemdnaaGreatDoorZK5
import Derived.Test.YtjdomibbaemdnaaGreatDoorZK6
import Derived.Test.YtjdomibbaemdnaaGreatDoorZK7
set_option linter.all false
set_option maxRecDepth 100000
set_option maxHeartbeats 8000000
namespace Go.Proofs.YtjdomibbaemdnaaGreatDoor
open Go.RowKit
theorem Nats.setCell_off {w:World} {v:Value} {l:List Nat} {g o:Nat} (h:Nats w v l) (hf:v.ownBlock≠some g) (u:Value):Nats (w.setCell ⟨g,o,none⟩ u) v l:=by
 obtain ⟨p,cap,rfl,h1,h2,h3⟩:=h
 refine ⟨p,cap,rfl,h1,h2,fun hne => ?_⟩
 obtain ⟨b,off,e,hc⟩:=h3 hne
 exact ⟨b,off,e,fun i hi=>(World.cell?_of_block (Below.heap_setCell _ _ _ _ (by show b≠g;intro hb;exact hf (by rw [e,hb];rfl)))).trans (hc i hi)⟩
theorem mF (va vb:Value) (a b n m:Nat) (w:World) (ha:IsNat w va a) (hb:IsNat w vb b) (hla:(dg a).length=m+(n+2)) (hlb:(dg b).length=n+2) (hm:m+(n+2)≤900000) :
  Calls Tryz.prog 235 #[va,vb] w fun e W'=>∃ q r,e = .returned (.tuple #[q,r])∧IsNat W' q (a / b)∧IsNat W' r (a % b)∧Fresh w.heap.size q∧Fresh w.heap.size r∧Below w.heap.size w W':=by
 obtain ⟨i0,hi,hz0,hz1,hz2⟩:=info_parts di
 have HI:=Ha (Hb hi (Hb hz0 (Hb hz1 hz2)));clear hi hz0 hz1 hz2
 have hv0:=kQ hlb
 have hv:=(aq b).getD (n+1)
 have hsl:=nW hlb
 have hs0:=lu hv
 have hs1:=rX hv0
 obtain ⟨pb,cb,evb⟩:=hb.shape
 subst evb
 obtain ⟨pa,ca,eva⟩:=ha.shape
 subst eva
 have cbx:∃ bb boff,pb=some ⟨bb,boff,none⟩∧w.cell? ⟨bb,boff+(n+1),none⟩=some (.int .u64 ((dg b).getD (n+1) 0:Nat)):=by
  obtain ⟨p',cap',he,h1,h2,h3⟩:=hb
  obtain ⟨bb,boff,e,hc⟩:=h3 (by intro e;rw [e] at hlb;simp at hlb)
  simp only [Value.slice.injEq] at he
  exact ⟨bb,boff,he.1.trans e,hc (n+1) (by omega)⟩
 obtain ⟨bb,boff,rfl,cbx⟩:=cbx
 obtain ⟨s,hs⟩:∃ s,1000000000 / ((dg b).getD (n+1) 0+1)=s:=⟨_,rfl⟩
 rw [hs] at hsl hs0 hs1
 have cm1:=fun W (h:Below w.heap.size w W)=>fh _ (dg a) s W (Nats.next ha h) (aq a) (by omega) hs1
 have cm2:=fun W (h:Below w.heap.size w W)=>fh _ (dg b) s W (Nats.next hb h) (aq b) (by omega) hs1
 rw [ar] at cm1 cm2
 have CM:=Ha (Hb cm1 cm2)
 have HS:=Ha (Hb hsl (Hb hs0 (Hb hs1 (Hb hla hlb))))
 generalize (dg b).getD (n+1) 0=v at *
 have eS:(1000000000:Int) / ((v:Int)+1)=(s:Int):=by rw [←hs];exact (Int.natCast_ediv _ _).symm
 have hv1:¬ (v:Int)+1=0:=by omega
 have hv2:(((v:Int)+1)==0)=false:=by rw [beq_eq_false_iff_ne];omega
 have hcb:n+2≤cb:=by obtain ⟨p',cap',he,h1,h2,h3⟩:=hb;simp only [Value.slice.injEq] at he;omega
 clear hs hsl cm1 cm2
 rw [hla,hlb] at CM ⊢
 obtain ⟨L,hL⟩:∃ L,n+2=L:=⟨_,rfl⟩
 obtain ⟨i1,hi1⟩:∃ i,n+1=i:=⟨_,rfl⟩
 rw [hL] at CM hcb ⊢
 rw [hi1] at cbx
 have hj1:(L:Int) - 1=(i1:Int):=by omega
 have x1:(i1:Int)<(L:Int):=by omega
 have HL:=Ha (Hb hL hi1)
 have hLm:m+L≤900000:=by omega
 clear hL hi1 hm ha hb hla hlb
 go_enter Tryz.func235,Tryz.ntmps235
 go_wp2_with fail
 rw [eS]
 clear eS hv1 hv2 cbx
 refine (CM.out.1 _ (Below.refl _ _)).mono ?_
 rintro e w1 ⟨g1,c1,l1,rfl,hc1,hc1',hg1,hr1,hd1,hl1,ht1,hB1⟩
 have hwg1:=hr1.lt
 have CM2:=Ha (CM.out.2 w1 hB1)
 have HR1:=Ha (Hb hr1 (Hb hd1 (Hb ht1 hB1)))
 have HL1:=Ha hl1
 rw [hl1] at hc1 ⊢
 clear CM hr1 hd1 ht1 hB1
 go_wp2_with fail
 refine CM2.out.mono ?_
 rintro e w2 ⟨g2,c2,l2,rfl,hc2,hc2',hg2,hr2,hd2,hl2,ht2,hB2⟩
 have hg12:g1<g2:=by omega
 have hN2:=hr2.nats hc2 (by unfold maxLen at hc2';omega)
 have ct:=bv _ _ l2 w2 hN2 hd2
 have hN2':=hN2.take (aK hd2)
 rw [ht2] at ct hN2'
 rw [HS.out.1] at ct hN2'
 rw [show n+1+1=L from HL.out.1] at ct hN2'
 have CT:=Ha ct
 have hw2:=hr2.lt
 have HR2:=Ha (Hb (HR1.out.1.next hB2 hwg1) (Hb hN2' (HR1.out.2.2.2.trans (hB2.mono HR1.out.2.2.2.size))))
 have hsz1:w.heap.size≤w2.heap.size:=HR2.out.2.2.size
 clear CM2 hr2 hd2 ht2 hB2 hN2 hN2' ct
 rw [hl2] at hc2 CT ⊢
 clear hl2 hl1
 go_wp2_with fail
 refine CT.out.mono ?_
 rintro e w' ⟨rfl,rfl⟩
 clear CT
 have hm1:(m:Int)+(L:Int) - (L:Int)+1=((m+1:Nat):Int):=by omega
 go_wp2_with (at_make;refine wpList_make_full _ rfl _ _ 182 rfl w2.heap.size 143 i0 (.int .u64 0) 1 Tryz.underlying182 HI.out.1 HI.out.2.1 HI.out.2.2.1 .i64 .i64 _ _ (m+1) rfl rfl (by omega) (by omega) (by rw [HI.out.2.2.2];omega) (by unfold maxLen;omega) (Nat.le_refl _) ?_;intro w3 hown hgrow)
 have hQ:=Row.of_made hown
 have hwg3:=hQ.lt
 have hB3:Below w2.heap.size w2 w3:=(Below.refl _ w2).grown hgrow (Nat.le_refl _) (fun k e=>by cases e)
 have hr3:=HR2.out.1.next hB3 (by omega)
 have hn3:=Nats.next HR2.out.2.1 hB3
 have hbw:=HR2.out.2.2.trans (hB3.mono hsz1)
 have hwg2:=hB3.size
 clear hown hgrow hB3 HR2
 generalize hg3:w2.heap.size=g3 at *
 have hs0':=HS.out.2.1
 have hdb:=aq (b*s)
 have hYl:=HS.out.1
 have hYtop:0<(dg (b*s)).getD (n+1) 0:=kQ hYl
 have hst:toN (l1.drop (m+1))<b*s:=nX (a:=a) (b:=b) (s:=s) (m:=m) (n:=n+1) (la:=m+L) (by
   have:=cI (aq a);rw [ar,HS.out.2.2.2.1,HL.out.1] at this;exact this)
  (by
   have hb0:b≠0:=fun e=>by have h:=HS.out.2.2.2.2;rw [e,av] at h;simp at h
   obtain ⟨r,q1,q2,q3⟩:=fN b hb0
   rw [HS.out.2.2.2.2,show n+2 - 1=n+1 by omega] at q1 q2 q3
   have:=Nat.mul_le_mul_left (B ^ (n+1)) q2
   omega) hs0' HR1.out.2.2.1 HL1.out (by have:=HL.out.1;omega) (by omega)
 have hlen1:(l1.drop (m+1)).length=n+2:=by have h1:=HL1.out;have h2:=HL.out.1;rw [List.length_drop];omega
 have hat:Hid (a*s=toN (l1.take (m+1))+B ^ (m+1)*(toN (l1.drop (m+1))+b*s*toN ((List.replicate (m+1) 0).drop (m+1)))):=by
  show _=_
  rw [←HR1.out.2.2.1,show (List.replicate (m+1) 0).drop (m+1) = [] from List.drop_of_length_le (by rw [List.length_replicate];exact Nat.le_refl _)]
  rw [show toN []=0 from rfl,Nat.mul_zero (b*s),Nat.add_zero]
  have h:=bJ (l1.take (m+1)) (l1.drop (m+1))
  rw [List.take_append_drop,List.length_take,Nat.min_eq_left (by have:=HL1.out;omega)] at h
  exact h
 have HST:=Ha (Hb hst (Hb hlen1 (Hb hYl hYtop)))
 clear hst hlen1 hYl hYtop
 have HD1:=Ha (Hb hr3 (Hb hn3 hbw))
 have HD2:=Ha hdb
 clear hr3 hn3 hbw hdb
 go_loopw [10] (fun x wr=>∃ (j:Nat) (A X Z Q:List Nat),j≤m+1∧x = .int .i64 ((j:Int) - 1)∧A.length=j∧X.length=n+2∧A.length+X.length+Z.length=m+L+1∧Hid (Dig A∧Dig X∧Dig Z)∧Hid (toN Z=0) ∧
   Hid (RowC wr g1 (A++(X++Z)))∧Row wr g3 Q∧Q.length=m+1∧Hid (Dig Q)∧Hid (Nats wr (.slice (some ⟨g2,0,none⟩) L c2) (dg (b*s))) ∧
   Hid (a*s=toN A+B ^ j*(toN X+b*s*toN (Q.drop j)))∧Hid (toN X<b*s)∧Hid (Below w.heap.size w wr))
  (fun x _=>(intOf x+1).toNat)
 case atStart =>
  refine ⟨m+1,l1.take (m+1),l1.drop (m+1),[],List.replicate (m+1) 0,Nat.le_refl _,by go_num,?_,HST.out.2.1,?_,⟨HR1.out.2.1.take _,HR1.out.2.1.drop _,Dig.nil⟩,rfl,?_,hQ,List.length_replicate,Dig.replicate _,HD1.out.2.1,hat.out,HST.out.1,HD1.out.2.2⟩
  ·rw [List.length_take];have:=HL1.out;omega
  ·rw [List.length_take,List.length_drop,HL1.out];simp;omega
  ·show RowC _ _ _
   rw [List.append_nil,List.take_append_drop];exact HD1.out.1
 case round =>
  clear hQ hat
  obtain ⟨j,A,X,Z,Q,hj,rfl,hAl,hXl,hAXZ,hdig,hZ0,hrow,hQ,hQl,hQd,hby,hval,hXb,hbel⟩:=hrel
  cases j with
  | zero =>
   have eA:A = []:=List.eq_nil_of_length_eq_zero hAl
   subst eA
   have hv:=hval.out
   rw [List.drop_zero,Nat.pow_zero,Nat.one_mul,show toN []=0 from rfl,Nat.zero_add] at hv
   have hq:a / b=toN Q:=by
    rw [←(dt a b s hs0).1,hv,Nat.add_mul_div_left _ _ (by have:=hXb.out;omega),Nat.div_eq_of_lt hXb.out,Nat.zero_add]
   have hr:a % b*s=toN X:=by
    rw [←(dt a b s hs0).2,hv,Nat.add_mul_mod_self_left,Nat.mod_eq_of_lt hXb.out]
   obtain ⟨_,dX,dZ⟩:=hdig.out
   have R0:=hrow.out
   rw [List.nil_append] at R0
   have hlXZ:(X++Z).length=m+L+1:=by rw [List.length_append];simp at hAXZ;omega
   have hN1:Nats wr (.slice (some ⟨g1,0,none⟩) (X++Z).length c1) (X++Z):=R0.nats (by omega) (by unfold maxLen at hc1';omega)
   have eXZ:toN (X++Z)=a % b*s:=by rw [bJ,hZ0.out,Nat.mul_zero,Nat.add_zero,hr]
   have ct1:=bv _ _ (X++Z) wr hN1 (dX.append dZ)
   have hN2:=hN1.take (aK (dX.append dZ))
   rw [eXZ] at ct1 hN2
   rw [hlXZ] at ct1
   have hl3:(dg (a % b*s)).length≤1000000:=by
    have:=(aK (dX.append dZ)).length_le
    rw [eXZ] at this;omega
   have cd:=fe _ (dg (a % b*s)) s wr hN2 (aq _) hl3 hs0 hs1
   rw [ar,Nat.mul_div_cancel _ (by omega)] at cd
   have CT1:=Ha ct1
   have CD:=Ha cd
   have HQ:=Ha (Hb hQ (Hb hq hQl))
   clear ct1 cd hv hq hr R0 hlXZ hN1 hN2 eXZ hl3 dX dZ hQ hrow hval hXb hby hdig hZ0 hAXZ
   generalize (dg (a % b*s)).length=l3 at *
   go_wp2_with fail
   refine CT1.out.mono ?_
   rintro e w' ⟨rfl,rfl⟩
   clear CT1
   go_wp2_with fail
   refine CD.out.mono ?_
   rintro e w4 ⟨r,rfl,hr,hrf,hrb⟩
   obtain ⟨pr,cr,rfl⟩:=hr.shape
   have hQ4:Row w4 g3 Q:=(hrb.block g3 HQ.out.1.lt).trans HQ.out.1
   have hN0:Nats w4 (.slice (some ⟨g3,0,none⟩) Q.length (m+1)) Q:=hQ4.nats (by omega) (by omega)
   have ct:=bv _ _ Q w4 hN0 hQd.out
   have hn:=hN0.take (aK hQd.out)
   rw [hQl,←HQ.out.2.1] at ct
   rw [←HQ.out.2.1] at hn
   have CT:=Ha ct
   have HN:=Ha (Hb hn (Hb hr (Hb hrf (hbel.out.trans (hrb.mono hbel.out.size)))))
   have hfr:=hbel.out.size
   clear CD ct hn hr hrf hrb hQ4 hN0
   generalize (dg (a % b)).length=l4 at *
   go_wp2_with fail
   refine CT.out.mono ?_
   rintro e w' ⟨rfl,rfl⟩
   clear CT
   go_wp2
   go_ret2
   obtain ⟨n1,n2,n3,n4⟩:=HN.out
   exact ⟨_,_,rfl,n1,n2,fun k hk=>by have hk:some g3=some k:=hk;cases hk;omega,n3.mono hfr,n4⟩
  | succ j =>
   obtain ⟨A',x,rfl⟩:∃ A' x,A=A' ++ [x]:=by
    have:=bf A j (by omega)
    rw [List.take_of_length_le (by omega)] at this
    exact ⟨_,_,this⟩
   obtain ⟨X0,top,rfl⟩:∃ X0 top,X=X0 ++ [top]:=by
    have:=bf X (n+1) (by omega)
    rw [List.take_of_length_le (by omega)] at this
    exact ⟨_,_,this⟩
   have hAl':A'.length=j:=by simpa using hAl
   have hXl':X0.length=n+1:=by simpa using hXl
   obtain ⟨dA,dX,dZ⟩:=hdig.out
   have hx:x<1000000000:=dA x (by simp)
   have htop:top<1000000000:=dX top (by simp)
   have dX0:Dig (x::X0):=Dig.cons hx (fun y hy=>dX y (by simp [hy]))
   have dA':Dig A':=fun y hy=>dA y (by simp [hy])
   have R0:=hrow.out
   rw [show A' ++ [x]++(X0 ++ [top]++Z)=A'++((x::X0)++(top::Z)) by simp] at R0
   have eW:toN (x::X0)+B ^ (n+2)*top=x+B*toN (X0 ++ [top]):=by
    rw [gW,aQ,hXl',Nat.mul_add,←Nat.mul_assoc,Nat.mul_comm B (B ^ (n+1)),←Nat.pow_succ,Nat.add_assoc]
   have hlt:x+B*toN (X0 ++ [top])<B*(b*s):=by
    have h1:B*(toN (X0 ++ [top])+1)≤B*(b*s):=Nat.mul_le_mul_left _ hXb.out
    rw [Nat.mul_add,Nat.mul_one] at h1
    have:x<B:=hx
    omega
   have ct:=lE g1 n (c1 - j) top _ A' (x::X0) Z (dg (b*s)) wr R0 hby.out dX0 HD2.out htop (by simp [hXl']) HST.out.2.2.1 (by have:=HL.out.1;omega) (by omega) (by omega) (by unfold maxLen at hc1';omega)
    (by intro e;have e:some g2=some g1:=e;simp at e;omega) HST.out.2.2.2 (by rw [eW,ar];exact hlt)
   rw [eW,ar,hAl',show n+3=L+1 by have:=HL.out.1;omega] at ct
   have CT:=Ha ct
   clear ct R0
   have ej:(((j+1:Nat):Int) - 1)=(j:Int):=by omega
   rw [ej]
   clear ej
   go_wp2_with fail
   rw [show j+L+1 - j=L+1 by omega]
   refine CT.out.mono ?_
   rintro e w4 ⟨X',dX',lX',vX',rfl,hr',ho⟩
   have hQ4:Row w4 g3 Q:=(ho.block g3 (by omega) hQ.lt).trans hQ
   have co:=hQ4.cell (i:=j) (by omega)
   have fo:=hQ4.frozen j
   have hq:(x+B*toN (X0 ++ [top])) / (b*s)<1000000000:=by
    rw [Nat.div_lt_iff_lt_mul (by have:=hXb.out;omega)];exact hlt
   have HF:=Ha (Hb dX' (Hb lX' (Hb vX' (Hb hr' ho))))
   have HE:=Ha (Hb hq hQ4)
   clear CT dX' lX' vX' hr' ho hQ hlt eW
   have hQn:=hQl
   have hvn:a*s=toN A'+B ^ j*x+B ^ j*B*(toN (X0 ++ [top])+b*s*toN (Q.drop (j+1))):=by
    have:=hval.out
    rw [aQ,hAl',Nat.pow_succ] at this
    exact this
   have HV:=Ha (Hb (oX hvn) (Hb dA' (Hb dZ (Hb hXb.out (Hb hby.out hbel.out)))))
   have HZ:=Ha hZ0.out
   clear hvn hval dA' dZ hXb hby hbel hdig dA dX dX0 hrow hXl hAl
   generalize Q.getD j 0=q0 at *
   generalize eW:(x+B*toN (X0 ++ [top])) / (b*s)=qj at *
   generalize eM:(x+B*toN (X0 ++ [top])) % (b*s)=rj at *
   have HEM:=Ha eM
   clear eW eM
   have RQ:=Ha (HE.out.2.set j qj)
   go_wp2
   go_roundw
   case rel =>
    obtain ⟨dX',lX',vX',hr',ho⟩:=HF.out
    obtain ⟨h1,dA',dZ,hXb,hby,hbel⟩:=HV.out
    have ho2:Below w.heap.size w w4:=ho.below hbel (by omega) hbel.size
    have hw4:=ho2.size
    refine ⟨j,A',X',0::Z,Q.set j qj,by omega,by go_num,hAl',lX',?_,⟨dA',dX',Dig.cons (by decide) dZ⟩,?_,?_,RQ.out,by rw [List.length_set];exact hQl,hQd.out.set _ HE.out.1,?_,?_,?_,ho2.setCell (p:=⟨g3,j,none⟩) (by show _≤g3;omega) _⟩
    ·simp at hAXZ ⊢; omega
    ·show toN (0::Z)=0
     rw [gW,HZ.out,Nat.mul_zero]
    ·exact hr'.of_block (Below.heap_setCell _ _ _ _ (by show g1≠g3;omega))
    ·have h2:=ho.nats (by intro e;have e:some g2=some g1:=e;simp at e;omega) hby
     exact h2.setCell_off (by intro e;have e:some g2=some g3:=e;simp at e;omega) _
    ·show a*s=_
     rw [iV (by omega),gW,vX'];exact h1
    ·show toN X'<b*s
     rw [vX',←HEM.out];exact Nat.mod_lt _ (by omega)
   case measure=>simp [intOf]
theorem Below.drewK (B:Nat) (w:World) (k:Nat):Below B w (w.drewN k):=⟨rfl,rfl,rfl,Nat.le_refl _,fun _ _=>rfl⟩
theorem aC {a b:Nat} (h:a≤b):(dg a).length≤(dg b).length:=by
 rw [ak]
 exact Nat.lt_of_le_of_lt h ((ak b _).1 (Nat.le_refl _))
theorem aR {b:Nat} (h:b≠0):0<(dg b).length:=List.length_pos_iff.2 (fun e=>h ((cU b).1 e))
theorem uy {b:Nat} (h:(dg b).length=1):dg b = [b]∧b<1000000000:=by
 have h1:=(ak b 1).1 (Nat.le_of_eq h)
 rw [Nat.pow_one] at h1
 exact ⟨gl (fun e=>by rw [e,av] at h;simp at h) h1,h1⟩
theorem cH (va vb:Value) (a b:Nat) (w:World) (ha:IsNat w va a) (hb:IsNat w vb b) (h0:b≠0) (hla:(dg a).length≤900000) :
  Calls Tryz.prog 214 #[va,vb] w fun e W'=>∃ q r,e = .returned (.tuple #[q,r])∧IsNat W' q (a / b)∧IsNat W' r (a % b)∧Fresh w.heap.size q∧(Fresh w.heap.size r∨(a<b∧r=va))∧Below w.heap.size w W':=by
 have cc:=eK va vb a b w ha hb
 by_cases hlt:a<b
 ·have hq:a / b=0:=Nat.div_eq_of_lt hlt
  have hr:a % b=a:=Nat.mod_eq_of_lt hlt
  rw [hq,hr]
  rw [dp hlt] at cc
  have CC:=Ha cc
  have HA:=Ha (Hb ha hlt)
  obtain ⟨pa,ca,rfl⟩:=ha.shape
  clear cc hq hr ha hlt hb hla h0
  generalize (dg a).length=la at *
  go_enter Tryz.func214,Tryz.ntmps214
  go_wp2_with fail
  refine CC.out.mono ?_
  rintro e w' ⟨rfl,k,rfl⟩
  clear CC
  go_wp2
  go_ret2
  exact ⟨_,_,rfl,sI _,HA.out.1.next (Below.drewK _ _ _),Fresh.nil _,.inr ⟨HA.out.2,rfl⟩,Below.drewK _ _ _⟩
 ·have hcmp:¬ bW a b<0:=by
   unfold bW;rw [if_neg hlt];split <;> omega
  obtain ⟨c,hc⟩:∃ c,bW a b=c:=⟨_,rfl⟩
  rw [hc] at cc hcmp
  have CC:=Ha cc
  by_cases hl:(dg b).length=1
  ·obtain ⟨e1,hb9⟩:=uy hl
   have hcell:∃ bb off cap,vb = .slice (some ⟨bb,off,none⟩) 1 cap∧1≤cap∧w.cell? ⟨bb,off,none⟩=some (.int .u64 (b:Nat)):=by
    obtain ⟨p,cap,rfl,h1,h2,h3⟩:=hb
    obtain ⟨bb,off,rfl,hcell⟩:=h3 (by rw [e1];simp)
    refine ⟨bb,off,cap,by rw [hl],by omega,?_⟩
    have:=hcell 0 (by omega)
    rwa [e1] at this
   obtain ⟨bb,off,cap,rfl,hcap,hcell⟩:=hcell
   have cd:=fun k=>fe va (dg a) b (w.drewN k) (Nats.next ha (Below.drewK _ _ k)) (aq a) (by omega) (by omega) hb9
   rw [ar] at cd
   have hm:a % b<1000000000:=Nat.lt_trans (Nat.mod_lt _ (by omega)) hb9
   have CD:=Ha cd
   have CV:=Ha (fun W=>fZ (a % b) W (by omega))
   obtain ⟨pa,ca,rfl⟩:=ha.shape
   clear cc cd ha hb hc e1 hl hlt hla
   generalize (dg a).length=la at *
   go_enter Tryz.func214,Tryz.ntmps214
   go_wp2_with fail
   refine CC.out.mono ?_
   rintro e w' ⟨rfl,k,rfl⟩
   clear CC
   have hcell':(w.drewN k).cell? ⟨bb,off,none⟩=some (.int .u64 (b:Nat)):=hcell
   go_wp2_with fail
   refine (CD.out k).mono ?_
   rintro e w1 ⟨q,rfl,hq,hqf,hqb⟩
   obtain ⟨pq,cq,rfl⟩:=hq.shape
   have hB:Below w.heap.size w w1:=(Below.drewK _ w k).trans hqb
   have HQ:=Ha (Hb hq (Hb hqf hB))
   clear hq hqf hqb CD hcell hcell' hB
   generalize (dg (a / b)).length=lq at *
   go_wp2_with fail
   refine (CV.out _).mono ?_
   rintro e w2 ⟨r,rfl,hr,hrf,hrb⟩
   obtain ⟨pr,cr,rfl⟩:=hr.shape
   have HR:=Ha (Hb hr (Hb hrf hrb))
   clear hr hrf hrb CV
   generalize (dg (a % b)).length=lr at *
   go_wp2
   go_ret2
   obtain ⟨q1,q2,q3⟩:=HQ.out
   obtain ⟨r1,r2,r3⟩:=HR.out
   exact ⟨_,_,rfl,q1.next r3,r1,q2,.inl (r2.mono q3.size),q3.trans (r3.mono q3.size)⟩
  ·have hp:=aR h0
   have hle:=aC (Nat.le_of_not_lt hlt)
   obtain ⟨n,hn⟩:∃ n,(dg b).length=n+2:=⟨(dg b).length - 2,by omega⟩
   obtain ⟨m,hm⟩:∃ m,(dg a).length=m+(n+2):=⟨(dg a).length - (n+2),by omega⟩
   have cd:=fun k=>mF va vb a b n m (w.drewN k) (ha.next (Below.drewK _ _ k)) (hb.next (Below.drewK _ _ k)) hm hn (by omega)
   have CD:=Ha cd
   obtain ⟨pa,ca,rfl⟩:=ha.shape
   obtain ⟨pb,cb,rfl⟩:=hb.shape
   have hne:(((dg b).length:Int)==1)=false:=by rw [beq_eq_false_iff_ne];omega
   clear cc cd ha hb hc hlt hp hle hm hn hla
   generalize (dg a).length=la at *
   generalize (dg b).length=lb at *
   go_enter Tryz.func214,Tryz.ntmps214
   go_wp2_with fail
   refine CC.out.mono ?_
   rintro e w' ⟨rfl,k,rfl⟩
   clear CC
   go_wp2_with fail
   refine (CD.out k).mono ?_
   rintro e w1 ⟨q,r,rfl,hq,hr,hqf,hrf,hqb⟩
   obtain ⟨pq,cq,rfl⟩:=hq.shape
   obtain ⟨pr,cr,rfl⟩:=hr.shape
   have HQ:=Ha (Hb hq (Hb hr (Hb hqf (Hb hrf ((Below.drewK _ w k).trans hqb)))))
   clear hq hr hqf hrf hqb CD
   generalize (dg (a / b)).length=lq at *
   generalize (dg (a % b)).length=lr at *
   go_wp2
   go_ret2
   obtain ⟨q1,q2,q3,q4,q5⟩:=HQ.out
   exact ⟨_,_,rfl,q1,q2,q3,.inl q4,q5⟩
theorem Nats.setCell_ne {w:World} {v:Value} {l:List Nat} {c:Nat} (h:Nats w v l) (hf:l = []∨v.ownBlock≠some c) {o:Nat} (u:Value):Nats (w.setCell ⟨c,o,none⟩ u) v l:=by
 obtain ⟨p,cap,rfl,h1,h2,h3⟩:=h
 refine ⟨p,cap,rfl,h1,h2,fun hne => ?_⟩
 obtain ⟨b,off,e,hc⟩:=h3 hne
 refine ⟨b,off,e,fun i hi => ?_⟩
 have hb:b≠c:=fun hb=>(hf.resolve_left hne) (by rw [e,hb];rfl)
 exact (World.cell?_of_block (Below.heap_setCell _ _ _ _ (by show b≠c;exact hb))).trans (hc i hi)
theorem IsNat.setCell_ne {w:World} {v:Value} {n c:Nat} (h:IsNat w v n) (hf:dg n = []∨v.ownBlock≠some c) {o:Nat} (u:Value):IsNat (w.setCell ⟨c,o,none⟩ u) v n:=Nats.setCell_ne h hf u
theorem IsNat.far {w:World} {v:Value} {n c:Nat} (h:IsNat w v n) (hc:w.heap.size≤c):dg n = []∨v.ownBlock≠some c:=by
 obtain ⟨p,cap,rfl,h1,h2,h3⟩:=h
 by_cases hne:dg n = []
 ·exact .inl hne
 ·obtain ⟨b,off,e,hcell⟩:=h3 hne
  have hl:=World.block_lt_of_cell? w _ (hcell 0 (List.length_pos_iff.2 hne))
  refine .inr fun h => ?_
  rw [e] at h
  have h2:b=c:=by simpa [Value.ownBlock] using h
  have hl2:b<w.heap.size:=hl
  omega
theorem Fresh.far {v:Value} {b c n:Nat} (h:Fresh b v) (hc:c<b):dg n = []∨v.ownBlock≠some c := .inr fun e=>by have:=h c e;omega
theorem ia (ng:Bool) (m:Nat):(am ng m).natAbs=m:=by unfold am;cases ng <;> simp
structure PS (w:World) (X:Nat) (nx:Bool) (vx:Value) (a:Nat) (ng:Bool) (vp:Value) (m:Nat) (wr:World):Prop where
 c0:wr.cell? ⟨X,0,none⟩=some (.bool nx)
 c1:wr.cell? ⟨X,1,none⟩=some vx
 d0:wr.cell? ⟨X+1,0,none⟩=some (.bool ng)
 d1:wr.cell? ⟨X+1,1,none⟩=some vp
 f0:wr.frozen? ⟨X+1,0,none⟩=false
 f1:wr.frozen? ⟨X+1,1,none⟩=false
 size:X+1<wr.heap.size
 lo:w.heap.size≤X
 bel:Below w.heap.size w wr
 hx:IsNat wr vx a
 nx:dg a = []∨vx.ownBlock≠some (X+1)
 hp:IsNat wr vp m
theorem PS.next {w:World} {X:Nat} {nx:Bool} {vx:Value} {a:Nat} {ng:Bool} {vp:Value} {m:Nat} {wr W:World} (h:PS w X nx vx a ng vp m wr) (b:Below wr.heap.size wr W):PS w X nx vx a ng vp m W :=
 ⟨(b.cell (p:=⟨X,0,none⟩) (by have:=h.size;show X<_;omega)).trans h.c0,(b.cell (p:=⟨X,1,none⟩) (by have:=h.size;show X<_;omega)).trans h.c1,
  (b.cell (p:=⟨X+1,0,none⟩) h.size).trans h.d0,(b.cell (p:=⟨X+1,1,none⟩) h.size).trans h.d1,
  (b.frozen (p:=⟨X+1,0,none⟩) h.size).trans h.f0,(b.frozen (p:=⟨X+1,1,none⟩) h.size).trans h.f1,Nat.lt_of_lt_of_le h.size b.size,h.lo,
  h.bel.trans (b.mono h.bel.size),h.hx.next b,h.nx,h.hp.next b⟩
theorem PS.put {w:World} {X:Nat} {nx:Bool} {vx:Value} {a:Nat} {ng:Bool} {vp:Value} {m:Nat} {wr:World} (h:PS w X nx vx a ng vp m wr) (ng':Bool) {vq:Value} {m':Nat} (hq:IsNat wr vq m') (nq:dg m' = []∨vq.ownBlock≠some (X+1)) :
  PS w X nx vx a ng' vq m' ((wr.setCell ⟨X+1,0,none⟩ (.bool ng')).setCell ⟨X+1,1,none⟩ vq):=by
 obtain ⟨e0,e1⟩:=au h.d0 h.d1 (.bool ng') vq
 have hk:∀ (W:World) (o o':Nat) (u:Value),(W.setCell ⟨X+1,o,none⟩ u).cell? ⟨X,o',none⟩=W.cell? ⟨X,o',none⟩:=fun W o o' u=>World.cell?_of_block (Below.heap_setCell _ _ _ _ (by show X≠X+1;omega))
 refine ⟨by rw [hk,hk];exact h.c0,by rw [hk,hk];exact h.c1,?_,e1,?_,?_,by have:=h.size;simpa [World.setCell] using this,h.lo,
  (h.bel.setCell (p:=⟨X+1,0,none⟩) (by have:=h.lo;show _≤X+1;omega) _).setCell (p:=⟨X+1,1,none⟩) (by have:=h.lo;show _≤X+1;omega) _,(h.hx.setCell_ne h.nx _).setCell_ne h.nx _,h.nx,(hq.setCell_ne nq _).setCell_ne nq _⟩
 ·go_cell
 ·simp [go_sem,h.f0]
 ·simp [go_sem,h.f1]
theorem aS (n:Bool):am n 0=0:=by unfold am;cases n <;> rfl
theorem oA (na nb:Bool) (a b:Nat) (h0:b≠0) :
  ((na=nb∨a % b=0)→(am na a).fdiv (am nb b)=am (na != nb) (a / b)∧(am na a).fmod (am nb b)=am nb (a % b)) ∧
  ((na≠nb∧a % b≠0)→(am na a).fdiv (am nb b)=am (na != nb) (a / b+1)∧(am na a).fmod (am nb b)=am nb (b - a % b)):=by
 have hm:=Nat.mod_lt a (show 0<b by omega)
 have he:=Nat.div_add_mod a b
 have he':((b:Int)*((a / b:Nat):Int))+((a % b:Nat):Int)=(a:Int):=by rw [←Int.natCast_mul,←Int.natCast_add,he]
 generalize a / b=q at *
 generalize a % b=r at *
 generalize hbq:(b:Int)*(q:Int)=P at *
 have hsub:((b - r:Nat):Int)=(b:Int) - r:=by omega
 constructor
 ·intro h
  cases na <;> cases nb <;> simp only [am,if_true,if_false,bne_self_eq_false,Bool.false_eq_true,Bool.true_bne,Bool.false_bne,Bool.not_false,Bool.not_true] <;>
   refine fV ?_ (by omega) (fun h1 => ?_) (fun h1 => ?_) <;>
   (try simp only [Int.neg_mul,Int.mul_neg,hbq]) <;> (try simp only [reduceCtorEq,false_or] at h) <;> omega
 ·rintro ⟨h,hr⟩
  cases na <;> cases nb <;> simp only [ne_eq,not_true_eq_false] at h <;> simp only [am,if_true,if_false,bne_self_eq_false,Bool.false_eq_true,Bool.true_bne,Bool.false_bne,Bool.not_false,Bool.not_true] <;>
   refine fV ?_ (by omega) (fun h1 => ?_) (fun h1 => ?_) <;>
   (try simp only [Int.neg_mul,Int.mul_neg,hbq,Int.natCast_add,Int.mul_add,hsub]) <;> omega
structure Box4 (w:World) (k:Nat) (x0 x1 y0 y1:Value) (W:World):Prop where
 c1:W.cell? ⟨k,0,none⟩=some x0
 c2:W.cell? ⟨k,1,none⟩=some x1
 c3:W.cell? ⟨k+1,0,none⟩=some y0
 c4:W.cell? ⟨k+1,1,none⟩=some y1
 c5:W.cell? ⟨k+1+1,0,none⟩=some (.bool false)
 c6:W.cell? ⟨k+1+1,1,none⟩=some (.slice none 0 0)
 c7:W.cell? ⟨k+1+1+1,0,none⟩=some (.bool false)
 c8:W.cell? ⟨k+1+1+1,1,none⟩=some (.slice none 0 0)
 f5:W.frozen? ⟨k+1+1,0,none⟩=false
 f6:W.frozen? ⟨k+1+1,1,none⟩=false
 f7:W.frozen? ⟨k+1+1+1,0,none⟩=false
 f8:W.frozen? ⟨k+1+1+1,1,none⟩=false
 size:k+4≤W.heap.size
 below:Below k w W
theorem ql (w:World) (x0 x1 y0 y1:Value) (t:TypeId) :
  Box4 w w.heap.size x0 x1 y0 y1 ((((w.alloc (.cells #[x0,x1] t)).alloc (.cells #[y0,y1] t)).alloc (.cells #[.bool false,.slice none 0 0] t)).alloc (.cells #[.bool false,.slice none 0 0] t)) :=
 ⟨by go_cell,by go_cell,by go_cell,by go_cell,by go_cell,by go_cell,by go_cell,by go_cell,by simp [go_sem],by simp [go_sem],by simp [go_sem],by simp [go_sem],by simp,
  ((((Below.refl _ w).alloc (Nat.le_refl _) _).alloc (by simp) _).alloc (by simp;omega) _).alloc (by simp;omega) _⟩
theorem Box4.next {w:World} {k:Nat} {x0 x1 y0 y1:Value} {W W':World} (h:Box4 w k x0 x1 y0 y1 W) (hb:Below W.heap.size W W'):Box4 w k x0 x1 y0 y1 W':=by
 have hs:=h.size
 exact ⟨(hb.cell (p:=⟨k,0,none⟩) (by show k<_;omega)).trans h.c1,(hb.cell (p:=⟨k,1,none⟩) (by show k<_;omega)).trans h.c2,
  (hb.cell (p:=⟨k+1,0,none⟩) (by show k+1<_;omega)).trans h.c3,(hb.cell (p:=⟨k+1,1,none⟩) (by show k+1<_;omega)).trans h.c4,
  (hb.cell (p:=⟨k+1+1,0,none⟩) (by show k+1+1<_;omega)).trans h.c5,(hb.cell (p:=⟨k+1+1,1,none⟩) (by show k+1+1<_;omega)).trans h.c6,
  (hb.cell (p:=⟨k+1+1+1,0,none⟩) (by show k+1+1+1<_;omega)).trans h.c7,(hb.cell (p:=⟨k+1+1+1,1,none⟩) (by show k+1+1+1<_;omega)).trans h.c8,
  (hb.frozen (p:=⟨k+1+1,0,none⟩) (by show k+1+1<_;omega)).trans h.f5,(hb.frozen (p:=⟨k+1+1,1,none⟩) (by show k+1+1<_;omega)).trans h.f6,
  (hb.frozen (p:=⟨k+1+1+1,0,none⟩) (by show k+1+1+1<_;omega)).trans h.f7,(hb.frozen (p:=⟨k+1+1+1,1,none⟩) (by show k+1+1+1<_;omega)).trans h.f8,
  Nat.le_trans h.size hb.size,h.below.trans (hb.mono (by omega))⟩
def put4 (w:World) (k:Nat) (A B C D:Value):World :=
 (((w.setCell ⟨k+1+1,0,none⟩ A).setCell ⟨k+1+1,1,none⟩ B).setCell ⟨k+1+1+1,0,none⟩ C).setCell ⟨k+1+1+1,1,none⟩ D
theorem kW {w:World} {k:Nat} {x0 x1 x2 x3:Value} (c5:w.cell? ⟨k+1+1,0,none⟩=some x0) (c6:w.cell? ⟨k+1+1,1,none⟩=some x1) (c7:w.cell? ⟨k+1+1+1,0,none⟩=some x2) (c8:w.cell? ⟨k+1+1+1,1,none⟩=some x3)
  (A B C D:Value):(put4 w k A B C D).cell? ⟨k+1+1,0,none⟩=some A∧(put4 w k A B C D).cell? ⟨k+1+1,1,none⟩=some B∧(put4 w k A B C D).cell? ⟨k+1+1+1,0,none⟩=some C∧(put4 w k A B C D).cell? ⟨k+1+1+1,1,none⟩=some D:=by
 unfold put4
 obtain ⟨b1,b2⟩:=au c5 c6 A B
 have b3:((w.setCell ⟨k+1+1,0,none⟩ A).setCell ⟨k+1+1,1,none⟩ B).cell? ⟨k+1+1,0,none⟩=some A:=by
  refine (?_:_=_).trans b1
  go_cell
 obtain ⟨d1,d2⟩:=au (dU (x:=A) (y:=B) (j:=k+1+1) (by omega) c7) (dU (x:=A) (y:=B) (j:=k+1+1) (by omega) c8) C D
 refine ⟨dU (by omega) b3,dU (by omega) b2,?_,d2⟩
 refine (?_:_=_).trans d1
 go_cell
theorem kZ {w:World} {k:Nat} {v:Value} {n:Nat} (h:IsNat w v n) (hf:dg n = []∨(v.ownBlock≠some (k+1+1)∧v.ownBlock≠some (k+1+1+1))) (A B C D:Value):IsNat (put4 w k A B C D) v n:=by
 have h1:dg n = []∨v.ownBlock≠some (k+1+1):=hf.imp_right And.left
 have h2:dg n = []∨v.ownBlock≠some (k+1+1+1):=hf.imp_right And.right
 exact (((h.setCell_ne h1 _).setCell_ne h1 _).setCell_ne h2 _).setCell_ne h2 _
theorem jB {w a:World} {k B0:Nat} (h:Below B0 a w) (hB:B0≤k) (A B C D:Value):Below B0 a (put4 w k A B C D) :=
 (((h.setCell (p:=⟨k+1+1,0,none⟩) (by show B0≤k+1+1;omega) _).setCell (p:=⟨k+1+1,1,none⟩) (by show B0≤k+1+1;omega) _).setCell (p:=⟨k+1+1+1,0,none⟩) (by show B0≤k+1+1+1;omega) _).setCell (p:=⟨k+1+1+1,1,none⟩) (by show B0≤k+1+1+1;omega) _
theorem uz (nb:Bool) (va vb:Value) (a b:Nat) (w:World) (ha:IsNat w va a) (hb:IsNat w vb b) (h0:b≠0) (hla:(dg a).length≤900000) :
  Calls Tryz.prog 181 #[.agg #[.bool nb,va],.agg #[.bool nb,vb]] w fun e W'=>∃ x y,e = .returned (.tuple #[.agg #[.bool false,x],.agg #[.bool nb,y]])∧IsNat W' x (a / b)∧IsNat W' y (a % b)∧Below w.heap.size w W':=by
 have cd:=fun W (h:Below w.heap.size w W)=>cH va vb a b W (ha.next h) (hb.next h) h0 hla
 obtain ⟨pa,ca,rfl⟩:=ha.shape
 obtain ⟨pb,cb,rfl⟩:=hb.shape
 have CD:=Ha cd
 clear cd
 have HH:=Ha (Hb ha (Hb hb (Hb h0 hla)))
 clear ha hb hla h0
 generalize (dg a).length=la at *
 generalize (dg b).length=lb at *
 go_enter Tryz.func181,Tryz.ntmps181
 go_wp2_with fail
 have hbx:=ql w (.bool nb) (.slice pa la ca) (.bool nb) (.slice pb lb cb) 184
 generalize ((((w.alloc (.cells #[.bool nb,.slice pa la ca] 184)).alloc (.cells #[.bool nb,.slice pb lb cb] 184)).alloc (.cells #[.bool false,.slice none 0 0] 184)).alloc (.cells #[.bool false,.slice none 0 0] 184))=W0 at *
 generalize hk:w.heap.size=k at *
 have HK:=Ha hk;clear hk
 have HBX:=Ha hbx
 clear hbx
 refine (CD.out W0 HBX.out.below).mono ?_
 rintro e w1 ⟨q,r,rfl,hq,hr,hqf,hrf,hB⟩
 have HB1:=Ha (HBX.out.next hB)
 obtain ⟨pq,cq,rfl⟩:=hq.shape
 obtain ⟨pr,cr,rfl⟩:=hr.shape
 have HV:=Ha (Hb hq (Hb hr (Hb hqf (Hb hrf hB))))
 clear hq hr hqf hrf hB CD
 obtain ⟨c1,c2,c3,c4,c5,c6,c7,c8,f5,f6,f7,f8,hsz,_⟩:=HB1.out
 have hg:(nb==nb)=true:=by simp
 generalize (dg (a / b)).length=lq at *
 generalize (dg (a % b)).length=lr at *
 go_wp2
 go_region_held3 (fun w'=>w'.cell? ⟨k,0,none⟩=some (.bool nb)∧w'.cell? ⟨k+1,0,none⟩=some (.bool nb)∧w'.frozen? ⟨k+1+1,0,none⟩=false∧w'.frozen? ⟨k+1+1,1,none⟩=false∧w'.frozen? ⟨k+1+1+1,0,none⟩=false∧w'.frozen? ⟨k+1+1+1,1,none⟩=false)
  (first | (go_keep;done) | ((try dsimp only);refine ⟨?_,?_,?_,?_,?_,?_⟩ <;> (first | (exact dU (by omega) (by assumption)) | (go_keep;done) | (simp [go_sem, *];done))))
  (fail)
 have hback:=kW c5 c6 c7 c8 (.bool false) (.slice pq lq cq) (.bool nb) (.slice pr lr cr)
 have HP:=Ha (Hb (fun v n h hf => @kZ w1 k v n h hf (.bool false) (.slice pq lq cq) (.bool nb) (.slice pr lr cr)) (jB (k:=k) HB1.out.below (Nat.le_refl _) (.bool false) (.slice pq lq cq) (.bool nb) (.slice pr lr cr)))
 unfold put4 at hback HP
 generalize (((w1.setCell ⟨k+1+1,0,none⟩ (.bool false)).setCell ⟨k+1+1,1,none⟩ (.slice pq lq cq)).setCell ⟨k+1+1+1,0,none⟩ (.bool nb)).setCell ⟨k+1+1+1,1,none⟩ (.slice pr lr cr)=W4 at *
 obtain ⟨g5,g6,g7,g8⟩:=hback
 clear c1 c2 c3 c4 c5 c6 c7 c8 f5 f6 f7 f8
 go_wp2
 refine bodyPost_ret (v := .tuple #[.agg #[.bool false,.slice pq lq cq],.agg #[.bool nb,.slice pr lr cr]]) (by simp [results,Tryz.results181,go_sem,g5,g6,g7,g8]) rfl ?_
 obtain ⟨hq,hr,hqf,hrf,hB⟩:=HV.out
 obtain ⟨ha,hb,h0,hla⟩:=HH.out
 have hs:=HBX.out.size
 have fb:∀ v,Fresh W0.heap.size v→v.ownBlock≠some (k+1+1)∧v.ownBlock≠some (k+1+1+1):=fun v hv=>⟨fun e=>by have:=hv _ e;omega,fun e=>by have:=hv _ e;omega⟩
 refine ⟨_,_,rfl,HP.out.1 _ _ hq (.inr (fb _ hqf)),?_,by rw [HK.out];exact HP.out.2.drew⟩
 rcases hrf with hrf | ⟨hlt,e⟩
 ·exact HP.out.1 _ _ hr (.inr (fb _ hrf))
 ·rw [Nat.mod_eq_of_lt hlt,e]
  exact ha.next (by rw [HK.out];exact HP.out.2.drew)
theorem uA (na nb:Bool) (va vb:Value) (a b:Nat) (w:World) (ha:IsNat w va a) (hb:IsNat w vb b) (h0:b≠0) (hla:(dg a).length≤900000) (hlb:(dg b).length≤900000) (hn:(na==nb)=false) :
  Calls Tryz.prog 181 #[.agg #[.bool na,va],.agg #[.bool nb,vb]] w fun e W'=>∃ x y q r,e = .returned (.tuple #[.agg #[.bool true,x],.agg #[.bool nb,y]])∧IsNat W' x q∧IsNat W' y r∧((a % b=0∧q=a / b∧r=a % b)∨(a % b≠0∧q=a / b+1∧r=b - a % b))∧Below w.heap.size w W':=by
 have cd:=fun W (h:Below w.heap.size w W)=>cH va vb a b W (ha.next h) (hb.next h) h0 hla
 obtain ⟨pa,ca,rfl⟩:=ha.shape
 obtain ⟨pb,cb,rfl⟩:=hb.shape
 have CD:=Ha cd
 clear cd
 have HH:=Ha (Hb ha (Hb hb (Hb h0 hla)))
 have HLL:=Ha (Hb hla hlb)
 clear ha hb hla hlb h0
 generalize hea:(dg a).length=la at *
 generalize heb:(dg b).length=lb at *
 have HEL:=Ha (Hb hea heb)
 clear hea heb
 go_enter Tryz.func181,Tryz.ntmps181
 go_wp2_with fail
 have hbx:=ql w (.bool na) (.slice pa la ca) (.bool nb) (.slice pb lb cb) 184
 generalize ((((w.alloc (.cells #[.bool na,.slice pa la ca] 184)).alloc (.cells #[.bool nb,.slice pb lb cb] 184)).alloc (.cells #[.bool false,.slice none 0 0] 184)).alloc (.cells #[.bool false,.slice none 0 0] 184))=W0 at *
 generalize hk:w.heap.size=k at *
 have HK:=Ha hk;clear hk
 have HBX:=Ha hbx
 clear hbx
 refine (CD.out W0 HBX.out.below).mono ?_
 rintro e w1 ⟨q,r,rfl,hq,hr,hqf,hrf,hB⟩
 have HB1:=Ha (HBX.out.next hB)
 obtain ⟨pq,cq,rfl⟩:=hq.shape
 obtain ⟨pr,cr,rfl⟩:=hr.shape
 have HV:=Ha (Hb hq (Hb hr (Hb hqf (Hb hrf hB))))
 clear hq hr hqf hrf hB CD
 obtain ⟨c1,c2,c3,c4,c5,c6,c7,c8,f5,f6,f7,f8,hsz,_⟩:=HB1.out
 by_cases hr0:a % b=0
 ·have HZ:=Ha hr0
  have hlr:(dg (a % b)).length=0:=by rw [hr0,av];rfl
  generalize (dg (a / b)).length=lq at *
  generalize (dg (a % b)).length=lr at *
  subst hlr
  clear hr0
  go_wp2
  go_region_held3 (fun w'=>w'.cell? ⟨k,0,none⟩=some (.bool na)∧w'.cell? ⟨k+1,0,none⟩=some (.bool nb)∧w'.frozen? ⟨k+1+1,0,none⟩=false∧w'.frozen? ⟨k+1+1,1,none⟩=false∧w'.frozen? ⟨k+1+1+1,0,none⟩=false∧w'.frozen? ⟨k+1+1+1,1,none⟩=false)
   (first | (go_keep;done) | ((try dsimp only);refine ⟨?_,?_,?_,?_,?_,?_⟩ <;> (first | (exact dU (by omega) (by assumption)) | (go_keep;done) | (simp [go_sem, *];done))))
   (fail)
  have hback:=kW c5 c6 c7 c8 (.bool true) (.slice pq lq cq) (.bool nb) (.slice pr 0 cr)
  have HP:=Ha (Hb (fun v n h hf => @kZ w1 k v n h hf (.bool true) (.slice pq lq cq) (.bool nb) (.slice pr 0 cr)) (jB (k:=k) HB1.out.below (Nat.le_refl _) (.bool true) (.slice pq lq cq) (.bool nb) (.slice pr 0 cr)))
  unfold put4 at hback HP
  generalize (((w1.setCell ⟨k+1+1,0,none⟩ (.bool true)).setCell ⟨k+1+1,1,none⟩ (.slice pq lq cq)).setCell ⟨k+1+1+1,0,none⟩ (.bool nb)).setCell ⟨k+1+1+1,1,none⟩ (.slice pr 0 cr)=W4 at *
  obtain ⟨g5,g6,g7,g8⟩:=hback
  clear c1 c2 c3 c4 c5 c6 c7 c8 f5 f6 f7 f8
  go_wp2
  refine bodyPost_ret (v := .tuple #[.agg #[.bool true,.slice pq lq cq],.agg #[.bool nb,.slice pr 0 cr]]) (by simp [results,Tryz.results181,go_sem,g5,g6,g7,g8]) rfl ?_
  obtain ⟨hq,hr,hqf,hrf,hB⟩:=HV.out
  obtain ⟨ha,hb,h0,hla⟩:=HH.out
  have hs:=HBX.out.size
  have hs1:=HB1.out.size
  have fb:∀ v,Fresh W0.heap.size v→v.ownBlock≠some (k+1+1)∧v.ownBlock≠some (k+1+1+1):=fun v hv=>⟨fun e=>by have:=hv _ e;omega,fun e=>by have:=hv _ e;omega⟩
  have HR:=HZ.out
  refine ⟨_,_,a / b,a % b,rfl,HP.out.1 _ _ hq (.inr (fb _ hqf)),HP.out.1 _ _ hr (.inl (by rw [HR,av])),.inl ⟨HR,rfl,rfl⟩,by rw [HK.out];exact HP.out.2.drew⟩
 ·have hlr:0<(dg (a % b)).length:=aR hr0
  have c66:Calls Tryz.prog 212 #[.slice pq (dg (a / b)).length cq,.slice (some ⟨w1.heap.size,0,none⟩) 1 1] (w1.alloc (.cells #[.int .u64 1] 143)).drew fun e W'=>∃ v,e = .returned v∧IsNat W' v (a / b+1)∧Fresh w1.heap.size v∧Below w1.heap.size w1 W':=by
   obtain ⟨hq,hr,hqf,hrf,hB⟩:=HV.out
   obtain ⟨ha,hb,h0,_⟩:=HH.out
   obtain ⟨hla,hlb⟩:=HLL.out
   obtain ⟨hea,heb⟩:=HEL.out
   have hb1:Below w1.heap.size w1 (w1.alloc (.cells #[.int .u64 1] 143)).drew:=((Below.refl _ w1).alloc (Nat.le_refl _) _).drew
   have h1:IsNat (w1.alloc (.cells #[.int .u64 1] 143)).drew (.slice (some ⟨w1.heap.size,0,none⟩) 1 1) 1:=by
    show Nats _ _ (dg 1)
    rw [show dg 1 = [1] by decide+kernel]
    exact Nats.of_cells (l := [1]) (Nat.le_refl _) (by decide) (fun i hi=>by
     match i,hi with
     | 0,_=>go_cell)
   refine (mu _ _ (a / b) 1 _ (hq.next hb1) h1 ?_ (by rw [show dg 1 = [1] by decide+kernel];decide)).mono ?_
   ·have:=aC (Nat.div_le_self a b);omega
   ·rintro e W' ⟨v,rfl,hv,hf,hb⟩
    exact ⟨v,rfl,hv,hf.mono hb1.size,hb1.trans (hb.mono hb1.size)⟩
  have c67:∀ W,Below w1.heap.size w1 W→Calls Tryz.prog 219 #[.slice pb lb cb,.slice pr (dg (a % b)).length cr] W fun e W'=>∃ v,e = .returned v∧IsNat W' v (b - a % b)∧Fresh W.heap.size v∧Below W.heap.size W W':=fun W hW=>by
   obtain ⟨hq,hr,hqf,hrf,hB⟩:=HV.out
   obtain ⟨ha,hb,h0,_⟩:=HH.out
   obtain ⟨hla,hlb⟩:=HLL.out
   obtain ⟨hea,heb⟩:=HEL.out
   have hb:IsNat w (.slice pb (dg b).length cb) b:=by rw [heb];exact hb
   rw [←heb]
   exact fP _ _ b (a % b) W (hb.next ((by rw [HK.out];exact HB1.out.below.trans (hW.mono (by omega))))) (hr.next hW) (by omega) (Nat.le_of_lt (Nat.mod_lt _ (by omega)))
  have C66:=Ha c66
  have C67:=Ha c67
  clear c66 c67
  generalize (dg (a / b)).length=lq at *
  generalize (dg (a % b)).length=lr at *
  have hlr2:(0:Int)<(lr:Int):=by omega
  go_wp2
  go_region_held3 (fun w'=>w'.cell? ⟨k+1,1,none⟩=some (.slice pb lb cb)) ((go_keep;done))
   (first
    | (go_at_call 212;refine C66.out.mono ?_;rintro e w2 ⟨v2,rfl,hv2,hf2,hb2⟩;obtain ⟨p2,cq2,rfl⟩:=hv2.shape;have e4:w2.cell? ⟨k+1,1,none⟩=some (.slice pb lb cb):=(hb2.cell (p:=⟨k+1,1,none⟩) (by show k+1<_;omega)).trans c4;have HS2:=Ha (Hb hv2 (Hb hf2 hb2));clear hv2 hf2 hb2)
    | (go_at_call 219;refine (C67.out _ HS2.out.2.2).mono ?_;rintro e w3 ⟨v3,rfl,hv3,hf3,hb3⟩;obtain ⟨p3,cr3,rfl⟩:=hv3.shape;have e5:w3.cell? ⟨k+1,1,none⟩=some (.slice pb lb cb):=(hb3.cell (p:=⟨k+1,1,none⟩) (by have:=HS2.out.2.2.size;show k+1<_;omega)).trans e4;have HS3:=Ha (Hb hv3 (Hb hf3 hb3));clear hv3 hf3 hb3))
  have hbw:Below w1.heap.size w1 w3:=HS2.out.2.2.trans (HS3.out.2.2.mono HS2.out.2.2.size)
  have HB3:=Ha (HB1.out.next hbw)
  clear c1 c2 c3 c4 c5 c6 c7 c8 f5 f6 f7 f8 e4 e5 hsz hbw
  obtain ⟨c1,c2,c3,c4,c5,c6,c7,c8,f5,f6,f7,f8,hsz,_⟩:=HB3.out
  generalize (dg (a / b+1)).length=l2 at *
  generalize (dg (b - a % b)).length=l3 at *
  go_wp2
  go_region_held3 (fun w'=>w'.cell? ⟨k,0,none⟩=some (.bool na)∧w'.cell? ⟨k+1,0,none⟩=some (.bool nb)∧w'.frozen? ⟨k+1+1,0,none⟩=false∧w'.frozen? ⟨k+1+1,1,none⟩=false∧w'.frozen? ⟨k+1+1+1,0,none⟩=false∧w'.frozen? ⟨k+1+1+1,1,none⟩=false)
   (first | (go_keep;done) | ((try dsimp only);refine ⟨?_,?_,?_,?_,?_,?_⟩ <;> (first | (exact dU (by omega) (by assumption)) | (go_keep;done) | (simp [go_sem, *];done))))
   (fail)
  have hback:=kW c5 c6 c7 c8 (.bool true) (.slice p2 l2 cq2) (.bool nb) (.slice p3 l3 cr3)
  have HP:=Ha (Hb (fun v n h hf => @kZ w3 k v n h hf (.bool true) (.slice p2 l2 cq2) (.bool nb) (.slice p3 l3 cr3)) (jB (k:=k) HB3.out.below (Nat.le_refl _) (.bool true) (.slice p2 l2 cq2) (.bool nb) (.slice p3 l3 cr3)))
  unfold put4 at hback HP
  generalize (((w3.setCell ⟨k+1+1,0,none⟩ (.bool true)).setCell ⟨k+1+1,1,none⟩ (.slice p2 l2 cq2)).setCell ⟨k+1+1+1,0,none⟩ (.bool nb)).setCell ⟨k+1+1+1,1,none⟩ (.slice p3 l3 cr3)=W4 at *
  obtain ⟨g5,g6,g7,g8⟩:=hback
  clear c1 c2 c3 c4 c5 c6 c7 c8 f5 f6 f7 f8
  go_wp2
  refine bodyPost_ret (v := .tuple #[.agg #[.bool true,.slice p2 l2 cq2],.agg #[.bool nb,.slice p3 l3 cr3]]) (by simp [results,Tryz.results181,go_sem,g5,g6,g7,g8]) rfl ?_
  obtain ⟨hq,hr,hqf,hrf,hB⟩:=HV.out
  have hs:=HBX.out.size
  have hs1:=HB1.out.size
  have fb:∀ v,Fresh W0.heap.size v→v.ownBlock≠some (k+1+1)∧v.ownBlock≠some (k+1+1+1):=fun v hv=>⟨fun e=>by have:=hv _ e;omega,fun e=>by have:=hv _ e;omega⟩
  obtain ⟨hq2,hqf2,hb2⟩:=HS2.out
  obtain ⟨hr3,hrf3,hb3⟩:=HS3.out
  have f2:=hqf2.mono hB.size
  have f3:=hrf3.mono (Nat.le_trans hB.size hb2.size)
  refine ⟨_,_,a / b+1,b - a % b,rfl,HP.out.1 _ _ (hq2.next hb3) (.inr (fb _ f2)),HP.out.1 _ _ hr3 (.inr (fb _ f3)),.inr ⟨hr0,rfl,rfl⟩,by rw [HK.out];exact HP.out.2.drew⟩
end Go.Proofs.YtjdomibbaemdnaaGreatDoor
