/- Parts of the proof of the text YtocalfjfjjljnaaGreatDoorZO44. -/
import Derived.Test.YtocalfjfjjljnaaGreatDoorZO1
import Derived.Test.YtocalfjfjjljnaaGreatDoorZO26
set_option linter.all false
set_option maxRecDepth 100000
set_option maxHeartbeats 8000000
namespace Go.Proofs.YtocalfjfjjljnaaGreatDoor
namespace R
open Go.RowKit
theorem od (w:World) (e:TypeId) (base:Nat) (hb:base≤w.heap.size):(w.alloc (.cells #[] e)).ownsRow base e 1 (.slice (some ⟨w.heap.size,0,none⟩) 0 0) 0 (ae []):=by
 refine ⟨rfl,.inr ⟨w.heap.size,0,#[],rfl,hb,Array.getElem?_push_size,Nat.le_refl _,by decide,rfl,rfl⟩⟩
theorem o6 {w:World} {base:Nat} {e:TypeId} {size:Nat} {v:Value} {n:Nat} {xs:List Value} (h:w.ownsRow base e size v n xs) (k:Nat):(w.drewN k).ownsRow base e size v n xs:=h
theorem wu {la lb o:List Nat} {j c:Nat} (hv:toN o+B ^ j*c=toN (la.take j)+toN (lb.take j)) (hl:o.length=j) :
  toN (o ++ [(la.getD j 0+lb.getD j 0+c) % 1000000])+B ^ (j+1)*((la.getD j 0+lb.getD j 0+c) / 1000000)=toN (la.take (j+1))+toN (lb.take (j+1)):=by
 rw [aS,hl,dJ la,dJ lb,Nat.pow_succ,Nat.mul_assoc]
 generalize la.getD j 0=x at *
 generalize lb.getD j 0=y at *
 have e1:B ^ j*(x+y+c)=B ^ j*((x+y+c) % 1000000)+B ^ j*(B*((x+y+c) / 1000000)):=by
  rw [←Nat.mul_add];congr 1;rw [dS];omega
 rw [Nat.mul_add,Nat.mul_add] at e1
 omega
theorem lp (va vb:Value) (la lb:List Nat) (w:World) (ha:Nats w va la) (hb:Nats w vb lb) (da:Dig la) (db:Dig lb) (hla:la.length≤1000000) (hlb:lb.length≤1000000) :
  Calls Tryz.prog 151 #[va,vb] w fun e W'=>∃ v,e = .returned v∧IsNat W' v (toN la+toN lb)∧Fresh w.heap.size v∧Below w.heap.size w W':=by
 obtain ⟨M,hM⟩:∃ M,max la.length lb.length=M:=⟨_,rfl⟩
 have hm1:la.length≤M:=by rw [←hM];exact Nat.le_max_left _ _
 have hm2:lb.length≤M:=by rw [←hM];exact Nat.le_max_right _ _
 have hm3:M≤1000000:=by rw [←hM];exact Nat.max_le.2 ⟨hla,hlb⟩
 have HM:=Ha (show M=la.length∨M=lb.length by rw [←hM];omega)
 clear hM
 have cl1:=fun (j:Nat) W (h:Below w.heap.size w W) (hj:j≤1000001)=>gp va la j W (ha.next h) (by omega)
 have cl2:=fun (j:Nat) W (h:Below w.heap.size w W) (hj:j≤1000001)=>gp vb lb j W (hb.next h) (by omega)
 have CL:=Ha (Hb cl1 cl2)
 have HD:=Ha (Hb da db)
 obtain ⟨i0,hi,hz0,hz1,hz2⟩:=info_parts io
 have HI:=Ha (Hb hi (Hb hz0 (Hb hz1 hz2)));clear hi hz0 hz1 hz2
 obtain ⟨pa,ca,rfl,a1,a2,_⟩:=ha
 obtain ⟨pb,cb,rfl,b1,b2,_⟩:=hb
 clear da db cl1 cl2
 go_enter Tryz.func151,Tryz.ntmps151
 go_wp2
 have ho:=od w 3 w.heap.size (Nat.le_refl _)
 have hB0:Below w.heap.size w (w.alloc (.cells #[] 3)):=(Below.refl _ _).alloc (Nat.le_refl _) _
 generalize w.alloc (.cells #[] 3)=W0 at *
 go_loopw [5,6,7] (fun x y z wr=>∃ (c j:Nat) (o:List Nat),j≤M+1∧y = .int .i64 c∧z = .int .i64 j∧c≤1∧(j=M+1→c=0)∧o.length=j∧wr.ownsRow w.heap.size 3 1 x j (ae o)∧Hid (Dig o)∧Hid (toN o+B ^ j*c=toN (la.take j)+toN (lb.take j))∧Below w.heap.size w wr)
  (fun _ _ z _=>M+1 - (intOf z).toNat)
 case atStart=>exact ⟨0,0,[],Nat.zero_le _,rfl,rfl,by omega,by omega,rfl,ho,Dig.nil,by show toN []+B ^ 0*0=_;simp [toN],hB0⟩
 case round =>
  clear ho hB0
  obtain ⟨c,j,o,hj,rfl,rfl,hc,hc0,hlen,hown,hdig,hval,hbel⟩:=hrel
  have hsz:=hbel.size
  by_cases hcont:j<la.length∨j<lb.length∨0<c
  ·have hjM:j≤M:=by omega
   have hx:=HD.out.1.getD j
   have hy:=HD.out.2.getD j
   have HS:=Ha (wu hval.out hlen)
   have k1:=fun W h=>CL.out.1 j W h (by omega)
   have k2:=fun W h=>CL.out.2 j W h (by omega)
   have hlast:Hid (j=M→la.getD j 0+lb.getD j 0=0):=fun e=>by rw [jR (by omega),jR (by omega)]
   generalize la.getD j 0=x at *
   generalize lb.getD j 0=y at *
   have KK:=Ha (Hb k1 k2)
   have HT1:=Ha (show ((((x+y+c) / 1000000:Nat)):Int)=((x:Int)+(y:Int)+(c:Int)) / 1000000 by omega)
   have HT2:=Ha (show ((((x+y+c) % 1000000:Nat)):Int)=((x:Int)+(y:Int)+(c:Int)) % 1000000 by omega)
   have HO:=Ha hown
   have HB:=Ha hbel
   have hways:((j:Int)<(la.length:Int))∨(¬ ((j:Int)<(la.length:Int))∧(j:Int)<(lb.length:Int))∨(¬ ((j:Int)<(la.length:Int))∧¬ ((j:Int)<(lb.length:Int))∧0<(c:Int)):=by omega
   have HNX:=Ha (show j+1≤M+1∧(j+1=M+1→(x+y+c) / 1000000=0)∧(x+y+c) / 1000000≤1∧(x+y+c) % 1000000<1000000 from
    ⟨by omega,fun e=>by have:=hlast.out (by omega);omega,by omega,by omega⟩)
   clear k1 k2 hval hown hbel hcont hlast hc0
   generalize la.length=na at *
   generalize lb.length=nb at *
   rcases hways with g1 | ⟨g1,g2⟩ | ⟨g1,g2,g3⟩
   all_goals
    go_wp2_with fail
    refine (KK.out.1 _ HB.out).mono ?_
    rintro e w' ⟨rfl,rfl⟩
    go_wp2_with fail
    refine (KK.out.2 _ HB.out).mono ?_
    rintro e w' ⟨rfl,rfl⟩
    go_wp2_with (at_builtin;refine wpList_append_own _ rfl _ _ 124 rfl w.heap.size 3 i0 (.int .i64 0) 1 8 Tryz.underlying124 HI.out.1 HI.out.2.1 HI.out.2.2.1 HI.out.2.2.2 rfl (by decide) _ _ _ rfl (HO.out.alloc _) ⟨wr.heap.size,0,none⟩ 1 1 [.int .i64 (((x:Int)+(y:Int)+(c:Int)) % 1000000)] rfl rfl (cell_one_new _ _ _) (by simp [Value.oneCell']) (by unfold maxLen;omega) (by omega) (by simp;omega) ?_;intro v' w2 hown' hgrow _;have HO2:=Ha hown';have HG2:=Ha hgrow;clear hown' hgrow)
    go_roundw
    case rel =>
     obtain ⟨s1,s2,s3,s4⟩:=HNX.out
     refine ⟨(x+y+c) / 1000000,j+1,o ++ [(x+y+c) % 1000000],s1,by rw [HT1.out],by go_num,s3,s2,by simp [hlen],?_,hdig.out.append (Dig.one s4),HS.out,?_⟩
     ·rw [←bB,HT2.out];exact HO2.out
     ·exact (HB.out.alloc hsz _).grown HG2.out (by simp;omega) (fun k hk=>(HO.out.lt k hk).1)
    case measure=>simp [intOf];omega
  ·have g1:¬ ((j:Int)<(la.length:Int)):=by omega
   have g2:¬ ((j:Int)<(lb.length:Int)):=by omega
   have g3:¬ (0<(c:Int)):=by omega
   have hv:toN o=toN la+toN lb:=by
    have:=hval.out
    rw [List.take_of_length_le (by omega),List.take_of_length_le (by omega),show c=0 by omega,Nat.mul_zero,Nat.add_zero] at this
    exact this
   subst hlen
   have hn:=bv hown
   have ct:=ln _ _ _ hn hdig.out
   rw [hv] at ct
   have CT:=Ha ct
   have HO:=Ha hown
   have HB:=Ha hbel
   clear hval hown hbel ct hn hv hcont hc0
   generalize la.length=na at *
   generalize lb.length=nb at *
   go_wp2_with fail
   refine CT.out.mono ?_
   clear CT
   rintro e w' ⟨rfl,v',rfl,hN',ho'⟩
   go_wp2
   go_ret
   exact ⟨_,rfl,hN',fun k hk=>by have hk:v'.ownBlock=some k:=hk;rw [ho'] at hk;exact (HO.out.lt k hk).1,HB.out⟩
theorem tQ {la lb o:List Nat} {j br:Nat} {n:Int} {d br':Nat} (hv:toN o+toN (lb.take j)=toN (la.take j)+B ^ j*br) (hl:o.length=j)
  (hd:(d:Int)=(la.getD j 0:Nat) - (lb.getD j 0:Nat) - br+1000000*br') (_hn:n=0) :
  toN (o ++ [d])+toN (lb.take (j+1))=toN (la.take (j+1))+B ^ (j+1)*br':=by
 rw [aS,hl,dJ la,dJ lb,Nat.pow_succ,Nat.mul_assoc]
 generalize la.getD j 0=x at *
 generalize lb.getD j 0=y at *
 have e0:d+y+br=x+B*br':=by rw [dS];omega
 have e1:B ^ j*(d+y+br)=B ^ j*(x+B*br'):=by rw [e0]
 rw [Nat.mul_add,Nat.mul_add,Nat.mul_add] at e1
 omega
theorem jS (va vb:Value) (la lb:List Nat) (w:World) (ha:Nats w va la) (hb:Nats w vb lb) (da:Dig la) (db:Dig lb) (hla:la.length≤1000000) (hlb:lb.length≤la.length) (hle:toN lb≤toN la) :
  Calls Tryz.prog 148 #[va,vb] w fun e W'=>∃ g cap,e = .returned (.slice (some ⟨g,0,none⟩) (dg (toN la - toN lb)).length cap)∧IsNat W' (.slice (some ⟨g,0,none⟩) (dg (toN la - toN lb)).length cap) (toN la - toN lb)∧w.heap.size≤g∧Below w.heap.size w W':=by
 have cl2:=fun (j:Nat) W (h:Below w.heap.size w W) (hj:j≤1000001)=>gp vb lb j W (hb.next h) (by omega)
 have CL:=Ha cl2
 have HD:=Ha (Hb da db)
 obtain ⟨i0,hi,hz0,hz1,hz2⟩:=info_parts io
 have HI:=Ha (Hb hi (Hb hz0 (Hb hz1 hz2)));clear hi hz0 hz1 hz2
 obtain ⟨pa,ca,rfl,a1,a2,a3⟩:=ha
 obtain ⟨pb,cb,rfl,b1,b2,_⟩:=hb
 have HA:=Ha a3
 have HLE:=Ha hle
 clear da db cl2 a3 hle
 go_enter Tryz.func148,Tryz.ntmps148
 go_wp2
 have ho:=od w 3 w.heap.size (Nat.le_refl _)
 have hB0:Below w.heap.size w (w.alloc (.cells #[] 3)):=(Below.refl _ _).alloc (Nat.le_refl _) _
 generalize w.alloc (.cells #[] 3)=W0 at *
 go_loopw [5,6,7] (fun x y z wr=>∃ (c j:Nat) (o:List Nat),j≤la.length∧y = .int .i64 c∧z = .int .i64 j∧c≤1∧o.length=j∧wr.ownsRow w.heap.size 3 1 x j (ae o)∧Hid (x ≠ .slice none 0 0)∧Hid (Dig o)∧Hid (toN o+toN (lb.take j)=toN (la.take j)+B ^ j*c)∧Below w.heap.size w wr)
  (fun _ _ z _=>la.length - (intOf z).toNat)
 case atStart=>exact ⟨0,0,[],Nat.zero_le _,rfl,rfl,by omega,rfl,ho,(fun e=>by cases e),Dig.nil,by show toN []+_=_;simp [toN],hB0⟩
 case round =>
  clear ho hB0
  obtain ⟨c,j,o,hj,rfl,rfl,hc,hlen,hown,hnn,hdig,hval,hbel⟩:=hrel
  have hsz:=hbel.size
  by_cases hjl:j<la.length
  ·obtain ⟨ab,aoff,rfl,hca⟩:=HA.out (by intro e;subst e;simp at hjl)
   have hx:=HD.out.1.getD j
   have hy:=HD.out.2.getD j
   have ca0:=hca j hjl
   have cax:wr.cell? ⟨ab,aoff+j,none⟩=some (.int .i64 (la.getD j 0:Nat)):=(hbel.cell (p:=⟨ab,aoff+j,none⟩) (World.block_lt_of_cell? w _ ca0)).trans ca0
   clear ca0 hca
   have k2:∀ q,Calls Tryz.prog 147 #[.slice pb lb.length cb,.int .i64 (j:Nat)] (wr.drewN q) fun e w'=>e = .returned (.int .i64 (lb.getD j 0:Nat))∧w'=wr.drewN q:=fun q=>(CL.out j _ (hbel.trans (Below.drewK _ _ q)) (by omega)).mono (fun e w' (hh:_∧_)=>Hb hh.1 hh.2.symm)
   have HS:=Ha (fun d br' h=>tQ (n:=0) (d:=d) (br':=br') hval.out hlen h rfl)
   generalize la.getD j 0=x at *
   generalize lb.getD j 0=y at *
   have KK:=Ha k2
   have HO:=Ha hown
   have HB:=Ha hbel
   clear k2 hval hown hbel
   have hj1:(j:Int)<(la.length:Int):=by omega
   generalize la.length=na at *
   go_wp2
   go_quiet ((go_at_call 147;exact Calls.quiet_of_same (KK.out _)))
   have HB1:=Ha (HB.out.trans (Below.drewK _ _ nq))
   have HO1:=Ha (o6 HO.out nq)
   clear HB HO cax KK
   generalize wr.drewN nq=W1 at *
   have hsz1:=HB1.out.size
   by_cases hneg:x<y+c
   ·have g:((x:Int) - (y:Int) - (c:Int)<0):=by omega
    have HE:=Ha (show (((x+1000000 - y - c:Nat)):Int)=(x:Int) - (y:Int) - (c:Int)+1000000 by omega)
    have HV:=Ha (HS.out (x+1000000 - y - c) 1 (by omega))
    go_wp2_with (at_builtin;refine wpList_append_own _ rfl _ _ 124 rfl w.heap.size 3 i0 (.int .i64 0) 1 8 Tryz.underlying124 HI.out.1 HI.out.2.1 HI.out.2.2.1 HI.out.2.2.2 rfl (by decide) _ _ _ rfl (HO1.out.alloc _) ⟨W1.heap.size,0,none⟩ 1 1 [.int .i64 ((x:Int) - (y:Int) - (c:Int)+1000000)] rfl rfl (cell_one_new _ _ _) (by simp [Value.oneCell']) (by unfold maxLen;omega) (by omega) (by simp;omega) ?_;intro v' w2 hown' hgrow hiff;have HNN:=Ha (fun e=>hnn.out (hiff.1 e).1);clear hiff;have HO2:=Ha hown';have HG2:=Ha hgrow;clear hown' hgrow)
    go_roundw
    case rel =>
     refine ⟨1,j+1,o ++ [x+1000000 - y - c],by omega,rfl,by go_num,by omega,by simp [hlen],?_,HNN.out,hdig.out.append (Dig.one (by omega)),HV.out,?_⟩
     ·rw [←bB,HE.out];exact HO2.out
     ·exact (HB1.out.alloc hsz1 _).grown HG2.out (by simp;omega) (fun k hk=>(HO1.out.lt k hk).1)
    case measure=>simp [intOf];omega
   ·have g:¬ ((x:Int) - (y:Int) - (c:Int)<0):=by omega
    have HE:=Ha (show (((x - y - c:Nat)):Int)=(x:Int) - (y:Int) - (c:Int) by omega)
    have HV:=Ha (HS.out (x - y - c) 0 (by omega))
    go_wp2_with (at_builtin;refine wpList_append_own _ rfl _ _ 124 rfl w.heap.size 3 i0 (.int .i64 0) 1 8 Tryz.underlying124 HI.out.1 HI.out.2.1 HI.out.2.2.1 HI.out.2.2.2 rfl (by decide) _ _ _ rfl (HO1.out.alloc _) ⟨W1.heap.size,0,none⟩ 1 1 [.int .i64 ((x:Int) - (y:Int) - (c:Int))] rfl rfl (cell_one_new _ _ _) (by simp [Value.oneCell']) (by unfold maxLen;omega) (by omega) (by simp;omega) ?_;intro v' w2 hown' hgrow hiff;have HNN:=Ha (fun e=>hnn.out (hiff.1 e).1);clear hiff;have HO2:=Ha hown';have HG2:=Ha hgrow;clear hown' hgrow)
    go_roundw
    case rel =>
     refine ⟨0,j+1,o ++ [x - y - c],by omega,rfl,by go_num,by omega,by simp [hlen],?_,HNN.out,hdig.out.append (Dig.one (by omega)),HV.out,?_⟩
     ·rw [←bB,HE.out];exact HO2.out
     ·exact (HB1.out.alloc hsz1 _).grown HG2.out (by simp;omega) (fun k hk=>(HO1.out.lt k hk).1)
    case measure=>simp [intOf];omega
  ·have g1:¬ ((j:Int)<(la.length:Int)):=by omega
   have hv:toN o=toN la - toN lb:=by
    have h1:=hval.out
    rw [List.take_of_length_le (by omega),List.take_of_length_le (by omega)] at h1
    have h2:=cK hdig.out
    rw [hlen] at h2
    have h3:=HLE.out
    have h4:c=0∨c=1:=by omega
    rcases h4 with rfl | rfl
    ·omega
    ·rw [Nat.mul_one] at h1;omega
   subst hlen
   obtain ⟨g,cap,cur,rfl,hgb,hh,hn1,hcap,hsz2,htk⟩:=hown.2.resolve_left (fun e=>hnn.out e.1)
   have hn:=bv hown
   have ct:=jQ _ _ _ _ hn hdig.out
   have hn2:=hn.take (aL hdig.out)
   rw [hv] at ct hn2
   have CT:=Ha ct
   have HN:=Ha hn2
   have HB:=Ha hbel
   have HG:=Ha hgb
   clear hval hown hbel ct hn hv hn2 hh hn1 hsz2 htk hgb
   generalize la.length=na at *
   generalize lb.length=nb at *
   generalize o.length=no at *
   go_wp2_with fail
   refine CT.out.mono ?_
   clear CT
   rintro e w' ⟨rfl,rfl⟩
   go_wp2
   go_ret
   exact ⟨g,cap,rfl,HN.out,HG.out,HB.out⟩
end R
namespace R
open Go.RowKit
theorem yl {o:List Nat} {i j x c S:Nat} {b:List Nat} (hk:i+j<o.length) (ho:Dig o) (hb:Dig b) (hx:x<1000000) (hc:c<1000000)
  (h:toN o+B ^ (i+j)*c=S+B ^ i*(x*toN (b.take j))) :
  toN (o.set (i+j) ((o.getD (i+j) 0+x*b.getD j 0+c) % 1000000))+B ^ (i+(j+1))*((o.getD (i+j) 0+x*b.getD j 0+c) / 1000000)=S+B ^ i*(x*toN (b.take (j+1))):=by
 obtain ⟨_,_,h3⟩:=jk hk ho hx (hb.getD j) hc
 rw [←Nat.add_assoc i j 1]
 refine h3.trans ?_
 rw [dJ b j,Nat.mul_add x,Nat.mul_add (B ^ i),Nat.mul_add (B ^ (i+j))]
 have h4:B ^ i*(x*(B ^ j*b.getD j 0))=B ^ (i+j)*(x*b.getD j 0):=by
  rw [Nat.pow_add,Nat.mul_assoc];congr 1
  rw [←Nat.mul_assoc,←Nat.mul_assoc,Nat.mul_comm x]
 omega
theorem jT (va vb:Value) (la lb:List Nat) (w:World) (ha:Nats w va la) (hb:Nats w vb lb) (da:Dig la) (db:Dig lb) (hla:la.length≤100000) (hlb:lb.length≤100000) :
  Calls Tryz.prog 149 #[va,vb] w fun e W'=>∃ v,e = .returned v∧IsNat W' v (toN la*toN lb)∧Fresh w.heap.size v∧Below w.heap.size w W':=by
 have cl2:=fun (j:Nat) W (h:Below w.heap.size w W) (hj:j≤1000001)=>gp vb lb j W (hb.next h) (by omega)
 have CL:=Ha cl2
 obtain ⟨pa,capa,rfl,ha1,ha2,ha3⟩:=ha
 obtain ⟨pb,capb,rfl,hb1,hb2,_⟩:=hb
 have HA:=Ha ha3;clear ha3 cl2
 obtain ⟨i0,hi,hz0,hz1,hz2⟩:=info_parts io
 have HI:=Ha (Hb hi (Hb hz0 (Hb hz1 hz2)));clear hi hz0 hz1 hz2
 have HD:=Ha (Hb da db);clear da db
 go_enter Tryz.func149,Tryz.ntmps149
 go_wp2_with (at_make;refine wpList_make_full _ rfl _ _ 124 rfl w.heap.size 3 i0 (.int .i64 0) 1 Tryz.underlying124 HI.out.1 HI.out.2.1 HI.out.2.2.1 .i64 .i64 _ _ (la.length+lb.length+1) rfl rfl (by omega) (by omega) (by rw [HI.out.2.2.2];omega) (by unfold maxLen;omega) (Nat.le_refl _) ?_;intro w1 hown hgrow)
 have hrow:=Row.of_made hown
 have hB1:Below w.heap.size w w1:=(Below.refl _ w).grown hgrow (Nat.le_refl _) (fun k e=>by cases e)
 have hgl:=hrow.lt
 clear hown hgrow
 generalize hg:w.heap.size=g at *
 have HG:=Ha hg;clear hg
 go_loopw [6] (fun x wr=>∃ (k:Nat) (o:List Nat),k≤la.length∧x = .int .i64 k∧Row wr g o∧o.length=la.length+lb.length+1∧Hid (Dig o)∧Hid (toN o=toN (la.take k)*toN lb)∧Hid (∀ m,k+lb.length≤m→o.getD m 0=0)∧Below g w wr)
  (fun x _=>la.length - (intOf x).toNat)
 case atStart =>
  exact ⟨0,List.replicate (la.length+lb.length+1) 0,Nat.zero_le _,rfl,hrow,List.length_replicate,Dig.replicate _,by show toN _=_;rw [fp];simp [toN],fun m _=>by rw [List.getD_eq_getElem?_getD,List.getElem?_replicate];split <;> rfl,hB1⟩
 case round =>
  clear hrow hB1 hgl
  obtain ⟨k,o,hk,rfl,hrow,hlen,hdig,hval,hzero,hbel⟩:=hrel
  by_cases hlt:k<la.length
  ·obtain ⟨ab,aoff,rfl,hca⟩:=HA.out (by intro e;subst e;simp at hlt)
   have hx:=HD.out.1.getD k
   have ca0:=hca k hlt
   have HCA:=Ha (fun W (h:Below g w W)=>(h.cell (p:=⟨ab,aoff+k,none⟩) (by rw [←HG.out];exact World.block_lt_of_cell? w _ ca0)).trans ca0)
   clear ca0 hca
   have hstart:Hid (toN o+B ^ (k+0)*0=toN (la.take k)*toN lb+B ^ k*(la.getD k 0*toN (lb.take 0))):=by
    show toN o+B ^ (k+0)*0=_
    rw [hval.out];simp [toN]
   clear hval
   have HFIN:=Ha (show toN (la.take k)*toN lb+B ^ k*(la.getD k 0*toN lb)=toN (la.take (k+1))*toN lb by rw [aw la k hlt,Nat.add_mul,Nat.mul_assoc])
   have HI2:=Ha (fun o j c h1 h3 h4 h=>yl (o:=o) (i:=k) (j:=j) (x:=la.getD k 0) (c:=c) (S:=toN (la.take k)*toN lb) (b:=lb) h1 h3 HD.out.2 hx h4 h)
   have HS:=Ha (fun o j c (h1:k+j<List.length o) h2 h4=>jk (o:=o) (k:=k+j) (x:=la.getD k 0) (y:=lb.getD j 0) (c:=c) h1 h2 hx (HD.out.2.getD j) h4)
   generalize la.getD k 0=x at *
   obtain ⟨wo,hwo⟩:∃ wo:World,wo=wr:=⟨_,rfl⟩
   subst hwo
   go_wp2
   go_loopw [7,8] (fun y z wr=>∃ (c j:Nat) (o:List Nat),j≤lb.length+1∧y = .int .i64 c∧z = .int .i64 j∧c<1000000∧(j=lb.length+1→c=0)∧Row wr g o∧o.length=la.length+lb.length+1∧Hid (Dig o) ∧
     Hid (toN o+B ^ (k+j)*c=toN (la.take k)*toN lb+B ^ k*(x*toN (lb.take j)))∧Hid (∀ m,k+lb.length+1≤m→o.getD m 0=0)∧Hid (j≤lb.length→o.getD (k+lb.length) 0=0)∧Below g w wr)
    (fun _ z _=>lb.length+1 - (intOf z).toNat)
   case atStart=>exact ⟨0,0,o,Nat.zero_le _,rfl,rfl,by omega,by omega,hrow,hlen,hdig,hstart,fun m hm=>hzero.out m (by omega),fun _=>hzero.out _ (Nat.le_refl _),hbel⟩
   case round =>
    clear hrow hlen hdig hstart hzero hbel o
    obtain ⟨c,j,o,hj,rfl,rfl,hc,hc0,hrow,hlen,hdig,hval,hzero,hz2,hbel⟩:=hrel
    by_cases hcont:j<lb.length∨0<c
    ·have hjl:j≤lb.length:=by omega
     have hy:=HD.out.2.getD j
     have hko:k+j<o.length:=by omega
     have co:=hrow.cell hko
     have cax:=HCA.out _ hbel
     have hd:=hdig.out.getD (k+j)
     have S1:=HS.out o j c hko hdig.out hc
     have S2:=HI2.out o j c hko hdig.out hc hval.out
     have hxy:=fM hx hy
     have hlast:Hid (j=lb.length→(o.getD (k+j) 0+x*lb.getD j 0+c) / 1000000=0):=fun e=>by
      subst e
      rw [hz2.out (Nat.le_refl _),jR (Nat.le_refl _),Nat.mul_zero];omega
     have HZ:=Ha (Hb hzero.out hz2.out)
     have k2:∀ q,Calls Tryz.prog 147 #[.slice pb lb.length capb,.int .i64 (j:Nat)] (wr.drewN q) fun e w'=>e = .returned (.int .i64 (lb.getD j 0:Nat))∧w'=wr.drewN q:=fun q=>(CL.out j _ (hbel.trans (Below.drewK _ _ q)) (by omega)).mono (fun e w' (hh:_∧_)=>Hb hh.1 hh.2.symm)
     have KK:=Ha k2
     generalize hdd:o.getD (k+j) 0=d at *
     generalize lb.getD j 0=y at *
     have hP0:0≤(x:Int)*(y:Int):=by rw [←Int.natCast_mul];omega
     have hP1:(x:Int)*(y:Int)≤999998000001:=by rw [←Int.natCast_mul];omega
     have hT:(((d+x*y+c:Nat)):Int)=(d:Int)+(x:Int)*(y:Int)+(c:Int):=by rw [Int.natCast_add,Int.natCast_add,Int.natCast_mul]
     have hT1:((((d+x*y+c) / 1000000:Nat)):Int)=((d:Int)+(x:Int)*(y:Int)+(c:Int)) / 1000000:=by rw [Int.natCast_ediv,hT];rfl
     have hT2:((((d+x*y+c) % 1000000:Nat)):Int)=((d:Int)+(x:Int)*(y:Int)+(c:Int)) % 1000000:=by rw [Int.natCast_emod,hT];rfl
     have HT1:=Ha hT1
     have HT2:=Ha hT2
     have R1:=Ha S1;have R2:=Ha S2
     have hways:((j:Int)<(lb.length:Int))∨(¬ ((j:Int)<(lb.length:Int))∧0<(c:Int)):=by omega
     have hkk:(k:Int)<(la.length:Int):=by omega
     have hkj:(k:Int)+(j:Int)<(la.length:Int)+(lb.length:Int)+1:=by omega
     have HF:=Ha (Hb (show o.length=la.length+lb.length+1 from hlen) (Hb hcont hc0))
     clear hT hT1 hT2 S1 S2 hxy k2 hval hzero hz2 hdd hc0 hcont
     rcases hways with g1 | ⟨g1,g2⟩
     all_goals
      go_wp2
      go_quiet ((go_at_call 147;exact Calls.quiet_of_same (KK.out _)))
      have hr2:Row (wr.drewN nq) g o:=hrow
      have hb2:Below g w (wr.drewN nq):=hbel.trans (Below.drewK _ _ nq)
      clear co cax
      generalize wr.drewN nq=W1 at *
      have co:=hr2.cell hko
      have fo:=hr2.frozen (k+j)
      have R3:=hr2.set (k+j) ((d+x*y+c) % 1000000)
      rw [HT2.out] at R3
      have RR:=Ha R3;clear R3
      go_wp2
      go_roundw
      case rel =>
       obtain ⟨r1,r2,_⟩:=R1.out
       refine ⟨(d+x*y+c) / 1000000,j+1,o.set (k+j) ((d+x*y+c) % 1000000),by omega,by rw [HT1.out],by go_num,r1,fun e=>hlast.out (by omega),RR.out,by rw [List.length_set];exact hlen,hdig.out.set _ r2,R2.out,?_,?_,?_⟩
       ·exact fun m hm=>by rw [getD_set_ne _ _ _ _ (by omega)];exact HZ.out.1 m hm
       ·exact fun hm=>by rw [getD_set_ne _ _ _ _ (by omega)];exact HZ.out.2 (by omega)
       ·exact hb2.setCell (p:=⟨g,k+j,none⟩) (Nat.le_refl _) _
      case measure=>simp [intOf];omega
    ·have g1:¬ ((j:Int)<(lb.length:Int)):=by omega
     have g2:¬ (0<(c:Int)):=by omega
     have F1:toN o=toN (la.take (k+1))*toN lb:=by
      have:=hval.out
      rw [List.take_of_length_le (show lb.length≤j by omega),show c=0 by omega,Nat.mul_zero,Nat.add_zero] at this
      rw [this];exact HFIN.out
     have HF:=Ha F1;clear F1
     clear hval hz2
     go_wp2
     go_roundw
     case rel=>exact ⟨k+1,o,by omega,by go_num,hrow,hlen,hdig,HF.out,fun m hm=>hzero.out m (by omega),hbel⟩
     case measure=>simp [intOf];omega
  ·have ek:k=la.length:=by omega
   have hv:toN o=toN la*toN lb:=by have:=hval.out;rwa [ek,List.take_length] at this
   have hN0:Nats wr (.slice (some ⟨g,0,none⟩) o.length (la.length+lb.length+1)) o:=hrow.nats (by omega) (by omega)
   have ct:=jQ _ _ o wr hN0 hdig.out
   have hn:=hN0.take (aL hdig.out)
   clear hN0
   rw [hv] at ct hn
   rw [hlen] at ct
   have CT:=Ha ct
   have HN:=Ha hn
   have g1:¬ ((k:Int)<(la.length:Int)):=by omega
   clear hval hzero ct hn hv ek
   go_wp2_with fail
   refine CT.out.mono ?_
   clear CT
   rintro e w' ⟨rfl,rfl⟩
   go_wp2
   go_ret
   exact ⟨_,rfl,HN.out,fun k hk=>by cases hk;exact Nat.le_of_eq HG.out,by rw [HG.out];exact hbel⟩
end R
namespace R
open Go.RowKit
theorem rY (w:World) (x:Nat) (base:Nat) (hb:base≤w.heap.size):(w.alloc (.cells #[.int .i64 (x:Nat)] 3)).ownsRow base 3 1 (.slice (some ⟨w.heap.size,0,none⟩) 1 1) 1 (ae [x]) :=
 ⟨rfl,.inr ⟨w.heap.size,1,#[.int .i64 (x:Nat)],rfl,hb,Array.getElem?_push_size,Nat.le_refl _,by decide,rfl,rfl⟩⟩
theorem og (w:World) (x:Nat):Nats (w.alloc (.cells #[.int .i64 (x:Nat)] 3)) (.slice (some ⟨w.heap.size,0,none⟩) 1 1) [x]:=bv (rY w x 0 (Nat.zero_le _))
theorem u6 (x:Nat):toN [x]=x:=by simp [toN]
theorem wv (v:Value) (la:List Nat) (b:Nat) (w:World) (ha:Nats w v la) (da:Dig la) (hla:la.length≤1000000) (hb0:0<b) (hb:b<1000000) :
  Calls Tryz.prog 146 #[v,.int .i64 b] w fun e W'=>∃ q r,e = .returned (.tuple #[q,r])∧IsNat W' q (toN la / b)∧IsNat W' r (toN la % b)∧Fresh w.heap.size q∧Fresh w.heap.size r∧Below w.heap.size w W':=by
 obtain ⟨pa,capa,rfl,ha1,ha2,ha3⟩:=ha
 have HA:=Ha ha3;clear ha3
 obtain ⟨i0,hi,hz0,hz1,hz2⟩:=info_parts io
 have HI:=Ha (Hb hi (Hb hz0 (Hb hz1 hz2)));clear hi hz0 hz1 hz2
 have HD:=Ha da;clear da
 have hne:((b:Int)==0)=false:=by rw [beq_eq_false_iff_ne];omega
 have hne2:¬ (b:Int)=0:=by omega
 go_enter Tryz.func146,Tryz.ntmps146
 go_wp2_with (at_make;refine wpList_make_full _ rfl _ _ 124 rfl w.heap.size 3 i0 (.int .i64 0) 1 Tryz.underlying124 HI.out.1 HI.out.2.1 HI.out.2.2.1 .i64 .i64 _ _ (la.length) rfl rfl (by omega) (by omega) (by rw [HI.out.2.2.2];omega) (by unfold maxLen;omega) (Nat.le_refl _) ?_;intro w1 hown hgrow)
 have hrow:=Row.of_made hown
 have hB1:Below w.heap.size w w1:=(Below.refl _ w).grown hgrow (Nat.le_refl _) (fun k e=>by cases e)
 have hgl:=hrow.lt
 clear hown hgrow
 generalize hg:w.heap.size=g at *
 have HG:=Ha hg;clear hg
 go_loopw [7,8] (fun y x wr=>∃ (r j:Nat) (o:List Nat),j≤la.length∧x = .int .i64 ((j:Int) - 1)∧y = .int .i64 r∧r<b∧Row wr g o∧o.length=la.length∧Hid (Dig o)∧Hid (toN (la.drop j)=b*toN (o.drop j)+r)∧Below g w wr)
  (fun _ x _=>(intOf x+1).toNat)
 case atStart =>
  exact ⟨0,la.length,List.replicate la.length 0,Nat.le_refl _,by go_num,rfl,hb0,hrow,List.length_replicate,Dig.replicate _,by show toN _=_;rw [List.drop_length,List.drop_eq_nil_of_le (by rw [List.length_replicate];exact Nat.le_refl _)];simp [toN],hB1⟩
 case round =>
  clear hrow hB1 hgl
  obtain ⟨r,j,o,hj,rfl,rfl,hr,hrow,hlen,hdig,hval,hbel⟩:=hrel
  cases j with
  | zero =>
   have hv:toN la=b*toN o+r:=hval.out
   have hq:toN la / b=toN o:=by rw [hv,Nat.mul_add_div hb0,Nat.div_eq_of_lt hr,Nat.add_zero]
   have hm:toN la % b=r:=by rw [hv,Nat.mul_add_mod,Nat.mod_eq_of_lt hr]
   have hN0:Nats wr (.slice (some ⟨g,0,none⟩) o.length la.length) o:=hrow.nats (by omega) (by omega)
   have ct:=jQ _ _ o wr hN0 hdig.out
   have hn:=hN0.take (aL hdig.out)
   rw [hlen] at ct
   rw [←hq] at ct hn
   have ct2:=ln _ _ _ (og wr r) (Dig.one (show r<1000000 by omega))
   rw [u6] at ct2
   have CT:=Ha ct
   have CT2:=Ha ct2
   have HN:=Ha hn
   have HBL:=Ha hbel
   have HGS:=Ha hrow.lt
   have HM:=Ha hm
   clear hval ct ct2 hn hv hN0 hq hbel hrow hm
   go_wp2_with fail
   refine CT.out.mono ?_
   clear CT
   rintro e w' ⟨rfl,rfl⟩
   go_wp2_with fail
   refine CT2.out.mono ?_
   clear CT2
   rintro e w' ⟨rfl,v',rfl,hv1,hv2⟩
   have HV:=Ha (Hb hv1 hv2)
   clear hv1 hv2
   go_wp2
   go_ret2
   have hba:Below wr.heap.size wr (wr.alloc (.cells #[.int .i64 (r:Nat)] 3)):=(Below.refl _ _).alloc (Nat.le_refl _) _
   refine ⟨.slice (some ⟨g,0,none⟩) (dg (toN la / b)).length la.length,v',rfl,Nats.next HN.out hba,(by rw [HM.out];exact HV.out.1),fun k hk=>by cases hk;exact Nat.le_of_eq HG.out,fun k hk => ?_,?_⟩
   ·rw [HV.out.2] at hk
    cases hk
    have:=HBL.out.size
    have:=HGS.out
    have:=HG.out
    omega
   ·rw [HG.out];exact HBL.out.trans (hba.mono (Nat.le_of_lt HGS.out))
  | succ j =>
   obtain ⟨ab,aoff,rfl,hca⟩:=HA.out (by intro e;subst e;simp at hj)
   have ca0:=hca j (by omega)
   have cax:wr.cell? ⟨ab,aoff+j,none⟩=some (.int .i64 (la.getD j 0:Nat)):=(hbel.cell (p:=⟨ab,aoff+j,none⟩) (by rw [←HG.out];exact World.block_lt_of_cell? w _ ca0)).trans ca0
   clear ca0 hca
   have co:=hrow.cell (i:=j) (by omega)
   have fo:=hrow.frozen j
   have hst:=lm (la:=la) (o:=o) (b:=b) (r:=r) (j:=j) (by omega) hlen hval.out
   have hx:=HD.out.getD j
   have hbd:=qm hb0 hb hr hx
   have R3:=hrow.set j ((r*1000000+la.getD j 0) / b)
   generalize la.getD j 0=x at *
   have ht:(r:Int)*1000000+(x:Int)=((r*1000000+x:Nat):Int):=by rw [Int.natCast_add,Int.natCast_mul];rfl
   obtain ⟨t,hte⟩:∃ t,r*1000000+x=t:=⟨_,rfl⟩
   rw [hte] at hst hbd R3 ht
   obtain ⟨s2,s3,s4⟩:=hbd
   have eQ:(t:Int) / (b:Int)=((t / b:Nat):Int):=(Int.natCast_ediv _ _).symm
   have eR:(t:Int) % (b:Int)=((t % b:Nat):Int):=(Int.natCast_emod _ _).symm
   obtain ⟨q,hq⟩:∃ q,t / b=q:=⟨_,rfl⟩
   obtain ⟨s,hs⟩:∃ s,t % b=s:=⟨_,rfl⟩
   rw [hq] at eQ hst R3 s2
   rw [hs] at eR hst s3
   have HS:=Ha (Hb hst R3)
   have HX:=Ha (Hb hte (Hb hq hs))
   clear hst R3 hval hte hq hs
   have hjl:(j:Int)<(la.length:Int):=by omega
   go_wp2
   go_roundw
   case rel =>
    obtain ⟨s1,s4⟩:=HS.out
    exact ⟨s,j,o.set j q,by omega,by go_num,by rw [eR],s3,s4,by rw [List.length_set];exact hlen,hdig.out.set _ s2,s1,hbel.setCell (p:=⟨g,j,none⟩) (Nat.le_refl _) _⟩
   case measure=>simp [intOf]
end R
end Go.Proofs.YtocalfjfjjljnaaGreatDoor
