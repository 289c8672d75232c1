/- Parts of the proof of the text YtjdomibbaemdnaaGreatDoorZK42. -/
import Derived.Laws.AppendOwnNone
import Derived.Test.YtjdomibbaemdnaaGreatDoorZK1
import Derived.Test.YtjdomibbaemdnaaGreatDoorZK27
set_option linter.all false
set_option maxRecDepth 100000
set_option maxHeartbeats 8000000
namespace Go.Proofs.YtjdomibbaemdnaaGreatDoor
namespace R
open Go.RowKit
theorem wB {o:List Nat} {i j x c S:Nat} {b:List Nat} (hk:i+j<o.length) (ho:Dig o) (hb:Dig b) (hx:x<1000000) (hc:c<1000000)
  (h:toN o+B ^ (i+j)*c=S+B ^ i*(x*toN (b.take j))) :
  toN (o.set (i+j) ((o.getD (i+j) 0+x*b.getD j 0+c) % 1000000))+B ^ (i+(j+1))*((o.getD (i+j) 0+x*b.getD j 0+c) / 1000000)=S+B ^ i*(x*toN (b.take (j+1))):=by
 obtain ⟨_,_,h3⟩:=iH hk ho hx (hb.getD j) hc
 rw [←Nat.add_assoc i j 1]
 refine h3.trans ?_
 rw [dy b j,Nat.mul_add x,Nat.mul_add (B ^ i),Nat.mul_add (B ^ (i+j))]
 have h4:B ^ i*(x*(B ^ j*b.getD j 0))=B ^ (i+j)*(x*b.getD j 0):=by
  rw [Nat.pow_add,Nat.mul_assoc];congr 1
  rw [←Nat.mul_assoc,←Nat.mul_assoc,Nat.mul_comm x]
 omega
theorem gM (va vb:Value) (la lb:List Nat) (w:World) (ha:Nats w va la) (hb:Nats w vb lb) (da:Dig la) (db:Dig lb) (hla:la.length≤100000) (hlb:lb.length≤100000) :
  Calls Tryz.prog 123 #[va,vb] w fun e W'=>∃ v,e = .returned v∧IsNat W' v (toN la*toN lb)∧Fresh w.heap.size v∧Below w.heap.size w W':=by
 have cl2:=fun (j:Nat) W (h:Below w.heap.size w W) (hj:j≤1000001)=>fL vb lb j W (hb.next h) (by omega)
 have CL:=Ha cl2
 obtain ⟨pa,capa,rfl,ha1,ha2,ha3⟩:=ha
 obtain ⟨pb,capb,rfl,hb1,hb2,_⟩:=hb
 have HA:=Ha ha3;clear ha3 cl2
 obtain ⟨i0,hi,hz0,hz1,hz2⟩:=info_parts gJ
 have HI:=Ha (Hb hi (Hb hz0 (Hb hz1 hz2)));clear hi hz0 hz1 hz2
 have HD:=Ha (Hb da db);clear da db
 go_enter Tryz.func123,Tryz.ntmps123
 go_wp2_with (at_make;refine wpList_make_full _ rfl _ _ 82 rfl w.heap.size 3 i0 (.int .i64 0) 1 Tryz.underlying82 HI.out.1 HI.out.2.1 HI.out.2.2.1 .i64 .i64 _ _ (la.length+lb.length+1) rfl rfl (by omega) (by omega) (by rw [HI.out.2.2.2];omega) (by unfold maxLen;omega) (Nat.le_refl _) ?_;intro w1 hown hgrow)
 have hrow:=Row.of_made hown
 have hB1:Below w.heap.size w w1:=(Below.refl _ w).grown hgrow (Nat.le_refl _) (fun k e=>by cases e)
 have hgl:=hrow.lt
 clear hown hgrow
 generalize hg:w.heap.size=g at *
 have HG:=Ha hg;clear hg
 go_loopw [6] (fun x wr=>∃ (k:Nat) (o:List Nat),k≤la.length∧x = .int .i64 k∧Row wr g o∧o.length=la.length+lb.length+1∧Hid (Dig o)∧Hid (toN o=toN (la.take k)*toN lb)∧Hid (∀ m,k+lb.length≤m→o.getD m 0=0)∧Below g w wr)
  (fun x _=>la.length - (intOf x).toNat)
 case atStart =>
  exact ⟨0,List.replicate (la.length+lb.length+1) 0,Nat.zero_le _,rfl,hrow,List.length_replicate,Dig.replicate _,by show toN _=_;rw [dw];simp [toN],fun m _=>by rw [List.getD_eq_getElem?_getD,List.getElem?_replicate];split <;> rfl,hB1⟩
 case round =>
  clear hrow hB1 hgl
  obtain ⟨k,o,hk,rfl,hrow,hlen,hdig,hval,hzero,hbel⟩:=hrel
  by_cases hlt:k<la.length
  ·obtain ⟨ab,aoff,rfl,hca⟩:=HA.out (by intro e;subst e;simp at hlt)
   have hx:=HD.out.1.getD k
   have ca0:=hca k hlt
   have HCA:=Ha (fun W (h:Below g w W)=>(h.cell (p:=⟨ab,aoff+k,none⟩) (by rw [←HG.out];exact World.block_lt_of_cell? w _ ca0)).trans ca0)
   clear ca0 hca
   have hstart:Hid (toN o+B ^ (k+0)*0=toN (la.take k)*toN lb+B ^ k*(la.getD k 0*toN (lb.take 0))):=by
    show toN o+B ^ (k+0)*0=_
    rw [hval.out];simp [toN]
   clear hval
   have HFIN:=Ha (show toN (la.take k)*toN lb+B ^ k*(la.getD k 0*toN lb)=toN (la.take (k+1))*toN lb by rw [aB la k hlt,Nat.add_mul,Nat.mul_assoc])
   have HI2:=Ha (fun o j c h1 h3 h4 h=>wB (o:=o) (i:=k) (j:=j) (x:=la.getD k 0) (c:=c) (S:=toN (la.take k)*toN lb) (b:=lb) h1 h3 HD.out.2 hx h4 h)
   have HS:=Ha (fun o j c (h1:k+j<List.length o) h2 h4=>iH (o:=o) (k:=k+j) (x:=la.getD k 0) (y:=lb.getD j 0) (c:=c) h1 h2 hx (HD.out.2.getD j) h4)
   generalize la.getD k 0=x at *
   obtain ⟨wo,hwo⟩:∃ wo:World,wo=wr:=⟨_,rfl⟩
   subst hwo
   go_wp2
   go_loopw [7,8] (fun y z wr=>∃ (c j:Nat) (o:List Nat),j≤lb.length+1∧y = .int .i64 c∧z = .int .i64 j∧c<1000000∧(j=lb.length+1→c=0)∧Row wr g o∧o.length=la.length+lb.length+1∧Hid (Dig o) ∧
     Hid (toN o+B ^ (k+j)*c=toN (la.take k)*toN lb+B ^ k*(x*toN (lb.take j)))∧Hid (∀ m,k+lb.length+1≤m→o.getD m 0=0)∧Hid (j≤lb.length→o.getD (k+lb.length) 0=0)∧Below g w wr)
    (fun _ z _=>lb.length+1 - (intOf z).toNat)
   case atStart=>exact ⟨0,0,o,Nat.zero_le _,rfl,rfl,by omega,by omega,hrow,hlen,hdig,hstart,fun m hm=>hzero.out m (by omega),fun _=>hzero.out _ (Nat.le_refl _),hbel⟩
   case round =>
    clear hrow hlen hdig hstart hzero hbel o
    obtain ⟨c,j,o,hj,rfl,rfl,hc,hc0,hrow,hlen,hdig,hval,hzero,hz2,hbel⟩:=hrel
    by_cases hcont:j<lb.length∨0<c
    ·have hjl:j≤lb.length:=by omega
     have hy:=HD.out.2.getD j
     have hko:k+j<o.length:=by omega
     have co:=hrow.cell hko
     have cax:=HCA.out _ hbel
     have hd:=hdig.out.getD (k+j)
     have S1:=HS.out o j c hko hdig.out hc
     have S2:=HI2.out o j c hko hdig.out hc hval.out
     have hxy:=eZ hx hy
     have hlast:Hid (j=lb.length→(o.getD (k+j) 0+x*lb.getD j 0+c) / 1000000=0):=fun e=>by
      subst e
      rw [hz2.out (Nat.le_refl _),jg (Nat.le_refl _),Nat.mul_zero];omega
     have HZ:=Ha (Hb hzero.out hz2.out)
     have k2:∀ q,Calls Tryz.prog 170 #[.slice pb lb.length capb,.int .i64 (j:Nat)] (wr.drewN q) fun e w'=>e = .returned (.int .i64 (lb.getD j 0:Nat))∧w'=wr.drewN q:=fun q=>(CL.out j _ (hbel.trans (Below.drewK _ _ q)) (by omega)).mono (fun e w' (hh:_∧_)=>Hb hh.1 hh.2.symm)
     have KK:=Ha k2
     generalize hdd:o.getD (k+j) 0=d at *
     generalize lb.getD j 0=y at *
     have hP0:0≤(x:Int)*(y:Int):=by rw [←Int.natCast_mul];omega
     have hP1:(x:Int)*(y:Int)≤999998000001:=by rw [←Int.natCast_mul];omega
     have hT:(((d+x*y+c:Nat)):Int)=(d:Int)+(x:Int)*(y:Int)+(c:Int):=by rw [Int.natCast_add,Int.natCast_add,Int.natCast_mul]
     have hT1:((((d+x*y+c) / 1000000:Nat)):Int)=((d:Int)+(x:Int)*(y:Int)+(c:Int)) / 1000000:=by rw [Int.natCast_ediv,hT];rfl
     have hT2:((((d+x*y+c) % 1000000:Nat)):Int)=((d:Int)+(x:Int)*(y:Int)+(c:Int)) % 1000000:=by rw [Int.natCast_emod,hT];rfl
     have HT1:=Ha hT1
     have HT2:=Ha hT2
     have R1:=Ha S1;have R2:=Ha S2
     have hways:((j:Int)<(lb.length:Int))∨(¬ ((j:Int)<(lb.length:Int))∧0<(c:Int)):=by omega
     have hkk:(k:Int)<(la.length:Int):=by omega
     have hkj:(k:Int)+(j:Int)<(la.length:Int)+(lb.length:Int)+1:=by omega
     have HF:=Ha (Hb (show o.length=la.length+lb.length+1 from hlen) (Hb hcont hc0))
     clear hT hT1 hT2 S1 S2 hxy k2 hval hzero hz2 hdd hc0 hcont
     rcases hways with g1 | ⟨g1,g2⟩
     all_goals
      go_wp2
      go_quiet ((go_at_call 170;exact Calls.quiet_of_same (KK.out _)))
      have hr2:Row (wr.drewN nq) g o:=hrow
      have hb2:Below g w (wr.drewN nq):=hbel.trans (Below.drewK _ _ nq)
      clear co cax
      generalize wr.drewN nq=W1 at *
      have co:=hr2.cell hko
      have fo:=hr2.frozen (k+j)
      have R3:=hr2.set (k+j) ((d+x*y+c) % 1000000)
      rw [HT2.out] at R3
      have RR:=Ha R3;clear R3
      go_wp2
      go_roundw
      case rel =>
       obtain ⟨r1,r2,_⟩:=R1.out
       refine ⟨(d+x*y+c) / 1000000,j+1,o.set (k+j) ((d+x*y+c) % 1000000),by omega,by rw [HT1.out],by go_num,r1,fun e=>hlast.out (by omega),RR.out,by rw [List.length_set];exact hlen,hdig.out.set _ r2,R2.out,?_,?_,?_⟩
       ·exact fun m hm=>by rw [getD_set_ne _ _ _ _ (by omega)];exact HZ.out.1 m hm
       ·exact fun hm=>by rw [getD_set_ne _ _ _ _ (by omega)];exact HZ.out.2 (by omega)
       ·exact hb2.setCell (p:=⟨g,k+j,none⟩) (Nat.le_refl _) _
      case measure=>simp [intOf];omega
    ·have g1:¬ ((j:Int)<(lb.length:Int)):=by omega
     have g2:¬ (0<(c:Int)):=by omega
     have F1:toN o=toN (la.take (k+1))*toN lb:=by
      have:=hval.out
      rw [List.take_of_length_le (show lb.length≤j by omega),show c=0 by omega,Nat.mul_zero,Nat.add_zero] at this
      rw [this];exact HFIN.out
     have HF:=Ha F1;clear F1
     clear hval hz2
     go_wp2
     go_roundw
     case rel=>exact ⟨k+1,o,by omega,by go_num,hrow,hlen,hdig,HF.out,fun m hm=>hzero.out m (by omega),hbel⟩
     case measure=>simp [intOf];omega
  ·have ek:k=la.length:=by omega
   have hv:toN o=toN la*toN lb:=by have:=hval.out;rwa [ek,List.take_length] at this
   have hN0:Nats wr (.slice (some ⟨g,0,none⟩) o.length (la.length+lb.length+1)) o:=hrow.nats (by omega) (by omega)
   have ct:=jf _ _ o wr hN0 hdig.out
   have hn:=hN0.take (aK hdig.out)
   clear hN0
   rw [hv] at ct hn
   rw [hlen] at ct
   have CT:=Ha ct
   have HN:=Ha hn
   have g1:¬ ((k:Int)<(la.length:Int)):=by omega
   clear hval hzero ct hn hv ek
   go_wp2_with fail
   refine CT.out.mono ?_
   clear CT
   rintro e w' ⟨rfl,rfl⟩
   go_wp2
   go_ret
   exact ⟨_,rfl,HN.out,fun k hk=>by cases hk;exact Nat.le_of_eq HG.out,by rw [HG.out];exact hbel⟩
end R
namespace R
open Go.RowKit
theorem q6 (w:World) (x:Nat) (base:Nat) (hb:base≤w.heap.size):(w.alloc (.cells #[.int .i64 (x:Nat)] 3)).ownsRow base 3 1 (.slice (some ⟨w.heap.size,0,none⟩) 1 1) 1 (ag [x]) :=
 ⟨rfl,.inr ⟨w.heap.size,1,#[.int .i64 (x:Nat)],rfl,hb,Array.getElem?_push_size,Nat.le_refl _,by decide,rfl,rfl⟩⟩
theorem kt (w:World) (x:Nat):Nats (w.alloc (.cells #[.int .i64 (x:Nat)] 3)) (.slice (some ⟨w.heap.size,0,none⟩) 1 1) [x]:=bg (q6 w x 0 (Nat.zero_le _))
theorem tV (x:Nat):toN [x]=x:=by simp [toN]
theorem lh (v:Value) (la:List Nat) (b:Nat) (w:World) (ha:Nats w v la) (da:Dig la) (hla:la.length≤1000000) (hb0:0<b) (hb:b<1000000) :
  Calls Tryz.prog 169 #[v,.int .i64 b] w fun e W'=>∃ q r,e = .returned (.tuple #[q,r])∧IsNat W' q (toN la / b)∧IsNat W' r (toN la % b)∧Fresh w.heap.size q∧Fresh w.heap.size r∧Below w.heap.size w W':=by
 obtain ⟨pa,capa,rfl,ha1,ha2,ha3⟩:=ha
 have HA:=Ha ha3;clear ha3
 obtain ⟨i0,hi,hz0,hz1,hz2⟩:=info_parts gJ
 have HI:=Ha (Hb hi (Hb hz0 (Hb hz1 hz2)));clear hi hz0 hz1 hz2
 have HD:=Ha da;clear da
 have hne:((b:Int)==0)=false:=by rw [beq_eq_false_iff_ne];omega
 have hne2:¬ (b:Int)=0:=by omega
 go_enter Tryz.func169,Tryz.ntmps169
 go_wp2_with (at_make;refine wpList_make_full _ rfl _ _ 82 rfl w.heap.size 3 i0 (.int .i64 0) 1 Tryz.underlying82 HI.out.1 HI.out.2.1 HI.out.2.2.1 .i64 .i64 _ _ (la.length) rfl rfl (by omega) (by omega) (by rw [HI.out.2.2.2];omega) (by unfold maxLen;omega) (Nat.le_refl _) ?_;intro w1 hown hgrow)
 have hrow:=Row.of_made hown
 have hB1:Below w.heap.size w w1:=(Below.refl _ w).grown hgrow (Nat.le_refl _) (fun k e=>by cases e)
 have hgl:=hrow.lt
 clear hown hgrow
 generalize hg:w.heap.size=g at *
 have HG:=Ha hg;clear hg
 go_loopw [7,8] (fun y x wr=>∃ (r j:Nat) (o:List Nat),j≤la.length∧x = .int .i64 ((j:Int) - 1)∧y = .int .i64 r∧r<b∧Row wr g o∧o.length=la.length∧Hid (Dig o)∧Hid (toN (la.drop j)=b*toN (o.drop j)+r)∧Below g w wr)
  (fun _ x _=>(intOf x+1).toNat)
 case atStart =>
  exact ⟨0,la.length,List.replicate la.length 0,Nat.le_refl _,by go_num,rfl,hb0,hrow,List.length_replicate,Dig.replicate _,by show toN _=_;rw [List.drop_length,List.drop_eq_nil_of_le (by rw [List.length_replicate];exact Nat.le_refl _)];simp [toN],hB1⟩
 case round =>
  clear hrow hB1 hgl
  obtain ⟨r,j,o,hj,rfl,rfl,hr,hrow,hlen,hdig,hval,hbel⟩:=hrel
  cases j with
  | zero =>
   have hv:toN la=b*toN o+r:=hval.out
   have hq:toN la / b=toN o:=by rw [hv,Nat.mul_add_div hb0,Nat.div_eq_of_lt hr,Nat.add_zero]
   have hm:toN la % b=r:=by rw [hv,Nat.mul_add_mod,Nat.mod_eq_of_lt hr]
   have hN0:Nats wr (.slice (some ⟨g,0,none⟩) o.length la.length) o:=hrow.nats (by omega) (by omega)
   have ct:=jf _ _ o wr hN0 hdig.out
   have hn:=hN0.take (aK hdig.out)
   rw [hlen] at ct
   rw [←hq] at ct hn
   have ct2:=cV _ _ _ (kt wr r) (Dig.one (show r<1000000 by omega))
   rw [tV] at ct2
   have CT:=Ha ct
   have CT2:=Ha ct2
   have HN:=Ha hn
   have HBL:=Ha hbel
   have HGS:=Ha hrow.lt
   have HM:=Ha hm
   clear hval ct ct2 hn hv hN0 hq hbel hrow hm
   go_wp2_with fail
   refine CT.out.mono ?_
   clear CT
   rintro e w' ⟨rfl,rfl⟩
   go_wp2_with fail
   refine CT2.out.mono ?_
   clear CT2
   rintro e w' ⟨rfl,v',rfl,hv1,hv2⟩
   have HV:=Ha (Hb hv1 hv2)
   clear hv1 hv2
   go_wp2
   go_ret2
   have hba:Below wr.heap.size wr (wr.alloc (.cells #[.int .i64 (r:Nat)] 3)):=(Below.refl _ _).alloc (Nat.le_refl _) _
   refine ⟨.slice (some ⟨g,0,none⟩) (dg (toN la / b)).length la.length,v',rfl,Nats.next HN.out hba,(by rw [HM.out];exact HV.out.1),fun k hk=>by cases hk;exact Nat.le_of_eq HG.out,fun k hk => ?_,?_⟩
   ·rw [HV.out.2] at hk
    cases hk
    have:=HBL.out.size
    have:=HGS.out
    have:=HG.out
    omega
   ·rw [HG.out];exact HBL.out.trans (hba.mono (Nat.le_of_lt HGS.out))
  | succ j =>
   obtain ⟨ab,aoff,rfl,hca⟩:=HA.out (by intro e;subst e;simp at hj)
   have ca0:=hca j (by omega)
   have cax:wr.cell? ⟨ab,aoff+j,none⟩=some (.int .i64 (la.getD j 0:Nat)):=(hbel.cell (p:=⟨ab,aoff+j,none⟩) (by rw [←HG.out];exact World.block_lt_of_cell? w _ ca0)).trans ca0
   clear ca0 hca
   have co:=hrow.cell (i:=j) (by omega)
   have fo:=hrow.frozen j
   have hst:=kj (la:=la) (o:=o) (b:=b) (r:=r) (j:=j) (by omega) hlen hval.out
   have hx:=HD.out.getD j
   have hbd:=pJ hb0 hb hr hx
   have R3:=hrow.set j ((r*1000000+la.getD j 0) / b)
   generalize la.getD j 0=x at *
   have ht:(r:Int)*1000000+(x:Int)=((r*1000000+x:Nat):Int):=by rw [Int.natCast_add,Int.natCast_mul];rfl
   obtain ⟨t,hte⟩:∃ t,r*1000000+x=t:=⟨_,rfl⟩
   rw [hte] at hst hbd R3 ht
   obtain ⟨s2,s3,s4⟩:=hbd
   have eQ:(t:Int) / (b:Int)=((t / b:Nat):Int):=(Int.natCast_ediv _ _).symm
   have eR:(t:Int) % (b:Int)=((t % b:Nat):Int):=(Int.natCast_emod _ _).symm
   obtain ⟨q,hq⟩:∃ q,t / b=q:=⟨_,rfl⟩
   obtain ⟨s,hs⟩:∃ s,t % b=s:=⟨_,rfl⟩
   rw [hq] at eQ hst R3 s2
   rw [hs] at eR hst s3
   have HS:=Ha (Hb hst R3)
   have HX:=Ha (Hb hte (Hb hq hs))
   clear hst R3 hval hte hq hs
   have hjl:(j:Int)<(la.length:Int):=by omega
   go_wp2
   go_roundw
   case rel =>
    obtain ⟨s1,s4⟩:=HS.out
    exact ⟨s,j,o.set j q,by omega,by go_num,by rw [eR],s3,s4,by rw [List.length_set];exact hlen,hdig.out.set _ s2,s1,hbel.setCell (p:=⟨g,j,none⟩) (Nat.le_refl _) _⟩
   case measure=>simp [intOf]
end R
namespace R
open Go.RowKit
theorem Ak {b R n:Nat} (hlb:(dg b).length=n+2) (hR:R<B*b) :
  (((dg R).getD (n+2) 0*1000000+(dg R).getD (n+1) 0)*1000000+(dg R).getD n 0) / ((dg b).getD (n+1) 0*1000000+(dg b).getD n 0+1)*b≤R ∧
  (((dg R).getD (n+2) 0*1000000+(dg R).getD (n+1) 0)*1000000+(dg R).getD n 0) / ((dg b).getD (n+1) 0*1000000+(dg b).getD n 0+1)<1000000:=by
 have hb:b<B ^ (n+2):=(ak b (n+2)).1 (by omega)
 have hR2:R<B ^ (n+3):=by
  have:B*b≤B*B ^ (n+2):=Nat.mul_le_mul_left _ (Nat.le_of_lt hb)
  rw [Nat.mul_comm B (B ^ (n+2))] at this
  have e:B ^ (n+3)=B ^ (n+2)*B:=Nat.pow_succ _ _
  omega
 have e2:(dg R).getD (n+2) 0=R / B ^ n / B / B:=by
  rw [cY,Nat.pow_succ,Nat.pow_succ,Nat.mul_assoc,←Nat.div_div_eq_div_mul,←Nat.div_div_eq_div_mul]
  refine Nat.mod_eq_of_lt ?_
  rw [Nat.div_lt_iff_lt_mul bP,Nat.div_lt_iff_lt_mul bP,Nat.div_lt_iff_lt_mul (Nat.pow_pos bP)]
  have:B*B*B*B ^ n=B ^ (n+3):=by rw [Nat.pow_succ,Nat.pow_succ,Nat.pow_succ];grind
  omega
 have e1:(dg R).getD (n+1) 0=R / B ^ n / B % B:=by
  rw [cY,Nat.pow_succ,←Nat.div_div_eq_div_mul]
 have e0:(dg R).getD n 0=R / B ^ n % B:=cY R n
 have f1:(dg b).getD (n+1) 0=b / B ^ n / B:=by
  rw [cY,Nat.pow_succ,←Nat.div_div_eq_div_mul]
  refine Nat.mod_eq_of_lt ?_
  rw [Nat.div_lt_iff_lt_mul bP,Nat.div_lt_iff_lt_mul (Nat.pow_pos bP)]
  have:B*B*B ^ n=B ^ (n+2):=by rw [Nat.pow_succ,Nat.pow_succ];grind
  omega
 have f0:(dg b).getD n 0=b / B ^ n % B:=cY b n
 rw [e2,e1,e0,f1,f0]
 have kX:∀ X:Nat,(X / B / B*1000000+X / B % B)*1000000+X % B=X:=fun X=>by
  show (X / 1000000 / 1000000*1000000+X / 1000000 % 1000000)*1000000+X % 1000000=X
  omega
 have kY:∀ X:Nat,X / B*1000000+X % B=X:=fun X=>by
  show X / 1000000*1000000+X % 1000000=X
  omega
 have hX:=kX (R / B ^ n)
 have hY:=kY (b / B ^ n)
 rw [hX,hY]
 have hlow:=Nat.mod_lt b (show 0<B ^ n from Nat.pow_pos bP)
 have hbm:=Nat.mod_add_div b (B ^ n)
 have hRd:R / B ^ n*B ^ n≤R:=Nat.div_mul_le_self _ _
 generalize R / B ^ n=X at *
 generalize b / B ^ n=Y at *
 have hb2:b≤(Y+1)*B ^ n:=by rw [Nat.add_mul,Nat.one_mul,Nat.mul_comm Y];omega
 have hg:X / (Y+1)*(Y+1)≤X:=Nat.div_mul_le_self _ _
 generalize X / (Y+1)=g at *
 have h1:g*b≤g*((Y+1)*B ^ n):=Nat.mul_le_mul_left _ hb2
 have h2:g*(Y+1)*B ^ n≤X*B ^ n:=Nat.mul_le_mul_right _ hg
 rw [←Nat.mul_assoc] at h1
 have h3:g*b≤R:=by omega
 refine ⟨h3,?_⟩
 apply Decidable.byContradiction
 intro hc
 have:B*b≤g*b:=Nat.mul_le_mul_right _ (by rw [dH];omega)
 omega
theorem yr {g M:Nat} (h:g+1≤M):M - (intOf (.int .i64 ((g:Int)+1))).toNat<M - (intOf (.int .i64 (g:Int))).toNat:=by
 simp only [intOf];omega
structure DS (w:World) (base gq:Nat) (o:List Nat) (v:Value) (r:Nat) (wr:World):Prop where
 row:Row wr gq o
 nat:IsNat wr v r
 fr:Fresh (gq+1) v
 bel:Below base w wr
 hb:base≤gq
theorem DS.next {w:World} {base gq:Nat} {o:List Nat} {v:Value} {r:Nat} {wr W:World} (h:DS w base gq o v r wr) (hb:Below wr.heap.size wr W):DS w base gq o v r W:=by
 have hl:=h.row.lt
 exact ⟨(hb.block gq hl).trans h.row,h.nat.next hb,h.fr,h.bel.trans (hb.mono (by have:=h.hb;omega)),h.hb⟩
theorem DS.rest {w:World} {base gq:Nat} {o:List Nat} {v v':Value} {r r':Nat} {wr:World} (h:DS w base gq o v r wr) (h1:IsNat wr v' r') (h2:Fresh (gq+1) v'):DS w base gq o v' r' wr :=
 ⟨h.row,h1,h2,h.bel,h.hb⟩
theorem DS.set {w:World} {base gq:Nat} {o:List Nat} {v:Value} {r:Nat} {wr:World} (h:DS w base gq o v r wr) (i x:Nat):DS w base gq (o.set i x) v r (wr.setCell ⟨gq,i,none⟩ (.int .i64 (x:Nat))) :=
 ⟨h.row.set i x,h.nat.setCell h.fr (by show gq<gq+1;omega) _,h.fr,h.bel.setCell (p:=⟨gq,i,none⟩) h.hb _,h.hb⟩
theorem iC {l:List Nat} {j:Nat} {u:Value} (h:(ag l)[j]? = some u):j<l.length∧some (Value.int .i64 (l.getD j 0:Nat))=some u:=by
 have hj:j<l.length:=by
  have:=(List.getElem?_eq_some_iff.1 h).1
  simpa [ag] using this
 refine ⟨hj,?_⟩
 rw [←h]
 simp [ag,hj]
theorem addr_add (b off j:Nat):(⟨b,off,none⟩:Addr).add j=⟨b,off+j,none⟩:=by unfold Addr.add;split <;> simp_all
theorem uY {w:World} {b off n cap:Nat} {l:List Nat} (h:Nats w (.slice (some ⟨b,off,none⟩) n cap) l):∀ j u,(ag l)[j]? = some u→w.cell? ((⟨b,off,none⟩:Addr).add j)=some u:=by
 intro j u hu
 obtain ⟨hj,e⟩:=iC hu
 obtain ⟨p',cap',he,h1,h2,h3⟩:=h
 obtain ⟨b',off',e',hc⟩:=h3 (by intro e;rw [e] at hj;simp at hj)
 simp only [Value.slice.injEq] at he
 have e2:=he.1.trans e'
 simp only [Option.some.injEq,Addr.mk.injEq,and_true] at e2
 obtain ⟨rfl,rfl⟩:=e2
 rw [←e]
 rw [addr_add]
 exact hc j hj
theorem cells_one (l:List Nat):∀ u∈ag l,u.oneCell'=true:=by
 intro u hu
 obtain ⟨x,_,rfl⟩:=List.mem_map.1 hu
 rfl
theorem q7 (va vb:Value) (a b n:Nat) (w:World) (ha:IsNat w va a) (hb:IsNat w vb b) (hlb:(dg b).length=n+2) (hla:(dg a).length≤50000) (hn:n≤50000) :
  Calls Tryz.prog 119 #[va,vb] w fun e W'=>∃ q r,e = .returned (.tuple #[q,r])∧IsNat W' q (a / b)∧IsNat W' r (a % b)∧Fresh w.heap.size q∧Fresh w.heap.size r∧Below w.heap.size w W':=by
 obtain ⟨i0,hi,hz0,hz1,hz2⟩:=info_parts gJ
 have HI:=Ha (Hb hi (Hb hz0 (Hb hz1 hz2)));clear hi hz0 hz1 hz2
 have HB:=Ha hb
 have HA:=Ha ha
 obtain ⟨pa,ca,rfl⟩:=ha.shape
 obtain ⟨pb,cb,rfl⟩:=hb.shape
 have hcells:∃ bb off,pb=some ⟨bb,off,none⟩∧w.cell? ⟨bb,off+(n+1),none⟩=some (.int .i64 ((dg b).getD (n+1) 0:Nat))∧w.cell? ⟨bb,off+n,none⟩=some (.int .i64 ((dg b).getD n 0:Nat)):=by
  obtain ⟨p',cap',he,h1,h2,h3⟩:=hb
  obtain ⟨bb,off,e,hc⟩:=h3 (by intro e;rw [e] at hlb;simp at hlb)
  simp only [Value.slice.injEq] at he
  exact ⟨bb,off,he.1.trans e,hc (n+1) (by omega),hc n (by omega)⟩
 obtain ⟨bb,off,rfl,hc1,hc0⟩:=hcells
 have HLB:=Ha hlb
 have t1:=(aq b).getD (n+1)
 have t0:=(aq b).getD n
 have EST:=Ha (fun R (h:R<B*b)=>Ak (R:=R) hlb h)
 rw [hlb] at HB ⊢
 have hn1:(((n+2:Nat):Int)==1)=false:=by rw [beq_eq_false_iff_ne];omega
 have j1:((n+2:Nat):Int) - 1=((n+1:Nat):Int):=by omega
 have j0:((n+2:Nat):Int) - 2=((n:Nat):Int):=by omega
 have x1:((n+1:Nat):Int)<((n+2:Nat):Int):=by omega
 have x0:((n:Nat):Int)<((n+2:Nat):Int):=by omega
 have hb0:0<b:=by
  rcases Nat.eq_zero_or_pos b with h | h
  ·rw [h,av] at hlb;simp at hlb
  ·exact h
 generalize (dg b).getD (n+1) 0=bt at *
 generalize (dg b).getD n 0=bs at *
 obtain ⟨T,hT⟩:∃ T,bt*1000000+bs=T:=⟨_,rfl⟩
 rw [hT] at EST
 have eT:(bt:Int)*1000000+(bs:Int)=(T:Int):=by omega
 have hT12:T<1000000000000:=by omega
 clear ha hb hlb hT
 obtain ⟨L,hL⟩:∃ L,n+2=L:=⟨_,rfl⟩
 obtain ⟨N1,hN1⟩:∃ L,n+1=L:=⟨_,rfl⟩
 rw [hL] at hn1 j1 j0 x1 x0 HB ⊢
 rw [hN1] at j1 x1 hc1
 have HL:=Ha (Hb hL hN1)
 have hLb:L≤50002:=by omega
 clear hL hN1
 obtain ⟨la,hla'⟩:∃ la,(dg a).length=la:=⟨_,rfl⟩
 have HLA:=Ha hla'
 rw [hla'] at HA hla ⊢
 clear hla'
 go_enter Tryz.func119,Tryz.ntmps119
 go_wp2
 go_quiet (fail)
 have HQ:=Ha (Below.drewK w.heap.size w nq)
 have hzs:(w.drewN nq).heap.size=w.heap.size:=rfl
 clear hc1 hc0
 generalize w.drewN nq=w0 at *
 go_wp2_with (at_make;refine wpList_make_full _ rfl _ _ 82 rfl w0.heap.size 3 i0 (.int .i64 0) 1 Tryz.underlying82 HI.out.1 HI.out.2.1 HI.out.2.2.1 .i64 .i64 _ _ la rfl rfl (by omega) (by omega) (by rw [HI.out.2.2.2];omega) (by unfold maxLen;omega) (Nat.le_refl _) ?_;intro w1 hown hgrow)
 have hrow:=Row.of_made hown
 have hB1:Below w.heap.size w w1:=HQ.out.trans ((Below.refl _ w0).grown hgrow (by omega) (fun k e=>by cases e))
 have hgl:=hrow.lt
 rw [hzs] at hrow hgl
 clear hown hgrow hzs HQ eT j1 j0 x1 x0 hn1
 generalize hg:w.heap.size=gq at *
 have HG:=Ha hg;clear hg
 have HS0:=Ha (show DS w gq gq (List.replicate la 0) (.slice (some ⟨w1.heap.size,0,none⟩) 0 0) 0 (w1.alloc (.cells #[] 3)) from
  ⟨(Below.heap_alloc w1 _ gq hgl).trans hrow,⟨_,0,by rw [av];rfl,by rw [av];exact Nat.le_refl _,by decide,fun h=>absurd av h⟩,fun k hk=>by cases hk;exact hgl,hB1.trans ((Below.refl _ w1).alloc (by omega) _),Nat.le_refl _⟩)
 clear hrow hB1
 go_loopw [9,10] (fun v9 v10 wr=>∃ (r j:Nat) (o:List Nat) (rb m cr:Nat),j≤la∧v10 = .int .i64 ((j:Int) - 1)∧v9 = .slice (some ⟨rb,0,none⟩) m cr∧Hid (m=(dg r).length)∧r<b∧Hid (DS w gq gq o v9 r wr)∧o.length=la∧Hid (Dig o)∧Hid (toN ((dg a).drop j)=b*toN (o.drop j)+r))
  (fun _ x _=>(intOf x+1).toNat)
 case atStart =>
  exact ⟨0,la,List.replicate la 0,w1.heap.size,0,0,Nat.le_refl _,by go_num,rfl,by show _=_;rw [av];rfl,hb0,HS0.out,List.length_replicate,Dig.replicate _,by show toN _=_;rw [List.drop_of_length_le (by rw [HLA.out];exact Nat.le_refl _),List.drop_eq_nil_of_le (by rw [List.length_replicate];exact Nat.le_refl _)];simp [toN]⟩
 case round =>
  clear HS0 hgl
  obtain ⟨r,j,o,rb,m,cr,hj,rfl,rfl,hmr,hrb,hS,hlen,hdig,hval⟩:=hrel
  obtain rfl:=hmr.out
  clear hmr
  cases j with
  | zero =>
   have hv:a=b*toN o+r:=by have:=hval.out;rwa [List.drop_zero,List.drop_zero,ar] at this
   have hq:a / b=toN o:=by rw [hv,Nat.mul_add_div hb0,Nat.div_eq_of_lt hrb,Nat.add_zero]
   have hm:a % b=r:=by rw [hv,Nat.mul_add_mod,Nat.mod_eq_of_lt hrb]
   have hN0:Nats wr (.slice (some ⟨gq,0,none⟩) o.length la) o:=hS.out.row.nats (by omega) (by omega)
   have ct:=jf _ _ o wr hN0 hdig.out
   have hn:=hN0.take (aK hdig.out)
   rw [hlen] at ct
   rw [←hq] at ct hn
   have CT:=Ha ct
   have HN:=Ha hn
   have HM:=Ha hm
   clear hval ct hn hv hN0 hq hm
   generalize (dg r).length=lr at *
   generalize (dg (a / b)).length=lq at *
   go_wp2_with fail
   refine CT.out.mono ?_
   clear CT
   rintro e w' ⟨rfl,rfl⟩
   go_wp2
   go_ret2
   refine ⟨_,_,rfl,HN.out,by rw [HM.out];exact hS.out.nat,fun k hk=>by cases hk;exact Nat.le_of_eq HG.out,hS.out.fr.mono (by have:=HG.out;omega),by rw [HG.out];exact hS.out.bel⟩
  | succ j =>
   have hlr:(dg r).length≤L:=by
    have h1:=aC (Nat.le_of_lt hrb)
    have:=HLB.out
    have:=HL.out.1
    omega
   have hNa:=(Nats.next HA.out (by rw [HG.out];exact hS.out.bel):Nats wr _ _)
   obtain ⟨ab,aoff,rfl,cax⟩:∃ ab aoff,pa=some ⟨ab,aoff,none⟩∧wr.cell? ⟨ab,aoff+j,none⟩=some (.int .i64 ((dg a).getD j 0:Nat)):=by
    obtain ⟨p',cap',he,h1,h2,h3⟩:=hNa
    obtain ⟨ab,aoff,e,hc⟩:=h3 (by intro e;have:=HLA.out;rw [e] at this;simp at this;omega)
    simp only [Value.slice.injEq] at he
    exact ⟨ab,aoff,he.1.trans e,hc j (by have:=HLA.out;omega)⟩
   have hx:=(aq a).getD j
   have HDC:=Ha (show toN ((dg a).drop j)=(dg a).getD j 0+B*toN ((dg a).drop (j+1)) by rw [dM (by have:=HLA.out;omega)];rfl)
   generalize (dg a).getD j 0=x at *
   have HSRC:=Ha (uY (hS.out.nat.next ((Below.refl _ wr).alloc (Nat.le_refl _) (.cells #[.int .i64 (x:Nat)] 3))))
   have HO1:=Ha (q6 wr x wr.heap.size (Nat.le_refl _))
   have HLR:=Ha (show (ag (dg r)).length=(dg r).length*1 by simp [ag])
   have ej:(((j+1:Nat):Int) - 1)=(j:Int):=by omega
   have hjl:(j:Int)<(la:Int):=by omega
   have hlr2:True:=trivial
   rw [ej]
   clear ej hNa
   have hm:(dg r).length≤60000:=by omega
   go_wp2_with (at_builtin;refine wpList_append_own _ rfl _ _ 82 rfl wr.heap.size 3 i0 (.int .i64 0) 1 8 Tryz.underlying82 HI.out.1 HI.out.2.1 HI.out.2.2.1 HI.out.2.2.2 rfl (by decide) _ _ _ rfl HO1.out ⟨rb,0,none⟩ (dg r).length cr (ag (dg r)) rfl HLR.out HSRC.out (cells_one _) (by unfold maxLen;omega) (by omega) (by simp) ?_;intro v' w2 hown' hgrow hiff;have HO2:=Ha hown';have HG2:=Ha hgrow;have HNN:=Ha hiff;clear hown' hgrow hiff)
   have h2:=HO2.out
   rw [show ag [x]++ag (dg r)=ag (x::dg r) by simp [ag],show 1+(dg r).length=(x::dg r).length by rw [List.length_cons];omega] at h2
   obtain ⟨g',cap',cur,rfl,hgb,_,_,hcap',_,_⟩:=h2.2.resolve_left (fun e=>by have:=(HNN.out.1 e.1).1;cases this)
   have hN2:=bg h2
   have hdx:Dig (x::dg r):=Dig.cons hx (aq r)
   have ct:=jf _ _ _ _ hN2 hdx
   have hn3:=hN2.take (aK hdx)
   have eR:toN (x::dg r)=x+B*r:=by show x+B*toN (dg r)=_;rw [ar]
   rw [eR] at ct hn3
   have hRb:x+B*r<B*b:=by
    have h1:B*(r+1)≤B*b:=Nat.mul_le_mul_left _ hrb
    rw [Nat.mul_add,Nat.mul_one] at h1
    have:x<B:=hx
    omega
   have HDV:=Ha (show toN ((dg a).drop j)=b*(B*toN (o.drop (j+1)))+(x+B*r) by
    rw [HDC.out,hval.out,Nat.mul_add,Nat.mul_left_comm];omega)
   have hbs:Below gq w wr:=hS.out.bel
   have hgql:=hS.out.row.lt
   have hB2:Below wr.heap.size wr w2:=((Below.refl _ wr).alloc (Nat.le_refl _) (.cells #[.int .i64 (x:Nat)] 3)).grown HG2.out (by simp) (fun k hk=>by cases hk;exact Nat.le_refl _)
   have HS2:=Ha ((hS.out.next hB2).rest (v' := .slice (some ⟨g',0,none⟩) (dg (x+B*r)).length cap') hn3 (fun k hk=>by cases hk;show gq+1≤g';omega))
   obtain ⟨est1,est2⟩:=EST.out _ hRb
   have CT:=Ha ct
   have q2:=(aq (x+B*r)).getD (n+2)
   have q1:=(aq (x+B*r)).getD (n+1)
   have q0:=(aq (x+B*r)).getD n
   have l2:=fun W (h:Below w2.heap.size w2 W)=>fL _ _ (n+2) W (HS2.out.nat.next h) (by omega)
   have l1:=fun W (h:Below w2.heap.size w2 W)=>fL _ _ (n+1) W (HS2.out.nat.next h) (by omega)
   have l0:=fun W (h:Below w2.heap.size w2 W)=>fL _ _ n W (HS2.out.nat.next h) (by omega)
   have hRl:(dg (x+B*r)).length≤L+1:=by
    have h1:b<B ^ (n+2):=(ak b (n+2)).1 (by rw [HLB.out];exact Nat.le_refl _)
    have h2:B*b≤B*B ^ (n+2):=Nat.mul_le_mul_left _ (Nat.le_of_lt h1)
    have h3:B ^ (n+3)=B ^ (n+2)*B:=Nat.pow_succ _ _
    rw [Nat.mul_comm B (B ^ (n+2))] at h2
    have:=(ak (x+B*r) (n+3)).2 (by omega)
    have:=HL.out.1
    omega
   obtain ⟨R,hR⟩:∃ R,x+B*r=R:=⟨_,rfl⟩
   rw [hR] at CT HS2 est1 est2 q2 q1 q0 l2 l1 l0 hRb HDV hRl
   rw [HL.out.1] at q2 est1 est2 l2
   rw [HL.out.2] at q1 est1 est2 l1
   generalize (dg R).getD L 0=d2 at *
   generalize (dg R).getD N1 0=d1 at *
   generalize (dg R).getD n 0=d0 at *
   obtain ⟨G,hG⟩:∃ G,((d2*1000000+d1)*1000000+d0) / (T+1)=G:=⟨_,rfl⟩
   rw [hG] at est1 est2
   have eG:(((d2:Int)*1000000+(d1:Int))*1000000+(d0:Int)) / ((T:Int)+1)=(G:Int):=by
    rw [←hG,Int.natCast_ediv];congr 1
   have eL1:(L:Int) - 1=(N1:Int):=by have:=HL.out;omega
   have eL0:(L:Int) - 2=(n:Int):=by have:=HL.out;omega
   have hT1:¬ ((T:Int)+1)=0:=by omega
   have hT2:(((T:Int)+1)==0)=false:=by rw [beq_eq_false_iff_ne];omega
   have LL:=Ha (Hb l2 (Hb l1 l0))
   have HE:=Ha (Hb est1 (Hb hRb hRl))
   clear ct hn3 hN2 h2 eR l2 l1 l0 hS hval HSRC HO1 HLR HO2 HG2 HNN HDC hR hB2 hG est1 hRb hRl hdx hgb hlr
   generalize (dg r).length=lr at *
   go_wp2_with fail
   refine CT.out.mono ?_
   clear CT
   rintro e w' ⟨rfl,rfl⟩
   go_wp2_with fail
   refine (LL.out.1 _ (Below.refl _ _)).mono ?_
   rintro e w' ⟨rfl,rfl⟩
   go_wp2_with fail
   refine (LL.out.2.1 _ (Below.refl _ _)).mono ?_
   rintro e w' ⟨rfl,rfl⟩
   go_wp2_with fail
   refine (LL.out.2.2 _ (Below.refl _ _)).mono ?_
   rintro e w' ⟨rfl,rfl⟩
   clear LL
   go_wp2_with fail
   have hB3:Below w2.heap.size w2 (w2.alloc (.cells #[.int .i64 (G:Nat)] 3)):=(Below.refl _ _).alloc (Nat.le_refl _) _
   have HS3:=Ha (HS2.out.next hB3)
   have hNb:IsNat (w2.alloc (.cells #[.int .i64 (G:Nat)] 3)) (.slice (some ⟨bb,off,none⟩) L cb) b:=HB.out.next (by rw [HG.out];exact HS3.out.bel)
   have c3:=gM _ _ (dg b) [G] _ hNb (kt w2 G) (aq b) (Dig.one est2) (by have:=HLB.out;omega) (by simp)
   rw [ar,tV] at c3
   have C3:=Ha c3
   clear c3 hNb hB3 HS2
   generalize w2.alloc (.cells #[.int .i64 (G:Nat)] 3)=W3 at *
   refine C3.out.mono ?_
   rintro e W4 ⟨v4,rfl,hv4,_,hB4⟩
   obtain ⟨pv,cv,rfl⟩:=hv4.shape
   have HS4:=Ha (HS3.out.next hB4)
   have hle:b*G≤R:=by rw [Nat.mul_comm];exact HE.out.1
   have c4:=jh _ _ (dg R) (dg (b*G)) W4 HS4.out.nat hv4 (aq _) (aq _) (by have:=HE.out.2.2;omega) (aC hle) (by rw [ar,ar];exact hle)
   rw [ar,ar] at c4
   have C4:=Ha c4
   have HLE:=Ha hle
   clear c4 hv4 hB4 C3 HS3 hle
   generalize (dg (b*G)).length=lg at *
   go_wp2_with fail
   refine C4.out.mono ?_
   rintro e W5 ⟨g5,cap5,rfl,hv5,hg5,hB5⟩
   have HS5:=Ha ((HS4.out.next hB5).rest hv5 (fun k hk=>by cases hk;have:=HS4.out.row.lt;show gq+1≤g5;omega))
   clear hv5 hg5 hB5 C4 HS4
   obtain ⟨Mx,hMx⟩:∃ Mx:Nat,1000000≤Mx:=⟨1000000,Nat.le_refl _⟩
   go_wp2
   go_loopw [9,11] (fun v9 v11 wr=>∃ (r g rb m cr:Nat),v9 = .slice (some ⟨rb,0,none⟩) m cr∧Hid (m=(dg r).length)∧v11 = .int .i64 g∧g≤999999∧Hid (R=b*g+r)∧Hid (DS w gq gq o v9 r wr))
    (fun _ v11 _=>Mx - (intOf v11).toNat)
   case atStart=>exact ⟨R - b*G,G,g5,_,cap5,rfl,rfl,rfl,by omega,by have:=HLE.out;show _=_;omega,HS5.out⟩
   case round =>
    clear HS5 HLE
    obtain ⟨ρ,g,rb',m',cr',rfl,hm',rfl,hg9,hval,hS⟩:=hrel
    obtain rfl:=hm'.out
    clear hm'
    have hNb:IsNat wr (.slice (some ⟨bb,off,none⟩) L cb) b:=HB.out.next (by rw [HG.out];exact hS.out.bel)
    have cs:=km _ _ ρ b wr hS.out.nat hNb
    by_cases hlt:ρ<b
    ·rw [dp hlt] at cs
     have CS:=Ha cs
     have HLT:=Ha hlt
     clear cs hNb hlt
     go_wp2_with fail
     refine CS.out.mono ?_
     rintro e w' ⟨rfl,k,rfl⟩
     have HS6:=Ha (hS.out.next (Below.drewK _ _ k))
     clear CS hS
     generalize wr.drewN k=W6 at *
     have co:=HS6.out.row.cell (i:=j) (by omega)
     have fo:=HS6.out.row.frozen j
     have HS7:=Ha (HS6.out.set j g)
     generalize hlρ:(dg ρ).length=lρ at *
     have HLρ:=Ha hlρ
     clear hlρ
     go_wp2
     go_roundw
     case rel =>
      refine ⟨ρ,j,o.set j g,rb',lρ,cr',by omega,by go_num,rfl,HLρ.out.symm,HLT.out,HS7.out,by rw [List.length_set];exact hlen,hdig.out.set _ (by omega),?_⟩
      show _=_
      rw [iV (by omega),HDV.out,hval.out]
      show _=b*(g+B*toN (o.drop (j+1)))+ρ
      rw [Nat.mul_add];omega
     case measure=>simp [intOf]
    ·obtain ⟨c,hc⟩:∃ c,bW ρ b=c:=⟨_,rfl⟩
     have hc0:0≤c:=by rw [←hc];unfold bW;rw [if_neg hlt];split <;> omega
     rw [hc] at cs
     have CS:=Ha cs
     have hg1:g+1≤999999:=by
      have h1:=HE.out.2.1
      rw [hval.out] at h1
      have h2:b*(g+1)<B*b:=by rw [Nat.mul_add,Nat.mul_one];omega
      rw [Nat.mul_comm B b] at h2
      have h3:=Nat.lt_of_mul_lt_mul_left h2
      rw [dH] at h3
      omega
     have HV2:=Ha (show R=b*(g+1)+(ρ - b) by rw [hval.out,Nat.mul_add,Nat.mul_one];omega)
     have c6:=fun W (h:Below wr.heap.size wr W)=>jh _ _ (dg ρ) (dg b) W (hS.out.nat.next h) (hNb.next h) (aq _) (aq _) (by
      have h1:ρ≤R:=by have:=hval.out;have:0≤b*g:=Nat.zero_le _;omega
      have:=aC h1
      have:=HE.out.2.2
      omega) (aC (by omega)) (by rw [ar,ar];omega)
     rw [ar,ar] at c6
     have C6:=Ha c6
     clear cs hNb hc hval c6 hlt
     have hLL:True:=trivial
     go_wp2_with fail
     refine CS.out.mono ?_
     rintro e w' ⟨rfl,k,rfl⟩
     have HS6:=Ha (hS.out.next (Below.drewK _ _ k))
     have C7:=Ha (C6.out _ (Below.drewK _ _ k))
     clear CS hS C6
     generalize wr.drewN k=W6 at *
     go_wp2_with fail
     refine C7.out.mono ?_
     rintro e W7 ⟨g7,cap7,rfl,hv7,hg7,hB7⟩
     have HS8:=Ha ((HS6.out.next hB7).rest hv7 (fun k hk=>by cases hk;have:=HS6.out.row.lt;show gq+1≤g7;omega))
     clear hv7 hg7 hB7 C7 HS6
     go_wp2
     go_roundw
     case rel=>exact ⟨ρ - b,g+1,g7,_,cap7,rfl,rfl,by go_num,hg1,HV2.out,HS8.out⟩
     case measure=>exact yr (by omega)
end R
end Go.Proofs.YtjdomibbaemdnaaGreatDoor
