/- Parts of the proof of the text YtjdomibbaemdnaaGreatDoorZK42. -/
import Derived.Test.YtjdomibbaemdnaaGreatDoorZK1
import Derived.Test.YtjdomibbaemdnaaGreatDoorZK37
set_option linter.all false
set_option maxRecDepth 100000
set_option maxHeartbeats 8000000
namespace Go.Proofs.YtjdomibbaemdnaaGreatDoor.T
open Go.Proofs.YtjdomibbaemdnaaGreatDoor Go Go.RowKit
def kC (j:Nat):Nat:=af[j]?.getD 0
theorem vi {j:Nat} (h:j<25):af.take (j+1)=af.take j ++ [kC j]:=by
 have hl:af.length=25:=rfl
 unfold kC
 rw [List.getElem?_eq_getElem (by omega),List.take_succ_eq_append_getElem (by omega)];rfl
theorem kD {j:Nat} (h:j<25):kC j∈af:=by
 have hl:af.length=25:=rfl
 unfold kC
 rw [List.getElem?_eq_getElem (by omega)];exact List.getElem_mem _
theorem rD (w:World) :
  Calls Tryz.prog 62 #[] w fun e W'=>∃ b,e = .returned (.slice (some ⟨b,0,none⟩) 25 25)∧b<W'.heap.size∧(∀ j,j<25→W'.cell? ⟨b,j,none⟩=some (.int .i64 (kC j:Nat)))∧Below w.heap.size w W':=by
 have key:∀ (vs:Array Value),vs=(af.map fun n=>Value.int .i64 (n:Nat)).toArray→∀ j,j<25→(w.alloc (.cells vs 3)).cell? ⟨w.heap.size,j,none⟩=some (.int .i64 (kC j:Nat)):=by
  rintro _ rfl j h
  refine (Blk.new w _ 3).cell j _ ?_
  have hl:af.length=25:=rfl
  rw [List.getElem?_toArray,List.getElem?_map,List.getElem?_eq_getElem (by omega)]
  unfold kC
  rw [List.getElem?_eq_getElem (by omega)];rfl
 have key2:=fun vs=>(Below.refl w.heap.size w).alloc (Nat.le_refl _) (.cells vs 3)
 have K:=Ha (Hb key key2);clear key key2
 go_enter Tryz.func62,Tryz.ntmps62
 go_wp2
 go_ret
 exact ⟨_,rfl,by simp,K.out.1 _ rfl,K.out.2 _⟩
theorem oN {j m K M:Nat} (hj:j<25) (h:ad (af.take j) m=(K,M)):ad (af.take (j+1)) m=(K*(strip (kC j) M).1,(strip (kC j) M).2):=by
 rw [vi hj,fX,h]
theorem oO {j m:Nat} (h0:0<m):(ad (af.take j) m).1*(ad (af.take j) m).1*(ad (af.take j) m).2=m∧0<(ad (af.take j) m).1∧0<(ad (af.take j) m).2:=by
 obtain ⟨a1,a2,a3,_⟩:=aV (af.take j) (fun p hp=>fS p (List.mem_of_mem_take hp)) h0
 exact ⟨a1.symm,a2,a3⟩
theorem rE {c g m:Nat} (h:c*c*g=m) (hc:0<c) (hg:0<g):c≤m∧g≤m:=by
 rw [←h]
 exact ⟨by rw [Nat.mul_assoc];exact Nat.le_mul_of_pos_right _ (Nat.mul_pos hc hg),Nat.le_mul_of_pos_left _ (Nat.mul_pos hc hc)⟩
structure LsAt (w:World) (b:Nat) (W:World):Prop where
 below:Below w.heap.size w W
 lt:b<W.heap.size
 cell:∀ j,j<25→W.cell? ⟨b,j,none⟩=some (.int .i64 (kC j:Nat))
theorem LsAt.drew {w W:World} {b:Nat} (h:LsAt w b W):LsAt w b W.drew:=⟨h.below.drew,h.lt,h.cell⟩
theorem LsAt.next {w W W':World} {b:Nat} (h:LsAt w b W) (k:Below W.heap.size W W'):LsAt w b W' :=
 ⟨h.below.trans (k.mono h.below.size),Nat.lt_of_lt_of_le h.lt k.size,fun j hj=>(k.cell (p:=⟨b,j,none⟩) h.lt).trans (h.cell j hj)⟩
theorem Bx {n:Nat} (h:n<100000000000000000):n<lim:=Nat.lt_of_lt_of_le (show n<aO 17 from h) (aP (by decide))
theorem xi {z:Int} (h1:0≤z) (h2:z<1000000000000000000):IntKind.i64.wrap z=z:=by rw [IntKind.wrap_i64];omega
theorem xj {z:Int} (h1:0≤z) (h2:z<1000000000000000000):wrap64 z=z:=by unfold wrap64;omega
theorem zN {z:Int} {n:Nat} (h:z=(n:Int)) (h2:n<100000000000000000):IntKind.i64.wrap z=z∧wrap64 z=z:=by
 subst h;exact ⟨xi (by omega) (by omega),xj (by omega) (by omega)⟩
theorem vj (m:Nat) (w:World) (h0:0<m) (hm:m<100000000000000000) (hs:(sN m).size≤17) (ht:Tab w) :
  Calls Tryz.prog 29 #[.string (sN m)] w fun e W'=>e = .returned (.tuple #[.string (sN (ad af m).2),.string (sN (ad af m).1)])∧Below w.heap.size w W':=by
 have C1:Hid (∀ u:Nat,u<100000000000000000→∀ W,Below w.heap.size w W→Calls Tryz.prog 64 #[.int .i64 u] W fun e W'=>e = .returned (.string (sN u))∧Below W.heap.size W W') :=
  Ha (fun u hu W hW=>gS _ W (by omega) (by omega) (ht.next hW))
 have C2:Hid (∀ W,Calls Tryz.prog 63 #[.string (sN m)] W fun e W'=>e = .returned (.tuple #[.int .i64 m,.nilIface])∧Below W.heap.size W W'):=Ha (fun W=>tU (m:Int) W (aF.2 (Bx hm)) (by omega))
 have KP:=Ha (rD w)
 have HM:=Ha (Hb h0 hm);clear h0 hm ht
 have hs1:((sN m).size:Int)≤17:=by omega
 clear hs
 go_enter Tryz.func29,Tryz.ntmps29
 go_wp2_with fail
 refine KP.out.mono ?_
 rintro e w1 ⟨b,rfl,hb,hc,bw⟩
 have HB1:Hid (LsAt w b w1):=Ha ⟨bw,hb,hc⟩;clear bw hb hc KP
 go_wp2_with fail
 refine (C2.out _).mono ?_
 rintro e w2 ⟨rfl,bw⟩
 have HB:=Ha (HB1.out.next bw);clear bw HB1 C2
 go_wp2
 clear hs1
 go_loopw [5,7,8] (fun x y i wr=>∃ k M K:Nat,x = .int .i64 M∧y = .int .i64 K∧i = .int .i64 k∧k≤25∧Hid (ad (af.take k) m=(K,M))∧Hid (LsAt w b wr)) (fun _ _ i _=>25 - (intOf i).toNat)
 case atStart=>exact ⟨0,m,1,rfl,rfl,rfl,by omega,by show _=_;simp [ad],HB⟩
 case round =>
  clear HB
  obtain ⟨k,M,K,rfl,rfl,rfl,hk,HS,HB⟩:=hrel
  obtain ⟨s1,s2,s3⟩:=oO (j:=k) HM.out.1
  rw [HS.out] at s1 s2 s3
  dsimp only at s1 s2 s3
  by_cases hlt:k<25
  ·have hup:=oN hlt HS.out
   have hp:=gI (kD hlt)
   have hpp:=iG (kD hlt)
   have HC:Hid (∀ W,LsAt w b W→W.cell? ⟨b,k,none⟩=some (.int .i64 (kC k:Nat))):=Ha (fun W h=>h.cell k hlt)
   generalize kC k=p at *
   have HX:=Ha (Hb hup (Hb s1 (Hb s2 (Hb s3 (Hb hp hpp)))));clear hup s1 s2 s3 hp hpp HS
   have hpl:0<(p:Int)*(p:Int)∧(p:Int)*(p:Int)≤9409:=by have h1:=HX.out.2.2.2.2.2;have h2:0<p*p:=Nat.mul_pos (by have:=HX.out.2.2.2.2.1;omega) (by have:=HX.out.2.2.2.2.1;omega);rw [←Int.natCast_mul];omega
   have hw:wrap64 ((p:Int)*(p:Int))=(p:Int)*(p:Int):=xj (by omega) (by omega)
   have hwI:IntKind.i64.wrap ((p:Int)*(p:Int))=(p:Int)*(p:Int):=xi (by omega) (by omega)
   have hz0:¬ (p:Int)*(p:Int)=0:=by omega
   clear hpl
   go_wp2
   go_loopw [5,7] (fun x y wx=>∃ g c:Nat,x = .int .i64 g∧y = .int .i64 c∧Hid (c*c*g=m∧0<c∧0<g∧c*(strip p g).1=K*(strip p M).1∧(strip p g).2=(strip p M).2)∧Hid (LsAt w b wx)) (fun x _ _=>(intOf x).toNat)
   case atStart=>exact ⟨M,K,rfl,rfl,Ha ⟨HX.out.2.1,HX.out.2.2.1,HX.out.2.2.2.1,rfl,rfl⟩,HB⟩
   case round =>
    clear HB
    obtain ⟨g,c,rfl,rfl,HI,HB⟩:=hrel
    have hck:=HC.out _ HB.out
    have hmd:(g:Int).tmod ((p:Int)*(p:Int))=((g % (p*p):Nat):Int):=by rw [←Int.natCast_mul];exact (Int.ofNat_tmod g (p*p)).symm
    by_cases hz:g % (p*p)=0
    ·have hq:((g:Int).tmod ((p:Int)*(p:Int))==0)=true:=by rw [hmd,hz];rfl
     have hs:=fy (p:=p) HX.out.2.2.2.2.1.1 HI.out.2.2.1 hz
     have hdm:g=p*p*(g / (p*p)):=by have:=Nat.div_add_mod g (p*p);omega
     have hg2:0<g / (p*p):=Nat.pos_of_ne_zero fun e=>by rw [e,Nat.mul_zero] at hdm;have:=HI.out.2.2.1;omega
     have hlt2:g / (p*p)<g:=Nat.div_lt_self HI.out.2.2.1 (jJ HX.out.2.2.2.2.1.1)
     have hcm:c*p*(c*p)*(g / (p*p))=m:=by rw [Nat.mul_mul_mul_comm,Nat.mul_assoc (c*c),←hdm];exact HI.out.1
     have h3:c*p*(strip p (g / (p*p))).1=K*(strip p M).1:=by rw [←HI.out.2.2.2.1,hs,Nat.mul_assoc]
     have h4:(strip p (g / (p*p))).2=(strip p M).2:=by rw [←HI.out.2.2.2.2,hs]
     have hcp:0<c*p:=Nat.mul_pos HI.out.2.1 (by have:=HX.out.2.2.2.2.1;omega)
     obtain ⟨l1,l2⟩:=rE hcm hcp hg2
     have hcl:c*p<100000000000000000:=Nat.lt_of_le_of_lt l1 HM.out.2
     have hgl:g / (p*p)<100000000000000000:=Nat.lt_of_le_of_lt l2 HM.out.2
     have htd:(g:Int) / ((p:Int)*(p:Int))=((g / (p*p):Nat):Int):=by rw [←Int.natCast_mul,←Int.natCast_ediv]
     obtain ⟨hd1,hd1'⟩:=zN htd hgl
     have hcmul:(c:Int)*(p:Int)=((c*p:Nat):Int):=(Int.natCast_mul c p).symm
     obtain ⟨hd2,hd2'⟩:=zN hcmul hcl
     have HN:=Ha (Hb hlt2 (show c*p*(c*p)*(g / (p*p))=m∧0<c*p∧0<g / (p*p)∧c*p*(strip p (g / (p*p))).1=K*(strip p M).1∧(strip p (g / (p*p))).2=(strip p M).2 from ⟨hcm,hcp,hg2,h3,h4⟩))
     have HD:=Ha (Hb htd hcmul)
     clear hs hdm hg2 hlt2 hcm h3 h4 hcp l1 l2 hcl hgl hz HI hmd htd hcmul
     go_wp2
     go_region_held3 (fun w'=>w'.cell? ⟨b,k,none⟩=some (.int .i64 (p:Int))) (first | exact hck | (go_keep;done)) (first | fail)
     go_wp2
     go_region_held3 (fun w'=>w'.cell? ⟨b,k,none⟩=some (.int .i64 (p:Int))) (first | exact hck | (go_keep;done)) (first | fail)
     go_wp2
     go_roundw
     case rel=>exact ⟨g / (p*p),c*p,by first | rw [HD.out.1] | rw [hd1,HD.out.1],by first | rw [HD.out.2] | rw [hd2,HD.out.2],Ha HN.out.2,Ha HB.out.drew.drew⟩
     case measure =>
      have h:=HN.out.1
      first | rw [HD.out.1] | rw [hd1,HD.out.1]
      show (((g / (p*p):Nat):Int)).toNat<((g:Nat):Int).toNat
      rw [Int.toNat_natCast,Int.toNat_natCast];exact h
    ·have hq:((g:Int).tmod ((p:Int)*(p:Int))==0)=false:=by rw [hmd,beq_eq_false_iff_ne];intro e;exact hz (Int.ofNat.inj e)
     have hs:=dD (p:=p) hz
     have e3:=HI.out.2.2.2.1
     have e4:=HI.out.2.2.2.2
     rw [hs] at e3 e4
     have HN:Hid (ad (af.take (k+1)) m=(c,g)):=Ha (by rw [HX.out.1,←e3,←e4,Nat.mul_one])
     clear e3 e4 hs hz HI hmd
     go_wp2
     go_region_held3 (fun w'=>w'.cell? ⟨b,k,none⟩=some (.int .i64 (p:Int))) (first | exact hck | (go_keep;done)) (first | fail)
     go_wp2
     go_roundw
     case rel=>exact ⟨k+1,g,c,rfl,rfl,by go_num,by omega,HN,Ha HB.out.drew⟩
     case measure=>simp [intOf];omega
  ·obtain rfl:k=25:=by omega
   have e:=HS.out
   rw [show af.take 25=af from rfl] at e
   obtain ⟨l1,l2⟩:=rE s1 s2 s3
   have u1:=Ha (C1.out M (Nat.lt_of_le_of_lt l2 HM.out.2))
   have u2:=Ha (C1.out K (Nat.lt_of_le_of_lt l1 HM.out.2))
   have HE:=Ha e
   clear e s1 s2 s3 l1 l2 HS C1 HM hk hlt
   go_wp2_with fail
   refine (u1.out _ HB.out.below).mono ?_
   rintro e w3 ⟨rfl,bw⟩
   replace HB:=Ha (HB.out.next bw);clear bw
   go_wp2_with fail
   refine (u2.out _ HB.out.below).mono ?_
   rintro e w4 ⟨rfl,bw⟩
   replace HB:=Ha (HB.out.next bw);clear bw
   go_wp2
   go_ret2
   exact ⟨by rw [HE.out];rfl,HB.out.below⟩
theorem rF (n:Nat):ae (sN n).data.toList=n:=by
 unfold sN;rw [ay,Lib.itoa_nonneg];exact dJ n
theorem By (s:ByteArray) (h:(s.toList == [48])=false):(s.toList != [48])=true:=by rw [bne,h];rfl
theorem Ax (s:ByteArray) (h:(s.toList == [48])=true):(s.toList != [48])=false:=by rw [bne,h];rfl
theorem xk (m:Nat) (w:World) (h0:0<m) (hm:m<lim) (hs:¬ (sN m).size≤17) (ht:Tab w) :
  Calls Tryz.prog 29 #[.string (sN m)] w fun e W'=>e = .returned (.tuple #[.string (sN (ad af m).2),.string (sN (ad af m).1)])∧Below w.heap.size w W':=by
 have C1:Hid (∀ u:Nat,u<100000000000000000→∀ W,Below w.heap.size w W→Calls Tryz.prog 64 #[.int .i64 u] W fun e W'=>e = .returned (.string (sN u))∧Below W.heap.size W W') :=
  Ha (fun u hu W hW=>gS _ W (by omega) (by omega) (ht.next hW))
 have C2:Hid (∀ x y,x<lim→y<lim→0<y→∀ W,Below w.heap.size w W→Calls Tryz.prog 65 #[.string (sN x),.string (sN y)] W fun e W'=>e = .returned (.tuple #[.string (sN (x / y)),.string (sN (x % y)),.int .i64 0])∧Below W.heap.size W W') :=
  Ha (fun x y hx hy h W hW=>Bu x y W hx hy h (ht.next hW))
 have C3:Hid (∀ x y,x<lim→y<lim→x*y<lim→∀ W,Below w.heap.size w W→Calls Tryz.prog 30 #[.string (sN x),.string (sN y)] W fun e W'=>e = .returned (.string (sN (x*y)))∧Below W.heap.size W W') :=
  Ha (fun x y hx hy h W hW=>mr x y W hx hy h (ht.next hW))
 have KP:=Ha (rD w)
 have HM:=Ha (Hb h0 hm);clear h0 hm ht
 have hs1:¬ ((sN m).size:Int)≤17:=by omega
 have e1:(⟨#[49]⟩:ByteArray)=sN 1:=(gp 1 [49] bK).symm
 clear hs
 go_enter Tryz.func29,Tryz.ntmps29
 go_wp2_with fail
 refine KP.out.mono ?_
 rintro e w1 ⟨b,rfl,hb,hc,bw⟩
 have HB:Hid (LsAt w b w1):=Ha ⟨bw,hb,hc⟩;clear bw hb hc KP
 go_wp2
 clear hs1
 go_loopw [0,9,10] (fun x y i wr=>∃ k M K:Nat,x = .string (sN M)∧y = .string (sN K)∧i = .int .i64 k∧k≤25∧Hid (ad (af.take k) m=(K,M))∧Hid (LsAt w b wr)) (fun _ _ i _=>25 - (intOf i).toNat)
 case atStart=>exact ⟨0,m,1,rfl,by rw [e1],rfl,by omega,by show _=_;simp [ad],HB⟩
 case round =>
  clear HB e1
  obtain ⟨k,M,K,rfl,rfl,rfl,hk,HS,HB⟩:=hrel
  obtain ⟨s1,s2,s3⟩:=oO (j:=k) HM.out.1
  rw [HS.out] at s1 s2 s3
  dsimp only at s1 s2 s3
  by_cases hlt:k<25
  ·have hup:=oN hlt HS.out
   have hp:=gI (kD hlt)
   have hpp:=iG (kD hlt)
   have HC:Hid (∀ W,LsAt w b W→W.cell? ⟨b,k,none⟩=some (.int .i64 (kC k:Nat))):=Ha (fun W h=>h.cell k hlt)
   generalize kC k=p at *
   have HX:=Ha (Hb hup (Hb s1 (Hb s2 (Hb s3 (Hb hp hpp)))));clear hup s1 s2 s3 hp hpp HS
   have hpos:0<p*p:=Nat.mul_pos (by have:=HX.out.2.2.2.2.1;omega) (by have:=HX.out.2.2.2.2.1;omega)
   have hpl:0<(p:Int)*(p:Int)∧(p:Int)*(p:Int)≤9409:=by have h1:=HX.out.2.2.2.2.2;rw [←Int.natCast_mul];omega
   have hw:wrap64 ((p:Int)*(p:Int))=(p:Int)*(p:Int):=xj (by omega) (by omega)
   have hwI:IntKind.i64.wrap ((p:Int)*(p:Int))=(p:Int)*(p:Int):=xi (by omega) (by omega)
   have hpL:p*p<lim:=Nat.lt_of_le_of_lt HX.out.2.2.2.2.2 pI
   have HP:=Ha (Hb hpos hpL)
   have i1:=Ha (C1.out (p*p) (by have:=HX.out.2.2.2.2.2;omega))
   have i2:=Ha (C1.out p (by have:=HX.out.2.2.2.2.1;omega))
   rw [Int.natCast_mul] at i1
   clear hpl hpos hpL
   have HD:=Ha HB.out.drew
   have hck:=HC.out _ HB.out
   go_wp2
   clear HB;have HB:=HD;clear HD
   go_region_held3 (fun w'=>w'.cell? ⟨b,k,none⟩=some (.int .i64 (p:Int))) (first | exact hck | (go_keep;done) | exact HC.out _ HB.out) (first | (go_at_call 64;refine Calls.mono (i1.out _ HB.out.below) ?_;rintro e w9 ⟨rfl,bw⟩;have HN2:=Ha (HB.out.next bw);clear HB bw;have HB:=HN2;clear HN2))
   clear hck
   go_wp2
   clear hw hwI
   go_loopw [0,9] (fun x y wx=>∃ g c:Nat,x = .string (sN g)∧y = .string (sN c)∧Hid (c*c*g=m∧0<c∧0<g∧c*(strip p g).1=K*(strip p M).1∧(strip p g).2=(strip p M).2)∧Hid (LsAt w b wx)) (fun x _ _=>ae (match x with | .string s=>s.data.toList | _ => []))
   case atStart=>exact ⟨M,K,rfl,rfl,Ha ⟨HX.out.2.1,HX.out.2.2.1,HX.out.2.2.2.1,rfl,rfl⟩,HB⟩
   case round =>
    clear HB
    obtain ⟨g,c,rfl,rfl,HI,HB⟩:=hrel
    obtain ⟨l1,l2⟩:=rE HI.out.1 HI.out.2.1 HI.out.2.2.1
    have d1:=Ha (C2.out g (p*p) (Nat.lt_of_le_of_lt l2 HM.out.2) HP.out.2 HP.out.1)
    have z1:=zI (g % (p*p))
    by_cases hz:g % (p*p)=0
    ·rw [decide_eq_true hz] at z1
     have z2:=Ax _ z1
     have hs:=fy (p:=p) HX.out.2.2.2.2.1.1 HI.out.2.2.1 hz
     have hdm:g=p*p*(g / (p*p)):=by have:=Nat.div_add_mod g (p*p);omega
     have hg2:0<g / (p*p):=Nat.pos_of_ne_zero fun e=>by rw [e,Nat.mul_zero] at hdm;have:=HI.out.2.2.1;omega
     have hlt2:g / (p*p)<g:=Nat.div_lt_self HI.out.2.2.1 (jJ HX.out.2.2.2.2.1.1)
     have hcm:c*p*(c*p)*(g / (p*p))=m:=by rw [Nat.mul_mul_mul_comm,Nat.mul_assoc (c*c),←hdm];exact HI.out.1
     have h3:c*p*(strip p (g / (p*p))).1=K*(strip p M).1:=by rw [←HI.out.2.2.2.1,hs,Nat.mul_assoc]
     have h4:(strip p (g / (p*p))).2=(strip p M).2:=by rw [←HI.out.2.2.2.2,hs]
     have hcp:0<c*p:=Nat.mul_pos HI.out.2.1 (by have:=HX.out.2.2.2.2.1;omega)
     obtain ⟨l3,l4⟩:=rE hcm hcp hg2
     have t1:=Ha (C3.out c p (Nat.lt_of_le_of_lt l1 HM.out.2) (by have:=HX.out.2.2.2.2.1;have:=pI;omega) (Nat.lt_of_le_of_lt l3 HM.out.2))
     have HN:=Ha (Hb hlt2 (show c*p*(c*p)*(g / (p*p))=m∧0<c*p∧0<g / (p*p)∧c*p*(strip p (g / (p*p))).1=K*(strip p M).1∧(strip p (g / (p*p))).2=(strip p M).2 from ⟨hcm,hcp,hg2,h3,h4⟩))
     clear hs hdm hg2 hlt2 hcm h3 h4 hcp l1 l2 l3 l4 hz HI
     go_wp2_with fail
     refine (d1.out _ HB.out.below).mono ?_
     rintro e w3 ⟨rfl,bw⟩
     have HZ:=Ha (HB.out.next bw);clear HB bw;have HB:=HZ;clear HZ
     have hck:=HC.out _ HB.out
     go_wp2_with fail
     refine (i2.out _ HB.out.below).mono ?_
     rintro e w5 ⟨rfl,bw⟩
     have HZ:=Ha (HB.out.next bw);clear HB bw;have HB:=HZ;clear HZ
     go_wp2_with fail
     refine (t1.out _ HB.out.below).mono ?_
     rintro e w6 ⟨rfl,bw⟩
     have HZ:=Ha (HB.out.next bw);clear HB bw;have HB:=HZ;clear HZ
     go_wp2
     go_roundw
     case rel=>exact ⟨g / (p*p),c*p,rfl,rfl,Ha HN.out.2,HB⟩
     case measure =>
      show ae (sN (g / (p*p))).data.toList<ae (sN g).data.toList
      rw [rF,rF];exact HN.out.1
    ·rw [decide_eq_false hz] at z1
     have z2:=By _ z1
     have hs:=dD (p:=p) hz
     have e3:=HI.out.2.2.2.1
     have e4:=HI.out.2.2.2.2
     rw [hs] at e3 e4
     have HN:Hid (ad (af.take (k+1)) m=(c,g)):=Ha (by rw [HX.out.1,←e3,←e4,Nat.mul_one])
     clear e3 e4 hs hz HI l1 l2
     go_wp2_with fail
     refine (d1.out _ HB.out.below).mono ?_
     rintro e w3 ⟨rfl,bw⟩
     have HZ:=Ha (HB.out.next bw);clear HB bw;have HB:=HZ;clear HZ
     go_wp2
     go_roundw
     case rel=>exact ⟨k+1,g,c,rfl,rfl,by go_num,by omega,HN,HB⟩
     case measure=>simp [intOf];omega
  ·obtain rfl:k=25:=by omega
   have e:=HS.out
   rw [show af.take 25=af from rfl] at e
   have HE:=Ha e
   clear e s1 s2 s3 HS C1 C2 C3 HM hk hlt
   go_wp2
   go_ret2
   exact ⟨by rw [HE.out];rfl,HB.out.below⟩
end Go.Proofs.YtjdomibbaemdnaaGreatDoor.T
