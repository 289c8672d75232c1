/- Parts of the proof of the text YtjdfjgfdbgmbiaaGreatDoorHB39. -/
import Derived.Test.YtjdfjgfdbgmbiaaGreatDoorHB1
import Derived.Test.YtjdfjgfdbgmbiaaGreatDoorHB10
import Derived.Test.YtjdfjgfdbgmbiaaGreatDoorHB4
set_option linter.all false
set_option maxRecDepth 100000
set_option maxHeartbeats 8000000
namespace Go.Proofs.YtjdfjgfdbgmbiaaGreatDoor
open Go.RowKit
theorem rootN_pos_le {a:Nat}:rootN a≤a:=by
 have:=(rootN_is a).1
 by_cases h0:rootN a=0
 ·omega
 ·exact Nat.le_trans (Nat.le_mul_of_pos_left _ (by omega)) this
theorem dg_succ_len (n:Nat):(dg (n+1)).length≤(dg n).length+1:=by
 rw [dg_length_le]
 have h:=(dg_length_le n _).1 (Nat.le_refl _)
 rw [Nat.pow_succ]
 have:B ^ (dg n).length*2≤B ^ (dg n).length*B:=Nat.mul_le_mul_left _ (by decide)
 omega
theorem dg_mulpow_len (n p:Nat):(dg (n*B ^ p)).length≤(dg n).length+p:=by
 rw [dg_length_le,Nat.pow_add]
 exact Nat.mul_lt_mul_of_pos_right ((dg_length_le n _).1 (Nat.le_refl _)) (Nat.pow_pos B_pos)
theorem isNat_one (w:World):IsNat (w.alloc (.cells #[.int .u64 1] 179)) (.slice (some ⟨w.heap.size,0,none⟩) 1 1) 1:=by
 show Nats _ _ (dg 1)
 rw [show dg 1 = [1] by decide+kernel]
 exact Nats.of_cells (l := [1]) (Nat.le_refl _) (by decide) (fun i hi=>by
  match i,hi with
  | 0,_=>go_cell)
theorem root_any (L:Nat):∀ (va:Value) (a:Nat) (w:World),IsNat w va a→(dg a).length≤L→L≤1000 →
  Calls Tryz.prog 170 #[va] w fun e W'=>∃ v,e = .returned v∧IsNat W' v (rootN a)∧Fresh w.heap.size v∧Below w.heap.size w W':=by
 induction L using Nat.strongRecOn with
 | _ L ih =>
 intro va a w ha hl hL
 by_cases h2:(dg a).length≤2
 ·exact root_small va a w ha (by have:=(dg_length_le a 2).1 h2;rwa [show B ^ 2=1000000000000000000 from rfl] at this)
 ·obtain ⟨n,hn⟩:∃ n,(dg a).length=n:=⟨_,rfl⟩
  obtain ⟨P,hP⟩:∃ P,(n+1) / 4=P:=⟨_,rfl⟩
  have hP1:1≤P:=by omega
  have hP2:2*P<n:=by omega
  have hsh:∃ b off ca,va = .slice (some ⟨b,off,none⟩) n ca∧n≤ca:=by
   obtain ⟨p,cap,rfl,h1,h2,h3⟩:=ha
   obtain ⟨b,off,rfl,_⟩:=h3 (by intro e;rw [e] at hn;simp at hn;omega)
   exact ⟨b,off,cap,by rw [hn],by omega⟩
  obtain ⟨b,off,ca,rfl,hca⟩:=hsh
  have ha':Nats w (.slice (some ⟨b,off,none⟩) (dg a).length ca) (dg a):=by rw [hn];exact ha
  have hsub:=ha'.drop (k:=2*P) (by omega)
  rw [dg_drop,hn] at hsub
  have hlen:(dg (a / B ^ (2*P))).length=n - 2*P:=by rw [←dg_drop,List.length_drop,hn]
  have cr:=ih (n - 2*P) (by omega) _ (a / B ^ (2*P)) w hsub (Nat.le_of_eq hlen) (by omega)
  obtain ⟨r,hr⟩:∃ r,rootN (a / B ^ (2*P))=r:=⟨_,rfl⟩
  have hrl:(dg r).length≤1000:=by
   have h1:=dg_len_le (show r≤a / B ^ (2*P) by rw [←hr];exact rootN_pos_le)
   omega
  have hst:rootN a≤(r+1)*B ^ P:=root_start (by rw [←hr];exact rootN_is _)
  rw [hr] at cr
  have cs:=fun v W (h:IsNat W v r)=>sum_any v (.slice (some ⟨W.heap.size,0,none⟩) 1 1) r 1 (W.alloc (.cells #[.int .u64 1] 179)) (h.next ((Below.refl _ W).alloc (Nat.le_refl _) _)) (isNat_one W) (by omega) (by rw [show dg 1 = [1] by decide+kernel];decide)
  have ch:=fun v W (h:IsNat W v (r+1))=>shifted_any v (r+1) P W h (by omega) (by have:=dg_succ_len r;omega) (by omega)
  have CR:=Lib.hid (And.intro cr (And.intro cs ch))
  have HA:=Lib.hid (And.intro ha (And.intro hst hrl))
  have eP:((n:Int)+1) / 4=(P:Int):=by omega
  have hn2:¬ (n:Int)≤2:=by omega
  have hPn:(2:Int)*(P:Int)≤(n:Int):=by omega
  have HN:=Lib.hid (And.intro hn (And.intro hl hL))
  have hnL:n≤1000:=by omega
  clear cr cs ch ih hsub ha' hlen hr hst hrl h2 hn hl hL ha hP
  go_enter Tryz.func170,Tryz.ntmps170
  go_wp2_with fail
  refine CR.out.1.mono ?_
  rintro e w1 ⟨v1,rfl,hv1,_,hb1⟩
  obtain ⟨p1,c1,rfl⟩:=hv1.shape
  have H1:=Lib.hid (And.intro hv1 hb1)
  have CS:=Lib.hid (CR.out.2.1 _ w1 hv1)
  clear hv1 hb1
  go_wp2_with fail
  refine CS.out.mono ?_
  rintro e w2 ⟨v2,rfl,hv2,_,hb2⟩
  obtain ⟨p2,c2,rfl⟩:=hv2.shape
  have hB2:Below w.heap.size w w2:=H1.out.2.trans ((((Below.refl _ w1).alloc (Nat.le_refl _) _).trans (hb2.mono (by simp))).mono H1.out.2.size)
  have CH:=Lib.hid (CR.out.2.2 _ w2 hv2)
  have H2:=Lib.hid hB2
  clear hv2 hb2 hB2 CS H1 CR
  go_wp2_with fail
  refine CH.out.mono ?_
  rintro e w3 ⟨v3,rfl,hv3,hf3,hb3⟩
  have H3:=Lib.hid (And.intro hv3 (And.intro (hf3.mono H2.out.size) (H2.out.trans (hb3.mono H2.out.size))))
  clear hv3 hf3 hb3 H2 CH
  go_wp2
  go_loopw [4] (fun x wr=>∃ (g:Nat),Hid (IsNat wr x g)∧Hid (rootN a≤g∧0<g∧(dg g).length≤400000∧Fresh w.heap.size x)∧Hid (Below w.heap.size w wr))
   (fun x wr=>natVal wr x)
  case atStart =>
   refine ⟨(r+1)*B ^ P,H3.out.1,⟨HA.out.2.1,Nat.mul_pos (Nat.succ_pos r) (Nat.pow_pos B_pos),?_,H3.out.2.1⟩,H3.out.2.2⟩
   have h1:=dg_mulpow_len (r+1) P
   have h2:=dg_succ_len r
   have h3:=HA.out.2.2
   omega
  case round =>
   clear H3
   obtain ⟨g,hg,hgb,hbel⟩:=hrel
   have ha3:=HA.out.1.next hbel.out
   have hal:(dg a).length≤900000:=by rw [HN.out.1];omega
   have cd:=divide_any _ _ a g wr ha3 hg.out (by have:=hgb.out.2.1;omega) hal
   have hql:(dg (a / g)).length≤1000:=by
    have:=dg_len_le (Nat.div_le_self a g)
    rw [HN.out.1] at this;omega
   have CD:=Lib.hid cd
   have HQ:=Lib.hid hql
   clear cd ha3 hal hql
   go_wp2_with fail
   refine CD.out.mono ?_
   rintro e w4 ⟨q,q0,rfl,hq,_,_,_,hb4⟩
   obtain ⟨pq,cq,rfl⟩:=hq.shape
   have H4:=Lib.hid (And.intro hq (And.intro (hg.out.next hb4) (hbel.out.trans (hb4.mono hbel.out.size))))
   have CS:=Lib.hid (sum_any _ _ g (a / g) w4 (hg.out.next hb4) hq (by have:=hgb.out.2.2.1;omega) (by have:=HQ.out;omega))
   clear hq hb4 CD
   go_wp2_with fail
   refine CS.out.mono ?_
   rintro e w5 ⟨s,rfl,hs,_,hb5⟩
   obtain ⟨ps,cs,rfl⟩:=hs.shape
   have hsl:(dg (g+a / g)).length≤1000000:=by
    have h1:=hgb.out.2.2.1
    have h2:=HQ.out
    rw [dg_length_le] at h1 h2 ⊢
    obtain ⟨k1,e1⟩:∃ k,k=1000:=⟨_,rfl⟩
    obtain ⟨k2,e2⟩:∃ k,k=400000:=⟨_,rfl⟩
    obtain ⟨k3,e3⟩:∃ k,k=1000000:=⟨_,rfl⟩
    rw [←e1] at h2
    rw [←e2] at h1
    rw [←e3]
    have h3:B ^ k1≤B ^ k2:=Nat.pow_le_pow_right B_pos (by omega)
    have h4:B ^ k2*B≤B ^ k3:=by rw [←Nat.pow_succ];exact Nat.pow_le_pow_right B_pos (by omega)
    have h5:B ^ k2*2≤B ^ k2*B:=Nat.mul_le_mul_left _ (by decide)
    clear e1 e2 e3
    generalize B ^ k1=X at *
    generalize B ^ k2=Y at *
    generalize B ^ k3=Z at *
    omega
   have ch:=divideShort_any _ (dg (g+a / g)) 2 w5 hs (dg_Dig _) hsl (by decide) (by decide)
   rw [toN_dg] at ch
   have CH:=Lib.hid ch
   have H5:=Lib.hid (And.intro (H4.out.2.1.next hb5) (H4.out.2.2.trans (hb5.mono H4.out.2.2.size)))
   clear hs hb5 CS ch H4 hsl
   go_wp2_with fail
   refine CH.out.mono ?_
   rintro e w6 ⟨x,rfl,hx,hxf,hb6⟩
   obtain ⟨px,cx,rfl⟩:=hx.shape
   have H6:=Lib.hid (And.intro hx (And.intro (H5.out.1.next hb6) (And.intro (hxf.mono H5.out.2.size) (H5.out.2.trans (hb6.mono H5.out.2.size)))))
   have CC:=Lib.hid (compare_any _ _ _ _ w6 hx (H5.out.1.next hb6))
   clear hx hxf hb6 CH H5
   go_wp2_with fail
   refine CC.out.mono ?_
   rintro e w7 ⟨rfl,k,rfl⟩
   have HGB:=Lib.hid (newton_ge a g hgb.out.2.1 (rootN a) (rootN_is a))
   clear CC
   by_cases hc:(g+a / g) / 2<g
   ·rw [cmpN_lt hc]
    have HC:=Lib.hid hc
    clear hc
    go_wp2
    go_roundw
    case rel =>
     refine ⟨(g+a / g) / 2,H6.out.1.next (Below.drewK _ _ _),⟨HGB.out,?_,?_,H6.out.2.2.1⟩,H6.out.2.2.2.trans (Below.drewK _ _ _)⟩
     ·have h1:=HGB.out
      have h2:0<rootN a:=by
       rcases Nat.eq_zero_or_pos (rootN a) with h | h
       ·exfalso
        have h3:=(rootN_is a).2
        rw [h] at h3
        have h4:a=0:=by omega
        have h5:=HN.out.1
        rw [h4,dg_zero] at h5
        simp at h5
        omega
       ·exact h
      omega
     ·have:=dg_len_le (Nat.le_of_lt HC.out)
      have:=hgb.out.2.2.1
      omega
    case measure =>
     have e1:=natVal_eq (H6.out.1.next (Below.drewK w6.heap.size w6 k))
     have e2:=natVal_eq hg.out
     show natVal _ (Value.slice px _ cx)<natVal wr _
     rw [e1]
     refine Nat.lt_of_lt_of_eq HC.out e2.symm
   ·have hge:¬ cmpN ((g+a / g) / 2) g<0:=by
     unfold cmpN;rw [if_neg hc];split <;> omega
    have he:g=rootN a:=newton_done a g (rootN a) hgb.out.2.1 (rootN_is a) hgb.out.1 (by omega)
    generalize cmpN ((g+a / g) / 2) g=c at *
    have HE:=Lib.hid he
    clear he hc
    go_wp2
    go_ret
    exact ⟨_,rfl,by rw [←HE.out];exact H6.out.2.1.next (Below.drewK _ _ _),hgb.out.2.2.2,H6.out.2.2.2.trans (Below.drewK _ _ _)⟩
theorem Gcd_mid (a b:ByteArray) (w:World) (k1:chk a.data.toList=0) (k2:chk b.data.toList=0) (s1:(szB a).size≤18) (s2:(szB b).size≤18) (ht:Tab w) :
  Calls Tryz.prog 127 #[.string a,.string b] w fun e W'=>e = .returned (.tuple #[.string (strB (Nat.gcd (natOf (szL a.data.toList)) (natOf (szL b.data.toList)):Nat)),.int .i64 0])∧Below w.heap.size w W':=by
 have q1:=chk_size k1
 have q2:=chk_size k2
 have cb:=checkBoth_any a b w (by unfold maxLen;omega) (by unfold maxLen;omega)
 have hc2:chk2 a.data.toList b.data.toList=0:=by unfold chk2;rw [if_pos k1];exact k2
 rw [hc2] at cb
 have z1:=szB_size a
 have z2:=szB_size b
 have i1:=fun W=>isShort_any (szB a) W (by unfold maxLen;omega)
 have i2:=fun W=>isShort_any (szB b) W (by unfold maxLen;omega)
 have t1:decide (((szB a).size:Int)≤18)=true:=by simp;omega
 have t2:decide (((szB b).size:Int)≤18)=true:=by simp;omega
 rw [t1] at i1;rw [t2] at i2
 have m1:=fun W=>value_any (szB a) W (by omega) (by rw [szB_data];exact chk_dig k1)
 have m2:=fun W=>value_any (szB b) W (by omega) (by rw [szB_data];exact chk_dig k2)
 rw [szB_data] at m1 m2
 have v1:=natOf_18 _ (chk_dig k1) (by have:=s1;rw [←size_len,szB_data] at this;exact this)
 have v2:=natOf_18 _ (chk_dig k2) (by have:=s2;rw [←size_len,szB_data] at this;exact this)
 have y1:=fun W=>sizeText_any a W (by unfold maxLen;omega)
 have y2:=fun W=>sizeText_any b W (by unfold maxLen;omega)
 generalize natOf (szL a.data.toList)=x at *
 generalize natOf (szL b.data.toList)=y at *
 have dm:=fun W=>gcdMachine_any x y W (by omega) (by omega)
 have hg:Nat.gcd x y<1000000000000000000:=by
  by_cases h0:x=0
  ·subst h0;rw [Nat.gcd_zero_left];exact v2
  ·exact Nat.lt_of_le_of_lt (Nat.gcd_le_left _ (by omega)) v1
 generalize Nat.gcd x y=g at *
 have o1:=fun W (h:Below w.heap.size w W)=>ofMachine_any (g:Nat) W (by omega) (by omega) (ht.next h)
 clear s1 s2
 generalize szB a=sa at *
 generalize szB b=sb at *
 have C:=Lib.hid (And.intro cb (And.intro y1 (And.intro y2 (And.intro i1 (And.intro i2 (And.intro m1 (And.intro m2 (And.intro dm o1))))))))
 clear cb i1 i2 m1 m2 dm o1 y1 y2 v1 v2 t1 t2 hc2 ht k1 k2 z1 z2
 go_enter Tryz.func127,Tryz.ntmps127
 go_wp2_with fail
 refine C.out.1.mono ?_
 rintro e w' ⟨rfl,rfl⟩
 go_wp2_with fail
 refine (C.out.2.1 _).mono ?_
 rintro e w' ⟨rfl,rfl⟩
 go_wp2_with fail
 refine (C.out.2.2.1 _).mono ?_
 rintro e w' ⟨rfl,rfl⟩
 go_wp2_with fail
 refine (C.out.2.2.2.1 _).mono ?_
 rintro e w' ⟨rfl,rfl⟩
 go_wp2_with fail
 refine (C.out.2.2.2.2.1 _).mono ?_
 rintro e w' ⟨rfl,rfl⟩
 go_wp2_with fail
 refine (C.out.2.2.2.2.2.1 _).mono ?_
 rintro e w' ⟨rfl,rfl⟩
 go_wp2_with fail
 refine (C.out.2.2.2.2.2.2.1 _).mono ?_
 rintro e w' ⟨rfl,rfl⟩
 go_wp2_with fail
 refine (C.out.2.2.2.2.2.2.2.1 _).mono ?_
 rintro e w' ⟨rfl,nn,rfl⟩
 go_wp2_with fail
 refine (C.out.2.2.2.2.2.2.2.2 _ (Below.drewN' nn)).mono ?_
 rintro e w1 ⟨rfl,b1⟩
 have H1:=Lib.hid ((Below.drewN' nn).trans (show Below w.heap.size (w.drewN nn) w1 from b1));clear b1 C
 go_wp2
 go_ret2
 exact ⟨rfl,H1.out⟩
theorem szL_valAbs (l:List UInt8):(valOf l).natAbs=natOf (szL l):=by rw [←val_sgn,sgn_abs]
theorem strB_neg (x:Int):isNeg (strB x).data.toList=decide (x<0):=by
 rw [strB_data];exact head_itoa_neg x
theorem strB_nat {x:Int} (hx:x.natAbs<lim):natOf (szL (strB x).data.toList)=x.natAbs:=by
 rw [←szL_valAbs,strB_val]
theorem strB_natN {x:Int} (hx:x.natAbs<lim) (h:0≤x):natOf (strB x).data.toList=x.natAbs:=by
 have h1:=strB_nat hx
 have h2:szL (strB x).data.toList=(strB x).data.toList:=by
  unfold szL;rw [strB_neg,decide_eq_false (by omega)];rfl
 rwa [h2] at h1
theorem Root_str (x:Int) (w:World) (h0:0≤x) (hx:x.natAbs<lim) (ht:Tab w) :
  Calls Tryz.prog 133 #[.string (strB x)] w fun e W'=>e = .returned (.tuple #[.string (strB (rootN x.natAbs:Nat)),.int .i64 0])∧Below w.heap.size w W':=by
 have hs:=strB_size hx
 have hd:=chk_dig (strB_chk hx)
 have hneg:isNeg (strB x).data.toList=false:=by rw [strB_neg];exact decide_eq_false (by omega)
 have hz:szL (strB x).data.toList=(strB x).data.toList:=by unfold szL;rw [hneg];rfl
 rw [hz] at hd
 have c0:=check_any (strB x) w (by unfold maxLen;omega)
 rw [strB_chk hx] at c0
 have c1:=fun W=>isNegative_any (strB x) W
 rw [hneg] at c1
 have c2:=fun W=>readNatural_any (strB x) W (by omega) hd
 have hn:=strB_natN hx h0
 rw [hn] at c2
 have hr:rootN x.natAbs<lim:=Nat.lt_of_le_of_lt rootN_pos_le hx
 have hl:(dg x.natAbs).length≤1000:=Nat.le_trans (dg_lim hx) (by decide)
 generalize x.natAbs=n at *
 have c3:=fun v W (h:IsNat W v n)=>root_any 1000 v n W h hl (Nat.le_refl _)
 have e1:resB (sgnZ false (rootN n))=strB (rootN n:Nat):=by unfold sgnZ;exact if_pos (by simpa using hr)
 have e2:resE (sgnZ false (rootN n))=0:=by unfold sgnZ;exact if_pos (by simpa using hr)
 have tx:=fun v W (h:IsNat W v (rootN n)) (hb:Below w.heap.size w W)=>text_any false v (rootN n) W h (Nat.le_trans (dg_lim hr) (by decide)) (ht.next hb)
 rw [e1,e2] at tx
 have C:=Lib.hid (And.intro c0 (And.intro c1 (And.intro c2 (And.intro c3 tx))))
 clear c0 c1 c2 c3 tx e1 e2 hr hl hn hd hz hneg hx h0 ht
 generalize strB x=sx at *
 generalize rootN n=r at *
 go_enter Tryz.func133,Tryz.ntmps133
 go_wp2_with fail
 refine C.out.1.mono ?_
 rintro e w' ⟨rfl,rfl⟩
 go_wp2_with fail
 refine (C.out.2.1 _).mono ?_
 rintro e w' ⟨rfl,rfl⟩
 go_wp2_with fail
 refine (C.out.2.2.1 _).mono ?_
 rintro e w1 ⟨v1,rfl,h1,_,b1⟩
 have H1:=Lib.hid (And.intro h1 b1);clear h1 b1
 go_wp2_with fail
 refine (C.out.2.2.2.1 _ _ H1.out.1).mono ?_
 rintro e w2 ⟨v2,rfl,h2,_,b2⟩
 obtain ⟨p2,cap2,rfl⟩:=h2.shape
 have H2:=Lib.hid (And.intro h2 (H1.out.2.trans (b2.mono H1.out.2.size)));clear h2 b2 H1
 go_wp2_with fail
 refine (C.out.2.2.2.2 _ _ H2.out.1 H2.out.2).mono ?_
 rintro e w3 ⟨rfl,b3⟩
 have H3:=Lib.hid (H2.out.2.trans (b3.mono H2.out.2.size));clear b3 H2 C
 go_wp2
 go_ret2
 exact ⟨rfl,H3.out⟩
end Go.Proofs.YtjdfjgfdbgmbiaaGreatDoor
namespace Go.Proofs.YtjdfjgfdbgmbiaaGreatDoor
theorem gcd_unimod {a b c d:Nat} {x1 y1 x2 y2 s:Int} (h1:x1*a+y1*b=c) (h2:x2*a+y2*b=d) (hs:s=1∨s = -1) (hd:x1*y2 - x2*y1=s):Nat.gcd c d=Nat.gcd a b:=by
 refine Nat.dvd_antisymm (Nat.dvd_gcd ?_ ?_) (Nat.dvd_gcd ?_ ?_)
 ·have hc:((Nat.gcd c d:Nat):Int)∣c:=Int.natCast_dvd_natCast.2 (Nat.gcd_dvd_left c d)
  have hd':((Nat.gcd c d:Nat):Int)∣d:=Int.natCast_dvd_natCast.2 (Nat.gcd_dvd_right c d)
  have e:(a:Int)=s*(y2*c - y1*d):=by rcases hs with rfl | rfl <;> grind
  refine Int.natCast_dvd_natCast.1 ?_
  rw [e]
  exact Int.dvd_mul_of_dvd_right (Int.dvd_sub (Int.dvd_mul_of_dvd_right hc) (Int.dvd_mul_of_dvd_right hd'))
 ·have hc:((Nat.gcd c d:Nat):Int)∣c:=Int.natCast_dvd_natCast.2 (Nat.gcd_dvd_left c d)
  have hd':((Nat.gcd c d:Nat):Int)∣d:=Int.natCast_dvd_natCast.2 (Nat.gcd_dvd_right c d)
  have e:(b:Int)=s*(x1*d - x2*c):=by rcases hs with rfl | rfl <;> grind
  refine Int.natCast_dvd_natCast.1 ?_
  rw [e]
  exact Int.dvd_mul_of_dvd_right (Int.dvd_sub (Int.dvd_mul_of_dvd_right hd') (Int.dvd_mul_of_dvd_right hc))
 ·refine Int.natCast_dvd_natCast.1 ?_
  rw [←h1]
  exact Int.dvd_add (Int.dvd_mul_of_dvd_right (Int.natCast_dvd_natCast.2 (Nat.gcd_dvd_left a b))) (Int.dvd_mul_of_dvd_right (Int.natCast_dvd_natCast.2 (Nat.gcd_dvd_right a b)))
 ·refine Int.natCast_dvd_natCast.1 ?_
  rw [←h2]
  exact Int.dvd_add (Int.dvd_mul_of_dvd_right (Int.natCast_dvd_natCast.2 (Nat.gcd_dvd_left a b))) (Int.dvd_mul_of_dvd_right (Int.natCast_dvd_natCast.2 (Nat.gcd_dvd_right a b)))
def Good (a b:Nat) (x1 y1 x2 y2:Int):Prop :=
 ∃ c d:Nat,x1*a+y1*b=c∧x2*a+y2*b=d∧d<c∧c<a∧Nat.gcd c d=Nat.gcd a b ∧
  ((0≤x1∧y1≤0∧x2≤0∧0≤y2)∨(x1≤0∧0≤y1∧0≤x2∧y2≤0)) ∧
  x1.natAbs<1000000000∧y1.natAbs<1000000000∧x2.natAbs<1000000000∧y2.natAbs<1000000000
theorem lehmer_fin {a b sc D P Q al bl p q x0 x1 y0 y1:Nat} {s:Int} (ha:a*sc=P*D+al) (hb:b*sc=Q*D+bl) (hal:al<D) (hbl:bl<D)
  (hP:P=y1*p+y0*q) (hQ:Q=x1*p+x0*q) (hs:s=1∨s = -1) (hdet:(x0:Int)*y1 - (x1:Int)*y0=s) (hq:y1≤q) (hpq:q+(y0+y1)≤p)
  (hx0:x0≤y0) (hx1:x1≤y1) (hy:y0≤y1) (hy0:1≤y0) (hP18:P<1000000000000000000) :
  Good a b (s*x0) (-s*y0) (-s*x1) (s*y1):=by
 have hD:0<D:=by omega
 have hy9:y1<1000000000:=by
  apply Decidable.byContradiction
  intro hc
  have h1:y1*y1≤y1*p:=Nat.mul_le_mul_left _ (by omega)
  have h2:1000000000*1000000000≤y1*y1:=Nat.mul_le_mul (by omega) (by omega)
  omega
 have b1:x0*al≤y0*al:=Nat.mul_le_mul_right _ hx0
 have b2:x1*al≤y1*al:=Nat.mul_le_mul_right _ hx1
 have b3:y0*al+y0≤y0*D:=by rw [←Nat.mul_succ];exact Nat.mul_le_mul_left _ hal
 have b4:y1*al+y1≤y1*D:=by rw [←Nat.mul_succ];exact Nat.mul_le_mul_left _ hal
 have b5:y0*bl+y0≤y0*D:=by rw [←Nat.mul_succ];exact Nat.mul_le_mul_left _ hbl
 have b6:y1*bl+y1≤y1*D:=by rw [←Nat.mul_succ];exact Nat.mul_le_mul_left _ hbl
 have b7:y1*D≤q*D:=Nat.mul_le_mul_right _ hq
 have b8:q*D+(y0*D+y1*D)≤p*D:=by rw [←Nat.add_mul,←Nat.add_mul];exact Nat.mul_le_mul_right _ hpq
 have b9:(p+y0)*D≤P*D:=by
  refine Nat.mul_le_mul_right _ ?_
  have h1:1*p≤y1*p:=Nat.mul_le_mul_right _ (by omega)
  have h2:y0*1≤y0*q:=Nat.mul_le_mul_left _ (by omega)
  omega
 rw [Nat.add_mul] at b9
 have c1:(s*x0*a + -s*y0*b)*sc=(p:Int)*D+s*(x0*al - y0*bl):=by
  have ha':(a:Int)*sc=P*D+al:=by exact_mod_cast ha
  have hb':(b:Int)*sc=Q*D+bl:=by exact_mod_cast hb
  have hP':(P:Int)=y1*p+y0*q:=by exact_mod_cast hP
  have hQ':(Q:Int)=x1*p+x0*q:=by exact_mod_cast hQ
  rcases hs with rfl | rfl <;> grind
 have c2:(-s*x1*a+s*y1*b)*sc=(q:Int)*D+s*(y1*bl - x1*al):=by
  have ha':(a:Int)*sc=P*D+al:=by exact_mod_cast ha
  have hb':(b:Int)*sc=Q*D+bl:=by exact_mod_cast hb
  have hP':(P:Int)=y1*p+y0*q:=by exact_mod_cast hP
  have hQ':(Q:Int)=x1*p+x0*q:=by exact_mod_cast hQ
  rcases hs with rfl | rfl <;> grind
 have hsc:0<sc:=by
  rcases Nat.eq_zero_or_pos sc with h | h
  ·subst h;omega
  ·exact h
 have ha':(a:Int)*sc=P*D+al:=by exact_mod_cast ha
 have n1:((x0*al:Nat):Int)=(x0:Int)*al:=Int.natCast_mul _ _
 have n2:((y0*bl:Nat):Int)=(y0:Int)*bl:=Int.natCast_mul _ _
 have n3:((x1*al:Nat):Int)=(x1:Int)*al:=Int.natCast_mul _ _
 have n4:((y1*bl:Nat):Int)=(y1:Int)*bl:=Int.natCast_mul _ _
 have n5:((p*D:Nat):Int)=(p:Int)*D:=Int.natCast_mul _ _
 have n6:((q*D:Nat):Int)=(q:Int)*D:=Int.natCast_mul _ _
 have n7:((P*D:Nat):Int)=(P:Int)*D:=Int.natCast_mul _ _
 rw [←n5,←n1,←n2] at c1
 rw [←n6,←n3,←n4] at c2
 rw [←n7] at ha'
 have hsc':(0:Int)<sc:=by omega
 generalize hA:s*x0*a + -s*y0*b=A at *
 generalize hB : -s*x1*a+s*y1*b=C at *
 have d1:0≤C*sc:=by rcases hs with rfl | rfl <;> omega
 have d2:C*sc<A*sc:=by rcases hs with rfl | rfl <;> omega
 have d3:A*sc<a*sc:=by rcases hs with rfl | rfl <;> omega
 have f1:0≤C:=Int.nonneg_of_mul_nonneg_left d1 hsc'
 have f2:C<A:=Int.lt_of_mul_lt_mul_right d2 (by omega)
 have f3:A<a:=Int.lt_of_mul_lt_mul_right d3 (by omega)
 obtain ⟨c,hc⟩:∃ c:Nat,A=c:=⟨A.toNat,by omega⟩
 obtain ⟨d,hd⟩:∃ d:Nat,C=d:=⟨C.toNat,by omega⟩
 subst hc
 subst hd
 refine ⟨c,d,hA,hB,by omega,by omega,gcd_unimod hA hB hs ?_,?_,?_,?_,?_,?_⟩
 ·rcases hs with rfl | rfl <;> grind
 ·rcases hs with rfl | rfl
  ·left;omega
  ·right;omega
 ·rcases hs with rfl | rfl <;> omega
 ·rcases hs with rfl | rfl <;> omega
 ·rcases hs with rfl | rfl <;> omega
 ·rcases hs with rfl | rfl <;> omega
theorem lehmer_step {P Q p q x1 x2 y1 y2:Nat} {s:Int} (hP:P=y2*p+y1*q) (hQ:Q=x2*p+x1*q) (hdet:(x1:Int)*y2 - (x2:Int)*y1 = -s) (_hq:0<q) :
  P=(y1+p / q*y2)*q+y2*(p % q)∧Q=(x1+p / q*x2)*q+x2*(p % q)∧(x2:Int)*((y1+p / q*y2:Nat):Int) - ((x1+p / q*x2:Nat):Int)*y2=s:=by
 have e:=Nat.div_add_mod p q
 generalize p / q=t at *
 generalize p % q=r at *
 subst e
 refine ⟨?_,?_,?_⟩
 ·rw [hP];grind
 ·rw [hQ];grind
 ·rw [Int.natCast_add,Int.natCast_add,Int.natCast_mul,Int.natCast_mul];grind
end Go.Proofs.YtjdfjgfdbgmbiaaGreatDoor
