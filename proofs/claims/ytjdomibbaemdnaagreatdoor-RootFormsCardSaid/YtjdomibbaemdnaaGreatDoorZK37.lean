/- Parts of the proof of the text YtjdomibbaemdnaaGreatDoorZK42. -/
import Derived.Test.YtjdomibbaemdnaaGreatDoorZK1
import Derived.Test.YtjdomibbaemdnaaGreatDoorZK11
import Derived.Test.YtjdomibbaemdnaaGreatDoorZK23
import Derived.Test.YtjdomibbaemdnaaGreatDoorZK24
import Derived.Test.YtjdomibbaemdnaaGreatDoorZK25
import Derived.Test.YtjdomibbaemdnaaGreatDoorZK26
import Derived.Test.YtjdomibbaemdnaaGreatDoorZK33
import Derived.Test.YtjdomibbaemdnaaGreatDoorZK36
set_option linter.all false
set_option maxRecDepth 100000
set_option maxHeartbeats 8000000
namespace Go.Proofs.YtjdomibbaemdnaaGreatDoor
namespace R
open Go.RowKit
structure TenT (s:ByteArray) (i:Nat):Prop where
 len:s.size=i+1
 dig:∀ c∈s.data.toList,az c=true
 head:s.data.toList.head? = some 49
 val:ae s.data.toList=10 ^ i
theorem TenT.start:TenT ⟨#[49]⟩ 0:=⟨rfl,by decide,rfl,by decide⟩
theorem wY (s t:ByteArray):(s++t).data.toList=s.data.toList++t.data.toList:=by simp
theorem TenT.step {s:ByteArray} {i:Nat} (h:TenT s i):TenT (s++⟨#[48]⟩) (i+1):=by
 have hd:(s++⟨#[48]⟩).data.toList=s.data.toList ++ [48]:=by rw [wY]
 refine ⟨?_,?_,?_,?_⟩
 ·rw [←ac,hd,List.length_append,ac,h.len];rfl
 ·rw [hd];intro c hc
  rcases List.mem_append.1 hc with hc | hc
  ·exact h.dig c hc
  ·rw [List.mem_singleton.1 hc];decide
 ·rw [hd,List.head?_append,h.head];rfl
 ·rw [hd,bo,h.val,Nat.pow_succ];rfl
theorem TenT.neg {s:ByteArray} {i:Nat} (h:TenT s i):ap s.data.toList=false:=by unfold ap;rw [h.head];rfl
theorem TenT.szL {s:ByteArray} {i:Nat} (h:TenT s i):szL s.data.toList=s.data.toList:=by
 unfold Go.Proofs.YtjdomibbaemdnaaGreatDoor.szL;rw [h.neg];rfl
theorem TenT.chk {s:ByteArray} {i:Nat} (h:TenT s i) (hi:i<300):chk s.data.toList=0:=by
 unfold Go.Proofs.YtjdomibbaemdnaaGreatDoor.chk
 rw [h.szL]
 have h1:s.data.toList.all az=true:=List.all_eq_true.2 h.dig
 have h2:s.data.toList ≠ []:=fun e=>by have:=h.head;rw [e] at this;cases this
 have h3:¬ (s.data.toList = []∨(s.data.toList.head? = some 48∧s.data.toList ≠ [48])):=by
  rintro (h | ⟨h4,_⟩)
  ·exact h2 h
  ·rw [h.head] at h4;cases h4
 rw [h1,if_neg (by simp),if_neg h3,if_neg (by rw [ac,h.len];omega)]
theorem vg (w:World):IsNat (w.alloc (.cells #[.int .i64 2] 3)) (.slice (some ⟨w.heap.size,0,none⟩) 1 1) 2:=by
 show Nats _ _ (dg 2)
 rw [gl (by decide) (by decide)]
 exact kt w 2
theorem wZ (a:ByteArray) (w:World) (ha:a.size≤maxLen) (hc:chk a.data.toList≠0) :
  Calls Tryz.prog 68 #[.string a] w fun e W'=>e = .returned (.tuple #[.string ⟨#[]⟩,.int .i64 (chk a.data.toList)])∧Below w.heap.size w W':=by
 have C:=Ha (dq a w ha)
 generalize chk a.data.toList=c at *
 have hn:(c != 0)=true:=by rw [bne_iff_ne];exact hc
 clear hc
 go_enter Tryz.func68,Tryz.ntmps68
 go_wp2_with fail
 refine C.out.mono ?_
 rintro e w' ⟨rfl,rfl⟩
 go_wp2
 go_ret2
 exact ⟨rfl,Below.refl _ _⟩
theorem qv (a:ByteArray) (w:World) (k1:chk a.data.toList=0) (hn:ap a.data.toList=true) :
  Calls Tryz.prog 68 #[.string a] w fun e W'=>e = .returned (.tuple #[.string ⟨#[]⟩,.int .i64 2])∧Below w.heap.size w W':=by
 have s1:=bz k1
 have c0:=dq a w (by unfold maxLen;omega)
 rw [k1] at c0
 have r1:=fun W=>bM a W (by omega) k1
 rw [hn] at r1
 have C:=Ha (Hb c0 r1)
 clear c0 r1 k1 hn
 go_enter Tryz.func68,Tryz.ntmps68
 go_wp2_with fail
 refine C.out.1.mono ?_
 rintro e w' ⟨rfl,rfl⟩
 go_wp2_with fail
 refine (C.out.2 _).mono ?_
 rintro e w1 ⟨va,rfl,hva,_,hb1⟩
 obtain ⟨pa,ca,rfl⟩:=hva.shape
 have HB:=Ha (hb1.trans (((Below.refl _ w1).alloc (Nat.le_refl _) (.cells #[.bool true,.slice pa (dg (ae (szL a.data.toList))).length ca] 122)).mono hb1.size))
 clear hva hb1
 generalize (dg (ae (szL a.data.toList))).length=la at *
 go_wp2
 go_ret2
 exact ⟨rfl,HB.out⟩
theorem As (i k:Nat) (h:i<k):10 ^ i<10 ^ k:=Nat.pow_lt_pow_right (by decide) h
theorem vh {x r:Nat} (_hr:aj x≤r) (h:x<r*r):0<r∧aj x≤(r+x / r) / 2∧(r+x / r) / 2<r:=by
 have h0:0<r:=by
  rcases Nat.eq_zero_or_pos r with h1 | h1
  ·rw [h1] at h;omega
  ·exact h1
 have h1:x / r<r:=by rw [Nat.div_lt_iff_lt_mul h0];exact h
 exact ⟨h0,k9 x r h0 _ (cC x),by omega⟩
theorem xc {x r:Nat} (hr:aj x≤r) (h:¬ x<r*r):r=aj x:=by
 have h1:=(cC x).2
 rcases Nat.lt_or_ge (aj x) r with h2 | h2
 ·exfalso
  have:=Nat.mul_self_le_mul_self (show aj x+1≤r from h2)
  omega
 ·omega
theorem yR (a:ByteArray) (w:World) (k1:chk a.data.toList=0) (hn:ap a.data.toList=false) :
  Calls Tryz.prog 68 #[.string a] w fun e W'=>e = .returned (.tuple #[.string (aa (aj (ae (szL a.data.toList)):Nat)),.int .i64 0])∧Below w.heap.size w W':=by
 have s1:=bz k1
 have c0:=dq a w (by unfold maxLen;omega)
 rw [k1] at c0
 have r1:=fun W=>bM a W (by omega) k1
 rw [hn] at r1
 have hx10:ae (szL a.data.toList)<10 ^ a.size:=by
  have h1:=a7 _ (bY k1)
  exact Nat.lt_of_lt_of_le h1 (Nat.pow_le_pow_right (by decide) (by have:=df a.data.toList;rwa [ac] at this))
 have n1:=im (cO k1)
 have hroot:aj (ae (szL a.data.toList))≤10 ^ ((a.size+1) / 2):=by
  refine Nat.le_of_lt (jZ _ _ (Nat.lt_of_lt_of_le hx10 ?_))
  rw [←Nat.pow_add]
  exact Nat.pow_le_pow_right (by decide) (by omega)
 have C:=Ha (Hb c0 r1)
 clear c0 r1 k1 hn hx10
 generalize ae (szL a.data.toList)=x at *
 obtain ⟨k,hk⟩:∃ k,(a.size+1) / 2=k:=⟨_,rfl⟩
 have hk1:k≤151:=by omega
 rw [hk] at hroot
 have ek:((a.size:Int)+1) / 2=(k:Int):=by omega
 have HR:=Ha hroot
 have HX:=Ha (fun n (h:n=x)=>show (dg n).length≤50 by rw [h];exact n1)
 clear hk hroot n1
 go_enter Tryz.func68,Tryz.ntmps68
 go_wp2_with fail
 refine C.out.1.mono ?_
 rintro e w' ⟨rfl,rfl⟩
 go_wp2_with fail
 refine (C.out.2 _).mono ?_
 rintro e w1 ⟨va,rfl,hva,_,hb1⟩
 obtain ⟨pa,ca,rfl⟩:=hva.shape
 have hbW:Below w1.heap.size w1 (w1.alloc (.cells #[.bool false,.slice pa (dg x).length ca] 122)):=(Below.refl _ _).alloc (Nat.le_refl _) _
 have H1:=Ha (Hb (hva.next hbW) (Hb (hb1.trans (hbW.mono hb1.size)) (C2.new w1 (.bool false) (.slice pa (dg x).length ca) 122)))
 clear hva hb1 hbW C
 generalize hlx:(dg x).length=lx at *
 have HLX:=Ha hlx
 clear hlx
 go_wp2
 generalize w1.alloc (.cells #[.bool false,.slice pa lx ca] 122)=W1 at *
 generalize w1.heap.size=o at *
 go_loop [6,7] (fun u v=>∃ (s:ByteArray) (i:Nat),u = .string s∧v = .int .i64 i∧i≤k∧Hid (TenT s i)) (fun _ v=>k - (intOf v).toNat)
 case atStart=>exact ⟨⟨#[49]⟩,0,rfl,rfl,Nat.zero_le _,TenT.start⟩
 case round =>
  obtain ⟨s,i,rfl,rfl,hik,hT⟩:=hrel
  have hsz:s.size≤200:=by rw [hT.out.len];omega
  by_cases hlt:i<k
  ·have HT2:=Ha hT.out.step
   go_wp2
   go_round
   case rel=>exact ⟨s++⟨#[48]⟩,i+1,rfl,by go_num,by omega,HT2.out⟩
   case measure=>simp [intOf];omega
  ·obtain rfl:i=k:=by omega
   have cr:=bM s W1 (by omega) (hT.out.chk (by omega))
   rw [hT.out.neg,hT.out.szL,hT.out.val] at cr
   have CR:=Ha cr
   have fd:=fun (v:Value) W=>sM (.bool false) v W
   clear cr hlt
   go_wp2_with fail
   refine CR.out.mono ?_
   rintro e w2 ⟨vr,rfl,hvr,_,hb2⟩
   obtain ⟨pr,cr,rfl⟩:=hvr.shape
   have fd2:=fd (.slice pr (dg (10 ^ i)).length cr)
   have H2:=Ha (Hb (H1.out.1.next hb2) (Hb hvr (Hb (H1.out.2.1.trans (hb2.mono H1.out.2.1.size)) (H1.out.2.2.next hb2))))
   clear hvr hb2 CR fd H1
   have HTE:=Ha (fun n (h:n=10 ^ i)=>show (dg n).length≤50 by
    rw [h];refine (ak _ _).2 ?_
    have q:=As i (6*50) (by omega)
    have r:=Nat.lt_of_lt_of_eq q (nh 50).symm
    exact r)
   generalize hlr:(dg (10 ^ i)).length=lr at *
   have HLR:=Ha hlr
   clear hlr
   generalize hten:10 ^ i=ten at *
   clear hten
   go_wp2
   clear fd2
   go_loopw [8] (fun u wr=>∃ (r l:Nat) (p:Option Addr) (c:Nat),u = .slice p l c∧Hid (l=(dg r).length)∧Hid (aj x≤r)∧Hid ((dg r).length≤50)∧Hid (IsNat wr u r)∧Hid (IsNat wr (.slice pa lx ca) x)∧Hid (C2 wr o (.bool false) (.slice pa lx ca))∧Hid (Below w.heap.size w wr))
    (fun u wr=>aX wr u)
   case atStart=>exact ⟨ten,lr,pr,cr,rfl,HLR.out.symm,HR.out,HTE.out _ rfl,H2.out.2.1,H2.out.1,H2.out.2.2.2,H2.out.2.2.1⟩
   case round =>
    clear H2 HLR
    obtain ⟨r,l,p,c,rfl,hl,hrr,hr50,hN,hNx,hC,hB⟩:=hrel
    have ct:∀ W,Below wr.heap.size wr W→Calls Tryz.prog 123 #[.slice p l c,.slice p l c] W fun e W'=>∃ v,e = .returned v∧IsNat W' v (r*r)∧Fresh W.heap.size v∧Below W.heap.size W W':=fun W hW=>by
     have:=gM _ _ (dg r) (dg r) W (Nats.next hN.out hW) (Nats.next hN.out hW) (aq r) (aq r) (by have:=hr50.out;omega) (by have:=hr50.out;omega)
     rwa [ar] at this
    have CT:=Ha ct
    have HBD:=Ha (Below.refl wr.heap.size wr).drew
    have c1:wr.drew.cell? ⟨o,1,none⟩=some (.slice pa lx ca):=hC.out.c1
    clear ct
    by_cases hlt:x<r*r
    ·obtain ⟨h0,h1,h2⟩:=vh hrr.out hlt
     have HCM:=Ha (er hlt)
     have HNX:=Ha (Hb h0 (Hb h1 h2))
     clear h0 h1 h2 hlt
     go_wp2
     go_region_held3 (fun w'=>w'.cell? ⟨o,1,none⟩=some (.slice pa lx ca)) (first | assumption | (go_keep;done))
      (first
       | (go_at_call 123;refine (CT.out _ HBD.out).mono ?_;rintro e w4 ⟨v,rfl,hv,_,hb4⟩;obtain ⟨pv,cv,rfl⟩:=hv.shape;have e1:w4.cell? ⟨o,1,none⟩=some (.slice pa lx ca):=(hC.out.next (HBD.out.trans (hb4.mono HBD.out.size))).c1;have H4:=Ha (Hb hv (HBD.out.trans (hb4.mono HBD.out.size)));clear hv hb4)
       | (go_at_call 122;refine (km _ _ (r*r) x _ H4.out.1 (hNx.out.next H4.out.2)).mono ?_;rw [HCM.out];rintro e w' ⟨rfl,kk,rfl⟩;have e2:(w4.drewN kk).cell? ⟨o,1,none⟩=some (.slice pa lx ca):=e1))
     have HB5:=Ha (H4.out.2.trans ((Below.drewK w4.heap.size w4 kk).mono H4.out.2.size))
     have HC5:=hC.out.next HB5.out
     have c5:=HC5.c1
     clear HC5 H4 CT e1 e2 c1
     generalize w4.drewN kk=w5 at *
     go_wp2_with fail
     refine (cH _ _ x r _ (hNx.out.next HB5.out) (hN.out.next HB5.out) (by have:=HNX.out.1;omega) (by have:=HX.out _ rfl;omega) (by have:=hr50.out;omega)).mono ?_
     rintro e w6 ⟨q,rm,rfl,hq,hrm,_,_,hb6⟩
     obtain ⟨pq,cq,rfl⟩:=hq.shape
     obtain ⟨prm,crm,rfl⟩:=hrm.shape
     have HB6:=Ha (HB5.out.trans (hb6.mono HB5.out.size))
     have HQ:=Ha hq
     have HQL:=Ha (fun n (h:n=x / r)=>show (dg n).length≤50 by rw [h];exact Nat.le_trans (aC (Nat.div_le_self _ _)) (HX.out _ rfl))
     clear hq hrm hb6 HB5 c5
     generalize (dg (x / r)).length=lq at *
     generalize (dg (x % r)).length=lrm at *
     go_wp2_with fail
     have cp:=kn _ _ (dg r) (dg (x / r)) w6 (Nats.next hN.out HB6.out) HQ.out (aq _) (aq _) (by have:=hr50.out;omega) (by have:=HQL.out _ rfl;omega)
     rw [ar,ar] at cp
     refine cp.mono ?_
     clear cp
     rintro e w7 ⟨vs,rfl,hvs,_,hb7⟩
     obtain ⟨ps,cs,rfl⟩:=hvs.shape
     have hb72:Below w7.heap.size w7 (w7.alloc (.cells #[.int .i64 2] 3)):=(Below.refl _ _).alloc (Nat.le_refl _) _
     have HB7:=Ha (HB6.out.trans ((hb7.trans (hb72.mono hb7.size)).mono HB6.out.size))
     have HVS:=Ha (hvs.next hb72)
     have H2N:=Ha (vg w7)
     clear hvs hb7 hb72 HB6 HQ
     have HSL:=Ha (fun n (h:n=r+x / r)=>show (dg n).length≤200 by rw [h];exact Nat.le_trans (iJ _ _) (by have:=HQL.out _ rfl;have:=hr50.out;omega))
     generalize (dg (r+x / r)).length=ls at *
     go_wp2_with fail
     generalize w7.alloc (.cells #[.int .i64 2] 3)=w8 at *
     refine (cH _ _ (r+x / r) 2 w8 HVS.out H2N.out (by decide) (by have:=HSL.out _ rfl;omega) (by rw [gl (by decide) (by decide)];simp)).mono ?_
     rintro e w9 ⟨r',rm',rfl,hr',hrm',_,_,hb9⟩
     obtain ⟨pr',cr',rfl⟩:=hr'.shape
     obtain ⟨prm',crm',rfl⟩:=hrm'.shape
     have HB9:=Ha (HB7.out.trans (hb9.mono HB7.out.size))
     have HR':=Ha hr'
     have HVL:=Ha (aL hN.out)
     have HL':=Ha (show (dg ((r+x / r) / 2)).length≤50 from Nat.le_trans (aC (Nat.le_of_lt HNX.out.2.2)) hr50.out)
     clear hr' hrm' hb9 HB7 HVS H2N
     go_wp2
     go_roundw
     case rel=>exact ⟨(r+x / r) / 2,_,_,_,rfl,rfl,HNX.out.2.1,HL'.out,HR'.out,hNx.out.next HB9.out,hC.out.next HB9.out,hB.out.trans (HB9.out.mono hB.out.size)⟩
     case measure =>
      show aX w9 _<aX wr _
      rw [HVL.out,aL HR'.out];exact HNX.out.2.2
    ·have he:=xc hrr.out hlt
     obtain ⟨cm,hcm⟩:∃ cm,bW (r*r) x=cm:=⟨_,rfl⟩
     have hc0:¬ 0<cm:=by
      rw [←hcm];unfold bW
      by_cases h1:r*r<x
      ·rw [if_pos h1];decide
      ·rw [if_neg h1,if_neg hlt];decide
     have HCM:=Ha hcm
     have HE:=Ha he
     clear hlt he hcm
     go_wp2
     go_region_held3 (fun w'=>w'.cell? ⟨o,1,none⟩=some (.slice pa lx ca)) (first | assumption | (go_keep;done))
      (first
       | (go_at_call 123;refine (CT.out _ HBD.out).mono ?_;rintro e w4 ⟨v,rfl,hv,_,hb4⟩;obtain ⟨pv,cv,rfl⟩:=hv.shape;have e1:w4.cell? ⟨o,1,none⟩=some (.slice pa lx ca):=(hC.out.next (HBD.out.trans (hb4.mono HBD.out.size))).c1;have H4:=Ha (Hb hv (HBD.out.trans (hb4.mono HBD.out.size)));clear hv hb4)
       | (go_at_call 122;refine (km _ _ (r*r) x _ H4.out.1 (hNx.out.next H4.out.2)).mono ?_;rw [HCM.out];rintro e w' ⟨rfl,kk,rfl⟩;have e2:(w4.drewN kk).cell? ⟨o,1,none⟩=some (.slice pa lx ca):=e1))
     have HB5:=Ha (H4.out.2.trans ((Below.drewK w4.heap.size w4 kk).mono H4.out.2.size))
     clear H4 CT e1 e2 c1
     generalize w4.drewN kk=w5 at *
     go_wp2_with fail
     refine (aZ false _ r w5 (hN.out.next HB5.out) (by have:=hr50.out;omega)).mono ?_
     rw [show am false r=(r:Int) from rfl]
     rintro e w6 ⟨rfl,hb6⟩
     have HB6:=Ha (hB.out.trans ((HB5.out.trans (hb6.mono HB5.out.size)).mono hB.out.size))
     clear hb6 HB5
     go_wp2
     go_ret2
     exact ⟨by rw [HE.out];rfl,HB6.out⟩
end R
namespace R
open Go.RowKit
noncomputable def rtB (l:List UInt8):ByteArray:=if chk l=0 then (if ap l=true then ⟨#[]⟩ else aa (aj (ae (szL l)):Nat)) else ⟨#[]⟩
def rtE (l:List UInt8):Int:=if chk l=0 then (if ap l=true then 2 else 0) else chk l
theorem Root_any (a:ByteArray) (w:World) (ha:a.size≤maxLen) :
  Calls Tryz.prog 68 #[.string a] w fun e W'=>e = .returned (.tuple #[.string (rtB a.data.toList),.int .i64 (rtE a.data.toList)])∧Below w.heap.size w W':=by
 by_cases hc:chk a.data.toList=0
 ·by_cases hn:ap a.data.toList=true
  ·have e1:rtB a.data.toList=⟨#[]⟩:=by unfold rtB;rw [if_pos hc,if_pos hn]
   have e2:rtE a.data.toList=2:=by unfold rtE;rw [if_pos hc,if_pos hn]
   rw [e1,e2];exact qv a w hc hn
  ·have e1:rtB a.data.toList=aa (aj (ae (szL a.data.toList)):Nat):=by unfold rtB;rw [if_pos hc,if_neg hn]
   have e2:rtE a.data.toList=0:=by unfold rtE;rw [if_pos hc,if_neg hn]
   rw [e1,e2];exact yR a w hc (by simpa using hn)
 ·have e1:rtB a.data.toList=⟨#[]⟩:=by unfold rtB;rw [if_neg hc]
  have e2:rtE a.data.toList=chk a.data.toList:=by unfold rtE;rw [if_neg hc]
  rw [e1,e2];exact wZ a w ha hc
end R
namespace T
open Go.RowKit
theorem Au (s:ByteArray) (w:World) (hs:s.size≤100000) :
  Calls Tryz.prog 53 #[.string s] w fun e W'=>e = .returned (.int .i64 ((szL s.data.toList).length:Nat))∧Below w.heap.size w W':=by
 have hm:s.size≤9223372036854775807:=by omega
 have hl:s.data.toList.length=s.size:=rfl
 by_cases h0:s.size=0
 ·have hE:=gZ h0
  have e0:s.data.toList = []:=dO h0
  have hE':(s.toList != [])=false:=by rw [bne,ByteArray.toList_eq,e0];rfl
  have HR:=Ha (show (szL s.data.toList).length=0 by rw [e0];rfl)
  clear hl e0 hs
  go_enter Tryz.func53,Tryz.ntmps53
  go_wp2
  go_ret
  exact ⟨an (by rw [HR.out];rfl),Below.refl _ _⟩
 ·have hp:0<s.size:=by omega
  have hE':s.toList.isEmpty=false:=by
   rw [ByteArray.toList_eq]
   cases hd:s.data.toList with
   | nil=>rw [hd] at hl;simp at hl;omega
   | cons a t=>rfl
  cases hn:ap s.data.toList
  ·have h45:((s[0].toNat:Int)==45)=false:=(bF hp).trans hn
   have HR:=Ha (show (szL s.data.toList).length=s.size by unfold szL;rw [hn];rfl)
   clear hl hn hs
   go_enter Tryz.func53,Tryz.ntmps53
   go_wp2
   go_ret
   exact ⟨an (by rw [HR.out]),Below.refl _ _⟩
  ·have h45:((s[0].toNat:Int)==45)=true:=(bF hp).trans hn
   have HR:=Ha (show (szL s.data.toList).length=s.size - 1 by unfold szL;rw [hn,if_pos rfl,List.length_tail];rfl)
   clear hl hn hs
   go_enter Tryz.func53,Tryz.ntmps53
   go_wp2
   go_ret
   exact ⟨an (by rw [HR.out];omega),Below.refl _ _⟩
theorem yS (a b c:ByteArray) (x:Int) (w:World)
  (h1:∀ W,Below w.heap.size w W→Calls Tryz.prog 66 #[.string a,.string b] W fun e W'=>e = .returned (.tuple #[.string c,.int .i64 x])∧Below W.heap.size W W')
  : Calls Tryz.prog 30 #[.string a,.string b] w fun e W'=>e = .returned (.string c)∧Below w.heap.size w W':=by
 have O:=Ha (h1);clear h1
 go_enter Tryz.func30,Tryz.ntmps30
 have HB:=Ha (Below.refl w.heap.size w)
 go_wp2_with fail
 refine (O.out _ HB.out).mono ?_
 rintro e w1 ⟨rfl,b⟩
 replace HB:=Ha (HB.out.trans (b.mono HB.out.size));clear b
 go_wp2
 go_ret
 exact ⟨rfl,HB.out⟩
theorem yT (a b c:ByteArray) (x:Int) (w:World)
  (h1:∀ W,Below w.heap.size w W→Calls Tryz.prog 69 #[.string a,.string b] W fun e W'=>e = .returned (.tuple #[.string c,.int .i64 x])∧Below W.heap.size W W')
  : Calls Tryz.prog 32 #[.string a,.string b] w fun e W'=>e = .returned (.string c)∧Below w.heap.size w W':=by
 have O:=Ha (h1);clear h1
 go_enter Tryz.func32,Tryz.ntmps32
 have HB:=Ha (Below.refl w.heap.size w)
 go_wp2_with fail
 refine (O.out _ HB.out).mono ?_
 rintro e w1 ⟨rfl,b⟩
 replace HB:=Ha (HB.out.trans (b.mono HB.out.size));clear b
 go_wp2
 go_ret
 exact ⟨rfl,HB.out⟩
theorem zM {x y:Rat} (hx:Sq x) (hy:Sq y):(∀ f,opB f (ah x) (ah y)=f x y)∧∀ f,opE f (ah x) (ah y)=f x y:=by
 have h:jw (ah x) (ah y)=0:=by unfold jw;rw [if_pos hx.chk,hy.chk]
 have rx:rat (ah x)=x:=iT x
 have ry:rat (ah y)=y:=iT y
 exact ⟨fun f=>by unfold opB;rw [if_pos h,rx,ry],fun f=>by unfold opE;rw [if_pos h,rx,ry]⟩
theorem mr (x y:Nat) (w:World) (hx:x<lim) (hy:y<lim) (h:x*y<lim) (ht:Tab w) :
  Calls Tryz.prog 30 #[.string (sN x),.string (sN y)] w fun e W'=>e = .returned (.string (sN (x*y)))∧Below w.heap.size w W':=by
 refine yS _ _ _ 0 w (fun W hW => ?_)
 have c:=kA (x:Int) (y:Int) W (aF.2 hx) (aF.2 hy) (ht.next hW)
 rw [←Int.natCast_mul,(pU (aF.2 h)).1,(pU (aF.2 h)).2] at c
 exact c
theorem sZ (x y:Rat) {j k:Nat} (w:World) (hx:Bq j x) (hy:Bq k y) (hb:j+k≤300) (h0:y≠0) (ht:Tab w) :
  Calls Tryz.prog 32 #[.string (ah x),.string (ah y)] w fun e W'=>e = .returned (.string (ah (x / y)))∧Below w.heap.size w W':=by
 refine yT _ _ _ 0 w (fun W hW => ?_)
 obtain ⟨a1,a2,_⟩:=mw hx hy hb h0
 have sx:Sq x:=hx.lim (by omega)
 have sy:Sq y:=hy.lim (by omega)
 have k:=wW (ah x) (ah y) W sx.size sy.size (ht.next hW)
 rw [(zM sx sy).1,(zM sx sy).2] at k
 unfold sE sF at k
 rwa [if_neg h0,if_neg h0,a1,a2] at k
theorem Bu (x y:Nat) (w:World) (hx:x<lim) (hy:y<lim) (h0:0<y) (ht:Tab w) :
  Calls Tryz.prog 65 #[.string (sN x),.string (sN y)] w fun e W'=>e = .returned (.tuple #[.string (sN (x / y)),.string (sN (x % y)),.int .i64 0])∧Below w.heap.size w W':=by
 have c:=nt (x:Int) (y:Int) w (aF.2 hx) (aF.2 hy) (by omega) ht
 rwa [mX,qX] at c
theorem Av (x:Nat) (w:World) (hx:x<lim) :
  Calls Tryz.prog 68 #[.string (sN x)] w fun e W'=>e = .returned (.tuple #[.string (sN (aj x)),.int .i64 0])∧Below w.heap.size w W':=by
 have c:=R.Root_any (sN x) w (by have:=aG (aF.2 hx);unfold sN maxLen;omega)
 have h1:chk (sN x).data.toList=0:=bX (aF.2 hx)
 have h2:ap (sN x).data.toList=false:=by unfold sN;rw [gy];exact decide_eq_false (by omega)
 have h3:ae (szL (sN x).data.toList)=x:=by unfold sN;rw [ay,gu,Int.natAbs_natCast];exact dJ x
 unfold R.rtB R.rtE at c
 rw [h1,if_pos rfl,if_pos rfl,h2,if_neg (by decide),if_neg (by decide),h3] at c
 exact c
def sgQ (x:Rat):Int:=if x<0 then -1 else if x=0 then 0 else 1
theorem xd (a:ByteArray) (w:World) (hz:(a.toList == [48])=true) :
  Calls Tryz.prog 27 #[.string a] w fun e W'=>e = .returned (.int .i64 0)∧Below w.heap.size w W':=by
 go_enter Tryz.func27,Tryz.ntmps27
 go_wp2
 go_ret
 exact ⟨rfl,Below.refl _ _⟩
theorem yU (a:ByteArray) (w:World) (hz:(a.toList == [48])=false) (hp:0<a.size) (h45:((a[0].toNat:Int)==45)=true) :
  Calls Tryz.prog 27 #[.string a] w fun e W'=>e = .returned (.int .i64 (-1))∧Below w.heap.size w W':=by
 go_enter Tryz.func27,Tryz.ntmps27
 go_wp2
 go_ret
 exact ⟨rfl,Below.refl _ _⟩
theorem yV (a:ByteArray) (w:World) (hz:(a.toList == [48])=false) (hp:0<a.size) (h45:((a[0].toNat:Int)==45)=false) :
  Calls Tryz.prog 27 #[.string a] w fun e W'=>e = .returned (.int .i64 1)∧Below w.heap.size w W':=by
 go_enter Tryz.func27,Tryz.ntmps27
 go_wp2
 go_ret
 exact ⟨rfl,Below.refl _ _⟩
theorem pX (x:Rat) (w:World):Calls Tryz.prog 27 #[.string (ah x)] w fun e W'=>e = .returned (.int .i64 (sgQ x))∧Below w.heap.size w W':=by
 have hp:=wj x
 have h45:=(bF hp).trans (qR x)
 unfold sgQ
 by_cases h0:x=0
 ·subst h0
  rw [if_neg (by decide),if_pos rfl]
  exact xd _ w ((kg _).2 dL)
 ·have hz:((ah x).toList == [48])=false:=by
   rw [Bool.eq_false_iff];intro k
   have h2:=(kg _).1 k
   rw [←dL] at h2
   exact h0 (nM h2)
  by_cases h:x<0
  ·rw [if_pos h];rw [decide_eq_true h] at h45;exact yU _ w hz hp h45
  ·rw [if_neg h,if_neg h0];rw [decide_eq_false h] at h45;exact yV _ w hz hp h45
def ckL:List ByteArray→Int
 | []=>0
 | s::l=>if ckR s.data.toList=0 then ckL l else ckR s.data.toList
theorem rC {xs:List ByteArray}:∀ {k:Nat},(∀ j,j<k→ckR (atS xs j).data.toList=0)→k≤xs.length→ckL xs=ckL (xs.drop k):=by
 intro k
 induction k with
 | zero=>intro _ _;rfl
 | succ k ih =>
  intro h hk
  rw [ih (fun j hj=>h j (by omega)) (by omega),List.drop_eq_getElem_cons (by omega:k<xs.length)]
  have e:=h k (by omega)
  rw [mj (by omega)] at e
  show (if ckR xs[k].data.toList=0 then _ else _)=_
  rw [if_pos e]
theorem Aw {xs:List ByteArray} {k:Nat} (h:∀ j,j<k→ckR (atS xs j).data.toList=0) (hk:k<xs.length) (hn:ckR (atS xs k).data.toList≠0):ckL xs=ckR (atS xs k).data.toList:=by
 rw [rC h (by omega),List.drop_eq_getElem_cons hk]
 rw [mj hk] at hn ⊢
 show (if _ then _ else _)=_
 rw [if_neg hn]
theorem yW {xs:List ByteArray} {k:Nat} (h:∀ j,j<k→ckR (atS xs j).data.toList=0) (hk:xs.length=k):ckL xs=0:=by
 rw [rC h (by omega),List.drop_of_length_le (by omega)];rfl
theorem Bv {s:ByteArray} (h:aM s.data.toList=0):ckR s.data.toList=0↔(szL (paN s).data.toList).length≤90∧(szL (paD s).data.toList).length≤90:=by
 have e1:paN s=aa (bZ s.data.toList).num:=(iM h).1
 have e2:paD s=aa ((bZ s.data.toList).den:Int):=(iM h).2
 unfold ckR
 rw [if_pos h,e1,e2,ay,gu,ay,gu,Int.natAbs_natCast,Lib.decDigits_length,Lib.decDigits_length,aJ _ 90 (by decide),aJ _ 90 (by decide)]
 by_cases q:(bZ s.data.toList).num.natAbs<aO 90∧(bZ s.data.toList).den<aO 90
 ·rw [if_pos q];exact ⟨fun _=>q,fun _=>rfl⟩
 ·rw [if_neg q];exact ⟨fun k=>absurd k (by decide),fun k=>absurd k q⟩
theorem Bw {s:ByteArray} (h:aM s.data.toList=0):(paN s).size≤100000∧(paD s).size≤100000:=by
 have e1:paN s=aa (bZ s.data.toList).num:=(iM h).1
 have e2:paD s=aa ((bZ s.data.toList).den:Int):=(iM h).2
 have sx:Sq (bZ s.data.toList):=iA h
 have y1:=aG sx.n
 have y2:=aG sx.d
 rw [e1,e2];omega
theorem pY (b:Nat) (xs:List ByteArray) (w:World) (hl:xs.length≤100) (hs:∀ s∈xs,s.size≤maxLen) (hx:Sl w b xs) (ht:Tab w) :
  Calls Tryz.prog 21 #[.slice (some ⟨b,0,none⟩) xs.length xs.length] w fun e W'=>e = .returned (.int .i64 (ckL xs))∧Below w.heap.size w W':=by
 have hb:=hx.lt
 have HC:=Ha hx.cell
 have C1:Hid (∀ s∈xs,∀ W,Below w.heap.size w W→Calls Tryz.prog 52 #[.string s] W fun e W'=>e = .returned (.int .i64 (aM s.data.toList))∧Below W.heap.size W W'):=Ha (fun s h W hW=>io s W (hs s h) (ht.next hW))
 have C2:Hid (∀ s∈xs,∀ W,Below w.heap.size w W→Calls Tryz.prog 28 #[.string s] W fun e W'=>e = .returned (.tuple #[.string (paN s),.string (paD s),.int .i64 (aM s.data.toList)])∧Below W.heap.size W W'):=Ha (fun s h W hW=>nw s W (hs s h) (ht.next hW))
 have C3:Hid (∀ s:ByteArray,s.size≤100000→∀ W,Calls Tryz.prog 53 #[.string s] W fun e W'=>e = .returned (.int .i64 ((szL s.data.toList).length:Nat))∧Below W.heap.size W W'):=Ha (fun s h W=>Au s W h)
 clear hx ht hs
 go_enter Tryz.func21,Tryz.ntmps21
 go_wp2
 go_loopw [3] (fun i wr=>∃ k:Nat,i = .int .i64 k∧k≤xs.length∧Hid (∀ j,j<k→ckR (atS xs j).data.toList=0)∧Hid (Below w.heap.size w wr)) (fun i _=>xs.length - (intOf i).toNat)
 case atStart=>exact ⟨0,rfl,by omega,fun j h=>by omega,Below.refl _ _⟩
 case round =>
  obtain ⟨k,rfl,hk,hd,HBw⟩:=hrel
  by_cases hlt:k<xs.length
  ·have hm:=pG hlt
   have hck:=(HBw.out.cell (p:=⟨b,k,none⟩) hb).trans (HC.out k hlt)
   have hr1:=Ha (C1.out _ hm wr HBw.out)
   have hcs:Hid (∀ W,Below w.heap.size w W→W.cell? ⟨b,k,none⟩=some (.string (atS xs k))):=Ha (fun W h=>(h.cell (p:=⟨b,k,none⟩) hb).trans (HC.out k hlt))
   have HA:=Ha (Aw hd.out hlt)
   have c2:=Ha (C2.out _ hm)
   have hN:Hid (ckR (atS xs k).data.toList=0→∀ j,j<k+1→ckR (atS xs j).data.toList=0):=Ha (fun h j hj=>by
    rcases Nat.lt_or_ge j k with q | q
    ·exact hd.out j q
    ·obtain rfl:j=k:=by omega
     exact h)
   clear hd hm
   generalize atS xs k=s at *
   by_cases h0:aM s.data.toList=0
   ·have hlen:=Ha (Bv h0)
    have hps:=Ha (Bw h0)
    rw [h0] at hr1 c2
    go_wp2_with fail
    refine hr1.out.mono ?_
    rintro e w1 ⟨rfl,b1⟩
    have HB1:=Ha (HBw.out.trans (b1.mono HBw.out.size));clear b1 HBw hck
    have hck:=hcs.out _ HB1.out
    go_wp2_with fail
    refine (c2.out _ HB1.out).mono ?_
    rintro e w2 ⟨rfl,b2⟩
    have HB2:=Ha (HB1.out.trans (b2.mono HB1.out.size));clear b2 HB1
    have d1:=Ha (C3.out (paN s) hps.out.1)
    have d2:=Ha (C3.out (paD s) hps.out.2)
    generalize (szL (paN s).data.toList).length=m1 at *
    generalize (szL (paD s).data.toList).length=m2 at *
    generalize paN s=pn at *
    generalize paD s=pd at *
    by_cases h1:90<m1
    ·have h1':(90:Int)<(m1:Int):=by omega
     have hz:=Ha (HA.out (fun q=>by have:=hlen.out.1 q;omega))
     have hv:Hid (ckR s.data.toList=4):=Ha (by unfold ckR;rw [if_pos h0,if_neg];intro q;have:=hlen.out.1 (by unfold ckR;rw [if_pos h0,if_pos q]);omega)
     go_wp2_with fail
     refine (d1.out _).mono ?_
     rintro e w3 ⟨rfl,b3⟩
     have HB3:=Ha (HB2.out.trans (b3.mono HB2.out.size));clear b3 HB2
     go_wp2
     go_ret
     exact ⟨ij (by rw [hz.out,hv.out]),HB3.out⟩
    ·have h1':¬ (90:Int)<(m1:Int):=by omega
     by_cases h2:90<m2
     ·have h2':(90:Int)<(m2:Int):=by omega
      have hz:=Ha (HA.out (fun q=>by have:=hlen.out.1 q;omega))
      have hv:Hid (ckR s.data.toList=4):=Ha (by unfold ckR;rw [if_pos h0,if_neg];intro q;have:=hlen.out.1 (by unfold ckR;rw [if_pos h0,if_pos q]);omega)
      go_wp2_with fail
      refine (d1.out _).mono ?_
      rintro e w3 ⟨rfl,b3⟩
      have HB3:=Ha (HB2.out.trans (b3.mono HB2.out.size));clear b3 HB2
      go_wp2_with fail
      refine (d2.out _).mono ?_
      rintro e w4 ⟨rfl,b4⟩
      have HB4:=Ha (HB3.out.trans (b4.mono HB3.out.size));clear b4 HB3
      go_wp2
      go_ret
      exact ⟨ij (by rw [hz.out,hv.out]),HB4.out⟩
     ·have h2':¬ (90:Int)<(m2:Int):=by omega
      have hn:=Ha (hN.out (hlen.out.2 ⟨by omega,by omega⟩))
      go_wp2_with fail
      refine (d1.out _).mono ?_
      rintro e w3 ⟨rfl,b3⟩
      have HB3:=Ha (HB2.out.trans (b3.mono HB2.out.size));clear b3 HB2
      go_wp2_with fail
      refine (d2.out _).mono ?_
      rintro e w4 ⟨rfl,b4⟩
      have HB4:=Ha (HB3.out.trans (b4.mono HB3.out.size));clear b4 HB3
      go_wp2
      go_roundw
      case rel=>exact ⟨k+1,by go_num,by omega,hn.out,HB4.out⟩
      case measure=>simp [intOf];omega
   ·obtain ⟨e0,e1⟩:=bc h0
    have hv:Hid (ckR s.data.toList=aM s.data.toList):=Ha (by unfold ckR;rw [if_neg h0])
    have hz:=Ha (HA.out (by rw [hv.out];exact h0))
    generalize aM s.data.toList=E at *
    go_wp2_with fail
    refine hr1.out.mono ?_
    rintro e w1 ⟨rfl,b1⟩
    have HB1:=Ha (HBw.out.trans (b1.mono HBw.out.size));clear b1 HBw
    go_wp2
    go_ret
    exact ⟨ij (by rw [hz.out,hv.out]),HB1.out⟩
  ·have he:=Ha (yW hd.out (by omega))
   go_wp2
   go_ret
   exact ⟨ij he.out.symm,HBw.out⟩
theorem xe {k:Nat} (h:0<k):2 ^ k / 2=2 ^ (k - 1)∧2 ^ k=2 ^ (k - 1)+2 ^ (k - 1):=by
 obtain ⟨j,rfl⟩:∃ j,k=j+1:=⟨k - 1,by omega⟩
 rw [Nat.add_sub_cancel,Nat.pow_succ];omega
theorem xf (n:Nat) (w:World) (hn:n<100000000000000000) :
  Calls Tryz.prog 67 #[.int .i64 n] w fun e W'=>e = .returned (.int .i64 (aj n:Nat))∧Below w.heap.size w W':=by
 go_enter Tryz.func67,Tryz.ntmps67
 go_wp2
 go_loop [3,4] (fun r b=>∃ R k B:Nat,r = .int .i64 R∧b = .int .i64 B∧Hid (B=2 ^ k / 2∧R*R≤n∧n<(R+2 ^ k)*(R+2 ^ k)∧R+2 ^ k≤1073741824)) (fun _ b=>(intOf b).toNat)
 case atStart=>exact ⟨0,30,536870912,rfl,rfl,by decide,by omega,(by have h:(0+2 ^ 30)*(0+2 ^ 30)=1152921504606846976:=(by decide);omega),by decide⟩
 case round =>
  obtain ⟨R,k,B,rfl,rfl,H⟩:=hrel
  obtain ⟨h1,h2,h3,h4⟩:=H.out
  by_cases hk:k=0
  ·subst hk
   have hB:B=0:=h1.trans (by decide)
   subst hB
   have he:Hid (aj n=R):=Ha (du ⟨h2,h3⟩)
   clear H h1 h2 h3 h4
   go_wp2
   go_ret
   exact ⟨ij (by rw [he.out]),Below.refl _ _⟩
  ·obtain ⟨p1,p2⟩:=xe (k:=k) (by omega)
   rw [p1] at h1
   rw [p2,←h1] at h3 h4
   have hB:0<B:=by rw [h1];exact Nat.pow_pos (by decide)
   have hq:(R+B)*(R+B)≤1152921504606846976:=Nat.mul_le_mul (by omega:R+B≤1073741824) (by omega:R+B≤1073741824)
   have hB0:(0:Int)<(B:Int):=by omega
   have hw1:wrap64 ((R:Int)+(B:Int))=(R:Int)+(B:Int):=by unfold wrap64;omega
   have hsq:((R:Int)+(B:Int))*((R:Int)+(B:Int))=(((R+B)*(R+B):Nat):Int):=by rw [Int.natCast_mul,Int.natCast_add]
   have hw2:wrap64 (((R:Int)+(B:Int))*((R:Int)+(B:Int)))=((R:Int)+(B:Int))*((R:Int)+(B:Int)):=by
    rw [hsq];generalize (R+B)*(R+B)=z at *; unfold wrap64;omega
   have hw3:wrap64 ((B:Int) / 2)=((B / 2:Nat):Int):=by unfold wrap64;omega
   have e2:B / 2=2 ^ (k - 1) / 2:=by rw [h1]
   have hH:=Ha (Hb h1 (Hb h2 (Hb h3 (Hb h4 e2))))
   clear H h1 h2 h3 h4 p1 p2 e2
   by_cases hc:(R+B)*(R+B)≤n
   ·have hc':((R:Int)+(B:Int))*((R:Int)+(B:Int))≤(n:Int):=by rw [hsq];omega
    have hN:Hid (B / 2=2 ^ (k - 1) / 2∧(R+B)*(R+B)≤n∧n<(R+B+2 ^ (k - 1))*(R+B+2 ^ (k - 1))∧R+B+2 ^ (k - 1)≤1073741824):=Ha (by
     refine ⟨hH.out.2.2.2.2,hc,?_,?_⟩
     ·rw [←hH.out.1,Nat.add_assoc];exact hH.out.2.2.1
     ·rw [←hH.out.1,Nat.add_assoc];exact hH.out.2.2.2.1)
    clear hq hc hH hsq
    go_wp2
    go_round
    case rel=>exact ⟨R+B,k - 1,B / 2,by first | go_num | (rw [hw1];go_num),by rw [hw3],hN⟩
    case measure=>rw [hw3];simp [intOf];omega
   ·have hc':¬ ((R:Int)+(B:Int))*((R:Int)+(B:Int))≤(n:Int):=by rw [hsq];omega
    have hN:Hid (B / 2=2 ^ (k - 1) / 2∧R*R≤n∧n<(R+2 ^ (k - 1))*(R+2 ^ (k - 1))∧R+2 ^ (k - 1)≤1073741824):=Ha (by
     refine ⟨hH.out.2.2.2.2,hH.out.2.1,?_,?_⟩
     ·rw [←hH.out.1];omega
     ·rw [←hH.out.1];have:=hH.out.2.2.2.1;omega)
    clear hq hc hH hsq
    go_wp2
    go_round
    case rel=>exact ⟨R,k - 1,B / 2,rfl,by rw [hw3],hN⟩
    case measure=>rw [hw3];simp [intOf];omega
theorem xg (a b:ByteArray) (n r q:Nat) (g:Bool) (y:Value) (w:World) (s1:(a.size:Int)≤17) (hw:wrap64 ((r:Int)*(r:Int))=(q:Int)) (hg:((q:Int)==(n:Int))=g)
  (h1:∀ W,Below w.heap.size w W→Calls Tryz.prog 63 #[.string a] W fun e W'=>e = .returned (.tuple #[.int .i64 n,y])∧Below W.heap.size W W')
  (h2:∀ W,Below w.heap.size w W→Calls Tryz.prog 67 #[.int .i64 n] W fun e W'=>e = .returned (.int .i64 r)∧Below W.heap.size W W')
  (h3:∀ W,Below w.heap.size w W→Calls Tryz.prog 64 #[.int .i64 r] W fun e W'=>e = .returned (.string b)∧Below W.heap.size W W')
  : Calls Tryz.prog 31 #[.string a] w fun e W'=>e = .returned (.tuple #[.string b,.bool g])∧Below w.heap.size w W':=by
 have O:=Ha (Hb h1 (Hb h2 (h3)));clear h1 h2 h3
 go_enter Tryz.func31,Tryz.ntmps31
 have HB:=Ha (Below.refl w.heap.size w)
 go_wp2_with fail
 refine (O.out.1 _ HB.out).mono ?_
 rintro e w1 ⟨rfl,b⟩
 replace HB:=Ha (HB.out.trans (b.mono HB.out.size));clear b
 go_wp2_with fail
 refine (O.out.2.1 _ HB.out).mono ?_
 rintro e w2 ⟨rfl,b⟩
 replace HB:=Ha (HB.out.trans (b.mono HB.out.size));clear b
 go_wp2_with fail
 refine (O.out.2.2 _ HB.out).mono ?_
 rintro e w3 ⟨rfl,b⟩
 replace HB:=Ha (HB.out.trans (b.mono HB.out.size));clear b
 go_wp2
 go_ret2
 exact ⟨rfl,HB.out⟩
theorem xh (a b c:ByteArray) (g:Bool) (w:World) (s1:¬ (a.size:Int)≤17) (hg:(c.toList==a.toList)=g)
  (h1:∀ W,Below w.heap.size w W→Calls Tryz.prog 68 #[.string a] W fun e W'=>e = .returned (.tuple #[.string b,.int .i64 0])∧Below W.heap.size W W')
  (h2:∀ W,Below w.heap.size w W→Calls Tryz.prog 30 #[.string b,.string b] W fun e W'=>e = .returned (.string c)∧Below W.heap.size W W')
  : Calls Tryz.prog 31 #[.string a] w fun e W'=>e = .returned (.tuple #[.string b,.bool g])∧Below w.heap.size w W':=by
 have O:=Ha (Hb h1 (h2));clear h1 h2
 go_enter Tryz.func31,Tryz.ntmps31
 have HB:=Ha (Below.refl w.heap.size w)
 go_wp2_with fail
 refine (O.out.1 _ HB.out).mono ?_
 rintro e w1 ⟨rfl,b⟩
 replace HB:=Ha (HB.out.trans (b.mono HB.out.size));clear b
 go_wp2_with fail
 refine (O.out.2 _ HB.out).mono ?_
 rintro e w2 ⟨rfl,b⟩
 replace HB:=Ha (HB.out.trans (b.mono HB.out.size));clear b
 go_wp2
 go_ret2
 exact ⟨rfl,HB.out⟩
theorem ny (n:Nat) (w:World) (hn:n<lim) (ht:Tab w) :
  Calls Tryz.prog 31 #[.string (sN n)] w fun e W'=>e = .returned (.tuple #[.string (sN (aj n)),.bool (decide (aj n*aj n=n))])∧Below w.heap.size w W':=by
 have h1:=(cC n).1
 have h2:aj n≤n:=cz
 by_cases hs:(sN n).size≤17
 ·have h17:n<100000000000000000:=by
   have h:=hs;unfold sN at h;rw [fQ,Lib.itoa_nonneg,Lib.decDigits_length] at h
   exact (aJ n 17 (by decide)).1 h
  refine xg (sN n) (sN (aj n)) n (aj n) (aj n*aj n) _ _ w (by omega) ?_ ?_ (fun W _=>tU (n:Int) W (aF.2 hn) (by omega)) (fun W _=>xf n W h17) (fun W hW=>gS _ W (by omega) (by omega) (ht.next hW))
  ·rw [←Int.natCast_mul];generalize aj n*aj n=z at *; unfold wrap64;omega
  ·rw [Bool.eq_iff_iff,beq_iff_eq,decide_eq_true_iff];exact ⟨fun h=>Int.ofNat.inj h,fun h=>by rw [h]⟩
 ·refine xh (sN n) (sN (aj n)) (sN (aj n*aj n)) _ w (by omega) ?_ (fun W _=>Av n W hn) (fun W hW=>mr _ _ W (by omega) (by omega) (by omega) (ht.next hW))
  exact qZ _ _
end T
end Go.Proofs.YtjdomibbaemdnaaGreatDoor
