/- Parts of the proof of the text YtjdomibbaemdnaaGreatDoorZK42. -/
import Derived.Deep.AppendSrc
import Derived.Deep.MidRow
import Derived.Test.YtjdomibbaemdnaaGreatDoorZK1
import Derived.Test.YtjdomibbaemdnaaGreatDoorZK12
import Derived.Test.YtjdomibbaemdnaaGreatDoorZK14
import Derived.Test.YtjdomibbaemdnaaGreatDoorZK15
import Derived.Test.YtjdomibbaemdnaaGreatDoorZK5
set_option linter.all false
set_option maxRecDepth 100000
set_option maxHeartbeats 8000000
namespace Go.Proofs.YtjdomibbaemdnaaGreatDoor
open Go.RowKit
theorem tF (x1 y1 x2 y2:Int) (w:World) :
  Calls Tryz.prog 242 #[.agg #[.int .i64 x1,.int .i64 y1,.int .i64 x2,.int .i64 y2]] w fun e W'=>e = .returned (.bool (y1 != 0))∧Below w.heap.size w W':=by
 go_enter Tryz.func242,Tryz.ntmps242
 go_wp2
 go_ret
 exact ⟨rfl,(Below.refl _ _).alloc (Nat.le_refl _) _⟩
structure GS (W:World) (base M G:Nat) (x y:Value) (a b:Nat) (wr:World):Prop where
 ha:IsNat wr x a
 hb:IsNat wr y b
 le:b≤a
 hM:a≤M
 hG:Nat.gcd a b=G
 fa:Fresh base x
 bel:Below base W wr
 hbs:base≤wr.heap.size
 oa:OwnN wr base x a
 ob:OwnN wr base y b
 ne:b≠0→x.ownBlock≠y.ownBlock
theorem OwnN.next {w W:World} {base n:Nat} {v:Value} (h:OwnN w base v n) (hb:Below w.heap.size w W):OwnN W base v n:=fun h0=>by
 obtain ⟨g,cap,e,h1,h2⟩:=h h0
 exact ⟨g,cap,e,h1,h2.next hb h2.lt⟩
theorem GS.next {W:World} {base M G a b:Nat} {x y:Value} {wr w':World} (h:GS W base M G x y a b wr) (hb:Below wr.heap.size wr w'):GS W base M G x y a b w' :=
 ⟨h.ha.next hb,h.hb.next hb,h.le,h.hM,h.hG,h.fa,h.bel.trans (hb.mono h.hbs),Nat.le_trans h.hbs hb.size,h.oa.next hb,h.ob.next hb,h.ne⟩
theorem GS.applied {W:World} {base M G a b c d:Nat} {x y:Value} {wr w':World} {ga gb ca cb:Nat} (h:GS W base M G x y a b wr) (hra:RowO w' ga ca (dg c)) (hrb:RowO w' gb cb (dg d)) (hne:ga≠gb) (h1:base≤ga) (h2:base≤gb) (hB:Below base wr w')
   (hdc:d<c) (hca:c<a) (hg:Nat.gcd c d=Nat.gcd a b):GS W base M G (.slice (some ⟨ga,0,none⟩) (dg c).length ca) (.slice (some ⟨gb,0,none⟩) (dg d).length cb) c d w' :=
 ⟨hra.isNat,hrb.isNat,by omega,by have:=h.hM;omega,by rw [hg];exact h.hG,fun k hk=>by cases hk;exact h1,h.bel.trans hB,by have:=hra.lt;omega,fun _=>⟨ga,ca,rfl,h1,hra⟩,fun _=>⟨gb,cb,rfl,h2,hrb⟩,
  fun _ e=>hne (Option.some.inj e)⟩
theorem GS.divided {W:World} {base M G a b:Nat} {x y r:Value} {wr w':World} (h:GS W base M G x y a b wr) (hb0:b≠0) (hr:IsNat w' r (a % b)) (ho:OwnR w' wr.heap.size r (a % b)) (hB:Below wr.heap.size wr w'):GS W base M G y r b (a % b) w':=by
 have hm:=Nat.mod_lt a (show 0<b by omega)
 obtain ⟨gb,cb,e,h1,h2⟩:=h.ob hb0
 refine ⟨h.hb.next hB,hr,by omega,by have:=h.hM;have:=h.le;omega,?_,fun k hk=>by rw [e] at hk;cases hk;exact h1,h.bel.trans (hB.mono h.hbs),Nat.le_trans h.hbs hB.size,h.ob.next hB,fun _=>ho.mono h.hbs,fun _ => ?_⟩
 ·rw [←h.hG,Nat.gcd_comm b,←Nat.gcd_rec,Nat.gcd_comm]
 ·obtain ⟨g',c',e',h3,_⟩:=ho
  have:=h2.lt
  rw [e,e']
  intro q
  have q:some gb=some g':=q
  have:=Option.some.inj q
  omega
theorem tG {b:Nat} (h:(dg b).length≤2):b<1000000000000000000:=by
 have h1:=(ak b 2).1 h
 have:B ^ 2=1000000000000000000:=by decide
 omega
def vZ (x y:Nat):Prop:=∀ (va vb:Value) (base:Nat) (W:World),IsNat W va x→IsNat W vb y→Fresh base va→Fresh base vb→base≤W.heap.size→OwnN W base va x→OwnN W base vb y→(x≠0→y≠0→va.ownBlock≠vb.ownBlock) →
 Calls Tryz.prog 223 #[va,vb] W fun e W'=>∃ v,e = .returned v∧IsNat W' v (Nat.gcd x y)∧Fresh base v∧Below base W W'
theorem o7 {M a b c d:Nat} (hd:d≤M) (h:c<a∨(c=a∧d<b)):c*(M+1)+d<a*(M+1)+b:=by
 rcases h with h | ⟨rfl,h⟩
 ·have:(c+1)*(M+1)≤a*(M+1):=Nat.mul_le_mul_right _ h
  rw [Nat.add_mul,Nat.one_mul] at this
  omega
 ·omega
theorem ye (x y:Nat) (hx:(dg x).length≤900) (hy:(dg y).length≤900):vZ x y:=by
 intro va vb base W ha hb fa fb hbase oa ob hne
 obtain ⟨G,hG⟩:∃ G,Nat.gcd x y=G:=⟨_,rfl⟩
 obtain ⟨M,hM⟩:∃ M,max x y=M:=⟨_,rfl⟩
 have hML:(dg M).length≤900:=by
  rw [←hM]
  rcases Nat.le_total x y with h | h
  ·rw [Nat.max_eq_right h];exact hy
  ·rw [Nat.max_eq_left h];exact hx
 have cc:=eK va vb x y W ha hb
 have hst:∀ k,(x<y→GS W base M G vb va y x (W.drewN k))∧(¬ x<y→GS W base M G va vb x y (W.drewN k)):=fun k=>by
  have hb1:=Below.drewK W.heap.size W k
  have hb2:=Below.drewK base W k
  constructor
  ·intro h
   refine ⟨hb.next hb1,ha.next hb1,by omega,by omega,by rw [Nat.gcd_comm];exact hG,fb,hb2,hbase,fun h0 => ?_,fun h0 => ?_,fun h0 e=>hne h0 (by omega) e.symm⟩
   ·obtain ⟨g,cap,e,h2,h3⟩:=ob h0;exact ⟨g,cap,e,h2,h3.of_block rfl⟩
   ·obtain ⟨g,cap,e,h2,h3⟩:=oa h0;exact ⟨g,cap,e,h2,h3.of_block rfl⟩
  ·intro h
   refine ⟨ha.next hb1,hb.next hb1,by omega,by omega,hG,fa,hb2,hbase,fun h0 => ?_,fun h0 => ?_,fun h0=>hne (by omega) h0⟩
   ·obtain ⟨g,cap,e,h2,h3⟩:=oa h0;exact ⟨g,cap,e,h2,h3.of_block rfl⟩
   ·obtain ⟨g,cap,e,h2,h3⟩:=ob h0;exact ⟨g,cap,e,h2,h3.of_block rfl⟩
 have HST:=Ha hst
 have CC:=Ha cc
 have HML:=Ha hML
 obtain ⟨pa,ca,rfl⟩:=ha.shape
 obtain ⟨pb,cb,rfl⟩:=hb.shape
 rw [hG]
 clear cc hst ha hb fa fb oa ob hne hx hy hML hM hG hbase
 generalize (dg x).length=lx at *
 generalize (dg y).length=ly at *
 go_enter Tryz.func223,Tryz.ntmps223
 go_wp2_with fail
 refine CC.out.mono ?_
 rintro e w' ⟨rfl,k,rfl⟩
 clear CC
 have HS:Hid (∃ u v a b,(if x<y then Value.slice pb ly cb else .slice pa lx ca)=u∧(if x<y then Value.slice pa lx ca else .slice pb ly cb)=v∧GS W base M G u v a b (W.drewN k)):=by
  by_cases h:x<y
  ·exact ⟨_,_,y,x,rfl,rfl,by rw [if_pos h,if_pos h];exact (HST.out k).1 h⟩
  ·exact ⟨_,_,x,y,rfl,rfl,by rw [if_neg h,if_neg h];exact (HST.out k).2 h⟩
 clear HST
 generalize W.drewN k=W0 at *
 by_cases h:x<y
 ·rw [dp h]
  rw [if_pos h,if_pos h] at HS
  have hxy:True:=trivial
  go_wp2
  go_loopw [0,1] (fun u v wr=>∃ (a b:Nat) (pu pv:Option Addr) (cu cv:Nat),u = .slice pu (dg a).length cu∧v = .slice pv (dg b).length cv∧Hid (GS W base M G u v a b wr))
   (fun u v wr=>aX wr u*(M+1)+aX wr v)
  case atStart =>
   obtain ⟨u,v,a,b,rfl,rfl,hs⟩:=HS.out
   obtain ⟨pu,cu,e1⟩:=hs.ha.shape
   obtain ⟨pv,cv,e2⟩:=hs.hb.shape
   exact ⟨a,b,pu,pv,cu,cv,e1,e2,hs⟩
  case round =>
   clear HS
   obtain ⟨a,b,pu,pv,cu,cv,rfl,rfl,hs⟩:=hrel
   have hla:(dg a).length≤900:=Nat.le_trans (aC hs.out.hM) HML.out
   by_cases h2:2<(dg b).length
   ·have h2':(2:Int)<((dg b).length:Int):=by omega
    have hb0:b≠0:=fun e=>by rw [e,av] at h2;simp at h2
    have ha0:a≠0:=fun e=>by have:=hs.out.le;omega
    have hlb:=aC hs.out.le
    obtain ⟨k,hk⟩:∃ k,(dg a).length=k+3:=⟨(dg a).length - 3,by omega⟩
    have cl:=gA _ _ a b k wr hs.out.ha hs.out.hb hk (by omega) hs.out.le
    obtain ⟨ga,cpa,ea,hga,_⟩:=hs.out.oa ha0
    obtain ⟨gb,cpb,eb,hgb,_⟩:=hs.out.ob hb0
    have hne:=hs.out.ne hb0
    simp only [Value.slice.injEq,true_and] at ea eb
    obtain ⟨rfl,rfl⟩:=ea
    obtain ⟨rfl,rfl⟩:=eb
    have CL:=Ha cl
    have HF:=Ha (Hb hla (Hb h2 (Hb hb0 (Hb ha0 (Hb hlb (Hb hga (Hb hgb hne)))))))
    clear cl hk h2 hb0 ha0 hlb hla hga hgb hne
    go_wp2_with fail
    refine CL.out.mono ?_
    rintro e w1 ⟨x1,y1,x2,y2,rfl,hgood,hb1⟩
    have H1:=Ha (hs.out.next hb1)
    have HG:=Ha hgood
    clear hgood hb1 CL
    go_wp2_with fail
    refine (tF x1 y1 x2 y2 _).mono ?_
    rintro e w2 ⟨rfl,hb2⟩
    have hz:=hb2.size
    have c0:w2.cell? ⟨w1.heap.size,0,none⟩=some (.int .i64 x1):=(hb2.cell (p:=⟨w1.heap.size,0,none⟩) (by simp)).trans (by go_cell)
    have c1:w2.cell? ⟨w1.heap.size,1,none⟩=some (.int .i64 y1):=(hb2.cell (p:=⟨w1.heap.size,1,none⟩) (by simp)).trans (by go_cell)
    have c2:w2.cell? ⟨w1.heap.size,2,none⟩=some (.int .i64 x2):=(hb2.cell (p:=⟨w1.heap.size,2,none⟩) (by simp)).trans (by go_cell)
    have c3:w2.cell? ⟨w1.heap.size,3,none⟩=some (.int .i64 y2):=(hb2.cell (p:=⟨w1.heap.size,3,none⟩) (by simp)).trans (by go_cell)
    have H2:=Ha (H1.out.next (((Below.refl _ w1).alloc (Nat.le_refl _) _).trans (hb2.mono (by simp))))
    clear hb2 H1 hz
    by_cases hy:y1=0
    ·have hy1:(y1 != 0)=false:=by simpa using hy
     clear hy c0 c1 c2 c3 HG
     have cd:=mJ _ _ a b w2 H2.out.ha H2.out.hb HF.out.2.2.1 (by have:=HF.out.1;omega) H2.out.le (by have:=HF.out.2.1;omega)
     have CD:=Ha cd
     clear cd
     go_wp2_with fail
     refine CD.out.mono ?_
     rintro e w3 ⟨q,r,rfl,hq,hr,hb3,ho3⟩
     obtain ⟨pq,cq,rfl⟩:=hq.shape
     obtain ⟨pr,cr,rfl⟩:=hr.shape
     have H3:=Ha (H2.out.divided HF.out.2.2.1 hr ho3 hb3)
     have e1:=Ha (aL hs.out.ha)
     have e2:=Ha (aL hs.out.hb)
     clear hq hr hb3 ho3 CD
     have hlq:True:=trivial
     generalize (dg (a / b)).length=lq at *
     go_wp2
     go_roundw
     case rel=>exact ⟨b,a % b,_,_,_,_,rfl,rfl,H3.out⟩
     case measure =>
      show aX w3 _*(M+1)+aX w3 _<aX wr _*(M+1)+aX wr _
      rw [e1.out,e2.out,aL H3.out.ha,aL H3.out.hb]
      have q1:=H3.out.le
      have q2:=H3.out.hM
      have q3:=H2.out.le
      have q4:=Nat.mod_lt a (show 0<b by have:=HF.out.2.2.1;omega)
      exact o7 (by omega) (by omega)
    ·have hy1:(y1 != 0)=true:=by simpa using hy
     have hgd:Good a b x1 y1 x2 y2:=HG.out.resolve_left hy
     obtain ⟨c,d,g1,g2,g3,g4,g5,g6,g7,g8,g9,g10⟩:=hgd
     obtain ⟨_,_,ea,_,hra⟩:=H2.out.oa HF.out.2.2.2.1
     obtain ⟨_,_,eb,_,hrb⟩:=H2.out.ob HF.out.2.2.1
     simp only [Value.slice.injEq,true_and,Option.some.injEq,Addr.mk.injEq,and_true] at ea eb
     obtain ⟨rfl,rfl⟩:=ea
     obtain ⟨rfl,rfl⟩:=eb
     have ca:=oC x1 y1 x2 y2 a b ga gb cu cv base c d w2 hra hrb (fun e=>HF.out.2.2.2.2.2.2.2 (by rw [e];rfl)) HF.out.2.2.2.2.2.1 HF.out.2.2.2.2.2.2.1 HF.out.2.2.2.2.1 (by have:=HF.out.1;omega) g1 g2 g3 g4 g6 g7 g8 g9 g10
     have CA:=Ha ca
     have HCD:=Ha (Hb g3 (Hb g4 (Hb g5 HF.out.2.2.2.2.2.1)))
     clear hy HG g1 g2 g3 g4 g5 g6 g7 g8 g9 g10 hra hrb ca
     go_wp2_with fail
     refine CA.out.mono ?_
     rintro e w3 ⟨gb',cb',rfl,hr1,hr2,hne,hgb',hb3⟩
     have H3:=Ha (H2.out.applied hr1 hr2 hne HCD.out.2.2.2 hgb' hb3 HCD.out.1 HCD.out.2.1 HCD.out.2.2.1)
     have e1:=Ha (aL hs.out.ha)
     have e2:=Ha (aL hs.out.hb)
     clear hr1 hr2 hne hgb' hb3 CA
     go_wp2
     go_roundw
     case rel=>exact ⟨c,d,_,_,_,_,rfl,rfl,H3.out⟩
     case measure =>
      show aX w3 _*(M+1)+aX w3 _<aX wr _*(M+1)+aX wr _
      rw [e1.out,e2.out,aL H3.out.ha,aL H3.out.hb]
      have q1:=H3.out.le
      have q2:=H3.out.hM
      exact o7 (by omega) (.inl HCD.out.2.1)
   ·have h2':¬ (2:Int)<((dg b).length:Int):=by omega
    by_cases hb0:b=0
    ·subst hb0
     have hlz:(((dg 0).length:Int)==0)=true:=by rw [av];rfl
     have hGa:a=G:=by have:=hs.out.hG;rwa [Nat.gcd_zero_right] at this
     have HR:=Ha (show IsNat wr (.slice pu (dg a).length cu) G by rw [←hGa];exact hs.out.ha)
     clear hGa
     go_wp2
     go_ret
     exact ⟨_,rfl,HR.out,hs.out.fa,hs.out.bel⟩
    ·have hlz:(((dg b).length:Int)==0)=false:=by rw [beq_eq_false_iff_ne];have:=aR hb0;omega
     have cd:=cH _ _ a b wr hs.out.ha hs.out.hb hb0 (by omega)
     have hml:=Nat.mod_lt a (show 0<b by omega)
     have hb18:=tG (b:=b) (by omega)
     have hgl:Nat.gcd b (a % b)=G:=by rw [←hs.out.hG,Nat.gcd_comm b,←Nat.gcd_rec,Nat.gcd_comm]
     have hG18:G<1000000000000000000:=by rw [←hgl];exact Nat.lt_of_le_of_lt (Nat.gcd_le_left _ (by omega)) hb18
     have CD:=Ha cd
     have HX:=Ha (Hb hml (Hb hb18 (Hb hgl hG18)))
     clear cd hml hb18 hgl hG18 hb0 h2
     go_wp2_with fail
     refine CD.out.mono ?_
     rintro e w3 ⟨q,r,rfl,hq,hr,_,_,hb3⟩
     obtain ⟨pq,cq,rfl⟩:=hq.shape
     obtain ⟨pr,cr,rfl⟩:=hr.shape
     have C1:=Ha (dh _ b w3 (hs.out.hb.next hb3) HX.out.2.1)
     have C2:=Ha (dh _ (a % b) w3 hr (by have:=HX.out.1;have:=HX.out.2.1;omega))
     have C3:=Ha (fM b (a % b) w3 (by have:=HX.out.2.1;omega) (by have:=HX.out.1;have:=HX.out.2.1;omega))
     have H3:=Ha (hs.out.next hb3)
     rw [HX.out.2.2.1] at C3
     clear CD hq hr hb3
     generalize (dg (a / b)).length=lq at *
     generalize (dg (a % b)).length=lr at *
     generalize a % b=rr at *
     go_wp2_with fail
     refine C1.out.mono ?_
     rintro e w' ⟨rfl,rfl⟩
     go_wp2_with fail
     refine C2.out.mono ?_
     rintro e w' ⟨rfl,rfl⟩
     go_wp2_with fail
     refine C3.out.mono ?_
     rintro e w' ⟨rfl,nn,rfl⟩
     go_wp2_with fail
     refine (fZ G _ HX.out.2.2.2).mono ?_
     rintro e w4 ⟨v,rfl,hv,hf,hb4⟩
     have hBB:=(Below.drewK w3.heap.size w3 nn).trans (show Below w3.heap.size _ w4 from hb4)
     have H4:=Ha (H3.out.next hBB)
     have HV:=Ha (Hb hv (show Fresh w3.heap.size v from hf))
     have HS3:=Ha H3.out.hbs
     clear hv hf hb4 hBB C1 C2 C3 H3
     go_wp2
     go_ret
     exact ⟨_,rfl,HV.out.1,HV.out.2.mono HS3.out,H4.out.bel⟩
 ·have hge:¬ bW x y<0:=by unfold bW;rw [if_neg h];split <;> omega
  rw [if_neg h,if_neg h] at HS
  generalize bW x y=c at *
  go_wp2
  go_loopw [0,1] (fun u v wr=>∃ (a b:Nat) (pu pv:Option Addr) (cu cv:Nat),u = .slice pu (dg a).length cu∧v = .slice pv (dg b).length cv∧Hid (GS W base M G u v a b wr))
   (fun u v wr=>aX wr u*(M+1)+aX wr v)
  case atStart =>
   obtain ⟨u,v,a,b,rfl,rfl,hs⟩:=HS.out
   obtain ⟨pu,cu,e1⟩:=hs.ha.shape
   obtain ⟨pv,cv,e2⟩:=hs.hb.shape
   exact ⟨a,b,pu,pv,cu,cv,e1,e2,hs⟩
  case round =>
   clear HS
   obtain ⟨a,b,pu,pv,cu,cv,rfl,rfl,hs⟩:=hrel
   have hla:(dg a).length≤900:=Nat.le_trans (aC hs.out.hM) HML.out
   by_cases h2:2<(dg b).length
   ·have h2':(2:Int)<((dg b).length:Int):=by omega
    have hb0:b≠0:=fun e=>by rw [e,av] at h2;simp at h2
    have ha0:a≠0:=fun e=>by have:=hs.out.le;omega
    have hlb:=aC hs.out.le
    obtain ⟨k,hk⟩:∃ k,(dg a).length=k+3:=⟨(dg a).length - 3,by omega⟩
    have cl:=gA _ _ a b k wr hs.out.ha hs.out.hb hk (by omega) hs.out.le
    obtain ⟨ga,cpa,ea,hga,_⟩:=hs.out.oa ha0
    obtain ⟨gb,cpb,eb,hgb,_⟩:=hs.out.ob hb0
    have hne:=hs.out.ne hb0
    simp only [Value.slice.injEq,true_and] at ea eb
    obtain ⟨rfl,rfl⟩:=ea
    obtain ⟨rfl,rfl⟩:=eb
    have CL:=Ha cl
    have HF:=Ha (Hb hla (Hb h2 (Hb hb0 (Hb ha0 (Hb hlb (Hb hga (Hb hgb hne)))))))
    clear cl hk h2 hb0 ha0 hlb hla hga hgb hne
    go_wp2_with fail
    refine CL.out.mono ?_
    rintro e w1 ⟨x1,y1,x2,y2,rfl,hgood,hb1⟩
    have H1:=Ha (hs.out.next hb1)
    have HG:=Ha hgood
    clear hgood hb1 CL
    go_wp2_with fail
    refine (tF x1 y1 x2 y2 _).mono ?_
    rintro e w2 ⟨rfl,hb2⟩
    have hz:=hb2.size
    have c0:w2.cell? ⟨w1.heap.size,0,none⟩=some (.int .i64 x1):=(hb2.cell (p:=⟨w1.heap.size,0,none⟩) (by simp)).trans (by go_cell)
    have c1:w2.cell? ⟨w1.heap.size,1,none⟩=some (.int .i64 y1):=(hb2.cell (p:=⟨w1.heap.size,1,none⟩) (by simp)).trans (by go_cell)
    have c2:w2.cell? ⟨w1.heap.size,2,none⟩=some (.int .i64 x2):=(hb2.cell (p:=⟨w1.heap.size,2,none⟩) (by simp)).trans (by go_cell)
    have c3:w2.cell? ⟨w1.heap.size,3,none⟩=some (.int .i64 y2):=(hb2.cell (p:=⟨w1.heap.size,3,none⟩) (by simp)).trans (by go_cell)
    have H2:=Ha (H1.out.next (((Below.refl _ w1).alloc (Nat.le_refl _) _).trans (hb2.mono (by simp))))
    clear hb2 H1 hz
    by_cases hy:y1=0
    ·have hy1:(y1 != 0)=false:=by simpa using hy
     clear hy c0 c1 c2 c3 HG
     have cd:=mJ _ _ a b w2 H2.out.ha H2.out.hb HF.out.2.2.1 (by have:=HF.out.1;omega) H2.out.le (by have:=HF.out.2.1;omega)
     have CD:=Ha cd
     clear cd
     go_wp2_with fail
     refine CD.out.mono ?_
     rintro e w3 ⟨q,r,rfl,hq,hr,hb3,ho3⟩
     obtain ⟨pq,cq,rfl⟩:=hq.shape
     obtain ⟨pr,cr,rfl⟩:=hr.shape
     have H3:=Ha (H2.out.divided HF.out.2.2.1 hr ho3 hb3)
     have e1:=Ha (aL hs.out.ha)
     have e2:=Ha (aL hs.out.hb)
     clear hq hr hb3 ho3 CD
     have hlq:True:=trivial
     generalize (dg (a / b)).length=lq at *
     go_wp2
     go_roundw
     case rel=>exact ⟨b,a % b,_,_,_,_,rfl,rfl,H3.out⟩
     case measure =>
      show aX w3 _*(M+1)+aX w3 _<aX wr _*(M+1)+aX wr _
      rw [e1.out,e2.out,aL H3.out.ha,aL H3.out.hb]
      have q1:=H3.out.le
      have q2:=H3.out.hM
      have q3:=H2.out.le
      have q4:=Nat.mod_lt a (show 0<b by have:=HF.out.2.2.1;omega)
      exact o7 (by omega) (by omega)
    ·have hy1:(y1 != 0)=true:=by simpa using hy
     have hgd:Good a b x1 y1 x2 y2:=HG.out.resolve_left hy
     obtain ⟨c,d,g1,g2,g3,g4,g5,g6,g7,g8,g9,g10⟩:=hgd
     obtain ⟨_,_,ea,_,hra⟩:=H2.out.oa HF.out.2.2.2.1
     obtain ⟨_,_,eb,_,hrb⟩:=H2.out.ob HF.out.2.2.1
     simp only [Value.slice.injEq,true_and,Option.some.injEq,Addr.mk.injEq,and_true] at ea eb
     obtain ⟨rfl,rfl⟩:=ea
     obtain ⟨rfl,rfl⟩:=eb
     have ca:=oC x1 y1 x2 y2 a b ga gb cu cv base c d w2 hra hrb (fun e=>HF.out.2.2.2.2.2.2.2 (by rw [e];rfl)) HF.out.2.2.2.2.2.1 HF.out.2.2.2.2.2.2.1 HF.out.2.2.2.2.1 (by have:=HF.out.1;omega) g1 g2 g3 g4 g6 g7 g8 g9 g10
     have CA:=Ha ca
     have HCD:=Ha (Hb g3 (Hb g4 (Hb g5 HF.out.2.2.2.2.2.1)))
     clear hy HG g1 g2 g3 g4 g5 g6 g7 g8 g9 g10 hra hrb ca
     go_wp2_with fail
     refine CA.out.mono ?_
     rintro e w3 ⟨gb',cb',rfl,hr1,hr2,hne,hgb',hb3⟩
     have H3:=Ha (H2.out.applied hr1 hr2 hne HCD.out.2.2.2 hgb' hb3 HCD.out.1 HCD.out.2.1 HCD.out.2.2.1)
     have e1:=Ha (aL hs.out.ha)
     have e2:=Ha (aL hs.out.hb)
     clear hr1 hr2 hne hgb' hb3 CA
     go_wp2
     go_roundw
     case rel=>exact ⟨c,d,_,_,_,_,rfl,rfl,H3.out⟩
     case measure =>
      show aX w3 _*(M+1)+aX w3 _<aX wr _*(M+1)+aX wr _
      rw [e1.out,e2.out,aL H3.out.ha,aL H3.out.hb]
      have q1:=H3.out.le
      have q2:=H3.out.hM
      exact o7 (by omega) (.inl HCD.out.2.1)
   ·have h2':¬ (2:Int)<((dg b).length:Int):=by omega
    by_cases hb0:b=0
    ·subst hb0
     have hlz:(((dg 0).length:Int)==0)=true:=by rw [av];rfl
     have hGa:a=G:=by have:=hs.out.hG;rwa [Nat.gcd_zero_right] at this
     have HR:=Ha (show IsNat wr (.slice pu (dg a).length cu) G by rw [←hGa];exact hs.out.ha)
     clear hGa
     go_wp2
     go_ret
     exact ⟨_,rfl,HR.out,hs.out.fa,hs.out.bel⟩
    ·have hlz:(((dg b).length:Int)==0)=false:=by rw [beq_eq_false_iff_ne];have:=aR hb0;omega
     have cd:=cH _ _ a b wr hs.out.ha hs.out.hb hb0 (by omega)
     have hml:=Nat.mod_lt a (show 0<b by omega)
     have hb18:=tG (b:=b) (by omega)
     have hgl:Nat.gcd b (a % b)=G:=by rw [←hs.out.hG,Nat.gcd_comm b,←Nat.gcd_rec,Nat.gcd_comm]
     have hG18:G<1000000000000000000:=by rw [←hgl];exact Nat.lt_of_le_of_lt (Nat.gcd_le_left _ (by omega)) hb18
     have CD:=Ha cd
     have HX:=Ha (Hb hml (Hb hb18 (Hb hgl hG18)))
     clear cd hml hb18 hgl hG18 hb0 h2
     go_wp2_with fail
     refine CD.out.mono ?_
     rintro e w3 ⟨q,r,rfl,hq,hr,_,_,hb3⟩
     obtain ⟨pq,cq,rfl⟩:=hq.shape
     obtain ⟨pr,cr,rfl⟩:=hr.shape
     have C1:=Ha (dh _ b w3 (hs.out.hb.next hb3) HX.out.2.1)
     have C2:=Ha (dh _ (a % b) w3 hr (by have:=HX.out.1;have:=HX.out.2.1;omega))
     have C3:=Ha (fM b (a % b) w3 (by have:=HX.out.2.1;omega) (by have:=HX.out.1;have:=HX.out.2.1;omega))
     have H3:=Ha (hs.out.next hb3)
     rw [HX.out.2.2.1] at C3
     clear CD hq hr hb3
     generalize (dg (a / b)).length=lq at *
     generalize (dg (a % b)).length=lr at *
     generalize a % b=rr at *
     go_wp2_with fail
     refine C1.out.mono ?_
     rintro e w' ⟨rfl,rfl⟩
     go_wp2_with fail
     refine C2.out.mono ?_
     rintro e w' ⟨rfl,rfl⟩
     go_wp2_with fail
     refine C3.out.mono ?_
     rintro e w' ⟨rfl,nn,rfl⟩
     go_wp2_with fail
     refine (fZ G _ HX.out.2.2.2).mono ?_
     rintro e w4 ⟨v,rfl,hv,hf,hb4⟩
     have hBB:=(Below.drewK w3.heap.size w3 nn).trans (show Below w3.heap.size _ w4 from hb4)
     have H4:=Ha (H3.out.next hBB)
     have HV:=Ha (Hb hv (show Fresh w3.heap.size v from hf))
     have HS3:=Ha H3.out.hbs
     clear hv hf hb4 hBB C1 C2 C3 H3
     go_wp2
     go_ret
     exact ⟨_,rfl,HV.out.1,HV.out.2.mono HS3.out,H4.out.bel⟩
theorem uG (a b:ByteArray) (w:World) (k1:chk a.data.toList=0) (k2:chk b.data.toList=0) (hs:¬ ((szB a).size≤18∧(szB b).size≤18)) (hg:vZ (ae (szL a.data.toList)) (ae (szL b.data.toList))) (ht:Tab w) :
  Calls Tryz.prog 190 #[.string a,.string b] w fun e W'=>e = .returned (.tuple #[.string (aa (Nat.gcd (ae (szL a.data.toList)) (ae (szL b.data.toList)):Nat)),.int .i64 0])∧Below w.heap.size w W':=by
 have s1:=bz k1
 have s2:=bz k2
 have cb:=bQ a b w (by unfold maxLen;omega) (by unfold maxLen;omega)
 have hc2:bC a.data.toList b.data.toList=0:=by unfold bC;rw [if_pos k1];exact k2
 rw [hc2] at cb
 have z1:=fE a
 have z2:=fE b
 have i1:=fun W=>bm (szB a) W (by unfold maxLen;omega)
 have i2:=fun W=>bm (szB b) W (by unfold maxLen;omega)
 have m1:=fun W=>iv (szB a) W (by omega) (by rw [bU];exact bY k1)
 have m2:=fun W=>iv (szB b) W (by omega) (by rw [bU];exact bY k2)
 rw [bU] at m1 m2
 have y1:=fun W=>dj a W (by unfold maxLen;omega)
 have y2:=fun W=>dj b W (by unfold maxLen;omega)
 have n1:=cO k1
 have n2:=cO k2
 generalize ae (szL a.data.toList)=x at *
 generalize ae (szL b.data.toList)=y at *
 have hgl:Nat.gcd x y<lim:=by
  by_cases h0:x=0
  ·subst h0;rw [Nat.gcd_zero_left];exact n2
  ·exact Nat.lt_of_le_of_lt (Nat.gcd_le_left _ (by omega)) n1
 have tx:=fun v W (h:IsNat W v (Nat.gcd x y)) (hb:Below w.heap.size w W)=>iS false v (Nat.gcd x y) W h (Nat.le_trans (fc hgl) (by decide)) (ht.next hb)
 have e1:fj (am false (Nat.gcd x y))=aa (Nat.gcd x y:Nat):=by unfold am;exact if_pos (by simpa using hgl)
 have e2:fk (am false (Nat.gcd x y))=0:=by unfold am;exact if_pos (by simpa using hgl)
 rw [e1,e2] at tx
 have TX:=Ha tx
 have HG:=Ha hg
 have C:=Ha (Hb cb (Hb y1 (Hb y2 (Hb i1 (Hb i2 (Hb m1 m2))))))
 clear cb i1 i2 m1 m2 y1 y2 hc2 ht k1 k2 s1 s2 tx hg hgl e1 e2 n1 n2
 have rest:True:=trivial
 generalize szB a=sa at *
 generalize szB b=sb at *
 by_cases g1:sa.size≤18
 ·have t1:decide ((sa.size:Int)≤18)=true:=by simp;omega
  have t2:decide ((sb.size:Int)≤18)=false:=by simp;omega
  go_enter Tryz.func190,Tryz.ntmps190
  go_wp2_with fail
  refine C.out.1.mono ?_
  rintro e w' ⟨rfl,rfl⟩
  go_wp2_with fail
  refine (C.out.2.1 _).mono ?_
  rintro e w' ⟨rfl,rfl⟩
  go_wp2_with fail
  refine (C.out.2.2.1 _).mono ?_
  rintro e w' ⟨rfl,rfl⟩
  go_wp2_with fail
  refine (C.out.2.2.2.1 _).mono ?_
  rintro e w' ⟨rfl,rfl⟩
  rw [t1]
  go_wp2_with fail
  refine (C.out.2.2.2.2.1 _).mono ?_
  rintro e w' ⟨rfl,rfl⟩
  rw [t2]
  go_wp2_with fail
  refine (C.out.2.2.2.2.2.1 _).mono ?_
  rintro e w1 ⟨va,rfl,hva,hfa,hb1,hoa⟩
  obtain ⟨pa,ca,rfl⟩:=hva.shape
  have H1:=Ha (Hb hva (Hb hfa hb1));have HOA:=Ha hoa;clear hva hfa hb1 hoa
  go_wp2_with fail
  refine (C.out.2.2.2.2.2.2 _).mono ?_
  rintro e w2 ⟨vb,rfl,hvb,hfb,hb2,hob⟩
  obtain ⟨pb,cb,rfl⟩:=hvb.shape
  have hB2:=H1.out.2.2.trans (hb2.mono H1.out.2.2.size)
  have hdis:x≠0→y≠0→(Value.slice pa (dg x).length ca).ownBlock≠(Value.slice pb (dg y).length cb).ownBlock:=fun h1 h2=>by
   obtain ⟨g1,c1,e1,q1,r1⟩:=HOA.out h1
   obtain ⟨g2,c2,e2,q2,r2⟩:=hob h2
   have hlt:=r1.lt
   rw [e1,e2]
   show some g1≠some g2
   intro e
   have:=Option.some.inj e
   omega
  have hoa2:OwnN w2 w.heap.size (Value.slice pa (dg x).length ca) x:=fun h1=>by
   obtain ⟨g1,c1,e1,q1,r1⟩:=HOA.out h1
   exact ⟨g1,c1,e1,q1,r1.next hb2 r1.lt⟩
  have hob2:OwnN w2 w.heap.size (Value.slice pb (dg y).length cb) y:=fun h2=>OwnR.mono (hob h2) H1.out.2.2.size
  have CG:=Ha (HG.out _ _ w.heap.size w2 (H1.out.1.next hb2) hvb H1.out.2.1 (hfb.mono H1.out.2.2.size) hB2.size hoa2 hob2 hdis)
  have H2:=Ha hB2
  clear hvb hfb hb2 hB2 H1 hdis HG HOA hoa2 hob2 hob
  go_wp2_with fail
  refine CG.out.mono ?_
  rintro e w3 ⟨v,rfl,hv,_,hb3⟩
  obtain ⟨pv,cv,rfl⟩:=hv.shape
  have H3:=Ha (Hb hv (H2.out.trans hb3))
  clear hv hb3 CG H2
  generalize (dg (Nat.gcd x y)).length=lv at *
  go_wp2_with fail
  refine (TX.out _ _ H3.out.1 H3.out.2).mono ?_
  rintro e w4 ⟨rfl,hb4⟩
  have H4:=Ha (H3.out.2.trans (hb4.mono H3.out.2.size))
  clear hb4 H3 TX
  go_wp2
  go_ret2
  exact ⟨rfl,H4.out⟩
 ·have t1:decide ((sa.size:Int)≤18)=false:=by simp;omega
  go_enter Tryz.func190,Tryz.ntmps190
  go_wp2_with fail
  refine C.out.1.mono ?_
  rintro e w' ⟨rfl,rfl⟩
  go_wp2_with fail
  refine (C.out.2.1 _).mono ?_
  rintro e w' ⟨rfl,rfl⟩
  go_wp2_with fail
  refine (C.out.2.2.1 _).mono ?_
  rintro e w' ⟨rfl,rfl⟩
  go_wp2_with fail
  refine (C.out.2.2.2.1 _).mono ?_
  rintro e w' ⟨rfl,rfl⟩
  rw [t1]
  go_wp2_with fail
  refine (C.out.2.2.2.2.2.1 _).mono ?_
  rintro e w1 ⟨va,rfl,hva,hfa,hb1,hoa⟩
  obtain ⟨pa,ca,rfl⟩:=hva.shape
  have H1:=Ha (Hb hva (Hb hfa hb1));have HOA:=Ha hoa;clear hva hfa hb1 hoa
  go_wp2_with fail
  refine (C.out.2.2.2.2.2.2 _).mono ?_
  rintro e w2 ⟨vb,rfl,hvb,hfb,hb2,hob⟩
  obtain ⟨pb,cb,rfl⟩:=hvb.shape
  have hB2:=H1.out.2.2.trans (hb2.mono H1.out.2.2.size)
  have hdis:x≠0→y≠0→(Value.slice pa (dg x).length ca).ownBlock≠(Value.slice pb (dg y).length cb).ownBlock:=fun h1 h2=>by
   obtain ⟨g1,c1,e1,q1,r1⟩:=HOA.out h1
   obtain ⟨g2,c2,e2,q2,r2⟩:=hob h2
   have hlt:=r1.lt
   rw [e1,e2]
   show some g1≠some g2
   intro e
   have:=Option.some.inj e
   omega
  have hoa2:OwnN w2 w.heap.size (Value.slice pa (dg x).length ca) x:=fun h1=>by
   obtain ⟨g1,c1,e1,q1,r1⟩:=HOA.out h1
   exact ⟨g1,c1,e1,q1,r1.next hb2 r1.lt⟩
  have hob2:OwnN w2 w.heap.size (Value.slice pb (dg y).length cb) y:=fun h2=>OwnR.mono (hob h2) H1.out.2.2.size
  have CG:=Ha (HG.out _ _ w.heap.size w2 (H1.out.1.next hb2) hvb H1.out.2.1 (hfb.mono H1.out.2.2.size) hB2.size hoa2 hob2 hdis)
  have H2:=Ha hB2
  clear hvb hfb hb2 hB2 H1 hdis HG HOA hoa2 hob2 hob
  go_wp2_with fail
  refine CG.out.mono ?_
  rintro e w3 ⟨v,rfl,hv,_,hb3⟩
  obtain ⟨pv,cv,rfl⟩:=hv.shape
  have H3:=Ha (Hb hv (H2.out.trans hb3))
  clear hv hb3 CG H2
  generalize (dg (Nat.gcd x y)).length=lv at *
  go_wp2_with fail
  refine (TX.out _ _ H3.out.1 H3.out.2).mono ?_
  rintro e w4 ⟨rfl,hb4⟩
  have H4:=Ha (H3.out.2.trans (hb4.mono H3.out.2.size))
  clear hb4 H3 TX
  go_wp2
  go_ret2
  exact ⟨rfl,H4.out⟩
theorem uH (x y:Int) (w:World) (hx:x.natAbs<lim) (hy:y.natAbs<lim) (ht:Tab w) :
  Calls Tryz.prog 190 #[.string (aa x),.string (aa y)] w fun e W'=>e = .returned (.tuple #[.string (aa (Nat.gcd x.natAbs y.natAbs:Nat)),.int .i64 0])∧Below w.heap.size w W':=by
 have e1:=mG hx
 have e2:=mG hy
 by_cases hs:(szB (aa x)).size≤18∧(szB (aa y)).size≤18
 ·have c:=x8 (aa x) (aa y) w (bX hx) (bX hy) hs.1 hs.2 ht
  rwa [e1,e2] at c
 ·have c:=uG (aa x) (aa y) w (bX hx) (bX hy) hs (by rw [e1,e2];exact ye _ _ (Nat.le_trans (fc hx) (by decide)) (Nat.le_trans (fc hy) (by decide))) ht
  rwa [e1,e2] at c
structure RowR (B:Nat) (W:World) (l:List UInt8) (g cap:Nat):Prop where
 base:B≤g
 lt:g<W.heap.size
 le:l.length≤cap
 max:cap≤maxLen
 there:∀ j,j<cap→(W.cell? ⟨g,j,none⟩).isSome=true∧W.frozen? ⟨g,j,none⟩=false
 holds:∀ j u,(Lib.byteCells l)[j]? = some u→W.cell? ⟨g,j,none⟩=some u
theorem RowR.next {B:Nat} {W W':World} {l:List UInt8} {g cap:Nat} (h:RowR B W l g cap) (b:Below W.heap.size W W'):RowR B W' l g cap :=
 ⟨h.base,Nat.lt_of_lt_of_le h.lt b.size,h.le,h.max,fun j hj=>⟨by rw [b.cell (p:=⟨g,j,none⟩) h.lt];exact (h.there j hj).1,(b.frozen (p:=⟨g,j,none⟩) h.lt).trans (h.there j hj).2⟩,
  fun j u hj=>(b.cell (p:=⟨g,j,none⟩) h.lt).trans (h.holds j u hj)⟩
theorem below_setCells (B g:Nat) (hB:B≤g):∀ (vs:List Value) (o:Nat) (w:World),Below B w (w.setCells g o vs)
 | [],_,w=>Below.refl _ w
 | v::r,o,w=>((Below.refl B w).setCell (p:=⟨g,o,none⟩) hB v).trans (below_setCells B g hB r (o+1) _)
theorem gi (l:List UInt8):(Lib.byteCells l).length=l.length:=by simp [Lib.byteCells]
theorem addr_add (g j:Nat):(⟨g,0,none⟩:Addr).add j=⟨g,j,none⟩:=by unfold Addr.add;split <;> simp_all
theorem k7 {W:World} {g j:Nat} {cur:Array Value} {t:TypeId} (h:W.heap[g]? = some (.cells cur t (0,0))):W.frozen? ⟨g,j,none⟩=false:=by unfold World.frozen?; simp only [h];simp
theorem iw {B:Nat} {W:World} {l:List UInt8} {g cap:Nat} (h:RowR B W l g cap) (t tx ty e:TypeId) (i:TypeInfo) (ht:Tryz.prog.underlying t=some (.slice e)) (hi:Tryz.prog.info? e=some i) (hz:i.zero=some (.int .u8 0)) (hsize:i.size=1) (hby:i.bytes=1)
  (x:Value) (m:List UInt8) (hs:Src Tryz.prog 1 tx x m.length (Lib.byteCells m) W) (hb:l.length+m.length≤140737488355328) (hB:B≤W.heap.size) :
  ∃ W' g' cap',(Builtin.append_ #[t,tx] ty #[.slice (some ⟨g,0,none⟩) l.length cap,x]).run Tryz.prog W = .ok (.slice (some ⟨g',0,none⟩) (l.length+m.length) cap') W'∧RowR B W' (l++m) g' cap'∧Below B W W':=by
 obtain ⟨hbase,hlt,hle,hmax,hth,hh⟩:=h
 rw [←hsize] at hs
 have hml:=gi m
 have hll:=gi l
 by_cases hroom:l.length+m.length≤cap
 ·have hr:=run_append_room_src (P:=Tryz.prog) W t tx ty e i ht hi g 0 l.length cap x m.length (Lib.byteCells m) hs hroom
   (fun j hj=>by rw [hsize,Nat.mul_one,Nat.zero_add];exact (hth (l.length+j) (by omega)).1) (fun j hj=>by rw [hsize,Nat.mul_one,Nat.zero_add];exact (hth (l.length+j) (by omega)).2)
  rw [hsize,Nat.mul_one,Nat.zero_add] at hr
  have hbel:=below_setCells B g hbase (Lib.byteCells m) l.length W
  refine ⟨_,g,cap,hr,⟨hbase,Nat.lt_of_lt_of_le hlt hbel.size,by rw [List.length_append];exact hroom,hmax,fun j hj=>⟨World.isSome_setCells g _ _ _ _ (hth j hj).1,(World.frozen?_setCells g _ _ _ _).trans (hth j hj).2⟩,fun j u hj => ?_⟩,hbel⟩
  rw [Lib.byteCells_append] at hj
  by_cases hjl:j<(Lib.byteCells l).length
  ·rw [List.getElem?_append_left hjl] at hj
   rw [World.cell?_setCells_out g _ _ _ _ (fun _ _ => .inl (by show j<l.length;omega))]
   exact hh j u hj
  ·rw [List.getElem?_append_right (by omega)] at hj
   obtain ⟨hj2,hj3⟩:=List.getElem?_eq_some_iff.1 hj
   have:=World.cell?_setCells_in g (Lib.byteCells m) l.length W (fun k hk=>(hth (l.length+k) (by omega)).1) (j - (Lib.byteCells l).length) hj2
   rw [show l.length+(j - (Lib.byteCells l).length)=j by omega,hj3] at this
   exact this
 ·have hold:(Builtin.firstCells i.size l.length (.slice (some ⟨g,0,none⟩) l.length cap)).run Tryz.prog W.drew = .ok (Lib.byteCells l).toArray W.drew :=
   run_firstCells_some (P:=Tryz.prog) W.drew i.size l.length ⟨g,0,none⟩ l.length cap (Lib.byteCells l) (by rw [hsize,Nat.mul_one];exact hll) (fun j u hj=>by rw [addr_add];exact hh j u hj)
  have hr:=run_append_grow_src (P:=Tryz.prog) W t tx ty e i (.int .u8 0) ht hi hz (some ⟨g,0,none⟩) l.length cap (Lib.byteCells l) hold x m.length (Lib.byteCells m) hs (by omega) (by omega) (growslice_fits (by omega) (by rw [hby];omega))
  have hge:=grownCap_ge W (l.length+m.length) cap e
  have hcm:grownCap W (l.length+m.length) cap e≤maxLen:=grownCap_le_maxLen W _ cap e (by unfold maxLen;omega)
  generalize grownCap W (l.length+m.length) cap e=cap' at *
  have hnew:(W.drew.alloc (.cells ((Lib.byteCells l++Lib.byteCells m).toArray++Builtin.zeroCells (Value.int .u8 0).cells (cap' - (l.length+m.length))) e)).heap[W.heap.size]? = some (.cells ((Lib.byteCells l++Lib.byteCells m).toArray++Builtin.zeroCells (Value.int .u8 0).cells (cap' - (l.length+m.length))) e):=heap_alloc_new W.drew _
  have hbel:Below B W (W.drew.alloc (.cells ((Lib.byteCells l++Lib.byteCells m).toArray++Builtin.zeroCells (Value.int .u8 0).cells (cap' - (l.length+m.length))) e)):=(Below.refl B W).drew.alloc hB _
  have hcs:((Lib.byteCells l++Lib.byteCells m).toArray++Builtin.zeroCells (Value.int .u8 0).cells (cap' - (l.length+m.length))).size=cap':=by
   rw [Array.size_append,size_zeroCells,List.size_toArray,List.length_append,hll,hml,show (Value.int .u8 0).cells.size=1 from rfl];omega
  refine ⟨_,W.heap.size,cap',hr,⟨hB,by simp,by rw [List.length_append];exact hge,hcm,fun j hj=>⟨?_,?_⟩,fun j u hj => ?_⟩,hbel⟩
  ·rw [cell_of_row _ _ j _ _ _ hnew,Array.getElem?_eq_getElem (by rw [hcs];exact hj)];rfl
  ·exact k7 hnew
  ·rw [cell_of_row _ _ j _ _ _ hnew]
   rw [Lib.byteCells_append] at hj
   obtain ⟨hj2,hj3⟩:=List.getElem?_eq_some_iff.1 hj
   rw [Array.getElem?_append_left (by simpa using hj2)]
   simpa using hj
theorem cS {W:World} {ops:Array Oper} {rest:List Oper} {o:Oper} {a:Act} {Q:Exit→Act→World→Prop} (hgd:o.guard=none) (s x:Operand) (t tx:TypeId)
  (ho:o.op = .call { callee := .builtin .append,args := #[s,x],argTypes := #[t,tx] }) (e:TypeId) (i:TypeInfo) (ht:Tryz.prog.underlying t=some (.slice e)) (hi:Tryz.prog.info? e=some i) (hz:i.zero=some (.int .u8 0)) (hsize:i.size=1) (hby:i.bytes=1)
  {B:Nat} {l:List UInt8} {g cap n:Nat} (hn:n=l.length) (hv:a.eval s = .slice (some ⟨g,0,none⟩) n cap) (h:RowR B W l g cap) (xv:Value) (m:List UInt8) (hx:a.eval x=xv) (hs:Src Tryz.prog 1 tx xv m.length (Lib.byteCells m) W) (hb:l.length+m.length≤140737488355328) (hB:B≤W.heap.size)
  (hK:∀ W' g' cap',RowR B W' (l++m) g' cap'→Below B W W'→wpList Tryz.prog ops Q rest (a.put o.dst (.slice (some ⟨g',0,none⟩) (n+m.length) cap')) W'):wpList Tryz.prog ops Q (o::rest) a W:=by
 subst hn
 refine wpList_plain hgd fun K hK' => ?_
 obtain ⟨w',g',c',hrun,h1,h2⟩:=iw h t tx o.type e i ht hi hz hsize hby xv m hs hb hB
 unfold Oper.wp
 simp [execOp,ho,resolve,invoke,builtin,hv,hx,hrun,Result.andThen]
 exact hK' _ _ (hK w' g' c' h1 h2)
theorem gB {W:World} {ops:Array Oper} {o:Oper} {a:Act} {K:Act→World→Prop} {Q:Exit→Act→World→Prop} {E:Prop} (hgd:o.guard=none) (s x:Operand) (t tx:TypeId)
  (ho:o.op = .call { callee := .builtin .append,args := #[s,x],argTypes := #[t,tx] }) (e:TypeId) (i:TypeInfo) (ht:Tryz.prog.underlying t=some (.slice e)) (hi:Tryz.prog.info? e=some i) (hz:i.zero=some (.int .u8 0)) (hsize:i.size=1) (hby:i.bytes=1)
  {B:Nat} {l:List UInt8} {g cap n:Nat} (hn:n=l.length) (hv:a.eval s = .slice (some ⟨g,0,none⟩) n cap) (h:RowR B W l g cap) (xv:Value) (m:List UInt8) (hx:a.eval x=xv) (hs:Src Tryz.prog 1 tx xv m.length (Lib.byteCells m) W) (hb:l.length+m.length≤140737488355328) (hB:B≤W.heap.size)
  (hK:∀ W' g' cap',RowR B W' (l++m) g' cap'→Below B W W'→K (a.put o.dst (.slice (some ⟨g',0,none⟩) (n+m.length) cap')) W'):if Region.wanted o (yielded ops a.tmps)=true then Oper.wp Tryz.prog o a W K Q else E:=by
 have hw:Region.wanted o (yielded ops a.tmps)=true:=by simp [Region.wanted,hgd]
 rw [if_pos hw]
 subst hn
 obtain ⟨w',g',c',hrun,h1,h2⟩:=iw h t tx o.type e i ht hi hz hsize hby xv m hs hb hB
 unfold Oper.wp execOp
 simp only [ho,resolve,invoke,builtin,Sem.run_bind,Sem.run_pure,Result.andThen_ok,List.map_toArray,List.map_cons,List.map_nil,hv,hx,hrun]
 exact hK w' g' c' h1 h2
theorem RowR.new {W:World} {cur:Array Value} {t:TypeId} {g n:Nat} (h:W.heap[g]? = some (.cells cur t (0,0))) (hn:cur.size=n) (hm:n≤maxLen):RowR g W [] g n:=by
 subst hn
 exact ⟨Nat.le_refl _,(Array.getElem?_eq_some_iff.1 h).1,Nat.zero_le _,hm,fun j hj=>⟨by rw [cell_of_row _ _ j _ _ _ h,Array.getElem?_eq_getElem hj];rfl,k7 h⟩,fun j u hj=>by simp [Lib.byteCells] at hj⟩
theorem i8 {W:World} {tx e':TypeId} (hk:Tryz.prog.underlying tx=some (.slice e')) (g:Nat) (c:Nat) (m:List UInt8) (n:Nat) (hn:n=m.length) (h:∀ j u,(Lib.byteCells m)[j]? = some u→W.cell? ⟨g,j,none⟩=some u):Src Tryz.prog 1 tx (.slice (some ⟨g,0,none⟩) n c) m.length (Lib.byteCells m) W:=by
 subst hn
 exact Src.ofSlice W hk ⟨g,0,none⟩ m.length c (Lib.byteCells m) (by rw [gi,Nat.mul_one]) (fun j u hj=>by rw [addr_add];exact h j u hj) (Lib.byteCells_one _)
theorem mL {W:World} {tx:TypeId} (hk:Tryz.prog.underlying tx=some .string) (s:ByteArray):Src Tryz.prog 1 tx (.string s) s.data.toList.length (Lib.byteCells s.data.toList) W:=Src.ofString W hk s
end Go.Proofs.YtjdomibbaemdnaaGreatDoor
