/- Parts of the proof of the text YtjdfjgfdbgmbiaaGreatDoorHB39. -/
import Derived.Test.YtjdfjgfdbgmbiaaGreatDoorHB1
import Derived.Test.YtjdfjgfdbgmbiaaGreatDoorHB11
import Derived.Test.YtjdfjgfdbgmbiaaGreatDoorHB13
import Derived.Test.YtjdfjgfdbgmbiaaGreatDoorHB14
set_option linter.all false
set_option maxRecDepth 100000
set_option maxHeartbeats 8000000
namespace Go.Proofs.YtjdfjgfdbgmbiaaGreatDoor
open Go.RowKit
theorem any_any (x1 y1 x2 y2:Int) (w:World) :
  Calls Tryz.prog 196 #[.agg #[.int .i64 x1,.int .i64 y1,.int .i64 x2,.int .i64 y2]] w fun e W'=>e = .returned (.bool (y1 != 0))∧Below w.heap.size w W':=by
 go_enter Tryz.func196,Tryz.ntmps196
 go_wp2
 go_ret
 exact ⟨rfl,(Below.refl _ _).alloc (Nat.le_refl _) _⟩
structure GS (W:World) (base M G:Nat) (x y:Value) (a b:Nat) (wr:World):Prop where
 ha:IsNat wr x a
 hb:IsNat wr y b
 le:b≤a
 hM:a≤M
 hG:Nat.gcd a b=G
 fa:Fresh base x
 bel:Below base W wr
 hbs:base≤wr.heap.size
 oa:OwnN wr base x a
 ob:OwnN wr base y b
 ne:b≠0→x.ownBlock≠y.ownBlock
theorem OwnN.next {w W:World} {base n:Nat} {v:Value} (h:OwnN w base v n) (hb:Below w.heap.size w W):OwnN W base v n:=fun h0=>by
 obtain ⟨g,cap,e,h1,h2⟩:=h h0
 exact ⟨g,cap,e,h1,h2.next hb h2.lt⟩
theorem GS.next {W:World} {base M G a b:Nat} {x y:Value} {wr w':World} (h:GS W base M G x y a b wr) (hb:Below wr.heap.size wr w'):GS W base M G x y a b w' :=
 ⟨h.ha.next hb,h.hb.next hb,h.le,h.hM,h.hG,h.fa,h.bel.trans (hb.mono h.hbs),Nat.le_trans h.hbs hb.size,h.oa.next hb,h.ob.next hb,h.ne⟩
theorem GS.applied {W:World} {base M G a b c d:Nat} {x y:Value} {wr w':World} {ga gb ca cb:Nat} (h:GS W base M G x y a b wr) (hra:RowO w' ga ca (dg c)) (hrb:RowO w' gb cb (dg d)) (hne:ga≠gb) (h1:base≤ga) (h2:base≤gb) (hB:Below base wr w')
   (hdc:d<c) (hca:c<a) (hg:Nat.gcd c d=Nat.gcd a b):GS W base M G (.slice (some ⟨ga,0,none⟩) (dg c).length ca) (.slice (some ⟨gb,0,none⟩) (dg d).length cb) c d w' :=
 ⟨hra.isNat,hrb.isNat,by omega,by have:=h.hM;omega,by rw [hg];exact h.hG,fun k hk=>by cases hk;exact h1,h.bel.trans hB,by have:=hra.lt;omega,fun _=>⟨ga,ca,rfl,h1,hra⟩,fun _=>⟨gb,cb,rfl,h2,hrb⟩,
  fun _ e=>hne (Option.some.inj e)⟩
theorem GS.divided {W:World} {base M G a b:Nat} {x y r:Value} {wr w':World} (h:GS W base M G x y a b wr) (hb0:b≠0) (hr:IsNat w' r (a % b)) (ho:OwnR w' wr.heap.size r (a % b)) (hB:Below wr.heap.size wr w'):GS W base M G y r b (a % b) w':=by
 have hm:=Nat.mod_lt a (show 0<b by omega)
 obtain ⟨gb,cb,e,h1,h2⟩:=h.ob hb0
 refine ⟨h.hb.next hB,hr,by omega,by have:=h.hM;have:=h.le;omega,?_,fun k hk=>by rw [e] at hk;cases hk;exact h1,h.bel.trans (hB.mono h.hbs),Nat.le_trans h.hbs hB.size,h.ob.next hB,fun _=>ho.mono h.hbs,fun _ => ?_⟩
 ·rw [←h.hG,Nat.gcd_comm b,←Nat.gcd_rec,Nat.gcd_comm]
 ·obtain ⟨g',c',e',h3,_⟩:=ho
  have:=h2.lt
  rw [e,e']
  intro q
  have q:some gb=some g':=q
  have:=Option.some.inj q
  omega
theorem two_lim {b:Nat} (h:(dg b).length≤2):b<1000000000000000000:=by
 have h1:=(dg_length_le b 2).1 h
 have:B ^ 2=1000000000000000000:=by decide
 omega
def GcdOwn (x y:Nat):Prop:=∀ (va vb:Value) (base:Nat) (W:World),IsNat W va x→IsNat W vb y→Fresh base va→Fresh base vb→base≤W.heap.size→OwnN W base va x→OwnN W base vb y→(x≠0→y≠0→va.ownBlock≠vb.ownBlock) →
 Calls Tryz.prog 156 #[va,vb] W fun e W'=>∃ v,e = .returned v∧IsNat W' v (Nat.gcd x y)∧Fresh base v∧Below base W W'
theorem lex_lt {M a b c d:Nat} (hd:d≤M) (h:c<a∨(c=a∧d<b)):c*(M+1)+d<a*(M+1)+b:=by
 rcases h with h | ⟨rfl,h⟩
 ·have:(c+1)*(M+1)≤a*(M+1):=Nat.mul_le_mul_right _ h
  rw [Nat.add_mul,Nat.one_mul] at this
  omega
 ·omega
theorem gcd_any (x y:Nat) (hx:(dg x).length≤900) (hy:(dg y).length≤900):GcdOwn x y:=by
 intro va vb base W ha hb fa fb hbase oa ob hne
 obtain ⟨G,hG⟩:∃ G,Nat.gcd x y=G:=⟨_,rfl⟩
 obtain ⟨M,hM⟩:∃ M,max x y=M:=⟨_,rfl⟩
 have hML:(dg M).length≤900:=by
  rw [←hM]
  rcases Nat.le_total x y with h | h
  ·rw [Nat.max_eq_right h];exact hy
  ·rw [Nat.max_eq_left h];exact hx
 have cc:=compare_any va vb x y W ha hb
 have hst:∀ k,(x<y→GS W base M G vb va y x (W.drewN k))∧(¬ x<y→GS W base M G va vb x y (W.drewN k)):=fun k=>by
  have hb1:=Below.drewK W.heap.size W k
  have hb2:=Below.drewK base W k
  constructor
  ·intro h
   refine ⟨hb.next hb1,ha.next hb1,by omega,by omega,by rw [Nat.gcd_comm];exact hG,fb,hb2,hbase,fun h0 => ?_,fun h0 => ?_,fun h0 e=>hne h0 (by omega) e.symm⟩
   ·obtain ⟨g,cap,e,h2,h3⟩:=ob h0;exact ⟨g,cap,e,h2,h3.of_block rfl⟩
   ·obtain ⟨g,cap,e,h2,h3⟩:=oa h0;exact ⟨g,cap,e,h2,h3.of_block rfl⟩
  ·intro h
   refine ⟨ha.next hb1,hb.next hb1,by omega,by omega,hG,fa,hb2,hbase,fun h0 => ?_,fun h0 => ?_,fun h0=>hne (by omega) h0⟩
   ·obtain ⟨g,cap,e,h2,h3⟩:=oa h0;exact ⟨g,cap,e,h2,h3.of_block rfl⟩
   ·obtain ⟨g,cap,e,h2,h3⟩:=ob h0;exact ⟨g,cap,e,h2,h3.of_block rfl⟩
 have HST:=Lib.hid hst
 have CC:=Lib.hid cc
 have HML:=Lib.hid hML
 obtain ⟨pa,ca,rfl⟩:=ha.shape
 obtain ⟨pb,cb,rfl⟩:=hb.shape
 rw [hG]
 clear cc hst ha hb fa fb oa ob hne hx hy hML hM hG hbase
 generalize (dg x).length=lx at *
 generalize (dg y).length=ly at *
 go_enter Tryz.func156,Tryz.ntmps156
 go_wp2_with fail
 refine CC.out.mono ?_
 rintro e w' ⟨rfl,k,rfl⟩
 clear CC
 have HS:Hid (∃ u v a b,(if x<y then Value.slice pb ly cb else .slice pa lx ca)=u∧(if x<y then Value.slice pa lx ca else .slice pb ly cb)=v∧GS W base M G u v a b (W.drewN k)):=by
  by_cases h:x<y
  ·exact ⟨_,_,y,x,rfl,rfl,by rw [if_pos h,if_pos h];exact (HST.out k).1 h⟩
  ·exact ⟨_,_,x,y,rfl,rfl,by rw [if_neg h,if_neg h];exact (HST.out k).2 h⟩
 clear HST
 generalize W.drewN k=W0 at *
 by_cases h:x<y
 ·rw [cmpN_lt h]
  rw [if_pos h,if_pos h] at HS
  have hxy:True:=trivial
  go_wp2
  go_loopw [0,1] (fun u v wr=>∃ (a b:Nat) (pu pv:Option Addr) (cu cv:Nat),u = .slice pu (dg a).length cu∧v = .slice pv (dg b).length cv∧Hid (GS W base M G u v a b wr))
   (fun u v wr=>natVal wr u*(M+1)+natVal wr v)
  case atStart =>
   obtain ⟨u,v,a,b,rfl,rfl,hs⟩:=HS.out
   obtain ⟨pu,cu,e1⟩:=hs.ha.shape
   obtain ⟨pv,cv,e2⟩:=hs.hb.shape
   exact ⟨a,b,pu,pv,cu,cv,e1,e2,hs⟩
  case round =>
   clear HS
   obtain ⟨a,b,pu,pv,cu,cv,rfl,rfl,hs⟩:=hrel
   have hla:(dg a).length≤900:=Nat.le_trans (dg_len_le hs.out.hM) HML.out
   by_cases h2:2<(dg b).length
   ·have h2':(2:Int)<((dg b).length:Int):=by omega
    have hb0:b≠0:=fun e=>by rw [e,dg_zero] at h2;simp at h2
    have ha0:a≠0:=fun e=>by have:=hs.out.le;omega
    have hlb:=dg_len_le hs.out.le
    obtain ⟨k,hk⟩:∃ k,(dg a).length=k+3:=⟨(dg a).length - 3,by omega⟩
    have cl:=leadingSteps_any _ _ a b k wr hs.out.ha hs.out.hb hk (by omega) hs.out.le
    obtain ⟨ga,cpa,ea,hga,_⟩:=hs.out.oa ha0
    obtain ⟨gb,cpb,eb,hgb,_⟩:=hs.out.ob hb0
    have hne:=hs.out.ne hb0
    simp only [Value.slice.injEq,true_and] at ea eb
    obtain ⟨rfl,rfl⟩:=ea
    obtain ⟨rfl,rfl⟩:=eb
    have CL:=Lib.hid cl
    have HF:=Lib.hid (And.intro hla (And.intro h2 (And.intro hb0 (And.intro ha0 (And.intro hlb (And.intro hga (And.intro hgb hne)))))))
    clear cl hk h2 hb0 ha0 hlb hla hga hgb hne
    go_wp2_with fail
    refine CL.out.mono ?_
    rintro e w1 ⟨x1,y1,x2,y2,rfl,hgood,hb1⟩
    have H1:=Lib.hid (hs.out.next hb1)
    have HG:=Lib.hid hgood
    clear hgood hb1 CL
    go_wp2_with fail
    refine (any_any x1 y1 x2 y2 _).mono ?_
    rintro e w2 ⟨rfl,hb2⟩
    have hz:=hb2.size
    have c0:w2.cell? ⟨w1.heap.size,0,none⟩=some (.int .i64 x1):=(hb2.cell (p:=⟨w1.heap.size,0,none⟩) (by simp)).trans (by go_cell)
    have c1:w2.cell? ⟨w1.heap.size,1,none⟩=some (.int .i64 y1):=(hb2.cell (p:=⟨w1.heap.size,1,none⟩) (by simp)).trans (by go_cell)
    have c2:w2.cell? ⟨w1.heap.size,2,none⟩=some (.int .i64 x2):=(hb2.cell (p:=⟨w1.heap.size,2,none⟩) (by simp)).trans (by go_cell)
    have c3:w2.cell? ⟨w1.heap.size,3,none⟩=some (.int .i64 y2):=(hb2.cell (p:=⟨w1.heap.size,3,none⟩) (by simp)).trans (by go_cell)
    have H2:=Lib.hid (H1.out.next (((Below.refl _ w1).alloc (Nat.le_refl _) _).trans (hb2.mono (by simp))))
    clear hb2 H1 hz
    by_cases hy:y1=0
    ·have hy1:(y1 != 0)=false:=by simpa using hy
     clear hy c0 c1 c2 c3 HG
     have cd:=divide_own _ _ a b w2 H2.out.ha H2.out.hb HF.out.2.2.1 (by have:=HF.out.1;omega) H2.out.le (by have:=HF.out.2.1;omega)
     have CD:=Lib.hid cd
     clear cd
     go_wp2_with fail
     refine CD.out.mono ?_
     rintro e w3 ⟨q,r,rfl,hq,hr,hb3,ho3⟩
     obtain ⟨pq,cq,rfl⟩:=hq.shape
     obtain ⟨pr,cr,rfl⟩:=hr.shape
     have H3:=Lib.hid (H2.out.divided HF.out.2.2.1 hr ho3 hb3)
     have e1:=Lib.hid (natVal_eq hs.out.ha)
     have e2:=Lib.hid (natVal_eq hs.out.hb)
     clear hq hr hb3 ho3 CD
     have hlq:True:=trivial
     generalize (dg (a / b)).length=lq at *
     go_wp2
     go_roundw
     case rel=>exact ⟨b,a % b,_,_,_,_,rfl,rfl,H3.out⟩
     case measure =>
      show natVal w3 _*(M+1)+natVal w3 _<natVal wr _*(M+1)+natVal wr _
      rw [e1.out,e2.out,natVal_eq H3.out.ha,natVal_eq H3.out.hb]
      have q1:=H3.out.le
      have q2:=H3.out.hM
      have q3:=H2.out.le
      have q4:=Nat.mod_lt a (show 0<b by have:=HF.out.2.2.1;omega)
      exact lex_lt (by omega) (by omega)
    ·have hy1:(y1 != 0)=true:=by simpa using hy
     have hgd:Good a b x1 y1 x2 y2:=HG.out.resolve_left hy
     obtain ⟨c,d,g1,g2,g3,g4,g5,g6,g7,g8,g9,g10⟩:=hgd
     obtain ⟨_,_,ea,_,hra⟩:=H2.out.oa HF.out.2.2.2.1
     obtain ⟨_,_,eb,_,hrb⟩:=H2.out.ob HF.out.2.2.1
     simp only [Value.slice.injEq,true_and,Option.some.injEq,Addr.mk.injEq,and_true] at ea eb
     obtain ⟨rfl,rfl⟩:=ea
     obtain ⟨rfl,rfl⟩:=eb
     have ca:=apply_any x1 y1 x2 y2 a b ga gb cu cv base c d w2 hra hrb (fun e=>HF.out.2.2.2.2.2.2.2 (by rw [e];rfl)) HF.out.2.2.2.2.2.1 HF.out.2.2.2.2.2.2.1 HF.out.2.2.2.2.1 (by have:=HF.out.1;omega) g1 g2 g3 g4 g6 g7 g8 g9 g10
     have CA:=Lib.hid ca
     have HCD:=Lib.hid (And.intro g3 (And.intro g4 (And.intro g5 HF.out.2.2.2.2.2.1)))
     clear hy HG g1 g2 g3 g4 g5 g6 g7 g8 g9 g10 hra hrb ca
     go_wp2_with fail
     refine CA.out.mono ?_
     rintro e w3 ⟨gb',cb',rfl,hr1,hr2,hne,hgb',hb3⟩
     have H3:=Lib.hid (H2.out.applied hr1 hr2 hne HCD.out.2.2.2 hgb' hb3 HCD.out.1 HCD.out.2.1 HCD.out.2.2.1)
     have e1:=Lib.hid (natVal_eq hs.out.ha)
     have e2:=Lib.hid (natVal_eq hs.out.hb)
     clear hr1 hr2 hne hgb' hb3 CA
     go_wp2
     go_roundw
     case rel=>exact ⟨c,d,_,_,_,_,rfl,rfl,H3.out⟩
     case measure =>
      show natVal w3 _*(M+1)+natVal w3 _<natVal wr _*(M+1)+natVal wr _
      rw [e1.out,e2.out,natVal_eq H3.out.ha,natVal_eq H3.out.hb]
      have q1:=H3.out.le
      have q2:=H3.out.hM
      exact lex_lt (by omega) (.inl HCD.out.2.1)
   ·have h2':¬ (2:Int)<((dg b).length:Int):=by omega
    by_cases hb0:b=0
    ·subst hb0
     have hlz:(((dg 0).length:Int)==0)=true:=by rw [dg_zero];rfl
     have hGa:a=G:=by have:=hs.out.hG;rwa [Nat.gcd_zero_right] at this
     have HR:=Lib.hid (show IsNat wr (.slice pu (dg a).length cu) G by rw [←hGa];exact hs.out.ha)
     clear hGa
     go_wp2
     go_ret
     exact ⟨_,rfl,HR.out,hs.out.fa,hs.out.bel⟩
    ·have hlz:(((dg b).length:Int)==0)=false:=by rw [beq_eq_false_iff_ne];have:=dg_len_pos hb0;omega
     have cd:=divide_any _ _ a b wr hs.out.ha hs.out.hb hb0 (by omega)
     have hml:=Nat.mod_lt a (show 0<b by omega)
     have hb18:=two_lim (b:=b) (by omega)
     have hgl:Nat.gcd b (a % b)=G:=by rw [←hs.out.hG,Nat.gcd_comm b,←Nat.gcd_rec,Nat.gcd_comm]
     have hG18:G<1000000000000000000:=by rw [←hgl];exact Nat.lt_of_le_of_lt (Nat.gcd_le_left _ (by omega)) hb18
     have CD:=Lib.hid cd
     have HX:=Lib.hid (And.intro hml (And.intro hb18 (And.intro hgl hG18)))
     clear cd hml hb18 hgl hG18 hb0 h2
     go_wp2_with fail
     refine CD.out.mono ?_
     rintro e w3 ⟨q,r,rfl,hq,hr,_,_,hb3⟩
     obtain ⟨pq,cq,rfl⟩:=hq.shape
     obtain ⟨pr,cr,rfl⟩:=hr.shape
     have C1:=Lib.hid (natMachine_any _ b w3 (hs.out.hb.next hb3) HX.out.2.1)
     have C2:=Lib.hid (natMachine_any _ (a % b) w3 hr (by have:=HX.out.1;have:=HX.out.2.1;omega))
     have C3:=Lib.hid (gcdMachine_any b (a % b) w3 (by have:=HX.out.2.1;omega) (by have:=HX.out.1;have:=HX.out.2.1;omega))
     have H3:=Lib.hid (hs.out.next hb3)
     rw [HX.out.2.2.1] at C3
     clear CD hq hr hb3
     generalize (dg (a / b)).length=lq at *
     generalize (dg (a % b)).length=lr at *
     generalize a % b=rr at *
     go_wp2_with fail
     refine C1.out.mono ?_
     rintro e w' ⟨rfl,rfl⟩
     go_wp2_with fail
     refine C2.out.mono ?_
     rintro e w' ⟨rfl,rfl⟩
     go_wp2_with fail
     refine C3.out.mono ?_
     rintro e w' ⟨rfl,nn,rfl⟩
     go_wp2_with fail
     refine (ofValue_any G _ HX.out.2.2.2).mono ?_
     rintro e w4 ⟨v,rfl,hv,hf,hb4⟩
     have hBB:=(Below.drewK w3.heap.size w3 nn).trans (show Below w3.heap.size _ w4 from hb4)
     have H4:=Lib.hid (H3.out.next hBB)
     have HV:=Lib.hid (And.intro hv (show Fresh w3.heap.size v from hf))
     have HS3:=Lib.hid H3.out.hbs
     clear hv hf hb4 hBB C1 C2 C3 H3
     go_wp2
     go_ret
     exact ⟨_,rfl,HV.out.1,HV.out.2.mono HS3.out,H4.out.bel⟩
 ·have hge:¬ cmpN x y<0:=by unfold cmpN;rw [if_neg h];split <;> omega
  rw [if_neg h,if_neg h] at HS
  generalize cmpN x y=c at *
  go_wp2
  go_loopw [0,1] (fun u v wr=>∃ (a b:Nat) (pu pv:Option Addr) (cu cv:Nat),u = .slice pu (dg a).length cu∧v = .slice pv (dg b).length cv∧Hid (GS W base M G u v a b wr))
   (fun u v wr=>natVal wr u*(M+1)+natVal wr v)
  case atStart =>
   obtain ⟨u,v,a,b,rfl,rfl,hs⟩:=HS.out
   obtain ⟨pu,cu,e1⟩:=hs.ha.shape
   obtain ⟨pv,cv,e2⟩:=hs.hb.shape
   exact ⟨a,b,pu,pv,cu,cv,e1,e2,hs⟩
  case round =>
   clear HS
   obtain ⟨a,b,pu,pv,cu,cv,rfl,rfl,hs⟩:=hrel
   have hla:(dg a).length≤900:=Nat.le_trans (dg_len_le hs.out.hM) HML.out
   by_cases h2:2<(dg b).length
   ·have h2':(2:Int)<((dg b).length:Int):=by omega
    have hb0:b≠0:=fun e=>by rw [e,dg_zero] at h2;simp at h2
    have ha0:a≠0:=fun e=>by have:=hs.out.le;omega
    have hlb:=dg_len_le hs.out.le
    obtain ⟨k,hk⟩:∃ k,(dg a).length=k+3:=⟨(dg a).length - 3,by omega⟩
    have cl:=leadingSteps_any _ _ a b k wr hs.out.ha hs.out.hb hk (by omega) hs.out.le
    obtain ⟨ga,cpa,ea,hga,_⟩:=hs.out.oa ha0
    obtain ⟨gb,cpb,eb,hgb,_⟩:=hs.out.ob hb0
    have hne:=hs.out.ne hb0
    simp only [Value.slice.injEq,true_and] at ea eb
    obtain ⟨rfl,rfl⟩:=ea
    obtain ⟨rfl,rfl⟩:=eb
    have CL:=Lib.hid cl
    have HF:=Lib.hid (And.intro hla (And.intro h2 (And.intro hb0 (And.intro ha0 (And.intro hlb (And.intro hga (And.intro hgb hne)))))))
    clear cl hk h2 hb0 ha0 hlb hla hga hgb hne
    go_wp2_with fail
    refine CL.out.mono ?_
    rintro e w1 ⟨x1,y1,x2,y2,rfl,hgood,hb1⟩
    have H1:=Lib.hid (hs.out.next hb1)
    have HG:=Lib.hid hgood
    clear hgood hb1 CL
    go_wp2_with fail
    refine (any_any x1 y1 x2 y2 _).mono ?_
    rintro e w2 ⟨rfl,hb2⟩
    have hz:=hb2.size
    have c0:w2.cell? ⟨w1.heap.size,0,none⟩=some (.int .i64 x1):=(hb2.cell (p:=⟨w1.heap.size,0,none⟩) (by simp)).trans (by go_cell)
    have c1:w2.cell? ⟨w1.heap.size,1,none⟩=some (.int .i64 y1):=(hb2.cell (p:=⟨w1.heap.size,1,none⟩) (by simp)).trans (by go_cell)
    have c2:w2.cell? ⟨w1.heap.size,2,none⟩=some (.int .i64 x2):=(hb2.cell (p:=⟨w1.heap.size,2,none⟩) (by simp)).trans (by go_cell)
    have c3:w2.cell? ⟨w1.heap.size,3,none⟩=some (.int .i64 y2):=(hb2.cell (p:=⟨w1.heap.size,3,none⟩) (by simp)).trans (by go_cell)
    have H2:=Lib.hid (H1.out.next (((Below.refl _ w1).alloc (Nat.le_refl _) _).trans (hb2.mono (by simp))))
    clear hb2 H1 hz
    by_cases hy:y1=0
    ·have hy1:(y1 != 0)=false:=by simpa using hy
     clear hy c0 c1 c2 c3 HG
     have cd:=divide_own _ _ a b w2 H2.out.ha H2.out.hb HF.out.2.2.1 (by have:=HF.out.1;omega) H2.out.le (by have:=HF.out.2.1;omega)
     have CD:=Lib.hid cd
     clear cd
     go_wp2_with fail
     refine CD.out.mono ?_
     rintro e w3 ⟨q,r,rfl,hq,hr,hb3,ho3⟩
     obtain ⟨pq,cq,rfl⟩:=hq.shape
     obtain ⟨pr,cr,rfl⟩:=hr.shape
     have H3:=Lib.hid (H2.out.divided HF.out.2.2.1 hr ho3 hb3)
     have e1:=Lib.hid (natVal_eq hs.out.ha)
     have e2:=Lib.hid (natVal_eq hs.out.hb)
     clear hq hr hb3 ho3 CD
     have hlq:True:=trivial
     generalize (dg (a / b)).length=lq at *
     go_wp2
     go_roundw
     case rel=>exact ⟨b,a % b,_,_,_,_,rfl,rfl,H3.out⟩
     case measure =>
      show natVal w3 _*(M+1)+natVal w3 _<natVal wr _*(M+1)+natVal wr _
      rw [e1.out,e2.out,natVal_eq H3.out.ha,natVal_eq H3.out.hb]
      have q1:=H3.out.le
      have q2:=H3.out.hM
      have q3:=H2.out.le
      have q4:=Nat.mod_lt a (show 0<b by have:=HF.out.2.2.1;omega)
      exact lex_lt (by omega) (by omega)
    ·have hy1:(y1 != 0)=true:=by simpa using hy
     have hgd:Good a b x1 y1 x2 y2:=HG.out.resolve_left hy
     obtain ⟨c,d,g1,g2,g3,g4,g5,g6,g7,g8,g9,g10⟩:=hgd
     obtain ⟨_,_,ea,_,hra⟩:=H2.out.oa HF.out.2.2.2.1
     obtain ⟨_,_,eb,_,hrb⟩:=H2.out.ob HF.out.2.2.1
     simp only [Value.slice.injEq,true_and,Option.some.injEq,Addr.mk.injEq,and_true] at ea eb
     obtain ⟨rfl,rfl⟩:=ea
     obtain ⟨rfl,rfl⟩:=eb
     have ca:=apply_any x1 y1 x2 y2 a b ga gb cu cv base c d w2 hra hrb (fun e=>HF.out.2.2.2.2.2.2.2 (by rw [e];rfl)) HF.out.2.2.2.2.2.1 HF.out.2.2.2.2.2.2.1 HF.out.2.2.2.2.1 (by have:=HF.out.1;omega) g1 g2 g3 g4 g6 g7 g8 g9 g10
     have CA:=Lib.hid ca
     have HCD:=Lib.hid (And.intro g3 (And.intro g4 (And.intro g5 HF.out.2.2.2.2.2.1)))
     clear hy HG g1 g2 g3 g4 g5 g6 g7 g8 g9 g10 hra hrb ca
     go_wp2_with fail
     refine CA.out.mono ?_
     rintro e w3 ⟨gb',cb',rfl,hr1,hr2,hne,hgb',hb3⟩
     have H3:=Lib.hid (H2.out.applied hr1 hr2 hne HCD.out.2.2.2 hgb' hb3 HCD.out.1 HCD.out.2.1 HCD.out.2.2.1)
     have e1:=Lib.hid (natVal_eq hs.out.ha)
     have e2:=Lib.hid (natVal_eq hs.out.hb)
     clear hr1 hr2 hne hgb' hb3 CA
     go_wp2
     go_roundw
     case rel=>exact ⟨c,d,_,_,_,_,rfl,rfl,H3.out⟩
     case measure =>
      show natVal w3 _*(M+1)+natVal w3 _<natVal wr _*(M+1)+natVal wr _
      rw [e1.out,e2.out,natVal_eq H3.out.ha,natVal_eq H3.out.hb]
      have q1:=H3.out.le
      have q2:=H3.out.hM
      exact lex_lt (by omega) (.inl HCD.out.2.1)
   ·have h2':¬ (2:Int)<((dg b).length:Int):=by omega
    by_cases hb0:b=0
    ·subst hb0
     have hlz:(((dg 0).length:Int)==0)=true:=by rw [dg_zero];rfl
     have hGa:a=G:=by have:=hs.out.hG;rwa [Nat.gcd_zero_right] at this
     have HR:=Lib.hid (show IsNat wr (.slice pu (dg a).length cu) G by rw [←hGa];exact hs.out.ha)
     clear hGa
     go_wp2
     go_ret
     exact ⟨_,rfl,HR.out,hs.out.fa,hs.out.bel⟩
    ·have hlz:(((dg b).length:Int)==0)=false:=by rw [beq_eq_false_iff_ne];have:=dg_len_pos hb0;omega
     have cd:=divide_any _ _ a b wr hs.out.ha hs.out.hb hb0 (by omega)
     have hml:=Nat.mod_lt a (show 0<b by omega)
     have hb18:=two_lim (b:=b) (by omega)
     have hgl:Nat.gcd b (a % b)=G:=by rw [←hs.out.hG,Nat.gcd_comm b,←Nat.gcd_rec,Nat.gcd_comm]
     have hG18:G<1000000000000000000:=by rw [←hgl];exact Nat.lt_of_le_of_lt (Nat.gcd_le_left _ (by omega)) hb18
     have CD:=Lib.hid cd
     have HX:=Lib.hid (And.intro hml (And.intro hb18 (And.intro hgl hG18)))
     clear cd hml hb18 hgl hG18 hb0 h2
     go_wp2_with fail
     refine CD.out.mono ?_
     rintro e w3 ⟨q,r,rfl,hq,hr,_,_,hb3⟩
     obtain ⟨pq,cq,rfl⟩:=hq.shape
     obtain ⟨pr,cr,rfl⟩:=hr.shape
     have C1:=Lib.hid (natMachine_any _ b w3 (hs.out.hb.next hb3) HX.out.2.1)
     have C2:=Lib.hid (natMachine_any _ (a % b) w3 hr (by have:=HX.out.1;have:=HX.out.2.1;omega))
     have C3:=Lib.hid (gcdMachine_any b (a % b) w3 (by have:=HX.out.2.1;omega) (by have:=HX.out.1;have:=HX.out.2.1;omega))
     have H3:=Lib.hid (hs.out.next hb3)
     rw [HX.out.2.2.1] at C3
     clear CD hq hr hb3
     generalize (dg (a / b)).length=lq at *
     generalize (dg (a % b)).length=lr at *
     generalize a % b=rr at *
     go_wp2_with fail
     refine C1.out.mono ?_
     rintro e w' ⟨rfl,rfl⟩
     go_wp2_with fail
     refine C2.out.mono ?_
     rintro e w' ⟨rfl,rfl⟩
     go_wp2_with fail
     refine C3.out.mono ?_
     rintro e w' ⟨rfl,nn,rfl⟩
     go_wp2_with fail
     refine (ofValue_any G _ HX.out.2.2.2).mono ?_
     rintro e w4 ⟨v,rfl,hv,hf,hb4⟩
     have hBB:=(Below.drewK w3.heap.size w3 nn).trans (show Below w3.heap.size _ w4 from hb4)
     have H4:=Lib.hid (H3.out.next hBB)
     have HV:=Lib.hid (And.intro hv (show Fresh w3.heap.size v from hf))
     have HS3:=Lib.hid H3.out.hbs
     clear hv hf hb4 hBB C1 C2 C3 H3
     go_wp2
     go_ret
     exact ⟨_,rfl,HV.out.1,HV.out.2.mono HS3.out,H4.out.bel⟩
theorem Gcd_long2 (a b:ByteArray) (w:World) (k1:chk a.data.toList=0) (k2:chk b.data.toList=0) (hs:¬ ((szB a).size≤18∧(szB b).size≤18)) (hg:GcdOwn (natOf (szL a.data.toList)) (natOf (szL b.data.toList))) (ht:Tab w) :
  Calls Tryz.prog 127 #[.string a,.string b] w fun e W'=>e = .returned (.tuple #[.string (strB (Nat.gcd (natOf (szL a.data.toList)) (natOf (szL b.data.toList)):Nat)),.int .i64 0])∧Below w.heap.size w W':=by
 have s1:=chk_size k1
 have s2:=chk_size k2
 have cb:=checkBoth_any a b w (by unfold maxLen;omega) (by unfold maxLen;omega)
 have hc2:chk2 a.data.toList b.data.toList=0:=by unfold chk2;rw [if_pos k1];exact k2
 rw [hc2] at cb
 have z1:=szB_size a
 have z2:=szB_size b
 have i1:=fun W=>isShort_any (szB a) W (by unfold maxLen;omega)
 have i2:=fun W=>isShort_any (szB b) W (by unfold maxLen;omega)
 have m1:=fun W=>readNatural_own (szB a) W (by omega) (by rw [szB_data];exact chk_dig k1)
 have m2:=fun W=>readNatural_own (szB b) W (by omega) (by rw [szB_data];exact chk_dig k2)
 rw [szB_data] at m1 m2
 have y1:=fun W=>sizeText_any a W (by unfold maxLen;omega)
 have y2:=fun W=>sizeText_any b W (by unfold maxLen;omega)
 have n1:=nat_lim k1
 have n2:=nat_lim k2
 generalize natOf (szL a.data.toList)=x at *
 generalize natOf (szL b.data.toList)=y at *
 have hgl:Nat.gcd x y<lim:=by
  by_cases h0:x=0
  ·subst h0;rw [Nat.gcd_zero_left];exact n2
  ·exact Nat.lt_of_le_of_lt (Nat.gcd_le_left _ (by omega)) n1
 have tx:=fun v W (h:IsNat W v (Nat.gcd x y)) (hb:Below w.heap.size w W)=>text_any false v (Nat.gcd x y) W h (Nat.le_trans (dg_lim hgl) (by decide)) (ht.next hb)
 have e1:resB (sgnZ false (Nat.gcd x y))=strB (Nat.gcd x y:Nat):=by unfold sgnZ;exact if_pos (by simpa using hgl)
 have e2:resE (sgnZ false (Nat.gcd x y))=0:=by unfold sgnZ;exact if_pos (by simpa using hgl)
 rw [e1,e2] at tx
 have TX:=Lib.hid tx
 have HG:=Lib.hid hg
 have C:=Lib.hid (And.intro cb (And.intro y1 (And.intro y2 (And.intro i1 (And.intro i2 (And.intro m1 m2))))))
 clear cb i1 i2 m1 m2 y1 y2 hc2 ht k1 k2 s1 s2 tx hg hgl e1 e2 n1 n2
 have rest:True:=trivial
 generalize szB a=sa at *
 generalize szB b=sb at *
 by_cases g1:sa.size≤18
 ·have t1:decide ((sa.size:Int)≤18)=true:=by simp;omega
  have t2:decide ((sb.size:Int)≤18)=false:=by simp;omega
  go_enter Tryz.func127,Tryz.ntmps127
  go_wp2_with fail
  refine C.out.1.mono ?_
  rintro e w' ⟨rfl,rfl⟩
  go_wp2_with fail
  refine (C.out.2.1 _).mono ?_
  rintro e w' ⟨rfl,rfl⟩
  go_wp2_with fail
  refine (C.out.2.2.1 _).mono ?_
  rintro e w' ⟨rfl,rfl⟩
  go_wp2_with fail
  refine (C.out.2.2.2.1 _).mono ?_
  rintro e w' ⟨rfl,rfl⟩
  rw [t1]
  go_wp2_with fail
  refine (C.out.2.2.2.2.1 _).mono ?_
  rintro e w' ⟨rfl,rfl⟩
  rw [t2]
  go_wp2_with fail
  refine (C.out.2.2.2.2.2.1 _).mono ?_
  rintro e w1 ⟨va,rfl,hva,hfa,hb1,hoa⟩
  obtain ⟨pa,ca,rfl⟩:=hva.shape
  have H1:=Lib.hid (And.intro hva (And.intro hfa hb1));have HOA:=Lib.hid hoa;clear hva hfa hb1 hoa
  go_wp2_with fail
  refine (C.out.2.2.2.2.2.2 _).mono ?_
  rintro e w2 ⟨vb,rfl,hvb,hfb,hb2,hob⟩
  obtain ⟨pb,cb,rfl⟩:=hvb.shape
  have hB2:=H1.out.2.2.trans (hb2.mono H1.out.2.2.size)
  have hdis:x≠0→y≠0→(Value.slice pa (dg x).length ca).ownBlock≠(Value.slice pb (dg y).length cb).ownBlock:=fun h1 h2=>by
   obtain ⟨g1,c1,e1,q1,r1⟩:=HOA.out h1
   obtain ⟨g2,c2,e2,q2,r2⟩:=hob h2
   have hlt:=r1.lt
   rw [e1,e2]
   show some g1≠some g2
   intro e
   have:=Option.some.inj e
   omega
  have hoa2:OwnN w2 w.heap.size (Value.slice pa (dg x).length ca) x:=fun h1=>by
   obtain ⟨g1,c1,e1,q1,r1⟩:=HOA.out h1
   exact ⟨g1,c1,e1,q1,r1.next hb2 r1.lt⟩
  have hob2:OwnN w2 w.heap.size (Value.slice pb (dg y).length cb) y:=fun h2=>OwnR.mono (hob h2) H1.out.2.2.size
  have CG:=Lib.hid (HG.out _ _ w.heap.size w2 (H1.out.1.next hb2) hvb H1.out.2.1 (hfb.mono H1.out.2.2.size) hB2.size hoa2 hob2 hdis)
  have H2:=Lib.hid hB2
  clear hvb hfb hb2 hB2 H1 hdis HG HOA hoa2 hob2 hob
  go_wp2_with fail
  refine CG.out.mono ?_
  rintro e w3 ⟨v,rfl,hv,_,hb3⟩
  obtain ⟨pv,cv,rfl⟩:=hv.shape
  have H3:=Lib.hid (And.intro hv (H2.out.trans hb3))
  clear hv hb3 CG H2
  generalize (dg (Nat.gcd x y)).length=lv at *
  go_wp2_with fail
  refine (TX.out _ _ H3.out.1 H3.out.2).mono ?_
  rintro e w4 ⟨rfl,hb4⟩
  have H4:=Lib.hid (H3.out.2.trans (hb4.mono H3.out.2.size))
  clear hb4 H3 TX
  go_wp2
  go_ret2
  exact ⟨rfl,H4.out⟩
 ·have t1:decide ((sa.size:Int)≤18)=false:=by simp;omega
  go_enter Tryz.func127,Tryz.ntmps127
  go_wp2_with fail
  refine C.out.1.mono ?_
  rintro e w' ⟨rfl,rfl⟩
  go_wp2_with fail
  refine (C.out.2.1 _).mono ?_
  rintro e w' ⟨rfl,rfl⟩
  go_wp2_with fail
  refine (C.out.2.2.1 _).mono ?_
  rintro e w' ⟨rfl,rfl⟩
  go_wp2_with fail
  refine (C.out.2.2.2.1 _).mono ?_
  rintro e w' ⟨rfl,rfl⟩
  rw [t1]
  go_wp2_with fail
  refine (C.out.2.2.2.2.2.1 _).mono ?_
  rintro e w1 ⟨va,rfl,hva,hfa,hb1,hoa⟩
  obtain ⟨pa,ca,rfl⟩:=hva.shape
  have H1:=Lib.hid (And.intro hva (And.intro hfa hb1));have HOA:=Lib.hid hoa;clear hva hfa hb1 hoa
  go_wp2_with fail
  refine (C.out.2.2.2.2.2.2 _).mono ?_
  rintro e w2 ⟨vb,rfl,hvb,hfb,hb2,hob⟩
  obtain ⟨pb,cb,rfl⟩:=hvb.shape
  have hB2:=H1.out.2.2.trans (hb2.mono H1.out.2.2.size)
  have hdis:x≠0→y≠0→(Value.slice pa (dg x).length ca).ownBlock≠(Value.slice pb (dg y).length cb).ownBlock:=fun h1 h2=>by
   obtain ⟨g1,c1,e1,q1,r1⟩:=HOA.out h1
   obtain ⟨g2,c2,e2,q2,r2⟩:=hob h2
   have hlt:=r1.lt
   rw [e1,e2]
   show some g1≠some g2
   intro e
   have:=Option.some.inj e
   omega
  have hoa2:OwnN w2 w.heap.size (Value.slice pa (dg x).length ca) x:=fun h1=>by
   obtain ⟨g1,c1,e1,q1,r1⟩:=HOA.out h1
   exact ⟨g1,c1,e1,q1,r1.next hb2 r1.lt⟩
  have hob2:OwnN w2 w.heap.size (Value.slice pb (dg y).length cb) y:=fun h2=>OwnR.mono (hob h2) H1.out.2.2.size
  have CG:=Lib.hid (HG.out _ _ w.heap.size w2 (H1.out.1.next hb2) hvb H1.out.2.1 (hfb.mono H1.out.2.2.size) hB2.size hoa2 hob2 hdis)
  have H2:=Lib.hid hB2
  clear hvb hfb hb2 hB2 H1 hdis HG HOA hoa2 hob2 hob
  go_wp2_with fail
  refine CG.out.mono ?_
  rintro e w3 ⟨v,rfl,hv,_,hb3⟩
  obtain ⟨pv,cv,rfl⟩:=hv.shape
  have H3:=Lib.hid (And.intro hv (H2.out.trans hb3))
  clear hv hb3 CG H2
  generalize (dg (Nat.gcd x y)).length=lv at *
  go_wp2_with fail
  refine (TX.out _ _ H3.out.1 H3.out.2).mono ?_
  rintro e w4 ⟨rfl,hb4⟩
  have H4:=Lib.hid (H3.out.2.trans (hb4.mono H3.out.2.size))
  clear hb4 H3 TX
  go_wp2
  go_ret2
  exact ⟨rfl,H4.out⟩
theorem Gcd_strs2 (x y:Int) (w:World) (hx:x.natAbs<lim) (hy:y.natAbs<lim) (ht:Tab w) :
  Calls Tryz.prog 127 #[.string (strB x),.string (strB y)] w fun e W'=>e = .returned (.tuple #[.string (strB (Nat.gcd x.natAbs y.natAbs:Nat)),.int .i64 0])∧Below w.heap.size w W':=by
 have e1:=strB_nat hx
 have e2:=strB_nat hy
 by_cases hs:(szB (strB x)).size≤18∧(szB (strB y)).size≤18
 ·have c:=Gcd_mid (strB x) (strB y) w (strB_chk hx) (strB_chk hy) hs.1 hs.2 ht
  rwa [e1,e2] at c
 ·have c:=Gcd_long2 (strB x) (strB y) w (strB_chk hx) (strB_chk hy) hs (by rw [e1,e2];exact gcd_any _ _ (Nat.le_trans (dg_lim hx) (by decide)) (Nat.le_trans (dg_lim hy) (by decide))) ht
  rwa [e1,e2] at c
end Go.Proofs.YtjdfjgfdbgmbiaaGreatDoor
namespace Go.Proofs.YtjdfjgfdbgmbiaaGreatDoor
open Go.Lib
def itoaQ (q:Rat):List UInt8:=if q.den=1 then itoa q.num else itoa q.num++47::itoa q.den
def cutN (l:List UInt8):List UInt8:=l.takeWhile (· != 47)
def hasS (l:List UInt8):Bool:=l.contains 47
def cutD (l:List UInt8):List UInt8:=if hasS l then (l.dropWhile (· != 47)).tail else [49]
def formQ (l:List UInt8):Bool:=chk (cutN l) != 11 && chk (cutD l) != 11 && !isNeg (cutD l) && cutD l != [48] && !(hasS l && cutD l == [49])
def chkQ (l:List UInt8):Int :=
 if formQ l=false then 11
 else if chk (cutN l)≠0∨chk (cutD l)≠0 then 4
 else if (valOf (cutN l)).natAbs.gcd (natOf (cutD l))=1 then 0 else 11
def ratOf (l:List UInt8):Rat:=mkRat (valOf (cutN l)) (natOf (cutD l))
theorem decDigits_ns (u:Nat):(47:UInt8) ∉ decDigits u:=fun h=>by
 have:=decDigits_dig u 47 h
 revert this;decide
theorem itoa_ns (z:Int):(47:UInt8) ∉ itoa z:=by
 unfold itoa
 split
 ·simp [decDigits_ns]
 ·exact decDigits_ns _
theorem takeWhile_all {α:Type} (p:α→Bool) (l:List α) (h:∀ x∈l,p x=true):l.takeWhile p=l:=by
 induction l with
 | nil=>rfl
 | cons a t ih=>rw [List.takeWhile_cons_of_pos (h a (by simp)),ih (fun x hx=>h x (by simp [hx]))]
theorem takeWhile_app {α:Type} (p:α→Bool) (l:List α) (c:α) (m:List α) (h:∀ x∈l,p x=true) (hc:p c=false):(l++c::m).takeWhile p=l∧(l++c::m).dropWhile p=c::m:=by
 induction l with
 | nil=>exact ⟨List.takeWhile_cons_of_neg (by simp [hc]),List.dropWhile_cons_of_neg (by simp [hc])⟩
 | cons a t ih =>
  obtain ⟨i1,i2⟩:=ih (fun x hx=>h x (by simp [hx]))
  refine ⟨?_,?_⟩
  ·rw [List.cons_append,List.takeWhile_cons_of_pos (h a (by simp)),i1]
  ·rw [List.cons_append,List.dropWhile_cons_of_pos (h a (by simp)),i2]
theorem ns_all {l:List UInt8} (h:(47:UInt8) ∉ l):∀ x∈l,(x != 47)=true:=fun x hx=>by
 rw [bne_iff_ne];rintro rfl;exact h hx
theorem cut_none {l:List UInt8} (h:(47:UInt8) ∉ l):cutN l=l∧hasS l=false∧cutD l = [49]:=by
 have h1:hasS l=false:=by unfold hasS;simpa using h
 refine ⟨takeWhile_all _ _ (ns_all h),h1,?_⟩
 unfold cutD;rw [h1];rfl
theorem cut_some {n:List UInt8} (h:(47:UInt8) ∉ n) (d:List UInt8):cutN (n++47::d)=n∧hasS (n++47::d)=true∧cutD (n++47::d)=d:=by
 obtain ⟨h1,h2⟩:=takeWhile_app (· != 47) n 47 d (ns_all h) (by decide)
 have h3:hasS (n++47::d)=true:=by unfold hasS;simp
 refine ⟨h1,h3,?_⟩
 unfold cutD;rw [h3,if_pos rfl,h2];rfl
theorem mem_first {l:List UInt8} (h:(47:UInt8)∈l):∃ s t,l=s++47::t∧(47:UInt8) ∉ s:=by
 induction l with
 | nil=>cases h
 | cons a m ih =>
  by_cases ha:a=47
  ·subst ha;exact ⟨[],m,rfl,by simp⟩
  ·have h':(47:UInt8)∈m:=by
    rcases List.mem_cons.1 h with q | q
    ·exact absurd q.symm ha
    ·exact q
   obtain ⟨s,t,rfl,hs⟩:=ih h'
   refine ⟨a::s,t,rfl,?_⟩
   rw [List.mem_cons,not_or]
   exact ⟨fun q=>ha q.symm,hs⟩
theorem cut_eq (l:List UInt8):(hasS l=false∧l=cutN l∧cutD l = [49])∨(hasS l=true∧l=cutN l++47::cutD l):=by
 by_cases h:(47:UInt8)∈l
 ·right
  obtain ⟨s,t,rfl,hs⟩:=mem_first h
  obtain ⟨h1,h2,h3⟩:=cut_some hs t
  exact ⟨h2,by rw [h1,h3]⟩
 ·left
  obtain ⟨h1,h2,h3⟩:=cut_none h
  exact ⟨h2,h1.symm,h3⟩
theorem valOf_abs (l:List UInt8):(valOf l).natAbs=natOf (szL l):=by unfold valOf szL;split <;> simp
theorem itoa_one:itoa 1 = [49]:=by decide+kernel
theorem valOf_one:valOf [49]=1:=by rw [←itoa_one,valOf_itoa]
theorem natOf_one:natOf [49]=1:=by decide
theorem natOf_val {l:List UInt8} (h:isNeg l=false):(natOf l:Int)=valOf l:=by unfold valOf;rw [h];rfl
theorem itoaQ_cut (q:Rat):cutN (itoaQ q)=itoa q.num∧cutD (itoaQ q)=itoa q.den∧hasS (itoaQ q)=decide (q.den≠1):=by
 unfold itoaQ
 by_cases h:q.den=1
 ·rw [if_pos h]
  obtain ⟨h1,h2,h3⟩:=cut_none (itoa_ns q.num)
  exact ⟨h1,by rw [h3,h];exact itoa_one.symm,by rw [h2,h];rfl⟩
 ·rw [if_neg h]
  obtain ⟨h1,h2,h3⟩:=cut_some (itoa_ns q.num) (itoa q.den)
  exact ⟨h1,h3,by rw [h2];simp [h]⟩
theorem ratOf_itoaQ (q:Rat):ratOf (itoaQ q)=q:=by
 obtain ⟨h1,h2,_⟩:=itoaQ_cut q
 unfold ratOf
 rw [h1,h2,valOf_itoa]
 have h3:(natOf (itoa (q.den:Int)):Int)=(q.den:Int):=by
  rw [natOf_val (by rw [head_itoa_neg];simp),valOf_itoa]
 rw [Int.ofNat.inj h3,Rat.mkRat_self]
theorem itoaQ_inj {x y:Rat} (h:itoaQ x=itoaQ y):x=y:=by rw [←ratOf_itoaQ x,←ratOf_itoaQ y,h]
theorem formQ_itoaQ (q:Rat):formQ (itoaQ q)=true:=by
 obtain ⟨h1,h2,h3⟩:=itoaQ_cut q
 have hd:=q.den_nz
 have c1:chk (itoa q.num)≠11:=by rw [chk_itoa];split <;> decide
 have c2:chk (itoa (q.den:Int))≠11:=by rw [chk_itoa];split <;> decide
 have c3:isNeg (itoa (q.den:Int))=false:=by rw [head_itoa_neg];simp
 have c4:itoa (q.den:Int) ≠ [48]:=fun h=>by
  rw [←itoa_zero] at h
  have:=itoa_inj h
  omega
 have c5:hasS (itoaQ q)=true→itoa (q.den:Int) ≠ [49]:=fun h h'=>by
  rw [←itoa_one] at h'
  have:=itoa_inj h'
  rw [h3] at h
  have:=of_decide_eq_true h
  omega
 unfold formQ
 rw [h1,h2]
 cases hs:hasS (itoaQ q)
 ·simp [c1,c2,c3,c4]
 ·simp [c1,c2,c3,c4,c5 hs]
theorem chkQ_itoaQ (q:Rat):chkQ (itoaQ q)=if q.num.natAbs<lim∧q.den<lim then 0 else 4:=by
 obtain ⟨h1,h2,_⟩:=itoaQ_cut q
 have h3:(natOf (itoa (q.den:Int)):Int)=(q.den:Int):=by
  rw [natOf_val (by rw [head_itoa_neg];simp),valOf_itoa]
 have h4:=Int.ofNat.inj h3
 unfold chkQ
 rw [formQ_itoaQ,if_neg (by decide),h1,h2,chk_itoa,chk_itoa,valOf_itoa,h4,Int.natAbs_natCast]
 by_cases a1:q.num.natAbs<lim
 ·by_cases a2:q.den<lim
  ·rw [if_pos a1,if_pos a2,if_neg (by simp),if_pos q.reduced,if_pos ⟨a1,a2⟩]
  ·rw [if_pos a1,if_neg a2,if_pos (Or.inr (by decide)),if_neg (fun h=>a2 h.2)]
 ·rw [if_neg a1,if_pos (Or.inl (by decide)),if_neg (fun h=>a1 h.1)]
theorem chkQ_parts {l:List UInt8} (h:chkQ l=0):formQ l=true∧chk (cutN l)=0∧chk (cutD l)=0∧(ratOf l).num=valOf (cutN l)∧((ratOf l).den:Int)=valOf (cutD l)∧0<valOf (cutD l):=by
 unfold chkQ at h
 split at h
 ·cases h
 ·rename_i hf
  split at h
  ·cases h
  ·rename_i hc
   split at h
   ·rename_i hg
    have hf':formQ l=true:=by simpa using hf
    have hn:chk (cutN l)=0:=Decidable.byContradiction fun q=>hc (Or.inl q)
    have hd:chk (cutD l)=0:=Decidable.byContradiction fun q=>hc (Or.inr q)
    have hx:=hf'
    unfold formQ at hx
    simp only [Bool.and_eq_true,Bool.not_eq_true',bne_iff_ne,ne_eq] at hx
    have hneg:=hx.1.1.2
    have h48:=hx.1.2
    have hv:=natOf_val hneg
    have hpos:0<valOf (cutD l):=by
     rcases Int.lt_or_le 0 (valOf (cutD l)) with q | q
     ·exact q
     ·exfalso
      refine h48 ?_
      rw [←itoa_valOf _ hd,show valOf (cutD l)=0 by omega,itoa_zero]
    have hne:natOf (cutD l)≠0:=by omega
    have e:ratOf l=⟨valOf (cutN l),natOf (cutD l),hne,hg⟩:=(Rat.mk_eq_mkRat _ _ hne hg).symm
    exact ⟨hf',hn,hd,by rw [e],by rw [e];exact hv,hpos⟩
   ·cases h
theorem itoaQ_ratOf {l:List UInt8} (h:chkQ l=0):itoaQ (ratOf l)=l:=by
 obtain ⟨hf,hn,hd,e1,e2,_⟩:=chkQ_parts h
 unfold itoaQ
 rw [e1,e2,itoa_valOf _ hn,itoa_valOf _ hd]
 rcases cut_eq l with ⟨_,h2,h3⟩ | ⟨h1,h2⟩
 ·rw [h3,valOf_one] at e2
  rw [if_pos (by omega)];exact h2.symm
 ·have h4:(ratOf l).den≠1:=fun q=>by
   rw [q] at e2
   have:cutD l = [49]:=by rw [←itoa_valOf _ hd,←e2];exact itoa_one
   unfold formQ at hf
   rw [h1,this] at hf
   simp at hf
  rw [if_neg h4];exact h2.symm
theorem chkQ_lim {l:List UInt8} (h:chkQ l=0):(ratOf l).num.natAbs<lim∧(ratOf l).den<lim:=by
 have h1:=chkQ_itoaQ (ratOf l)
 rw [itoaQ_ratOf h,h] at h1
 by_cases q:(ratOf l).num.natAbs<lim∧(ratOf l).den<lim
 ·exact q
 ·rw [if_neg q] at h1;cases h1
end Go.Proofs.YtjdfjgfdbgmbiaaGreatDoor
