/- Parts of the proof of the text YtjdomibbaemdnaaGreatDoorZK42. -/
import Derived.Test.YtjdomibbaemdnaaGreatDoorZK1
import Derived.Test.YtjdomibbaemdnaaGreatDoorZK31
set_option linter.all false
set_option maxRecDepth 100000
set_option maxHeartbeats 8000000
namespace Go.Proofs.YtjdomibbaemdnaaGreatDoor.R
open Go.RowKit
theorem IsNat.len0 {w:World} {v:Value} {n:Nat} (_h:IsNat w v n):((dg n).length=0↔n=0):=by
 rw [List.length_eq_zero_iff,cU]
theorem u6 (na nb:Bool) (x y:Nat) (h0:y≠0) :
  ((na=nb∨x % y=0)→am ((na != nb) && decide (0<x / y)) (x / y)=(am na x).fdiv (am nb y)∧am (na && decide (0<x % y)) (x % y)=(am na x).fmod (am nb y)) ∧
  ((na≠nb∧x % y≠0)→am (true && decide (0<x / y)) (x / y)+am true 1=(am na x).fdiv (am nb y)∧am (na && true) (x % y)+am nb y=(am na x).fmod (am nb y)):=by
 obtain ⟨h1,h2⟩:=oA na nb x y h0
 have hm:=Nat.mod_lt x (show 0<y by omega)
 have key:∀ (s:Bool) (n:Nat),am (s && decide (0<n)) n=am s n:=fun s n=>by
  rcases Nat.eq_zero_or_pos n with h | h
  ·subst h;rw [aS,aS]
  ·rw [decide_eq_true h,Bool.and_true]
 constructor
 ·intro h
  obtain ⟨e1,e2⟩:=h1 h
  rw [key,key,e1,e2]
  refine ⟨rfl,?_⟩
  rcases h with rfl | h
  ·rfl
  ·rw [h,aS,aS]
 ·intro h
  obtain ⟨e1,e2⟩:=h2 h
  rw [key,Bool.and_true,e1,e2]
  have hb:(na != nb)=true:=by simpa using h.1
  rw [hb]
  generalize x / y=q at *
  generalize x % y=r at *
  cases na <;> cases nb <;> simp [am] at h ⊢ <;> omega
structure C2 (W:World) (o:Nat) (u v:Value):Prop where
 c0:W.cell? ⟨o,0,none⟩=some u
 c1:W.cell? ⟨o,1,none⟩=some v
 f0:W.frozen? ⟨o,0,none⟩=false
 f1:W.frozen? ⟨o,1,none⟩=false
 lt:o<W.heap.size
theorem C2.next {W W':World} {o:Nat} {u v:Value} (h:C2 W o u v) (hb:Below W.heap.size W W'):C2 W' o u v :=
 ⟨(hb.cell (p:=⟨o,0,none⟩) h.lt).trans h.c0,(hb.cell (p:=⟨o,1,none⟩) h.lt).trans h.c1,(hb.frozen (p:=⟨o,0,none⟩) h.lt).trans h.f0,(hb.frozen (p:=⟨o,1,none⟩) h.lt).trans h.f1,Nat.lt_of_lt_of_le h.lt hb.size⟩
theorem C2.new (W:World) (u v:Value) (t:TypeId):C2 (W.alloc (.cells #[u,v] t)) W.heap.size u v:=⟨by go_cell,by go_cell,by simp [go_sem],by simp [go_sem],by simp⟩
theorem C2.old {W:World} {o:Nat} {u v:Value} (h:C2 W o u v) (ob:Obj):C2 (W.alloc ob) o u v:=h.next ((Below.refl _ _).alloc (Nat.le_refl _) _)
theorem C2.other {W:World} {o k:Nat} {u v:Value} (h:C2 W o u v) (hk:o≠k) (x y:Value):C2 ((W.setCell ⟨k,0,none⟩ x).setCell ⟨k,1,none⟩ y) o u v :=
 ⟨dU hk.symm h.c0,dU hk.symm h.c1,by rw [aD,aD];exact h.f0,by rw [aD,aD];exact h.f1,by have:=h.lt;simpa [World.setCell] using this⟩
theorem C2.put {W:World} {o:Nat} {u v:Value} (h:C2 W o u v) (x y:Value):C2 ((W.setCell ⟨o,0,none⟩ x).setCell ⟨o,1,none⟩ y) o x y:=by
 obtain ⟨b0,b1⟩:=au h.c0 h.c1 x y
 exact ⟨by go_cell,b1,by rw [aD,aD];exact h.f0,by rw [aD,aD];exact h.f1,by have:=h.lt;simpa [World.setCell] using this⟩
theorem ji (w:World):IsNat (w.alloc (.cells #[.int .i64 1] 3)) (.slice (some ⟨w.heap.size,0,none⟩) 1 1) 1:=by
 show Nats _ _ (dg 1)
 rw [gl (by decide) (by decide)]
 exact kt w 1
theorem mp (q:Nat):(dg (q+1)).length≤(dg q).length+1:=by
 have h1:=(ak q _).1 (Nat.le_refl _)
 refine (ak _ _).2 ?_
 rw [Nat.pow_succ,dH]
 rw [dH] at h1
 omega
theorem iJ (a b:Nat):(dg (a+b)).length≤(dg a).length+(dg b).length+1:=by
 have h1:=(ak a _).1 (Nat.le_refl _)
 have h2:=(ak b _).1 (Nat.le_refl _)
 refine (ak _ _).2 ?_
 have e1:B ^ (dg a).length≤B ^ ((dg a).length+(dg b).length):=Nat.pow_le_pow_right bP (by omega)
 have e2:B ^ (dg b).length≤B ^ ((dg a).length+(dg b).length):=Nat.pow_le_pow_right bP (by omega)
 rw [Nat.pow_succ,dH]
 rw [dH] at h1 h2 e1 e2
 omega
theorem Below.put2 {B:Nat} {a w:World} {o:Nat} (h:Below B a w) (ho:B≤o) (x y:Value):Below B a ((w.setCell ⟨o,0,none⟩ x).setCell ⟨o,1,none⟩ y) :=
 (h.setCell (p:=⟨o,0,none⟩) ho _).setCell (p:=⟨o,1,none⟩) ho _
theorem iB (a b:ByteArray) (w:World) (hs:¬ (a.size≤17∧b.size≤17)) (k1:chk a.data.toList=0) (k2:chk b.data.toList=0) (h0:valOf b.data.toList≠0) :
  Calls Tryz.prog 65 #[.string a,.string b] w fun e W'=>e = .returned (.tuple #[.string (aa ((valOf a.data.toList).fdiv (valOf b.data.toList))),.string (aa ((valOf a.data.toList).fmod (valOf b.data.toList))),.int .i64 0])∧Below w.heap.size w W':=by
 have s1:=bz k1
 have s2:=bz k2
 have cb:=gN a b w (by unfold maxLen;omega) (by unfold maxLen;omega)
 have hc2:bC a.data.toList b.data.toList=0:=by unfold bC;rw [if_pos k1];exact k2
 rw [hc2] at cb
 have hb48:(b.toList == [48])=false:=by
  rw [ByteArray.toList_eq,beq_eq_false_iff_ne]
  intro e;rw [e] at h0;exact h0 rfl
 have ct:=sL a b w hs k1 (by unfold maxLen;omega) (by unfold maxLen;omega)
 have n1:=cO k1
 have n2:=cO k2
 have l1:=im n1
 have l2:=im n2
 have r1:=fun W=>bM a W (by omega) k1
 have r2:=fun W=>bM b W (by omega) k2
 have hy0:ae (szL b.data.toList)≠0:=by
  intro e;rw [ku,e,aS] at h0;exact h0 rfl
 rw [ku,ku]
 have HB48:=Ha hb48
 clear hs k1 k2 s1 s2 hc2 h0
 generalize ap a.data.toList=na at *
 generalize ap b.data.toList=nb at *
 generalize ae (szL a.data.toList)=x at *
 generalize ae (szL b.data.toList)=y at *
 have hq:x / y≤x:=Nat.div_le_self _ _
 have hr:=Nat.mod_lt x (show 0<y by omega)
 have hlq:=Nat.le_trans (aC hq) l1
 have hlr:=Nat.le_trans (aC (Nat.le_of_lt hr)) l2
 obtain ⟨F1,F2⟩:=u6 na nb x y hy0
 have hbd:((am na x).fdiv (am nb y)).natAbs<lim:=by
  have h1:=(qt (x:=am na x) (y:=am nb y) (by
   intro e;have:=congrArg Int.natAbs e;rw [ia] at this;omega)).1
  rw [ia] at h1
  omega
 have HQ:=Ha (show fj ((am na x).fdiv (am nb y))=aa ((am na x).fdiv (am nb y))∧fk ((am na x).fdiv (am nb y))=0 from ⟨if_pos hbd,if_pos hbd⟩)
 have cd:=fun va vb W (h1:IsNat W va x) (h2:IsNat W vb y)=>cH va vb x y W h1 h2 hy0 (by omega) (by omega)
 have C:=Ha (Hb cb (Hb ct (Hb r1 (Hb r2 cd))))
 have HL:=Ha (Hb hlq (Hb hlr l2))
 have HBY:=Ha (fun n (h:n=y)=>show (dg n).length≤50 by rw [h];exact l2)
 clear cb ct r1 r2 cd n1 n2 l1 hbd hq
 go_enter Tryz.func65,Tryz.ntmps65
 go_wp2_with fail
 refine C.out.1.mono ?_
 rintro e w' ⟨rfl,rfl⟩
 go_wp2_with fail
 refine C.out.2.1.mono ?_
 rintro e w' ⟨tx,ty,rfl,rfl⟩
 clear hb48
 go_wp2_with fail
 refine (C.out.2.2.1 _).mono ?_
 rintro e w1 ⟨va,rfl,hva,_,hb1⟩
 obtain ⟨pa,ca,rfl⟩:=hva.shape
 have H1:=Ha (Hb hva hb1)
 clear hva hb1
 generalize (dg x).length=lx at *
 go_wp2_with fail
 refine (C.out.2.2.2.1 _).mono ?_
 rintro e w2 ⟨vb,rfl,hvb,_,hb2⟩
 obtain ⟨pb,cb,rfl⟩:=hvb.shape
 have H2:=Ha (Hb (H1.out.1.next hb2) (Hb hvb (H1.out.2.trans (hb2.mono H1.out.2.size))))
 clear hvb hb2 H1
 generalize (dg y).length=ly at *
 generalize x / y=qq at *
 generalize x % y=rr at *
 have HBQ:=Ha (fun n (h:n=qq)=>show (dg n).length≤50 by rw [h];exact hlq)
 have HBR:=Ha (fun n (h:n=rr)=>show (dg n).length≤50 by rw [h];exact hlr)
 go_wp2_with fail
 have D1:=(C2.new w2 (.bool na) (.slice pa lx ca) 122).old (.cells #[.bool nb,.slice pb ly cb] 122)
 have D2:=C2.new (w2.alloc (.cells #[.bool na,.slice pa lx ca] 122)) (.bool nb) (.slice pb ly cb) 122
 rw [World.size_alloc] at D2
 have hbW:Below w2.heap.size w2 ((w2.alloc (.cells #[.bool na,.slice pa lx ca] 122)).alloc (.cells #[.bool nb,.slice pb ly cb] 122)):=((Below.refl _ _).alloc (Nat.le_refl _) _).alloc (by simp) _
 have HW:=Ha (Hb (H2.out.1.next hbW) (Hb (H2.out.2.1.next hbW) (Hb (H2.out.2.2.trans (hbW.mono H2.out.2.2.size)) (Hb D1 D2))))
 have hoo:w.heap.size≤w2.heap.size:=H2.out.2.2.size
 clear D1 D2 hbW H2
 generalize (w2.alloc (.cells #[.bool na,.slice pa lx ca] 122)).alloc (.cells #[.bool nb,.slice pb ly cb] 122)=W2 at *
 generalize w2.heap.size=o1 at *
 refine (C.out.2.2.2.2 _ _ _ HW.out.1 HW.out.2.1).mono ?_
 rintro e w3 ⟨q,r,rfl,hqn,hrn,_,_,hb3⟩
 obtain ⟨pq,cq,rfl⟩:=hqn.shape
 obtain ⟨pr,cr,rfl⟩:=hrn.shape
 have H3:=Ha (Hb hqn (Hb hrn (Hb (HW.out.2.1.next hb3) (Hb (HW.out.2.2.1.trans (hb3.mono HW.out.2.2.1.size)) (Hb (HW.out.2.2.2.1.next hb3) (HW.out.2.2.2.2.next hb3))))))
 clear hqn hrn hb3 HW C
 have x0:=H3.out.2.2.2.2.1.c0
 have y0:=H3.out.2.2.2.2.2.c0
 have hq0:=IsNat.len0 H3.out.1
 have hr0:=IsNat.len0 H3.out.2.1
 have hQ2:∀ s:Bool,qq=0∨0<qq:=fun _=>by omega
 obtain ⟨qz,hqz⟩:∃ z:Bool,decide (0<qq)=z:=⟨_,rfl⟩
 obtain ⟨rz,hrz⟩:∃ z:Bool,decide (0<rr)=z:=⟨_,rfl⟩
 have hlqz:decide (0<(dg (qq)).length)=qz:=by rw [←hqz];congr 1;have:=hq0;simp only [eq_iff_iff];omega
 have hlrz:decide (0<(dg (rr)).length)=rz:=by rw [←hrz];congr 1;have:=hr0;simp only [eq_iff_iff];omega
 rw [hqz,hrz] at F1
 rw [hqz] at F2
 have hrz2:rr=0↔rz=false:=by rw [←hrz];simp
 clear hq0 hr0 hqz hrz hQ2
 have HLL:=Ha (Hb hlq hlr)
 generalize hdq:(dg (qq)).length=lq at *
 generalize hdr:(dg (rr)).length=lr at *
 clear hdq hdr hlq hlr hy0 hr
 cases na <;> cases nb <;> cases qz <;> cases rz
 ·obtain rfl:lq=0:=by have:=of_decide_eq_false hlqz;omega
  obtain rfl:lr=0:=by have:=of_decide_eq_false hlrz;omega
  obtain ⟨E1,E2⟩:=F1 (.inl rfl)
  have cres:=fun W (h:IsNat W (.slice pq 0 cq) (qq))=>aT false (.slice pq 0 cq) (qq) W h (by have:=HBQ.out _ rfl;omega)
  have cwr:=fun W (h:IsNat W (.slice pr 0 cr) (rr))=>aZ false (.slice pr 0 cr) (rr) W h (by have:=HBR.out _ rfl;omega)
  rw [show am false (qq)=_ from E1,HQ.out.1,HQ.out.2] at cres
  rw [show am false (rr)=_ from E2] at cwr
  have CC:=Ha (Hb cres cwr)
  clear cres cwr E1 E2 F1 F2 hlqz hlrz hrz2 HQ HL HLL
  go_wp2_with fail
  have hb4:Below w3.heap.size w3 ((w3.alloc (.cells #[.bool false,.slice pq 0 cq] 122)).alloc (.cells #[.bool false,.slice pr 0 cr] 122)):=((Below.refl _ _).alloc (Nat.le_refl _) _).alloc (by simp) _
  have K4:=C2.new (w3.alloc (.cells #[.bool false,.slice pq 0 cq] 122)) (.bool false) (.slice pr 0 cr) 122
  rw [World.size_alloc] at K4
  have H4:=Ha (Hb (H3.out.1.next hb4) (Hb (H3.out.2.1.next hb4) (Hb (H3.out.2.2.2.1.trans (hb4.mono H3.out.2.2.2.1.size)) K4)))
  clear hb4 K4 x0 y0
  generalize (w3.alloc (.cells #[.bool false,.slice pq 0 cq] 122)).alloc (.cells #[.bool false,.slice pr 0 cr] 122)=w4 at *
  refine (CC.out.1 _ H4.out.1).mono ?_
  rintro e w5 ⟨rfl,hb5⟩
  have K5:=H4.out.2.2.2.next hb5
  have k0:=K5.c0
  have k1:=K5.c1
  have H5:=Ha (Hb (H4.out.2.1.next hb5) (H4.out.2.2.1.trans (hb5.mono H4.out.2.2.1.size)))
  clear hb5 K5 H4
  go_wp2_with fail
  clear k0 k1
  refine (CC.out.2 _ H5.out.1).mono ?_
  rintro e w6 ⟨rfl,hb6⟩
  have H6:=Ha (H5.out.2.trans (hb6.mono H5.out.2.size))
  clear hb6 H5 CC
  go_wp2
  go_ret3
  exact ⟨rfl,H6.out⟩
 ·obtain rfl:lq=0:=by have:=of_decide_eq_false hlqz;omega
  have g2:0<lr:=of_decide_eq_true hlrz
  have x4:=((H3.out.2.2.2.2.1.old (.cells #[.bool false,.slice pq 0 cq] 122)).old (.cells #[.bool false,.slice pr lr cr] 122)).c0
  have y4:=((H3.out.2.2.2.2.2.old (.cells #[.bool false,.slice pq 0 cq] 122)).old (.cells #[.bool false,.slice pr lr cr] 122)).c0
  obtain ⟨E1,E2⟩:=F1 (.inl rfl)
  have cres:=fun W (h:IsNat W (.slice pq 0 cq) (qq))=>aT false (.slice pq 0 cq) (qq) W h (by have:=HBQ.out _ rfl;omega)
  have cwr:=fun W (h:IsNat W (.slice pr lr cr) (rr))=>aZ false (.slice pr lr cr) (rr) W h (by have:=HBR.out _ rfl;omega)
  rw [show am false (qq)=_ from E1,HQ.out.1,HQ.out.2] at cres
  rw [show am false (rr)=_ from E2] at cwr
  have CC:=Ha (Hb cres cwr)
  clear cres cwr E1 E2 F1 F2 hlqz hlrz hrz2 HQ HL HLL
  go_wp2_with fail
  have hb4:Below w3.heap.size w3 ((w3.alloc (.cells #[.bool false,.slice pq 0 cq] 122)).alloc (.cells #[.bool false,.slice pr lr cr] 122)):=((Below.refl _ _).alloc (Nat.le_refl _) _).alloc (by simp) _
  have K4:=C2.new (w3.alloc (.cells #[.bool false,.slice pq 0 cq] 122)) (.bool false) (.slice pr lr cr) 122
  rw [World.size_alloc] at K4
  have H4:=Ha (Hb (H3.out.1.next hb4) (Hb (H3.out.2.1.next hb4) (Hb (H3.out.2.2.2.1.trans (hb4.mono H3.out.2.2.2.1.size)) K4)))
  clear hb4 K4 x0 y0 x4 y4
  generalize (w3.alloc (.cells #[.bool false,.slice pq 0 cq] 122)).alloc (.cells #[.bool false,.slice pr lr cr] 122)=w4 at *
  refine (CC.out.1 _ H4.out.1).mono ?_
  rintro e w5 ⟨rfl,hb5⟩
  have K5:=H4.out.2.2.2.next hb5
  have k0:=K5.c0
  have k1:=K5.c1
  have H5:=Ha (Hb (H4.out.2.1.next hb5) (H4.out.2.2.1.trans (hb5.mono H4.out.2.2.1.size)))
  clear hb5 K5 H4
  go_wp2_with fail
  clear k0 k1
  refine (CC.out.2 _ H5.out.1).mono ?_
  rintro e w6 ⟨rfl,hb6⟩
  have H6:=Ha (H5.out.2.trans (hb6.mono H5.out.2.size))
  clear hb6 H5 CC
  go_wp2
  go_ret3
  exact ⟨rfl,H6.out⟩
 ·have g1:0<lq:=of_decide_eq_true hlqz
  obtain rfl:lr=0:=by have:=of_decide_eq_false hlrz;omega
  obtain ⟨E1,E2⟩:=F1 (.inl rfl)
  have cres:=fun W (h:IsNat W (.slice pq lq cq) (qq))=>aT false (.slice pq lq cq) (qq) W h (by have:=HBQ.out _ rfl;omega)
  have cwr:=fun W (h:IsNat W (.slice pr 0 cr) (rr))=>aZ false (.slice pr 0 cr) (rr) W h (by have:=HBR.out _ rfl;omega)
  rw [show am false (qq)=_ from E1,HQ.out.1,HQ.out.2] at cres
  rw [show am false (rr)=_ from E2] at cwr
  have CC:=Ha (Hb cres cwr)
  clear cres cwr E1 E2 F1 F2 hlqz hlrz hrz2 HQ HL HLL
  go_wp2_with fail
  have hb4:Below w3.heap.size w3 ((w3.alloc (.cells #[.bool false,.slice pq lq cq] 122)).alloc (.cells #[.bool false,.slice pr 0 cr] 122)):=((Below.refl _ _).alloc (Nat.le_refl _) _).alloc (by simp) _
  have K4:=C2.new (w3.alloc (.cells #[.bool false,.slice pq lq cq] 122)) (.bool false) (.slice pr 0 cr) 122
  rw [World.size_alloc] at K4
  have H4:=Ha (Hb (H3.out.1.next hb4) (Hb (H3.out.2.1.next hb4) (Hb (H3.out.2.2.2.1.trans (hb4.mono H3.out.2.2.2.1.size)) K4)))
  clear hb4 K4 x0 y0
  generalize (w3.alloc (.cells #[.bool false,.slice pq lq cq] 122)).alloc (.cells #[.bool false,.slice pr 0 cr] 122)=w4 at *
  refine (CC.out.1 _ H4.out.1).mono ?_
  rintro e w5 ⟨rfl,hb5⟩
  have K5:=H4.out.2.2.2.next hb5
  have k0:=K5.c0
  have k1:=K5.c1
  have H5:=Ha (Hb (H4.out.2.1.next hb5) (H4.out.2.2.1.trans (hb5.mono H4.out.2.2.1.size)))
  clear hb5 K5 H4
  go_wp2_with fail
  clear k0 k1
  refine (CC.out.2 _ H5.out.1).mono ?_
  rintro e w6 ⟨rfl,hb6⟩
  have H6:=Ha (H5.out.2.trans (hb6.mono H5.out.2.size))
  clear hb6 H5 CC
  go_wp2
  go_ret3
  exact ⟨rfl,H6.out⟩
 ·have g1:0<lq:=of_decide_eq_true hlqz
  have g2:0<lr:=of_decide_eq_true hlrz
  have x4:=((H3.out.2.2.2.2.1.old (.cells #[.bool false,.slice pq lq cq] 122)).old (.cells #[.bool false,.slice pr lr cr] 122)).c0
  have y4:=((H3.out.2.2.2.2.2.old (.cells #[.bool false,.slice pq lq cq] 122)).old (.cells #[.bool false,.slice pr lr cr] 122)).c0
  obtain ⟨E1,E2⟩:=F1 (.inl rfl)
  have cres:=fun W (h:IsNat W (.slice pq lq cq) (qq))=>aT false (.slice pq lq cq) (qq) W h (by have:=HBQ.out _ rfl;omega)
  have cwr:=fun W (h:IsNat W (.slice pr lr cr) (rr))=>aZ false (.slice pr lr cr) (rr) W h (by have:=HBR.out _ rfl;omega)
  rw [show am false (qq)=_ from E1,HQ.out.1,HQ.out.2] at cres
  rw [show am false (rr)=_ from E2] at cwr
  have CC:=Ha (Hb cres cwr)
  clear cres cwr E1 E2 F1 F2 hlqz hlrz hrz2 HQ HL HLL
  go_wp2_with fail
  have hb4:Below w3.heap.size w3 ((w3.alloc (.cells #[.bool false,.slice pq lq cq] 122)).alloc (.cells #[.bool false,.slice pr lr cr] 122)):=((Below.refl _ _).alloc (Nat.le_refl _) _).alloc (by simp) _
  have K4:=C2.new (w3.alloc (.cells #[.bool false,.slice pq lq cq] 122)) (.bool false) (.slice pr lr cr) 122
  rw [World.size_alloc] at K4
  have H4:=Ha (Hb (H3.out.1.next hb4) (Hb (H3.out.2.1.next hb4) (Hb (H3.out.2.2.2.1.trans (hb4.mono H3.out.2.2.2.1.size)) K4)))
  clear hb4 K4 x0 y0 x4 y4
  generalize (w3.alloc (.cells #[.bool false,.slice pq lq cq] 122)).alloc (.cells #[.bool false,.slice pr lr cr] 122)=w4 at *
  refine (CC.out.1 _ H4.out.1).mono ?_
  rintro e w5 ⟨rfl,hb5⟩
  have K5:=H4.out.2.2.2.next hb5
  have k0:=K5.c0
  have k1:=K5.c1
  have H5:=Ha (Hb (H4.out.2.1.next hb5) (H4.out.2.2.1.trans (hb5.mono H4.out.2.2.1.size)))
  clear hb5 K5 H4
  go_wp2_with fail
  clear k0 k1
  refine (CC.out.2 _ H5.out.1).mono ?_
  rintro e w6 ⟨rfl,hb6⟩
  have H6:=Ha (H5.out.2.trans (hb6.mono H5.out.2.size))
  clear hb6 H5 CC
  go_wp2
  go_ret3
  exact ⟨rfl,H6.out⟩
 ·obtain rfl:lq=0:=by have:=of_decide_eq_false hlqz;omega
  obtain rfl:lr=0:=by have:=of_decide_eq_false hlrz;omega
  obtain ⟨E1,E2⟩:=F1 (.inr (hrz2.2 rfl))
  have cres:=fun W (h:IsNat W (.slice pq 0 cq) (qq))=>aT false (.slice pq 0 cq) (qq) W h (by have:=HBQ.out _ rfl;omega)
  have cwr:=fun W (h:IsNat W (.slice pr 0 cr) (rr))=>aZ false (.slice pr 0 cr) (rr) W h (by have:=HBR.out _ rfl;omega)
  rw [show am false (qq)=_ from E1,HQ.out.1,HQ.out.2] at cres
  rw [show am false (rr)=_ from E2] at cwr
  have CC:=Ha (Hb cres cwr)
  clear cres cwr E1 E2 F1 F2 hlqz hlrz hrz2 HQ HL HLL
  go_wp2_with fail
  have hb4:Below w3.heap.size w3 ((w3.alloc (.cells #[.bool false,.slice pq 0 cq] 122)).alloc (.cells #[.bool false,.slice pr 0 cr] 122)):=((Below.refl _ _).alloc (Nat.le_refl _) _).alloc (by simp) _
  have K4:=C2.new (w3.alloc (.cells #[.bool false,.slice pq 0 cq] 122)) (.bool false) (.slice pr 0 cr) 122
  rw [World.size_alloc] at K4
  have H4:=Ha (Hb (H3.out.1.next hb4) (Hb (H3.out.2.1.next hb4) (Hb (H3.out.2.2.2.1.trans (hb4.mono H3.out.2.2.2.1.size)) K4)))
  clear hb4 K4 x0 y0
  generalize (w3.alloc (.cells #[.bool false,.slice pq 0 cq] 122)).alloc (.cells #[.bool false,.slice pr 0 cr] 122)=w4 at *
  refine (CC.out.1 _ H4.out.1).mono ?_
  rintro e w5 ⟨rfl,hb5⟩
  have K5:=H4.out.2.2.2.next hb5
  have k0:=K5.c0
  have k1:=K5.c1
  have H5:=Ha (Hb (H4.out.2.1.next hb5) (H4.out.2.2.1.trans (hb5.mono H4.out.2.2.1.size)))
  clear hb5 K5 H4
  go_wp2_with fail
  clear k0 k1
  refine (CC.out.2 _ H5.out.1).mono ?_
  rintro e w6 ⟨rfl,hb6⟩
  have H6:=Ha (H5.out.2.trans (hb6.mono H5.out.2.size))
  clear hb6 H5 CC
  go_wp2
  go_ret3
  exact ⟨rfl,H6.out⟩
 ·obtain rfl:lq=0:=by have:=of_decide_eq_false hlqz;omega
  have g2:0<lr:=of_decide_eq_true hlrz
  have x4:=((H3.out.2.2.2.2.1.old (.cells #[.bool false,.slice pq 0 cq] 122)).old (.cells #[.bool false,.slice pr lr cr] 122)).c0
  have y4:=((H3.out.2.2.2.2.2.old (.cells #[.bool false,.slice pq 0 cq] 122)).old (.cells #[.bool false,.slice pr lr cr] 122)).c0
  obtain ⟨E1,E2⟩:=F2 ⟨by decide,fun h=>by have:=hrz2.1 h;cases this⟩
  have F:=Ha (Hb (show am false (qq)+am true 1=_ from E1) (show am false (rr)+am true y=_ from E2))
  clear E1 E2 F1 F2 hlqz hlrz hrz2
  go_wp2_with fail
  have hb4:Below w3.heap.size w3 ((w3.alloc (.cells #[.bool false,.slice pq 0 cq] 122)).alloc (.cells #[.bool false,.slice pr lr cr] 122)):=((Below.refl _ _).alloc (Nat.le_refl _) _).alloc (by simp) _
  have K3:=(C2.new w3 (.bool false) (.slice pq 0 cq) 122).old (.cells #[.bool false,.slice pr lr cr] 122)
  have K4:=C2.new (w3.alloc (.cells #[.bool false,.slice pq 0 cq] 122)) (.bool false) (.slice pr lr cr) 122
  rw [World.size_alloc] at K4
  have hba:Below ((w3.alloc (.cells #[.bool false,.slice pq 0 cq] 122)).alloc (.cells #[.bool false,.slice pr lr cr] 122)).heap.size ((w3.alloc (.cells #[.bool false,.slice pq 0 cq] 122)).alloc (.cells #[.bool false,.slice pr lr cr] 122)) (((w3.alloc (.cells #[.bool false,.slice pq 0 cq] 122)).alloc (.cells #[.bool false,.slice pr lr cr] 122)).alloc (.cells #[.int .i64 1] 3)):=(Below.refl _ _).alloc (Nat.le_refl _) _
  have hb4a:=hb4.trans (hba.mono (by simp <;> omega))
  have hs4:w3.heap.size+2≤(((w3.alloc (.cells #[.bool false,.slice pq 0 cq] 122)).alloc (.cells #[.bool false,.slice pr lr cr] 122)).alloc (.cells #[.int .i64 1] 3)).heap.size:=by simp <;> omega
  have H4:=Ha (Hb hb4a (Hb (K3.next hba) (Hb (K4.next hba) (Hb (ji ((w3.alloc (.cells #[.bool false,.slice pq 0 cq] 122)).alloc (.cells #[.bool false,.slice pr lr cr] 122))) (Hb (H3.out.2.2.2.2.2.next hb4a) hs4)))))
  have hon:((w3.alloc (.cells #[.bool false,.slice pq 0 cq] 122)).alloc (.cells #[.bool false,.slice pr lr cr] 122)).heap.size=w3.heap.size+2:=by simp
  rw [hon] at H4
  clear hb4 K3 K4 hba hb4a x0 y0 hon hs4 x4 y4
  generalize ((w3.alloc (.cells #[.bool false,.slice pq 0 cq] 122)).alloc (.cells #[.bool false,.slice pr lr cr] 122)).alloc (.cells #[.int .i64 1] 3)=w4 at *
  refine (f9 false true (.slice pq 0 cq) _ (qq) 1 _ (H3.out.1.next H4.out.1) H4.out.2.2.2.1 (by have:=HBQ.out _ rfl;omega) (by rw [gl (by decide) (by decide)];simp)).mono ?_
  rw [F.out.1]
  rintro e w5 ⟨ng,nq,v5,rfl,hv5,⟨hz5,hl5⟩,hf5,hb5⟩
  obtain ⟨p5,c5,rfl⟩:=hv5.shape
  have K3:=H4.out.2.1.next hb5
  have k30:=K3.c0
  have k31:=K3.c1
  have k3f:=K3.f0
  have k3g:=K3.f1
  have K4:=H4.out.2.2.1.next hb5
  have hwo:w3.heap.size≤w4.heap.size:=H4.out.1.size
  have hb35:=H4.out.1.trans (hb5.mono hwo)
  have D2:=H4.out.2.2.2.2.1.next hb5
  have hne:o1+1<w3.heap.size:=H3.out.2.2.2.2.2.lt
  have hf5':=hf5.mono (show w3.heap.size+2≤w4.heap.size from H4.out.2.2.2.2.2)
  have H5:=Ha (Hb ((hv5.setCell hf5' (a:=⟨w3.heap.size,0,none⟩) (by show w3.heap.size<w3.heap.size+2;omega) (.bool ng)).setCell hf5' (a:=⟨w3.heap.size,1,none⟩) (by show w3.heap.size<w3.heap.size+2;omega) (.slice p5 (dg nq).length c5)) (Hb (K3.put (.bool ng) (.slice p5 (dg nq).length c5)) (Hb (K4.other (k:=w3.heap.size) (by omega) (.bool ng) (.slice p5 (dg nq).length c5)) (Hb (D2.other (k:=w3.heap.size) (by omega) (.bool ng) (.slice p5 (dg nq).length c5)) (Hb (Below.put2 hb35 (Nat.le_refl _) (.bool ng) (.slice p5 (dg nq).length c5)) (Hb hz5 (Hb hl5 hf5')))))))
  clear hf5' hv5 hz5 hl5 hf5 hb5 K3 K4 D2 hb35 H4 hwo
  have HLN:=Ha (fun n (h:n=nq)=>show (dg n).length≤10000 from h ▸ Nat.le_trans (aC H5.out.2.2.2.2.2.2.1) (Nat.le_trans (mp (qq)) (by have:=HBQ.out _ rfl;omega)))
  generalize hlnq:(dg nq).length=lnq at *
  clear hlnq
  have q0:=H5.out.2.2.1.c0
  have q1:=H5.out.2.2.1.c1
  have y0:=H5.out.2.2.2.1.c0
  have y1:=H5.out.2.2.2.1.c1
  go_wp2_with fail
  clear k30 k31 k3f k3g q0 q1 y0 y1
  generalize (w5.setCell ⟨w3.heap.size,0,none⟩ (.bool ng)).setCell ⟨w3.heap.size,1,none⟩ (.slice p5 lnq c5)=w6 at *
  have hb6:=H5.out.2.2.2.2.1
  refine (f9 false true (.slice pr lr cr) _ rr y w6 (H3.out.2.1.next hb6) (H3.out.2.2.1.next hb6) (by have:=HBR.out _ rfl;omega) (by have:=HBY.out _ rfl;omega)).mono ?_
  rw [F.out.2]
  rintro e w7 ⟨ng7,nr,v7,rfl,hv7,⟨hz7,hl7⟩,hf7,hb7⟩
  obtain ⟨p7,c7,rfl⟩:=hv7.shape
  have K4:=H5.out.2.2.1.next hb7
  have k40:=K4.c0
  have k41:=K4.c1
  have k4f:=K4.f0
  have k4g:=K4.f1
  have K3:=H5.out.2.1.next hb7
  have hb37:=hb6.trans (hb7.mono hb6.size)
  have hwf:w3.heap.size+2≤w6.heap.size:=H5.out.2.2.1.lt
  have hf7':=hf7.mono hwf
  have HLR:=Ha (fun n (h:n=nr)=>show (dg n).length≤10000 from h ▸ Nat.le_trans (aC hl7) (Nat.le_trans (iJ rr y) (by have:=HBR.out _ rfl;have:=HBY.out _ rfl;omega)))
  generalize hlnr:(dg nr).length=lnr at *
  clear hlnr
  have K3o:=K3.other (k:=w3.heap.size+1) (by omega) (.bool ng7) (.slice p7 lnr c7)
  have k30:=K3o.c0
  have k31:=K3o.c1
  have H7:=Ha (Hb ((hv7.setCell hf7' (a:=⟨w3.heap.size+1,0,none⟩) (by show w3.heap.size+1<w3.heap.size+2;omega) (.bool ng7)).setCell hf7' (a:=⟨w3.heap.size+1,1,none⟩) (by show w3.heap.size+1<w3.heap.size+2;omega) (.slice p7 lnr c7))
   (Hb (K4.put (.bool ng7) (.slice p7 lnr c7)) (Hb (Below.put2 hb37 (show w3.heap.size≤w3.heap.size+1 by omega) (.bool ng7) (.slice p7 lnr c7)) (Hb hz7
    (((H5.out.1.next hb7).setCell H5.out.2.2.2.2.2.2.2 (a:=⟨w3.heap.size+1,0,none⟩) (by show w3.heap.size+1<w3.heap.size+2;omega) (.bool ng7)).setCell H5.out.2.2.2.2.2.2.2 (a:=⟨w3.heap.size+1,1,none⟩) (by show w3.heap.size+1<w3.heap.size+2;omega) (.slice p7 lnr c7))))))
  have HZ5:=Ha H5.out.2.2.2.2.2.1
  clear hv7 hz7 hl7 hf7 hf7' hb7 hb6 hb37 K3 K4 K3o H5
  go_wp2_with fail
  clear k30 k31 k40 k41 k4f k4g
  generalize (w7.setCell ⟨w3.heap.size+1,0,none⟩ (.bool ng7)).setCell ⟨w3.heap.size+1,1,none⟩ (.slice p7 lnr c7)=w8 at *
  refine (aT ng _ nq w8 H7.out.2.2.2.2 (HLN.out _ rfl)).mono ?_
  rw [HZ5.out,HQ.out.1,HQ.out.2]
  rintro e w9 ⟨rfl,hb9⟩
  have K5:=H7.out.2.1.next hb9
  have k0:=K5.c0
  have k1:=K5.c1
  have hb39:=H7.out.2.2.1.trans (hb9.mono H7.out.2.2.1.size)
  have H9:=Ha (Hb (H7.out.1.next hb9) (H3.out.2.2.2.1.trans (hb39.mono H3.out.2.2.2.1.size)))
  have HZ7:=Ha H7.out.2.2.2.1
  clear hb9 hb39 K5 H7
  go_wp2_with fail
  clear k0 k1
  refine (aZ ng7 _ nr w9 H9.out.1 (HLR.out _ rfl)).mono ?_
  rw [HZ7.out]
  rintro e w10 ⟨rfl,hb10⟩
  have H10:=Ha (H9.out.2.trans (hb10.mono H9.out.2.size))
  clear hb10 H9
  go_wp2
  go_ret3
  exact ⟨rfl,H10.out⟩
 ·have g1:0<lq:=of_decide_eq_true hlqz
  obtain rfl:lr=0:=by have:=of_decide_eq_false hlrz;omega
  obtain ⟨E1,E2⟩:=F1 (.inr (hrz2.2 rfl))
  have cres:=fun W (h:IsNat W (.slice pq lq cq) (qq))=>aT true (.slice pq lq cq) (qq) W h (by have:=HBQ.out _ rfl;omega)
  have cwr:=fun W (h:IsNat W (.slice pr 0 cr) (rr))=>aZ false (.slice pr 0 cr) (rr) W h (by have:=HBR.out _ rfl;omega)
  rw [show am true (qq)=_ from E1,HQ.out.1,HQ.out.2] at cres
  rw [show am false (rr)=_ from E2] at cwr
  have CC:=Ha (Hb cres cwr)
  clear cres cwr E1 E2 F1 F2 hlqz hlrz hrz2 HQ HL HLL
  go_wp2_with fail
  have hb4:Below w3.heap.size w3 ((w3.alloc (.cells #[.bool true,.slice pq lq cq] 122)).alloc (.cells #[.bool false,.slice pr 0 cr] 122)):=((Below.refl _ _).alloc (Nat.le_refl _) _).alloc (by simp) _
  have K4:=C2.new (w3.alloc (.cells #[.bool true,.slice pq lq cq] 122)) (.bool false) (.slice pr 0 cr) 122
  rw [World.size_alloc] at K4
  have H4:=Ha (Hb (H3.out.1.next hb4) (Hb (H3.out.2.1.next hb4) (Hb (H3.out.2.2.2.1.trans (hb4.mono H3.out.2.2.2.1.size)) K4)))
  clear hb4 K4 x0 y0
  generalize (w3.alloc (.cells #[.bool true,.slice pq lq cq] 122)).alloc (.cells #[.bool false,.slice pr 0 cr] 122)=w4 at *
  refine (CC.out.1 _ H4.out.1).mono ?_
  rintro e w5 ⟨rfl,hb5⟩
  have K5:=H4.out.2.2.2.next hb5
  have k0:=K5.c0
  have k1:=K5.c1
  have H5:=Ha (Hb (H4.out.2.1.next hb5) (H4.out.2.2.1.trans (hb5.mono H4.out.2.2.1.size)))
  clear hb5 K5 H4
  go_wp2_with fail
  clear k0 k1
  refine (CC.out.2 _ H5.out.1).mono ?_
  rintro e w6 ⟨rfl,hb6⟩
  have H6:=Ha (H5.out.2.trans (hb6.mono H5.out.2.size))
  clear hb6 H5 CC
  go_wp2
  go_ret3
  exact ⟨rfl,H6.out⟩
 ·have g1:0<lq:=of_decide_eq_true hlqz
  have g2:0<lr:=of_decide_eq_true hlrz
  have x4:=((H3.out.2.2.2.2.1.old (.cells #[.bool true,.slice pq lq cq] 122)).old (.cells #[.bool false,.slice pr lr cr] 122)).c0
  have y4:=((H3.out.2.2.2.2.2.old (.cells #[.bool true,.slice pq lq cq] 122)).old (.cells #[.bool false,.slice pr lr cr] 122)).c0
  obtain ⟨E1,E2⟩:=F2 ⟨by decide,fun h=>by have:=hrz2.1 h;cases this⟩
  have F:=Ha (Hb (show am true (qq)+am true 1=_ from E1) (show am false (rr)+am true y=_ from E2))
  clear E1 E2 F1 F2 hlqz hlrz hrz2
  go_wp2_with fail
  have hb4:Below w3.heap.size w3 ((w3.alloc (.cells #[.bool true,.slice pq lq cq] 122)).alloc (.cells #[.bool false,.slice pr lr cr] 122)):=((Below.refl _ _).alloc (Nat.le_refl _) _).alloc (by simp) _
  have K3:=(C2.new w3 (.bool true) (.slice pq lq cq) 122).old (.cells #[.bool false,.slice pr lr cr] 122)
  have K4:=C2.new (w3.alloc (.cells #[.bool true,.slice pq lq cq] 122)) (.bool false) (.slice pr lr cr) 122
  rw [World.size_alloc] at K4
  have hba:Below ((w3.alloc (.cells #[.bool true,.slice pq lq cq] 122)).alloc (.cells #[.bool false,.slice pr lr cr] 122)).heap.size ((w3.alloc (.cells #[.bool true,.slice pq lq cq] 122)).alloc (.cells #[.bool false,.slice pr lr cr] 122)) (((w3.alloc (.cells #[.bool true,.slice pq lq cq] 122)).alloc (.cells #[.bool false,.slice pr lr cr] 122)).alloc (.cells #[.int .i64 1] 3)):=(Below.refl _ _).alloc (Nat.le_refl _) _
  have hb4a:=hb4.trans (hba.mono (by simp <;> omega))
  have hs4:w3.heap.size+2≤(((w3.alloc (.cells #[.bool true,.slice pq lq cq] 122)).alloc (.cells #[.bool false,.slice pr lr cr] 122)).alloc (.cells #[.int .i64 1] 3)).heap.size:=by simp <;> omega
  have H4:=Ha (Hb hb4a (Hb (K3.next hba) (Hb (K4.next hba) (Hb (ji ((w3.alloc (.cells #[.bool true,.slice pq lq cq] 122)).alloc (.cells #[.bool false,.slice pr lr cr] 122))) (Hb (H3.out.2.2.2.2.2.next hb4a) hs4)))))
  have hon:((w3.alloc (.cells #[.bool true,.slice pq lq cq] 122)).alloc (.cells #[.bool false,.slice pr lr cr] 122)).heap.size=w3.heap.size+2:=by simp
  rw [hon] at H4
  clear hb4 K3 K4 hba hb4a x0 y0 hon hs4 x4 y4
  generalize ((w3.alloc (.cells #[.bool true,.slice pq lq cq] 122)).alloc (.cells #[.bool false,.slice pr lr cr] 122)).alloc (.cells #[.int .i64 1] 3)=w4 at *
  refine (f9 true true (.slice pq lq cq) _ (qq) 1 _ (H3.out.1.next H4.out.1) H4.out.2.2.2.1 (by have:=HBQ.out _ rfl;omega) (by rw [gl (by decide) (by decide)];simp)).mono ?_
  rw [F.out.1]
  rintro e w5 ⟨ng,nq,v5,rfl,hv5,⟨hz5,hl5⟩,hf5,hb5⟩
  obtain ⟨p5,c5,rfl⟩:=hv5.shape
  have K3:=H4.out.2.1.next hb5
  have k30:=K3.c0
  have k31:=K3.c1
  have k3f:=K3.f0
  have k3g:=K3.f1
  have K4:=H4.out.2.2.1.next hb5
  have hwo:w3.heap.size≤w4.heap.size:=H4.out.1.size
  have hb35:=H4.out.1.trans (hb5.mono hwo)
  have D2:=H4.out.2.2.2.2.1.next hb5
  have hne:o1+1<w3.heap.size:=H3.out.2.2.2.2.2.lt
  have hf5':=hf5.mono (show w3.heap.size+2≤w4.heap.size from H4.out.2.2.2.2.2)
  have H5:=Ha (Hb ((hv5.setCell hf5' (a:=⟨w3.heap.size,0,none⟩) (by show w3.heap.size<w3.heap.size+2;omega) (.bool ng)).setCell hf5' (a:=⟨w3.heap.size,1,none⟩) (by show w3.heap.size<w3.heap.size+2;omega) (.slice p5 (dg nq).length c5)) (Hb (K3.put (.bool ng) (.slice p5 (dg nq).length c5)) (Hb (K4.other (k:=w3.heap.size) (by omega) (.bool ng) (.slice p5 (dg nq).length c5)) (Hb (D2.other (k:=w3.heap.size) (by omega) (.bool ng) (.slice p5 (dg nq).length c5)) (Hb (Below.put2 hb35 (Nat.le_refl _) (.bool ng) (.slice p5 (dg nq).length c5)) (Hb hz5 (Hb hl5 hf5')))))))
  clear hf5' hv5 hz5 hl5 hf5 hb5 K3 K4 D2 hb35 H4 hwo
  have HLN:=Ha (fun n (h:n=nq)=>show (dg n).length≤10000 from h ▸ Nat.le_trans (aC H5.out.2.2.2.2.2.2.1) (Nat.le_trans (mp (qq)) (by have:=HBQ.out _ rfl;omega)))
  generalize hlnq:(dg nq).length=lnq at *
  clear hlnq
  have q0:=H5.out.2.2.1.c0
  have q1:=H5.out.2.2.1.c1
  have y0:=H5.out.2.2.2.1.c0
  have y1:=H5.out.2.2.2.1.c1
  go_wp2_with fail
  clear k30 k31 k3f k3g q0 q1 y0 y1
  generalize (w5.setCell ⟨w3.heap.size,0,none⟩ (.bool ng)).setCell ⟨w3.heap.size,1,none⟩ (.slice p5 lnq c5)=w6 at *
  have hb6:=H5.out.2.2.2.2.1
  refine (f9 false true (.slice pr lr cr) _ rr y w6 (H3.out.2.1.next hb6) (H3.out.2.2.1.next hb6) (by have:=HBR.out _ rfl;omega) (by have:=HBY.out _ rfl;omega)).mono ?_
  rw [F.out.2]
  rintro e w7 ⟨ng7,nr,v7,rfl,hv7,⟨hz7,hl7⟩,hf7,hb7⟩
  obtain ⟨p7,c7,rfl⟩:=hv7.shape
  have K4:=H5.out.2.2.1.next hb7
  have k40:=K4.c0
  have k41:=K4.c1
  have k4f:=K4.f0
  have k4g:=K4.f1
  have K3:=H5.out.2.1.next hb7
  have hb37:=hb6.trans (hb7.mono hb6.size)
  have hwf:w3.heap.size+2≤w6.heap.size:=H5.out.2.2.1.lt
  have hf7':=hf7.mono hwf
  have HLR:=Ha (fun n (h:n=nr)=>show (dg n).length≤10000 from h ▸ Nat.le_trans (aC hl7) (Nat.le_trans (iJ rr y) (by have:=HBR.out _ rfl;have:=HBY.out _ rfl;omega)))
  generalize hlnr:(dg nr).length=lnr at *
  clear hlnr
  have K3o:=K3.other (k:=w3.heap.size+1) (by omega) (.bool ng7) (.slice p7 lnr c7)
  have k30:=K3o.c0
  have k31:=K3o.c1
  have H7:=Ha (Hb ((hv7.setCell hf7' (a:=⟨w3.heap.size+1,0,none⟩) (by show w3.heap.size+1<w3.heap.size+2;omega) (.bool ng7)).setCell hf7' (a:=⟨w3.heap.size+1,1,none⟩) (by show w3.heap.size+1<w3.heap.size+2;omega) (.slice p7 lnr c7))
   (Hb (K4.put (.bool ng7) (.slice p7 lnr c7)) (Hb (Below.put2 hb37 (show w3.heap.size≤w3.heap.size+1 by omega) (.bool ng7) (.slice p7 lnr c7)) (Hb hz7
    (((H5.out.1.next hb7).setCell H5.out.2.2.2.2.2.2.2 (a:=⟨w3.heap.size+1,0,none⟩) (by show w3.heap.size+1<w3.heap.size+2;omega) (.bool ng7)).setCell H5.out.2.2.2.2.2.2.2 (a:=⟨w3.heap.size+1,1,none⟩) (by show w3.heap.size+1<w3.heap.size+2;omega) (.slice p7 lnr c7))))))
  have HZ5:=Ha H5.out.2.2.2.2.2.1
  clear hv7 hz7 hl7 hf7 hf7' hb7 hb6 hb37 K3 K4 K3o H5
  go_wp2_with fail
  clear k30 k31 k40 k41 k4f k4g
  generalize (w7.setCell ⟨w3.heap.size+1,0,none⟩ (.bool ng7)).setCell ⟨w3.heap.size+1,1,none⟩ (.slice p7 lnr c7)=w8 at *
  refine (aT ng _ nq w8 H7.out.2.2.2.2 (HLN.out _ rfl)).mono ?_
  rw [HZ5.out,HQ.out.1,HQ.out.2]
  rintro e w9 ⟨rfl,hb9⟩
  have K5:=H7.out.2.1.next hb9
  have k0:=K5.c0
  have k1:=K5.c1
  have hb39:=H7.out.2.2.1.trans (hb9.mono H7.out.2.2.1.size)
  have H9:=Ha (Hb (H7.out.1.next hb9) (H3.out.2.2.2.1.trans (hb39.mono H3.out.2.2.2.1.size)))
  have HZ7:=Ha H7.out.2.2.2.1
  clear hb9 hb39 K5 H7
  go_wp2_with fail
  clear k0 k1
  refine (aZ ng7 _ nr w9 H9.out.1 (HLR.out _ rfl)).mono ?_
  rw [HZ7.out]
  rintro e w10 ⟨rfl,hb10⟩
  have H10:=Ha (H9.out.2.trans (hb10.mono H9.out.2.size))
  clear hb10 H9
  go_wp2
  go_ret3
  exact ⟨rfl,H10.out⟩
 ·obtain rfl:lq=0:=by have:=of_decide_eq_false hlqz;omega
  obtain rfl:lr=0:=by have:=of_decide_eq_false hlrz;omega
  obtain ⟨E1,E2⟩:=F1 (.inr (hrz2.2 rfl))
  have cres:=fun W (h:IsNat W (.slice pq 0 cq) (qq))=>aT false (.slice pq 0 cq) (qq) W h (by have:=HBQ.out _ rfl;omega)
  have cwr:=fun W (h:IsNat W (.slice pr 0 cr) (rr))=>aZ false (.slice pr 0 cr) (rr) W h (by have:=HBR.out _ rfl;omega)
  rw [show am false (qq)=_ from E1,HQ.out.1,HQ.out.2] at cres
  rw [show am false (rr)=_ from E2] at cwr
  have CC:=Ha (Hb cres cwr)
  clear cres cwr E1 E2 F1 F2 hlqz hlrz hrz2 HQ HL HLL
  go_wp2_with fail
  have hb4:Below w3.heap.size w3 ((w3.alloc (.cells #[.bool false,.slice pq 0 cq] 122)).alloc (.cells #[.bool false,.slice pr 0 cr] 122)):=((Below.refl _ _).alloc (Nat.le_refl _) _).alloc (by simp) _
  have K4:=C2.new (w3.alloc (.cells #[.bool false,.slice pq 0 cq] 122)) (.bool false) (.slice pr 0 cr) 122
  rw [World.size_alloc] at K4
  have H4:=Ha (Hb (H3.out.1.next hb4) (Hb (H3.out.2.1.next hb4) (Hb (H3.out.2.2.2.1.trans (hb4.mono H3.out.2.2.2.1.size)) K4)))
  clear hb4 K4 x0 y0
  generalize (w3.alloc (.cells #[.bool false,.slice pq 0 cq] 122)).alloc (.cells #[.bool false,.slice pr 0 cr] 122)=w4 at *
  refine (CC.out.1 _ H4.out.1).mono ?_
  rintro e w5 ⟨rfl,hb5⟩
  have K5:=H4.out.2.2.2.next hb5
  have k0:=K5.c0
  have k1:=K5.c1
  have H5:=Ha (Hb (H4.out.2.1.next hb5) (H4.out.2.2.1.trans (hb5.mono H4.out.2.2.1.size)))
  clear hb5 K5 H4
  go_wp2_with fail
  clear k0 k1
  refine (CC.out.2 _ H5.out.1).mono ?_
  rintro e w6 ⟨rfl,hb6⟩
  have H6:=Ha (H5.out.2.trans (hb6.mono H5.out.2.size))
  clear hb6 H5 CC
  go_wp2
  go_ret3
  exact ⟨rfl,H6.out⟩
 ·obtain rfl:lq=0:=by have:=of_decide_eq_false hlqz;omega
  have g2:0<lr:=of_decide_eq_true hlrz
  have x4:=((H3.out.2.2.2.2.1.old (.cells #[.bool false,.slice pq 0 cq] 122)).old (.cells #[.bool true,.slice pr lr cr] 122)).c0
  have y4:=((H3.out.2.2.2.2.2.old (.cells #[.bool false,.slice pq 0 cq] 122)).old (.cells #[.bool true,.slice pr lr cr] 122)).c0
  obtain ⟨E1,E2⟩:=F2 ⟨by decide,fun h=>by have:=hrz2.1 h;cases this⟩
  have F:=Ha (Hb (show am false (qq)+am true 1=_ from E1) (show am true (rr)+am false y=_ from E2))
  clear E1 E2 F1 F2 hlqz hlrz hrz2
  go_wp2_with fail
  have hb4:Below w3.heap.size w3 ((w3.alloc (.cells #[.bool false,.slice pq 0 cq] 122)).alloc (.cells #[.bool true,.slice pr lr cr] 122)):=((Below.refl _ _).alloc (Nat.le_refl _) _).alloc (by simp) _
  have K3:=(C2.new w3 (.bool false) (.slice pq 0 cq) 122).old (.cells #[.bool true,.slice pr lr cr] 122)
  have K4:=C2.new (w3.alloc (.cells #[.bool false,.slice pq 0 cq] 122)) (.bool true) (.slice pr lr cr) 122
  rw [World.size_alloc] at K4
  have hba:Below ((w3.alloc (.cells #[.bool false,.slice pq 0 cq] 122)).alloc (.cells #[.bool true,.slice pr lr cr] 122)).heap.size ((w3.alloc (.cells #[.bool false,.slice pq 0 cq] 122)).alloc (.cells #[.bool true,.slice pr lr cr] 122)) (((w3.alloc (.cells #[.bool false,.slice pq 0 cq] 122)).alloc (.cells #[.bool true,.slice pr lr cr] 122)).alloc (.cells #[.int .i64 1] 3)):=(Below.refl _ _).alloc (Nat.le_refl _) _
  have hb4a:=hb4.trans (hba.mono (by simp <;> omega))
  have hs4:w3.heap.size+2≤(((w3.alloc (.cells #[.bool false,.slice pq 0 cq] 122)).alloc (.cells #[.bool true,.slice pr lr cr] 122)).alloc (.cells #[.int .i64 1] 3)).heap.size:=by simp <;> omega
  have H4:=Ha (Hb hb4a (Hb (K3.next hba) (Hb (K4.next hba) (Hb (ji ((w3.alloc (.cells #[.bool false,.slice pq 0 cq] 122)).alloc (.cells #[.bool true,.slice pr lr cr] 122))) (Hb (H3.out.2.2.2.2.2.next hb4a) hs4)))))
  have hon:((w3.alloc (.cells #[.bool false,.slice pq 0 cq] 122)).alloc (.cells #[.bool true,.slice pr lr cr] 122)).heap.size=w3.heap.size+2:=by simp
  rw [hon] at H4
  clear hb4 K3 K4 hba hb4a x0 y0 hon hs4 x4 y4
  generalize ((w3.alloc (.cells #[.bool false,.slice pq 0 cq] 122)).alloc (.cells #[.bool true,.slice pr lr cr] 122)).alloc (.cells #[.int .i64 1] 3)=w4 at *
  refine (f9 false true (.slice pq 0 cq) _ (qq) 1 _ (H3.out.1.next H4.out.1) H4.out.2.2.2.1 (by have:=HBQ.out _ rfl;omega) (by rw [gl (by decide) (by decide)];simp)).mono ?_
  rw [F.out.1]
  rintro e w5 ⟨ng,nq,v5,rfl,hv5,⟨hz5,hl5⟩,hf5,hb5⟩
  obtain ⟨p5,c5,rfl⟩:=hv5.shape
  have K3:=H4.out.2.1.next hb5
  have k30:=K3.c0
  have k31:=K3.c1
  have k3f:=K3.f0
  have k3g:=K3.f1
  have K4:=H4.out.2.2.1.next hb5
  have hwo:w3.heap.size≤w4.heap.size:=H4.out.1.size
  have hb35:=H4.out.1.trans (hb5.mono hwo)
  have D2:=H4.out.2.2.2.2.1.next hb5
  have hne:o1+1<w3.heap.size:=H3.out.2.2.2.2.2.lt
  have hf5':=hf5.mono (show w3.heap.size+2≤w4.heap.size from H4.out.2.2.2.2.2)
  have H5:=Ha (Hb ((hv5.setCell hf5' (a:=⟨w3.heap.size,0,none⟩) (by show w3.heap.size<w3.heap.size+2;omega) (.bool ng)).setCell hf5' (a:=⟨w3.heap.size,1,none⟩) (by show w3.heap.size<w3.heap.size+2;omega) (.slice p5 (dg nq).length c5)) (Hb (K3.put (.bool ng) (.slice p5 (dg nq).length c5)) (Hb (K4.other (k:=w3.heap.size) (by omega) (.bool ng) (.slice p5 (dg nq).length c5)) (Hb (D2.other (k:=w3.heap.size) (by omega) (.bool ng) (.slice p5 (dg nq).length c5)) (Hb (Below.put2 hb35 (Nat.le_refl _) (.bool ng) (.slice p5 (dg nq).length c5)) (Hb hz5 (Hb hl5 hf5')))))))
  clear hf5' hv5 hz5 hl5 hf5 hb5 K3 K4 D2 hb35 H4 hwo
  have HLN:=Ha (fun n (h:n=nq)=>show (dg n).length≤10000 from h ▸ Nat.le_trans (aC H5.out.2.2.2.2.2.2.1) (Nat.le_trans (mp (qq)) (by have:=HBQ.out _ rfl;omega)))
  generalize hlnq:(dg nq).length=lnq at *
  clear hlnq
  have q0:=H5.out.2.2.1.c0
  have q1:=H5.out.2.2.1.c1
  have y0:=H5.out.2.2.2.1.c0
  have y1:=H5.out.2.2.2.1.c1
  go_wp2_with fail
  clear k30 k31 k3f k3g q0 q1 y0 y1
  generalize (w5.setCell ⟨w3.heap.size,0,none⟩ (.bool ng)).setCell ⟨w3.heap.size,1,none⟩ (.slice p5 lnq c5)=w6 at *
  have hb6:=H5.out.2.2.2.2.1
  refine (f9 true false (.slice pr lr cr) _ rr y w6 (H3.out.2.1.next hb6) (H3.out.2.2.1.next hb6) (by have:=HBR.out _ rfl;omega) (by have:=HBY.out _ rfl;omega)).mono ?_
  rw [F.out.2]
  rintro e w7 ⟨ng7,nr,v7,rfl,hv7,⟨hz7,hl7⟩,hf7,hb7⟩
  obtain ⟨p7,c7,rfl⟩:=hv7.shape
  have K4:=H5.out.2.2.1.next hb7
  have k40:=K4.c0
  have k41:=K4.c1
  have k4f:=K4.f0
  have k4g:=K4.f1
  have K3:=H5.out.2.1.next hb7
  have hb37:=hb6.trans (hb7.mono hb6.size)
  have hwf:w3.heap.size+2≤w6.heap.size:=H5.out.2.2.1.lt
  have hf7':=hf7.mono hwf
  have HLR:=Ha (fun n (h:n=nr)=>show (dg n).length≤10000 from h ▸ Nat.le_trans (aC hl7) (Nat.le_trans (iJ rr y) (by have:=HBR.out _ rfl;have:=HBY.out _ rfl;omega)))
  generalize hlnr:(dg nr).length=lnr at *
  clear hlnr
  have K3o:=K3.other (k:=w3.heap.size+1) (by omega) (.bool ng7) (.slice p7 lnr c7)
  have k30:=K3o.c0
  have k31:=K3o.c1
  have H7:=Ha (Hb ((hv7.setCell hf7' (a:=⟨w3.heap.size+1,0,none⟩) (by show w3.heap.size+1<w3.heap.size+2;omega) (.bool ng7)).setCell hf7' (a:=⟨w3.heap.size+1,1,none⟩) (by show w3.heap.size+1<w3.heap.size+2;omega) (.slice p7 lnr c7))
   (Hb (K4.put (.bool ng7) (.slice p7 lnr c7)) (Hb (Below.put2 hb37 (show w3.heap.size≤w3.heap.size+1 by omega) (.bool ng7) (.slice p7 lnr c7)) (Hb hz7
    (((H5.out.1.next hb7).setCell H5.out.2.2.2.2.2.2.2 (a:=⟨w3.heap.size+1,0,none⟩) (by show w3.heap.size+1<w3.heap.size+2;omega) (.bool ng7)).setCell H5.out.2.2.2.2.2.2.2 (a:=⟨w3.heap.size+1,1,none⟩) (by show w3.heap.size+1<w3.heap.size+2;omega) (.slice p7 lnr c7))))))
  have HZ5:=Ha H5.out.2.2.2.2.2.1
  clear hv7 hz7 hl7 hf7 hf7' hb7 hb6 hb37 K3 K4 K3o H5
  go_wp2_with fail
  clear k30 k31 k40 k41 k4f k4g
  generalize (w7.setCell ⟨w3.heap.size+1,0,none⟩ (.bool ng7)).setCell ⟨w3.heap.size+1,1,none⟩ (.slice p7 lnr c7)=w8 at *
  refine (aT ng _ nq w8 H7.out.2.2.2.2 (HLN.out _ rfl)).mono ?_
  rw [HZ5.out,HQ.out.1,HQ.out.2]
  rintro e w9 ⟨rfl,hb9⟩
  have K5:=H7.out.2.1.next hb9
  have k0:=K5.c0
  have k1:=K5.c1
  have hb39:=H7.out.2.2.1.trans (hb9.mono H7.out.2.2.1.size)
  have H9:=Ha (Hb (H7.out.1.next hb9) (H3.out.2.2.2.1.trans (hb39.mono H3.out.2.2.2.1.size)))
  have HZ7:=Ha H7.out.2.2.2.1
  clear hb9 hb39 K5 H7
  go_wp2_with fail
  clear k0 k1
  refine (aZ ng7 _ nr w9 H9.out.1 (HLR.out _ rfl)).mono ?_
  rw [HZ7.out]
  rintro e w10 ⟨rfl,hb10⟩
  have H10:=Ha (H9.out.2.trans (hb10.mono H9.out.2.size))
  clear hb10 H9
  go_wp2
  go_ret3
  exact ⟨rfl,H10.out⟩
 ·have g1:0<lq:=of_decide_eq_true hlqz
  obtain rfl:lr=0:=by have:=of_decide_eq_false hlrz;omega
  obtain ⟨E1,E2⟩:=F1 (.inr (hrz2.2 rfl))
  have cres:=fun W (h:IsNat W (.slice pq lq cq) (qq))=>aT true (.slice pq lq cq) (qq) W h (by have:=HBQ.out _ rfl;omega)
  have cwr:=fun W (h:IsNat W (.slice pr 0 cr) (rr))=>aZ false (.slice pr 0 cr) (rr) W h (by have:=HBR.out _ rfl;omega)
  rw [show am true (qq)=_ from E1,HQ.out.1,HQ.out.2] at cres
  rw [show am false (rr)=_ from E2] at cwr
  have CC:=Ha (Hb cres cwr)
  clear cres cwr E1 E2 F1 F2 hlqz hlrz hrz2 HQ HL HLL
  go_wp2_with fail
  have hb4:Below w3.heap.size w3 ((w3.alloc (.cells #[.bool true,.slice pq lq cq] 122)).alloc (.cells #[.bool false,.slice pr 0 cr] 122)):=((Below.refl _ _).alloc (Nat.le_refl _) _).alloc (by simp) _
  have K4:=C2.new (w3.alloc (.cells #[.bool true,.slice pq lq cq] 122)) (.bool false) (.slice pr 0 cr) 122
  rw [World.size_alloc] at K4
  have H4:=Ha (Hb (H3.out.1.next hb4) (Hb (H3.out.2.1.next hb4) (Hb (H3.out.2.2.2.1.trans (hb4.mono H3.out.2.2.2.1.size)) K4)))
  clear hb4 K4 x0 y0
  generalize (w3.alloc (.cells #[.bool true,.slice pq lq cq] 122)).alloc (.cells #[.bool false,.slice pr 0 cr] 122)=w4 at *
  refine (CC.out.1 _ H4.out.1).mono ?_
  rintro e w5 ⟨rfl,hb5⟩
  have K5:=H4.out.2.2.2.next hb5
  have k0:=K5.c0
  have k1:=K5.c1
  have H5:=Ha (Hb (H4.out.2.1.next hb5) (H4.out.2.2.1.trans (hb5.mono H4.out.2.2.1.size)))
  clear hb5 K5 H4
  go_wp2_with fail
  clear k0 k1
  refine (CC.out.2 _ H5.out.1).mono ?_
  rintro e w6 ⟨rfl,hb6⟩
  have H6:=Ha (H5.out.2.trans (hb6.mono H5.out.2.size))
  clear hb6 H5 CC
  go_wp2
  go_ret3
  exact ⟨rfl,H6.out⟩
 ·have g1:0<lq:=of_decide_eq_true hlqz
  have g2:0<lr:=of_decide_eq_true hlrz
  have x4:=((H3.out.2.2.2.2.1.old (.cells #[.bool true,.slice pq lq cq] 122)).old (.cells #[.bool true,.slice pr lr cr] 122)).c0
  have y4:=((H3.out.2.2.2.2.2.old (.cells #[.bool true,.slice pq lq cq] 122)).old (.cells #[.bool true,.slice pr lr cr] 122)).c0
  obtain ⟨E1,E2⟩:=F2 ⟨by decide,fun h=>by have:=hrz2.1 h;cases this⟩
  have F:=Ha (Hb (show am true (qq)+am true 1=_ from E1) (show am true (rr)+am false y=_ from E2))
  clear E1 E2 F1 F2 hlqz hlrz hrz2
  go_wp2_with fail
  have hb4:Below w3.heap.size w3 ((w3.alloc (.cells #[.bool true,.slice pq lq cq] 122)).alloc (.cells #[.bool true,.slice pr lr cr] 122)):=((Below.refl _ _).alloc (Nat.le_refl _) _).alloc (by simp) _
  have K3:=(C2.new w3 (.bool true) (.slice pq lq cq) 122).old (.cells #[.bool true,.slice pr lr cr] 122)
  have K4:=C2.new (w3.alloc (.cells #[.bool true,.slice pq lq cq] 122)) (.bool true) (.slice pr lr cr) 122
  rw [World.size_alloc] at K4
  have hba:Below ((w3.alloc (.cells #[.bool true,.slice pq lq cq] 122)).alloc (.cells #[.bool true,.slice pr lr cr] 122)).heap.size ((w3.alloc (.cells #[.bool true,.slice pq lq cq] 122)).alloc (.cells #[.bool true,.slice pr lr cr] 122)) (((w3.alloc (.cells #[.bool true,.slice pq lq cq] 122)).alloc (.cells #[.bool true,.slice pr lr cr] 122)).alloc (.cells #[.int .i64 1] 3)):=(Below.refl _ _).alloc (Nat.le_refl _) _
  have hb4a:=hb4.trans (hba.mono (by simp <;> omega))
  have hs4:w3.heap.size+2≤(((w3.alloc (.cells #[.bool true,.slice pq lq cq] 122)).alloc (.cells #[.bool true,.slice pr lr cr] 122)).alloc (.cells #[.int .i64 1] 3)).heap.size:=by simp <;> omega
  have H4:=Ha (Hb hb4a (Hb (K3.next hba) (Hb (K4.next hba) (Hb (ji ((w3.alloc (.cells #[.bool true,.slice pq lq cq] 122)).alloc (.cells #[.bool true,.slice pr lr cr] 122))) (Hb (H3.out.2.2.2.2.2.next hb4a) hs4)))))
  have hon:((w3.alloc (.cells #[.bool true,.slice pq lq cq] 122)).alloc (.cells #[.bool true,.slice pr lr cr] 122)).heap.size=w3.heap.size+2:=by simp
  rw [hon] at H4
  clear hb4 K3 K4 hba hb4a x0 y0 hon hs4 x4 y4
  generalize ((w3.alloc (.cells #[.bool true,.slice pq lq cq] 122)).alloc (.cells #[.bool true,.slice pr lr cr] 122)).alloc (.cells #[.int .i64 1] 3)=w4 at *
  refine (f9 true true (.slice pq lq cq) _ (qq) 1 _ (H3.out.1.next H4.out.1) H4.out.2.2.2.1 (by have:=HBQ.out _ rfl;omega) (by rw [gl (by decide) (by decide)];simp)).mono ?_
  rw [F.out.1]
  rintro e w5 ⟨ng,nq,v5,rfl,hv5,⟨hz5,hl5⟩,hf5,hb5⟩
  obtain ⟨p5,c5,rfl⟩:=hv5.shape
  have K3:=H4.out.2.1.next hb5
  have k30:=K3.c0
  have k31:=K3.c1
  have k3f:=K3.f0
  have k3g:=K3.f1
  have K4:=H4.out.2.2.1.next hb5
  have hwo:w3.heap.size≤w4.heap.size:=H4.out.1.size
  have hb35:=H4.out.1.trans (hb5.mono hwo)
  have D2:=H4.out.2.2.2.2.1.next hb5
  have hne:o1+1<w3.heap.size:=H3.out.2.2.2.2.2.lt
  have hf5':=hf5.mono (show w3.heap.size+2≤w4.heap.size from H4.out.2.2.2.2.2)
  have H5:=Ha (Hb ((hv5.setCell hf5' (a:=⟨w3.heap.size,0,none⟩) (by show w3.heap.size<w3.heap.size+2;omega) (.bool ng)).setCell hf5' (a:=⟨w3.heap.size,1,none⟩) (by show w3.heap.size<w3.heap.size+2;omega) (.slice p5 (dg nq).length c5)) (Hb (K3.put (.bool ng) (.slice p5 (dg nq).length c5)) (Hb (K4.other (k:=w3.heap.size) (by omega) (.bool ng) (.slice p5 (dg nq).length c5)) (Hb (D2.other (k:=w3.heap.size) (by omega) (.bool ng) (.slice p5 (dg nq).length c5)) (Hb (Below.put2 hb35 (Nat.le_refl _) (.bool ng) (.slice p5 (dg nq).length c5)) (Hb hz5 (Hb hl5 hf5')))))))
  clear hf5' hv5 hz5 hl5 hf5 hb5 K3 K4 D2 hb35 H4 hwo
  have HLN:=Ha (fun n (h:n=nq)=>show (dg n).length≤10000 from h ▸ Nat.le_trans (aC H5.out.2.2.2.2.2.2.1) (Nat.le_trans (mp (qq)) (by have:=HBQ.out _ rfl;omega)))
  generalize hlnq:(dg nq).length=lnq at *
  clear hlnq
  have q0:=H5.out.2.2.1.c0
  have q1:=H5.out.2.2.1.c1
  have y0:=H5.out.2.2.2.1.c0
  have y1:=H5.out.2.2.2.1.c1
  go_wp2_with fail
  clear k30 k31 k3f k3g q0 q1 y0 y1
  generalize (w5.setCell ⟨w3.heap.size,0,none⟩ (.bool ng)).setCell ⟨w3.heap.size,1,none⟩ (.slice p5 lnq c5)=w6 at *
  have hb6:=H5.out.2.2.2.2.1
  refine (f9 true false (.slice pr lr cr) _ rr y w6 (H3.out.2.1.next hb6) (H3.out.2.2.1.next hb6) (by have:=HBR.out _ rfl;omega) (by have:=HBY.out _ rfl;omega)).mono ?_
  rw [F.out.2]
  rintro e w7 ⟨ng7,nr,v7,rfl,hv7,⟨hz7,hl7⟩,hf7,hb7⟩
  obtain ⟨p7,c7,rfl⟩:=hv7.shape
  have K4:=H5.out.2.2.1.next hb7
  have k40:=K4.c0
  have k41:=K4.c1
  have k4f:=K4.f0
  have k4g:=K4.f1
  have K3:=H5.out.2.1.next hb7
  have hb37:=hb6.trans (hb7.mono hb6.size)
  have hwf:w3.heap.size+2≤w6.heap.size:=H5.out.2.2.1.lt
  have hf7':=hf7.mono hwf
  have HLR:=Ha (fun n (h:n=nr)=>show (dg n).length≤10000 from h ▸ Nat.le_trans (aC hl7) (Nat.le_trans (iJ rr y) (by have:=HBR.out _ rfl;have:=HBY.out _ rfl;omega)))
  generalize hlnr:(dg nr).length=lnr at *
  clear hlnr
  have K3o:=K3.other (k:=w3.heap.size+1) (by omega) (.bool ng7) (.slice p7 lnr c7)
  have k30:=K3o.c0
  have k31:=K3o.c1
  have H7:=Ha (Hb ((hv7.setCell hf7' (a:=⟨w3.heap.size+1,0,none⟩) (by show w3.heap.size+1<w3.heap.size+2;omega) (.bool ng7)).setCell hf7' (a:=⟨w3.heap.size+1,1,none⟩) (by show w3.heap.size+1<w3.heap.size+2;omega) (.slice p7 lnr c7))
   (Hb (K4.put (.bool ng7) (.slice p7 lnr c7)) (Hb (Below.put2 hb37 (show w3.heap.size≤w3.heap.size+1 by omega) (.bool ng7) (.slice p7 lnr c7)) (Hb hz7
    (((H5.out.1.next hb7).setCell H5.out.2.2.2.2.2.2.2 (a:=⟨w3.heap.size+1,0,none⟩) (by show w3.heap.size+1<w3.heap.size+2;omega) (.bool ng7)).setCell H5.out.2.2.2.2.2.2.2 (a:=⟨w3.heap.size+1,1,none⟩) (by show w3.heap.size+1<w3.heap.size+2;omega) (.slice p7 lnr c7))))))
  have HZ5:=Ha H5.out.2.2.2.2.2.1
  clear hv7 hz7 hl7 hf7 hf7' hb7 hb6 hb37 K3 K4 K3o H5
  go_wp2_with fail
  clear k30 k31 k40 k41 k4f k4g
  generalize (w7.setCell ⟨w3.heap.size+1,0,none⟩ (.bool ng7)).setCell ⟨w3.heap.size+1,1,none⟩ (.slice p7 lnr c7)=w8 at *
  refine (aT ng _ nq w8 H7.out.2.2.2.2 (HLN.out _ rfl)).mono ?_
  rw [HZ5.out,HQ.out.1,HQ.out.2]
  rintro e w9 ⟨rfl,hb9⟩
  have K5:=H7.out.2.1.next hb9
  have k0:=K5.c0
  have k1:=K5.c1
  have hb39:=H7.out.2.2.1.trans (hb9.mono H7.out.2.2.1.size)
  have H9:=Ha (Hb (H7.out.1.next hb9) (H3.out.2.2.2.1.trans (hb39.mono H3.out.2.2.2.1.size)))
  have HZ7:=Ha H7.out.2.2.2.1
  clear hb9 hb39 K5 H7
  go_wp2_with fail
  clear k0 k1
  refine (aZ ng7 _ nr w9 H9.out.1 (HLR.out _ rfl)).mono ?_
  rw [HZ7.out]
  rintro e w10 ⟨rfl,hb10⟩
  have H10:=Ha (H9.out.2.trans (hb10.mono H9.out.2.size))
  clear hb10 H9
  go_wp2
  go_ret3
  exact ⟨rfl,H10.out⟩
 ·obtain rfl:lq=0:=by have:=of_decide_eq_false hlqz;omega
  obtain rfl:lr=0:=by have:=of_decide_eq_false hlrz;omega
  obtain ⟨E1,E2⟩:=F1 (.inl rfl)
  have cres:=fun W (h:IsNat W (.slice pq 0 cq) (qq))=>aT false (.slice pq 0 cq) (qq) W h (by have:=HBQ.out _ rfl;omega)
  have cwr:=fun W (h:IsNat W (.slice pr 0 cr) (rr))=>aZ false (.slice pr 0 cr) (rr) W h (by have:=HBR.out _ rfl;omega)
  rw [show am false (qq)=_ from E1,HQ.out.1,HQ.out.2] at cres
  rw [show am false (rr)=_ from E2] at cwr
  have CC:=Ha (Hb cres cwr)
  clear cres cwr E1 E2 F1 F2 hlqz hlrz hrz2 HQ HL HLL
  go_wp2_with fail
  have hb4:Below w3.heap.size w3 ((w3.alloc (.cells #[.bool false,.slice pq 0 cq] 122)).alloc (.cells #[.bool false,.slice pr 0 cr] 122)):=((Below.refl _ _).alloc (Nat.le_refl _) _).alloc (by simp) _
  have K4:=C2.new (w3.alloc (.cells #[.bool false,.slice pq 0 cq] 122)) (.bool false) (.slice pr 0 cr) 122
  rw [World.size_alloc] at K4
  have H4:=Ha (Hb (H3.out.1.next hb4) (Hb (H3.out.2.1.next hb4) (Hb (H3.out.2.2.2.1.trans (hb4.mono H3.out.2.2.2.1.size)) K4)))
  clear hb4 K4 x0 y0
  generalize (w3.alloc (.cells #[.bool false,.slice pq 0 cq] 122)).alloc (.cells #[.bool false,.slice pr 0 cr] 122)=w4 at *
  refine (CC.out.1 _ H4.out.1).mono ?_
  rintro e w5 ⟨rfl,hb5⟩
  have K5:=H4.out.2.2.2.next hb5
  have k0:=K5.c0
  have k1:=K5.c1
  have H5:=Ha (Hb (H4.out.2.1.next hb5) (H4.out.2.2.1.trans (hb5.mono H4.out.2.2.1.size)))
  clear hb5 K5 H4
  go_wp2_with fail
  clear k0 k1
  refine (CC.out.2 _ H5.out.1).mono ?_
  rintro e w6 ⟨rfl,hb6⟩
  have H6:=Ha (H5.out.2.trans (hb6.mono H5.out.2.size))
  clear hb6 H5 CC
  go_wp2
  go_ret3
  exact ⟨rfl,H6.out⟩
 ·obtain rfl:lq=0:=by have:=of_decide_eq_false hlqz;omega
  have g2:0<lr:=of_decide_eq_true hlrz
  have x4:=((H3.out.2.2.2.2.1.old (.cells #[.bool false,.slice pq 0 cq] 122)).old (.cells #[.bool true,.slice pr lr cr] 122)).c0
  have y4:=((H3.out.2.2.2.2.2.old (.cells #[.bool false,.slice pq 0 cq] 122)).old (.cells #[.bool true,.slice pr lr cr] 122)).c0
  obtain ⟨E1,E2⟩:=F1 (.inl rfl)
  have cres:=fun W (h:IsNat W (.slice pq 0 cq) (qq))=>aT false (.slice pq 0 cq) (qq) W h (by have:=HBQ.out _ rfl;omega)
  have cwr:=fun W (h:IsNat W (.slice pr lr cr) (rr))=>aZ true (.slice pr lr cr) (rr) W h (by have:=HBR.out _ rfl;omega)
  rw [show am false (qq)=_ from E1,HQ.out.1,HQ.out.2] at cres
  rw [show am true (rr)=_ from E2] at cwr
  have CC:=Ha (Hb cres cwr)
  clear cres cwr E1 E2 F1 F2 hlqz hlrz hrz2 HQ HL HLL
  go_wp2_with fail
  have hb4:Below w3.heap.size w3 ((w3.alloc (.cells #[.bool false,.slice pq 0 cq] 122)).alloc (.cells #[.bool true,.slice pr lr cr] 122)):=((Below.refl _ _).alloc (Nat.le_refl _) _).alloc (by simp) _
  have K4:=C2.new (w3.alloc (.cells #[.bool false,.slice pq 0 cq] 122)) (.bool true) (.slice pr lr cr) 122
  rw [World.size_alloc] at K4
  have H4:=Ha (Hb (H3.out.1.next hb4) (Hb (H3.out.2.1.next hb4) (Hb (H3.out.2.2.2.1.trans (hb4.mono H3.out.2.2.2.1.size)) K4)))
  clear hb4 K4 x0 y0 x4 y4
  generalize (w3.alloc (.cells #[.bool false,.slice pq 0 cq] 122)).alloc (.cells #[.bool true,.slice pr lr cr] 122)=w4 at *
  refine (CC.out.1 _ H4.out.1).mono ?_
  rintro e w5 ⟨rfl,hb5⟩
  have K5:=H4.out.2.2.2.next hb5
  have k0:=K5.c0
  have k1:=K5.c1
  have H5:=Ha (Hb (H4.out.2.1.next hb5) (H4.out.2.2.1.trans (hb5.mono H4.out.2.2.1.size)))
  clear hb5 K5 H4
  go_wp2_with fail
  clear k0 k1
  refine (CC.out.2 _ H5.out.1).mono ?_
  rintro e w6 ⟨rfl,hb6⟩
  have H6:=Ha (H5.out.2.trans (hb6.mono H5.out.2.size))
  clear hb6 H5 CC
  go_wp2
  go_ret3
  exact ⟨rfl,H6.out⟩
 ·have g1:0<lq:=of_decide_eq_true hlqz
  obtain rfl:lr=0:=by have:=of_decide_eq_false hlrz;omega
  obtain ⟨E1,E2⟩:=F1 (.inl rfl)
  have cres:=fun W (h:IsNat W (.slice pq lq cq) (qq))=>aT false (.slice pq lq cq) (qq) W h (by have:=HBQ.out _ rfl;omega)
  have cwr:=fun W (h:IsNat W (.slice pr 0 cr) (rr))=>aZ false (.slice pr 0 cr) (rr) W h (by have:=HBR.out _ rfl;omega)
  rw [show am false (qq)=_ from E1,HQ.out.1,HQ.out.2] at cres
  rw [show am false (rr)=_ from E2] at cwr
  have CC:=Ha (Hb cres cwr)
  clear cres cwr E1 E2 F1 F2 hlqz hlrz hrz2 HQ HL HLL
  go_wp2_with fail
  have hb4:Below w3.heap.size w3 ((w3.alloc (.cells #[.bool false,.slice pq lq cq] 122)).alloc (.cells #[.bool false,.slice pr 0 cr] 122)):=((Below.refl _ _).alloc (Nat.le_refl _) _).alloc (by simp) _
  have K4:=C2.new (w3.alloc (.cells #[.bool false,.slice pq lq cq] 122)) (.bool false) (.slice pr 0 cr) 122
  rw [World.size_alloc] at K4
  have H4:=Ha (Hb (H3.out.1.next hb4) (Hb (H3.out.2.1.next hb4) (Hb (H3.out.2.2.2.1.trans (hb4.mono H3.out.2.2.2.1.size)) K4)))
  clear hb4 K4 x0 y0
  generalize (w3.alloc (.cells #[.bool false,.slice pq lq cq] 122)).alloc (.cells #[.bool false,.slice pr 0 cr] 122)=w4 at *
  refine (CC.out.1 _ H4.out.1).mono ?_
  rintro e w5 ⟨rfl,hb5⟩
  have K5:=H4.out.2.2.2.next hb5
  have k0:=K5.c0
  have k1:=K5.c1
  have H5:=Ha (Hb (H4.out.2.1.next hb5) (H4.out.2.2.1.trans (hb5.mono H4.out.2.2.1.size)))
  clear hb5 K5 H4
  go_wp2_with fail
  clear k0 k1
  refine (CC.out.2 _ H5.out.1).mono ?_
  rintro e w6 ⟨rfl,hb6⟩
  have H6:=Ha (H5.out.2.trans (hb6.mono H5.out.2.size))
  clear hb6 H5 CC
  go_wp2
  go_ret3
  exact ⟨rfl,H6.out⟩
 ·have g1:0<lq:=of_decide_eq_true hlqz
  have g2:0<lr:=of_decide_eq_true hlrz
  have x4:=((H3.out.2.2.2.2.1.old (.cells #[.bool false,.slice pq lq cq] 122)).old (.cells #[.bool true,.slice pr lr cr] 122)).c0
  have y4:=((H3.out.2.2.2.2.2.old (.cells #[.bool false,.slice pq lq cq] 122)).old (.cells #[.bool true,.slice pr lr cr] 122)).c0
  obtain ⟨E1,E2⟩:=F1 (.inl rfl)
  have cres:=fun W (h:IsNat W (.slice pq lq cq) (qq))=>aT false (.slice pq lq cq) (qq) W h (by have:=HBQ.out _ rfl;omega)
  have cwr:=fun W (h:IsNat W (.slice pr lr cr) (rr))=>aZ true (.slice pr lr cr) (rr) W h (by have:=HBR.out _ rfl;omega)
  rw [show am false (qq)=_ from E1,HQ.out.1,HQ.out.2] at cres
  rw [show am true (rr)=_ from E2] at cwr
  have CC:=Ha (Hb cres cwr)
  clear cres cwr E1 E2 F1 F2 hlqz hlrz hrz2 HQ HL HLL
  go_wp2_with fail
  have hb4:Below w3.heap.size w3 ((w3.alloc (.cells #[.bool false,.slice pq lq cq] 122)).alloc (.cells #[.bool true,.slice pr lr cr] 122)):=((Below.refl _ _).alloc (Nat.le_refl _) _).alloc (by simp) _
  have K4:=C2.new (w3.alloc (.cells #[.bool false,.slice pq lq cq] 122)) (.bool true) (.slice pr lr cr) 122
  rw [World.size_alloc] at K4
  have H4:=Ha (Hb (H3.out.1.next hb4) (Hb (H3.out.2.1.next hb4) (Hb (H3.out.2.2.2.1.trans (hb4.mono H3.out.2.2.2.1.size)) K4)))
  clear hb4 K4 x0 y0 x4 y4
  generalize (w3.alloc (.cells #[.bool false,.slice pq lq cq] 122)).alloc (.cells #[.bool true,.slice pr lr cr] 122)=w4 at *
  refine (CC.out.1 _ H4.out.1).mono ?_
  rintro e w5 ⟨rfl,hb5⟩
  have K5:=H4.out.2.2.2.next hb5
  have k0:=K5.c0
  have k1:=K5.c1
  have H5:=Ha (Hb (H4.out.2.1.next hb5) (H4.out.2.2.1.trans (hb5.mono H4.out.2.2.1.size)))
  clear hb5 K5 H4
  go_wp2_with fail
  clear k0 k1
  refine (CC.out.2 _ H5.out.1).mono ?_
  rintro e w6 ⟨rfl,hb6⟩
  have H6:=Ha (H5.out.2.trans (hb6.mono H5.out.2.size))
  clear hb6 H5 CC
  go_wp2
  go_ret3
  exact ⟨rfl,H6.out⟩
end Go.Proofs.YtjdomibbaemdnaaGreatDoor.R
