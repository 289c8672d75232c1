/- Parts of the proof of the text YtjdomibbaemdnaaGreatDoorZK42. -/
import Derived.Test.YtjdomibbaemdnaaGreatDoorZK1
import Derived.Test.YtjdomibbaemdnaaGreatDoorZK14
set_option linter.all false
set_option maxRecDepth 100000
set_option maxHeartbeats 8000000
namespace Go.Proofs.YtjdomibbaemdnaaGreatDoor
open Go.RowKit
structure LS (P Q p q x0 x1 x2 y0 y1 y2:Nat) (s:Int):Prop where
 hs:s=1∨s = -1
 hP:P=y2*p+y1*q
 hQ:Q=x2*p+x1*q
 det:(x1:Int)*y2 - (x2:Int)*y1 = -s
 hp:1≤p
 hy2:1≤y2
 hy:y1≤y2
 hx:(x1=1∧y1=0∧x2=0∧y2=1)∨(x1≤y1∧x2≤y2)
 prev:y0=0∨∃ p' q',P=y1*p'+y0*q'∧Q=x1*p'+x0*q'∧(x0:Int)*y1 - (x1:Int)*y0=s∧y1≤q'∧q'+(y0+y1)≤p'∧x0≤y0∧x1≤y1∧y0≤y1
 p18:P<1000000000000000000
 q18:Q<1000000000000000000
 x0b:x0<1000000000000000000
 y0b:y0<1000000000000000000
theorem LS.bds {P Q p q x0 x1 x2 y0 y1 y2:Nat} {s:Int} (h:LS P Q p q x0 x1 x2 y0 y1 y2 s):p<1000000000000000000∧y2<1000000000000000000∧y1<1000000000000000000∧x2<1000000000000000000∧x1<1000000000000000000:=by
 have h1:1*p≤y2*p:=Nat.mul_le_mul_right _ h.hy2
 have h2:y2*1≤y2*p:=Nat.mul_le_mul_left _ h.hp
 have hP:=h.hP
 have hy:=h.hy
 have h18:=h.p18
 have hx:=h.hx
 refine ⟨by omega,by omega,by omega,?_,?_⟩
 ·rcases hx with hx | hx <;> omega
 ·rcases hx with hx | hx <;> omega
theorem LS.start {P Q:Nat} (hP:1≤P) (p18:P<1000000000000000000) (q18:Q<1000000000000000000):LS P Q P Q 0 1 0 0 0 1 (-1) :=
 ⟨.inr rfl,by omega,by omega,by decide,hP,by decide,by decide,.inl ⟨rfl,rfl,rfl,rfl⟩,.inl rfl,p18,q18,by decide,by decide⟩
theorem LS.step {P Q p q x0 x1 x2 y0 y1 y2:Nat} {s:Int} (h:LS P Q p q x0 x1 x2 y0 y1 y2 s) (hq:y2≤q) (hpq:q+(y1+y2)≤p) :
  LS P Q q (p % q) x1 x2 (x1+p / q*x2) y1 y2 (y1+p / q*y2) (-s)∧p / q*x2<1000000000000000000∧p / q*y2<1000000000000000000∧p / q<1000000000000000000∧x1+p / q*x2<1000000000000000000∧y1+p / q*y2<1000000000000000000:=by
 have hy2:=h.hy2
 have hq0:0<q:=by omega
 obtain ⟨e1,e2,e3⟩:=qw h.hP h.hQ h.det hq0
 have ht:1≤p / q:=by rw [Nat.le_div_iff_mul_le hq0];omega
 obtain ⟨bp,by2,by1,bx2,bx1⟩:=h.bds
 have hdl:=Nat.div_le_self p q
 have hs:=h.hs
 have hy:=h.hy
 have hx:=h.hx
 have h1:1*y2≤p / q*y2:=Nat.mul_le_mul_right _ ht
 have hnew:LS P Q q (p % q) x1 x2 (x1+p / q*x2) y1 y2 (y1+p / q*y2) (-s):=by
  refine ⟨by omega,e1,e2,by rw [Int.neg_neg];exact e3,hq0,by omega,by omega,?_,?_,h.p18,h.q18,bx1,by1⟩
  ·rcases hx with ⟨a1,a2,a3,a4⟩ | ⟨a1,a2⟩
   ·subst a1 a2 a3 a4
    refine .inr ⟨by omega,?_⟩
    rw [Nat.mul_zero];omega
   ·have h2:p / q*x2≤p / q*y2:=Nat.mul_le_mul_left _ a2
    exact .inr ⟨a2,by omega⟩
  ·rcases hx with ⟨a1,a2,a3,a4⟩ | ⟨a1,a2⟩
   ·exact .inl a2
   ·exact .inr ⟨p,q,h.hP,h.hQ,h.det,hq,hpq,a1,a2,hy⟩
 obtain ⟨_,b1,_,b2,_⟩:=hnew.bds
 refine ⟨hnew,by omega,by omega,by omega,b2,b1⟩
theorem LS.fin {P Q p q x0 x1 x2 y0 y1 y2:Nat} {s:Int} (h:LS P Q p q x0 x1 x2 y0 y1 y2 s) {a b sc D al bl:Nat} (ha:a*sc=P*D+al) (hb:b*sc=Q*D+bl) (hal:al<D) (hbl:bl<D) :
  -s*(y0:Int)=0∨Good a b (s*x0) (-s*y0) (-s*x1) (s*y1):=by
 rcases h.prev with h0 | ⟨p',q',h1,h2,h3,h4,h5,h6,h7,h8⟩
 ·left;rw [h0];simp
 ·by_cases h0:y0=0
  ·left;rw [h0];simp
  ·right
   exact r9 ha hb hal hbl h1 h2 h.hs h3 h4 h5 h6 h7 h8 (by omega) h.p18
theorem LS.fin1 {P Q p q x0 x1 x2 y0 y1 y2:Nat} (h:LS P Q p q x0 x1 x2 y0 y1 y2 1) {a b sc D al bl:Nat} (ha:a*sc=P*D+al) (hb:b*sc=Q*D+bl) (hal:al<D) (hbl:bl<D) :
  -(y0:Int)=0∨Good a b x0 (-(y0:Int)) (-(x1:Int)) y1:=by
 have:=h.fin ha hb hal hbl
 simp only [Int.neg_mul,Int.one_mul] at this
 exact this
theorem LS.fin2 {P Q p q x0 x1 x2 y0 y1 y2:Nat} (h:LS P Q p q x0 x1 x2 y0 y1 y2 (-1)) {a b sc D al bl:Nat} (ha:a*sc=P*D+al) (hb:b*sc=Q*D+bl) (hal:al<D) (hbl:bl<D) :
  (y0:Int)=0∨Good a b (-(x0:Int)) y0 x1 (-(y1:Int)):=by
 have:=h.fin ha hb hal hbl
 simp only [Int.neg_mul,Int.one_mul,Int.neg_neg] at this
 exact this
theorem mK {i:Nat} (h:i≤9):10 ^ i∣1000000000:=by
 have:(1000000000:Nat)=10 ^ 9:=rfl
 rw [this];exact Nat.pow_dvd_pow 10 h
theorem zP {t sc:Nat} (h:sc∣1000000000) (h1:t*sc<1000000000):(t+1)*sc≤1000000000:=by
 obtain ⟨m,hm⟩:=h
 have h2:t<m:=by
  apply Decidable.byContradiction
  intro hc
  have:m*sc≤t*sc:=Nat.mul_le_mul_right _ (by omega)
  rw [Nat.mul_comm m sc] at this
  omega
 have h3:(t+1)*sc≤m*sc:=Nat.mul_le_mul_right _ h2
 rw [Nat.mul_comm m sc] at h3
 omega
theorem yd {i t:Nat} (ht:0<t) (hi:i≤9) (h:t*10 ^ i*10<1000000000):i+1≤9∧t*10 ^ (i+1)<1000000000∧10 ^ (i+1)=10 ^ i*10:=by
 refine ⟨?_,by rw [Nat.pow_succ,←Nat.mul_assoc];exact h,Nat.pow_succ _ _⟩
 rcases Nat.lt_or_ge i 9 with h1 | h1
 ·omega
 ·exfalso
  have:i=9:=by omega
  subst this
  have:1*10 ^ 9≤t*10 ^ 9:=Nat.mul_le_mul_right _ ht
  omega
structure CB (w:World) (K bb o:Nat) (t:Value) (wr:World):Prop where
 c0:∃ v,wr.cell? ⟨K,0,none⟩=some v
 c1:∃ v,wr.cell? ⟨K,1,none⟩=some v
 c2:∃ v,wr.cell? ⟨K,2,none⟩=some v
 c3:∃ v,wr.cell? ⟨K,3,none⟩=some v
 f:∀ i,wr.frozen? ⟨K,i,none⟩=false
 a:wr.cell? ⟨bb,o,none⟩=some t
 bel:Below K w wr
 k:K=w.heap.size
 lt:K<wr.heap.size
theorem CB.next {w:World} {K bb o:Nat} {t:Value} {wr W:World} (h:CB w K bb o t wr) (hb:Below wr.heap.size wr W):CB w K bb o t W:=by
 have hk:=h.lt
 have hc:∀ i,W.cell? ⟨K,i,none⟩=wr.cell? ⟨K,i,none⟩:=fun i=>hb.cell (p:=⟨K,i,none⟩) hk
 exact ⟨by rw [hc];exact h.c0,by rw [hc];exact h.c1,by rw [hc];exact h.c2,by rw [hc];exact h.c3,fun i=>(hb.frozen (p:=⟨K,i,none⟩) hk).trans (h.f i),
  (hb.cell (World.block_lt_of_cell? wr _ h.a)).trans h.a,h.bel.trans (hb.mono (Nat.le_of_lt hk)),h.k,Nat.lt_of_lt_of_le hk hb.size⟩
theorem CB.new {w:World} {bb o:Nat} {t:Value} (x0 x1 x2 x3:Value) (T:TypeId) (h:w.cell? ⟨bb,o,none⟩=some t):CB w w.heap.size bb o t (w.alloc (.cells #[x0,x1,x2,x3] T)):=by
 have hl:=World.block_lt_of_cell? w _ h
 refine ⟨⟨x0,by go_cell⟩,⟨x1,by go_cell⟩,⟨x2,by go_cell⟩,⟨x3,by go_cell⟩,fun i=>by simp [go_sem],?_,(Below.refl _ _).alloc (Nat.le_refl _) _,rfl,by simp⟩
 rw [World.cell?_of_block (Below.heap_alloc w _ bb hl)];exact h
theorem i7 {w:World} {b:Nat} {x0 x1 x2 x3:Value} (c0:w.cell? ⟨b,0,none⟩=some x0) (c1:w.cell? ⟨b,1,none⟩=some x1) (c2:w.cell? ⟨b,2,none⟩=some x2) (c3:w.cell? ⟨b,3,none⟩=some x3) (X Y Z U:Value) :
  ((((w.setCell ⟨b,0,none⟩ X).setCell ⟨b,1,none⟩ Y).setCell ⟨b,2,none⟩ Z).setCell ⟨b,3,none⟩ U).cell? ⟨b,0,none⟩=some X∧((((w.setCell ⟨b,0,none⟩ X).setCell ⟨b,1,none⟩ Y).setCell ⟨b,2,none⟩ Z).setCell ⟨b,3,none⟩ U).cell? ⟨b,1,none⟩=some Y ∧
  ((((w.setCell ⟨b,0,none⟩ X).setCell ⟨b,1,none⟩ Y).setCell ⟨b,2,none⟩ Z).setCell ⟨b,3,none⟩ U).cell? ⟨b,2,none⟩=some Z∧((((w.setCell ⟨b,0,none⟩ X).setCell ⟨b,1,none⟩ Y).setCell ⟨b,2,none⟩ Z).setCell ⟨b,3,none⟩ U).cell? ⟨b,3,none⟩=some U:=by
 have a0:(w.setCell ⟨b,0,none⟩ X).cell? ⟨b,0,none⟩=some X:=World.cell?_setCell_same' _ _ _ (by rw [c0];rfl)
 have a1:(w.setCell ⟨b,0,none⟩ X).cell? ⟨b,1,none⟩=some x1:=by go_cell
 have a2:(w.setCell ⟨b,0,none⟩ X).cell? ⟨b,2,none⟩=some x2:=by go_cell
 have a3:(w.setCell ⟨b,0,none⟩ X).cell? ⟨b,3,none⟩=some x3:=by go_cell
 generalize w.setCell ⟨b,0,none⟩ X=w1 at *
 have b1:(w1.setCell ⟨b,1,none⟩ Y).cell? ⟨b,1,none⟩=some Y:=World.cell?_setCell_same' _ _ _ (by rw [a1];rfl)
 have b0:(w1.setCell ⟨b,1,none⟩ Y).cell? ⟨b,0,none⟩=some X:=by go_cell
 have b2:(w1.setCell ⟨b,1,none⟩ Y).cell? ⟨b,2,none⟩=some x2:=by go_cell
 have b3:(w1.setCell ⟨b,1,none⟩ Y).cell? ⟨b,3,none⟩=some x3:=by go_cell
 generalize w1.setCell ⟨b,1,none⟩ Y=w2 at *
 have d2:(w2.setCell ⟨b,2,none⟩ Z).cell? ⟨b,2,none⟩=some Z:=World.cell?_setCell_same' _ _ _ (by rw [b2];rfl)
 have d0:(w2.setCell ⟨b,2,none⟩ Z).cell? ⟨b,0,none⟩=some X:=by go_cell
 have d1:(w2.setCell ⟨b,2,none⟩ Z).cell? ⟨b,1,none⟩=some Y:=by go_cell
 have d3:(w2.setCell ⟨b,2,none⟩ Z).cell? ⟨b,3,none⟩=some x3:=by go_cell
 generalize w2.setCell ⟨b,2,none⟩ Z=w3 at *
 exact ⟨by go_cell,by go_cell,by go_cell,World.cell?_setCell_same' _ _ _ (by rw [d3];rfl)⟩
theorem gA (va vb:Value) (a b k:Nat) (w:World) (ha:IsNat w va a) (hb:IsNat w vb b) (hl:(dg a).length=k+3) (hk:k≤1000) (hba:b≤a) :
  Calls Tryz.prog 241 #[va,vb] w fun e W'=>∃ x1 y1 x2 y2:Int,e = .returned (.agg #[.int .i64 x1,.int .i64 y1,.int .i64 x2,.int .i64 y2])∧(y1=0∨Good a b x1 y1 x2 y2)∧Below w.heap.size w W':=by
 have haB:a<B ^ (k+3):=by have:=cI (aq a);rwa [ar,hl] at this
 have htop:0<(dg a).getD (k+2) 0:=kQ hl
 have htl:=(aq a).getD (k+2)
 have hbtop:∀ sc,((dg a).getD (k+2) 0+1)*sc≤1000000000→((dg b).getD (k+2) 0+1)*sc≤1000000000:=fun sc h=>by
  refine Nat.le_trans (Nat.mul_le_mul_right _ (Nat.succ_le_succ ?_)) h
  rw [cY,cY,Nat.mod_eq_of_lt,Nat.mod_eq_of_lt]
  ·exact Nat.div_le_div_right hba
  ·rw [Nat.div_lt_iff_lt_mul (Nat.pow_pos bP)];have:B*B ^ (k+2)=B ^ (k+3):=by rw [Nat.pow_succ];exact Nat.mul_comm _ _
   omega
  ·rw [Nat.div_lt_iff_lt_mul (Nat.pow_pos bP)];have:B*B ^ (k+2)=B ^ (k+3):=by rw [Nat.pow_succ];exact Nat.mul_comm _ _
   omega
 have ca:=fun sc W (hW:Below w.heap.size w W) (h1:sc∣1000000000) (h2:0<sc) (h3:((dg a).getD (k+2) 0+1)*sc≤1000000000)=>lH va a k sc W (ha.next hW) haB hk h1 h2 h3
 have cb:=fun sc W (hW:Below w.heap.size w W) (h1:sc∣1000000000) (h2:0<sc) (h3:((dg a).getD (k+2) 0+1)*sc≤1000000000)=>lH vb b k sc W (hb.next hW) (by omega) hk h1 h2 (hbtop sc h3)
 have hP1:∀ P sc r:Nat,0<sc→r<B ^ (k+1)→a*sc=P*B ^ (k+1)+r→1≤P:=by
  intro P sc r hsc hr he
  rcases Nat.eq_zero_or_pos P with h | h
  ·exfalso
   rw [h,Nat.zero_mul,Nat.zero_add] at he
   obtain ⟨_,_,q2,q3⟩:=fN a (fun e=>by rw [e,av] at hl;simp at hl)
   rw [hl,show k+3 - 1=k+2 by omega] at q2 q3
   have h1:B ^ (k+2)*1≤B ^ (k+2)*(dg a).getD (k+2) 0:=Nat.mul_le_mul_left _ q2
   have h2:a*1≤a*sc:=Nat.mul_le_mul_left _ hsc
   have h3:B ^ (k+1)*1≤B ^ (k+2):=by rw [Nat.pow_succ B (k+1)];exact Nat.mul_le_mul_left _ bP
   omega
  ·exact h
 obtain ⟨pa,ca',rfl⟩:=ha.shape
 obtain ⟨pb,cb',rfl⟩:=hb.shape
 have hcell:∃ bb off,pa=some ⟨bb,off,none⟩∧w.cell? ⟨bb,off+(k+2),none⟩=some (.int .u64 ((dg a).getD (k+2) 0:Nat))∧k+3≤ca':=by
  obtain ⟨p',cap',he,h1,h2,h3⟩:=ha
  obtain ⟨bb,off,e,hc⟩:=h3 (by intro e;rw [e] at hl;simp at hl)
  simp only [Value.slice.injEq] at he
  exact ⟨bb,off,he.1.trans e,hc (k+2) (by omega),by omega⟩
 obtain ⟨bb,off,rfl,hcell,hcap⟩:=hcell
 rw [hl] at ca ⊢
 have CA:=Ha (Hb ca cb)
 have HP1:=Ha hP1
 clear ca cb hP1 hbtop ha hb haB hl hba
 generalize (dg a).getD (k+2) 0=t at *
 generalize (dg b).length=lb at *
 obtain ⟨K3,hK3⟩:∃ i,k+3=i:=⟨_,rfl⟩
 obtain ⟨K2,hK2⟩:∃ i,k+2=i:=⟨_,rfl⟩
 rw [hK3] at CA hcap ⊢
 rw [hK2] at hcell
 have hj:(K3:Int) - 1=(K2:Int):=by omega
 have hx1:(K2:Int)<(K3:Int):=by omega
 have hK3b:K3≤1003:=by omega
 clear hK3 hK2
 have HCB:=Ha (CB.new (.int .i64 0) (.int .i64 0) (.int .i64 0) (.int .i64 0) 263 hcell)
 have hT0:=fun (i:Nat) (h:0<t) (h2:i≤9)=>yd (t:=t) (i:=i) h h2
 have HT:=Ha hT0
 clear hcell hT0
 go_enter Tryz.func241,Tryz.ntmps241
 go_wp2
 generalize w.alloc (.cells #[.int .i64 0,.int .i64 0,.int .i64 0,.int .i64 0] 263)=W0 at *
 generalize hK:w.heap.size=K at *
 have HK:=Ha hK;clear hK
 have ha0:=HCB.out.a
 go_loop [5] (fun x=>∃ i:Nat,i≤9∧t*10 ^ i<1000000000∧x = .int .u64 ((10 ^ i:Nat):Int)) (fun x=>(10000000000 - intOf x).toNat)
 case atStart=>exact ⟨0,by omega,by simpa using htl,rfl⟩
 case round =>
  obtain ⟨i,hi,hti,rfl⟩:=hrel
  have hp1:1≤10 ^ i:=Nat.pow_pos (by decide)
  have hp2:10 ^ i≤1000000000:=Nat.le_of_dvd (by decide) (mK hi)
  have HD:=Ha (Hb (mK hi) (zP (mK hi) hti))
  have HN:=Ha (HT.out i htop hi)
  obtain ⟨m,hm⟩:∃ m,t*10 ^ i=m:=⟨_,rfl⟩
  rw [hm] at hti HN
  obtain ⟨sc,hsc⟩:∃ sc,10 ^ i=sc:=⟨_,rfl⟩
  rw [hsc] at hm hp1 hp2 HD HN ⊢
  have em:(t:Int)*(sc:Int)=(m:Int):=by rw [←hm,Int.natCast_mul]
  have HS:=Ha hsc
  clear hm hsc
  by_cases hlt:m*10<1000000000
  ·have hlt':(m:Int)*10<1000000000:=by omega
   go_wp2
   go_round
   case rel =>
    obtain ⟨g1,g2,g3⟩:=HN.out hlt
    exact ⟨i+1,g1,g2,by rw [g3];go_num⟩
   case measure=>simp [intOf];omega
  ·have hlt':¬ (m:Int)*10<1000000000:=by omega
   have h2:1000000000≤(m:Int)*10:=by omega
   clear HN
   go_wp2_with fail
   refine (CA.out.1 sc _ HCB.out.bel HD.out.1 hp1 HD.out.2).mono ?_
   rintro e w1 ⟨P,rfl,p18,⟨al,hal,ea⟩,hb1⟩
   have hP1:=HP1.out P sc al hp1 hal ea
   have H1:=Ha (HCB.out.next hb1)
   clear hb1
   go_wp2_with fail
   refine (CA.out.2 sc _ H1.out.bel HD.out.1 hp1 HD.out.2).mono ?_
   rintro e w2 ⟨Q,rfl,q18,⟨bl,hbl,eb⟩,hb2⟩
   have H2:=Ha (H1.out.next hb2)
   have HF:=Ha (Hb (fun (p q x0 x1 x2 y0 y1 y2:Nat) (h:LS P Q p q x0 x1 x2 y0 y1 y2 1)=>h.fin1 ea eb hal hbl) (fun (p q x0 x1 x2 y0 y1 y2:Nat) (h:LS P Q p q x0 x1 x2 y0 y1 y2 (-1))=>h.fin2 ea eb hal hbl))
   have HST:=Ha (LS.start (Q:=Q) hP1 p18 q18)
   clear hb2 H1 ha0 em hal hbl ea eb HCB CA hlt hlt' h2 HS HD
   go_wp2
   go_loopw [6,7,8,9,10,11,12,13,14] (fun v6 v7 v8 v9 v10 v11 v12 v13 v14 wr=>∃ (p q x0 x1 x2 y0 y1 y2:Nat) (s:Int),v6 = .int .i64 p∧v7 = .int .i64 q∧v8 = .int .i64 x0∧v9 = .int .i64 x1∧v10 = .int .i64 x2∧v11 = .int .i64 y0∧v12 = .int .i64 y1∧v13 = .int .i64 y2∧v14 = .int .i64 s ∧
     Hid (LS P Q p q x0 x1 x2 y0 y1 y2 s)∧Hid (CB w K bb (off+K2) (.int .u64 t) wr)∧q<1000000000000000000)
    (fun _ v7 _ _ _ _ _ _ _ _=>(intOf v7).toNat)
   case atStart=>exact ⟨P,Q,0,1,0,0,0,1,-1,rfl,rfl,rfl,rfl,rfl,rfl,rfl,rfl,rfl,HST.out,H2.out,q18⟩
   case round =>
    clear HST H2 hP1 p18 q18
    obtain ⟨p,q,x0,x1,x2,y0,y1,y2,s,rfl,rfl,rfl,rfl,rfl,rfl,rfl,rfl,rfl,hL,hC,hq18⟩:=hrel
    obtain ⟨p18,by2,by1,bx2,bx1⟩:=hL.out.bds
    have bx0:=hL.out.x0b
    have by0:=hL.out.y0b
    by_cases hq:y2≤q
    ·by_cases hpq:q+(y1+y2)≤p
     ·have g1:(y2:Int)≤q:=by omega
      have g2:(y1:Int)+y2≤(p:Int) - q:=by omega
      have hq1:1≤q:=Nat.le_trans hL.out.hy2 hq
      have hq0:¬ (q:Int)=0:=by omega
      have hqb:((q:Int)==0)=false:=by rw [beq_eq_false_iff_ne];omega
      obtain ⟨hN,m1,m2,m3,m4,m5⟩:=hL.out.step hq hpq
      have hrl:p % q<q:=Nat.mod_lt _ hq1
      obtain ⟨T,hTe⟩:∃ T,p / q=T:=⟨_,rfl⟩
      obtain ⟨R,hRe⟩:∃ R,p % q=R:=⟨_,rfl⟩
      rw [hTe] at hN m1 m2 m3 m4 m5
      rw [hRe] at hN hrl
      have eT:(p:Int) / (q:Int)=(T:Int):=by rw [←hTe];exact (Int.natCast_ediv _ _).symm
      have eR:(p:Int) % (q:Int)=(R:Int):=by rw [←hRe];exact (Int.natCast_emod _ _).symm
      obtain ⟨M1,hM1⟩:∃ M,T*x2=M:=⟨_,rfl⟩
      obtain ⟨M2,hM2⟩:∃ M,T*y2=M:=⟨_,rfl⟩
      rw [hM1] at hN m1 m4
      rw [hM2] at hN m2 m5
      have eM1:(T:Int)*(x2:Int)=(M1:Int):=by rw [←hM1,Int.natCast_mul]
      have eM2:(T:Int)*(y2:Int)=(M2:Int):=by rw [←hM2,Int.natCast_mul]
      have HN:=Ha hN
      have hsb : -1≤s∧s≤1:=by rcases hL.out.hs with h | h <;> omega
      obtain ⟨sb1,sb2⟩:=hsb
      clear hN hTe hRe hM1 hM2 hL
      go_wp2
      go_quiet (fail)
      go_wp2
      go_roundw
      case rel =>
       refine ⟨q,R,x1,x2,x1+M1,y1,y2,y1+M2,-s,rfl,?_,rfl,rfl,by go_num,rfl,rfl,by go_num,rfl,HN.out,?_,by omega⟩
       ·first | rfl | rw [eR]
       ·exact hC.out.next (Below.drewK _ _ _)
      case measure=>simp [intOf];omega
     ·have g1:(y2:Int)≤q:=by omega
      have g2:¬ (y1:Int)+y2≤(p:Int) - q:=by omega
      obtain ⟨⟨u0,e0⟩,⟨u1,e1⟩,⟨u2,e2⟩,⟨u3,e3⟩,ff,_,hbel,hk,hlt⟩:=hC.out
      have f0:=ff 0
      have f1:=ff 1
      have f2:=ff 2
      have f3:=ff 3
      have HB:=Ha (Hb hbel hk)
      have hss:=hL.out.hs
      clear ff hbel hk hC
      rcases hss with rfl | rfl
      ·have hfin:=Ha (HF.out.1 _ _ _ _ _ _ _ _ hL.out)
       obtain ⟨d0,d1,d2,d3⟩:=i7 e0 e1 e2 e3 (.int .i64 (x0:Nat)) (.int .i64 (-(y0:Nat))) (.int .i64 (-(x1:Nat))) (.int .i64 (y1:Nat))
       clear hL HF
       go_wp2
       refine bodyPost_ret (v := .agg #[.int .i64 (x0:Nat),.int .i64 (-(y0:Nat)),.int .i64 (-(x1:Nat)),.int .i64 (y1:Nat)]) (by simp [results,Tryz.results241,go_sem,d0,d1,d2,d3]) rfl ?_
       refine ⟨_,_,_,_,rfl,hfin.out,?_⟩
       rw [←HB.out.2]
       exact (((HB.out.1.setCell (p:=⟨K,0,none⟩) (Nat.le_refl _) _).setCell (p:=⟨K,1,none⟩) (Nat.le_refl _) _).setCell (p:=⟨K,2,none⟩) (Nat.le_refl _) _).setCell (p:=⟨K,3,none⟩) (Nat.le_refl _) _
      ·have hfin:=Ha (HF.out.2 _ _ _ _ _ _ _ _ hL.out)
       obtain ⟨d0,d1,d2,d3⟩:=i7 e0 e1 e2 e3 (.int .i64 (-(x0:Nat))) (.int .i64 (y0:Nat)) (.int .i64 (x1:Nat)) (.int .i64 (-(y1:Nat)))
       clear hL HF
       go_wp2
       refine bodyPost_ret (v := .agg #[.int .i64 (-(x0:Nat)),.int .i64 (y0:Nat),.int .i64 (x1:Nat),.int .i64 (-(y1:Nat))]) (by simp [results,Tryz.results241,go_sem,d0,d1,d2,d3]) rfl ?_
       refine ⟨_,_,_,_,rfl,hfin.out,?_⟩
       rw [←HB.out.2]
       exact (((HB.out.1.setCell (p:=⟨K,0,none⟩) (Nat.le_refl _) _).setCell (p:=⟨K,1,none⟩) (Nat.le_refl _) _).setCell (p:=⟨K,2,none⟩) (Nat.le_refl _) _).setCell (p:=⟨K,3,none⟩) (Nat.le_refl _) _
    ·have g1:¬ (y2:Int)≤q:=by omega
     have g3:(q:Int)<y2:=by omega
     clear hq
     obtain ⟨⟨u0,e0⟩,⟨u1,e1⟩,⟨u2,e2⟩,⟨u3,e3⟩,ff,_,hbel,hk,hlt⟩:=hC.out
     have f0:=ff 0
     have f1:=ff 1
     have f2:=ff 2
     have f3:=ff 3
     have HB:=Ha (Hb hbel hk)
     have hss:=hL.out.hs
     clear ff hbel hk hC
     rcases hss with rfl | rfl
     ·have hfin:=Ha (HF.out.1 _ _ _ _ _ _ _ _ hL.out)
      obtain ⟨d0,d1,d2,d3⟩:=i7 e0 e1 e2 e3 (.int .i64 (x0:Nat)) (.int .i64 (-(y0:Nat))) (.int .i64 (-(x1:Nat))) (.int .i64 (y1:Nat))
      clear hL HF
      go_wp2
      refine bodyPost_ret (v := .agg #[.int .i64 (x0:Nat),.int .i64 (-(y0:Nat)),.int .i64 (-(x1:Nat)),.int .i64 (y1:Nat)]) (by simp [results,Tryz.results241,go_sem,d0,d1,d2,d3]) rfl ?_
      refine ⟨_,_,_,_,rfl,hfin.out,?_⟩
      rw [←HB.out.2]
      exact (((HB.out.1.setCell (p:=⟨K,0,none⟩) (Nat.le_refl _) _).setCell (p:=⟨K,1,none⟩) (Nat.le_refl _) _).setCell (p:=⟨K,2,none⟩) (Nat.le_refl _) _).setCell (p:=⟨K,3,none⟩) (Nat.le_refl _) _
     ·have hfin:=Ha (HF.out.2 _ _ _ _ _ _ _ _ hL.out)
      obtain ⟨d0,d1,d2,d3⟩:=i7 e0 e1 e2 e3 (.int .i64 (-(x0:Nat))) (.int .i64 (y0:Nat)) (.int .i64 (x1:Nat)) (.int .i64 (-(y1:Nat)))
      clear hL HF
      go_wp2
      refine bodyPost_ret (v := .agg #[.int .i64 (-(x0:Nat)),.int .i64 (y0:Nat),.int .i64 (x1:Nat),.int .i64 (-(y1:Nat))]) (by simp [results,Tryz.results241,go_sem,d0,d1,d2,d3]) rfl ?_
      refine ⟨_,_,_,_,rfl,hfin.out,?_⟩
      rw [←HB.out.2]
      exact (((HB.out.1.setCell (p:=⟨K,0,none⟩) (Nat.le_refl _) _).setCell (p:=⟨K,1,none⟩) (Nat.le_refl _) _).setCell (p:=⟨K,2,none⟩) (Nat.le_refl _) _).setCell (p:=⟨K,3,none⟩) (Nat.le_refl _) _
end Go.Proofs.YtjdomibbaemdnaaGreatDoor
