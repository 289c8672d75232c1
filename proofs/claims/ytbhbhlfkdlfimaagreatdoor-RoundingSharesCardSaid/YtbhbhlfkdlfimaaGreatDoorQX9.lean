/- Parts of the proof of the text YtbhbhlfkdlfimaaGreatDoorQX29. -/
import Derived.Test.YtbhbhlfkdlfimaaGreatDoorQX1
import Derived.Test.YtbhbhlfkdlfimaaGreatDoorQX7
import Derived.Test.YtbhbhlfkdlfimaaGreatDoorQX8
set_option linter.all false
set_option maxRecDepth 100000
set_option maxHeartbeats 8000000
namespace Go.Proofs.YtbhbhlfkdlfimaaGreatDoor
open Go.RowKit
theorem Al {n k sc:Nat} (hn:n<B ^ (k+3)) (hsc:sc∣1000000000) (h0:0<sc) (ht:((dg n).getD (k+2) 0+1)*sc≤1000000000) :
  let P:=((dg n).getD (k+2) 0*1000000000+(dg n).getD (k+1) 0)*sc+(dg n).getD k 0 / (1000000000 / sc)
  P<1000000000000000000∧((dg n).getD (k+2) 0*1000000000+(dg n).getD (k+1) 0)*sc<1000000000000000000∧∃ r,r<B ^ (k+1)∧n*sc=P*B ^ (k+1)+r:=by
 have e2:(dg n).getD (k+2) 0=n / B ^ k / B / B:=by
  rw [dw,Nat.pow_succ,Nat.pow_succ,Nat.mul_assoc,←Nat.div_div_eq_div_mul,←Nat.div_div_eq_div_mul]
  refine Nat.mod_eq_of_lt ?_
  rw [Nat.div_lt_iff_lt_mul cK,Nat.div_lt_iff_lt_mul cK,Nat.div_lt_iff_lt_mul (Nat.pow_pos cK)]
  have:B*B*B*B ^ k=B ^ (k+3):=by rw [Nat.pow_succ,Nat.pow_succ,Nat.pow_succ];grind
  omega
 have e1:(dg n).getD (k+1) 0=n / B ^ k / B % B:=by
  rw [dw,Nat.pow_succ,←Nat.div_div_eq_div_mul]
 have e0:(dg n).getD k 0=n / B ^ k % B:=dw n k
 intro P
 have h1:=(aB n).getD (k+1)
 have h3:=(aB n).getD k
 have hm:=Nat.mod_add_div n (B ^ k)
 have hlow:=Nat.mod_lt n (show 0<B ^ k from Nat.pow_pos cK)
 have hX:=Nat.mod_add_div (n / B ^ k) B
 have hY:=Nat.mod_add_div (n / B ^ k / B) B
 rw [←e0] at hX
 rw [←e1,←e2] at hY
 obtain ⟨m,hm9⟩:=hsc
 have hmp:0<m:=by
  rcases Nat.eq_zero_or_pos m with h | h
  ·rw [h] at hm9;omega
  ·exact h
 have hdiv:1000000000 / sc=m:=by rw [hm9];exact Nat.mul_div_cancel_left m h0
 have hP:P=((dg n).getD (k+2) 0*1000000000+(dg n).getD (k+1) 0)*sc+(dg n).getD k 0 / m:=by show _+_ / (1000000000 / sc)=_;rw [hdiv]
 generalize P=P' at *
 generalize (dg n).getD (k+2) 0=d2 at *
 generalize (dg n).getD (k+1) 0=d1 at *
 generalize (dg n).getD k 0=d0 at *
 generalize n % B ^ k=low at *
 generalize n / B ^ k / B=Y at *
 generalize n / B ^ k=X at *
 have hq:=Nat.mod_add_div d0 m
 have hqm:=Nat.mod_lt d0 hmp
 have hql:d0 / m<sc:=by rw [Nat.div_lt_iff_lt_mul hmp,←hm9];exact h3
 generalize d0 / m=u at *
 generalize d0 % m=v at *
 have hb1:(d2*1000000000+d1+1)*sc≤(d2+1)*1000000000*sc:=Nat.mul_le_mul_right _ (by omega)
 have hb2:(d2+1)*sc*1000000000≤1000000000*1000000000:=Nat.mul_le_mul_right _ ht
 have hb3:(d2+1)*1000000000*sc=(d2+1)*sc*1000000000:=by grind
 have hb4:(d2*1000000000+d1+1)*sc=(d2*1000000000+d1)*sc+sc:=Nat.succ_mul _ _
 refine ⟨by omega,by omega,low*sc+B ^ k*(v*sc),?_,?_⟩
 ·have g1:low*sc<B ^ k*sc:=Nat.mul_lt_mul_of_pos_right hlow h0
  have g2:(v+1)*sc≤m*sc:=Nat.mul_le_mul_right _ hqm
  have g3:B ^ k*((v+1)*sc)≤B ^ k*(m*sc):=Nat.mul_le_mul_left _ g2
  have g4:m*sc=B:=by rw [Nat.mul_comm,←hm9];rfl
  rw [g4,Nat.add_mul,Nat.one_mul,Nat.mul_add] at g3
  rw [Nat.pow_succ]
  omega
 ·have hB:(B:Nat)=sc*m:=by rw [←hm9];rfl
  have hB2:(1000000000:Nat)=B:=rfl
  rw [Nat.pow_succ]
  rw [hP,hB2,←hm,←hX,←hY,←hq]
  generalize B ^ k=Z at *
  clear hb1 hb2 hb3 hb4 hm hX hY hq hP ht hm9 hdiv e0 e1 e2 hn
  grind
theorem nw (v:Value) (n k sc:Nat) (w:World) (h:IsNat w v n) (hn:n<B ^ (k+3)) (hk:k≤1000) (hsc:sc∣1000000000) (h0:0<sc) (ht:((dg n).getD (k+2) 0+1)*sc≤1000000000) :
  Calls Tryz.prog 133 #[v,.int .i64 ((k+3:Nat):Int),.int .u64 sc] w fun e w'=>∃ P:Nat,e = .returned (.int .u64 P)∧P<1000000000000000000∧(∃ r,r<B ^ (k+1)∧n*sc=P*B ^ (k+1)+r)∧Below w.heap.size w w':=by
 have cc:∀ (i:Nat) (q x:Nat),(dg n).getD i 0=x→i≤1003→Calls Tryz.prog 137 #[v,.int .i64 (i:Nat)] (w.drewN q) fun e w'=>e = .returned (.int .u64 (x:Nat))∧w'=w.drewN q:=fun i q x hx hi=>by
  have c:=sE v (dg n) (i:Int) (w.drewN q) (Nats.next h (Below.drewK _ _ q)) (by omega) (by omega)
  rw [Int.toNat_natCast,hx] at c
  exact c.mono (fun e w' (hh:_∧_)=>Hb hh.1 hh.2.symm)
 obtain ⟨hP,hPm,hr⟩:=Al hn hsc h0 ht
 have d2:=(aB n).getD (k+2)
 have d1:=(aB n).getD (k+1)
 have d0:=(aB n).getD k
 obtain ⟨P,hPe⟩:∃ P,((dg n).getD (k+2) 0*1000000000+(dg n).getD (k+1) 0)*sc+(dg n).getD k 0 / (1000000000 / sc)=P:=⟨_,rfl⟩
 rw [hPe] at hP hr
 have HR:=Ha (Hb hP hr)
 have C:=Ha cc
 have hsl:sc≤1000000000:=Nat.le_of_dvd (by decide) hsc
 have hm1:1≤1000000000 / sc:=by rw [Nat.le_div_iff_mul_le h0];omega
 have hm2:=Nat.div_le_self 1000000000 sc
 clear cc hr hn ht hsc h hP
 generalize g2:(dg n).getD (k+2) 0=x2 at *
 generalize g1:(dg n).getD (k+1) 0=x1 at *
 generalize g0:(dg n).getD k 0=x0 at *
 obtain ⟨m,hm⟩:∃ m,1000000000 / sc=m:=⟨_,rfl⟩
 rw [hm] at hm1 hm2 hPe
 have em:(1000000000:Int) / (sc:Int)=(m:Int):=by rw [←hm];exact (Int.natCast_ediv _ _).symm
 have hs0:¬ (sc:Int)=0:=by omega
 have hs1:((sc:Int)==0)=false:=by rw [beq_eq_false_iff_ne];omega
 have hm0:¬ (m:Int)=0:=by omega
 have hmb:((m:Int)==0)=false:=by rw [beq_eq_false_iff_ne];omega
 obtain ⟨u,hu⟩:∃ u,x0 / m=u:=⟨_,rfl⟩
 have eu:(x0:Int) / (m:Int)=(u:Int):=by rw [←hu];exact (Int.natCast_ediv _ _).symm
 have hub:u≤999999999:=by have:=Nat.div_le_self x0 m;omega
 rw [hu] at hPe
 obtain ⟨M,hM⟩:∃ M,(x2*1000000000+x1)*sc=M:=⟨_,rfl⟩
 have eM:((x2:Int)*1000000000+(x1:Int))*(sc:Int)=(M:Int):=by
  rw [←hM,Int.natCast_mul,Int.natCast_add,Int.natCast_mul];rfl
 rw [hM] at hPe hPm
 have k2:((k+3:Nat):Int) - 1=((k+2:Nat):Int):=by omega
 have k1:((k+3:Nat):Int) - 2=((k+1:Nat):Int):=by omega
 have k0:((k+3:Nat):Int) - 3=(k:Int):=by omega
 have HP:=Ha hPe
 clear hu hM hm hPe
 obtain ⟨K3,hK3⟩:∃ i,k+3=i:=⟨_,rfl⟩
 obtain ⟨K2,hK2⟩:∃ i,k+2=i:=⟨_,rfl⟩
 obtain ⟨K1,hK1⟩:∃ i,k+1=i:=⟨_,rfl⟩
 rw [hK3] at k2 k1 k0 ⊢
 rw [hK2] at k2 g2
 rw [hK1] at k1 g1
 have HKK:=Ha (Hb hK3 (Hb hK2 hK1))
 have hK3b:K3≤1003:=by omega
 rw [hK1] at HR
 have b2:K2≤1003:=by omega
 have b1:K1≤1003:=by omega
 have b0:k≤1003:=by omega
 clear hK3 hK2 hK1
 go_enter Tryz.func133,Tryz.ntmps133
 go_wp2
 go_quiet ((go_at_call 137;exact Calls.quiet_of_same (C.out _ _ _ (by assumption) (by assumption))))
 have eP:(M:Int)+(u:Int)=((P:Nat):Int):=by have:=HP.out;omega
 rw [eP]
 go_wp2
 go_ret
 obtain ⟨hP,hr⟩:=HR.out
 exact ⟨P,rfl,hP,by rw [HKK.out.2.2];exact hr,Below.drewK _ _ _⟩
structure LS (P Q p q x0 x1 x2 y0 y1 y2:Nat) (s:Int):Prop where
 hs:s=1∨s = -1
 hP:P=y2*p+y1*q
 hQ:Q=x2*p+x1*q
 det:(x1:Int)*y2 - (x2:Int)*y1 = -s
 hp:1≤p
 hy2:1≤y2
 hy:y1≤y2
 hx:(x1=1∧y1=0∧x2=0∧y2=1)∨(x1≤y1∧x2≤y2)
 prev:y0=0∨∃ p' q',P=y1*p'+y0*q'∧Q=x1*p'+x0*q'∧(x0:Int)*y1 - (x1:Int)*y0=s∧y1≤q'∧q'+(y0+y1)≤p'∧x0≤y0∧x1≤y1∧y0≤y1
 p18:P<1000000000000000000
 q18:Q<1000000000000000000
 x0b:x0<1000000000000000000
 y0b:y0<1000000000000000000
theorem LS.bds {P Q p q x0 x1 x2 y0 y1 y2:Nat} {s:Int} (h:LS P Q p q x0 x1 x2 y0 y1 y2 s):p<1000000000000000000∧y2<1000000000000000000∧y1<1000000000000000000∧x2<1000000000000000000∧x1<1000000000000000000:=by
 have h1:1*p≤y2*p:=Nat.mul_le_mul_right _ h.hy2
 have h2:y2*1≤y2*p:=Nat.mul_le_mul_left _ h.hp
 have hP:=h.hP
 have hy:=h.hy
 have h18:=h.p18
 have hx:=h.hx
 refine ⟨by omega,by omega,by omega,?_,?_⟩
 ·rcases hx with hx | hx <;> omega
 ·rcases hx with hx | hx <;> omega
theorem LS.start {P Q:Nat} (hP:1≤P) (p18:P<1000000000000000000) (q18:Q<1000000000000000000):LS P Q P Q 0 1 0 0 0 1 (-1) :=
 ⟨.inr rfl,by omega,by omega,by decide,hP,by decide,by decide,.inl ⟨rfl,rfl,rfl,rfl⟩,.inl rfl,p18,q18,by decide,by decide⟩
theorem LS.step {P Q p q x0 x1 x2 y0 y1 y2:Nat} {s:Int} (h:LS P Q p q x0 x1 x2 y0 y1 y2 s) (hq:y2≤q) (hpq:q+(y1+y2)≤p) :
  LS P Q q (p % q) x1 x2 (x1+p / q*x2) y1 y2 (y1+p / q*y2) (-s)∧p / q*x2<1000000000000000000∧p / q*y2<1000000000000000000∧p / q<1000000000000000000∧x1+p / q*x2<1000000000000000000∧y1+p / q*y2<1000000000000000000:=by
 have hy2:=h.hy2
 have hq0:0<q:=by omega
 obtain ⟨e1,e2,e3⟩:=vm h.hP h.hQ h.det hq0
 have ht:1≤p / q:=by rw [Nat.le_div_iff_mul_le hq0];omega
 obtain ⟨bp,by2,by1,bx2,bx1⟩:=h.bds
 have hdl:=Nat.div_le_self p q
 have hs:=h.hs
 have hy:=h.hy
 have hx:=h.hx
 have h1:1*y2≤p / q*y2:=Nat.mul_le_mul_right _ ht
 have hnew:LS P Q q (p % q) x1 x2 (x1+p / q*x2) y1 y2 (y1+p / q*y2) (-s):=by
  refine ⟨by omega,e1,e2,by rw [Int.neg_neg];exact e3,hq0,by omega,by omega,?_,?_,h.p18,h.q18,bx1,by1⟩
  ·rcases hx with ⟨a1,a2,a3,a4⟩ | ⟨a1,a2⟩
   ·subst a1 a2 a3 a4
    refine .inr ⟨by omega,?_⟩
    rw [Nat.mul_zero];omega
   ·have h2:p / q*x2≤p / q*y2:=Nat.mul_le_mul_left _ a2
    exact .inr ⟨a2,by omega⟩
  ·rcases hx with ⟨a1,a2,a3,a4⟩ | ⟨a1,a2⟩
   ·exact .inl a2
   ·exact .inr ⟨p,q,h.hP,h.hQ,h.det,hq,hpq,a1,a2,hy⟩
 obtain ⟨_,b1,_,b2,_⟩:=hnew.bds
 refine ⟨hnew,by omega,by omega,by omega,b2,b1⟩
theorem LS.fin {P Q p q x0 x1 x2 y0 y1 y2:Nat} {s:Int} (h:LS P Q p q x0 x1 x2 y0 y1 y2 s) {a b sc D al bl:Nat} (ha:a*sc=P*D+al) (hb:b*sc=Q*D+bl) (hal:al<D) (hbl:bl<D) :
  -s*(y0:Int)=0∨Good a b (s*x0) (-s*y0) (-s*x1) (s*y1):=by
 rcases h.prev with h0 | ⟨p',q',h1,h2,h3,h4,h5,h6,h7,h8⟩
 ·left;rw [h0];simp
 ·by_cases h0:y0=0
  ·left;rw [h0];simp
  ·right
   exact xm ha hb hal hbl h1 h2 h.hs h3 h4 h5 h6 h7 h8 (by omega) h.p18
theorem LS.fin1 {P Q p q x0 x1 x2 y0 y1 y2:Nat} (h:LS P Q p q x0 x1 x2 y0 y1 y2 1) {a b sc D al bl:Nat} (ha:a*sc=P*D+al) (hb:b*sc=Q*D+bl) (hal:al<D) (hbl:bl<D) :
  -(y0:Int)=0∨Good a b x0 (-(y0:Int)) (-(x1:Int)) y1:=by
 have:=h.fin ha hb hal hbl
 simp only [Int.neg_mul,Int.one_mul] at this
 exact this
theorem LS.fin2 {P Q p q x0 x1 x2 y0 y1 y2:Nat} (h:LS P Q p q x0 x1 x2 y0 y1 y2 (-1)) {a b sc D al bl:Nat} (ha:a*sc=P*D+al) (hb:b*sc=Q*D+bl) (hal:al<D) (hbl:bl<D) :
  (y0:Int)=0∨Good a b (-(x0:Int)) y0 x1 (-(y1:Int)):=by
 have:=h.fin ha hb hal hbl
 simp only [Int.neg_mul,Int.one_mul,Int.neg_neg] at this
 exact this
theorem qf {i:Nat} (h:i≤9):10 ^ i∣1000000000:=by
 have:(1000000000:Nat)=10 ^ 9:=rfl
 rw [this];exact Nat.pow_dvd_pow 10 h
theorem FT {t sc:Nat} (h:sc∣1000000000) (h1:t*sc<1000000000):(t+1)*sc≤1000000000:=by
 obtain ⟨m,hm⟩:=h
 have h2:t<m:=by
  apply Decidable.byContradiction
  intro hc
  have:m*sc≤t*sc:=Nat.mul_le_mul_right _ (by omega)
  rw [Nat.mul_comm m sc] at this
  omega
 have h3:(t+1)*sc≤m*sc:=Nat.mul_le_mul_right _ h2
 rw [Nat.mul_comm m sc] at h3
 omega
theorem Et {i t:Nat} (ht:0<t) (hi:i≤9) (h:t*10 ^ i*10<1000000000):i+1≤9∧t*10 ^ (i+1)<1000000000∧10 ^ (i+1)=10 ^ i*10:=by
 refine ⟨?_,by rw [Nat.pow_succ,←Nat.mul_assoc];exact h,Nat.pow_succ _ _⟩
 rcases Nat.lt_or_ge i 9 with h1 | h1
 ·omega
 ·exfalso
  have:i=9:=by omega
  subst this
  have:1*10 ^ 9≤t*10 ^ 9:=Nat.mul_le_mul_right _ ht
  omega
structure CB (w:World) (K bb o:Nat) (t:Value) (wr:World):Prop where
 c0:∃ v,wr.cell? ⟨K,0,none⟩=some v
 c1:∃ v,wr.cell? ⟨K,1,none⟩=some v
 c2:∃ v,wr.cell? ⟨K,2,none⟩=some v
 c3:∃ v,wr.cell? ⟨K,3,none⟩=some v
 f:∀ i,wr.frozen? ⟨K,i,none⟩=false
 a:wr.cell? ⟨bb,o,none⟩=some t
 bel:Below K w wr
 k:K=w.heap.size
 lt:K<wr.heap.size
theorem CB.next {w:World} {K bb o:Nat} {t:Value} {wr W:World} (h:CB w K bb o t wr) (hb:Below wr.heap.size wr W):CB w K bb o t W:=by
 have hk:=h.lt
 have hc:∀ i,W.cell? ⟨K,i,none⟩=wr.cell? ⟨K,i,none⟩:=fun i=>hb.cell (p:=⟨K,i,none⟩) hk
 exact ⟨by rw [hc];exact h.c0,by rw [hc];exact h.c1,by rw [hc];exact h.c2,by rw [hc];exact h.c3,fun i=>(hb.frozen (p:=⟨K,i,none⟩) hk).trans (h.f i),
  (hb.cell (World.block_lt_of_cell? wr _ h.a)).trans h.a,h.bel.trans (hb.mono (Nat.le_of_lt hk)),h.k,Nat.lt_of_lt_of_le hk hb.size⟩
theorem CB.new {w:World} {bb o:Nat} {t:Value} (x0 x1 x2 x3:Value) (T:TypeId) (h:w.cell? ⟨bb,o,none⟩=some t):CB w w.heap.size bb o t (w.alloc (.cells #[x0,x1,x2,x3] T)):=by
 have hl:=World.block_lt_of_cell? w _ h
 refine ⟨⟨x0,by go_cell⟩,⟨x1,by go_cell⟩,⟨x2,by go_cell⟩,⟨x3,by go_cell⟩,fun i=>by simp [go_sem],?_,(Below.refl _ _).alloc (Nat.le_refl _) _,rfl,by simp⟩
 rw [World.cell?_of_block (Below.heap_alloc w _ bb hl)];exact h
theorem jY {w:World} {b:Nat} {x0 x1 x2 x3:Value} (c0:w.cell? ⟨b,0,none⟩=some x0) (c1:w.cell? ⟨b,1,none⟩=some x1) (c2:w.cell? ⟨b,2,none⟩=some x2) (c3:w.cell? ⟨b,3,none⟩=some x3) (X Y Z U:Value) :
  ((((w.setCell ⟨b,0,none⟩ X).setCell ⟨b,1,none⟩ Y).setCell ⟨b,2,none⟩ Z).setCell ⟨b,3,none⟩ U).cell? ⟨b,0,none⟩=some X∧((((w.setCell ⟨b,0,none⟩ X).setCell ⟨b,1,none⟩ Y).setCell ⟨b,2,none⟩ Z).setCell ⟨b,3,none⟩ U).cell? ⟨b,1,none⟩=some Y ∧
  ((((w.setCell ⟨b,0,none⟩ X).setCell ⟨b,1,none⟩ Y).setCell ⟨b,2,none⟩ Z).setCell ⟨b,3,none⟩ U).cell? ⟨b,2,none⟩=some Z∧((((w.setCell ⟨b,0,none⟩ X).setCell ⟨b,1,none⟩ Y).setCell ⟨b,2,none⟩ Z).setCell ⟨b,3,none⟩ U).cell? ⟨b,3,none⟩=some U:=by
 have a0:(w.setCell ⟨b,0,none⟩ X).cell? ⟨b,0,none⟩=some X:=World.cell?_setCell_same' _ _ _ (by rw [c0];rfl)
 have a1:(w.setCell ⟨b,0,none⟩ X).cell? ⟨b,1,none⟩=some x1:=by go_cell
 have a2:(w.setCell ⟨b,0,none⟩ X).cell? ⟨b,2,none⟩=some x2:=by go_cell
 have a3:(w.setCell ⟨b,0,none⟩ X).cell? ⟨b,3,none⟩=some x3:=by go_cell
 generalize w.setCell ⟨b,0,none⟩ X=w1 at *
 have b1:(w1.setCell ⟨b,1,none⟩ Y).cell? ⟨b,1,none⟩=some Y:=World.cell?_setCell_same' _ _ _ (by rw [a1];rfl)
 have b0:(w1.setCell ⟨b,1,none⟩ Y).cell? ⟨b,0,none⟩=some X:=by go_cell
 have b2:(w1.setCell ⟨b,1,none⟩ Y).cell? ⟨b,2,none⟩=some x2:=by go_cell
 have b3:(w1.setCell ⟨b,1,none⟩ Y).cell? ⟨b,3,none⟩=some x3:=by go_cell
 generalize w1.setCell ⟨b,1,none⟩ Y=w2 at *
 have d2:(w2.setCell ⟨b,2,none⟩ Z).cell? ⟨b,2,none⟩=some Z:=World.cell?_setCell_same' _ _ _ (by rw [b2];rfl)
 have d0:(w2.setCell ⟨b,2,none⟩ Z).cell? ⟨b,0,none⟩=some X:=by go_cell
 have d1:(w2.setCell ⟨b,2,none⟩ Z).cell? ⟨b,1,none⟩=some Y:=by go_cell
 have d3:(w2.setCell ⟨b,2,none⟩ Z).cell? ⟨b,3,none⟩=some x3:=by go_cell
 generalize w2.setCell ⟨b,2,none⟩ Z=w3 at *
 exact ⟨by go_cell,by go_cell,by go_cell,World.cell?_setCell_same' _ _ _ (by rw [d3];rfl)⟩
theorem iz (va vb:Value) (a b k:Nat) (w:World) (ha:IsNat w va a) (hb:IsNat w vb b) (hl:(dg a).length=k+3) (hk:k≤1000) (hba:b≤a) :
  Calls Tryz.prog 87 #[va,vb] w fun e W'=>∃ x1 y1 x2 y2:Int,e = .returned (.agg #[.int .i64 x1,.int .i64 y1,.int .i64 x2,.int .i64 y2])∧(y1=0∨Good a b x1 y1 x2 y2)∧Below w.heap.size w W':=by
 have haB:a<B ^ (k+3):=by have:=cO (aB a);rwa [aE,hl] at this
 have htop:0<(dg a).getD (k+2) 0:=lP hl
 have htl:=(aB a).getD (k+2)
 have hbtop:∀ sc,((dg a).getD (k+2) 0+1)*sc≤1000000000→((dg b).getD (k+2) 0+1)*sc≤1000000000:=fun sc h=>by
  refine Nat.le_trans (Nat.mul_le_mul_right _ (Nat.succ_le_succ ?_)) h
  rw [dw,dw,Nat.mod_eq_of_lt,Nat.mod_eq_of_lt]
  ·exact Nat.div_le_div_right hba
  ·rw [Nat.div_lt_iff_lt_mul (Nat.pow_pos cK)];have:B*B ^ (k+2)=B ^ (k+3):=by rw [Nat.pow_succ];exact Nat.mul_comm _ _
   omega
  ·rw [Nat.div_lt_iff_lt_mul (Nat.pow_pos cK)];have:B*B ^ (k+2)=B ^ (k+3):=by rw [Nat.pow_succ];exact Nat.mul_comm _ _
   omega
 have ca:=fun sc W (hW:Below w.heap.size w W) (h1:sc∣1000000000) (h2:0<sc) (h3:((dg a).getD (k+2) 0+1)*sc≤1000000000)=>nw va a k sc W (ha.next hW) haB hk h1 h2 h3
 have cb:=fun sc W (hW:Below w.heap.size w W) (h1:sc∣1000000000) (h2:0<sc) (h3:((dg a).getD (k+2) 0+1)*sc≤1000000000)=>nw vb b k sc W (hb.next hW) (by omega) hk h1 h2 (hbtop sc h3)
 have hP1:∀ P sc r:Nat,0<sc→r<B ^ (k+1)→a*sc=P*B ^ (k+1)+r→1≤P:=by
  intro P sc r hsc hr he
  rcases Nat.eq_zero_or_pos P with h | h
  ·exfalso
   rw [h,Nat.zero_mul,Nat.zero_add] at he
   obtain ⟨_,_,q2,q3⟩:=gD a (fun e=>by rw [e,aD] at hl;simp at hl)
   rw [hl,show k+3 - 1=k+2 by omega] at q2 q3
   have h1:B ^ (k+2)*1≤B ^ (k+2)*(dg a).getD (k+2) 0:=Nat.mul_le_mul_left _ q2
   have h2:a*1≤a*sc:=Nat.mul_le_mul_left _ hsc
   have h3:B ^ (k+1)*1≤B ^ (k+2):=by rw [Nat.pow_succ B (k+1)];exact Nat.mul_le_mul_left _ cK
   omega
  ·exact h
 obtain ⟨pa,ca',rfl⟩:=ha.shape
 obtain ⟨pb,cb',rfl⟩:=hb.shape
 have hcell:∃ bb off,pa=some ⟨bb,off,none⟩∧w.cell? ⟨bb,off+(k+2),none⟩=some (.int .u64 ((dg a).getD (k+2) 0:Nat))∧k+3≤ca':=by
  obtain ⟨p',cap',he,h1,h2,h3⟩:=ha
  obtain ⟨bb,off,e,hc⟩:=h3 (by intro e;rw [e] at hl;simp at hl)
  simp only [Value.slice.injEq] at he
  exact ⟨bb,off,he.1.trans e,hc (k+2) (by omega),by omega⟩
 obtain ⟨bb,off,rfl,hcell,hcap⟩:=hcell
 rw [hl] at ca ⊢
 have CA:=Ha (Hb ca cb)
 have HP1:=Ha hP1
 clear ca cb hP1 hbtop ha hb haB hl hba
 generalize (dg a).getD (k+2) 0=t at *
 generalize (dg b).length=lb at *
 obtain ⟨K3,hK3⟩:∃ i,k+3=i:=⟨_,rfl⟩
 obtain ⟨K2,hK2⟩:∃ i,k+2=i:=⟨_,rfl⟩
 rw [hK3] at CA hcap ⊢
 rw [hK2] at hcell
 have hj:(K3:Int) - 1=(K2:Int):=by omega
 have hx1:(K2:Int)<(K3:Int):=by omega
 have hK3b:K3≤1003:=by omega
 clear hK3 hK2
 have HCB:=Ha (CB.new (.int .i64 0) (.int .i64 0) (.int .i64 0) (.int .i64 0) 139 hcell)
 have hT0:=fun (i:Nat) (h:0<t) (h2:i≤9)=>Et (t:=t) (i:=i) h h2
 have HT:=Ha hT0
 clear hcell hT0
 go_enter Tryz.func87,Tryz.ntmps87
 go_wp2
 generalize w.alloc (.cells #[.int .i64 0,.int .i64 0,.int .i64 0,.int .i64 0] 139)=W0 at *
 generalize hK:w.heap.size=K at *
 have HK:=Ha hK;clear hK
 have ha0:=HCB.out.a
 go_loop [5] (fun x=>∃ i:Nat,i≤9∧t*10 ^ i<1000000000∧x = .int .u64 ((10 ^ i:Nat):Int)) (fun x=>(10000000000 - intOf x).toNat)
 case atStart=>exact ⟨0,by omega,by simpa using htl,rfl⟩
 case round =>
  obtain ⟨i,hi,hti,rfl⟩:=hrel
  have hp1:1≤10 ^ i:=Nat.pow_pos (by decide)
  have hp2:10 ^ i≤1000000000:=Nat.le_of_dvd (by decide) (qf hi)
  have HD:=Ha (Hb (qf hi) (FT (qf hi) hti))
  have HN:=Ha (HT.out i htop hi)
  obtain ⟨m,hm⟩:∃ m,t*10 ^ i=m:=⟨_,rfl⟩
  rw [hm] at hti HN
  obtain ⟨sc,hsc⟩:∃ sc,10 ^ i=sc:=⟨_,rfl⟩
  rw [hsc] at hm hp1 hp2 HD HN ⊢
  have em:(t:Int)*(sc:Int)=(m:Int):=by rw [←hm,Int.natCast_mul]
  have HS:=Ha hsc
  clear hm hsc
  by_cases hlt:m*10<1000000000
  ·have hlt':(m:Int)*10<1000000000:=by omega
   go_wp2
   go_round
   case rel =>
    obtain ⟨g1,g2,g3⟩:=HN.out hlt
    exact ⟨i+1,g1,g2,by rw [g3];go_num⟩
   case measure=>simp [intOf];omega
  ·have hlt':¬ (m:Int)*10<1000000000:=by omega
   have h2:1000000000≤(m:Int)*10:=by omega
   clear HN
   go_wp2_with fail
   refine (CA.out.1 sc _ HCB.out.bel HD.out.1 hp1 HD.out.2).mono ?_
   rintro e w1 ⟨P,rfl,p18,⟨al,hal,ea⟩,hb1⟩
   have hP1:=HP1.out P sc al hp1 hal ea
   have H1:=Ha (HCB.out.next hb1)
   clear hb1
   go_wp2_with fail
   refine (CA.out.2 sc _ H1.out.bel HD.out.1 hp1 HD.out.2).mono ?_
   rintro e w2 ⟨Q,rfl,q18,⟨bl,hbl,eb⟩,hb2⟩
   have H2:=Ha (H1.out.next hb2)
   have HF:=Ha (Hb (fun (p q x0 x1 x2 y0 y1 y2:Nat) (h:LS P Q p q x0 x1 x2 y0 y1 y2 1)=>h.fin1 ea eb hal hbl) (fun (p q x0 x1 x2 y0 y1 y2:Nat) (h:LS P Q p q x0 x1 x2 y0 y1 y2 (-1))=>h.fin2 ea eb hal hbl))
   have HST:=Ha (LS.start (Q:=Q) hP1 p18 q18)
   clear hb2 H1 ha0 em hal hbl ea eb HCB CA hlt hlt' h2 HS HD
   go_wp2
   go_loopw [6,7,8,9,10,11,12,13,14] (fun v6 v7 v8 v9 v10 v11 v12 v13 v14 wr=>∃ (p q x0 x1 x2 y0 y1 y2:Nat) (s:Int),v6 = .int .i64 p∧v7 = .int .i64 q∧v8 = .int .i64 x0∧v9 = .int .i64 x1∧v10 = .int .i64 x2∧v11 = .int .i64 y0∧v12 = .int .i64 y1∧v13 = .int .i64 y2∧v14 = .int .i64 s ∧
     Hid (LS P Q p q x0 x1 x2 y0 y1 y2 s)∧Hid (CB w K bb (off+K2) (.int .u64 t) wr)∧q<1000000000000000000)
    (fun _ v7 _ _ _ _ _ _ _ _=>(intOf v7).toNat)
   case atStart=>exact ⟨P,Q,0,1,0,0,0,1,-1,rfl,rfl,rfl,rfl,rfl,rfl,rfl,rfl,rfl,HST.out,H2.out,q18⟩
   case round =>
    clear HST H2 hP1 p18 q18
    obtain ⟨p,q,x0,x1,x2,y0,y1,y2,s,rfl,rfl,rfl,rfl,rfl,rfl,rfl,rfl,rfl,hL,hC,hq18⟩:=hrel
    obtain ⟨p18,by2,by1,bx2,bx1⟩:=hL.out.bds
    have bx0:=hL.out.x0b
    have by0:=hL.out.y0b
    by_cases hq:y2≤q
    ·by_cases hpq:q+(y1+y2)≤p
     ·have g1:(y2:Int)≤q:=by omega
      have g2:(y1:Int)+y2≤(p:Int) - q:=by omega
      have hq1:1≤q:=Nat.le_trans hL.out.hy2 hq
      have hq0:¬ (q:Int)=0:=by omega
      have hqb:((q:Int)==0)=false:=by rw [beq_eq_false_iff_ne];omega
      obtain ⟨hN,m1,m2,m3,m4,m5⟩:=hL.out.step hq hpq
      have hrl:p % q<q:=Nat.mod_lt _ hq1
      obtain ⟨T,hTe⟩:∃ T,p / q=T:=⟨_,rfl⟩
      obtain ⟨R,hRe⟩:∃ R,p % q=R:=⟨_,rfl⟩
      rw [hTe] at hN m1 m2 m3 m4 m5
      rw [hRe] at hN hrl
      have eT:(p:Int) / (q:Int)=(T:Int):=by rw [←hTe];exact (Int.natCast_ediv _ _).symm
      have eR:(p:Int) % (q:Int)=(R:Int):=by rw [←hRe];exact (Int.natCast_emod _ _).symm
      obtain ⟨M1,hM1⟩:∃ M,T*x2=M:=⟨_,rfl⟩
      obtain ⟨M2,hM2⟩:∃ M,T*y2=M:=⟨_,rfl⟩
      rw [hM1] at hN m1 m4
      rw [hM2] at hN m2 m5
      have eM1:(T:Int)*(x2:Int)=(M1:Int):=by rw [←hM1,Int.natCast_mul]
      have eM2:(T:Int)*(y2:Int)=(M2:Int):=by rw [←hM2,Int.natCast_mul]
      have HN:=Ha hN
      have hsb : -1≤s∧s≤1:=by rcases hL.out.hs with h | h <;> omega
      obtain ⟨sb1,sb2⟩:=hsb
      clear hN hTe hRe hM1 hM2 hL
      go_wp2
      go_quiet (fail)
      go_wp2
      go_roundw
      case rel =>
       refine ⟨q,R,x1,x2,x1+M1,y1,y2,y1+M2,-s,rfl,?_,rfl,rfl,by go_num,rfl,rfl,by go_num,rfl,HN.out,?_,by omega⟩
       ·first | rfl | rw [eR]
       ·exact hC.out.next (Below.drewK _ _ _)
      case measure=>simp [intOf];omega
     ·have g1:(y2:Int)≤q:=by omega
      have g2:¬ (y1:Int)+y2≤(p:Int) - q:=by omega
      obtain ⟨⟨u0,e0⟩,⟨u1,e1⟩,⟨u2,e2⟩,⟨u3,e3⟩,ff,_,hbel,hk,hlt⟩:=hC.out
      have f0:=ff 0
      have f1:=ff 1
      have f2:=ff 2
      have f3:=ff 3
      have HB:=Ha (Hb hbel hk)
      have hss:=hL.out.hs
      clear ff hbel hk hC
      rcases hss with rfl | rfl
      ·have hfin:=Ha (HF.out.1 _ _ _ _ _ _ _ _ hL.out)
       obtain ⟨d0,d1,d2,d3⟩:=jY e0 e1 e2 e3 (.int .i64 (x0:Nat)) (.int .i64 (-(y0:Nat))) (.int .i64 (-(x1:Nat))) (.int .i64 (y1:Nat))
       clear hL HF
       go_wp2
       refine bodyPost_ret (v := .agg #[.int .i64 (x0:Nat),.int .i64 (-(y0:Nat)),.int .i64 (-(x1:Nat)),.int .i64 (y1:Nat)]) (by simp [results,Tryz.results87,go_sem,d0,d1,d2,d3]) rfl ?_
       refine ⟨_,_,_,_,rfl,hfin.out,?_⟩
       rw [←HB.out.2]
       exact (((HB.out.1.setCell (p:=⟨K,0,none⟩) (Nat.le_refl _) _).setCell (p:=⟨K,1,none⟩) (Nat.le_refl _) _).setCell (p:=⟨K,2,none⟩) (Nat.le_refl _) _).setCell (p:=⟨K,3,none⟩) (Nat.le_refl _) _
      ·have hfin:=Ha (HF.out.2 _ _ _ _ _ _ _ _ hL.out)
       obtain ⟨d0,d1,d2,d3⟩:=jY e0 e1 e2 e3 (.int .i64 (-(x0:Nat))) (.int .i64 (y0:Nat)) (.int .i64 (x1:Nat)) (.int .i64 (-(y1:Nat)))
       clear hL HF
       go_wp2
       refine bodyPost_ret (v := .agg #[.int .i64 (-(x0:Nat)),.int .i64 (y0:Nat),.int .i64 (x1:Nat),.int .i64 (-(y1:Nat))]) (by simp [results,Tryz.results87,go_sem,d0,d1,d2,d3]) rfl ?_
       refine ⟨_,_,_,_,rfl,hfin.out,?_⟩
       rw [←HB.out.2]
       exact (((HB.out.1.setCell (p:=⟨K,0,none⟩) (Nat.le_refl _) _).setCell (p:=⟨K,1,none⟩) (Nat.le_refl _) _).setCell (p:=⟨K,2,none⟩) (Nat.le_refl _) _).setCell (p:=⟨K,3,none⟩) (Nat.le_refl _) _
    ·have g1:¬ (y2:Int)≤q:=by omega
     have g3:(q:Int)<y2:=by omega
     clear hq
     obtain ⟨⟨u0,e0⟩,⟨u1,e1⟩,⟨u2,e2⟩,⟨u3,e3⟩,ff,_,hbel,hk,hlt⟩:=hC.out
     have f0:=ff 0
     have f1:=ff 1
     have f2:=ff 2
     have f3:=ff 3
     have HB:=Ha (Hb hbel hk)
     have hss:=hL.out.hs
     clear ff hbel hk hC
     rcases hss with rfl | rfl
     ·have hfin:=Ha (HF.out.1 _ _ _ _ _ _ _ _ hL.out)
      obtain ⟨d0,d1,d2,d3⟩:=jY e0 e1 e2 e3 (.int .i64 (x0:Nat)) (.int .i64 (-(y0:Nat))) (.int .i64 (-(x1:Nat))) (.int .i64 (y1:Nat))
      clear hL HF
      go_wp2
      refine bodyPost_ret (v := .agg #[.int .i64 (x0:Nat),.int .i64 (-(y0:Nat)),.int .i64 (-(x1:Nat)),.int .i64 (y1:Nat)]) (by simp [results,Tryz.results87,go_sem,d0,d1,d2,d3]) rfl ?_
      refine ⟨_,_,_,_,rfl,hfin.out,?_⟩
      rw [←HB.out.2]
      exact (((HB.out.1.setCell (p:=⟨K,0,none⟩) (Nat.le_refl _) _).setCell (p:=⟨K,1,none⟩) (Nat.le_refl _) _).setCell (p:=⟨K,2,none⟩) (Nat.le_refl _) _).setCell (p:=⟨K,3,none⟩) (Nat.le_refl _) _
     ·have hfin:=Ha (HF.out.2 _ _ _ _ _ _ _ _ hL.out)
      obtain ⟨d0,d1,d2,d3⟩:=jY e0 e1 e2 e3 (.int .i64 (-(x0:Nat))) (.int .i64 (y0:Nat)) (.int .i64 (x1:Nat)) (.int .i64 (-(y1:Nat)))
      clear hL HF
      go_wp2
      refine bodyPost_ret (v := .agg #[.int .i64 (-(x0:Nat)),.int .i64 (y0:Nat),.int .i64 (x1:Nat),.int .i64 (-(y1:Nat))]) (by simp [results,Tryz.results87,go_sem,d0,d1,d2,d3]) rfl ?_
      refine ⟨_,_,_,_,rfl,hfin.out,?_⟩
      rw [←HB.out.2]
      exact (((HB.out.1.setCell (p:=⟨K,0,none⟩) (Nat.le_refl _) _).setCell (p:=⟨K,1,none⟩) (Nat.le_refl _) _).setCell (p:=⟨K,2,none⟩) (Nat.le_refl _) _).setCell (p:=⟨K,3,none⟩) (Nat.le_refl _) _
theorem yI (x1 y1 x2 y2:Int) (w:World) :
  Calls Tryz.prog 88 #[.agg #[.int .i64 x1,.int .i64 y1,.int .i64 x2,.int .i64 y2]] w fun e W'=>e = .returned (.bool (y1 != 0))∧Below w.heap.size w W':=by
 go_enter Tryz.func88,Tryz.ntmps88
 go_wp2
 go_ret
 exact ⟨rfl,(Below.refl _ _).alloc (Nat.le_refl _) _⟩
structure GS (W:World) (base M G:Nat) (x y:Value) (a b:Nat) (wr:World):Prop where
 ha:IsNat wr x a
 hb:IsNat wr y b
 le:b≤a
 hM:a≤M
 hG:Nat.gcd a b=G
 fa:Fresh base x
 bel:Below base W wr
 hbs:base≤wr.heap.size
 oa:OwnN wr base x a
 ob:OwnN wr base y b
 ne:b≠0→x.ownBlock≠y.ownBlock
theorem OwnN.next {w W:World} {base n:Nat} {v:Value} (h:OwnN w base v n) (hb:Below w.heap.size w W):OwnN W base v n:=fun h0=>by
 obtain ⟨g,cap,e,h1,h2⟩:=h h0
 exact ⟨g,cap,e,h1,h2.next hb h2.lt⟩
theorem GS.next {W:World} {base M G a b:Nat} {x y:Value} {wr w':World} (h:GS W base M G x y a b wr) (hb:Below wr.heap.size wr w'):GS W base M G x y a b w' :=
 ⟨h.ha.next hb,h.hb.next hb,h.le,h.hM,h.hG,h.fa,h.bel.trans (hb.mono h.hbs),Nat.le_trans h.hbs hb.size,h.oa.next hb,h.ob.next hb,h.ne⟩
theorem GS.applied {W:World} {base M G a b c d:Nat} {x y:Value} {wr w':World} {ga gb ca cb:Nat} (h:GS W base M G x y a b wr) (hra:RowO w' ga ca (dg c)) (hrb:RowO w' gb cb (dg d)) (hne:ga≠gb) (h1:base≤ga) (h2:base≤gb) (hB:Below base wr w')
   (hdc:d<c) (hca:c<a) (hg:Nat.gcd c d=Nat.gcd a b):GS W base M G (.slice (some ⟨ga,0,none⟩) (dg c).length ca) (.slice (some ⟨gb,0,none⟩) (dg d).length cb) c d w' :=
 ⟨hra.isNat,hrb.isNat,by omega,by have:=h.hM;omega,by rw [hg];exact h.hG,fun k hk=>by cases hk;exact h1,h.bel.trans hB,by have:=hra.lt;omega,fun _=>⟨ga,ca,rfl,h1,hra⟩,fun _=>⟨gb,cb,rfl,h2,hrb⟩,
  fun _ e=>hne (Option.some.inj e)⟩
theorem GS.divided {W:World} {base M G a b:Nat} {x y r:Value} {wr w':World} (h:GS W base M G x y a b wr) (hb0:b≠0) (hr:IsNat w' r (a % b)) (ho:OwnR w' wr.heap.size r (a % b)) (hB:Below wr.heap.size wr w'):GS W base M G y r b (a % b) w':=by
 have hm:=Nat.mod_lt a (show 0<b by omega)
 obtain ⟨gb,cb,e,h1,h2⟩:=h.ob hb0
 refine ⟨h.hb.next hB,hr,by omega,by have:=h.hM;have:=h.le;omega,?_,fun k hk=>by rw [e] at hk;cases hk;exact h1,h.bel.trans (hB.mono h.hbs),Nat.le_trans h.hbs hB.size,h.ob.next hB,fun _=>ho.mono h.hbs,fun _ => ?_⟩
 ·rw [←h.hG,Nat.gcd_comm b,←Nat.gcd_rec,Nat.gcd_comm]
 ·obtain ⟨g',c',e',h3,_⟩:=ho
  have:=h2.lt
  rw [e,e']
  intro q
  have q:some gb=some g':=q
  have:=Option.some.inj q
  omega
theorem yJ {b:Nat} (h:(dg b).length≤2):b<1000000000000000000:=by
 have h1:=(av b 2).1 h
 have:B ^ 2=1000000000000000000:=by decide
 omega
def CX (x y:Nat):Prop:=∀ (va vb:Value) (base:Nat) (W:World),IsNat W va x→IsNat W vb y→Fresh base va→Fresh base vb→base≤W.heap.size→OwnN W base va x→OwnN W base vb y→(x≠0→y≠0→va.ownBlock≠vb.ownBlock) →
 Calls Tryz.prog 49 #[va,vb] W fun e W'=>∃ v,e = .returned v∧IsNat W' v (Nat.gcd x y)∧Fresh base v∧Below base W W'
theorem tv {M a b c d:Nat} (hd:d≤M) (h:c<a∨(c=a∧d<b)):c*(M+1)+d<a*(M+1)+b:=by
 rcases h with h | ⟨rfl,h⟩
 ·have:(c+1)*(M+1)≤a*(M+1):=Nat.mul_le_mul_right _ h
  rw [Nat.add_mul,Nat.one_mul] at this
  omega
 ·omega
theorem Eu (x y:Nat) (hx:(dg x).length≤900) (hy:(dg y).length≤900):CX x y:=by
 intro va vb base W ha hb fa fb hbase oa ob hne
 obtain ⟨G,hG⟩:∃ G,Nat.gcd x y=G:=⟨_,rfl⟩
 obtain ⟨M,hM⟩:∃ M,max x y=M:=⟨_,rfl⟩
 have hML:(dg M).length≤900:=by
  rw [←hM]
  rcases Nat.le_total x y with h | h
  ·rw [Nat.max_eq_right h];exact hy
  ·rw [Nat.max_eq_left h];exact hx
 have cc:=fS va vb x y W ha hb
 have hst:∀ k,(x<y→GS W base M G vb va y x (W.drewN k))∧(¬ x<y→GS W base M G va vb x y (W.drewN k)):=fun k=>by
  have hb1:=Below.drewK W.heap.size W k
  have hb2:=Below.drewK base W k
  constructor
  ·intro h
   refine ⟨hb.next hb1,ha.next hb1,by omega,by omega,by rw [Nat.gcd_comm];exact hG,fb,hb2,hbase,fun h0 => ?_,fun h0 => ?_,fun h0 e=>hne h0 (by omega) e.symm⟩
   ·obtain ⟨g,cap,e,h2,h3⟩:=ob h0;exact ⟨g,cap,e,h2,h3.of_block rfl⟩
   ·obtain ⟨g,cap,e,h2,h3⟩:=oa h0;exact ⟨g,cap,e,h2,h3.of_block rfl⟩
  ·intro h
   refine ⟨ha.next hb1,hb.next hb1,by omega,by omega,hG,fa,hb2,hbase,fun h0 => ?_,fun h0 => ?_,fun h0=>hne (by omega) h0⟩
   ·obtain ⟨g,cap,e,h2,h3⟩:=oa h0;exact ⟨g,cap,e,h2,h3.of_block rfl⟩
   ·obtain ⟨g,cap,e,h2,h3⟩:=ob h0;exact ⟨g,cap,e,h2,h3.of_block rfl⟩
 have HST:=Ha hst
 have CC:=Ha cc
 have HML:=Ha hML
 obtain ⟨pa,ca,rfl⟩:=ha.shape
 obtain ⟨pb,cb,rfl⟩:=hb.shape
 rw [hG]
 clear cc hst ha hb fa fb oa ob hne hx hy hML hM hG hbase
 generalize (dg x).length=lx at *
 generalize (dg y).length=ly at *
 go_enter Tryz.func49,Tryz.ntmps49
 go_wp2_with fail
 refine CC.out.mono ?_
 rintro e w' ⟨rfl,k,rfl⟩
 clear CC
 have HS:Hid (∃ u v a b,(if x<y then Value.slice pb ly cb else .slice pa lx ca)=u∧(if x<y then Value.slice pa lx ca else .slice pb ly cb)=v∧GS W base M G u v a b (W.drewN k)):=by
  by_cases h:x<y
  ·exact ⟨_,_,y,x,rfl,rfl,by rw [if_pos h,if_pos h];exact (HST.out k).1 h⟩
  ·exact ⟨_,_,x,y,rfl,rfl,by rw [if_neg h,if_neg h];exact (HST.out k).2 h⟩
 clear HST
 generalize W.drewN k=W0 at *
 by_cases h:x<y
 ·rw [cT h]
  rw [if_pos h,if_pos h] at HS
  have hxy:True:=trivial
  go_wp2
  go_loopw [0,1] (fun u v wr=>∃ (a b:Nat) (pu pv:Option Addr) (cu cv:Nat),u = .slice pu (dg a).length cu∧v = .slice pv (dg b).length cv∧Hid (GS W base M G u v a b wr))
   (fun u v wr=>a6 wr u*(M+1)+a6 wr v)
  case atStart =>
   obtain ⟨u,v,a,b,rfl,rfl,hs⟩:=HS.out
   obtain ⟨pu,cu,e1⟩:=hs.ha.shape
   obtain ⟨pv,cv,e2⟩:=hs.hb.shape
   exact ⟨a,b,pu,pv,cu,cv,e1,e2,hs⟩
  case round =>
   clear HS
   obtain ⟨a,b,pu,pv,cu,cv,rfl,rfl,hs⟩:=hrel
   have hla:(dg a).length≤900:=Nat.le_trans (aZ hs.out.hM) HML.out
   by_cases h2:2<(dg b).length
   ·have h2':(2:Int)<((dg b).length:Int):=by omega
    have hb0:b≠0:=fun e=>by rw [e,aD] at h2;simp at h2
    have ha0:a≠0:=fun e=>by have:=hs.out.le;omega
    have hlb:=aZ hs.out.le
    obtain ⟨k,hk⟩:∃ k,(dg a).length=k+3:=⟨(dg a).length - 3,by omega⟩
    have cl:=iz _ _ a b k wr hs.out.ha hs.out.hb hk (by omega) hs.out.le
    obtain ⟨ga,cpa,ea,hga,_⟩:=hs.out.oa ha0
    obtain ⟨gb,cpb,eb,hgb,_⟩:=hs.out.ob hb0
    have hne:=hs.out.ne hb0
    simp only [Value.slice.injEq,true_and] at ea eb
    obtain ⟨rfl,rfl⟩:=ea
    obtain ⟨rfl,rfl⟩:=eb
    have CL:=Ha cl
    have HF:=Ha (Hb hla (Hb h2 (Hb hb0 (Hb ha0 (Hb hlb (Hb hga (Hb hgb hne)))))))
    clear cl hk h2 hb0 ha0 hlb hla hga hgb hne
    go_wp2_with fail
    refine CL.out.mono ?_
    rintro e w1 ⟨x1,y1,x2,y2,rfl,hgood,hb1⟩
    have H1:=Ha (hs.out.next hb1)
    have HG:=Ha hgood
    clear hgood hb1 CL
    go_wp2_with fail
    refine (yI x1 y1 x2 y2 _).mono ?_
    rintro e w2 ⟨rfl,hb2⟩
    have hz:=hb2.size
    have c0:w2.cell? ⟨w1.heap.size,0,none⟩=some (.int .i64 x1):=(hb2.cell (p:=⟨w1.heap.size,0,none⟩) (by simp)).trans (by go_cell)
    have c1:w2.cell? ⟨w1.heap.size,1,none⟩=some (.int .i64 y1):=(hb2.cell (p:=⟨w1.heap.size,1,none⟩) (by simp)).trans (by go_cell)
    have c2:w2.cell? ⟨w1.heap.size,2,none⟩=some (.int .i64 x2):=(hb2.cell (p:=⟨w1.heap.size,2,none⟩) (by simp)).trans (by go_cell)
    have c3:w2.cell? ⟨w1.heap.size,3,none⟩=some (.int .i64 y2):=(hb2.cell (p:=⟨w1.heap.size,3,none⟩) (by simp)).trans (by go_cell)
    have H2:=Ha (H1.out.next (((Below.refl _ w1).alloc (Nat.le_refl _) _).trans (hb2.mono (by simp))))
    clear hb2 H1 hz
    by_cases hy:y1=0
    ·have hy1:(y1 != 0)=false:=by simpa using hy
     clear hy c0 c1 c2 c3 HG
     have cd:=qe _ _ a b w2 H2.out.ha H2.out.hb HF.out.2.2.1 (by have:=HF.out.1;omega) H2.out.le (by have:=HF.out.2.1;omega)
     have CD:=Ha cd
     clear cd
     go_wp2_with fail
     refine CD.out.mono ?_
     rintro e w3 ⟨q,r,rfl,hq,hr,hb3,ho3⟩
     obtain ⟨pq,cq,rfl⟩:=hq.shape
     obtain ⟨pr,cr,rfl⟩:=hr.shape
     have H3:=Ha (H2.out.divided HF.out.2.2.1 hr ho3 hb3)
     have e1:=Ha (aR hs.out.ha)
     have e2:=Ha (aR hs.out.hb)
     clear hq hr hb3 ho3 CD
     have hlq:True:=trivial
     generalize (dg (a / b)).length=lq at *
     go_wp2
     go_roundw
     case rel=>exact ⟨b,a % b,_,_,_,_,rfl,rfl,H3.out⟩
     case measure =>
      show a6 w3 _*(M+1)+a6 w3 _<a6 wr _*(M+1)+a6 wr _
      rw [e1.out,e2.out,aR H3.out.ha,aR H3.out.hb]
      have q1:=H3.out.le
      have q2:=H3.out.hM
      have q3:=H2.out.le
      have q4:=Nat.mod_lt a (show 0<b by have:=HF.out.2.2.1;omega)
      exact tv (by omega) (by omega)
    ·have hy1:(y1 != 0)=true:=by simpa using hy
     have hgd:Good a b x1 y1 x2 y2:=HG.out.resolve_left hy
     obtain ⟨c,d,g1,g2,g3,g4,g5,g6,g7,g8,g9,g10⟩:=hgd
     obtain ⟨_,_,ea,_,hra⟩:=H2.out.oa HF.out.2.2.2.1
     obtain ⟨_,_,eb,_,hrb⟩:=H2.out.ob HF.out.2.2.1
     simp only [Value.slice.injEq,true_and,Option.some.injEq,Addr.mk.injEq,and_true] at ea eb
     obtain ⟨rfl,rfl⟩:=ea
     obtain ⟨rfl,rfl⟩:=eb
     have ca:=rE x1 y1 x2 y2 a b ga gb cu cv base c d w2 hra hrb (fun e=>HF.out.2.2.2.2.2.2.2 (by rw [e];rfl)) HF.out.2.2.2.2.2.1 HF.out.2.2.2.2.2.2.1 HF.out.2.2.2.2.1 (by have:=HF.out.1;omega) g1 g2 g3 g4 g6 g7 g8 g9 g10
     have CA:=Ha ca
     have HCD:=Ha (Hb g3 (Hb g4 (Hb g5 HF.out.2.2.2.2.2.1)))
     clear hy HG g1 g2 g3 g4 g5 g6 g7 g8 g9 g10 hra hrb ca
     go_wp2_with fail
     refine CA.out.mono ?_
     rintro e w3 ⟨gb',cb',rfl,hr1,hr2,hne,hgb',hb3⟩
     have H3:=Ha (H2.out.applied hr1 hr2 hne HCD.out.2.2.2 hgb' hb3 HCD.out.1 HCD.out.2.1 HCD.out.2.2.1)
     have e1:=Ha (aR hs.out.ha)
     have e2:=Ha (aR hs.out.hb)
     clear hr1 hr2 hne hgb' hb3 CA
     go_wp2
     go_roundw
     case rel=>exact ⟨c,d,_,_,_,_,rfl,rfl,H3.out⟩
     case measure =>
      show a6 w3 _*(M+1)+a6 w3 _<a6 wr _*(M+1)+a6 wr _
      rw [e1.out,e2.out,aR H3.out.ha,aR H3.out.hb]
      have q1:=H3.out.le
      have q2:=H3.out.hM
      exact tv (by omega) (.inl HCD.out.2.1)
   ·have h2':¬ (2:Int)<((dg b).length:Int):=by omega
    by_cases hb0:b=0
    ·subst hb0
     have hlz:(((dg 0).length:Int)==0)=true:=by rw [aD];rfl
     have hGa:a=G:=by have:=hs.out.hG;rwa [Nat.gcd_zero_right] at this
     have HR:=Ha (show IsNat wr (.slice pu (dg a).length cu) G by rw [←hGa];exact hs.out.ha)
     clear hGa
     go_wp2
     go_ret
     exact ⟨_,rfl,HR.out,hs.out.fa,hs.out.bel⟩
    ·have hlz:(((dg b).length:Int)==0)=false:=by rw [beq_eq_false_iff_ne];have:=cP hb0;omega
     have cd:=eh _ _ a b wr hs.out.ha hs.out.hb hb0 (by omega)
     have hml:=Nat.mod_lt a (show 0<b by omega)
     have hb18:=yJ (b:=b) (by omega)
     have hgl:Nat.gcd b (a % b)=G:=by rw [←hs.out.hG,Nat.gcd_comm b,←Nat.gcd_rec,Nat.gcd_comm]
     have hG18:G<1000000000000000000:=by rw [←hgl];exact Nat.lt_of_le_of_lt (Nat.gcd_le_left _ (by omega)) hb18
     have CD:=Ha cd
     have HX:=Ha (Hb hml (Hb hb18 (Hb hgl hG18)))
     clear cd hml hb18 hgl hG18 hb0 h2
     go_wp2_with fail
     refine CD.out.mono ?_
     rintro e w3 ⟨q,r,rfl,hq,hr,_,_,hb3⟩
     obtain ⟨pq,cq,rfl⟩:=hq.shape
     obtain ⟨pr,cr,rfl⟩:=hr.shape
     have C1:=Ha (dE _ b w3 (hs.out.hb.next hb3) HX.out.2.1)
     have C2:=Ha (dE _ (a % b) w3 hr (by have:=HX.out.1;have:=HX.out.2.1;omega))
     have C3:=Ha (gB b (a % b) w3 (by have:=HX.out.2.1;omega) (by have:=HX.out.1;have:=HX.out.2.1;omega))
     have H3:=Ha (hs.out.next hb3)
     rw [HX.out.2.2.1] at C3
     clear CD hq hr hb3
     generalize (dg (a / b)).length=lq at *
     generalize (dg (a % b)).length=lr at *
     generalize a % b=rr at *
     go_wp2_with fail
     refine C1.out.mono ?_
     rintro e w' ⟨rfl,rfl⟩
     go_wp2_with fail
     refine C2.out.mono ?_
     rintro e w' ⟨rfl,rfl⟩
     go_wp2_with fail
     refine C3.out.mono ?_
     rintro e w' ⟨rfl,nn,rfl⟩
     go_wp2_with fail
     refine (gL G _ HX.out.2.2.2).mono ?_
     rintro e w4 ⟨v,rfl,hv,hf,hb4⟩
     have hBB:=(Below.drewK w3.heap.size w3 nn).trans (show Below w3.heap.size _ w4 from hb4)
     have H4:=Ha (H3.out.next hBB)
     have HV:=Ha (Hb hv (show Fresh w3.heap.size v from hf))
     have HS3:=Ha H3.out.hbs
     clear hv hf hb4 hBB C1 C2 C3 H3
     go_wp2
     go_ret
     exact ⟨_,rfl,HV.out.1,HV.out.2.mono HS3.out,H4.out.bel⟩
 ·have hge:¬ bM x y<0:=by unfold bM;rw [if_neg h];split <;> omega
  rw [if_neg h,if_neg h] at HS
  generalize bM x y=c at *
  go_wp2
  go_loopw [0,1] (fun u v wr=>∃ (a b:Nat) (pu pv:Option Addr) (cu cv:Nat),u = .slice pu (dg a).length cu∧v = .slice pv (dg b).length cv∧Hid (GS W base M G u v a b wr))
   (fun u v wr=>a6 wr u*(M+1)+a6 wr v)
  case atStart =>
   obtain ⟨u,v,a,b,rfl,rfl,hs⟩:=HS.out
   obtain ⟨pu,cu,e1⟩:=hs.ha.shape
   obtain ⟨pv,cv,e2⟩:=hs.hb.shape
   exact ⟨a,b,pu,pv,cu,cv,e1,e2,hs⟩
  case round =>
   clear HS
   obtain ⟨a,b,pu,pv,cu,cv,rfl,rfl,hs⟩:=hrel
   have hla:(dg a).length≤900:=Nat.le_trans (aZ hs.out.hM) HML.out
   by_cases h2:2<(dg b).length
   ·have h2':(2:Int)<((dg b).length:Int):=by omega
    have hb0:b≠0:=fun e=>by rw [e,aD] at h2;simp at h2
    have ha0:a≠0:=fun e=>by have:=hs.out.le;omega
    have hlb:=aZ hs.out.le
    obtain ⟨k,hk⟩:∃ k,(dg a).length=k+3:=⟨(dg a).length - 3,by omega⟩
    have cl:=iz _ _ a b k wr hs.out.ha hs.out.hb hk (by omega) hs.out.le
    obtain ⟨ga,cpa,ea,hga,_⟩:=hs.out.oa ha0
    obtain ⟨gb,cpb,eb,hgb,_⟩:=hs.out.ob hb0
    have hne:=hs.out.ne hb0
    simp only [Value.slice.injEq,true_and] at ea eb
    obtain ⟨rfl,rfl⟩:=ea
    obtain ⟨rfl,rfl⟩:=eb
    have CL:=Ha cl
    have HF:=Ha (Hb hla (Hb h2 (Hb hb0 (Hb ha0 (Hb hlb (Hb hga (Hb hgb hne)))))))
    clear cl hk h2 hb0 ha0 hlb hla hga hgb hne
    go_wp2_with fail
    refine CL.out.mono ?_
    rintro e w1 ⟨x1,y1,x2,y2,rfl,hgood,hb1⟩
    have H1:=Ha (hs.out.next hb1)
    have HG:=Ha hgood
    clear hgood hb1 CL
    go_wp2_with fail
    refine (yI x1 y1 x2 y2 _).mono ?_
    rintro e w2 ⟨rfl,hb2⟩
    have hz:=hb2.size
    have c0:w2.cell? ⟨w1.heap.size,0,none⟩=some (.int .i64 x1):=(hb2.cell (p:=⟨w1.heap.size,0,none⟩) (by simp)).trans (by go_cell)
    have c1:w2.cell? ⟨w1.heap.size,1,none⟩=some (.int .i64 y1):=(hb2.cell (p:=⟨w1.heap.size,1,none⟩) (by simp)).trans (by go_cell)
    have c2:w2.cell? ⟨w1.heap.size,2,none⟩=some (.int .i64 x2):=(hb2.cell (p:=⟨w1.heap.size,2,none⟩) (by simp)).trans (by go_cell)
    have c3:w2.cell? ⟨w1.heap.size,3,none⟩=some (.int .i64 y2):=(hb2.cell (p:=⟨w1.heap.size,3,none⟩) (by simp)).trans (by go_cell)
    have H2:=Ha (H1.out.next (((Below.refl _ w1).alloc (Nat.le_refl _) _).trans (hb2.mono (by simp))))
    clear hb2 H1 hz
    by_cases hy:y1=0
    ·have hy1:(y1 != 0)=false:=by simpa using hy
     clear hy c0 c1 c2 c3 HG
     have cd:=qe _ _ a b w2 H2.out.ha H2.out.hb HF.out.2.2.1 (by have:=HF.out.1;omega) H2.out.le (by have:=HF.out.2.1;omega)
     have CD:=Ha cd
     clear cd
     go_wp2_with fail
     refine CD.out.mono ?_
     rintro e w3 ⟨q,r,rfl,hq,hr,hb3,ho3⟩
     obtain ⟨pq,cq,rfl⟩:=hq.shape
     obtain ⟨pr,cr,rfl⟩:=hr.shape
     have H3:=Ha (H2.out.divided HF.out.2.2.1 hr ho3 hb3)
     have e1:=Ha (aR hs.out.ha)
     have e2:=Ha (aR hs.out.hb)
     clear hq hr hb3 ho3 CD
     have hlq:True:=trivial
     generalize (dg (a / b)).length=lq at *
     go_wp2
     go_roundw
     case rel=>exact ⟨b,a % b,_,_,_,_,rfl,rfl,H3.out⟩
     case measure =>
      show a6 w3 _*(M+1)+a6 w3 _<a6 wr _*(M+1)+a6 wr _
      rw [e1.out,e2.out,aR H3.out.ha,aR H3.out.hb]
      have q1:=H3.out.le
      have q2:=H3.out.hM
      have q3:=H2.out.le
      have q4:=Nat.mod_lt a (show 0<b by have:=HF.out.2.2.1;omega)
      exact tv (by omega) (by omega)
    ·have hy1:(y1 != 0)=true:=by simpa using hy
     have hgd:Good a b x1 y1 x2 y2:=HG.out.resolve_left hy
     obtain ⟨c,d,g1,g2,g3,g4,g5,g6,g7,g8,g9,g10⟩:=hgd
     obtain ⟨_,_,ea,_,hra⟩:=H2.out.oa HF.out.2.2.2.1
     obtain ⟨_,_,eb,_,hrb⟩:=H2.out.ob HF.out.2.2.1
     simp only [Value.slice.injEq,true_and,Option.some.injEq,Addr.mk.injEq,and_true] at ea eb
     obtain ⟨rfl,rfl⟩:=ea
     obtain ⟨rfl,rfl⟩:=eb
     have ca:=rE x1 y1 x2 y2 a b ga gb cu cv base c d w2 hra hrb (fun e=>HF.out.2.2.2.2.2.2.2 (by rw [e];rfl)) HF.out.2.2.2.2.2.1 HF.out.2.2.2.2.2.2.1 HF.out.2.2.2.2.1 (by have:=HF.out.1;omega) g1 g2 g3 g4 g6 g7 g8 g9 g10
     have CA:=Ha ca
     have HCD:=Ha (Hb g3 (Hb g4 (Hb g5 HF.out.2.2.2.2.2.1)))
     clear hy HG g1 g2 g3 g4 g5 g6 g7 g8 g9 g10 hra hrb ca
     go_wp2_with fail
     refine CA.out.mono ?_
     rintro e w3 ⟨gb',cb',rfl,hr1,hr2,hne,hgb',hb3⟩
     have H3:=Ha (H2.out.applied hr1 hr2 hne HCD.out.2.2.2 hgb' hb3 HCD.out.1 HCD.out.2.1 HCD.out.2.2.1)
     have e1:=Ha (aR hs.out.ha)
     have e2:=Ha (aR hs.out.hb)
     clear hr1 hr2 hne hgb' hb3 CA
     go_wp2
     go_roundw
     case rel=>exact ⟨c,d,_,_,_,_,rfl,rfl,H3.out⟩
     case measure =>
      show a6 w3 _*(M+1)+a6 w3 _<a6 wr _*(M+1)+a6 wr _
      rw [e1.out,e2.out,aR H3.out.ha,aR H3.out.hb]
      have q1:=H3.out.le
      have q2:=H3.out.hM
      exact tv (by omega) (.inl HCD.out.2.1)
   ·have h2':¬ (2:Int)<((dg b).length:Int):=by omega
    by_cases hb0:b=0
    ·subst hb0
     have hlz:(((dg 0).length:Int)==0)=true:=by rw [aD];rfl
     have hGa:a=G:=by have:=hs.out.hG;rwa [Nat.gcd_zero_right] at this
     have HR:=Ha (show IsNat wr (.slice pu (dg a).length cu) G by rw [←hGa];exact hs.out.ha)
     clear hGa
     go_wp2
     go_ret
     exact ⟨_,rfl,HR.out,hs.out.fa,hs.out.bel⟩
    ·have hlz:(((dg b).length:Int)==0)=false:=by rw [beq_eq_false_iff_ne];have:=cP hb0;omega
     have cd:=eh _ _ a b wr hs.out.ha hs.out.hb hb0 (by omega)
     have hml:=Nat.mod_lt a (show 0<b by omega)
     have hb18:=yJ (b:=b) (by omega)
     have hgl:Nat.gcd b (a % b)=G:=by rw [←hs.out.hG,Nat.gcd_comm b,←Nat.gcd_rec,Nat.gcd_comm]
     have hG18:G<1000000000000000000:=by rw [←hgl];exact Nat.lt_of_le_of_lt (Nat.gcd_le_left _ (by omega)) hb18
     have CD:=Ha cd
     have HX:=Ha (Hb hml (Hb hb18 (Hb hgl hG18)))
     clear cd hml hb18 hgl hG18 hb0 h2
     go_wp2_with fail
     refine CD.out.mono ?_
     rintro e w3 ⟨q,r,rfl,hq,hr,_,_,hb3⟩
     obtain ⟨pq,cq,rfl⟩:=hq.shape
     obtain ⟨pr,cr,rfl⟩:=hr.shape
     have C1:=Ha (dE _ b w3 (hs.out.hb.next hb3) HX.out.2.1)
     have C2:=Ha (dE _ (a % b) w3 hr (by have:=HX.out.1;have:=HX.out.2.1;omega))
     have C3:=Ha (gB b (a % b) w3 (by have:=HX.out.2.1;omega) (by have:=HX.out.1;have:=HX.out.2.1;omega))
     have H3:=Ha (hs.out.next hb3)
     rw [HX.out.2.2.1] at C3
     clear CD hq hr hb3
     generalize (dg (a / b)).length=lq at *
     generalize (dg (a % b)).length=lr at *
     generalize a % b=rr at *
     go_wp2_with fail
     refine C1.out.mono ?_
     rintro e w' ⟨rfl,rfl⟩
     go_wp2_with fail
     refine C2.out.mono ?_
     rintro e w' ⟨rfl,rfl⟩
     go_wp2_with fail
     refine C3.out.mono ?_
     rintro e w' ⟨rfl,nn,rfl⟩
     go_wp2_with fail
     refine (gL G _ HX.out.2.2.2).mono ?_
     rintro e w4 ⟨v,rfl,hv,hf,hb4⟩
     have hBB:=(Below.drewK w3.heap.size w3 nn).trans (show Below w3.heap.size _ w4 from hb4)
     have H4:=Ha (H3.out.next hBB)
     have HV:=Ha (Hb hv (show Fresh w3.heap.size v from hf))
     have HS3:=Ha H3.out.hbs
     clear hv hf hb4 hBB C1 C2 C3 H3
     go_wp2
     go_ret
     exact ⟨_,rfl,HV.out.1,HV.out.2.mono HS3.out,H4.out.bel⟩
theorem Am (a b:ByteArray) (w:World) (k1:chk a.data.toList=0) (k2:chk b.data.toList=0) (hs:¬ ((szB a).size≤18∧(szB b).size≤18)) (hg:CX (ah (szL a.data.toList)) (ah (szL b.data.toList))) (ht:Tab w) :
  Calls Tryz.prog 14 #[.string a,.string b] w fun e W'=>e = .returned (.tuple #[.string (aa (Nat.gcd (ah (szL a.data.toList)) (ah (szL b.data.toList)):Nat)),.int .i64 0])∧Below w.heap.size w W':=by
 have s1:=bP k1
 have s2:=bP k2
 have cb:=bW a b w (by unfold maxLen;omega) (by unfold maxLen;omega)
 have hc2:c9 a.data.toList b.data.toList=0:=by unfold c9;rw [if_pos k1];exact k2
 rw [hc2] at cb
 have z1:=eK a
 have z2:=eK b
 have i1:=fun W=>aY (szB a) W (by unfold maxLen;omega)
 have i2:=fun W=>aY (szB b) W (by unfold maxLen;omega)
 have m1:=fun W=>iW (szB a) W (by omega) (by rw [bL];exact dh k1)
 have m2:=fun W=>iW (szB b) W (by omega) (by rw [bL];exact dh k2)
 rw [bL] at m1 m2
 have y1:=fun W=>cF a W (by unfold maxLen;omega)
 have y2:=fun W=>cF b W (by unfold maxLen;omega)
 have n1:=d9 k1
 have n2:=d9 k2
 generalize ah (szL a.data.toList)=x at *
 generalize ah (szL b.data.toList)=y at *
 have hgl:Nat.gcd x y<lim:=by
  by_cases h0:x=0
  ·subst h0;rw [Nat.gcd_zero_left];exact n2
  ·exact Nat.lt_of_le_of_lt (Nat.gcd_le_left _ (by omega)) n1
 have tx:=fun v W (h:IsNat W v (Nat.gcd x y)) (hb:Below w.heap.size w W)=>io false v (Nat.gcd x y) W h (Nat.le_trans (fk hgl) (by decide)) (ht.next hb)
 have e1:iM (aL false (Nat.gcd x y))=aa (Nat.gcd x y:Nat):=by unfold aL;exact if_pos (by simpa using hgl)
 have e2:iN (aL false (Nat.gcd x y))=0:=by unfold aL;exact if_pos (by simpa using hgl)
 rw [e1,e2] at tx
 have TX:=Ha tx
 have HG:=Ha hg
 have C:=Ha (Hb cb (Hb y1 (Hb y2 (Hb i1 (Hb i2 (Hb m1 m2))))))
 clear cb i1 i2 m1 m2 y1 y2 hc2 ht k1 k2 s1 s2 tx hg hgl e1 e2 n1 n2
 have rest:True:=trivial
 generalize szB a=sa at *
 generalize szB b=sb at *
 by_cases g1:sa.size≤18
 ·have t1:decide ((sa.size:Int)≤18)=true:=by simp;omega
  have t2:decide ((sb.size:Int)≤18)=false:=by simp;omega
  go_enter Tryz.func14,Tryz.ntmps14
  go_wp2_with fail
  refine C.out.1.mono ?_
  rintro e w' ⟨rfl,rfl⟩
  go_wp2_with fail
  refine (C.out.2.1 _).mono ?_
  rintro e w' ⟨rfl,rfl⟩
  go_wp2_with fail
  refine (C.out.2.2.1 _).mono ?_
  rintro e w' ⟨rfl,rfl⟩
  go_wp2_with fail
  refine (C.out.2.2.2.1 _).mono ?_
  rintro e w' ⟨rfl,rfl⟩
  rw [t1]
  go_wp2_with fail
  refine (C.out.2.2.2.2.1 _).mono ?_
  rintro e w' ⟨rfl,rfl⟩
  rw [t2]
  go_wp2_with fail
  refine (C.out.2.2.2.2.2.1 _).mono ?_
  rintro e w1 ⟨va,rfl,hva,hfa,hb1,hoa⟩
  obtain ⟨pa,ca,rfl⟩:=hva.shape
  have H1:=Ha (Hb hva (Hb hfa hb1));have HOA:=Ha hoa;clear hva hfa hb1 hoa
  go_wp2_with fail
  refine (C.out.2.2.2.2.2.2 _).mono ?_
  rintro e w2 ⟨vb,rfl,hvb,hfb,hb2,hob⟩
  obtain ⟨pb,cb,rfl⟩:=hvb.shape
  have hB2:=H1.out.2.2.trans (hb2.mono H1.out.2.2.size)
  have hdis:x≠0→y≠0→(Value.slice pa (dg x).length ca).ownBlock≠(Value.slice pb (dg y).length cb).ownBlock:=fun h1 h2=>by
   obtain ⟨g1,c1,e1,q1,r1⟩:=HOA.out h1
   obtain ⟨g2,c2,e2,q2,r2⟩:=hob h2
   have hlt:=r1.lt
   rw [e1,e2]
   show some g1≠some g2
   intro e
   have:=Option.some.inj e
   omega
  have hoa2:OwnN w2 w.heap.size (Value.slice pa (dg x).length ca) x:=fun h1=>by
   obtain ⟨g1,c1,e1,q1,r1⟩:=HOA.out h1
   exact ⟨g1,c1,e1,q1,r1.next hb2 r1.lt⟩
  have hob2:OwnN w2 w.heap.size (Value.slice pb (dg y).length cb) y:=fun h2=>OwnR.mono (hob h2) H1.out.2.2.size
  have CG:=Ha (HG.out _ _ w.heap.size w2 (H1.out.1.next hb2) hvb H1.out.2.1 (hfb.mono H1.out.2.2.size) hB2.size hoa2 hob2 hdis)
  have H2:=Ha hB2
  clear hvb hfb hb2 hB2 H1 hdis HG HOA hoa2 hob2 hob
  go_wp2_with fail
  refine CG.out.mono ?_
  rintro e w3 ⟨v,rfl,hv,_,hb3⟩
  obtain ⟨pv,cv,rfl⟩:=hv.shape
  have H3:=Ha (Hb hv (H2.out.trans hb3))
  clear hv hb3 CG H2
  generalize (dg (Nat.gcd x y)).length=lv at *
  go_wp2_with fail
  refine (TX.out _ _ H3.out.1 H3.out.2).mono ?_
  rintro e w4 ⟨rfl,hb4⟩
  have H4:=Ha (H3.out.2.trans (hb4.mono H3.out.2.size))
  clear hb4 H3 TX
  go_wp2
  go_ret2
  exact ⟨rfl,H4.out⟩
 ·have t1:decide ((sa.size:Int)≤18)=false:=by simp;omega
  go_enter Tryz.func14,Tryz.ntmps14
  go_wp2_with fail
  refine C.out.1.mono ?_
  rintro e w' ⟨rfl,rfl⟩
  go_wp2_with fail
  refine (C.out.2.1 _).mono ?_
  rintro e w' ⟨rfl,rfl⟩
  go_wp2_with fail
  refine (C.out.2.2.1 _).mono ?_
  rintro e w' ⟨rfl,rfl⟩
  go_wp2_with fail
  refine (C.out.2.2.2.1 _).mono ?_
  rintro e w' ⟨rfl,rfl⟩
  rw [t1]
  go_wp2_with fail
  refine (C.out.2.2.2.2.2.1 _).mono ?_
  rintro e w1 ⟨va,rfl,hva,hfa,hb1,hoa⟩
  obtain ⟨pa,ca,rfl⟩:=hva.shape
  have H1:=Ha (Hb hva (Hb hfa hb1));have HOA:=Ha hoa;clear hva hfa hb1 hoa
  go_wp2_with fail
  refine (C.out.2.2.2.2.2.2 _).mono ?_
  rintro e w2 ⟨vb,rfl,hvb,hfb,hb2,hob⟩
  obtain ⟨pb,cb,rfl⟩:=hvb.shape
  have hB2:=H1.out.2.2.trans (hb2.mono H1.out.2.2.size)
  have hdis:x≠0→y≠0→(Value.slice pa (dg x).length ca).ownBlock≠(Value.slice pb (dg y).length cb).ownBlock:=fun h1 h2=>by
   obtain ⟨g1,c1,e1,q1,r1⟩:=HOA.out h1
   obtain ⟨g2,c2,e2,q2,r2⟩:=hob h2
   have hlt:=r1.lt
   rw [e1,e2]
   show some g1≠some g2
   intro e
   have:=Option.some.inj e
   omega
  have hoa2:OwnN w2 w.heap.size (Value.slice pa (dg x).length ca) x:=fun h1=>by
   obtain ⟨g1,c1,e1,q1,r1⟩:=HOA.out h1
   exact ⟨g1,c1,e1,q1,r1.next hb2 r1.lt⟩
  have hob2:OwnN w2 w.heap.size (Value.slice pb (dg y).length cb) y:=fun h2=>OwnR.mono (hob h2) H1.out.2.2.size
  have CG:=Ha (HG.out _ _ w.heap.size w2 (H1.out.1.next hb2) hvb H1.out.2.1 (hfb.mono H1.out.2.2.size) hB2.size hoa2 hob2 hdis)
  have H2:=Ha hB2
  clear hvb hfb hb2 hB2 H1 hdis HG HOA hoa2 hob2 hob
  go_wp2_with fail
  refine CG.out.mono ?_
  rintro e w3 ⟨v,rfl,hv,_,hb3⟩
  obtain ⟨pv,cv,rfl⟩:=hv.shape
  have H3:=Ha (Hb hv (H2.out.trans hb3))
  clear hv hb3 CG H2
  generalize (dg (Nat.gcd x y)).length=lv at *
  go_wp2_with fail
  refine (TX.out _ _ H3.out.1 H3.out.2).mono ?_
  rintro e w4 ⟨rfl,hb4⟩
  have H4:=Ha (H3.out.2.trans (hb4.mono H3.out.2.size))
  clear hb4 H3 TX
  go_wp2
  go_ret2
  exact ⟨rfl,H4.out⟩
theorem rF (x y:Int) (w:World) (hx:x.natAbs<lim) (hy:y.natAbs<lim) (ht:Tab w) :
  Calls Tryz.prog 14 #[.string (aa x),.string (aa y)] w fun e W'=>e = .returned (.tuple #[.string (aa (Nat.gcd x.natAbs y.natAbs:Nat)),.int .i64 0])∧Below w.heap.size w W':=by
 have e1:=qa hx
 have e2:=qa hy
 by_cases hs:(szB (aa x)).size≤18∧(szB (aa y)).size≤18
 ·have c:=Er (aa x) (aa y) w (dH hx) (dH hy) hs.1 hs.2 ht
  rwa [e1,e2] at c
 ·have c:=Am (aa x) (aa y) w (dH hx) (dH hy) hs (by rw [e1,e2];exact Eu _ _ (Nat.le_trans (fk hx) (by decide)) (Nat.le_trans (fk hy) (by decide))) ht
  rwa [e1,e2] at c
end Go.Proofs.YtbhbhlfkdlfimaaGreatDoor
