/- Parts of the proofs of the texts YtpkloolckbhdaaaGreatDoorQTS. -/
import Derived.Test.YtpkloolckbhdaaaGreatDoorQTS1
set_option linter.all false
set_option maxRecDepth 100000
set_option maxHeartbeats 8000000
namespace Go.Proofs.YtpkloolckbhdaaaGreatDoor.T
open Go.Proofs.YtpkloolckbhdaaaGreatDoor Go
theorem J128 {D:Nat} {x:Rat} (hD:0<D) (h:J D (128*D) x) : -128≤x∧x≤128:=by
 obtain ⟨z,e,b⟩:=h
 have d0:=nat_pos hD
 have z1:(z:Rat)≤((128*D:Nat):Rat):=by rw [←Rat.intCast_natCast];exact Rat.intCast_le_intCast.2 (by omega)
 have z2 : -((128*D:Nat):Rat)≤(z:Rat):=by rw [←Rat.intCast_natCast,←Rat.intCast_neg];exact Rat.intCast_le_intCast.2 (by omega)
 have e2:((128*D:Nat):Rat)=128*(D:Rat):=by rw [Rat.natCast_mul];rfl
 rw [e2,←e] at z1 z2
 exact ⟨Rat.le_of_mul_le_mul_right (by rw [Rat.neg_mul];exact z2) d0,Rat.le_of_mul_le_mul_right z1 d0⟩
theorem co_bd {D b:Nat} {t:Tm} (h:Ns D (128*D) 255 t) (hD:0<D) (hb:0<b) (K:Nat) : -(2048*tk K)≤co (b:Rat) t*(gK K b:Rat)∧co (b:Rat) t*(gK K b:Rat)≤2048*tk K:=by
 obtain ⟨x,q⟩:=t
 obtain ⟨a,e,la⟩:=h.r
 have hx:=J128 hD h.c
 dsimp only at e hx
 subst e
 have t0:=tk_pos K
 have b0:=nat_pos hb
 unfold co
 dsimp only
 split
 ·next k =>
  have r0:=rootR_nonneg k
  have r2:=rootR_sq (div_nn (castn_nonneg a) b0) k
  have e2:rootR ((a:Rat) / (b:Rat))*rootR ((a:Rat) / (b:Rat))*(b:Rat)=(a:Rat):=by rw [r2];exact Rat.div_mul_cancel (by grind)
  generalize rootR ((a:Rat) / (b:Rat))=ρ at *
  have g0:=gK_nn K b
  have g1:=gK_lo K b
  have la':(a:Rat)≤255:=Rat.natCast_le_natCast (b:=255).2 la
  have tt:=Rat.mul_pos t0 t0
  have s:ρ*(gK K b:Rat)≤16*tk K:=by
   refine lesq (by grind) ?_
   have h1:=Rat.mul_nonneg (sq_nonneg ρ) (b:=(b:Rat)*(tk K*tk K) - (gK K b:Rat)*(gK K b:Rat)) (by grind)
   have h2:=Rat.mul_nonneg (a:=255 - (a:Rat)) (by grind) (Rat.le_of_lt tt)
   rw [←e2] at h2
   grind
  have s0:=Rat.mul_nonneg r0 g0
  have m:=mul_bd (a:=x) (b:=ρ*(gK K b:Rat)) (x:=128) (y:=16*tk K) (by constructor <;> grind) (by constructor <;> grind)
  constructor <;> grind
 ·rw [Rat.zero_mul];constructor <;> grind
theorem vl_bd {D b:Nat} (hD:0<D) (hb:0<b) (K:Nat):∀ {L:List Tm},(∀ t∈L,Ns D (128*D) 255 t) → -((L.length:Rat)*(2048*tk K))≤vl (b:Rat) L*(gK K b:Rat)∧vl (b:Rat) L*(gK K b:Rat)≤(L.length:Rat)*(2048*tk K)
 | [],_=>by
  show -(((0:Nat):Rat)*_)≤0*_∧0*_≤((0:Nat):Rat)*_
  rw [show ((0:Nat):Rat)=0 from rfl];constructor <;> grind
 | t::L,h=>by
  have ih:=vl_bd hD hb K (L:=L) fun s hs=>h s (List.mem_cons_of_mem _ hs)
  have c:=co_bd (h t List.mem_cons_self) hD hb K
  rw [List.length_cons,Rat.natCast_add]
  show -(((L.length:Rat)+1)*_)≤(co (b:Rat) t+vl (b:Rat) L)*_∧(co (b:Rat) t+vl (b:Rat) L)*_≤((L.length:Rat)+1)*_
  constructor <;> grind
def Far (l:List Tm):Prop:=∃ C:Rat,0≤C∧∀ K,tk K - C≤tk 29*aL K l∨tk 29*aL K l ≤ -(tk K - C)
theorem dens (B D F:Nat):∃ d:Nat,0<d∧d≤8000∧(B % 20+1)∣d∧(D % 20+1)∣d∧(F % 20+1)∣d:=by
 refine ⟨(B % 20+1)*((D % 20+1)*(F % 20+1)),Nat.mul_pos (by omega) (Nat.mul_pos (by omega) (by omega)),?_,Nat.dvd_mul_right _ _,Nat.dvd_mul_left_of_dvd (Nat.dvd_mul_right _ _) _,Nat.dvd_mul_left_of_dvd (Nat.dvd_mul_left _ _) _⟩
 have h1:B % 20+1≤20:=by omega
 have h2:D % 20+1≤20:=by omega
 have h3:F % 20+1≤20:=by omega
 exact Nat.mul_le_mul h1 (Nat.mul_le_mul h2 h3)
theorem fr_Jd {n:Int} {d k:Nat} (h:(d % 20+1)∣k) (h1 : -128≤n) (h2:n≤127):J k (128*k) (fr n d):=by
 obtain ⟨b,hb⟩:∃ b:Nat,b=d % 20+1:=⟨_,rfl⟩
 rw [←hb] at h
 have b0:0<b:=by omega
 have e:fr n d=Rat.divInt n (b:Int):=by unfold fr;congr 1;omega
 obtain ⟨m,hm⟩:=h
 have ml:m≤k:=by rw [hm];exact Nat.le_mul_of_pos_left _ b0
 refine ⟨n*m,?_,?_⟩
 ·have bz:((b:Nat):Rat)≠0:=by have:=nat_pos b0;grind
  rw [e,Rat.divInt_eq_div,Rat.intCast_natCast,hm,Rat.natCast_mul,Rat.intCast_mul,Rat.intCast_natCast,←Rat.mul_assoc,Rat.div_mul_cancel bz]
 ·rw [Int.natAbs_mul,Int.natAbs_natCast]
  exact Nat.mul_le_mul (by omega) ml
theorem small_far {A C E:Int} {B D F N M:Nat} (h:Sp A C E B D F N M) {l:List Tm} (ok:Oks N M (raw3 A C E B D F N M) l) (hc:∀ t∈l,t.1≠0) (h3:l.length≤3) (h0:l ≠ []):Far l:=by
 obtain ⟨d,d0,d8,dB,dD,dF⟩:=dens B D F
 have raw:∀ t∈raw3 A C E B D F N M,Ns d (128*d) 255 t:=fun t ht=>by
  rcases raw3_mem ht with rfl | rfl | rfl
  ·exact ⟨fr_Jd dB h.a.1 h.a.2,1,rfl,by decide⟩
  ·exact ⟨fr_Jd dD h.c.1 h.c.2,N,rfl,h.n.1⟩
  ·exact ⟨fr_Jd dF h.e.1 h.e.2,M,rfl,h.n.2⟩
 have own:∀ t∈l,∃ b:Nat,t.2=(b:Rat)∧Nrm b∧b≤255∧t.1=vl (b:Rat) (raw3 A C E B D F N M):=fun t ht=>by
  obtain ⟨b,e,nb,lb⟩:=ok.rt t ht
  exact ⟨b,e,nb,lb,by rw [←vl_own ok.red ht,ok.vl _ (ok.red.1 t ht),e]⟩
 obtain ⟨C0,c0,hC⟩:=list_low (E:=6144) ok.red (fun t ht=>by obtain ⟨b,e,_⟩:=own t ht;exact ⟨b,e⟩) h0 h3 hc d0 (by decide) (fun t ht=>by
  obtain ⟨b,e,nb,lb,eo⟩:=own t ht
  obtain ⟨z,ez,_⟩:=vl_small raw (by decide) nb (by omega)
  exact ⟨z,by rw [eo];exact ez⟩) (fun t ht K=>by
  obtain ⟨b,e,nb,lb,eo⟩:=own t ht
  have:=vl_bd d0 nb.1 K raw
  rw [←eo,show (((raw3 A C E B D F N M).length:Nat):Rat)=3 from rfl] at this
  have ea:aT K t=t.1*(gK K b:Rat):=by unfold aT;rw [e,natR_num]
  rw [ea]
  constructor <;> grind)
 refine ⟨C0,c0,fun K => ?_⟩
 have hK:=hC K
 have w1:((d*d*(d*d):Nat):Rat)*(3*6144*(3*6144*(3*6144)))≤tk 29:=by
  have a:((d*d*(d*d):Nat):Rat)≤((8000*8000*(8000*8000):Nat):Rat):=Rat.natCast_le_natCast.2 (Nat.mul_le_mul (Nat.mul_le_mul d8 d8) (Nat.mul_le_mul d8 d8))
  have b:=Rat.mul_nonneg (a:=((8000*8000*(8000*8000):Nat):Rat) - ((d*d*(d*d):Nat):Rat)) (b:=3*6144*(3*6144*(3*6144))) (by grind) (by decide+kernel)
  have c:((8000*8000*(8000*8000):Nat):Rat)*(3*6144*(3*6144*(3*6144)))≤tk 29:=by decide+kernel
  grind
 have w0:(0:Rat)<((d*d*(d*d):Nat):Rat)*(3*6144*(3*6144*(3*6144))):=Rat.mul_pos (nat_pos (Nat.mul_pos (Nat.mul_pos d0 d0) (Nat.mul_pos d0 d0))) (by decide+kernel)
 generalize ((d*d*(d*d):Nat):Rat)*(3*6144*(3*6144*(3*6144)))=W at *
 generalize aL K l=s at *
 generalize tk 29=V at *
 by_cases k0:tk K - C0≤0
 ·rcases tri s 0 with k | rfl | k
  ·have:=Rat.mul_pos (a:=V) (b := -s) (by grind) (by grind)
   exact .inr (by grind)
  ·exact .inl (by grind)
  ·have:=Rat.mul_pos (a:=V) (b:=s) (by grind) (by grind)
   exact .inl (by grind)
 ·rcases hK with k | k
  ·have s0:0≤s:=by
    rcases tri s 0 with j | rfl | j
    ·have:=Rat.mul_pos (a:=W) (b := -s) w0 (by grind);grind
    ·exact Rat.le_refl
    ·exact Rat.le_of_lt j
   have:=Rat.mul_nonneg (a:=V - W) (by grind) s0
   exact .inl (by grind)
  ·have s0:s≤0:=by
    rcases tri s 0 with j | rfl | j
    ·exact Rat.le_of_lt j
    ·exact Rat.le_refl
    ·have:=Rat.mul_pos (a:=W) (b:=s) w0 (by grind);grind
   have:=Rat.mul_nonneg (a:=V - W) (b := -s) (by grind) (by grind)
   exact .inr (by grind)
theorem sg_one {r:List Tm} (n:Nr r) (hl:r.length≤16):∃ C:Rat,0≤C∧∀ e,64≤e→C<tk e →
  (tk e≤tk 60*aL e r→sgE r=0∧sgV r=1)∧(tk 60*aL e r ≤ -tk e→sgE r=0∧sgV r = -1):=by
 obtain ⟨C,c0,h⟩:=sml_bd n r.length (Nat.le_refl _)
 rw [List.take_length] at h
 have t60:=tk_pos 60
 refine ⟨2*tk 60*C,Rat.mul_nonneg (by grind) c0,fun e he hC => ?_⟩
 have b4:=h 4 (e - 4)
 have b64:=h 64 (e - 64)
 rw [show 4+(e - 4)=e by omega] at b4
 rw [show 64+(e - 64)=e by omega] at b64
 have e64:tk e=tk 60*(10000*tk (e - 64)):=by
  rw [show tk e=tk (60+(4+(e - 64))) by congr 1;omega,tk_add,tk_add];rfl
 have u4:=tk_pos (e - 4);have u64:=tk_pos (e - 64)
 have te:=tk_pos e
 have ln:(r.length:Rat)≤16:=Rat.natCast_le_natCast (b:=16).2 hl
 have nm:∀ x y:Rat,tk 60*x≤tk 60*y↔x≤y:=fun x y=>⟨fun k=>Rat.le_of_mul_le_mul_left k t60,fun k=>Rat.mul_le_mul_of_nonneg_left k (Rat.le_of_lt t60)⟩
 by_cases hr:r = []
 ·subst hr
  have z:aL e []=0:=rfl
  rw [z]
  exact ⟨fun k=>absurd k (by grind),fun k=>absurd k (by grind)⟩
 have l0:¬ r.length=0:=fun k=>hr (List.length_eq_zero_iff.1 k)
 unfold sgE sgV
 rw [if_neg l0,if_neg l0]
 unfold dec
 have up:∀ z:Int,0<z→(1:Rat)≤(z:Rat):=fun z k=>Rat.intCast_le_intCast (a:=1).2 (by omega)
 have dn:∀ z:Int,¬ 0<z→(z:Rat)≤0:=fun z k=>Rat.intCast_le_intCast (b:=0).2 (by omega)
 have le:∀ z:Int,z+r.length≤0→(z:Rat)+(r.length:Rat)≤0:=fun z k=>by
  have:=Rat.intCast_le_intCast (b:=0).2 k
  rw [Rat.intCast_add,Rat.intCast_natCast] at this;exact this
 have ge:∀ z:Int,¬ z+r.length≤0→(0:Rat)≤(z:Rat)+(r.length:Rat):=fun z k=>by
  have:=Rat.intCast_le_intCast (a:=0) (b:=z+r.length).2 (by omega)
  rw [Rat.intCast_add,Rat.intCast_natCast] at this;exact this
 generalize sml 4 r r.length=z4 at *
 generalize sml 64 r r.length=z64 at *
 generalize aL e r=s at *
 generalize (r.length:Rat)=m at *
 constructor
 ·intro k
  have p4:¬ z4+r.length≤0:=fun q=>by
   have:=Rat.mul_nonneg (a := -((z4:Rat)+m)) (by have:=le z4 q;grind) (Rat.le_of_lt u4)
   have:=(nm s C).2 (by grind)
   grind
  have p64:0<z64:=by
   by_cases q:0<z64
   ·exact q
   ·exfalso
    have:=Rat.mul_nonneg (a:=16 - ((z64:Rat)+m)) (by have:=dn z64 q;grind) (Rat.le_of_lt u64)
    have:=(nm s (16*tk (e - 64)+C)).2 (by grind)
    have:=Rat.mul_pos t60 u64
    grind
  rw [if_pos p64]
  by_cases q:0<z4
  ·rw [if_pos q];decide
  ·rw [if_neg q,if_neg p4];decide
 ·intro k
  have p4:¬ 0<z4:=fun q=>by
   have:=Rat.mul_nonneg (a:=(z4:Rat)) (by have:=up z4 q;grind) (Rat.le_of_lt u4)
   have:=(nm (-C) s).2 (by grind)
   grind
  have p64:¬ 0<z64:=fun q=>by
   have:=Rat.mul_nonneg (a:=(z64:Rat)) (by have:=up z64 q;grind) (Rat.le_of_lt u64)
   have:=(nm (-C) s).2 (by grind)
   grind
  have q64:z64+r.length≤0:=by
   by_cases q:z64+r.length≤0
   ·exact q
   ·exfalso
    have:=Rat.mul_nonneg (a:=(z64:Rat)+16) (by have:=ge z64 q;grind) (Rat.le_of_lt u64)
    have:=(nm (-(16*tk (e - 64)) - C) s).2 (by grind)
    have:=Rat.mul_pos t60 u64
    grind
  rw [if_neg p64,if_pos q64,if_neg p4]
  by_cases q:z4+r.length≤0
  ·rw [if_pos q];decide
  ·rw [if_neg q];decide
end Go.Proofs.YtpkloolckbhdaaaGreatDoor.T
namespace Go.Proofs.YtpkloolckbhdaaaGreatDoor.T
open Go.Proofs.YtpkloolckbhdaaaGreatDoor Go
theorem big (B:Rat):∃ K,64≤K∧B<tk K:=by
 refine ⟨B.num.natAbs+64,by omega,?_⟩
 have h1:B≤((B.num.natAbs:Nat):Rat):=by
  by_cases k:B≤0
  ·have:=castn_nonneg B.num.natAbs;grind
  ·have d1:(1:Rat)≤(B.den:Rat):=Rat.natCast_le_natCast (a:=1).2 B.den_pos
   have d2:=Rat.mul_nonneg (a:=B) (b:=(B.den:Rat) - 1) (by grind) (by grind)
   have d3:(B.num:Rat)≤((B.num.natAbs:Nat):Rat):=by
    rw [←Rat.intCast_natCast];exact Rat.intCast_le_intCast.2 (by omega)
   rw [num_is] at d3
   grind
 have h2:B.num.natAbs<tenTo (B.num.natAbs+64):=by
  have p:B.num.natAbs<10 ^ B.num.natAbs:=Nat.lt_pow_self (by decide)
  exact Nat.lt_of_lt_of_le p (tenTo_mono (show B.num.natAbs≤B.num.natAbs+64 by omega))
 have h3:((B.num.natAbs:Nat):Rat)<tk (B.num.natAbs+64):=Rat.natCast_lt_natCast.2 h2
 grind
theorem core {T X Y Z W C:Rat} (t0:0<T) (w0:0<W) (hx:T≤2*W*X) (hy:T≤2*W*Y) (h:X*Y - Z≤C*T) (hC:8*(W*W)*C≤T):T*T≤8*(W*W)*Z:=by
 have h1:=Rat.mul_nonneg (a:=2*W*X - T) (b:=2*W*Y - T) (by grind) (by grind)
 have h2:=Rat.mul_nonneg (a:=2*W*X - T) (b:=T) (by grind) (Rat.le_of_lt t0)
 have h3:=Rat.mul_nonneg (a:=2*W*Y - T) (b:=T) (by grind) (Rat.le_of_lt t0)
 have h4:=Rat.mul_nonneg (a:=W*W) (b:=C*T - (X*Y - Z)) (Rat.le_of_lt (Rat.mul_pos w0 w0)) (by grind)
 have h5:=Rat.mul_nonneg (a:=T - 8*(W*W)*C) (b:=T) (by grind) (Rat.le_of_lt t0)
 grind
theorem prods_nr {a b:List Tm} (na:Nr a) (nb:Nr b):Nr (prods a b):=fun x hx=>by
 obtain ⟨t,ht,hx⟩:=List.mem_flatMap.1 hx
 obtain ⟨s,hs,rfl⟩:=List.mem_map.1 hx
 obtain ⟨i,ei⟩:=na t ht
 obtain ⟨j,ej⟩:=nb s hs
 exact ⟨i*j,by show t.2*s.2=_;rw [ei,ej,Rat.natCast_mul]⟩
theorem w60:8*(tk 29*tk 29)≤tk 60:=by decide+kernel
theorem w30:2*tk 29≤tk 60:=by decide+kernel
theorem lift60 {T V s:Rat} (t0:0<T) (v0:0<V) (hV:V≤tk 60) (h:T≤V*s):T≤tk 60*s:=by
 have s0:0≤s:=by
  rcases tri s 0 with j | rfl | j
  ·have:=Rat.mul_pos (a:=V) (b := -s) v0 (by grind);grind
  ·exact Rat.le_refl
  ·exact Rat.le_of_lt j
 have:=Rat.mul_nonneg (a:=tk 60 - V) (by grind) s0
 grind
theorem sg_prod {a b r:List Tm} (na:Nr a) (nb:Nr b) (nr:Nr r) (la:a.length≤16) (lb:b.length≤16) (lr:r.length≤16) (fa:Far a) (fb:Far b) (hv:∀ m,0<m→vl m r=vl m (prods a b)) :
  sgE a=0∧sgE b=0∧sgE r=0∧sgV r=sgV a*sgV b∧(sgV a=1∨sgV a = -1)∧(sgV b=1∨sgV b = -1):=by
 obtain ⟨A1,a1,ha⟩:=fa
 obtain ⟨B1,b1,hb⟩:=fb
 obtain ⟨Sa,sa0,ka⟩:=sg_one na la
 obtain ⟨Sb,sb0,kb⟩:=sg_one nb lb
 obtain ⟨Sr,sr0,kr⟩:=sg_one nr lr
 obtain ⟨C1,c1,h1⟩:=vl_O nr (prods_nr na nb) hv
 obtain ⟨C2,c2,h2⟩:=prods_O na nb
 have w0:=tk_pos 29
 have ww:=Rat.mul_pos w0 w0
 obtain ⟨K,hK,hB⟩:=big (2*A1+2*B1+Sa+Sb+Sr+8*(tk 29*tk 29)*(C1+C2))
 have cc:=Rat.mul_nonneg (a:=8*(tk 29*tk 29)) (b:=C1+C2) (by grind) (by grind)
 have t1:=one_tk K
 have t0:=tk_pos K
 have e2:=tk_two K
 have T2:tk K≤tk (2*K):=by
  have:=Rat.mul_nonneg (a:=tk K) (b:=tk K - 1) (Rat.le_of_lt t0) (by grind)
  rw [e2];grind
 have xa:=ha K;have xb:=hb K
 have pa:=ka K hK (by grind)
 have pb:=kb K hK (by grind)
 have pr:=kr (2*K) (by omega) (by grind)
 have q1:=h1 (2*K);have q2:=h2 K
 rw [Nat.zero_mul,show tk 0=1 from rfl] at q1
 rw [Nat.one_mul] at q2
 dsimp only at q1 q2
 have t20:=tk_pos (2*K)
 have err:=Rat.mul_nonneg c1 (b:=tk K - 1) (by grind)
 have hZ:aL K a*aL K b - aL (2*K) r≤(C1+C2)*tk K∧aL (2*K) r - aL K a*aL K b≤(C1+C2)*tk K:=by constructor <;> grind
 have hC:8*(tk 29*tk 29)*(C1+C2)≤tk K:=by grind
 generalize aL K a=X at *
 generalize aL K b=Y at *
 generalize aL (2*K) r=Z at *
 have X1:tk K≤2*tk 29*X∨tk K≤2*tk 29 * -X:=by
  rcases xa with k | k
  ·exact .inl (by grind)
  ·exact .inr (by grind)
 have Y1:tk K≤2*tk 29*Y∨tk K≤2*tk 29 * -Y:=by
  rcases xb with k | k
  ·exact .inl (by grind)
  ·exact .inr (by grind)
 have v2:(0:Rat)<2*tk 29:=by grind
 have v8:(0:Rat)<8*(tk 29*tk 29):=by grind
 clear q1 q2 xa xb err ha hb ka kb kr h1 h2 hB T2
 rcases X1 with x | x <;> rcases Y1 with y | y
 ·have z:=core t0 w0 x y hZ.1 hC
  rw [←e2] at z
  have ea:=pa.1 (lift60 t0 v2 w30 x);have eb:=pb.1 (lift60 t0 v2 w30 y);have er:=pr.1 (lift60 t20 v8 w60 z)
  exact ⟨ea.1,eb.1,er.1,by rw [ea.2,eb.2,er.2];rfl,.inl ea.2,.inl eb.2⟩
 ·have z:=core (Z := -Z) t0 w0 x y (by grind) hC
  rw [←e2] at z
  have lx:=lift60 t0 v2 w30 x;have ly:=lift60 t0 v2 w30 y;have lz:=lift60 t20 v8 w60 z
  have ea:=pa.1 lx;have eb:=pb.2 (by grind);have er:=pr.2 (by grind)
  exact ⟨ea.1,eb.1,er.1,by rw [ea.2,eb.2,er.2];rfl,.inl ea.2,.inr eb.2⟩
 ·have z:=core (Z := -Z) t0 w0 x y (by grind) hC
  rw [←e2] at z
  have lx:=lift60 t0 v2 w30 x;have ly:=lift60 t0 v2 w30 y;have lz:=lift60 t20 v8 w60 z
  have ea:=pa.2 (by grind);have eb:=pb.1 ly;have er:=pr.2 (by grind)
  exact ⟨ea.1,eb.1,er.1,by rw [ea.2,eb.2,er.2];rfl,.inr ea.2,.inl eb.2⟩
 ·have z:=core (Z:=Z) t0 w0 x y (by grind) hC
  rw [←e2] at z
  have lx:=lift60 t0 v2 w30 x;have ly:=lift60 t0 v2 w30 y;have lz:=lift60 t20 v8 w60 z
  have ea:=pa.2 (by grind);have eb:=pb.2 (by grind);have er:=pr.1 lz
  exact ⟨ea.1,eb.1,er.1,by rw [ea.2,eb.2,er.2];rfl,.inr ea.2,.inr eb.2⟩
end Go.Proofs.YtpkloolckbhdaaaGreatDoor.T
namespace Go.Proofs.YtpkloolckbhdaaaGreatDoor.T
open Go.Proofs.YtpkloolckbhdaaaGreatDoor Go Go.RowKit
theorem Sign_ok (l:List Tm) (p:Option Addr) (n c:Nat) (w:World) (h:Su w p n c l) (ht:Tab w) (ht2:Tab64 w) (hS:Sm w) :
  Calls Tryz.prog 24 #[.slice p n c] w fun e W'=>e = .returned (.tuple #[.int .i64 (sgV l),.int .i64 (sgE l)])∧Below w.heap.size w W':=by
 have hA:=fun W b (hW:Below w.heap.size w W) (hb:Blk W b #[.slice p n c])=>areSurds_1 b p n c l W hb (h.next hW).sd (ht.next hW) (TabQ_next ht2 hW) (hS.next hW)
 have hB:=fun W (hW:Below w.heap.size w W)=>sign_ok l p n c W (h.next hW) (ht.next hW) (TabQ_next ht2 hW)
 have O:=Lib.hid (And.intro hA hB);clear hA hB h ht ht2 hS
 generalize sgV l=sv at *
 generalize sgE l=se at *
 go_enter Tryz.func24,Tryz.ntmps24
 go_wp2_with fail
 refine (O.out.1 _ _ ((Below.refl _ w).alloc (Nat.le_refl _) _) (Blk.new w _ _)).mono ?_
 rintro e W1 ⟨rfl,b⟩
 have B1:=Lib.hid (((Below.refl _ w).alloc (Nat.le_refl _) (.cells #[.slice p n c] 41)).trans (b.mono (by simp)))
 clear b
 go_wp2_with fail
 refine (O.out.2 _ B1.out).mono ?_
 rintro e W2 ⟨rfl,b⟩
 have B2:=Lib.hid (B1.out.trans (b.mono B1.out.size));clear b
 go_wp2
 go_ret2
 exact ⟨rfl,B2.out⟩
theorem good_nr {l:List Tm} (h:Good l):Nr l:=fun t ht=>by obtain ⟨_,_,b,e,_⟩:=h.ok t ht;exact ⟨b,e⟩
theorem good_ne {l:List Tm} (h:Good l):∀ t∈l,t.1≠0:=fun t ht=>(h.ok t ht).1
theorem oks_len {N M:Nat} {L l:List Tm} (ok:Oks N M L l):l.length≤3:=by
 have:=red_len (cls N M) (l.map (·.2)) (List.pairwise_map.2 ok.red.2) fun s hs=>by
  obtain ⟨t,ht,rfl⟩:=List.mem_map.1 hs
  exact ok.cl t ht (by have:=ok.red.1 t ht;grind)
 rw [List.length_map] at this
 exact this
theorem small_sign {A C E:Int} {B D F N M:Nat} (h:Sp A C E B D F N M) {l:List Tm} (ok:Oks N M (raw3 A C E B D F N M) l) (g:Good l) :
  sgE l=0∧(l.length=0∧sgV l=0∨0<l.length∧(sgV l=1∨sgV l = -1)):=by
 by_cases h0:l = []
 ·subst h0
  exact ⟨rfl,.inl ⟨rfl,rfl⟩⟩
 obtain ⟨A1,a1,ha⟩:=small_far h ok (good_ne g) (oks_len ok) h0
 obtain ⟨S,s0,k⟩:=sg_one (good_nr g) ok.l16
 obtain ⟨K,hK,hB⟩:=big (2*A1+S)
 have t0:=tk_pos K
 have w0:=tk_pos 29
 have p:=k K hK (by grind)
 have l0:0<l.length:=List.length_pos_iff.2 h0
 rcases ha K with x | x
 ·have:=p.1 (lift60 t0 (by grind) w30 (by grind))
  exact ⟨this.1,.inr ⟨l0,.inl this.2⟩⟩
 ·have y:=lift60 (s := -aL K l) t0 (by grind) w30 (by grind)
  have:=p.2 (by grind)
  exact ⟨this.1,.inr ⟨l0,.inr this.2⟩⟩
theorem prod_sign {A C E A' C' E':Int} {B D F N M B' D' F' N' M':Nat} (h:Sp A C E B D F N M) (h':Sp A' C' E' B' D' F' N' M') {l k r:List Tm} (ok:Oks N M (raw3 A C E B D F N M) l) (ok':Oks N' M' (raw3 A' C' E' B' D' F' N' M') k) (g:Good l) (g':Good k) (gr:Good r)
  {D2 M2 R2 L2:Nat} {C2:List Rat} (okr:Ok D2 M2 R2 L2 C2 (prods (raw3 A C E B D F N M) (raw3 A' C' E' B' D' F' N' M')) r):sgE r=0∧sgV r=sgV l*sgV k:=by
 have nn:∀ {l:List Tm},Red l→∀ t∈l,0≤t.2:=fun h t ht=>Rat.le_of_lt (h.1 t ht)
 have hv:∀ m,0<m→T.vl m r=T.vl m (prods l k):=fun m hm=>by
  rw [okr.vl m hm,prods_vl hm (nn ok.red) (nn ok'.red) (fun t ht=>(ok.raw t ht).nn) (fun t ht=>(ok'.raw t ht).nn) ok.vl ok'.vl]
 have none:prods l k = []→r = []:=fun e=>vl_nil okr.red (good_ne gr) fun m hm=>by rw [hv m hm,e];rfl
 by_cases l0:l = []
 ·have r0:=none (by rw [l0];rfl)
  subst l0;subst r0
  refine ⟨rfl,?_⟩
  show (0:Int)=0*_
  omega
 by_cases k0:k = []
 ·have r0:=none (by rw [k0];unfold prods;simp)
  subst k0;subst r0
  refine ⟨rfl,?_⟩
  show (0:Int)=_*0
  omega
 have:=sg_prod (good_nr g) (good_nr g') (good_nr gr) ok.l16 ok'.l16 okr.l16 (small_far h ok (good_ne g) (oks_len ok) l0) (small_far h' ok' (good_ne g') (oks_len ok') k0) hv
 exact ⟨this.2.2.1,this.2.2.2.1⟩
end Go.Proofs.YtpkloolckbhdaaaGreatDoor.T
namespace Go.Proofs.YtpkloolckbhdaaaGreatDoor.T
open Go.Proofs.YtpkloolckbhdaaaGreatDoor Go Go.RowKit
theorem max4_4 (W:World):(Builtin.max_ #[28,28,28,28] 28 #[.int .i64 0,.int .i64 0,.int .i64 0,.int .i64 0]).run Tryz.prog W = .ok (.int .i64 0) W:=by kernel_rfl
theorem same_c {C:List Rat}:∀ c∈C,c∈C:=fun _ h=>h
end Go.Proofs.YtpkloolckbhdaaaGreatDoor.T
namespace Go.Proofs.YtpkloolckbhdaaaGreatDoor.T
open Go.Proofs.YtpkloolckbhdaaaGreatDoor Go Go.RowKit
theorem pd60:D0*D0*(255*255)<tenTo 60:=by decide+kernel
end Go.Proofs.YtpkloolckbhdaaaGreatDoor.T
namespace Go.Proofs.YtpkloolckbhdaaaGreatDoor.T
open Go.Proofs.YtpkloolckbhdaaaGreatDoor Go Go.RowKit
theorem tri_mul {s t:Int} (hs:s=0∨s=1∨s = -1) (ht:t=0∨t=1∨t = -1):IntKind.i64.wrap (s*t)=s*t∧IntKind.i64.wrap (s*s)=s*s:=by
 rcases hs with rfl | rfl | rfl <;> rcases ht with rfl | rfl | rfl <;> decide
theorem small_three {A C E:Int} {B D F N M:Nat} (h:Sp A C E B D F N M) {l:List Tm} (ok:Oks N M (raw3 A C E B D F N M) l) (g:Good l):sgV l=0∨sgV l=1∨sgV l = -1:=by
 rcases (small_sign h ok g).2 with ⟨_,h⟩ | ⟨_,h | h⟩
 ·exact .inl h
 ·exact .inr (.inl h)
 ·exact .inr (.inr h)
theorem sq16 (N M N' M':Nat):(prC (cls N M) (cls N' M')).length≤16:=by show 9≤16;decide
theorem pm60s:256*(3*(M0*255)*(3*(M0*255))*(255*255*(255*255)))<tenTo 60:=by decide+kernel
theorem SurdSigns_main (A1 C1 E1:Int) (B1 D1 F1 N1 M1:Nat) (A2 C2 E2:Int) (B2 D2 F2 N2 M2:Nat) (w:World) (s1:Sp A1 C1 E1 B1 D1 F1 N1 M1) (s2:Sp A2 C2 E2 B2 D2 F2 N2 M2) (ht:Tab w) (ht2:Tab64 w) (hS:Sm w) :
  Calls Tryz.prog 6 #[.agg #[.int .i8 A1,.int .i8 C1,.int .i8 E1,.int .u8 B1,.int .u8 D1,.int .u8 F1,.int .u8 N1,.int .u8 M1],.agg #[.int .i8 A2,.int .i8 C2,.int .i8 E2,.int .u8 B2,.int .u8 D2,.int .u8 F2,.int .u8 N2,.int .u8 M2]] w fun e W'=>e = .returned (.bool true)∧Below w.heap.size w W':=by
 have T:=Lib.hid (fun W (h:Below w.heap.size w W)=>And.intro (ht.next h) (And.intro (TabQ_next ht2 h) (hS.next h)));clear ht ht2 hS
 have S1:=Lib.hid s1
 have S2:=Lib.hid s2
 clear s1 s2
 have hm4:=max4_4
 have hbx:Bxs w w.heap.size [[.int .i8 A1,.int .i8 C1,.int .i8 E1,.int .u8 B1,.int .u8 D1,.int .u8 F1,.int .u8 N1,.int .u8 M1],[.int .i8 A2,.int .i8 C2,.int .i8 E2,.int .u8 B2,.int .u8 D2,.int .u8 F2,.int .u8 N2,.int .u8 M2]] ((w.alloc (.cells #[.int .i8 A1,.int .i8 C1,.int .i8 E1,.int .u8 B1,.int .u8 D1,.int .u8 F1,.int .u8 N1,.int .u8 M1] 39)).alloc (.cells #[.int .i8 A2,.int .i8 C2,.int .i8 E2,.int .u8 B2,.int .u8 D2,.int .u8 F2,.int .u8 N2,.int .u8 M2] 39)):=(((Bxs.nil w w (Below.refl _ _)).push rfl [.int .i8 A1,.int .i8 C1,.int .i8 E1,.int .u8 B1,.int .u8 D1,.int .u8 F1,.int .u8 N1,.int .u8 M1] 39).push (by simp) [.int .i8 A2,.int .i8 C2,.int .i8 E2,.int .u8 B2,.int .u8 D2,.int .u8 F2,.int .u8 N2,.int .u8 M2] 39)
 have HB:=Lib.hid hbx;clear hbx
 go_enter Tryz.func6,Tryz.ntmps6
 go_wp2_with fail
 generalize ((w.alloc (.cells #[.int .i8 A1,.int .i8 C1,.int .i8 E1,.int .u8 B1,.int .u8 D1,.int .u8 F1,.int .u8 N1,.int .u8 M1] 39)).alloc (.cells #[.int .i8 A2,.int .i8 C2,.int .i8 E2,.int .u8 B2,.int .u8 D2,.int .u8 F2,.int .u8 N2,.int .u8 M2] 39))=W0 at *
 refine (of_sv A1 C1 E1 B1 D1 F1 N1 M1 _ S1.out (T.out _ HB.out.below).1 (T.out _ HB.out.below).2.1 (T.out _ HB.out.below).2.2).mono ?_
 rintro e W ⟨v1,rfl,⟨l1,⟨p1,n1,c1,rfl,s⟩,o⟩,b⟩
 have HN:=Lib.hid (HB.out.next b)
 have O1:=Lib.hid (s)
 have K1:=Lib.hid (o)
 clear HB b;have HB:=HN;clear HN
 clear s o
 have e0:=(show World.cell? _ ⟨w.heap.size+1,0,none⟩=some (.int .i8 A2) from HB.out.cells 1 _ rfl 0 _ rfl)
 have e1:=(show World.cell? _ ⟨w.heap.size+1,1,none⟩=some (.int .i8 C2) from HB.out.cells 1 _ rfl 1 _ rfl)
 have e2:=(show World.cell? _ ⟨w.heap.size+1,2,none⟩=some (.int .i8 E2) from HB.out.cells 1 _ rfl 2 _ rfl)
 have e3:=(show World.cell? _ ⟨w.heap.size+1,3,none⟩=some (.int .u8 B2) from HB.out.cells 1 _ rfl 3 _ rfl)
 have e4:=(show World.cell? _ ⟨w.heap.size+1,4,none⟩=some (.int .u8 D2) from HB.out.cells 1 _ rfl 4 _ rfl)
 have e5:=(show World.cell? _ ⟨w.heap.size+1,5,none⟩=some (.int .u8 F2) from HB.out.cells 1 _ rfl 5 _ rfl)
 have e6:=(show World.cell? _ ⟨w.heap.size+1,6,none⟩=some (.int .u8 N2) from HB.out.cells 1 _ rfl 6 _ rfl)
 have e7:=(show World.cell? _ ⟨w.heap.size+1,7,none⟩=some (.int .u8 M2) from HB.out.cells 1 _ rfl 7 _ rfl)
 go_wp2_with fail
 refine (of_sv A2 C2 E2 B2 D2 F2 N2 M2 _ S2.out (T.out _ HB.out.below).1 (T.out _ HB.out.below).2.1 (T.out _ HB.out.below).2.2).mono ?_
 rintro e W ⟨v2,rfl,⟨l2,⟨p2,n2,c2,rfl,s⟩,o⟩,b⟩
 have HN:=Lib.hid (HB.out.next b)
 have O1':=Lib.hid (O1.out.next b);clear O1;have O1:=O1';clear O1'
 have O2:=Lib.hid (s)
 have K2:=Lib.hid (o)
 clear HB b;have HB:=HN;clear HN
 clear s o
 clear e0 e1 e2 e3 e4 e5 e6 e7
 have G1:=Lib.hid (small_sign S1.out K1.out O1.out.good)
 have Z1:=Lib.hid (small_three S1.out K1.out O1.out.good)
 have H1:=Lib.hid O1.out.good
 have Q1:=Lib.hid O1.out.sr.1
 have G2:=Lib.hid (small_sign S2.out K2.out O2.out.good)
 have Z2:=Lib.hid (small_three S2.out K2.out O2.out.good)
 have H2:=Lib.hid O2.out.good
 have Q2:=Lib.hid O2.out.sr.1
 go_wp2_with fail
 refine (Sign_ok l1 p1 n1 c1 _ O1.out (T.out _ HB.out.below).1 (T.out _ HB.out.below).2.1 (T.out _ HB.out.below).2.2).mono ?_
 rintro e W ⟨rfl,b⟩
 have HN:=Lib.hid (HB.out.next b)
 have O1':=Lib.hid (O1.out.next b);clear O1;have O1:=O1';clear O1'
 have O2':=Lib.hid (O2.out.next b);clear O2;have O2:=O2';clear O2'
 clear HB b;have HB:=HN;clear HN
 rw [G1.out.1]
 go_wp2_with fail
 refine (Sign_ok l2 p2 n2 c2 _ O2.out (T.out _ HB.out.below).1 (T.out _ HB.out.below).2.1 (T.out _ HB.out.below).2.2).mono ?_
 rintro e W ⟨rfl,b⟩
 have HN:=Lib.hid (HB.out.next b)
 have O1':=Lib.hid (O1.out.next b);clear O1;have O1:=O1';clear O1'
 have O2':=Lib.hid (O2.out.next b);clear O2;have O2:=O2';clear O2'
 clear HB b;have HB:=HN;clear HN
 rw [G2.out.1]
 go_wp2_with fail
 refine (Mul_sv (C2:=prC (cls N1 M1) (cls N2 M2)) _ (.slice p1 n1 c1) (.slice p2 n2 c2) ⟨l1,⟨p1,n1,c1,rfl,O1.out⟩,K1.out⟩ ⟨l2,⟨p2,n2,c2,rfl,O2.out⟩,K2.out⟩ (by decide) (by decide) (by decide) pm60s pd60 (sq16 _ _ _ _) same_c (T.out _ HB.out.below).1 (T.out _ HB.out.below).2.1 (T.out _ HB.out.below).2.2).mono ?_
 rintro e W ⟨v3,rfl,⟨l3,⟨p3,n3,c3,rfl,s⟩,o⟩,b⟩
 have HN:=Lib.hid (HB.out.next b)
 have O1':=Lib.hid (O1.out.next b);clear O1;have O1:=O1';clear O1'
 have O2':=Lib.hid (O2.out.next b);clear O2;have O2:=O2';clear O2'
 have O3:=Lib.hid (s)
 have G3:=Lib.hid (prod_sign S1.out S2.out K1.out K2.out H1.out H2.out s.good o)
 clear HB b;have HB:=HN;clear HN
 clear s o
 go_wp2_with fail
 refine (Mul_sv (C2:=prC (cls N1 M1) (cls N1 M1)) _ (.slice p1 n1 c1) (.slice p1 n1 c1) ⟨l1,⟨p1,n1,c1,rfl,O1.out⟩,K1.out⟩ ⟨l1,⟨p1,n1,c1,rfl,O1.out⟩,K1.out⟩ (by decide) (by decide) (by decide) pm60s pd60 (sq16 _ _ _ _) same_c (T.out _ HB.out.below).1 (T.out _ HB.out.below).2.1 (T.out _ HB.out.below).2.2).mono ?_
 rintro e W ⟨v4,rfl,⟨l4,⟨p4,n4,c4,rfl,s⟩,o⟩,b⟩
 have HN:=Lib.hid (HB.out.next b)
 have O3':=Lib.hid (O3.out.next b);clear O3;have O3:=O3';clear O3'
 have O4:=Lib.hid (s)
 have G4:=Lib.hid (prod_sign S1.out S1.out K1.out K1.out H1.out H1.out s.good o)
 clear HB b;have HB:=HN;clear HN
 clear s o
 clear O1 O2
 go_wp2_with fail
 refine (Sign_ok l3 p3 n3 c3 _ O3.out (T.out _ HB.out.below).1 (T.out _ HB.out.below).2.1 (T.out _ HB.out.below).2.2).mono ?_
 rintro e W ⟨rfl,b⟩
 have HN:=Lib.hid (HB.out.next b)
 have O4':=Lib.hid (O4.out.next b);clear O4;have O4:=O4';clear O4'
 clear HB b;have HB:=HN;clear HN
 rw [G3.out.1,G3.out.2]
 clear O3
 go_wp2_with fail
 refine (Sign_ok l4 p4 n4 c4 _ O4.out (T.out _ HB.out.below).1 (T.out _ HB.out.below).2.1 (T.out _ HB.out.below).2.2).mono ?_
 rintro e W ⟨rfl,b⟩
 have HN:=Lib.hid (HB.out.next b)
 clear HB b;have HB:=HN;clear HN
 rw [G4.out.1,G4.out.2]
 clear O4
 have V1:=Lib.hid (show n1=0∧sgV l1=0∨0<n1∧(sgV l1=1∨sgV l1 = -1) by rw [Q1.out];exact G1.out.2)
 clear G1 G2 G3 G4 K1 K2 H1 H2 Q1 Q2 S1 S2
 have tm:=tri_mul Z1.out Z2.out
 generalize sgV l1=s at *
 generalize sgV l2=t at *
 have Z2':=Z2.out;clear Z1 Z2
 have V1':=V1.out;clear V1
 rcases V1' with ⟨rfl,rfl⟩ | ⟨hn,rfl | rfl⟩ <;> rcases Z2' with rfl | rfl | rfl
 ·clear tm
  go_wp2_with fail
  refine (awake4_any _ (T.out _ HB.out.below).1 (T.out _ HB.out.below).2.1 (T.out _ HB.out.below).2.2).mono ?_
  rintro e W ⟨rfl,b⟩
  have HN:=Lib.hid (HB.out.next b)
  clear HB b;have HB:=HN;clear HN
  go_wp2
  go_ret
  exact ⟨rfl,HB.out.below⟩
 ·clear tm
  go_wp2_with fail
  refine (awake4_any _ (T.out _ HB.out.below).1 (T.out _ HB.out.below).2.1 (T.out _ HB.out.below).2.2).mono ?_
  rintro e W ⟨rfl,b⟩
  have HN:=Lib.hid (HB.out.next b)
  clear HB b;have HB:=HN;clear HN
  go_wp2
  go_ret
  exact ⟨rfl,HB.out.below⟩
 ·clear tm
  go_wp2_with fail
  refine (awake4_any _ (T.out _ HB.out.below).1 (T.out _ HB.out.below).2.1 (T.out _ HB.out.below).2.2).mono ?_
  rintro e W ⟨rfl,b⟩
  have HN:=Lib.hid (HB.out.next b)
  clear HB b;have HB:=HN;clear HN
  go_wp2
  go_ret
  exact ⟨rfl,HB.out.below⟩
 ·clear tm
  have hz:¬ (n1:Int)=0:=by omega
  have hz2:((n1:Int)==0)=false:=beq_false_of_ne hz
  clear hn
  go_wp2_with fail
  refine (awake4_any _ (T.out _ HB.out.below).1 (T.out _ HB.out.below).2.1 (T.out _ HB.out.below).2.2).mono ?_
  rintro e W ⟨rfl,b⟩
  have HN:=Lib.hid (HB.out.next b)
  clear HB b;have HB:=HN;clear HN
  go_wp2
  go_ret
  exact ⟨rfl,HB.out.below⟩
 ·clear tm
  have hz:¬ (n1:Int)=0:=by omega
  have hz2:((n1:Int)==0)=false:=beq_false_of_ne hz
  clear hn
  go_wp2_with fail
  refine (awake4_any _ (T.out _ HB.out.below).1 (T.out _ HB.out.below).2.1 (T.out _ HB.out.below).2.2).mono ?_
  rintro e W ⟨rfl,b⟩
  have HN:=Lib.hid (HB.out.next b)
  clear HB b;have HB:=HN;clear HN
  go_wp2
  go_ret
  exact ⟨rfl,HB.out.below⟩
 ·clear tm
  have hz:¬ (n1:Int)=0:=by omega
  have hz2:((n1:Int)==0)=false:=beq_false_of_ne hz
  clear hn
  go_wp2_with fail
  refine (awake4_any _ (T.out _ HB.out.below).1 (T.out _ HB.out.below).2.1 (T.out _ HB.out.below).2.2).mono ?_
  rintro e W ⟨rfl,b⟩
  have HN:=Lib.hid (HB.out.next b)
  clear HB b;have HB:=HN;clear HN
  go_wp2
  go_ret
  exact ⟨rfl,HB.out.below⟩
 ·clear tm
  have hz:¬ (n1:Int)=0:=by omega
  have hz2:((n1:Int)==0)=false:=beq_false_of_ne hz
  clear hn
  go_wp2_with fail
  refine (awake4_any _ (T.out _ HB.out.below).1 (T.out _ HB.out.below).2.1 (T.out _ HB.out.below).2.2).mono ?_
  rintro e W ⟨rfl,b⟩
  have HN:=Lib.hid (HB.out.next b)
  clear HB b;have HB:=HN;clear HN
  go_wp2
  go_ret
  exact ⟨rfl,HB.out.below⟩
 ·clear tm
  have hz:¬ (n1:Int)=0:=by omega
  have hz2:((n1:Int)==0)=false:=beq_false_of_ne hz
  clear hn
  go_wp2_with fail
  refine (awake4_any _ (T.out _ HB.out.below).1 (T.out _ HB.out.below).2.1 (T.out _ HB.out.below).2.2).mono ?_
  rintro e W ⟨rfl,b⟩
  have HN:=Lib.hid (HB.out.next b)
  clear HB b;have HB:=HN;clear HN
  go_wp2
  go_ret
  exact ⟨rfl,HB.out.below⟩
 ·clear tm
  have hz:¬ (n1:Int)=0:=by omega
  have hz2:((n1:Int)==0)=false:=beq_false_of_ne hz
  clear hn
  go_wp2_with fail
  refine (awake4_any _ (T.out _ HB.out.below).1 (T.out _ HB.out.below).2.1 (T.out _ HB.out.below).2.2).mono ?_
  rintro e W ⟨rfl,b⟩
  have HN:=Lib.hid (HB.out.next b)
  clear HB b;have HB:=HN;clear HN
  go_wp2
  go_ret
  exact ⟨rfl,HB.out.below⟩
end Go.Proofs.YtpkloolckbhdaaaGreatDoor.T
namespace Go.Proofs.YtpkloolckbhdaaaGreatDoor.T
open Go.Proofs.YtpkloolckbhdaaaGreatDoor Go Go.RowKit Go.WideShapes
structure Wf8 (A C E B D F N M:Int):Prop where
 a:(Lit.int .i8 A).wf=true
 c:(Lit.int .i8 C).wf=true
 e:(Lit.int .i8 E).wf=true
 b:(Lit.int .u8 B).wf=true
 d:(Lit.int .u8 D).wf=true
 f:(Lit.int .u8 F).wf=true
 n:(Lit.int .u8 N).wf=true
 m:(Lit.int .u8 M).wf=true
theorem cells_i8:Tryz.prog.cellsOf 37=1:=by kernel_rfl
theorem cells_u8:Tryz.prog.cellsOf 5=1:=by kernel_rfl
theorem cells_small:Tryz.prog.cellsOf 39=8:=by kernel_rfl
theorem open_small {H:Type} {enc:TypeId × Value→H} {w:World} {base:Nat} {sp:Nat→Bool} {held:Bool} {r:Reach} {b0:Nat} {v:Value} {d:DataW H} {ps:List MemPlace}
  (hval:Value.okWide Tryz.prog w r b0 39 v) (hd:DataW.Trod enc Tryz.prog w base sp held 39 v d ps) :
  ∃ A C E B D F N M:Int,v = .agg #[.int .i8 A,.int .i8 C,.int .i8 E,.int .u8 B,.int .u8 D,.int .u8 F,.int .u8 N,.int .u8 M]∧ps = []∧Wf8 A C E B D F N M:=by
 obtain ⟨cs,rfl,hsz⟩:=okWide_struct Tryz.underlying39 hval
 rw [cells_small] at hsz
 obtain ⟨fuel,hy⟩:=hd
 obtain ⟨ys,m,_,hx,_,hlen,hf⟩:=DataW.trod_struct Tryz.underlying39 hy
 obtain ⟨l,hl⟩:∃ l,l=cs.toList:=⟨_,rfl⟩
 have hl8:l.length=8:=by rw [hl,Array.length_toList];exact hsz
 have e:(Value.agg cs).cells.toList=l:=hl.symm
 rw [e] at hf
 have hc:cs=l.toArray:=by rw [hl]
 match l,hl8,ys,hlen with
 | [a0,a1,a2,a3,a4,a5,a6,a7],_,[y0,y1,y2,y3,y4,y5,y6,y7],_ =>
  have h0:=hf 0 _ rfl
  have h1:=hf 1 _ rfl
  have h2:=hf 2 _ rfl
  have h3:=hf 3 _ rfl
  have h4:=hf 4 _ rfl
  have h5:=hf 5 _ rfl
  have h6:=hf 6 _ rfl
  have h7:=hf 7 _ rfl
  simp [cells_i8,cells_u8] at h0 h1 h2 h3 h4 h5 h6 h7
  obtain ⟨A,e0,x0,s0⟩:=DataW.trod_int Tryz.underlying37 h0
  obtain ⟨C,e1,x1,s1⟩:=DataW.trod_int Tryz.underlying37 h1
  obtain ⟨E,e2,x2,s2⟩:=DataW.trod_int Tryz.underlying37 h2
  obtain ⟨B,e3,x3,s3⟩:=DataW.trod_int Tryz.underlying5 h3
  obtain ⟨D,e4,x4,s4⟩:=DataW.trod_int Tryz.underlying5 h4
  obtain ⟨F,e5,x5,s5⟩:=DataW.trod_int Tryz.underlying5 h5
  obtain ⟨N,e6,x6,s6⟩:=DataW.trod_int Tryz.underlying5 h6
  obtain ⟨M,e7,x7,s7⟩:=DataW.trod_int Tryz.underlying5 h7
  refine ⟨A,C,E,B,D,F,N,M,?_,?_,⟨s0,s1,s2,s3,s4,s5,s6,s7⟩⟩
  ·rw [hc]
   simp at e0 e1 e2 e3 e4 e5 e6 e7
   rw [e0,e1,e2,e3,e4,e5,e6,e7]
  ·have:=congrArg Prod.snd hx
   rw [show (d,ps).2=ps from rfl] at this
   rw [this,x0,x1,x2,x3,x4,x5,x6,x7];rfl
theorem bd_i8 {n:Int} (h:(Lit.int .i8 n).wf=true) : -128≤n∧n≤127:=by
 simpa [Lit.wf,IntKind.min,IntKind.max,IntKind.signed,IntKind.bits] using h
theorem bd_u8 {n:Int} (h:(Lit.int .u8 n).wf=true):∃ k:Nat,n=k∧k≤255:=by
 have:0≤n∧n≤255:=by simpa [Lit.wf,IntKind.min,IntKind.max,IntKind.signed,IntKind.bits] using h
 exact ⟨n.toNat,by omega,by omega⟩
theorem Wf8.sp {A C E B D F N M:Int} (h:Wf8 A C E B D F N M):∃ B' D' F' N' M':Nat,B=B'∧D=D'∧F=F'∧N=N'∧M=M'∧Sp A C E B' D' F' N' M':=by
 obtain ⟨B',eB,lB⟩:=bd_u8 h.b
 obtain ⟨D',eD,lD⟩:=bd_u8 h.d
 obtain ⟨F',eF,lF⟩:=bd_u8 h.f
 obtain ⟨N',eN,lN⟩:=bd_u8 h.n
 obtain ⟨M',eM,lM⟩:=bd_u8 h.m
 exact ⟨B',D',F',N',M',eB,eD,eF,eN,eM,bd_i8 h.a,bd_i8 h.c,bd_i8 h.e,⟨lB,lD,lF⟩,lN,lM⟩
end Go.Proofs.YtpkloolckbhdaaaGreatDoor.T
namespace Go.Proofs.YtpkloolckbhdaaaGreatDoor.T
open Go.Proofs.YtpkloolckbhdaaaGreatDoor Go Go.RowKit
theorem laidOut4s:laidOutB Tryz.prog=true:=by kernel_rfl
theorem SurdSigns_any {A1 C1 E1 B1 D1 F1 N1 M1 A2 C2 E2 B2 D2 F2 N2 M2:Int} (w:World) (z1:Wf8 A1 C1 E1 B1 D1 F1 N1 M1) (z2:Wf8 A2 C2 E2 B2 D2 F2 N2 M2) (ht:Tab w) (ht2:Tab64 w) (hS:Sm w) :
  Calls Tryz.prog 6 #[.agg #[.int .i8 A1,.int .i8 C1,.int .i8 E1,.int .u8 B1,.int .u8 D1,.int .u8 F1,.int .u8 N1,.int .u8 M1],.agg #[.int .i8 A2,.int .i8 C2,.int .i8 E2,.int .u8 B2,.int .u8 D2,.int .u8 F2,.int .u8 N2,.int .u8 M2]] w fun e W'=>e = .returned (.bool true)∧Below w.heap.size w W':=by
 obtain ⟨b1,d1,f1,n1,m1,rfl,rfl,rfl,rfl,rfl,s1⟩:=z1.sp
 obtain ⟨b2,d2,f2,n2,m2,rfl,rfl,rfl,rfl,rfl,s2⟩:=z2.sp
 exact SurdSigns_main A1 C1 E1 b1 d1 f1 n1 m1 A2 C2 E2 b2 d2 f2 n2 m2 w s1 s2 ht ht2 hS
end Go.Proofs.YtpkloolckbhdaaaGreatDoor.T
