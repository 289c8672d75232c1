/- Parts of the proofs of the texts YtpkloolckbhdaaaGreatDoorQTS. -/
import Derived.Test.YtpkloolckbhdaaaGreatDoorQT38
set_option linter.all false
set_option maxRecDepth 100000
set_option maxHeartbeats 8000000
namespace Go.Proofs.YtpkloolckbhdaaaGreatDoor.T
open Go.Proofs.YtpkloolckbhdaaaGreatDoor
theorem vl_neg (m:Rat) (l:List Tm):vl m (l.map fun t=>(t.1 * -1,t.2)) = - vl m l:=by
 induction l with
 | nil=>show (0:Rat) = -0;decide
 | cons t l ih =>
  show co m (t.1 * -1,t.2)+_ = -(co m t+vl m l)
  rw [ih,Rat.mul_comm,co_mul];grind
end Go.Proofs.YtpkloolckbhdaaaGreatDoor.T
namespace Go.Proofs.YtpkloolckbhdaaaGreatDoor.T
open Go.Proofs.YtpkloolckbhdaaaGreatDoor Go
noncomputable def gK (K r:Nat):Nat:=rootN (r*tenTo (2*K))
def tk (K:Nat):Rat:=((tenTo K:Nat):Rat)
theorem tk_pos (K:Nat):0<tk K:=nat_pos (tenTo_pos K)
theorem tk_add (j k:Nat):tk (j+k)=tk j*tk k:=by unfold tk;rw [tenTo_add,Rat.natCast_mul]
theorem tk_two (K:Nat):tk (2*K)=tk K*tk K:=by rw [show 2*K=K+K by omega,tk_add]
theorem one_tk (K:Nat):1≤tk K:=Rat.natCast_le_natCast (a:=1).2 (tenTo_pos K)
theorem gK_lo (K r:Nat):(gK K r:Rat)*(gK K r:Rat)≤(r:Rat)*(tk K*tk K):=by
 rw [←tk_two,←Rat.natCast_mul]
 show _≤(r:Rat)*((tenTo (2*K):Nat):Rat)
 rw [←Rat.natCast_mul]
 exact Rat.natCast_le_natCast.2 (rootN_is (r*tenTo (2*K))).1
theorem gK_hi (K r:Nat):(r:Rat)*(tk K*tk K)<((gK K r:Rat)+1)*((gK K r:Rat)+1):=by
 have:=Rat.natCast_lt_natCast.2 (rootN_is (r*tenTo (2*K))).2
 rw [Rat.natCast_mul,Rat.natCast_mul] at this
 rw [←tk_two]
 have e:(((rootN (r*tenTo (2*K))+1:Nat)):Rat)=(gK K r:Rat)+1:=by rw [Rat.natCast_add];rfl
 rw [e] at this
 exact this
theorem gK_nn (K r:Nat):(0:Rat)≤(gK K r:Rat):=castn_nonneg _
theorem lesq {x y:Rat} (hy:0≤y) (h:x*x≤y*y):x≤y:=by
 by_cases k:x≤y
 ·exact k
 ·have:=Rat.mul_pos (a:=x - y) (b:=x+y) (by grind) (by grind)
  grind
theorem ltsq {x y:Rat} (hy:0≤y) (h:x*x<y*y):x<y:=by
 by_cases k:x<y
 ·exact k
 ·have:=Rat.mul_nonneg (a:=x - y) (b:=x+y) (by grind) (by grind)
  grind
def O (k:Nat) (f:Nat→Rat):Prop:=∃ C:Rat,0≤C∧∀ K,-(C*tk (k*K))≤f K∧f K≤C*tk (k*K)
theorem O.add {k:Nat} {f g:Nat→Rat} (hf:O k f) (hg:O k g):O k fun K=>f K+g K:=by
 obtain ⟨C,c0,h⟩:=hf;obtain ⟨D,d0,h'⟩:=hg
 exact ⟨C+D,by grind,fun K=>by have:=h K;have:=h' K;dsimp only;grind⟩
theorem O.neg {k:Nat} {f:Nat→Rat} (hf:O k f):O k fun K => -f K:=by
 obtain ⟨C,c0,h⟩:=hf
 exact ⟨C,c0,fun K=>by have:=h K;dsimp only;grind⟩
theorem O.sub {k:Nat} {f g:Nat→Rat} (hf:O k f) (hg:O k g):O k fun K=>f K - g K:=by
 have:=hf.add hg.neg
 simpa only [Rat.sub_eq_add_neg] using this
theorem mul_bd {a b x y:Rat} (h : -x≤a∧a≤x) (k : -y≤b∧b≤y) : -(x*y)≤a*b∧a*b≤x*y:=by
 have h1:=Rat.mul_nonneg (a:=x - a) (b:=y+b) (by grind) (by grind)
 have h2:=Rat.mul_nonneg (a:=x+a) (b:=y - b) (by grind) (by grind)
 have h3:=Rat.mul_nonneg (a:=x - a) (b:=y - b) (by grind) (by grind)
 have h4:=Rat.mul_nonneg (a:=x+a) (b:=y+b) (by grind) (by grind)
 constructor <;> grind
theorem O.mul {j k:Nat} {f g:Nat→Rat} (hf:O j f) (hg:O k g):O (j+k) fun K=>f K*g K:=by
 obtain ⟨C,c0,h⟩:=hf;obtain ⟨D,d0,h'⟩:=hg
 refine ⟨C*D,Rat.mul_nonneg c0 d0,fun K => ?_⟩
 have e:C*D*tk ((j+k)*K)=(C*tk (j*K))*(D*tk (k*K)):=by rw [Nat.add_mul,tk_add];grind
 rw [e]
 exact mul_bd (h K) (h' K)
theorem O.up {j k:Nat} {f:Nat→Rat} (hf:O j f) (h:j≤k):O k f:=by
 obtain ⟨C,c0,hC⟩:=hf
 refine ⟨C,c0,fun K => ?_⟩
 have h1:=hC K
 have e:tk (k*K)=tk (j*K)*tk ((k - j)*K):=by rw [←tk_add,←Nat.add_mul,Nat.add_sub_cancel' h]
 have h2:=Rat.mul_nonneg (a:=C*tk (j*K)) (b:=tk ((k - j)*K) - 1) (Rat.mul_nonneg c0 (Rat.le_of_lt (tk_pos _))) (by have:=one_tk ((k - j)*K);grind)
 rw [e]
 constructor <;> grind
theorem O.const (c:Rat):O 0 fun _=>c:=by
 rcases tri c 0 with h | rfl | h
 ·exact ⟨-c,by grind,fun K=>by rw [Nat.zero_mul];show -(-c*1)≤c∧c ≤ -c*1;constructor <;> grind⟩
 ·exact ⟨0,by grind,fun K=>by constructor <;> grind⟩
 ·exact ⟨c,by grind,fun K=>by rw [Nat.zero_mul];show -(c*1)≤c∧c≤c*1;constructor <;> grind⟩
theorem O.smul {k:Nat} {f:Nat→Rat} (c:Rat) (hf:O k f):O k fun K=>c*f K:=by
 have:=(O.const c).mul hf
 rwa [Nat.zero_add] at this
theorem O.congr {k:Nat} {f g:Nat→Rat} (hf:O k f) (h:∀ K,f K=g K):O k g:=by
 have:f=g:=funext h
 rwa [this] at hf
theorem O.unit (c:Rat) (k:Nat):O k fun K=>c*tk (k*K):=by
 have h:O k fun K=>tk (k*K):=⟨1,by decide,fun K=>by have:=tk_pos (k*K);constructor <;> grind⟩
 exact h.smul c
theorem gK_O (r:Nat):O 1 fun K=>(gK K r:Rat):=by
 refine ⟨(r:Rat),castn_nonneg r,fun K => ?_⟩
 have h0:=gK_nn K r
 have h1:=gK_lo K r
 have hr:=castn_nonneg r
 have ht:=tk_pos K
 have hn:=Rat.mul_nonneg hr (Rat.le_of_lt ht)
 rw [Nat.one_mul]
 refine ⟨by grind,lesq hn ?_⟩
 have hrr:(r:Rat)≤(r:Rat)*(r:Rat):=by
  rw [←Rat.natCast_mul];exact Rat.natCast_le_natCast.2 (Nat.le_mul_self r)
 have:=Rat.mul_nonneg (a:=(r:Rat)*r - r) (b:=tk K*tk K) (by grind) (Rat.le_of_lt (Rat.mul_pos ht ht))
 grind
theorem gK_scale {q s:Nat} {k:Rat} (hk:0≤k) (e:(q:Rat)=k*k*(s:Rat)):O 0 fun K=>(gK K q:Rat) - k*(gK K s:Rat):=by
 refine ⟨k+1,by grind,fun K => ?_⟩
 have x0:=gK_nn K q;have y0:=gK_nn K s
 have x1:=gK_lo K q;have x2:=gK_hi K q;have y1:=gK_lo K s;have y2:=gK_hi K s
 have kk:=Rat.mul_nonneg hk hk
 have a:(gK K q:Rat)≤k*((gK K s:Rat)+1):=by
  refine lesq (Rat.mul_nonneg hk (by grind)) ?_
  have:=Rat.mul_nonneg kk (b:=((gK K s:Rat)+1)*((gK K s:Rat)+1) - (s:Rat)*(tk K*tk K)) (by grind)
  rw [e] at x1
  grind
 have b:k*(gK K s:Rat)<(gK K q:Rat)+1:=by
  refine ltsq (by grind) ?_
  have:=Rat.mul_nonneg kk (b:=(s:Rat)*(tk K*tk K) - (gK K s:Rat)*(gK K s:Rat)) (by grind)
  rw [e] at x2
  grind
 rw [Nat.zero_mul]
 show -((k+1)*1)≤_∧_≤(k+1)*1
 constructor <;> grind
theorem gK_mul (q s:Nat):O 1 fun K=>(gK (2*K) (q*s):Rat) - (gK K q:Rat)*(gK K s:Rat):=by
 have h1:O 1 fun K=>(gK K q:Rat)+(gK K s:Rat)+1:=((gK_O q).add (gK_O s)).add ((O.const 1).up (Nat.zero_le 1))
 obtain ⟨C,c0,h⟩:=h1
 refine ⟨C,c0,fun K => ?_⟩
 have hC:=(h K).2
 have x0:=gK_nn K q;have y0:=gK_nn K s;have z0:=gK_nn (2*K) (q*s)
 have x1:=gK_lo K q;have x2:=gK_hi K q;have y1:=gK_lo K s;have y2:=gK_hi K s
 have z1:=gK_lo (2*K) (q*s);have z2:=gK_hi (2*K) (q*s)
 rw [tk_two,Rat.natCast_mul] at z1 z2
 have tp:=Rat.le_of_lt (Rat.mul_pos (tk_pos K) (tk_pos K))
 have q0:=Rat.mul_nonneg (castn_nonneg q) tp
 have s0:=Rat.mul_nonneg (castn_nonneg s) tp
 have xy:=Rat.mul_nonneg x0 y0
 have a:(gK (2*K) (q*s):Rat)≤((gK K q:Rat)+1)*((gK K s:Rat)+1):=by
  refine lesq (Rat.mul_nonneg (by grind) (by grind)) ?_
  have h3:=Rat.mul_nonneg q0 (b:=((gK K s:Rat)+1)*((gK K s:Rat)+1) - (s:Rat)*(tk K*tk K)) (by grind)
  have h4:=Rat.mul_nonneg (a:=((gK K q:Rat)+1)*((gK K q:Rat)+1) - (q:Rat)*(tk K*tk K)) (b:=((gK K s:Rat)+1)*((gK K s:Rat)+1)) (by grind) (sq_nonneg _)
  grind
 have b:(gK K q:Rat)*(gK K s:Rat)<(gK (2*K) (q*s):Rat)+1:=by
  refine ltsq (by grind) ?_
  have h3:=Rat.mul_nonneg q0 (b:=(s:Rat)*(tk K*tk K) - (gK K s:Rat)*(gK K s:Rat)) (by grind)
  have h4:=Rat.mul_nonneg (a:=(q:Rat)*(tk K*tk K) - (gK K q:Rat)*(gK K q:Rat)) (b:=(gK K s:Rat)*(gK K s:Rat)) (by grind) (sq_nonneg _)
  grind
 have e:(((q*s:Nat)):Rat)=(q:Rat)*s:=Rat.natCast_mul q s
 constructor <;> grind
theorem gK_sq (c:Rat) (r:Nat):O 1 fun K=>c*(gK K r:Rat)*(c*(gK K r:Rat)) - c*c*(r:Rat)*tk (2*K):=by
 obtain ⟨C,c0,h⟩:=(((gK_O r).smul 2).add ((O.const 1).up (Nat.zero_le 1)))
 have h':O 1 fun K=>(gK K r:Rat)*(gK K r:Rat) - (r:Rat)*tk (2*K):=by
  refine ⟨C,c0,fun K => ?_⟩
  have x1:=gK_lo K r;have x2:=gK_hi K r
  have:=h K
  dsimp only at this ⊢
  rw [tk_two]
  have n:=Rat.mul_nonneg c0 (Rat.le_of_lt (tk_pos (1*K)))
  constructor <;> grind
 exact (h'.smul (c*c)).congr fun K=>by grind
end Go.Proofs.YtpkloolckbhdaaaGreatDoor.T
namespace Go.Proofs.YtpkloolckbhdaaaGreatDoor.T
open Go.Proofs.YtpkloolckbhdaaaGreatDoor Go
noncomputable def aT (K:Nat) (t:Tm):Rat:=t.1*(gK K t.2.num.natAbs:Rat)
noncomputable def aL (K:Nat):List Tm→Rat
 | []=>0
 | t::l=>aT K t+aL K l
def Nr (l:List Tm):Prop:=∀ t∈l,∃ b:Nat,t.2=(b:Rat)
theorem Nr.tail {t:Tm} {l:List Tm} (h:Nr (t::l)):Nr l:=fun s hs=>h s (List.mem_cons_of_mem _ hs)
theorem Nr.nn {l:List Tm} (h:Nr l):∀ t∈l,0≤t.2:=fun t ht=>by obtain ⟨b,e⟩:=h t ht;rw [e];exact castn_nonneg b
theorem aT_nat (K:Nat) (c:Rat) (b:Nat):aT K (c,(b:Rat))=c*(gK K b:Rat):=by
 show c*(gK K ((b:Rat)).num.natAbs:Rat)=_
 rw [natR_num]
theorem aL_append (K:Nat):∀ l k:List Tm,aL K (l++k)=aL K l+aL K k
 | [],k=>by show _=0+_;grind
 | t::l,k=>by show aT K t+aL K (l++k)=aT K t+aL K l+_;rw [aL_append K l k];grind
theorem aL_filter (K:Nat):∀ l:List Tm,aL K (l.filter nz)=aL K l
 | []=>rfl
 | t::l=>by
  rw [List.filter_cons]
  split
  ·show aT K t+_=aT K t+_;rw [aL_filter K l]
  ·next h =>
   have z:t.1=0:=by simpa [nz] using h
   show _=t.1*_+_
   rw [aL_filter K l,z];grind
theorem aL_neg (K:Nat):∀ l:List Tm,aL K (l.map fun t=>(t.1 * -1,t.2)) = -aL K l
 | []=>by show (0:Rat) = -0;grind
 | t::l=>by
  show t.1 * -1*(gK K t.2.num.natAbs:Rat)+aL K (l.map fun t=>(t.1 * -1,t.2)) = -(t.1*(gK K t.2.num.natAbs:Rat)+aL K l)
  rw [aL_neg K l];grind
theorem aT_scale {c k:Rat} {q s:Nat} (hk:0≤k) (e:(q:Rat)=k*k*(s:Rat)):O 0 fun K=>aT K (c*k,(s:Rat)) - aT K (c,(q:Rat)):=by
 refine ((gK_scale hk e).smul (-c)).congr fun K => ?_
 rw [aT_nat,aT_nat];grind
theorem O.zero (k:Nat):O k fun _=>0:=⟨0,by decide,fun K=>by constructor <;> grind⟩
theorem comb_O {s t:Tm} (hs:0<s.2) (ht:0<t.2) (bs:∃ b:Nat,s.2=(b:Rat)) (bt:∃ b:Nat,t.2=(b:Rat)) (h:rel2 s t):O 0 fun K=>aT K (comb s t) - (aT K s+aT K t):=by
 obtain ⟨lp,hp⟩:=lohi (P:=fun x=>0<x.2) hs ht
 obtain ⟨ln,hn⟩:=lohi (P:=fun x:Tm=>∃ b:Nat,x.2=(b:Rat)) bs bt
 have e:∀ K,aT K s+aT K t=aT K (loT2 s t)+aT K (hiT2 s t):=fun K=>by
  unfold loT2 hiT2;split
  ·grind
  ·rfl
 unfold rel2 at h
 have r0:=rootR_nonneg h
 have r2:=rootR_sq (div_nn (Rat.le_of_lt hp) lp) h
 have q:(hiT2 s t).2=rootR ((hiT2 s t).2 / (loT2 s t).2)*rootR ((hiT2 s t).2 / (loT2 s t).2)*(loT2 s t).2:=by rw [r2];exact (Rat.div_mul_cancel (by grind)).symm
 obtain ⟨a,ea⟩:=ln;obtain ⟨b,eb⟩:=hn
 have c:=aT_scale (c:=(hiT2 s t).1) (q:=b) (s:=a) r0 (by rw [←ea,←eb];exact q)
 refine c.congr fun K => ?_
 rw [e K]
 unfold comb aT
 dsimp only
 rw [ea,eb,natR_num,natR_num];grind
theorem ins_O {t:Tm} (ht:0<t.2) (bt:∃ b:Nat,t.2=(b:Rat)):∀ {l:List Tm},(∀ s∈l,0<s.2)→Nr l→O 0 fun K=>aL K (ins l t) - (aL K l+aT K t)
 | [],_,_=>(O.zero 0).congr fun K=>by show (0:Rat)=aT K t+0 - (0+aT K t);grind
 | s::l,h,n=>by
  have hs:=h s List.mem_cons_self
  have ih:=ins_O ht bt (l:=l) (fun x hx=>h x (List.mem_cons_of_mem _ hx)) n.tail
  unfold ins
  split
  ·next k =>
   exact (comb_O hs ht (n s List.mem_cons_self) bt k).congr fun K=>by
    show _=aT K (comb s t)+aL K l - (aT K s+aL K l+aT K t);grind
  ·exact ih.congr fun K=>by show _=aT K s+aL K (ins l t) - (aT K s+aL K l+aT K t);grind
theorem rootN_zero:rootN 0=0:=by
 have:=(rootN_is 0).1
 rcases Nat.eq_zero_or_pos (rootN 0) with h | h
 ·exact h
 ·have:=Nat.mul_pos h h;omega
theorem gK_zero (K:Nat):gK K 0=0:=by unfold gK;rw [Nat.zero_mul];exact rootN_zero
theorem stp_O {l:List Tm} (h:Red l) (n:Nr l) (t:Tm) (bt:∃ b:Nat,t.2=(b:Rat)):(O 0 fun K=>aL K (stp l t) - (aL K l+aT K t))∧Nr (stp l t):=by
 obtain ⟨b,eb⟩:=bt
 unfold stp
 split
 ·next z =>
  refine ⟨(O.zero 0).congr fun K => ?_,n⟩
  have:aT K t=0:=by
   obtain ⟨c,q⟩:=t
   rcases z with z | z
   ·have:c=0:=z
    show c*_=0
    rw [this];grind
   ·have:q=0:=z
    show c*(gK K q.num.natAbs:Rat)=0
    rw [this,show (0:Rat).num.natAbs=0 from rfl,gK_zero];exact Rat.mul_zero c
  rw [this];grind
 ·have i:=ins_O (nrmT_pos t) ⟨nN t.2,rfl⟩ h.1 n
  have q0:0≤t.2:=by rw [eb];exact castn_nonneg b
  have s:=aT_scale (c:=t.1) (q:=b) (s:=nN t.2) (nC_nonneg t.2) (by rw [←eb];exact (nC_sq q0).symm)
  refine ⟨(i.add s).congr fun K => ?_,fun x hx => ?_⟩
  ·rw [show (t.1,(b:Rat))=t by rw [←eb]]
   show aL K (ins l (nrmT t)) - (aL K l+aT K (nrmT t))+(aT K (nrmT t) - aT K t)=_
   grind
  ·rcases (ins_mem (nrmT_pos t) h.1 x hx).2.2 with k | ⟨s,hs,k⟩
   ·exact ⟨nN t.2,k⟩
   ·obtain ⟨b',e'⟩:=n s hs;exact ⟨b',k.trans e'⟩
theorem fold_O:∀ (g l:List Tm),Red l→Nr l→Nr g→O 0 fun K=>aL K (g.foldl stp l) - (aL K l+aL K g)
 | [],l,_,_,_=>(O.zero 0).congr fun K=>by show (0:Rat)=aL K l - (aL K l+0);grind
 | t::g,l,h,n,ng=>by
  obtain ⟨o,n'⟩:=stp_O h n t (ng t List.mem_cons_self)
  exact ((fold_O g (stp l t) (stp_red h t) n' ng.tail).add o).congr fun K=>by
   show _=aL K (g.foldl stp (stp l t)) - (aL K l+(aT K t+aL K g));grind
theorem fin_O {g:List Tm} (n:Nr g):O 0 fun K=>aL K (T.fin g) - aL K g :=
 (fold_O g [] red_nil (fun _ h=>by cases h) n).congr fun K=>by
  show _=aL K ((g.foldl stp []).filter nz) - aL K g
  rw [aL_filter]
  show aL K (g.foldl stp []) - ((0:Rat)+aL K g)=_
  grind
theorem vl_O {l k:List Tm} (nl:Nr l) (nk:Nr k) (h:∀ m,0<m→vl m l=vl m k):O 0 fun K=>aL K l - aL K k:=by
 have n:Nr (l++k.map fun t=>(t.1 * -1,t.2)):=fun t ht=>by
  rcases List.mem_append.1 ht with ht | ht
  ·exact nl t ht
  ·obtain ⟨s,hs,rfl⟩:=List.mem_map.1 ht
   exact nk s hs
 have z:T.fin (l++k.map fun t=>(t.1 * -1,t.2)) = []:=vl_nil (fin_red _) (fun t ht=>fin_ne ht) fun m hm=>by
  rw [fin_vl hm _ n.nn,vl_append,vl_neg,h m hm];grind
 have:=(fin_O n).neg
 rw [z] at this
 refine this.congr fun K => ?_
 rw [aL_append,aL_neg]
 show -((0:Rat) - _)=_
 grind
theorem row_O {t:Tm} (bt:∃ b:Nat,t.2=(b:Rat)):∀ {k:List Tm},Nr k→O 1 fun K=>aL (2*K) (k.map fun s=>(t.1*s.1,t.2*s.2)) - aT K t*aL K k
 | [],_=>(O.zero 1).congr fun K=>by show (0:Rat)=0 - aT K t*0;grind
 | s::k,n=>by
  obtain ⟨a,ea⟩:=bt
  obtain ⟨b,eb⟩:=n s List.mem_cons_self
  have ih:=row_O ⟨a,ea⟩ n.tail
  refine (((gK_mul a b).smul (t.1*s.1)).add ih).congr fun K => ?_
  have e1:(t.2*s.2).num.natAbs=a*b:=by rw [ea,eb,←Rat.natCast_mul,natR_num]
  have e2:t.2.num.natAbs=a:=by rw [ea,natR_num]
  have e3:s.2.num.natAbs=b:=by rw [eb,natR_num]
  have e4:aT K t=t.1*(gK K a:Rat):=by unfold aT;rw [e2]
  show _=t.1*s.1*(gK (2*K) (t.2*s.2).num.natAbs:Rat)+aL (2*K) (k.map fun s=>(t.1*s.1,t.2*s.2)) - aT K t*(s.1*(gK K s.2.num.natAbs:Rat)+aL K k)
  rw [e1,e3,e4]
  grind
theorem prods_O:∀ {l k:List Tm},Nr l→Nr k→O 1 fun K=>aL (2*K) (prods l k) - aL K l*aL K k
 | [],k,_,_=>(O.zero 1).congr fun K=>by show (0:Rat)=0 - 0*aL K k;grind
 | t::l,k,nl,nk=>by
  refine ((row_O (nl t List.mem_cons_self) nk).add (prods_O nl.tail nk)).congr fun K => ?_
  show _=aL (2*K) ((k.map fun s=>(t.1*s.1,t.2*s.2))++prods l k) - (aT K t+aL K l)*aL K k
  rw [aL_append]
  grind
end Go.Proofs.YtpkloolckbhdaaaGreatDoor.T
namespace Go.Proofs.YtpkloolckbhdaaaGreatDoor.T
open Go.Proofs.YtpkloolckbhdaaaGreatDoor Go
theorem rdS_bd (c:Rat) (r p:Nat):((rdS c r p:Nat):Rat)*(rdS c r p:Rat)≤c*c*(r:Rat)*(tk p*tk p)∧c*c*(r:Rat)*(tk p*tk p)<((rdS c r p:Rat)+1)*((rdS c r p:Rat)+1)∧(rdS c r p*rdS c r p*(c.den*c.den)=rdN c r p→c*c*(r:Rat)*(tk p*tk p)=(rdS c r p:Rat)*(rdS c r p:Rat)):=by
 have hd:0<c.den*c.den:=Nat.mul_pos c.den_pos c.den_pos
 have hdR:(0:Rat)<((c.den*c.den:Nat):Rat):=nat_pos hd
 have hr:=rootN_is (rdN c r p / (c.den*c.den))
 have h1:rdS c r p*rdS c r p*(c.den*c.den)≤rdN c r p:=(Nat.le_div_iff_mul_le hd).1 hr.1
 have h2:rdN c r p<(rdS c r p+1)*(rdS c r p+1)*(c.den*c.den):=(Nat.div_lt_iff_lt_mul hd).1 hr.2
 have en:((c.num.natAbs*c.num.natAbs:Nat):Rat)=c*c*((c.den*c.den:Nat):Rat):=by
  have e1:((c.num.natAbs*c.num.natAbs:Nat):Rat)=(c.num:Rat)*(c.num:Rat):=by
   rw [←Rat.intCast_natCast,Int.natAbs_mul_self,Rat.intCast_mul]
  rw [e1,num_is,Rat.natCast_mul];grind
 have eN:((rdN c r p:Nat):Rat)=c*c*(r:Rat)*(tk p*tk p)*((c.den*c.den:Nat):Rat):=by
  unfold rdN
  rw [Rat.natCast_mul,Rat.natCast_mul,en,←tk_two]
  show _=c*c*(r:Rat)*((tenTo (2*p):Nat):Rat)*_
  grind
 have k1:=Rat.natCast_le_natCast.2 h1
 have k2:=Rat.natCast_lt_natCast.2 h2
 rw [Rat.natCast_mul,Rat.natCast_mul (rdS c r p),eN] at k1
 rw [Rat.natCast_mul ((rdS c r p+1)*_),Rat.natCast_mul (rdS c r p+1),eN,Rat.natCast_add] at k2
 refine ⟨Rat.le_of_mul_le_mul_right k1 hdR,Rat.lt_of_mul_lt_mul_right k2 (Rat.le_of_lt hdR),fun e => ?_⟩
 have k3:((rdS c r p*rdS c r p*(c.den*c.den):Nat):Rat)=((rdN c r p:Nat):Rat):=by rw [e]
 rw [Rat.natCast_mul,Rat.natCast_mul (rdS c r p),eN] at k3
 exact Rat.le_antisymm (Rat.le_of_mul_le_mul_right (by rw [k3];exact Rat.le_refl) hdR) (Rat.le_of_mul_le_mul_right (by rw [k3];exact Rat.le_refl) hdR)
def absR (c:Rat):Rat:=if 0≤c then c else -c
theorem rd_bd (t:Tm) {r:Nat} (e:t.2=(r:Rat)) (p j:Nat) :
  ((rdT p t:Int):Rat)*tk j - absR t.1≤aT (p+j) t∧aT (p+j) t≤(((rdT p t:Int):Rat)+1)*tk j+absR t.1:=by
 obtain ⟨c,q⟩:=t
 dsimp only at e
 subst e
 rw [aT_nat]
 unfold rdT
 dsimp only
 rw [natR_num]
 obtain ⟨s1,s2,s3⟩:=rdS_bd c r p
 have g0:=gK_nn (p+j) r
 have g1:=gK_lo (p+j) r
 have g2:=gK_hi (p+j) r
 rw [tk_add] at g1 g2
 have u0:=tk_pos j
 have uu:=Rat.le_of_lt (Rat.mul_pos u0 u0)
 have S0:(0:Rat)≤(rdS c r p:Rat):=castn_nonneg _
 have cc:=sq_nonneg c
 generalize (gK (p+j) r:Rat)=g at *
 generalize hS:rdS c r p=S at *
 have main:∀ a:Rat,0≤a→a*a=c*c→(S:Rat)*tk j≤a*g+a∧a*g≤((S:Rat)+1)*tk j∧(S*S*(c.den*c.den)=rdN c r p→a*g≤(S:Rat)*tk j):=fun a a0 ea=>by
  have ag:=Rat.mul_nonneg a0 g0
  have m1:=Rat.mul_nonneg cc (b:=(g+1)*(g+1) - (r:Rat)*(tk p*tk j*(tk p*tk j))) (by grind)
  have m2:=Rat.mul_nonneg cc (b:=(r:Rat)*(tk p*tk j*(tk p*tk j)) - g*g) (by grind)
  have m3:=Rat.mul_nonneg uu (b:=c*c*(r:Rat)*(tk p*tk p) - (S:Rat)*(S:Rat)) (by grind)
  have m4:=Rat.mul_nonneg uu (b:=((S:Rat)+1)*((S:Rat)+1) - c*c*(r:Rat)*(tk p*tk p)) (by grind)
  have su:=Rat.mul_nonneg S0 (Rat.le_of_lt u0)
  refine ⟨lesq (by grind) ?_,lesq (Rat.mul_nonneg (by grind) (Rat.le_of_lt u0)) ?_,fun k=>lesq su ?_⟩
  ·have:(a*g+a)*(a*g+a)=c*c*((g+1)*(g+1)):=by rw [←ea];grind
   rw [this];grind
  ·have:a*g*(a*g)=c*c*(g*g):=by rw [←ea];grind
   rw [this];grind
  ·have:a*g*(a*g)=c*c*(g*g):=by rw [←ea];grind
   rw [this]
   have h5:c*c*(r:Rat)*(tk p*tk p)*(tk j*tk j)=(S:Rat)*(S:Rat)*(tk j*tk j):=by rw [s3 k]
   clear ea s3
   grind
 unfold rdZ absR
 rw [hS]
 by_cases hc:0≤c
 ·have hn:0≤c.num:=Rat.num_nonneg.2 hc
  rw [if_pos hn,if_pos hc,Rat.intCast_natCast]
  obtain ⟨a1,a2,_⟩:=main c hc rfl
  constructor <;> grind
 ·have hn:¬ 0≤c.num:=fun k=>hc (Rat.num_nonneg.1 k)
  rw [if_neg hn,if_neg hc]
  obtain ⟨a1,a2,a3⟩:=main (-c) (by grind) (by grind)
  split
  ·next k =>
   have:=a3 k
   rw [Rat.intCast_neg,Rat.intCast_natCast]
   constructor <;> grind
  ·rw [Rat.intCast_neg,Rat.intCast_add,Rat.intCast_natCast]
   show -((S:Rat)+1)*tk j - _≤_∧_≤(-((S:Rat)+1)+1)*tk j+_
   constructor <;> grind
theorem sml_bd {l:List Tm} (n:Nr l):∀ m,m≤l.length→∃ C:Rat,0≤C∧∀ p j,((sml p l m:Int):Rat)*tk j - C≤aL (p+j) (l.take m)∧aL (p+j) (l.take m)≤(((sml p l m:Int):Rat)+(m:Rat))*tk j+C
 | 0,_=>⟨0,by decide,fun p j=>by
   show ((0:Int):Rat)*tk j - 0≤0∧(0:Rat)≤(((0:Int):Rat)+((0:Nat):Rat))*tk j+0
   rw [show ((0:Int):Rat)=0 from rfl,show ((0:Nat):Rat)=0 from rfl]
   constructor <;> grind⟩
 | m+1,h=>by
  obtain ⟨C,c0,ih⟩:=sml_bd n m (by omega)
  have hm:=tat_mem (l:=l) (j:=m) (by omega)
  obtain ⟨r,er⟩:=n _ hm
  refine ⟨C+absR (tat l m).1,by unfold absR;split <;> grind,fun p j => ?_⟩
  have h1:=ih p j
  have h2:=rd_bd (tat l m) er p j
  have e:l.take (m+1)=l.take m ++ [tat l m]:=by
   rw [List.take_add_one]
   congr 1
   unfold tat
   have:m<l.length:=by omega
   simp [this]
  rw [e,aL_append,Rat.natCast_add]
  show ((sml p l m+rdT p (tat l m):Int):Rat)*tk j - _≤aL (p+j) (l.take m)+(aT (p+j) (tat l m)+0)∧aL (p+j) (l.take m)+(aT (p+j) (tat l m)+0)≤(((sml p l m+rdT p (tat l m):Int):Rat)+((m:Rat)+1))*tk j+_
  rw [Rat.intCast_add]
  constructor <;> grind
end Go.Proofs.YtpkloolckbhdaaaGreatDoor.T
namespace Go.Proofs.YtpkloolckbhdaaaGreatDoor.T
open Go.Proofs.YtpkloolckbhdaaaGreatDoor Go
def nrmQ (a b c:Rat):Rat:=(a+b - c)*(a+b - c) - 4*(a*b)
theorem nrmQ_O {a b c a' b' c':Nat→Rat} (ha:O 1 fun K=>a K - a' K) (hb:O 1 fun K=>b K - b' K) (hc:O 1 fun K=>c K - c' K) (a2:O 2 a') (b2:O 2 b') (c2:O 2 c') :
  O 3 fun K=>nrmQ (a K) (b K) (c K) - nrmQ (a' K) (b' K) (c' K):=by
 have sa:O 2 a:=((ha.up (by decide)).add a2).congr fun K=>by grind
 have sb:O 2 b:=((hb.up (by decide)).add b2).congr fun K=>by grind
 have sc:O 2 c:=((hc.up (by decide)).add c2).congr fun K=>by grind
 have d:=(ha.add hb).sub hc
 have s:=((sa.add sb).sub sc).add ((a2.add b2).sub c2)
 have p:=d.mul s
 have q:=(ha.mul sb).add (O.mul hb a2)
 exact (p.sub (q.smul 4)).congr fun K=>by unfold nrmQ;grind
theorem fac (u v w:Rat):nrmQ (u*u) (v*v) (w*w)=(u+v+w)*((u+v - w)*((u - v+w)*(u - v - w))):=by unfold nrmQ;grind
theorem norm_low {c1 c2 c3:Rat} {r1 r2 r3 D:Nat} {E:Rat} (hD:0<D) (hE:0<E)
  (j1:∃ z:Int,c1*(D:Rat)=(z:Rat)) (j2:∃ z:Int,c2*(D:Rat)=(z:Rat)) (j3:∃ z:Int,c3*(D:Rat)=(z:Rat))
  (hn:nrmQ (c1*c1*(r1:Rat)) (c2*c2*(r2:Rat)) (c3*c3*(r3:Rat))≠0)
  (b1:∀ K,-(E*tk K)≤c1*(gK K r1:Rat)∧c1*(gK K r1:Rat)≤E*tk K) (b2:∀ K,-(E*tk K)≤c2*(gK K r2:Rat)∧c2*(gK K r2:Rat)≤E*tk K) (b3:∀ K,-(E*tk K)≤c3*(gK K r3:Rat)∧c3*(gK K r3:Rat)≤E*tk K) :
  ∃ C:Rat,0≤C∧∀ K,tk K - C≤((D*D*(D*D):Nat):Rat)*(3*E*(3*E*(3*E)))*(c1*(gK K r1:Rat)+c2*(gK K r2:Rat)+c3*(gK K r3:Rat))∨((D*D*(D*D):Nat):Rat)*(3*E*(3*E*(3*E)))*(c1*(gK K r1:Rat)+c2*(gK K r2:Rat)+c3*(gK K r3:Rat)) ≤ -(tk K - C):=by
 obtain ⟨z1,e1⟩:=j1;obtain ⟨z2,e2⟩:=j2;obtain ⟨z3,e3⟩:=j3
 have o:=nrmQ_O (gK_sq c1 r1) (gK_sq c2 r2) (gK_sq c3 r3) (O.unit _ 2) (O.unit _ 2) (O.unit _ 2)
 obtain ⟨C,c0,hC⟩:=o
 have hDR:(0:Rat)<((D*D*(D*D):Nat):Rat):=nat_pos (Nat.mul_pos (Nat.mul_pos hD hD) (Nat.mul_pos hD hD))
 have eD:((D*D*(D*D):Nat):Rat)=(D:Rat)*D*(D*D):=by rw [Rat.natCast_mul,Rat.natCast_mul]
 generalize hW:((D*D*(D*D):Nat):Rat)=W at *
 generalize hN:nrmQ (c1*c1*(r1:Rat)) (c2*c2*(r2:Rat)) (c3*c3*(r3:Rat))=N at *
 have int:∃ z:Int,W*N=(z:Rat):=by
  refine ⟨(z1*z1*r1+z2*z2*r2 - z3*z3*r3)*(z1*z1*r1+z2*z2*r2 - z3*z3*r3) - 4*((z1*z1*r1)*(z2*z2*r2)),?_⟩
  rw [Rat.intCast_sub,Rat.intCast_mul,Rat.intCast_sub,Rat.intCast_add,Rat.intCast_mul 4,Rat.intCast_mul (z1*z1*r1)]
  simp only [Rat.intCast_mul,Rat.intCast_natCast]
  rw [←e1,←e2,←e3,←hN,eD]
  unfold nrmQ
  rw [show ((4:Int):Rat)=4 from rfl]
  grind
 obtain ⟨z,ez⟩:=int
 have z0:z≠0:=fun h=>hn (by
  rw [h] at ez
  rcases Rat.mul_eq_zero.1 (show W*N=0 from ez) with h | h
  ·grind
  ·exact h)
 have wn:1≤W*N∨W*N ≤ -1:=by
  rw [ez]
  rcases Int.lt_or_lt_of_ne z0 with h | h
  ·exact .inr (Rat.intCast_le_intCast (a:=z) (b := -1) |>.2 (by omega))
  ·exact .inl (Rat.intCast_le_intCast (a:=1) (b:=z) |>.2 (by omega))
 refine ⟨W*C+1,by have:=Rat.mul_nonneg (Rat.le_of_lt hDR) c0;grind,fun K => ?_⟩
 have hK:=hC K
 have d1:=b1 K;have d2:=b2 K;have d3:=b3 K
 have t0:=tk_pos K
 have e3K:tk (3*K)=tk K*(tk K*tk K):=by rw [show 3*K=K+(K+K) by omega,tk_add,tk_add]
 have e2K:=tk_two K
 dsimp only at hK
 rw [fac,e3K,e2K] at hK
 have hq:nrmQ (c1*c1*(r1:Rat)*(tk K*tk K)) (c2*c2*(r2:Rat)*(tk K*tk K)) (c3*c3*(r3:Rat)*(tk K*tk K))=N*(tk K*(tk K*(tk K*tk K))):=by rw [←hN];unfold nrmQ;grind
 rw [hq] at hK
 generalize c1*(gK K r1:Rat)=u at *
 generalize c2*(gK K r2:Rat)=v at *
 generalize c3*(gK K r3:Rat)=w at *
 generalize tk K=T at *
 clear hC e1 e2 e3 hn hN ez z0 e3K e2K hq b1 b2 b3 eD
 by_cases k1:T - (W*C+1)≤W*(3*E*(3*E*(3*E)))*(u+v+w)
 ·exact .inl k1
 by_cases k2:W*(3*E*(3*E*(3*E)))*(u+v+w) ≤ -(T - (W*C+1))
 ·exact .inr k2
 exfalso
 have f1 : -(3*E*T)≤u+v - w∧u+v - w≤3*E*T:=by constructor <;> grind
 have f2 : -(3*E*T)≤u - v+w∧u - v+w≤3*E*T:=by constructor <;> grind
 have f3 : -(3*E*T)≤u - v - w∧u - v - w≤3*E*T:=by constructor <;> grind
 have m:=mul_bd (a:=W*(3*E*(3*E*(3*E)))*(u+v+w)) (x:=T - (W*C+1)) (by constructor <;> grind) (mul_bd f1 (mul_bd f2 f3))
 have F0:0<3*E*(3*E*(3*E)):=Rat.mul_pos (by grind) (Rat.mul_pos (by grind) (by grind))
 generalize hP:(u+v+w)*((u+v - w)*((u - v+w)*(u - v - w)))=P at *
 have mP:W*(3*E*(3*E*(3*E)))*(u+v+w)*((u+v - w)*((u - v+w)*(u - v - w)))=(W*P)*(3*E*(3*E*(3*E))):=by rw [←hP];grind
 have mT:(T - (W*C+1))*(3*E*T*(3*E*T*(3*E*T)))=((T - (W*C+1))*(T*(T*T)))*(3*E*(3*E*(3*E))):=by grind
 rw [mP,mT] at m
 have m1:W*P≤(T - (W*C+1))*(T*(T*T)):=Rat.le_of_mul_le_mul_right m.2 F0
 have m2 : -((T - (W*C+1))*(T*(T*T)))≤W*P:=Rat.le_of_mul_le_mul_right (by rw [Rat.neg_mul];exact m.1) F0
 have T3:0<T*(T*T):=Rat.mul_pos t0 (Rat.mul_pos t0 t0)
 have T4:0<T*(T*(T*T)):=Rat.mul_pos t0 T3
 have p1:=Rat.mul_nonneg (Rat.le_of_lt hDR) (b:=P - N*(T*(T*(T*T)))+C*(T*(T*T))) (by grind)
 have p2:=Rat.mul_nonneg (Rat.le_of_lt hDR) (b:=C*(T*(T*T)) - (P - N*(T*(T*(T*T))))) (by grind)
 rcases wn with h | h
 ·have p3:=Rat.mul_nonneg (a:=W*N - 1) (by grind) (Rat.le_of_lt T4)
  clear hK m k1 k2 f1 f2 f3 mP mT
  grind
 ·have p3:=Rat.mul_nonneg (a := -1 - W*N) (by grind) (Rat.le_of_lt T4)
  clear hK m k1 k2 f1 f2 f3 mP mT
  grind
theorem canc {x y k:Rat} (hk:0<k) (h:x*k=y*k):x=y :=
 Rat.le_antisymm (Rat.le_of_mul_le_mul_right (by rw [h];exact Rat.le_refl) hk) (Rat.le_of_mul_le_mul_right (by rw [h];exact Rat.le_refl) hk)
theorem sq_pos {a:Rat} (h:a≠0):0<a*a:=by
 rcases tri a 0 with k | k | k
 ·have:=Rat.mul_pos (a := -a) (b := -a) (by grind) (by grind);grind
 ·exact absurd k h
 ·exact Rat.mul_pos k k
theorem sq_rl {x y a b:Rat} (ha:a≠0) (hb:b≠0) (h:a*a*x=b*b*y):Rl x y:=by
 have e:x=(b / a)*(b / a)*y:=by
  have h2:(b / a)*a=b:=Rat.div_mul_cancel ha
  have h3:(b / a)*(b / a)*y*(a*a)=x*(a*a):=by
   have:(b / a)*(b / a)*y*(a*a)=((b / a)*a)*((b / a)*a)*y:=by grind
   rw [this,h2];grind
  exact (canc (sq_pos ha) h3).symm
 have n0:b / a≠0:=fun z=>by
  have:(b / a)*a=b:=Rat.div_mul_cancel ha
  rw [z] at this;exact hb (by grind)
 rcases tri (b / a) 0 with k | k | k
 ·exact ⟨-(b / a),by grind,by rw [e];grind⟩
 ·exact absurd k n0
 ·exact ⟨b / a,k,e⟩
theorem list_low {l:List Tm} {D:Nat} {E:Rat} (hr:Red l) (n:Nr l) (h0:l ≠ []) (h3:l.length≤3) (hc:∀ t∈l,t.1≠0) (hD:0<D) (hE:0<E)
  (hj:∀ t∈l,∃ z:Int,t.1*(D:Rat)=(z:Rat)) (hb:∀ t∈l,∀ K,-(E*tk K)≤aT K t∧aT K t≤E*tk K) :
  ∃ C:Rat,0≤C∧∀ K,tk K - C≤((D*D*(D*D):Nat):Rat)*(3*E*(3*E*(3*E)))*aL K l∨((D*D*(D*D):Nat):Rat)*(3*E*(3*E*(3*E)))*aL K l ≤ -(tk K - C):=by
 have jz:∃ z:Int,(0:Rat)*(D:Rat)=(z:Rat):=⟨0,by rw [Rat.zero_mul];rfl⟩
 have bz:∀ K,-(E*tk K)≤(0:Rat)*(gK K 0:Rat)∧(0:Rat)*(gK K 0:Rat)≤E*tk K:=fun K=>by
  have:=Rat.mul_nonneg (Rat.le_of_lt hE) (Rat.le_of_lt (tk_pos K))
  rw [Rat.zero_mul];constructor <;> grind
 match l,h0,h3 with
 | [(c1,q1)],_,_ =>
  obtain ⟨r1,e1⟩:=n _ List.mem_cons_self
  dsimp only at e1;subst e1
  have k1:=hc _ List.mem_cons_self
  have p1:=hr.1 _ List.mem_cons_self
  dsimp only at k1 p1
  have:=norm_low (c1:=c1) (c2:=0) (c3:=0) (r1:=r1) (r2:=0) (r3:=0) hD hE (hj _ List.mem_cons_self) jz jz (fun z=>by
   have q:=Rat.mul_pos (sq_pos k1) p1
   have q2:=Rat.mul_pos q q
   unfold nrmQ at z
   grind) (fun K=>by have:=hb _ List.mem_cons_self K;rwa [aT_nat] at this) bz bz
  obtain ⟨C,c0,h⟩:=this
  refine ⟨C,c0,fun K => ?_⟩
  have e:aL K [(c1,(r1:Rat))]=c1*(gK K r1:Rat)+0*(gK K 0:Rat)+0*(gK K 0:Rat):=by
   show aT K _+0=_
   rw [aT_nat];grind
  rw [e];exact h K
 | [(c1,q1),(c2,q2)],_,_ =>
  have m1:(c1,q1) ∈ [(c1,q1),(c2,q2)]:=List.mem_cons_self
  have m2:(c2,q2) ∈ [(c1,q1),(c2,q2)]:=List.mem_cons_of_mem _ List.mem_cons_self
  have rl:=(List.pairwise_cons.1 hr.2).1 _ (List.mem_cons_self (a:=(c2,q2)) (l := []))
  obtain ⟨r1,e1⟩:=n _ m1
  obtain ⟨r2,e2⟩:=n _ m2
  dsimp only at e1 e2;subst e1;subst e2
  have k1:=hc _ m1;have k2:=hc _ m2
  have p1:=hr.1 _ m1;have p2:=hr.1 _ m2
  dsimp only at k1 p1 k2 p2 rl
  have:=norm_low (c1:=c1) (c2:=c2) (c3:=0) (r1:=r1) (r2:=r2) (r3:=0) hD hE (hj _ m1) (hj _ m2) jz (fun z=>by
   have z2:(c1*c1*(r1:Rat) - c2*c2*(r2:Rat))*(c1*c1*(r1:Rat) - c2*c2*(r2:Rat))=0:=by unfold nrmQ at z;grind
   have z3:c1*c1*(r1:Rat)=c2*c2*(r2:Rat):=by
    rcases Rat.mul_eq_zero.1 z2 with z | z <;> grind
   exact rl (sq_rl k1 k2 z3)) (fun K=>by have:=hb _ m1 K;rwa [aT_nat] at this) (fun K=>by have:=hb _ m2 K;rwa [aT_nat] at this) bz
  obtain ⟨C,c0,h⟩:=this
  refine ⟨C,c0,fun K => ?_⟩
  have e:aL K [(c1,(r1:Rat)),(c2,(r2:Rat))]=c1*(gK K r1:Rat)+c2*(gK K r2:Rat)+0*(gK K 0:Rat):=by
   show aT K _+(aT K _+0)=_
   rw [aT_nat,aT_nat];grind
  rw [e];exact h K
 | [(c1,q1),(c2,q2),(c3,q3)],_,_ =>
  have m1:(c1,q1) ∈ [(c1,q1),(c2,q2),(c3,q3)]:=List.mem_cons_self
  have m2:(c2,q2) ∈ [(c1,q1),(c2,q2),(c3,q3)]:=List.mem_cons_of_mem _ List.mem_cons_self
  have m3:(c3,q3) ∈ [(c1,q1),(c2,q2),(c3,q3)]:=List.mem_cons_of_mem _ (List.mem_cons_of_mem _ List.mem_cons_self)
  have rl:=(List.pairwise_cons.1 hr.2).1 _ (List.mem_cons_self (a:=(c2,q2)) (l := [(c3,q3)]))
  obtain ⟨r1,e1⟩:=n _ m1
  obtain ⟨r2,e2⟩:=n _ m2
  obtain ⟨r3,e3⟩:=n _ m3
  dsimp only at e1 e2 e3;subst e1;subst e2;subst e3
  have k1:=hc _ m1;have k2:=hc _ m2
  have p1:=hr.1 _ m1;have p2:=hr.1 _ m2
  dsimp only at k1 p1 k2 p2 rl
  have:=norm_low (c1:=c1) (c2:=c2) (c3:=c3) (r1:=r1) (r2:=r2) (r3:=r3) hD hE (hj _ m1) (hj _ m2) (hj _ m3) (fun z=>by
   have z2:(2*c1*c2*(r2:Rat))*(2*c1*c2*(r2:Rat))*(r1:Rat)=(c1*c1*(r1:Rat)+c2*c2*(r2:Rat) - c3*c3*(r3:Rat))*(c1*c1*(r1:Rat)+c2*c2*(r2:Rat) - c3*c3*(r3:Rat))*(r2:Rat):=by
    unfold nrmQ at z
    have:(c1*c1*(r1:Rat)+c2*c2*(r2:Rat) - c3*c3*(r3:Rat))*(c1*c1*(r1:Rat)+c2*c2*(r2:Rat) - c3*c3*(r3:Rat))=4*(c1*c1*(r1:Rat)*(c2*c2*(r2:Rat))):=by grind
    rw [this];grind
   have a0:2*c1*c2*(r2:Rat)≠0:=fun z=>by
    rcases Rat.mul_eq_zero.1 z with z | z
    ·rcases Rat.mul_eq_zero.1 z with z | z
     ·exact k1 (by grind)
     ·exact k2 z
    ·grind
   have lp:=Rat.mul_pos (sq_pos a0) p1
   have b0:c1*c1*(r1:Rat)+c2*c2*(r2:Rat) - c3*c3*(r3:Rat)≠0:=fun z=>by
    rw [z2,z,Rat.zero_mul,Rat.zero_mul] at lp;exact absurd lp (by decide)
   exact rl (sq_rl a0 b0 z2)) (fun K=>by have:=hb _ m1 K;rwa [aT_nat] at this) (fun K=>by have:=hb _ m2 K;rwa [aT_nat] at this) (fun K=>by have:=hb _ m3 K;rwa [aT_nat] at this)
  obtain ⟨C,c0,h⟩:=this
  refine ⟨C,c0,fun K => ?_⟩
  have e:aL K [(c1,(r1:Rat)),(c2,(r2:Rat)),(c3,(r3:Rat))]=c1*(gK K r1:Rat)+c2*(gK K r2:Rat)+c3*(gK K r3:Rat):=by
   show aT K _+(aT K _+(aT K _+0))=_
   rw [aT_nat,aT_nat,aT_nat];grind
  rw [e];exact h K
end Go.Proofs.YtpkloolckbhdaaaGreatDoor.T
