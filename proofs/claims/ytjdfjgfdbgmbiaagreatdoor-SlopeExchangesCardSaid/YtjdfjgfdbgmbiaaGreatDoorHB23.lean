/- Parts of the proof of the text YtjdfjgfdbgmbiaaGreatDoorHB39. -/
import Derived.Test.YtjdfjgfdbgmbiaaGreatDoorHB1
import Derived.Test.YtjdfjgfdbgmbiaaGreatDoorHB18
import Derived.Test.YtjdfjgfdbgmbiaaGreatDoorHB22
set_option linter.all false
set_option maxRecDepth 100000
set_option maxHeartbeats 8000000
namespace Go.Proofs.YtjdfjgfdbgmbiaaGreatDoor.T
open Go.Proofs.YtjdfjgfdbgmbiaaGreatDoor
theorem tri (x y:Rat):x<y∨x=y∨y<x:=by grind
def sg (a:Rat):Rat:=if a<0 then -(a*a) else a*a
theorem sq_nonneg (a:Rat):0≤a*a:=by
 rcases tri a 0 with h | rfl | h
 ·have:=Rat.mul_pos (a := -a) (b := -a) (by grind) (by grind);grind
 ·rw [Rat.zero_mul];exact Rat.le_refl
 ·exact Rat.le_of_lt (Rat.mul_pos h h)
theorem sg_pos {a:Rat} (h:0<a):sg a=a*a:=if_neg (by grind)
theorem sg_neg {a:Rat} (h:a<0):sg a = -(a*a):=if_pos h
theorem sg_zero:sg 0=0:=by unfold sg;rw [if_neg (by grind),Rat.zero_mul]
theorem sg_lt {a b:Rat} (h:a<b):sg a<sg b:=by
 rcases tri a 0 with k | rfl | k
 ·rcases tri b 0 with l | rfl | l
  ·rw [sg_neg k,sg_neg l]
   have:=Rat.mul_pos (a:=b - a) (b := -(a+b)) (by grind) (by grind)
   grind
  ·rw [sg_neg k,sg_zero]
   have:=Rat.mul_pos (a := -a) (b := -a) (by grind) (by grind)
   grind
  ·rw [sg_neg k,sg_pos l]
   have:=Rat.mul_pos (a := -a) (b := -a) (by grind) (by grind)
   have:=Rat.mul_pos l l
   grind
 ·rw [sg_zero,sg_pos h];exact Rat.mul_pos h h
 ·rw [sg_pos k,sg_pos (by grind)]
  have:=Rat.mul_pos (a:=b - a) (b:=a+b) (by grind) (by grind)
  grind
end Go.Proofs.YtjdfjgfdbgmbiaaGreatDoor.T
namespace Go.Proofs.YtjdfjgfdbgmbiaaGreatDoor.T
open Go.Proofs.YtjdfjgfdbgmbiaaGreatDoor
def IsSq (z:Rat):Prop:=∃ c:Rat,c*c=z
noncomputable def rootR (z:Rat):Rat:=mkRat (rootN z.num.natAbs:Nat) (rootN z.den)
theorem bothS_sq {z:Rat} (h:IsSq z):bothS z:=by
 obtain ⟨c,rfl⟩:=h
 rw [bothS_iff,(sq_parts c).1,(sq_parts c).2];exact ⟨⟨_,rfl⟩,⟨_,rfl⟩⟩
theorem nC_both {z:Rat} (h:bothS z):nC z=rootR z∧nN z=1:=by
 unfold nC rootR cN cD nN;rw [if_pos h,if_pos h,if_pos h];exact ⟨rfl,rfl⟩
theorem rootR_sq {z:Rat} (h0:0≤z) (h:bothS z):rootR z*rootR z=z:=by
 have:=nC_sq h0
 rwa [(nC_both h).1,(nC_both h).2,cast1,Rat.mul_one] at this
theorem rootR_nonneg {z:Rat} (h:bothS z):0≤rootR z:=(nC_both h).1 ▸ nC_nonneg z
theorem bothS_is {z:Rat} (h0:0≤z):bothS z↔IsSq z:=⟨fun h=>⟨_,rootR_sq h0 h⟩,bothS_sq⟩
theorem sq_inj {x y:Rat} (hx:0≤x) (hy:0≤y) (h:x*x=y*y):x=y:=by
 have e:sg x=sg y:=by
  rcases tri x 0 with k | rfl | k
  ·exact absurd k (by grind)
  ·rw [Rat.zero_mul] at h
   rcases tri y 0 with l | rfl | l
   ·exact absurd l (by grind)
   ·rfl
   ·have:=Rat.mul_pos l l;grind
  ·have:=Rat.mul_pos k k
   rcases tri y 0 with l | rfl | l
   ·exact absurd l (by grind)
   ·rw [Rat.zero_mul] at h;grind
   ·rw [sg_pos k,sg_pos l,h]
 rcases tri x y with k | k | k
 ·have:=sg_lt k;grind
 ·exact k
 ·have:=sg_lt k;grind
end Go.Proofs.YtjdfjgfdbgmbiaaGreatDoor.T
namespace Go.Proofs.YtjdfjgfdbgmbiaaGreatDoor.T
open Go.Proofs.YtjdfjgfdbgmbiaaGreatDoor
abbrev Tm:=Rat × Rat
def Rl (x y:Rat):Prop:=∃ r:Rat,0<r∧x=r*r*y
theorem Rl.refl (x:Rat):Rl x x:=⟨1,by decide,by grind⟩
theorem Rl.symm {x y:Rat} (h:Rl x y):Rl y x:=by
 obtain ⟨r,h0,rfl⟩:=h
 refine ⟨r⁻¹,Rat.inv_pos.2 h0,?_⟩
 have e:r⁻¹*r=1:=Rat.inv_mul_cancel _ (by grind)
 have:r⁻¹*r⁻¹*(r*r*y)=(r⁻¹*r)*(r⁻¹*r)*y:=by grind
 rw [this,e];grind
theorem Rl.trans {x y z:Rat} (h:Rl x y) (k:Rl y z):Rl x z:=by
 obtain ⟨r,h0,rfl⟩:=h
 obtain ⟨s,k0,rfl⟩:=k
 exact ⟨r*s,Rat.mul_pos h0 k0,by grind⟩
noncomputable def co (m:Rat) (t:Tm):Rat:=if bothS (t.2 / m) then t.1*rootR (t.2 / m) else 0
theorem div_sq {r m:Rat} (hm:0<m):r*r*m / m=r*r:=Rat.mul_div_cancel (by grind)
theorem co_yes {m r:Rat} (c:Rat) (hm:0<m) (hr:0≤r):co m (c,r*r*m)=c*r:=by
 unfold co
 have b:bothS (r*r):=bothS_sq ⟨r,rfl⟩
 show (if bothS (r*r*m / m) then c*rootR (r*r*m / m) else 0)=_
 rw [div_sq hm,if_pos b,sq_inj (rootR_nonneg b) hr (rootR_sq (sq_nonneg r) b)]
theorem co_no {m q:Rat} (c:Rat) (hm:0<m) (hq:0≤q) (h:¬ ∃ r:Rat,0≤r∧q=r*r*m):co m (c,q)=0:=by
 unfold co
 refine if_neg fun b=>h ?_
 have p:0≤q / m:=by
  rw [Rat.div_def];exact Rat.mul_nonneg hq (Rat.le_of_lt (Rat.inv_pos.2 hm))
 refine ⟨rootR (q / m),rootR_nonneg b,?_⟩
 rw [rootR_sq p b]
 exact (Rat.div_mul_cancel (by grind)).symm
theorem co_zero (m q:Rat):co m (0,q)=0:=by
 unfold co
 split
 ·exact Rat.zero_mul _
 ·rfl
theorem co_rl {m q:Rat} (c:Rat) (hm:0<m) (hq:0<q) (h:¬ Rl q m):co m (c,q)=0:=by
 refine co_no c hm (Rat.le_of_lt hq) fun ⟨r,r0,e⟩=>h ⟨r,?_,e⟩
 refine Rat.lt_of_le_of_ne r0 fun z => ?_
 rw [←z] at e
 have:(0:Rat)*0*m=0:=by grind
 rw [this] at e;grind
theorem co_self {m:Rat} (c:Rat) (hm:0<m):co m (c,m)=c:=by
 have:=co_yes (m:=m) (r:=1) c hm (by decide)
 rwa [show (1:Rat)*1*m=m by grind,Rat.mul_one] at this
theorem co_out {m q k:Rat} (c:Rat) (hm:0<m) (hq:0<q) (hk:0≤k):co m (c,k*k*q)=co m (c*k,q):=by
 by_cases h:∃ r:Rat,0≤r∧q=r*r*m
 ·obtain ⟨r,r0,rfl⟩:=h
  rw [show k*k*(r*r*m)=(k*r)*(k*r)*m by grind,co_yes c hm (Rat.mul_nonneg hk r0),co_yes _ hm r0];grind
 ·rw [co_no _ hm (Rat.le_of_lt hq) h]
  by_cases z:k=0
  ·subst z
   have:=co_yes (m:=m) (r:=0) c hm (by decide)
   rw [show (0:Rat)*0*q=0*0*m by grind,this];grind
  ·have kp:0<k:=by grind
   refine co_no _ hm (Rat.mul_nonneg (sq_nonneg k) (Rat.le_of_lt hq)) fun ⟨r,r0,e⟩=>h ⟨r / k,?_,?_⟩
   ·rw [Rat.div_def];exact Rat.mul_nonneg r0 (Rat.le_of_lt (Rat.inv_pos.2 kp))
   ·have d:r / k*k=r:=Rat.div_mul_cancel z
    have e2:(q - r / k*(r / k)*m)*(k*k)=0:=by
     have:r / k*(r / k)*m*(k*k)=(r / k*k)*(r / k*k)*m:=by grind
     grind
    rcases Rat.mul_eq_zero.1 e2 with y | y
    ·grind
    ·rcases Rat.mul_eq_zero.1 y with y | y <;> exact absurd y z
theorem co_add {m:Rat} (c d q:Rat):co m (c+d,q)=co m (c,q)+co m (d,q):=by
 unfold co
 dsimp only
 split
 ·exact Rat.add_mul _ _ _
 ·grind
theorem co_mul {m:Rat} (c d q:Rat):co m (c*d,q)=c*co m (d,q):=by
 unfold co
 dsimp only
 split
 ·exact Rat.mul_assoc _ _ _
 ·grind
noncomputable def vl (m:Rat):List Tm→Rat
 | []=>0
 | t::l=>co m t+vl m l
theorem vl_append (m:Rat) (l k:List Tm):vl m (l++k)=vl m l+vl m k:=by
 induction l with
 | nil=>show vl m k=0+vl m k;grind
 | cons t l ih=>show co m t+vl m (l++k)=co m t+vl m l+vl m k;rw [ih];grind
theorem vl_perm {m:Rat} {l k:List Tm} (h:l.Perm k):vl m l=vl m k:=by
 induction h with
 | nil=>rfl
 | cons t _ ih=>show co m t+_=co m t+_;rw [ih]
 | swap s t l=>show co m t+(co m s+vl m l)=co m s+(co m t+vl m l);grind
 | trans _ _ a b=>exact a.trans b
theorem vl_filter (m:Rat) (l:List Tm):vl m (l.filter fun t=>decide (t.1≠0))=vl m l:=by
 induction l with
 | nil=>rfl
 | cons t l ih =>
  obtain ⟨c,q⟩:=t
  by_cases h:c=0
  ·subst h
   rw [List.filter_cons_of_neg (by simp),ih]
   show vl m l=co m (0,q)+vl m l
   rw [co_zero];grind
  ·rw [List.filter_cons_of_pos (by simpa using h)]
   show co m (c,q)+_=co m (c,q)+_
   rw [ih]
def loT2 (s t:Tm):Tm:=if t.2<s.2 then t else s
def hiT2 (s t:Tm):Tm:=if t.2<s.2 then s else t
def rel2 (s t:Tm):Prop:=bothS ((hiT2 s t).2 / (loT2 s t).2)
noncomputable instance (s t:Tm):Decidable (rel2 s t):=inferInstanceAs (Decidable (bothS _))
noncomputable def comb (s t:Tm):Tm:=((loT2 s t).1+(hiT2 s t).1*rootR ((hiT2 s t).2 / (loT2 s t).2),(loT2 s t).2)
noncomputable def ins:List Tm→Tm→List Tm
 | [],t => [t]
 | s::l,t=>if rel2 s t then comb s t::l else s::ins l t
theorem div_nn {x y:Rat} (hx:0≤x) (hy:0<y):0≤x / y:=by
 rw [Rat.div_def];exact Rat.mul_nonneg hx (Rat.le_of_lt (Rat.inv_pos.2 hy))
theorem both_rl {x y:Rat} (hx:0<x) (hy:0<y):bothS (x / y)↔Rl x y:=by
 constructor
 ·intro b
  have p:=div_nn (Rat.le_of_lt hx) hy
  have s:=rootR_sq p b
  have e:x=rootR (x / y)*rootR (x / y)*y:=by rw [s];exact (Rat.div_mul_cancel (by grind)).symm
  refine ⟨rootR (x / y),?_,e⟩
  refine Rat.lt_of_le_of_ne (rootR_nonneg b) fun z => ?_
  rw [←z] at e;grind
 ·rintro ⟨r,r0,rfl⟩
  rw [div_sq hy];exact bothS_sq ⟨r,rfl⟩
theorem lohi {P:Tm→Prop} {s t:Tm} (hs:P s) (ht:P t):P (loT2 s t)∧P (hiT2 s t):=by
 unfold loT2 hiT2
 split
 ·exact ⟨ht,hs⟩
 ·exact ⟨hs,ht⟩
theorem rel2_iff {s t:Tm} (hs:0<s.2) (ht:0<t.2):rel2 s t↔Rl t.2 s.2:=by
 unfold rel2 loT2 hiT2
 split
 ·rw [both_rl hs ht];exact ⟨Rl.symm,Rl.symm⟩
 ·rw [both_rl ht hs]
theorem comb_co {m:Rat} {s t:Tm} (hm:0<m) (hs:0<s.2) (ht:0<t.2) (h:rel2 s t):co m (comb s t)=co m s+co m t:=by
 obtain ⟨lp,hp⟩:=lohi (P:=fun x=>0<x.2) hs ht
 have e:co m s+co m t=co m (loT2 s t)+co m (hiT2 s t):=by
  unfold loT2 hiT2;split
  ·grind
  ·rfl
 rw [e]
 unfold comb rel2 at *
 have r0:=rootR_nonneg h
 have r2:=rootR_sq (div_nn (Rat.le_of_lt hp) lp) h
 have q:(hiT2 s t).2=rootR ((hiT2 s t).2 / (loT2 s t).2)*rootR ((hiT2 s t).2 / (loT2 s t).2)*(loT2 s t).2:=by rw [r2];exact (Rat.div_mul_cancel (by grind)).symm
 have c:=co_out (hiT2 s t).1 hm lp r0
 rw [←q] at c
 rw [co_add,←c]
theorem vl_ins {m:Rat} (hm:0<m) {t:Tm} (ht:0<t.2):∀ {l:List Tm},(∀ s∈l,0<s.2)→vl m (ins l t)=vl m l+co m t
 | [],_=>by show co m t+0=0+co m t;grind
 | s::l,h=>by
  unfold ins
  have hs:=h s List.mem_cons_self
  have ih:=vl_ins hm ht (l:=l) fun x hx=>h x (List.mem_cons_of_mem _ hx)
  split
  ·next k=>show co m (comb s t)+vl m l=co m s+vl m l+co m t;rw [comb_co hm hs ht k];grind
  ·show co m s+vl m (ins l t)=co m s+vl m l+co m t;rw [ih];grind
def Red (l:List Tm):Prop:=(∀ s∈l,0<s.2)∧l.Pairwise fun s t=>¬ Rl s.2 t.2
theorem comb_rl {s t:Tm} (hs:0<s.2) (ht:0<t.2) (h:rel2 s t):0<(comb s t).2∧Rl (comb s t).2 s.2∧((comb s t).2=s.2∨(comb s t).2=t.2):=by
 have k:=(rel2_iff hs ht).1 h
 unfold comb loT2
 dsimp only
 split
 ·exact ⟨ht,k,.inr rfl⟩
 ·exact ⟨hs,Rl.refl _,.inl rfl⟩
theorem ins_mem {t:Tm} (ht:0<t.2):∀ {l:List Tm},(∀ s∈l,0<s.2)→∀ x∈ins l t,0<x.2∧((∃ s∈l,Rl x.2 s.2)∨Rl x.2 t.2)∧(x.2=t.2∨∃ s∈l,x.2=s.2)
 | [],_,x,hx=>by
  have:x=t:=by simpa [ins] using hx
  subst this;exact ⟨ht,.inr (Rl.refl _),.inl rfl⟩
 | s::l,h,x,hx=>by
  have hs:=h s List.mem_cons_self
  unfold ins at hx
  split at hx
  ·next k =>
   rcases List.mem_cons.1 hx with rfl | hx
   ·have c:=comb_rl hs ht k
    exact ⟨c.1,.inl ⟨s,List.mem_cons_self,c.2.1⟩,c.2.2.elim (fun e => .inr ⟨s,List.mem_cons_self,e⟩) .inl⟩
   ·exact ⟨h x (List.mem_cons_of_mem _ hx),.inl ⟨x,List.mem_cons_of_mem _ hx,Rl.refl _⟩,.inr ⟨x,List.mem_cons_of_mem _ hx,rfl⟩⟩
  ·rcases List.mem_cons.1 hx with rfl | hx
   ·exact ⟨hs,.inl ⟨x,List.mem_cons_self,Rl.refl _⟩,.inr ⟨x,List.mem_cons_self,rfl⟩⟩
   ·have ih:=ins_mem ht (l:=l) (fun y hy=>h y (List.mem_cons_of_mem _ hy)) x hx
    refine ⟨ih.1,ih.2.1.elim (fun ⟨y,hy,e⟩ => .inl ⟨y,List.mem_cons_of_mem _ hy,e⟩) .inr,ih.2.2.elim .inl fun ⟨y,hy,e⟩ => .inr ⟨y,List.mem_cons_of_mem _ hy,e⟩⟩
theorem ins_red {t : Tm} (ht : 0 < t.2) : ∀ {l : List Tm}, Red l → Red (ins l t)
 | [], _ => ⟨fun x hx => by have : x = t := by simpa [ins] using hx
                            subst this; exact ht, by simp [ins]⟩
 | s :: l, h => by
   have hs := h.1 s List.mem_cons_self
   have hl : Red l := ⟨fun x hx => h.1 x (List.mem_cons_of_mem _ hx), (List.pairwise_cons.1 h.2).2⟩
   have hn := (List.pairwise_cons.1 h.2).1
   unfold ins
   split
   · next k =>
     have c := comb_rl hs ht k
     refine ⟨fun x hx => ?_, List.pairwise_cons.2 ⟨fun x hx r => hn x hx (c.2.1.symm.trans r), hl.2⟩⟩
     rcases List.mem_cons.1 hx with rfl | hx
     · exact c.1
     · exact hl.1 x hx
   · next k =>
     have ih := ins_red ht hl
     refine ⟨fun x hx => ?_, List.pairwise_cons.2 ⟨fun x hx r => ?_, ih.2⟩⟩
     · rcases List.mem_cons.1 hx with rfl | hx
       · exact hs
       · exact ih.1 x hx
     · have m := (ins_mem ht hl.1 x hx).2.1
       rcases m with ⟨y, hy, e⟩ | e
       · exact hn y hy (r.trans e)
       · exact k ((rel2_iff hs ht).2 (r.trans e).symm)
theorem Red.filter {l:List Tm} (h:Red l) (p:Tm→Bool):Red (l.filter p) :=
 ⟨fun s hs=>h.1 s (List.mem_filter.1 hs).1,h.2.filter p⟩
theorem Red.perm {l k:List Tm} (h:Red l) (e:l.Perm k):Red k :=
 ⟨fun s hs=>h.1 s (e.mem_iff.2 hs),(e.pairwise_iff fun {a b} (n:¬ Rl a.2 b.2) (q:Rl b.2 a.2)=>n q.symm).1 h.2⟩
theorem vl_other {m:Rat} (hm:0<m):∀ {l:List Tm},(∀ s∈l,0<s.2)→(∀ s∈l,¬ Rl m s.2)→vl m l=0
 | [],_,_=>rfl
 | s::l,h,k=>by
  show co m s+vl m l=0
  rw [vl_other hm (fun x hx=>h x (List.mem_cons_of_mem _ hx)) fun x hx=>k x (List.mem_cons_of_mem _ hx),
   co_rl s.1 hm (h s List.mem_cons_self) fun r=>k s List.mem_cons_self r.symm]
  grind
theorem vl_own {l:List Tm} (h:Red l) {t:Tm} (ht:t∈l):vl t.2 l=t.1:=by
 obtain ⟨a,b,rfl⟩:=List.append_of_mem ht
 have hp:=h.1 t ht
 have pa:=List.pairwise_append.1 h.2
 have pb:=List.pairwise_cons.1 pa.2.1
 rw [vl_append,vl_other hp (fun s hs=>h.1 s (by simp [hs])) (fun s hs r=>pa.2.2 s hs t List.mem_cons_self r.symm)]
 show 0+(co t.2 t+vl t.2 b)=t.1
 rw [vl_other hp (fun s hs=>h.1 s (by simp [hs])) (fun s hs r=>pb.1 s hs r),show co t.2 t=t.1 from co_self t.1 hp]
 grind
theorem vl_nil {l:List Tm} (h:Red l) (hc:∀ t∈l,t.1≠0) (z:∀ m,0<m→vl m l=0):l = []:=by
 cases l with
 | nil=>rfl
 | cons t l =>
  have a:=vl_own h (t:=t) List.mem_cons_self
  rw [z t.2 (h.1 t List.mem_cons_self)] at a
  exact absurd a.symm (hc t List.mem_cons_self)
noncomputable def pr (m:Rat) (k:List Tm):List Tm→Rat
 | []=>0
 | t::l=>vl m (k.map fun s=>(t.1*s.1,t.2*s.2))+pr m k l
end Go.Proofs.YtjdfjgfdbgmbiaaGreatDoor.T
namespace Go.Proofs.YtjdfjgfdbgmbiaaGreatDoor.T
open Go.Proofs.YtjdfjgfdbgmbiaaGreatDoor
theorem divInt_le {n d : Int} (hd : d ≠ 0) : (Rat.divInt n d).num.natAbs ≤ n.natAbs ∧ (Rat.divInt n d).den ∣ d.natAbs := by
 refine ⟨?_, ?_⟩
 · rw [Rat.num_divInt, Int.natAbs_ediv_of_dvd (by
     refine Int.dvd_trans ?_ (Int.dvd_mul_left _ _)
     exact Int.gcd_dvd_right _ _), Int.natAbs_mul]
   refine Nat.le_trans (Nat.div_le_self _ _) ?_
   have : d.sign.natAbs ≤ 1 := by rcases Int.lt_trichotomy d 0 with q | q | q
                                  · rw [Int.sign_eq_neg_one_of_neg q]; decide
                                  · exact absurd q hd
                                  · rw [Int.sign_eq_one_of_pos q]; decide
   calc _ ≤ 1 * n.natAbs := Nat.mul_le_mul_right _ this
     _ = n.natAbs := Nat.one_mul _
 · rw [Rat.den_divInt, if_neg hd]
   exact Nat.div_dvd_of_dvd (Int.natAbs_dvd_natAbs.2 (Int.gcd_dvd_left d n))
theorem num_is (x:Rat):(x.num:Rat)=x*(x.den:Rat):=by
 have h:(x.num:Rat) / (x.den:Rat)=x:=by
  have:=Rat.num_divInt_den x
  rwa [Rat.divInt_eq_div,Rat.intCast_natCast] at this
 have p:(0:Rat)<(x.den:Rat):=Rat.natCast_lt_natCast (a:=0).2 x.den_pos
 conv=>rhs;lhs;rw [←h]
 exact (Rat.div_mul_cancel (by grind)).symm
theorem root_le (n:Nat):rootN n≤n:=by
 have:=(rootN_is n).1
 rcases Nat.eq_zero_or_pos (rootN n) with z | z
 ·omega
 ·exact Nat.le_trans (Nat.le_mul_of_pos_left _ z) this
def J (D M:Nat) (x:Rat):Prop:=∃ z:Int,x*(D:Rat)=(z:Rat)∧z.natAbs≤M
theorem J.up {D M M':Nat} {x:Rat} (h:J D M x) (k:M≤M'):J D M' x:=by obtain ⟨z,e,b⟩:=h;exact ⟨z,e,Nat.le_trans b k⟩
theorem J.add {D M M':Nat} {x y:Rat} (h:J D M x) (k:J D M' y):J D (M+M') (x+y):=by
 obtain ⟨z,e,b⟩:=h
 obtain ⟨z',e',b'⟩:=k
 exact ⟨z+z',by rw [Rat.add_mul,e,e',Rat.intCast_add],Nat.le_trans (Int.natAbs_add_le z z') (Nat.add_le_add b b')⟩
theorem J.mul {D M D' M':Nat} {x y:Rat} (h:J D M x) (k:J D' M' y):J (D*D') (M*M') (x*y):=by
 obtain ⟨z,e,b⟩:=h
 obtain ⟨z',e',b'⟩:=k
 refine ⟨z*z',?_,by rw [Int.natAbs_mul];exact Nat.mul_le_mul b b'⟩
 rw [Rat.natCast_mul,Rat.intCast_mul,←e,←e'];grind
theorem J.wide {D M:Nat} {x:Rat} (h:J D M x) (k:Nat):J (D*k) (M*k) x:=by
 obtain ⟨z,e,b⟩:=h
 refine ⟨z*k,?_,by rw [Int.natAbs_mul,Int.natAbs_natCast];exact Nat.mul_le_mul_right k b⟩
 rw [Rat.natCast_mul,Rat.intCast_mul,←e,Rat.intCast_natCast];grind
theorem J.neg {D M:Nat} {x:Rat} (h:J D M x):J D M (x * -1):=by
 obtain ⟨z,e,b⟩:=h
 refine ⟨-z,?_,by rwa [Int.natAbs_neg]⟩
 rw [Rat.intCast_neg,←e];grind
theorem J.zero (D M:Nat):J D M 0:=⟨0,by rw [Rat.zero_mul];rfl,Nat.zero_le _⟩
theorem J.int (z:Int):J 1 z.natAbs (z:Rat):=⟨z,by rw [show ((1:Nat):Rat)=1 from rfl,Rat.mul_one],Nat.le_refl _⟩
theorem J.parts {D M:Nat} {x:Rat} (hD:0<D) (h:J D M x):x.num.natAbs≤M∧x.den≤D:=by
 obtain ⟨z,e,b⟩:=h
 have d0:((D:Nat):Rat)≠0:=by
  have:=Rat.natCast_lt_natCast (a:=0).2 hD
  intro k;rw [k] at this;exact absurd this (by decide)
 have hx:x=Rat.divInt z (D:Int):=by
  rw [Rat.divInt_eq_div,←e,Rat.intCast_natCast]
  exact (Rat.mul_div_cancel d0).symm
 have l:=divInt_le (n:=z) (d:=(D:Int)) (by omega)
 rw [←hx,Int.natAbs_natCast] at l
 exact ⟨Nat.le_trans l.1 b,Nat.le_of_dvd hD l.2⟩
theorem J.bq {D M k:Nat} {x:Rat} (hD:0<D) (h:J D M x) (h1:M<tenTo k) (h2:D<tenTo k):Bq k x :=
 ⟨Nat.lt_of_le_of_lt (h.parts hD).1 h1,Nat.lt_of_le_of_lt (h.parts hD).2 h2⟩
theorem J.root {a b:Nat} (hb:0<b) (h:bothS ((a:Rat) / (b:Rat))):J b (a*b) (rootR ((a:Rat) / (b:Rat))):=by
 have b0:(0:Rat)<(b:Rat):=Rat.natCast_lt_natCast (a:=0).2 hb
 have e:(a:Rat) / (b:Rat)=Rat.divInt (a:Int) (b:Int):=by rw [Rat.divInt_eq_div,Rat.intCast_natCast,Rat.intCast_natCast]
 have z0:(0:Rat)≤(a:Rat) / (b:Rat):=div_nn (castn_nonneg a) b0
 have hz:J b a ((a:Rat) / (b:Rat)):=⟨a,by rw [Rat.intCast_natCast];exact Rat.div_mul_cancel (by grind),by simp⟩
 generalize hq:(a:Rat) / (b:Rat)=q at *
 obtain ⟨n1,d1⟩:=hz.parts hb
 have hdv:q.den∣b:=by
  have:=(divInt_le (n:=(a:Int)) (d:=(b:Int)) (by omega)).2
  rwa [←e,Int.natAbs_natCast] at this
 obtain ⟨s1,s2⟩:=h
 have rd:rootN q.den∣b:=Nat.dvd_trans ⟨rootN q.den,s2.symm⟩ hdv
 obtain ⟨k,hk⟩:=rd
 have rp:0<rootN q.den:=Nat.pos_of_ne_zero fun z=>by rw [z] at s2;have:=q.den_pos;omega
 have rr:rootR q*(rootN q.den:Rat)=(rootN q.num.natAbs:Rat):=by
  unfold rootR
  rw [Rat.mkRat_eq_div,Rat.intCast_natCast]
  have:(0:Rat)<(rootN q.den:Rat):=Rat.natCast_lt_natCast (a:=0).2 rp
  exact Rat.div_mul_cancel (by grind)
 refine ⟨(rootN q.num.natAbs*k:Nat),?_,?_⟩
 ·rw [Rat.intCast_natCast,Rat.natCast_mul,←rr]
  conv=>lhs;rw [hk]
  rw [Rat.natCast_mul];grind
 ·rw [Int.natAbs_natCast]
  have h1:rootN q.num.natAbs≤q.num.natAbs:=root_le _
  have h2:k≤b:=by rw [hk];exact Nat.le_mul_of_pos_left _ rp
  exact Nat.mul_le_mul (Nat.le_trans h1 n1) h2
def Nrm (r:Nat):Prop:=0<r∧nC (r:Rat)=1∧nN (r:Rat)=r
theorem natR_num (r:Nat):((r:Nat):Rat).num.natAbs=r:=by rw [Rat.num_natCast,Int.natAbs_natCast]
theorem natR_den (r:Nat):((r:Nat):Rat).den=1:=Rat.den_natCast r
theorem nat_pos {r:Nat} (h:0<r):(0:Rat)<(r:Rat):=Rat.natCast_lt_natCast (a:=0).2 h
theorem strips_one:∀ l:List Nat,(∀ p∈l,2≤p)→strips l 1=(1,1):=fun l h=>strips_small (by decide) l fun p hp=>by
 have:=h p hp
 exact Nat.lt_of_lt_of_le (by decide:1<2*2) (Nat.mul_le_mul this this)
theorem strips_free:∀ (l:List Nat) (_:∀ p∈l,2≤p) {n:Nat} (_:0<n) (_:∀ p∈l,¬ p*p∣n),strips l n=(1,n)
 | [],_,_,_,_=>rfl
 | p::l,h,n,hn,hf=>by
  have e:strip p n=(1,n):=strip_no fun k=>hf p List.mem_cons_self (Nat.dvd_of_mod_eq_zero k)
  have ih:=strips_free l (fun q hq=>h q (List.mem_cons_of_mem _ hq)) hn fun q hq=>hf q (List.mem_cons_of_mem _ hq)
  unfold strips
  simp [e,ih]
theorem nrm_nN (q:Rat) (hq:¬ bothS q→¬ Sqr (nN q)):Nrm (nN q):=by
 have p:=nN_pos q
 refine ⟨p,?_⟩
 by_cases hb:bothS q
 ·have e:nN q=1:=(nC_both hb).2
  rw [e]
  have b1:bothS ((1:Nat):Rat):=bothS_sq ⟨1,by rw [cast1];grind⟩
  obtain ⟨c1,c2⟩:=nC_both b1
  refine ⟨?_,c2⟩
  rw [c1]
  exact sq_inj (rootR_nonneg b1) (by decide) (by rw [rootR_sq (by rw [cast1];decide) b1,cast1];grind)
 ·have ns:=hq hb
  have nb:¬ bothS ((nN q:Nat):Rat):=fun b=>ns (by
   have:=(bothS_iff.1 b).1
   rwa [natR_num] at this)
  have f:=strips_free primes primes_2 p (nN_free q)
  refine ⟨?_,?_⟩
  ·unfold nC cN cD
   rw [if_neg nb,if_neg nb,natR_num,natR_den,f,strips_one _ primes_2]
   show mkRat ((1:Nat):Int) (1*1)=1
   decide+kernel
  ·generalize nN q=m at *
   unfold nN
   rw [if_neg nb,natR_num,natR_den,f,strips_one _ primes_2]
   show m*1=m
   exact Nat.mul_one _
theorem nN_nsq {q:Rat} (h0:0≤q) (h:¬ bothS q):¬ Sqr (nN q):=by
 rintro ⟨r,e⟩
 refine h ((bothS_is h0).2 ⟨nC q*(r:Rat),?_⟩)
 have:=nC_sq h0
 rw [←e,Rat.natCast_mul] at this
 rw [←this];grind
theorem nrm_of {q:Rat} (h0:0≤q):Nrm (nN q):=nrm_nN q (nN_nsq h0)
theorem Nrm.free {r:Nat} (h:Nrm r):∀ p∈primes,¬ p*p∣r:=by
 have:=nN_free (r:Rat)
 rwa [h.2.2] at this
theorem prime_div:∀ x,x<100→2≤x→∃ p∈primes,p∣x:=by decide+kernel
theorem Nrm.sqf {r:Nat} (h:Nrm r) (hr:r<10000) {x:Nat} (d:x*x∣r):x=1:=by
 have hp:=h.1
 have x0:0<x:=Nat.pos_of_ne_zero fun z=>by subst z;have:=Nat.eq_zero_of_zero_dvd d;omega
 have hx:x<100:=by
  rcases Nat.lt_or_ge x 100 with l | l
  ·exact l
  ·exfalso
   have:=Nat.mul_le_mul l l
   have:=Nat.le_of_dvd hp d
   omega
 rcases Nat.lt_or_ge x 2 with l | l
 ·omega
 ·exfalso
  obtain ⟨p,hm,hd⟩:=prime_div x hx l
  exact h.free p hm (Nat.dvd_trans (Nat.mul_dvd_mul hd hd) d)
theorem nrm_ratio {a b:Nat} (ha:Nrm a) (hb:Nrm b) (la:a<10000) (lb:b<10000) (h:bothS ((a:Rat) / (b:Rat))):a=b:=by
 have b0:=nat_pos hb.1
 have r2:=rootR_sq (div_nn (castn_nonneg a) b0) h
 generalize rootR ((a:Rat) / (b:Rat))=r at r2
 have e:r*r*(b:Rat)=(a:Rat):=by rw [r2];exact Rat.div_mul_cancel (by grind)
 have rn:=num_is r
 have e2:(r.num:Rat)*r.num*(b:Rat)=(a:Rat)*((r.den:Rat)*r.den):=by rw [rn,←e];grind
 have e3:r.num.natAbs*r.num.natAbs*b=a*(r.den*r.den):=by
  have h1:r.num*r.num*(b:Int)=(a:Int)*((r.den:Int)*r.den):=by
   rw [←Rat.intCast_natCast,←Rat.intCast_natCast,←Rat.intCast_natCast,←Rat.intCast_mul,←Rat.intCast_mul,←Rat.intCast_mul,←Rat.intCast_mul] at e2
   exact Rat.intCast_inj.1 e2
  have h2:=congrArg Int.natAbs h1
  rwa [Int.natAbs_mul,Int.natAbs_mul,Int.natAbs_mul,Int.natAbs_mul,Int.natAbs_natCast,Int.natAbs_natCast,Int.natAbs_natCast] at h2
 have c:Nat.Coprime (r.num.natAbs*r.num.natAbs) (r.den*r.den):=by
  have:=r.reduced
  exact (Nat.Coprime.mul_left this this).mul_right (Nat.Coprime.mul_left this this)
 have d1:r.num.natAbs*r.num.natAbs∣a:=by
  refine c.dvd_of_dvd_mul_right ?_
  exact ⟨b,e3.symm⟩
 have d2:r.den*r.den∣b:=by
  refine c.symm.dvd_of_dvd_mul_left ?_
  exact ⟨a,by rw [e3,Nat.mul_comm]⟩
 have n1:=ha.sqf la d1
 have n2:=hb.sqf lb d2
 rw [n1,n2] at e3
 omega
end Go.Proofs.YtjdfjgfdbgmbiaaGreatDoor.T
namespace Go.Proofs.YtjdfjgfdbgmbiaaGreatDoor.T
open Go.Proofs.YtjdfjgfdbgmbiaaGreatDoor Go Go.RowKit Go.Lib
theorem natOf_cons (c:UInt8) (l:List UInt8):natOf (c::l)=(c.toNat - 48)*10 ^ l.length+natOf l:=by
 have h:=natOf_append [c] l
 rw [show natOf [c]=c.toNat - 48 by simp [natOf]] at h
 exact h
theorem dig_48 {c:UInt8} (h:isDig c=true):48≤c.toNat:=by
 simp [isDig] at h
 exact UInt8.le_iff_toNat_le.1 h.1
theorem cmpB_nat:∀ (l m:List UInt8),l.length=m.length→(∀ c∈l,isDig c=true)→(∀ c∈m,isDig c=true)→compareBytes l m=cmpZ (natOf l) (natOf m)
 | [],[],_,_,_=>by unfold compareBytes cmpZ;simp
 | [],_::_,h,_,_=>by simp at h
 | _::_,[],h,_,_=>by simp at h
 | a::l1,b::m1,h,ha,hb=>by
  have hl:l1.length=m1.length:=by simpa using h
  have ih:=cmpB_nat l1 m1 hl (fun c hc=>ha c (List.mem_cons_of_mem _ hc)) (fun c hc=>hb c (List.mem_cons_of_mem _ hc))
  have xa:=natOf_lt l1 fun c hc=>ha c (List.mem_cons_of_mem _ hc)
  have xb:=natOf_lt m1 fun c hc=>hb c (List.mem_cons_of_mem _ hc)
  have da:=dig_48 (ha a List.mem_cons_self)
  have db:=dig_48 (hb b List.mem_cons_self)
  unfold compareBytes
  rw [natOf_cons,natOf_cons,hl]
  rw [hl] at xa
  generalize 10 ^ m1.length=p at *
  generalize natOf l1=x at *
  generalize natOf m1=y at *
  have L:∀ (u v X Y:Nat),u<v→X<p→cmpZ ((u*p+X:Nat):Int) ((v*p+Y:Nat):Int) = -1:=fun u v X Y h k=>by
   have h2:(u+1)*p≤v*p:=Nat.mul_le_mul_right p h
   rw [Nat.add_mul] at h2
   generalize u*p=U at *
   generalize v*p=V at *
   unfold cmpZ;rw [if_pos (by omega)]
  have G:∀ (u v X Y:Nat),v<u→Y<p→cmpZ ((u*p+X:Nat):Int) ((v*p+Y:Nat):Int)=1:=fun u v X Y h k=>by
   have h2:(v+1)*p≤u*p:=Nat.mul_le_mul_right p h
   rw [Nat.add_mul] at h2
   generalize u*p=U at *
   generalize v*p=V at *
   unfold cmpZ;rw [if_neg (by omega),if_pos (by omega)]
  have E:∀ (U X Y:Nat),cmpZ ((U+X:Nat):Int) ((U+Y:Nat):Int)=cmpZ (X:Int) (Y:Int):=fun U X Y=>cmpZ_iff (by omega) (by omega)
  by_cases h1:a<b
  ·have h1':=UInt8.lt_iff_toNat_lt.1 h1
   rw [if_pos h1];exact (L _ _ _ _ (by omega) xa).symm
  ·by_cases h2:b<a
   ·have h2':=UInt8.lt_iff_toNat_lt.1 h2
    rw [if_neg h1,if_pos h2];exact (G _ _ _ _ (by omega) xb).symm
   ·have e:a.toNat=b.toNat:=by
     have h1':¬ a.toNat<b.toNat:=fun k=>h1 (UInt8.lt_iff_toNat_lt.2 k)
     have h2':¬ b.toNat<a.toNat:=fun k=>h2 (UInt8.lt_iff_toNat_lt.2 k)
     omega
    rw [if_neg h1,if_neg h2,ih,e,E]
theorem sN_len (a:Nat):(strB (a:Int)).size=nDigits a:=by rw [strB_len,itoa_nonneg,decDigits_length]
theorem nd_lt {a b:Nat} (h:nDigits a<nDigits b) (h0:0<nDigits a):a<b:=by
 have h1:=(nDigits_tenTo a (nDigits a) h0).1 (Nat.le_refl _)
 have h2:¬ b<tenTo (nDigits a):=fun k=>by have:=(nDigits_tenTo b (nDigits a) h0).2 k;omega
 omega
theorem nd_pos (a:Nat):0<nDigits a:=by
 rw [←decDigits_length,decDigits]
 split <;> simp
theorem cmpOrI (b:Nat) (x y:Int) (w:World) (hb:Blk w b #[.int .i64 x,.int .i64 y]) :
  Calls Tryz.prog 137 #[.slice (some ⟨b,0,none⟩) 2 2] w fun e W'=>e = .returned (.int .i64 (if x=0 then y else x))∧Below w.heap.size w W':=by
 have c0:=hb.cell 0 _ rfl
 have c1:=hb.cell 1 _ rfl
 clear hb
 by_cases h:x=0
 ·rw [if_pos h]
  subst h
  by_cases h2:y=0
  ·subst h2
   go_enter Tryz.func137,Tryz.ntmps137
   go_wp2
   go_rounds 3
   all_goals go_ret
   all_goals exact ⟨rfl,Below.refl _ _⟩
  ·obtain ⟨n1,n2⟩:=bool_ne h2
   go_enter Tryz.func137,Tryz.ntmps137
   go_wp2
   go_rounds 3
   all_goals go_ret
   all_goals exact ⟨rfl,Below.refl _ _⟩
 ·rw [if_neg h]
  obtain ⟨n1,n2⟩:=bool_ne h
  go_enter Tryz.func137,Tryz.ntmps137
  go_wp2
  go_rounds 3
  all_goals go_ret
  all_goals exact ⟨rfl,Below.refl _ _⟩
theorem sorder (a b:Nat) (w:World) (ha:a<lim) (hb:b<lim) :
  Calls Tryz.prog 111 #[.string (strB (a:Int)),.string (strB (b:Int))] w fun e W'=>e = .returned (.int .i64 (cmpZ a b))∧Below w.heap.size w W':=by
 have c1:=fun W=>Tryz.cmp_Compare_int (strB (a:Int)).size (strB (b:Int)).size W
 have c2:=fun W=>Tryz.strings_Compare (strB (a:Int)) (strB (b:Int)) W
 have c3:=fun (k:Nat) W h=>cmpOrI k (compareInt (strB (a:Int)).size (strB (b:Int)).size) (compareBytes (strB (a:Int)).data.toList (strB (b:Int)).data.toList) W h
 have za:(strB (a:Int)).size≤301:=strB_size (nat_short.2 ha)
 have zb:(strB (b:Int)).size≤301:=strB_size (nat_short.2 hb)
 have e:(if compareInt (strB (a:Int)).size (strB (b:Int)).size=0 then compareBytes (strB (a:Int)).data.toList (strB (b:Int)).data.toList else compareInt (strB (a:Int)).size (strB (b:Int)).size)=cmpZ a b:=by
  rw [sN_len,sN_len]
  unfold compareInt
  by_cases h1:(nDigits a:Int)<nDigits b
  ·rw [if_pos h1,if_neg (by decide)]
   have:=nd_lt (a:=a) (b:=b) (by omega) (nd_pos a)
   unfold cmpZ;rw [if_pos (by omega)]
  ·by_cases h2:(nDigits a:Int) > nDigits b
   ·rw [if_neg h1,if_pos h2,if_neg (by decide)]
    have:=nd_lt (a:=b) (b:=a) (by omega) (nd_pos b)
    unfold cmpZ;rw [if_neg (by omega),if_pos (by omega)]
   ·rw [if_neg h1,if_neg h2,if_pos rfl,strB_data,strB_data,itoa_nonneg,itoa_nonneg,cmpB_nat,natOf_dec,natOf_dec]
    ·rw [decDigits_length,decDigits_length];omega
    ·exact decDigits_dig _
    ·exact decDigits_dig _
 rw [←e]
 clear e ha hb
 have za':((strB (a:Int)).size:Int)≤9223372036854775807:=by omega
 have zb':((strB (b:Int)).size:Int)≤9223372036854775807:=by omega
 generalize compareInt (strB (a:Int)).size (strB (b:Int)).size=x at *
 generalize compareBytes (strB (a:Int)).data.toList (strB (b:Int)).data.toList=y at *
 generalize strB (a:Int)=s at *
 generalize strB (b:Int)=t at *
 generalize (if x=0 then y else x)=r at *
 have O:=Lib.hid (And.intro c1 (And.intro c2 c3));clear c1 c2 c3 za zb
 go_enter Tryz.func111,Tryz.ntmps111
 go_wp2_with fail
 refine (O.out.1 _).mono ?_
 rintro e v1 ⟨rfl,rfl⟩
 go_wp2_with fail
 refine (O.out.2.1 _).mono ?_
 rintro e v2 ⟨rfl,rfl⟩
 go_wp2_with fail
 have hS:=Blk.new v2 #[.int .i64 x,.int .i64 y] 3
 have BB:=Lib.hid ((Below.refl v2.heap.size v2).alloc (Nat.le_refl _) (.cells #[.int .i64 x,.int .i64 y] 3))
 generalize v2.alloc (.cells #[.int .i64 x,.int .i64 y] 3)=v4 at *
 generalize hk:v2.heap.size=k3 at hS
 clear hk
 refine (O.out.2.2 _ v4 hS).mono ?_
 rintro e v5 ⟨rfl,b⟩
 have B5:=Lib.hid (BB.out.trans (b.mono BB.out.size));clear b BB hS
 go_wp2
 go_ret
 exact ⟨rfl,B5.out⟩
end Go.Proofs.YtjdfjgfdbgmbiaaGreatDoor.T
namespace Go.Proofs.YtjdfjgfdbgmbiaaGreatDoor
open Go.RowKit
theorem mkf:∀ (fn:Fn) (first cap:Array Value) (w:World),(Instr.makeFunc fn first cap).run Tryz.prog w = .ok (.func fn first cap) w:=fun _ _ _ _=>rfl
theorem reducedM_mk (kr:FuncId) (w:World) :
  Calls Tryz.prog 36 #[.func (.func kr) #[] #[]] w fun e W'=>e = .returned (.func (.func 71) #[] #[.pointer (some ⟨w.heap.size,0,none⟩)])∧Blk W' w.heap.size #[.func (.func kr) #[] #[]]∧Below w.heap.size w W':=by
 have hmf:=mkf
 go_enter Tryz.func36,Tryz.ntmps36
 go_wp2
 go_ret
 exact ⟨rfl,Blk.new w _ _,(Below.refl _ w).alloc (Nat.le_refl _) _⟩
theorem reducedL_mk (kr:FuncId) (w:World) :
  Calls Tryz.prog 38 #[.func (.func kr) #[] #[]] w fun e W'=>e = .returned (.func (.func 72) #[] #[.pointer (some ⟨w.heap.size,0,none⟩)])∧Blk W' w.heap.size #[.func (.func kr) #[] #[]]∧Below w.heap.size w W':=by
 have hmf:=mkf
 go_enter Tryz.func38,Tryz.ntmps38
 go_wp2
 go_ret
 exact ⟨rfl,Blk.new w _ _,(Below.refl _ w).alloc (Nat.le_refl _) _⟩
theorem ruleM_any (kr:FuncId) (p:Nat) (a b c d n m:Int) (r:ByteArray) (x:Int) (w:World) (eg:∀ args W,(callFunc kr args).run Tryz.prog W = .ok (.enter kr args) W) (hb:Blk w p #[.func (.func kr) #[] #[]])
  (hr:CqB w kr #[.agg #[.int .i64 a,.int .i64 b],.agg #[.int .i64 c,.int .i64 d]] (.agg #[.int .i64 n,.int .i64 m]))
  (hl:CqB w 60 #[.agg #[.int .i64 n,.int .i64 m]] (.tuple #[.string r,.int .i64 x])) :
  Calls Tryz.prog 71 #[.agg #[.int .i64 a,.int .i64 b],.agg #[.int .i64 c,.int .i64 d],.pointer (some ⟨p,0,none⟩)] w fun e W'=>e = .returned (.tuple #[.string r,.int .i64 x])∧Below w.heap.size w W':=by
 have cp:((w.alloc (.cells #[.int .i64 a,.int .i64 b] 83)).alloc (.cells #[.int .i64 c,.int .i64 d] 83)).cell? ⟨p,0,none⟩=some (.func (.func kr) #[] #[]):=((hb.alloc _).alloc _).cell 0 _ rfl
 have hB:Below w.heap.size w ((w.alloc (.cells #[.int .i64 a,.int .i64 b] 83)).alloc (.cells #[.int .i64 c,.int .i64 d] 83)):=((Below.refl _ w).alloc (Nat.le_refl _) _).alloc (by simp) _
 have C:=Lib.hid (And.intro hr hl)
 clear hr hl hb
 go_enter Tryz.func71,Tryz.ntmps71
 go_wp2_with fail
 generalize (w.alloc (.cells #[.int .i64 a,.int .i64 b] 83)).alloc (.cells #[.int .i64 c,.int .i64 d] 83)=W0 at *
 have HB:=Lib.hid hB;clear hB cp
 refine (C.out.1 _ HB.out).mono ?_
 rintro e w1 ⟨rfl,b⟩
 have H1:=Lib.hid (HB.out.trans (b.mono HB.out.size));clear b HB
 go_wp2_with fail
 refine (C.out.2 _ H1.out).mono ?_
 rintro e w2 ⟨rfl,b⟩
 have H2:=Lib.hid (H1.out.trans (b.mono H1.out.size));clear b H1
 go_wp2
 go_ret2
 exact ⟨rfl,H2.out⟩
theorem ruleL_any (kr:FuncId) (p:Nat) (a b c d n m:ByteArray) (a' b' c' d' n' m':Int) (r:ByteArray) (x:Int) (w:World) (eg:∀ args W,(callFunc kr args).run Tryz.prog W = .ok (.enter kr args) W) (hb:Blk w p #[.func (.func kr) #[] #[]])
  (hr:CqB w kr #[.agg #[.string a,.int .i64 a',.string b,.int .i64 b'],.agg #[.string c,.int .i64 c',.string d,.int .i64 d']] (.agg #[.string n,.int .i64 n',.string m,.int .i64 m']))
  (hl:CqB w 61 #[.agg #[.string n,.int .i64 n',.string m,.int .i64 m']] (.tuple #[.string r,.int .i64 x])) :
  Calls Tryz.prog 72 #[.agg #[.string a,.int .i64 a',.string b,.int .i64 b'],.agg #[.string c,.int .i64 c',.string d,.int .i64 d'],.pointer (some ⟨p,0,none⟩)] w fun e W'=>e = .returned (.tuple #[.string r,.int .i64 x])∧Below w.heap.size w W':=by
 have cp:((w.alloc (.cells #[.string a,.int .i64 a',.string b,.int .i64 b'] 87)).alloc (.cells #[.string c,.int .i64 c',.string d,.int .i64 d'] 87)).cell? ⟨p,0,none⟩=some (.func (.func kr) #[] #[]):=((hb.alloc _).alloc _).cell 0 _ rfl
 have hB:Below w.heap.size w ((w.alloc (.cells #[.string a,.int .i64 a',.string b,.int .i64 b'] 87)).alloc (.cells #[.string c,.int .i64 c',.string d,.int .i64 d'] 87)):=((Below.refl _ w).alloc (Nat.le_refl _) _).alloc (by simp) _
 have C:=Lib.hid (And.intro hr hl)
 clear hr hl hb
 go_enter Tryz.func72,Tryz.ntmps72
 go_wp2_with fail
 generalize (w.alloc (.cells #[.string a,.int .i64 a',.string b,.int .i64 b'] 87)).alloc (.cells #[.string c,.int .i64 c',.string d,.int .i64 d'] 87)=W0 at *
 have HB:=Lib.hid hB;clear hB cp
 refine (C.out.1 _ HB.out).mono ?_
 rintro e w1 ⟨rfl,b⟩
 have H1:=Lib.hid (HB.out.trans (b.mono HB.out.size));clear b HB
 go_wp2_with fail
 refine (C.out.2 _ H1.out).mono ?_
 rintro e w2 ⟨rfl,b⟩
 have H2:=Lib.hid (H1.out.trans (b.mono H1.out.size));clear b H1
 go_wp2
 go_ret2
 exact ⟨rfl,H2.out⟩
end Go.Proofs.YtjdfjgfdbgmbiaaGreatDoor
