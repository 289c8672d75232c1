/- Parts of the proof of the text YtpkloolckbhdaaaGreatDoorQT38. -/
import Derived.Test.YtpkloolckbhdaaaGreatDoorQT1
import Derived.Test.YtpkloolckbhdaaaGreatDoorQT17
import Derived.Test.YtpkloolckbhdaaaGreatDoorQT36
set_option linter.all false
set_option maxRecDepth 100000
set_option maxHeartbeats 8000000
namespace Go.Proofs.YtpkloolckbhdaaaGreatDoor.T
open Go.Proofs.YtpkloolckbhdaaaGreatDoor Go Go.RowKit
theorem nrm_small {r:Nat} (h0:0<r) (h:∀ c,c<r+1→2≤c→¬ c*c∣r):Nrm r:=by
 obtain ⟨c,e,lc⟩:=nC_nat r
 have s:=nC_sq (q:=(r:Rat)) (castn_nonneg r)
 rw [e,←Rat.natCast_mul,←Rat.natCast_mul] at s
 have s2:=Rat.natCast_inj.1 s
 have c1:c=1:=by
  rcases Nat.lt_or_ge c 2 with l | l
  ·have:c≠0:=fun z=>by rw [z] at s2;simp at s2;omega
   omega
  ·exact absurd ⟨_,s2.symm⟩ (h c (by omega) l)
 refine ⟨h0,by rw [e,c1];rfl,?_⟩
 rw [c1] at s2;omega
theorem nrm1:Nrm 1:=nrm_small (by decide) (by decide)
theorem nrm2:Nrm 2:=nrm_small (by decide) (by decide)
theorem nrm3:Nrm 3:=nrm_small (by decide) (by decide)
theorem nrm10:Nrm 10:=nrm_small (by decide) (by decide)
theorem rl_eq {a b:Nat} (ha:Nrm a) (hb:Nrm b) (la:a<10000) (lb:b<10000) (h:Rl (a:Rat) (b:Rat)):a=b:=nrm_ratio ha hb la lb ((both_rl (nat_pos ha.1) (nat_pos hb.1)).2 h)
theorem single_only {l:List Tm} (hr:Red l) (hn:∀ t∈l,∃ b:Nat,t.2=(b:Rat)∧Nrm b∧b<10000) (hc:∀ t∈l,t.1≠0) {x:Rat} {q:Nat} (hq:Nrm q) (lq:q<10000) (hx:x≠0) (hv:∀ m,0<m→T.vl m l=co m (x,(q:Rat))):l = [(x,(q:Rat))]:=by
 have q0:=nat_pos hq.1
 have rel:∀ t∈l,t.2=(q:Rat):=fun t ht=>by
  obtain ⟨b,e,nb,lb⟩:=hn t ht
  have h1:=vl_own hr ht
  rw [hv t.2 (hr.1 t ht)] at h1
  have h2:Rl (q:Rat) t.2:=by
   refine Classical.byContradiction fun n=>hc t ht ?_
   rw [←h1,co_rl x (hr.1 t ht) q0 n]
  rw [e] at h2 ⊢
  rw [rl_eq hq nb lq lb h2]
 match l,hr,hc,hv,rel with
 | [],_,_,hv,_ =>
  have:=hv (q:Rat) q0
  rw [co_self x q0] at this
  exact absurd this.symm hx
 | [t],hr,_,hv,rel =>
  have h1:=vl_own hr (t:=t) List.mem_cons_self
  have h2:=rel t List.mem_cons_self
  rw [h2,hv _ q0,co_self x q0] at h1
  rw [show t=(t.1,t.2) from rfl,←h1,h2]
 | t::s::l,hr,_,_,rel =>
  have:=(List.pairwise_cons.1 hr.2).1 s List.mem_cons_self
  rw [rel t List.mem_cons_self,rel s (List.mem_cons_of_mem _ List.mem_cons_self)] at this
  exact absurd (Rl.refl _) this
def Lt (g:List Tm):Prop:=∀ t∈g,t.1≠0∧∃ b:Nat,t.2=(b:Rat)∧Nrm b∧b<10000
theorem lt_red {g:List Tm} (h:Lt g) (hd:g.Pairwise fun s t=>s.2≠t.2):Red g:=by
 refine ⟨fun t ht => ?_,?_⟩
 ·obtain ⟨_,b,e,nb,_⟩:=h t ht
  rw [e];exact nat_pos nb.1
 ·refine hd.imp_of_mem fun {s t} hs ht n r=>n ?_
  obtain ⟨_,a,ea,na,la⟩:=h s hs
  obtain ⟨_,b,eb,nb,lb⟩:=h t ht
  rw [ea,eb] at r ⊢
  rw [rl_eq na nb la lb r]
theorem gth_id:∀ (g l:List Tm),Red (l++g)→Lt g→g.foldl stp l=l++g
 | [],l,_,_=>by simp
 | t::g,l,hr,hg=>by
  obtain ⟨c0,b,e,nb,_⟩:=hg t List.mem_cons_self
  have ht:nrmT t=t:=by
   obtain ⟨c,q⟩:=t
   have e':q=(b:Rat):=e
   subst e'
   show (c*nC (b:Rat),((nN (b:Rat):Nat):Rat))=(c,(b:Rat))
   rw [nb.2.1,nb.2.2,Rat.mul_one]
  have hl:=(List.pairwise_append.1 hr.2).2.2
  have st:stp l t=l ++ [t]:=by
   unfold stp
   rw [if_neg (fun z=>z.elim c0 fun z=>by have:=nat_pos nb.1;rw [e] at z;grind),ht]
   refine ins_miss fun j hj r => ?_
   have hm:=tat_mem hj
   exact hl _ hm t List.mem_cons_self ((rel2_iff (hr.1 _ (List.mem_append.2 (.inl hm))) (hr.1 t (by simp))).1 r).symm
  show g.foldl stp (stp l t)=_
  rw [st,gth_id g (l ++ [t]) (by rw [List.append_assoc];exact hr) fun s hs=>hg s (List.mem_cons_of_mem _ hs),List.append_assoc];rfl
theorem fin_id {g:List Tm} (h:Lt g) (hd:g.Pairwise fun s t=>s.2≠t.2):T.fin g=g:=by
 have e:gth g=g:=by
  have:=gth_id g [] (by rw [List.nil_append];exact lt_red h hd) h
  rwa [List.nil_append] at this
 unfold T.fin
 rw [e]
 refine List.filter_eq_self.2 fun t ht => ?_
 unfold nz
 exact decide_eq_true (h t ht).1
theorem lt_good {g:List Tm} (h:Lt g) (hB:∀ t∈g,Bq 60 t.1) (hl:g.length≤16) (hd:g.Pairwise fun s t=>s.2<t.2):Good g:=by
 refine ⟨hl,fun t ht => ?_,hd,(lt_red h (hd.imp fun {s t} k e=>by rw [e] at k;exact Rat.lt_irrefl k)).2⟩
 obtain ⟨c0,b,e,nb,lb⟩:=h t ht
 exact ⟨c0,hB t ht,b,e,nb,Nat.lt_of_lt_of_le lb (by decide+kernel)⟩
theorem rd_pos {c:Rat} {r p s:Nat} (h0:0≤c.num) (h1:s*s≤rdN c r p / (c.den*c.den)) (h2:rdN c r p / (c.den*c.den)<(s+1)*(s+1)):rdZ c r p=s:=by
 unfold rdZ rdS
 rw [if_pos h0,rootN_eq ⟨h1,h2⟩]
theorem rd_neg {c:Rat} {r p s:Nat} (h0:¬ 0≤c.num) (h1:s*s≤rdN c r p / (c.den*c.den)) (h2:rdN c r p / (c.den*c.den)<(s+1)*(s+1)) (h3:s*s*(c.den*c.den)≠rdN c r p):rdZ c r p = -((s:Int)+1):=by
 unfold rdZ rdS
 rw [if_neg h0,rootN_eq ⟨h1,h2⟩,if_neg h3]
def x62:Rat:=mkRat 1 62
def y62:Rat:=mkRat (-1) 62
theorem xy62:y62 * -1=x62:=by decide+kernel
theorem rd4_2:rdT 4 ((1:Rat),(2:Rat))=14142:=rd_pos (s:=14142) (by decide+kernel) (by decide+kernel) (by decide+kernel)
theorem rd4_3:rdT 4 ((1:Rat),(3:Rat))=17320:=rd_pos (s:=17320) (by decide+kernel) (by decide+kernel) (by decide+kernel)
theorem rd4_x:rdT 4 (x62,(1:Rat))=161:=rd_pos (s:=161) (by decide+kernel) (by decide+kernel) (by decide+kernel)
theorem rd4_10:rdT 4 ((1:Rat) * -1,(10:Rat)) = -31623:=rd_neg (s:=31622) (by decide+kernel) (by decide+kernel) (by decide+kernel) (by decide+kernel)
theorem rd64_2:rdT 64 ((1:Rat),(2:Rat))=14142135623730950488016887242096980785696718753769480731766797379:=rd_pos (s:=14142135623730950488016887242096980785696718753769480731766797379) (by decide+kernel) (by decide+kernel) (by decide+kernel)
theorem rd64_3:rdT 64 ((1:Rat),(3:Rat))=17320508075688772935274463415058723669428052538103806280558069794:=rd_pos (s:=17320508075688772935274463415058723669428052538103806280558069794) (by decide+kernel) (by decide+kernel) (by decide+kernel)
theorem rd64_x:rdT 64 (x62,(1:Rat))=161290322580645161290322580645161290322580645161290322580645161:=rd_pos (s:=161290322580645161290322580645161290322580645161290322580645161) (by decide+kernel) (by decide+kernel) (by decide+kernel)
theorem rd64_10:rdT 64 ((1:Rat) * -1,(10:Rat)) = -31622776601683793319988935444327185337195551393252168268575048528:=rd_neg (s:=31622776601683793319988935444327185337195551393252168268575048527) (by decide+kernel) (by decide+kernel) (by decide+kernel) (by decide+kernel)
def g1:List Tm := [(1,2),(1,3)] ++ [((1:Rat),(10:Rat))].map (mulT (-1))
def g2:List Tm := [(1,2),(1,3)] ++ [(y62,(1:Rat)),((1:Rat),(10:Rat))].map (mulT (-1))
theorem g2_eq:g2 = [(1,2),(1,3),(x62,1),(1 * -1,10)]:=by
 show [(1,2),(1,3),(y62 * -1,(1:Rat)),((1:Rat) * -1,(10:Rat))]=_
 rw [xy62]
theorem lt_g1:Lt g1:=fun t ht=>by
 have:t=(1,2)∨t=(1,3)∨t=(1 * -1,10):=by simpa [g1,mulT] using ht
 rcases this with rfl | rfl | rfl
 ·exact ⟨by decide,2,rfl,nrm2,by decide⟩
 ·exact ⟨by decide,3,rfl,nrm3,by decide⟩
 ·exact ⟨by decide+kernel,10,rfl,nrm10,by decide⟩
theorem lt_g2:Lt g2:=fun t ht=>by
 rw [g2_eq] at ht
 have:t=(1,2)∨t=(1,3)∨t=(x62,1)∨t=(1 * -1,10):=by simpa using ht
 rcases this with rfl | rfl | rfl | rfl
 ·exact ⟨by decide,2,rfl,nrm2,by decide⟩
 ·exact ⟨by decide,3,rfl,nrm3,by decide⟩
 ·exact ⟨by decide+kernel,1,rfl,nrm1,by decide⟩
 ·exact ⟨by decide+kernel,10,rfl,nrm10,by decide⟩
theorem fin_g1:T.fin g1=g1:=fin_id lt_g1 (by decide+kernel)
theorem fin_g2:T.fin g2=g2:=fin_id lt_g2 (by rw [g2_eq];decide+kernel)
theorem sg_g1:sgV g1 = -1∧sgE g1=0:=by
 have s4:sml 4 g1 g1.length = -161:=by
  rw [sml_all]
  show ([((1:Rat),(2:Rat)),(1,3),(1 * -1,10)].map (rdT 4)).sum=_
  simp only [List.map_cons,List.map_nil,List.sum_cons,List.sum_nil,rd4_2,rd4_3,rd4_10];decide
 have l:g1.length=3:=rfl
 have d:dec 4 g1 = -1:=by unfold dec;rw [s4,l];decide
 unfold sgV sgE
 rw [d,l];decide
theorem sg_g2:sgV g2=1∧sgE g2=0:=by
 have l:g2.length=4:=rfl
 have s4:sml 4 g2 g2.length=0:=by
  rw [sml_all,g2_eq]
  simp only [List.map_cons,List.map_nil,List.sum_cons,List.sum_nil,rd4_2,rd4_3,rd4_10,rd4_x];decide
 have s64:0<sml 64 g2 g2.length:=by
  rw [sml_all,g2_eq]
  simp only [List.map_cons,List.map_nil,List.sum_cons,List.sum_nil,rd64_2,rd64_3,rd64_10,rd64_x];decide
 have d:dec 4 g2=0:=by unfold dec;rw [s4,l];decide
 have d2:dec 64 g2=1:=by unfold dec;rw [if_pos s64]
 unfold sgV sgE
 rw [d,d2,l];decide
theorem J1:J 1 1 (1:Rat):=J.int 1
theorem Jm1:J 1 1 ((1:Rat) * -1):=J1.neg
theorem J62:J 62 62 x62:=⟨1,by decide+kernel,by decide⟩
theorem gd_g1:Gd g1:=by
 refine gd_raw (D:=1) (M:=1) (R:=10) (k:=3) (C := [2,3,10]) (fun t ht => ?_) (by decide) (by decide) (by decide) (by decide) (by decide+kernel) (by decide+kernel) (by decide+kernel) (fun t ht _ => ?_) (by decide)
 ·have:t=(1,2)∨t=(1,3)∨t=(1 * -1,10):=by simpa [g1,mulT] using ht
  rcases this with rfl | rfl | rfl
  ·exact ⟨J1,2,rfl,by decide⟩
  ·exact ⟨J1,3,rfl,by decide⟩
  ·exact ⟨Jm1,10,rfl,by decide⟩
 ·have:t=(1,2)∨t=(1,3)∨t=(1 * -1,10):=by simpa [g1,mulT] using ht
  rcases this with rfl | rfl | rfl
  ·exact ⟨2,by simp,Rl.refl _⟩
  ·exact ⟨3,by simp,Rl.refl _⟩
  ·exact ⟨10,by simp,Rl.refl _⟩
theorem gd_g2:Gd g2:=by
 refine gd_raw (D:=62) (M:=62) (R:=10) (k:=4) (C := [2,3,1,10]) (fun t ht => ?_) (by decide) (by decide) (by decide) (by decide) (by decide+kernel) (by decide+kernel) (by decide+kernel) (fun t ht _ => ?_) (by decide)
 ·rw [g2_eq] at ht
  have:t=(1,2)∨t=(1,3)∨t=(x62,1)∨t=(1 * -1,10):=by simpa using ht
  rcases this with rfl | rfl | rfl | rfl
  ·exact ⟨J1.wide 62,2,rfl,by decide⟩
  ·exact ⟨J1.wide 62,3,rfl,by decide⟩
  ·exact ⟨J62,1,rfl,by decide⟩
  ·exact ⟨Jm1.wide 62,10,rfl,by decide⟩
 ·rw [g2_eq] at ht
  have:t=(1,2)∨t=(1,3)∨t=(x62,1)∨t=(1 * -1,10):=by simpa using ht
  rcases this with rfl | rfl | rfl | rfl
  ·exact ⟨2,by simp,Rl.refl _⟩
  ·exact ⟨3,by simp,Rl.refl _⟩
  ·exact ⟨1,by simp,Rl.refl _⟩
  ·exact ⟨10,by simp,Rl.refl _⟩
theorem lit_good {c:Rat} {q:Nat} (hc:c≠0) (hB:Bq 60 c) (hq:Nrm q) (lq:q<10000):Good [(c,(q:Rat))] :=
 lt_good (fun t ht=>by obtain rfl:=List.mem_singleton.1 ht;exact ⟨hc,q,rfl,hq,lq⟩) (fun t ht=>by obtain rfl:=List.mem_singleton.1 ht;exact hB) (by simp) (List.pairwise_singleton _ _)
theorem good23:Good [((1:Rat),(2:Rat)),(1,3)] :=
 lt_good (fun t ht=>by
  have:t=(1,2)∨t=(1,3):=by simpa using ht
  rcases this with rfl | rfl
  ·exact ⟨by decide,2,rfl,nrm2,by decide⟩
  ·exact ⟨by decide,3,rfl,nrm3,by decide⟩) (fun t ht=>by
  have:t=(1,2)∨t=(1,3):=by simpa using ht
  rcases this with rfl | rfl <;> exact Bq_one.up (by decide)) (by decide) (by decide+kernel)
theorem good_y:Good [(y62,(1:Rat)),(1,10)] :=
 lt_good (fun t ht=>by
  have:t=(y62,1)∨t=(1,10):=by simpa using ht
  rcases this with rfl | rfl
  ·exact ⟨by decide+kernel,1,rfl,nrm1,by decide⟩
  ·exact ⟨by decide+kernel,10,rfl,nrm10,by decide⟩) (fun t ht=>by
  have:t=(y62,1)∨t=(1,10):=by simpa using ht
  rcases this with rfl | rfl
  ·exact ⟨by decide+kernel,by decide+kernel⟩
  ·exact Bq_one.up (by decide)) (by decide) (by decide+kernel)
theorem one_res {g r:List Tm} {D M R k:Nat} {x:Rat} {q:Nat} (h:∀ t∈g,Ns D M R t) (hD:0<D) (hR1:0<R) (hk:g.length≤k) (hk2:k≤16) (hR:R<10000)
  (h1:k*(M*(R*R))<tenTo 60) (h2:D*R<tenTo 60) (hq:Nrm q) (lq:q<10000) (hx:x≠0) (hv:∀ m,0<m→T.vl m g=co m (x,(q:Rat))) :
  Gd g∧(r.Perm (T.fin g)→Good r→r = [(x,(q:Rat))]):=by
 have cl:Cl (g.map (·.2)) g:=fun t ht _=>⟨t.2,List.mem_map.2 ⟨t,ht,rfl⟩,Rl.refl _⟩
 have gd:=gd_raw h hD hR1 hk (by omega) (tenTo_up (j:=5) (Nat.lt_of_lt_of_le hR (by decide+kernel)) (by decide)) h1 h2 cl (by rw [List.length_map];omega)
 refine ⟨gd,fun hp hg => ?_⟩
 have ok:=Ok.fin (L:=g) (Ln:=k) h hk (fun t ht=>(h t ht).r) (fun _ _=>rfl) gd cl hp
 exact single_only ok.red (fun t ht=>by obtain ⟨b,e,nb,lb⟩:=ok.rt t ht;exact ⟨b,e,nb,by omega⟩) (fun t ht=>(hg.ok t ht).1) hq lq hx fun m hm=>by rw [ok.vl m hm,hv m hm]
theorem raw8 {m:Rat} (hm:0<m):T.vl m [((1:Rat),(8:Rat))]=co m (2,((2:Nat):Rat)):=by
 show co m (1,8)+0=_
 have:=co_out (k:=2) (q:=2) 1 hm (by decide+kernel) (by decide+kernel)
 rw [show (2:Rat)*2*2=8 by decide+kernel,show (1:Rat)*2=2 by decide+kernel] at this
 rw [this,Rat.add_zero];rfl
theorem raw12 {m:Rat}:T.vl m ([((1:Rat),(2:Rat))] ++ [((2:Rat),((2:Nat):Rat))])=co m (3,((2:Nat):Rat)):=by
 show co m (1,2)+(co m (2,2)+0)=co m (3,2)
 rw [Rat.add_zero,←co_add,show (1:Rat)+2=3 by decide+kernel]
theorem raw22 {m:Rat} (hm:0<m):T.vl m (prods [((1:Rat),(2:Rat))] [((2:Rat),((2:Nat):Rat))])=co m (4,((1:Nat):Rat)):=by
 show co m (1*2,2*2)+0=co m (4,1)
 have:=co_out (k:=2) (q:=1) 2 hm (by decide+kernel) (by decide+kernel)
 rw [show (2:Rat)*2*1=2*2 by decide+kernel,show (2:Rat)*2=4 by decide+kernel] at this
 rw [Rat.add_zero,show (1:Rat)*2=2 by decide+kernel,show (2:Rat)*2=4 by decide+kernel];exact this
theorem J2:J 1 2 (2:Rat):=J.int 2
theorem aw_8 {r:List Tm}:Gd [((1:Rat),(8:Rat))]∧(r.Perm (T.fin [((1:Rat),(8:Rat))])→Good r→r = [(2,((2:Nat):Rat))]) :=
 one_res (D:=1) (M:=1) (R:=8) (k:=1) (fun t ht=>by obtain rfl:=List.mem_singleton.1 ht;exact ⟨J1,8,rfl,by decide⟩) (by decide) (by decide) (by decide) (by decide) (by decide) (by decide+kernel) (by decide+kernel) nrm2 (by decide) (by decide) fun m hm=>raw8 hm
theorem aw_12 {r:List Tm}:Gd ([((1:Rat),(2:Rat))] ++ [((2:Rat),((2:Nat):Rat))])∧(r.Perm (T.fin ([((1:Rat),(2:Rat))] ++ [((2:Rat),((2:Nat):Rat))]))→Good r→r = [(3,((2:Nat):Rat))]) :=
 one_res (D:=1) (M:=2) (R:=2) (k:=2) (fun t ht=>by
  have:t=(1,2)∨t=(2,((2:Nat):Rat)):=by simpa using ht
  rcases this with rfl | rfl
  ·exact ⟨J1.up (by decide),2,rfl,by decide⟩
  ·exact ⟨J2,2,rfl,by decide⟩) (by decide) (by decide) (by decide) (by decide) (by decide) (by decide+kernel) (by decide+kernel) nrm2 (by decide) (by decide) fun m hm=>raw12
theorem aw_22 {r:List Tm}:Gd (prods [((1:Rat),(2:Rat))] [((2:Rat),((2:Nat):Rat))])∧(r.Perm (T.fin (prods [((1:Rat),(2:Rat))] [((2:Rat),((2:Nat):Rat))]))→Good r→r = [(4,((1:Nat):Rat))]) :=
 one_res (D:=1) (M:=2) (R:=4) (k:=1) (fun t ht=>by
  obtain rfl:=List.mem_singleton.1 (show t ∈ [((1:Rat)*2,(2:Rat)*((2:Nat):Rat))] from ht)
  exact ⟨J1.mul J2,4,by decide+kernel,by decide⟩) (by decide) (by decide) (by decide) (by decide) (by decide) (by decide+kernel) (by decide+kernel) nrm1 (by decide) (by decide) fun m hm=>raw22 hm
end Go.Proofs.YtpkloolckbhdaaaGreatDoor.T
namespace Go.Proofs.YtpkloolckbhdaaaGreatDoor.T
open Go.Proofs.YtpkloolckbhdaaaGreatDoor Go Go.RowKit
theorem sq1:strQ (1:Rat)=⟨#[49]⟩:=strQ_one
theorem sq2:strQ (2:Rat)=⟨#[50]⟩:=by decide+kernel
theorem sq3:strQ (3:Rat)=⟨#[51]⟩:=by decide+kernel
theorem sq4:strQ (4:Rat)=⟨#[52]⟩:=by decide+kernel
theorem sq8:strQ (8:Rat)=⟨#[56]⟩:=by decide+kernel
theorem sq10:strQ (10:Rat)=⟨#[49,48]⟩:=by decide+kernel
theorem sq62:strQ y62=⟨#[45,49,47,54,50]⟩:=by decide+kernel
def Sv (W:World) (l:List Tm) (v:Value):Prop:=∃ p n c,v = .slice p n c∧Su W p n c l
theorem Sv.next {W W':World} {l:List Tm} {v:Value} (h:Sv W l v) (g:Below W.heap.size W W'):Sv W' l v:=by
 obtain ⟨p,n,c,e,s⟩:=h
 exact ⟨p,n,c,e,s.next g⟩
theorem Rs.only {g l:List Tm} {w W':World} {e:Ending} {B:Nat} (h:Rs g B w e W') (ho:∀ r,r.Perm (T.fin g)→Good r→r=l):∃ v,e = .returned (.tuple #[v,.int .i64 0])∧Sv W' l v∧Below B w W':=by
 obtain ⟨p,n,c,r,e1,hp,hs,hb⟩:=h
 obtain rfl:=ho r hp hs.good
 exact ⟨_,e1,⟨p,n,c,rfl,hs⟩,hb⟩
theorem lit_su {W:World} {b:Nat} {x q:Rat} (hg:Good [(x,q)]) (h:Blk W b #[.string (strQ x),.string (strQ q)]):Su W (some ⟨b,0,none⟩) 1 1 [(x,q)]:=Su.lit hg (Tl.lit1 x q h) 1 (by simp)
theorem aw_make (W:World) (b:Nat) (h:Blk W b #[.string ⟨#[49]⟩,.string ⟨#[56]⟩]) (ht:Tab W) (ht2:Tab64 W) (hS:Sm W) :
  Calls Tryz.prog 27 #[.slice (some ⟨b,0,none⟩) 1 1] W fun e W'=>∃ v,e = .returned (.tuple #[v,.int .i64 0])∧Sv W' [(2,((2:Nat):Rat))] v∧Below W.heap.size W W':=by
 rw [←sq1,←sq8] at h
 refine (Make_ok [((1:Rat),(8:Rat))] b 1 W (Tl.lit1 1 8 h) (aw_8 (r := [])).1 (fun t ht => ?_) ht ht2 hS).mono fun e W' r=>r.only fun r hp hg=>aw_8.2 hp hg
 obtain rfl:=List.mem_singleton.1 ht
 exact ⟨Bq_one.up (by decide),⟨by decide+kernel,by decide+kernel⟩⟩
theorem good12:Good [((1:Rat),(2:Rat))]:=lit_good (q:=2) (by decide) (Bq_one.up (by decide)) nrm2 (by decide)
theorem aw_add (W:World) (b:Nat) (v:Value) (h:Blk W b #[.string ⟨#[49]⟩,.string ⟨#[50]⟩]) (s:Sv W [(2,((2:Nat):Rat))] v) (ht:Tab W) (ht2:Tab64 W) (hS:Sm W) :
  Calls Tryz.prog 19 #[.slice (some ⟨b,0,none⟩) 1 1,v] W fun e W'=>∃ v,e = .returned (.tuple #[v,.int .i64 0])∧Sv W' [(3,((2:Nat):Rat))] v∧Below W.heap.size W W':=by
 rw [←sq1,←sq2] at h
 obtain ⟨p,n,c,rfl,hs⟩:=s
 exact (Add_ok _ _ _ p 1 n 1 c W (lit_su good12 h) hs (aw_12 (r := [])).1 ht ht2 hS).mono fun e W' r=>r.only fun r hp hg=>aw_12.2 hp hg
theorem aw_mul (W:World) (b:Nat) (v:Value) (h:Blk W b #[.string ⟨#[49]⟩,.string ⟨#[50]⟩]) (s:Sv W [(2,((2:Nat):Rat))] v) (ht:Tab W) (ht2:Tab64 W) (hS:Sm W) :
  Calls Tryz.prog 23 #[.slice (some ⟨b,0,none⟩) 1 1,v] W fun e W'=>∃ v,e = .returned (.tuple #[v,.int .i64 0])∧Sv W' [(4,((1:Nat):Rat))] v∧Below W.heap.size W W':=by
 rw [←sq1,←sq2] at h
 obtain ⟨p,n,c,rfl,hs⟩:=s
 exact (Mul_ok _ _ _ p 1 n 1 c W (lit_su good12 h) hs (aw_22 (r := [])).1 ht ht2 hS).mono fun e W' r=>r.only fun r hp hg=>aw_22.2 hp hg
theorem aw_same (W:World) (b:Nat) (v:Value) (x q:Rat) (s1 s2:ByteArray) (e1:strQ x=s1) (e2:strQ q=s2) (h:Blk W b #[.string s1,.string s2]) (s:Sv W [(x,q)] v) :
  Calls Tryz.prog 63 #[v,.slice (some ⟨b,0,none⟩) 1 1] W fun e W'=>e = .returned (.bool true)∧Below W.heap.size W W':=by
 rw [←e1,←e2] at h
 obtain ⟨p,n,c,rfl,hs⟩:=s
 exact Same_ok _ p _ n 1 c 1 W hs (lit_su hs.good h)
theorem sum_su {W:World} {b:Nat} (h:Blk W b #[.string ⟨#[49]⟩,.string ⟨#[50]⟩,.string ⟨#[49]⟩,.string ⟨#[51]⟩]):Su W (some ⟨b,0,none⟩) 2 2 [((1:Rat),(2:Rat)),(1,3)]:=by
 rw [←sq1,←sq2,←sq3] at h
 exact Su.lit good23 (Tl.lit2 1 2 1 3 h) 2 (by simp)
theorem aw_cmp1 (W:World) (b b':Nat) (h:Blk W b #[.string ⟨#[49]⟩,.string ⟨#[50]⟩,.string ⟨#[49]⟩,.string ⟨#[51]⟩]) (h':Blk W b' #[.string ⟨#[49]⟩,.string ⟨#[49,48]⟩]) (ht:Tab W) (ht2:Tab64 W) (hS:Sm W) :
  Calls Tryz.prog 30 #[.slice (some ⟨b,0,none⟩) 2 2,.slice (some ⟨b',0,none⟩) 1 1] W fun e W'=>e = .returned (.tuple #[.int .i64 (-1),.int .i64 0])∧Below W.heap.size W W':=by
 rw [←sq1,←sq10] at h'
 rw [sq1] at h'
 have h2:Blk W b' #[.string (strQ 1),.string (strQ 10)]:=by rw [sq1];exact h'
 have:=Compare_ok _ _ _ _ 2 1 2 1 W (sum_su h) (lit_su (lit_good (q:=10) (by decide) (Bq_one.up (by decide)) nrm10 (by decide)) h2) gd_g1 ht ht2 hS
 have e:T.fin ([((1:Rat),(2:Rat)),(1,3)] ++ [((1:Rat),(10:Rat))].map (mulT (-1)))=g1:=fin_g1
 have e':T.fin ([((1:Rat),(2:Rat)),(1,3)] ++ [((1:Rat),((10:Nat):Rat))].map (mulT (-1)))=g1:=fin_g1
 first
 | rwa [e,sg_g1.1,sg_g1.2] at this
 | rwa [e',sg_g1.1,sg_g1.2] at this
theorem aw_cmp2 (W:World) (b b':Nat) (h:Blk W b #[.string ⟨#[49]⟩,.string ⟨#[50]⟩,.string ⟨#[49]⟩,.string ⟨#[51]⟩]) (h':Blk W b' #[.string ⟨#[45,49,47,54,50]⟩,.string ⟨#[49]⟩,.string ⟨#[49]⟩,.string ⟨#[49,48]⟩]) (ht:Tab W) (ht2:Tab64 W) (hS:Sm W) :
  Calls Tryz.prog 30 #[.slice (some ⟨b,0,none⟩) 2 2,.slice (some ⟨b',0,none⟩) 2 2] W fun e W'=>e = .returned (.tuple #[.int .i64 1,.int .i64 0])∧Below W.heap.size W W':=by
 have h2:Blk W b' #[.string (strQ y62),.string (strQ 1),.string (strQ 1),.string (strQ 10)]:=by rw [sq62,sq1,sq10];exact h'
 have:=Compare_ok _ _ _ _ 2 2 2 2 W (sum_su h) (Su.lit good_y (Tl.lit2 y62 1 1 10 h2) 2 (by simp)) gd_g2 ht ht2 hS
 have e:T.fin ([((1:Rat),(2:Rat)),(1,3)] ++ [(y62,(1:Rat)),((1:Rat),(10:Rat))].map (mulT (-1)))=g2:=fin_g2
 rwa [e,sg_g2.1,sg_g2.2] at this
theorem awake4_any (w:World) (ht:Tab w) (ht2:Tab64 w) (hS:Sm w):Calls Tryz.prog 22 #[] w fun e W'=>e = .returned (.bool true)∧Below w.heap.size w W':=by
 have T:=Lib.hid (fun W (h:Below w.heap.size w W)=>And.intro (ht.next h) (And.intro (TabQ_next ht2 h) (hS.next h)));clear ht ht2 hS
 have HB:=Lib.hid (Below.refl w.heap.size w)
 go_enter Tryz.func22,Tryz.ntmps22
 go_wp2_with fail
 refine (root_any _ _ _).mono ?_
 rintro e W ⟨k,rfl,K0,b⟩
 have HN:=Lib.hid (HB.out.trans (b.mono HB.out.size))
 have K1:=Lib.hid K0;clear K0
 clear HB b;have HB:=HN;clear HN
 go_wp2_with fail
 refine (aw_make _ _ K1.out (T.out _ HB.out).1 (T.out _ HB.out).2.1 (T.out _ HB.out).2.2).mono ?_
 rintro e W ⟨va,rfl,s,b⟩
 have HN:=Lib.hid (HB.out.trans (b.mono HB.out.size))
 have A:=Lib.hid s;clear s
 clear HB b;have HB:=HN;clear HN
 clear K1
 go_wp2_with fail
 refine (root_any _ _ _).mono ?_
 rintro e W ⟨k,rfl,K0,b⟩
 have HN:=Lib.hid (HB.out.trans (b.mono HB.out.size))
 have A':=Lib.hid (A.out.next b);clear A;have A:=A';clear A'
 have K1:=Lib.hid K0;clear K0
 clear HB b;have HB:=HN;clear HN
 go_wp2_with fail
 refine (aw_add _ _ _ K1.out A.out (T.out _ HB.out).1 (T.out _ HB.out).2.1 (T.out _ HB.out).2.2).mono ?_
 rintro e W ⟨vb,rfl,s,b⟩
 have HN:=Lib.hid (HB.out.trans (b.mono HB.out.size))
 have A':=Lib.hid (A.out.next b);clear A;have A:=A';clear A'
 have B:=Lib.hid s;clear s
 clear HB b;have HB:=HN;clear HN
 clear K1
 go_wp2_with fail
 refine (root_any _ _ _).mono ?_
 rintro e W ⟨k,rfl,K0,b⟩
 have HN:=Lib.hid (HB.out.trans (b.mono HB.out.size))
 have A':=Lib.hid (A.out.next b);clear A;have A:=A';clear A'
 have B':=Lib.hid (B.out.next b);clear B;have B:=B';clear B'
 have K1:=Lib.hid K0;clear K0
 clear HB b;have HB:=HN;clear HN
 go_wp2_with fail
 refine (aw_mul _ _ _ K1.out A.out (T.out _ HB.out).1 (T.out _ HB.out).2.1 (T.out _ HB.out).2.2).mono ?_
 rintro e W ⟨vc,rfl,s,b⟩
 have HN:=Lib.hid (HB.out.trans (b.mono HB.out.size))
 have A':=Lib.hid (A.out.next b);clear A;have A:=A';clear A'
 have B':=Lib.hid (B.out.next b);clear B;have B:=B';clear B'
 have C:=Lib.hid s;clear s
 clear HB b;have HB:=HN;clear HN
 clear K1
 go_wp2_with fail
 refine (root_any _ _ _).mono ?_
 rintro e W ⟨k,rfl,K0,b⟩
 have HN:=Lib.hid (HB.out.trans (b.mono HB.out.size))
 have A':=Lib.hid (A.out.next b);clear A;have A:=A';clear A'
 have B':=Lib.hid (B.out.next b);clear B;have B:=B';clear B'
 have C':=Lib.hid (C.out.next b);clear C;have C:=C';clear C'
 have K1:=Lib.hid K0;clear K0
 clear HB b;have HB:=HN;clear HN
 go_wp2_with fail
 refine (aw_same _ _ _ 2 2 _ _ sq2 sq2 K1.out A.out).mono ?_
 rintro e W ⟨rfl,b⟩
 have HN:=Lib.hid (HB.out.trans (b.mono HB.out.size))
 have B':=Lib.hid (B.out.next b);clear B;have B:=B';clear B'
 have C':=Lib.hid (C.out.next b);clear C;have C:=C';clear C'
 clear HB b;have HB:=HN;clear HN
 clear K1 A
 go_wp2_with fail
 refine (root_any _ _ _).mono ?_
 rintro e W ⟨k,rfl,K0,b⟩
 have HN:=Lib.hid (HB.out.trans (b.mono HB.out.size))
 have B':=Lib.hid (B.out.next b);clear B;have B:=B';clear B'
 have C':=Lib.hid (C.out.next b);clear C;have C:=C';clear C'
 have K1:=Lib.hid K0;clear K0
 clear HB b;have HB:=HN;clear HN
 go_wp2_with fail
 refine (aw_same _ _ _ 3 2 _ _ sq3 sq2 K1.out B.out).mono ?_
 rintro e W ⟨rfl,b⟩
 have HN:=Lib.hid (HB.out.trans (b.mono HB.out.size))
 have C':=Lib.hid (C.out.next b);clear C;have C:=C';clear C'
 clear HB b;have HB:=HN;clear HN
 clear K1 B
 go_wp2_with fail
 refine (root_any _ _ _).mono ?_
 rintro e W ⟨k,rfl,K0,b⟩
 have HN:=Lib.hid (HB.out.trans (b.mono HB.out.size))
 have C':=Lib.hid (C.out.next b);clear C;have C:=C';clear C'
 have K1:=Lib.hid K0;clear K0
 clear HB b;have HB:=HN;clear HN
 go_wp2_with fail
 refine (aw_same _ _ _ 4 1 _ _ sq4 sq1 K1.out C.out).mono ?_
 rintro e W ⟨rfl,b⟩
 have HN:=Lib.hid (HB.out.trans (b.mono HB.out.size))
 clear HB b;have HB:=HN;clear HN
 clear K1 C
 go_wp2_with fail
 have S:=Lib.hid (Blk.new W #[.string ⟨#[49]⟩,.string ⟨#[50]⟩,.string ⟨#[49]⟩,.string ⟨#[51]⟩] 60)
 have HN:=Lib.hid (HB.out.alloc HB.out.size (.cells #[.string ⟨#[49]⟩,.string ⟨#[50]⟩,.string ⟨#[49]⟩,.string ⟨#[51]⟩] 60));clear HB;have HB:=HN;clear HN
 generalize W.alloc (.cells #[.string ⟨#[49]⟩,.string ⟨#[50]⟩,.string ⟨#[49]⟩,.string ⟨#[51]⟩] 60)=W5 at *
 generalize W.heap.size=ks at *
 refine (root_any _ _ _).mono ?_
 rintro e W ⟨k,rfl,K0,b⟩
 have HN:=Lib.hid (HB.out.trans (b.mono HB.out.size))
 have S':=Lib.hid (S.out.next b);clear S;have S:=S';clear S'
 have K1:=Lib.hid K0;clear K0
 clear HB b;have HB:=HN;clear HN
 go_wp2_with fail
 refine (aw_cmp1 _ _ _ S.out K1.out (T.out _ HB.out).1 (T.out _ HB.out).2.1 (T.out _ HB.out).2.2).mono ?_
 rintro e W ⟨rfl,b⟩
 have HN:=Lib.hid (HB.out.trans (b.mono HB.out.size))
 have S':=Lib.hid (S.out.next b);clear S;have S:=S';clear S'
 clear HB b;have HB:=HN;clear HN
 clear K1
 go_wp2_with fail
 have S2:=Lib.hid (Blk.new W #[.string ⟨#[45,49,47,54,50]⟩,.string ⟨#[49]⟩,.string ⟨#[49]⟩,.string ⟨#[49,48]⟩] 60)
 have S':=Lib.hid (S.out.alloc (.cells #[.string ⟨#[45,49,47,54,50]⟩,.string ⟨#[49]⟩,.string ⟨#[49]⟩,.string ⟨#[49,48]⟩] 60));clear S;have S:=S';clear S'
 have HN:=Lib.hid (HB.out.alloc HB.out.size (.cells #[.string ⟨#[45,49,47,54,50]⟩,.string ⟨#[49]⟩,.string ⟨#[49]⟩,.string ⟨#[49,48]⟩] 60));clear HB;have HB:=HN;clear HN
 generalize W.alloc (.cells #[.string ⟨#[45,49,47,54,50]⟩,.string ⟨#[49]⟩,.string ⟨#[49]⟩,.string ⟨#[49,48]⟩] 60)=W6 at *
 generalize W.heap.size=kt at *
 refine (aw_cmp2 _ _ _ S.out S2.out (T.out _ HB.out).1 (T.out _ HB.out).2.1 (T.out _ HB.out).2.2).mono ?_
 rintro e W ⟨rfl,b⟩
 have HN:=Lib.hid (HB.out.trans (b.mono HB.out.size));clear HB b;have HB:=HN;clear HN
 go_wp2
 go_ret
 exact ⟨rfl,HB.out⟩
end Go.Proofs.YtpkloolckbhdaaaGreatDoor.T
namespace Go.Proofs.YtpkloolckbhdaaaGreatDoor.T
open Go.Proofs.YtpkloolckbhdaaaGreatDoor Go Go.RowKit
theorem strQ_frac (n d:Int) (hd:0<d) (hc:Nat.Coprime n.natAbs d.natAbs):strQ (Rat.divInt n d)=if d=1 then strB n else strB n++(⟨#[47]⟩++strB d):=by
 obtain ⟨k,rfl⟩:∃ k:Nat,d=k:=⟨d.natAbs,by omega⟩
 have k0:k≠0:=by omega
 have hq:Rat.divInt n (k:Int)=⟨n,k,k0,hc⟩:=by
  rw [Rat.mk_eq_divInt]
 rw [hq]
 unfold strQ itoaQ
 show (⟨(if k=1 then Lib.itoa n else Lib.itoa n++47::Lib.itoa (k:Int)).toArray⟩:ByteArray)=_
 by_cases h:k=1
 ·rw [if_pos h,if_pos (by omega)];rfl
 ·rw [if_neg h,if_neg (by omega),←ByteArray.append_assoc];exact slash_str3 _ _
theorem dvd_tmod {z x:Int}:x.tmod z=0↔z∣x:=⟨Int.dvd_of_tmod_eq_zero,Int.tmod_eq_zero_of_dvd⟩
theorem dvd_emod {z x:Int}:x % z=0↔z∣x:=⟨Int.dvd_of_emod_eq_zero,Int.emod_eq_zero_of_dvd⟩
theorem tdiv_of {z x:Int} (h:z∣x):x=z*x.tdiv z:=by rw [Int.mul_tdiv_cancel' h]
theorem ediv_of {z x:Int} (h:z∣x):x=z*(x / z):=by rw [Int.mul_ediv_cancel' h]
structure Fr (n B:Int) (x y z:Int):Prop where
 e:x*B=n*y
 c:∀ j:Int,2≤j→j<z→¬ (j∣x∧j∣y)
theorem Fr.div {n B x y z u v:Int} (h:Fr n B x y z) (hz:2≤z) (e1:x=z*u) (e2:y=z*v):Fr n B u v z:=by
 subst e1;subst e2
 refine ⟨?_,fun j j2 jz ⟨d1,d2⟩=>h.c j j2 jz ⟨Int.dvd_trans d1 (Int.dvd_mul_left _ _),Int.dvd_trans d2 (Int.dvd_mul_left _ _)⟩⟩
 have:=h.e
 have h2:z*(u*B)=z*(n*v):=by grind
 exact Int.eq_of_mul_eq_mul_left (by omega) h2
theorem Fr.step {n B x y z:Int} (h:Fr n B x y z) (k:¬ (z∣x∧z∣y)):Fr n B x y (z+1) :=
 ⟨h.e,fun j j2 jz d=>by
  by_cases e:j=z
  ·subst e;exact k d
  ·exact h.c j j2 (by omega) d⟩
theorem Fr.fin {n B x y z:Int} (h:Fr n B x y z) (hB:0<B) (hy:0<y) (hz:y<z):Nat.Coprime x.natAbs y.natAbs∧Rat.divInt x y=Rat.divInt n B:=by
 refine ⟨?_,?_⟩
 ·have g0:0<Nat.gcd x.natAbs y.natAbs:=Nat.gcd_pos_of_pos_right _ (by omega)
  rcases Nat.lt_or_ge (Nat.gcd x.natAbs y.natAbs) 2 with l | l
  ·exact (by omega:Nat.gcd x.natAbs y.natAbs=1)
  ·exfalso
   have d1:=Nat.gcd_dvd_left x.natAbs y.natAbs
   have d2:=Nat.gcd_dvd_right x.natAbs y.natAbs
   have l2:=Nat.le_of_dvd (by omega) d2
   generalize Nat.gcd x.natAbs y.natAbs=g at *
   exact h.c (g:Int) (by omega) (by omega) ⟨Int.ofNat_dvd_left.2 d1,Int.ofNat_dvd_left.2 d2⟩
 ·rw [Rat.divInt_eq_divInt_iff (by omega) (by omega)]
  exact h.e
theorem part_lt {y z v:Int} (hz:2≤z) (hy:0<y) (e:y=z*v):0<v∧v<y:=by
 have v0:0<v:=by
  rcases Int.lt_or_le 0 v with h | h
  ·exact h
  ·have:=Int.mul_le_mul_of_nonneg_left h (show 0≤z by omega);omega
 have:=Int.mul_le_mul_of_nonneg_right hz (show 0≤v by omega)
 exact ⟨v0,by omega⟩
theorem part_rng {x z u:Int} (hz:2≤z) (e:x=z*u):u.natAbs≤x.natAbs:=by
 rw [e,Int.natAbs_mul]
 exact Nat.le_mul_of_pos_left _ (by omega)
theorem text_any (n d:Int) (w:World) (h1 : -128≤n) (h2:n≤127) (h3:0≤d) (h4:d≤255) (ht:Tab w) :
  Calls Tryz.prog 57 #[.int .i8 n,.int .u8 d] w fun e W'=>e = .returned (.string (strQ (Rat.divInt n (d % 20+1))))∧Below w.heap.size w W':=by
 have oI:=Lib.hid (fun z W (a : -9223372036854775808≤z) (b:z≤9223372036854775807) (h:Below w.heap.size w W)=>Itoa_any z W a b (ht.next h));clear ht
 obtain ⟨m,hm⟩:∃ m,m=d % 20:=⟨_,rfl⟩
 have hm1:0≤m:=by omega
 have hm2:m<20:=by omega
 rw [←hm]
 have HM:=Lib.hid hm.symm;clear hm
 have HB0:=Lib.hid (Below.refl w.heap.size w)
 go_enter Tryz.func57,Tryz.ntmps57
 go_wp2
 rw [HM.out]
 have F0:Fr n (m+1) n (m+1) 2:=⟨by rw [Int.mul_comm],fun j a b=>by omega⟩
 have HF:=Lib.hid F0;clear F0 HM
 go_loopw [5,6,7] (fun a b k wr=>∃ x y z:Int,a = .int .i64 x∧b = .int .i64 y∧k = .int .i64 z ∧ -70000≤x∧x≤70000∧1≤y∧y≤20∧2≤z∧z≤21∧Hid (Fr n (m+1) x y z)∧Hid (Below w.heap.size w wr)) (fun _ _ k _=>22 - (intOf k).toNat)
 case atStart=>exact ⟨n,m+1,2,rfl,rfl,rfl,by omega,by omega,by omega,by omega,by omega,by omega,HF,HB0⟩
 case round =>
  clear HF HB0 h1 h2
  obtain ⟨x,y,z,rfl,rfl,rfl,x1,x2,y1,y2,z1,z2,HF,HB⟩:=hrel
  by_cases hlt:z≤y
  ·have z3:z≤20:=by omega
   go_wp2
   go_loopw [5,6] (fun a b wr=>∃ x y:Int,a = .int .i64 x∧b = .int .i64 y ∧ -70000≤x∧x≤70000∧1≤y∧y≤20∧Hid (Fr n (m+1) x y z)∧Hid (Below w.heap.size w wr)) (fun _ b _=>(intOf b).toNat)
   case atStart=>exact ⟨x,y,rfl,rfl,x1,x2,y1,y2,HF,HB⟩
   case round =>
    clear HF HB x1 x2 y1 y2 hlt
    obtain ⟨x,y,rfl,rfl,x1,x2,y1,y2,HF,HB⟩:=hrel
    have zn:¬ z=0:=by omega
    have zb:(z==0)=false:=by simpa using zn
    by_cases c1:x.tmod z=0
    ·by_cases c2:y % z=0
     ·have d1:=tdiv_of (dvd_tmod.1 c1)
      have d2:=ediv_of (dvd_emod.1 c2)
      have q1:=part_rng z1 d1
      have q2:=part_lt z1 (by omega) d2
      have HF2:=Lib.hid (HF.out.div z1 d1 d2)
      clear HF
      have q3 : -70000≤x.tdiv z:=by omega
      clear d1 d2
      go_wp2
      go_quiet (fail)
      go_wp2
      generalize x.tdiv z=u at *
      generalize y / z=v at *
      go_roundw
      case rel=>exact ⟨u,v,rfl,rfl,by omega,by omega,by omega,by omega,HF2,below_drewN HB.out _⟩
      case measure=>simp [intOf];omega
     ·have HF2:=Lib.hid (HF.out.step fun k=>c2 (dvd_emod.2 k.2))
      clear HF
      go_wp2
      go_roundw
      case rel=>exact ⟨x,y,z+1,rfl,rfl,by go_num,x1,x2,y1,y2,by omega,by omega,HF2,HB⟩
      case measure=>simp [intOf];omega
    ·have HF2:=Lib.hid (HF.out.step fun k=>c1 (dvd_tmod.2 k.1))
     clear HF
     go_wp2
     go_roundw
     case rel=>exact ⟨x,y,z+1,rfl,rfl,by go_num,x1,x2,y1,y2,by omega,by omega,HF2,HB⟩
     case measure=>simp [intOf];omega
  ·obtain ⟨co,eq⟩:=HF.out.fin (by omega) (by omega) (by omega)
   have es:=strQ_frac x y (by omega) co
   rw [eq] at es
   have HE:=Lib.hid es
   have sx:=strB_short (z:=x) (by omega)
   have sy:=strB_short (z:=y) (by omega)
   clear co eq es HF
   go_wp2_with fail
   refine (oI.out x _ (by omega) (by omega) HB.out).mono ?_
   rintro e w2 ⟨rfl,b2⟩
   have HN:=Lib.hid (HB.out.trans (b2.mono HB.out.size));clear HB b2;have HB:=HN;clear HN
   by_cases y0:y=1
   ·have HE2:Hid (strQ (Rat.divInt n (m+1))=strB x):=Lib.hid (by rw [HE.out,if_pos y0])
    clear HE
    generalize strB x=sxx at *
    go_wp2
    go_ret
    exact ⟨by rw [HE2.out];first | done | rfl,HB.out⟩
   ·have HE2:Hid (strQ (Rat.divInt n (m+1))=strB x++(⟨#[47]⟩++strB y)):=Lib.hid (by rw [HE.out,if_neg y0])
    clear HE
    go_wp2_with fail
    refine (oI.out y _ (by omega) (by omega) HB.out).mono ?_
    rintro e w3 ⟨rfl,b3⟩
    have HN:=Lib.hid (HB.out.trans (b3.mono HB.out.size));clear HB b3;have HB:=HN;clear HN
    generalize strB x=sxx at *
    generalize strB y=syy at *
    have g1:¬ (9223372036854775807:Int)<1+(syy.size:Int):=by omega
    have g2:¬ (9223372036854775807:Int)<sxx.size+(1+(syy.size:Int)):=by omega
    go_wp2
    go_ret
    exact ⟨by rw [HE2.out];first | done | rfl,HB.out⟩
end Go.Proofs.YtpkloolckbhdaaaGreatDoor.T
namespace Go.Proofs.YtpkloolckbhdaaaGreatDoor.T
open Go.Proofs.YtpkloolckbhdaaaGreatDoor Go Go.RowKit
theorem of_core (A C E B D F N M:Int) (f:Int→Int→ByteArray) (g:Int→ByteArray) (w:World) (Q:Value→World→Prop) (w1:IntKind.i64.wrap N=N) (w2:IntKind.i64.wrap M=M)
  (hT:∀ a b W,((a=A∧b=B)∨(a=C∧b=D)∨(a=E∧b=F))→Below w.heap.size w W→Calls Tryz.prog 57 #[.int .i8 a,.int .u8 b] W fun e W'=>e = .returned (.string (f a b))∧Below W.heap.size W W')
  (hI:∀ z W,(z=N∨z=M)→Below w.heap.size w W→Calls Tryz.prog 26 #[.int .i64 z] W fun e W'=>e = .returned (.string (g z))∧Below W.heap.size W W')
  (hM:∀ W b,Below w.heap.size w W→Blk W b #[.string (f A B),.string ⟨#[49]⟩,.string (f C D),.string (g N),.string (f E F),.string (g M)]→Calls Tryz.prog 27 #[.slice (some ⟨b,0,none⟩) 3 3] W fun e W'=>∃ v,e = .returned (.tuple #[v,.int .i64 0])∧Below W.heap.size W W'∧Q v W')
  (hC:∀ v W,Q v W→Calls Tryz.prog 58 #[v] W fun e W'=>e = .returned (.int .i64 0)∧Q v W') :
  Calls Tryz.prog 18 #[.agg #[.int .i8 A,.int .i8 C,.int .i8 E,.int .u8 B,.int .u8 D,.int .u8 F,.int .u8 N,.int .u8 M]] w fun e W'=>∃ v,e = .returned (.tuple #[v,.bool true])∧Q v W':=by
 have O:=Lib.hid (And.intro hT (And.intro hI (And.intro hM hC)));clear hT hI hM hC
 go_enter Tryz.func18,Tryz.ntmps18
 go_wp2
 have HB:=Lib.hid (And.intro (Blk.new w #[.int .i8 A,.int .i8 C,.int .i8 E,.int .u8 B,.int .u8 D,.int .u8 F,.int .u8 N,.int .u8 M] 39) ((Below.refl _ w).alloc (Nat.le_refl _) (.cells #[.int .i8 A,.int .i8 C,.int .i8 E,.int .u8 B,.int .u8 D,.int .u8 F,.int .u8 N,.int .u8 M] 39)))
 generalize w.alloc (.cells #[.int .i8 A,.int .i8 C,.int .i8 E,.int .u8 B,.int .u8 D,.int .u8 F,.int .u8 N,.int .u8 M] 39)=W0 at *
 generalize hk:w.heap.size=k at *
 have HK:=Lib.hid hk;clear hk
 have HD:=Lib.hid (And.intro HB.out.1.drew HB.out.2.drew);clear HB;have HB:=HD;clear HD
 have e0:=(show World.cell? _ ⟨k,0,none⟩=some (.int .i8 A) from HB.out.1.cell 0 _ rfl);have e1:=(show World.cell? _ ⟨k,1,none⟩=some (.int .i8 C) from HB.out.1.cell 1 _ rfl);have e2:=(show World.cell? _ ⟨k,2,none⟩=some (.int .i8 E) from HB.out.1.cell 2 _ rfl);have e3:=(show World.cell? _ ⟨k,3,none⟩=some (.int .u8 B) from HB.out.1.cell 3 _ rfl);have e4:=(show World.cell? _ ⟨k,4,none⟩=some (.int .u8 D) from HB.out.1.cell 4 _ rfl);have e5:=(show World.cell? _ ⟨k,5,none⟩=some (.int .u8 F) from HB.out.1.cell 5 _ rfl);have e6:=(show World.cell? _ ⟨k,6,none⟩=some (.int .u8 N) from HB.out.1.cell 6 _ rfl);have e7:=(show World.cell? _ ⟨k,7,none⟩=some (.int .u8 M) from HB.out.1.cell 7 _ rfl)
 go_region_held3 (fun w'=>w'.cell? ⟨k,0,none⟩=some (.int .i8 A)∧w'.cell? ⟨k,1,none⟩=some (.int .i8 C)∧w'.cell? ⟨k,2,none⟩=some (.int .i8 E)∧w'.cell? ⟨k,3,none⟩=some (.int .u8 B)∧w'.cell? ⟨k,4,none⟩=some (.int .u8 D)∧w'.cell? ⟨k,5,none⟩=some (.int .u8 F)∧w'.cell? ⟨k,6,none⟩=some (.int .u8 N)∧w'.cell? ⟨k,7,none⟩=some (.int .u8 M)) (first | exact ⟨e0,e1,e2,e3,e4,e5,e6,e7⟩ | (go_keep;done) | exact ⟨alc e0,alc e1,alc e2,alc e3,alc e4,alc e5,alc e6,alc e7⟩)
  (first | (go_at_call 57;with_reducible refine Calls.mono (O.out.1 _ _ _ ?_ HB.out.2) ?_;(first | exact .inl ⟨rfl,rfl⟩ | exact .inr (.inl ⟨rfl,rfl⟩) | exact .inr (.inr ⟨rfl,rfl⟩));rintro e w4 ⟨rfl,b⟩;have HN:=Lib.hid (And.intro (HB.out.1.next b) (HB.out.2.trans (b.mono (by have h1:=HB.out.2.size;have h2:=HK.out;omega))));clear HB b;have HB:=HN;clear HN;have e0:=(show World.cell? _ ⟨k,0,none⟩=some (.int .i8 A) from HB.out.1.cell 0 _ rfl);have e1:=(show World.cell? _ ⟨k,1,none⟩=some (.int .i8 C) from HB.out.1.cell 1 _ rfl);have e2:=(show World.cell? _ ⟨k,2,none⟩=some (.int .i8 E) from HB.out.1.cell 2 _ rfl);have e3:=(show World.cell? _ ⟨k,3,none⟩=some (.int .u8 B) from HB.out.1.cell 3 _ rfl);have e4:=(show World.cell? _ ⟨k,4,none⟩=some (.int .u8 D) from HB.out.1.cell 4 _ rfl);have e5:=(show World.cell? _ ⟨k,5,none⟩=some (.int .u8 F) from HB.out.1.cell 5 _ rfl);have e6:=(show World.cell? _ ⟨k,6,none⟩=some (.int .u8 N) from HB.out.1.cell 6 _ rfl);have e7:=(show World.cell? _ ⟨k,7,none⟩=some (.int .u8 M) from HB.out.1.cell 7 _ rfl)) | (go_at_call 26;with_reducible refine Calls.mono (O.out.2.1 _ _ ?_ HB.out.2) ?_;(first | exact .inl rfl | exact .inr rfl);rintro e w4 ⟨rfl,b⟩;have HN:=Lib.hid (And.intro (HB.out.1.next b) (HB.out.2.trans (b.mono (by have h1:=HB.out.2.size;have h2:=HK.out;omega))));clear HB b;have HB:=HN;clear HN;have e0:=(show World.cell? _ ⟨k,0,none⟩=some (.int .i8 A) from HB.out.1.cell 0 _ rfl);have e1:=(show World.cell? _ ⟨k,1,none⟩=some (.int .i8 C) from HB.out.1.cell 1 _ rfl);have e2:=(show World.cell? _ ⟨k,2,none⟩=some (.int .i8 E) from HB.out.1.cell 2 _ rfl);have e3:=(show World.cell? _ ⟨k,3,none⟩=some (.int .u8 B) from HB.out.1.cell 3 _ rfl);have e4:=(show World.cell? _ ⟨k,4,none⟩=some (.int .u8 D) from HB.out.1.cell 4 _ rfl);have e5:=(show World.cell? _ ⟨k,5,none⟩=some (.int .u8 F) from HB.out.1.cell 5 _ rfl);have e6:=(show World.cell? _ ⟨k,6,none⟩=some (.int .u8 N) from HB.out.1.cell 6 _ rfl);have e7:=(show World.cell? _ ⟨k,7,none⟩=some (.int .u8 M) from HB.out.1.cell 7 _ rfl)) | (go_at_call 27;refine Calls.mono (O.out.2.2.1 _ _ (HB.out.2.alloc (by have h1:=HB.out.2.size;have h2:=HK.out;omega) _) (Blk.new _ _ _)) ?_;rintro e w4 ⟨v,rfl,b,hq⟩;have HQ:=Lib.hid hq;clear hq;have HN:=Lib.hid (And.intro ((HB.out.1.alloc _).next b) ((HB.out.2.alloc (by have h1:=HB.out.2.size;have h2:=HK.out;omega) _).trans (b.mono (by have h1:=HB.out.2.size;have h2:=HK.out;simp;omega))));clear HB b;have HB:=HN;clear HN;have e0:=(show World.cell? _ ⟨k,0,none⟩=some (.int .i8 A) from HB.out.1.cell 0 _ rfl);have e1:=(show World.cell? _ ⟨k,1,none⟩=some (.int .i8 C) from HB.out.1.cell 1 _ rfl);have e2:=(show World.cell? _ ⟨k,2,none⟩=some (.int .i8 E) from HB.out.1.cell 2 _ rfl);have e3:=(show World.cell? _ ⟨k,3,none⟩=some (.int .u8 B) from HB.out.1.cell 3 _ rfl);have e4:=(show World.cell? _ ⟨k,4,none⟩=some (.int .u8 D) from HB.out.1.cell 4 _ rfl);have e5:=(show World.cell? _ ⟨k,5,none⟩=some (.int .u8 F) from HB.out.1.cell 5 _ rfl);have e6:=(show World.cell? _ ⟨k,6,none⟩=some (.int .u8 N) from HB.out.1.cell 6 _ rfl);have e7:=(show World.cell? _ ⟨k,7,none⟩=some (.int .u8 M) from HB.out.1.cell 7 _ rfl)))
 all_goals
  go_wp2_with fail
  refine (O.out.2.2.2 _ _ HQ.out).mono ?_
  rintro e w5 ⟨rfl,hq⟩
  have HQ:=Lib.hid hq;clear hq
  go_wp2
  go_ret2
  exact ⟨_,rfl,HQ.out⟩
end Go.Proofs.YtpkloolckbhdaaaGreatDoor.T
