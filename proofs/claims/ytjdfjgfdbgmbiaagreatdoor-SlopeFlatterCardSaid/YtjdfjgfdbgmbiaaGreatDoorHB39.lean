/- Parts of the proof of the text YtjdfjgfdbgmbiaaGreatDoorHB39. -/
import Derived.Test.YtjdfjgfdbgmbiaaGreatDoorRows
import Derived.Test.YtjdfjgfdbgmbiaaGreatDoorCards
import Derived.Test.YtjdfjgfdbgmbiaaGreatDoorTie
import Derived.ProofKit
import Derived.LaidMore
import Derived.OpenShut
import Derived.Stop.Joined
import Derived.Stop.LaidErr
import Derived.SevenTiedAt
import Derived.Below
import Derived.RowKitTokens
import Derived.Test.YtjdfjgfdbgmbiaaGreatDoorHB1
import Derived.Test.YtjdfjgfdbgmbiaaGreatDoorHB17
import Derived.Test.YtjdfjgfdbgmbiaaGreatDoorHB27
import Derived.Test.YtjdfjgfdbgmbiaaGreatDoorHB3
import Derived.Test.YtjdfjgfdbgmbiaaGreatDoorHB37
import Derived.Test.YtjdfjgfdbgmbiaaGreatDoorHB38
set_option linter.all false
set_option maxRecDepth 100000
set_option maxHeartbeats 8000000
namespace Go.Proofs.YtjdfjgfdbgmbiaaGreatDoor.T
open Go.Proofs.YtjdfjgfdbgmbiaaGreatDoor Go Go.RowKit
theorem rdN_val {c:Rat} {n P:Nat} {p:Rat} (hp:c*c*(n:Rat)=p):((rdN c n P:Nat):Rat)=p*(tenTo (2*P):Rat)*((c.den*c.den:Nat):Rat):=by
 have e:=num_is c
 have sq:((c.num.natAbs*c.num.natAbs:Nat):Rat)=c*c*((c.den*c.den:Nat):Rat):=by
  have h:((c.num.natAbs*c.num.natAbs:Nat):Rat)=(c.num:Rat)*(c.num:Rat):=by
   rw [←Rat.intCast_natCast,Int.natAbs_mul_self,Rat.intCast_mul]
  rw [h,e,Rat.natCast_mul];grind
 unfold rdN
 rw [Rat.natCast_mul,Rat.natCast_mul,sq,←hp];grind
theorem rat_fl {c:Rat} {n P x:Nat} {p:Rat} (hp:c*c*(n:Rat)=p) (h1:x*x*(c.den*c.den)≤rdN c n P) (h2:rdN c n P<(x+1)*(x+1)*(c.den*c.den)) :
  ((x*x:Nat):Rat)≤p*(tenTo (2*P):Rat)∧p*(tenTo (2*P):Rat)<(((x+1)*(x+1):Nat):Rat):=by
 have hv:=rdN_val (P:=P) hp
 have d0:(0:Rat)<((c.den*c.den:Nat):Rat):=nat_pos (Nat.mul_pos c.den_pos c.den_pos)
 generalize c.den*c.den=dd at *
 have h1:=Rat.natCast_le_natCast.2 h1
 have h2:=Rat.natCast_lt_natCast.2 h2
 rw [hv,Rat.natCast_mul] at h1
 rw [hv,Rat.natCast_mul] at h2
 exact ⟨Rat.le_of_mul_le_mul_right h1 d0,Rat.lt_of_mul_lt_mul_right h2 (Rat.le_of_lt d0)⟩
theorem rat_ce {c:Rat} {n P y:Nat} {p:Rat} (hp:c*c*(n:Rat)=p) (h1:(y - 1)*(y - 1)*(c.den*c.den)<rdN c n P) (h2:rdN c n P≤y*y*(c.den*c.den)) :
  (((y - 1)*(y - 1):Nat):Rat)<p*(tenTo (2*P):Rat)∧p*(tenTo (2*P):Rat)≤((y*y:Nat):Rat):=by
 have hv:=rdN_val (P:=P) hp
 have d0:(0:Rat)<((c.den*c.den:Nat):Rat):=nat_pos (Nat.mul_pos c.den_pos c.den_pos)
 generalize c.den*c.den=dd at *
 have h1:=Rat.natCast_lt_natCast.2 h1
 have h2:=Rat.natCast_le_natCast.2 h2
 rw [hv,Rat.natCast_mul] at h1
 rw [hv,Rat.natCast_mul] at h2
 exact ⟨Rat.lt_of_mul_lt_mul_right h1 (Rat.le_of_lt d0),Rat.le_of_mul_le_mul_right h2 d0⟩
theorem sq_le {a b:Nat} (h:a≤b):((a*a:Nat):Rat)≤((b*b:Nat):Rat):=Rat.natCast_le_natCast.2 (Nat.mul_le_mul h h)
theorem dec_right {P x y:Nat} {p q:Rat} (hy:1≤y) (h1:((x*x:Nat):Rat)≤p*(tenTo (2*P):Rat)) (h2:p*(tenTo (2*P):Rat)<(((x+1)*(x+1):Nat):Rat))
  (h3:(((y - 1)*(y - 1):Nat):Rat)<q*(tenTo (2*P):Rat)) (h4:q*(tenTo (2*P):Rat)≤((y*y:Nat):Rat)) :
  ((0:Int)<(x:Int) - y→q<p)∧((x:Int) - y+2≤0→p<q):=by
 have t0:(0:Rat)<(tenTo (2*P):Rat):=nat_pos (tenTo_pos _)
 refine ⟨fun h => ?_,fun h => ?_⟩
 ·have l:y+1≤x:=by omega
  have s:((y*y:Nat):Rat)<((x*x:Nat):Rat):=Rat.natCast_lt_natCast.2 (Nat.mul_lt_mul'' (by omega) (by omega))
  exact Rat.lt_of_mul_lt_mul_right (c:=(tenTo (2*P):Rat)) (by grind) (Rat.le_of_lt t0)
 ·have l:x+1≤y - 1:=by omega
  have s:=sq_le l
  exact Rat.lt_of_mul_lt_mul_right (c:=(tenTo (2*P):Rat)) (by grind) (Rat.le_of_lt t0)
theorem dec_all {x y:Nat} {p q:Rat} (hy:1≤y) (h1:((x*x:Nat):Rat)≤p*(tenTo (2*64):Rat)) (h2:p*(tenTo (2*64):Rat)<(((x+1)*(x+1):Nat):Rat))
  (h3:(((y - 1)*(y - 1):Nat):Rat)<q*(tenTo (2*64):Rat)) (h4:q*(tenTo (2*64):Rat)≤((y*y:Nat):Rat)) (hp:p≤65536) (hq:q≤65536) (hd:p*5308416+1≤q*5308416∨q*5308416+1≤p*5308416) :
  (0:Int)<(x:Int) - y∨(x:Int) - y+2≤0:=by
 have t0:(0:Rat)<(tenTo (2*64):Rat):=nat_pos (tenTo_pos _)
 have top:∀ {z:Nat} {r:Rat},r≤65536→((z*z:Nat):Rat)≤r*(tenTo (2*64):Rat)→z≤256*tenTo 64:=fun {z r} hr h=>by
  have a:r*(tenTo (2*64):Rat)≤65536*(tenTo (2*64):Rat):=Rat.mul_le_mul_of_nonneg_right hr (Rat.le_of_lt t0)
  have b:((z*z:Nat):Rat)≤((65536*tenTo (2*64):Nat):Rat):=by
   have e:((65536*tenTo (2*64):Nat):Rat)=65536*(tenTo (2*64):Rat):=by rw [Rat.natCast_mul];rfl
   rw [e];exact Rat.le_trans h a
  have c:=Rat.natCast_le_natCast.1 b
  rcases Nat.lt_or_ge (256*tenTo 64) z with l | l
  ·exfalso
   have h2:=Nat.mul_lt_mul'' l l
   have e:256*tenTo 64*(256*tenTo 64)=65536*tenTo (2*64):=by decide+kernel
   omega
  ·exact l
 have big:4*(256*tenTo 64+1)*5308416<tenTo (2*64):=by decide+kernel
 rcases Int.lt_or_le 0 ((x:Int) - y) with l | l
 ·exact .inl l
 ·refine .inr ?_
  rcases Int.lt_or_le 0 ((x:Int) - y+2) with k | k
  ·exfalso
   have xy:x=y∨x+1=y:=by omega
   rcases hd with d | d
   ·-- p is less
    have xb:=top hp h1
    have a1:q*(tenTo (2*64):Rat)≤(((x+1)*(x+1):Nat):Rat):=Rat.le_trans h4 (sq_le (by omega))
    have a2:(p*5308416+1)*(tenTo (2*64):Rat)≤q*5308416*(tenTo (2*64):Rat):=Rat.mul_le_mul_of_nonneg_right d (Rat.le_of_lt t0)
    have e:(x+1)*(x+1)=x*x+(2*x+1):=by grind
    rw [e,Rat.natCast_add] at a1
    have a3:(tenTo (2*64):Rat)≤((5308416*(2*x+1):Nat):Rat):=by
     rw [Rat.natCast_mul]
     have:((5308416:Nat):Rat)=5308416:=rfl
     rw [this];grind
    have:=Rat.natCast_le_natCast.1 a3
    omega
   ·have yb:y - 1≤256*tenTo 64:=top hq (Rat.le_of_lt h3)
    have a1:p*(tenTo (2*64):Rat)<(((y+1)*(y+1):Nat):Rat):=by
     have:=sq_le (a:=x+1) (b:=y+1) (by omega)
     grind
    have a2:(q*5308416+1)*(tenTo (2*64):Rat)≤p*5308416*(tenTo (2*64):Rat):=Rat.mul_le_mul_of_nonneg_right d (Rat.le_of_lt t0)
    have e:(y+1)*(y+1)=(y - 1)*(y - 1)+4*y:=by
     obtain ⟨z,rfl⟩:∃ z,y=z+1:=⟨y - 1,by omega⟩
     rw [Nat.add_sub_cancel];grind
    rw [e,Rat.natCast_add] at a1
    have a3:(tenTo (2*64):Rat)<((5308416*(4*y):Nat):Rat):=by
     rw [Rat.natCast_mul]
     have:((5308416:Nat):Rat)=5308416:=rfl
     rw [this];grind
    have:=Rat.natCast_lt_natCast.1 a3
    omega
  ·exact k
theorem sg_two {c d:Rat} {n m:Nat} {p q:Rat} (hc:0<c) (hd:0<d) (hn:0<n) (hm:0<m) (hp:c*c*(n:Rat)=p) (hq:d*d*(m:Rat)=q) (bp:p≤65536) (bq:q≤65536) (hs:p*5308416+1≤q*5308416∨q*5308416+1≤p*5308416)
  {F:List Tm} (hF:F.Perm [(c,(n:Rat)),(d * -1,(m:Rat))]):sgV F=(if p<q then -1 else 1)∧sgE F=0:=by
 have cn:0≤c.num:=Rat.num_nonneg.2 (Rat.le_of_lt hc)
 have dn:(d * -1).num<0:=by
  rcases Int.lt_or_le (d * -1).num 0 with k | k
  ·exact k
  ·have:=Rat.num_nonneg.1 k;grind
 have hq':(d * -1)*(d * -1)*(m:Rat)=q:=by rw [←hq];grind
 have l:F.length=2:=hF.length_eq
 have s:∀ P,∃ x y:Nat,sml P F F.length=(x:Int) - y∧1≤y∧((x*x:Nat):Rat)≤p*(tenTo (2*P):Rat)∧p*(tenTo (2*P):Rat)<(((x+1)*(x+1):Nat):Rat) ∧
   (((y - 1)*(y - 1):Nat):Rat)<q*(tenTo (2*P):Rat)∧q*(tenTo (2*P):Rat)≤((y*y:Nat):Rat):=fun P=>by
  obtain ⟨x,ex,x1,x2⟩:=rd_fl (n:=n) (P:=P) cn
  obtain ⟨y,y0,ey,y1,y2⟩:=rd_ce (n:=m) (P:=P) dn hm
  obtain ⟨a1,a2⟩:=rat_fl hp x1 x2
  obtain ⟨a3,a4⟩:=rat_ce hq' y1 y2
  refine ⟨x,y,?_,y0,a1,a2,a3,a4⟩
  rw [sml_all,sum_perm hF]
  show rdT P (c,(n:Rat))+(rdT P (d * -1,(m:Rat))+0)=_
  unfold rdT
  rw [natR_num,natR_num,ex,ey];omega
 have ne:¬ (p<q∧q<p):=by grind
 obtain ⟨x,y,e64,y0,a1,a2,a3,a4⟩:=s 64
 obtain ⟨u,v,e4,v0,b1,b2,b3,b4⟩:=s 4
 have r64:=dec_right y0 a1 a2 a3 a4
 have r4:=dec_right v0 b1 b2 b3 b4
 have all:=dec_all y0 a1 a2 a3 a4 bp bq hs
 have d64:dec 64 F=if p<q then -1 else 1:=by
  unfold dec
  rw [e64,l]
  rcases all with k | k
  ·rw [if_pos k,if_neg (by have:=r64.1 k;grind)]
  ·rw [if_neg (by omega),if_pos (by omega),if_pos (r64.2 k)]
 have d4:dec 4 F=(if p<q then -1 else 1)∨dec 4 F=0:=by
  unfold dec
  rw [e4,l]
  by_cases k:(0:Int)<(u:Int) - v
  ·rw [if_pos k,if_neg (by have:=r4.1 k;grind)];exact .inl rfl
  ·by_cases k2:(u:Int) - v+(2:Nat)≤0
   ·rw [if_neg k,if_pos k2,if_pos (r4.2 (by omega))];exact .inl rfl
   ·rw [if_neg k,if_neg k2];exact .inr rfl
 have nz:(if p<q then (-1:Int) else 1)≠0:=by split <;> decide
 generalize (if p<q then (-1:Int) else 1)=s0 at *
 unfold sgV sgE
 rw [l,d64,if_neg (show ¬ 2=0 by decide),if_neg (show ¬ 2=0 by decide)]
 rcases d4 with k | k
 ·rw [k,if_pos nz,if_pos nz];exact ⟨rfl,rfl⟩
 ·rw [k,if_neg (show ¬ (0:Int)≠0 by decide),if_neg (show ¬ (0:Int)≠0 by decide),if_pos nz];exact ⟨rfl,rfl⟩
end Go.Proofs.YtjdfjgfdbgmbiaaGreatDoor.T
namespace Go.Proofs.YtjdfjgfdbgmbiaaGreatDoor.T
open Go.Proofs.YtjdfjgfdbgmbiaaGreatDoor Go Go.RowKit
theorem gap {p q:Rat} (hp:Pq p) (hq:Pq q) (h:p<q):p*5308416+1≤q*5308416:=by
 have ep:=num_is p
 have eq:=num_is q
 have a0:=nat_pos p.den_pos
 have b0:=nat_pos q.den_pos
 have h1:p*((p.den:Nat):Rat)*((q.den:Nat):Rat)<q*((q.den:Nat):Rat)*((p.den:Nat):Rat):=by
  have h2:p*(((p.den:Nat):Rat)*((q.den:Nat):Rat))<q*(((p.den:Nat):Rat)*((q.den:Nat):Rat)):=Rat.mul_lt_mul_of_pos_right h (Rat.mul_pos a0 b0)
  grind
 rw [←ep,←eq] at h1
 have h2:p.num*(q.den:Int)<q.num*(p.den:Int):=by
  rw [←Rat.intCast_natCast,←Rat.intCast_natCast,←Rat.intCast_mul,←Rat.intCast_mul] at h1
  exact Rat.intCast_lt_intCast.1 h1
 have h3:p.num*(q.den:Int)+1≤q.num*(p.den:Int):=by omega
 have h4:=Rat.intCast_le_intCast.2 h3
 rw [Rat.intCast_add,Rat.intCast_mul,Rat.intCast_mul,Rat.intCast_natCast,Rat.intCast_natCast,ep,eq] at h4
 have h5:((p.den*q.den:Nat):Rat)≤((5308416:Nat):Rat):=Rat.natCast_le_natCast.2 (Nat.mul_le_mul hp.den hq.den)
 rw [Rat.natCast_mul] at h5
 have h6:(q - p)*(((p.den:Nat):Rat)*((q.den:Nat):Rat))≤(q - p)*((5308416:Nat):Rat):=Rat.mul_le_mul_of_nonneg_left h5 (by grind)
 have c1:((1:Int):Rat)=1:=rfl
 have c2:((5308416:Nat):Rat)=5308416:=rfl
 rw [c1] at h4
 rw [c2] at h6
 grind
theorem pq_le {p:Rat} (h:Pq p):p≤65536:=by
 have e:=num_is p
 have d1:(1:Rat)≤((p.den:Nat):Rat):=by
  have:=Rat.natCast_le_natCast (a:=1) (b:=p.den)
  exact this.2 p.den_pos
 have n1:(p.num:Rat)≤((65535:Int):Rat):=Rat.intCast_le_intCast.2 (by have:=h.num;omega)
 have c:((65535:Int):Rat)=65535:=rfl
 rw [c,e] at n1
 have:=Rat.mul_le_mul_of_nonneg_left d1 h.n0
 rw [Rat.mul_one] at this
 grind
theorem cmp_gd {p q:Rat} (hp:Pq p) (hq:Pq q):Gd (Sq1 p++(Sq1 q).map (mulT (-1))):=by
 have b1:cN p*cD q≤65535*2304:=Nat.mul_le_mul (Nat.le_trans (cN_le p) hp.num) (Nat.le_trans (cD_le q) hq.den)
 have b2:cN q*cD p≤65535*2304:=Nat.mul_le_mul (Nat.le_trans (cN_le q) hq.num) (Nat.le_trans (cD_le p) hp.den)
 have b3:cD p*cD q≤2304*2304:=Nat.mul_le_mul (Nat.le_trans (cD_le p) hp.den) (Nat.le_trans (cD_le q) hq.den)
 refine gd_raw (D:=cD p*cD q) (M:=65535*2304) (R:=150992640) (k:=2) (C := [((nN p:Nat):Rat),((nN q:Nat):Rat)]) (fun t ht => ?_) (Nat.mul_pos (cD_pos p) (cD_pos q)) (by decide) ?_ (by decide) (by decide+kernel) (by decide+kernel)
  (Nat.lt_of_le_of_lt (Nat.mul_le_mul_right _ b3) (by decide+kernel)) (fun t ht _ => ?_) (by simp)
 ·rcases List.mem_append.1 ht with ht | ht
  ·obtain ⟨_,rfl⟩:=sq1_mem ht
   exact ⟨((nC_J p).wide (cD q)).up b1,nN p,rfl,nNq_le hp⟩
  ·obtain ⟨s,hs,rfl⟩:=List.mem_map.1 ht
   obtain ⟨_,rfl⟩:=sq1_mem hs
   refine ⟨?_,nN q,rfl,nNq_le hq⟩
   have:=(((nC_J q).wide (cD p)).up b2).neg
   rwa [Nat.mul_comm] at this
 ·have:=sq1_len p
  have:=sq1_len q
  rw [List.length_append,List.length_map];omega
 ·rcases List.mem_append.1 ht with ht | ht
  ·obtain ⟨_,rfl⟩:=sq1_mem ht
   exact ⟨_,by simp,Rl.refl _⟩
  ·obtain ⟨s,hs,rfl⟩:=List.mem_map.1 ht
   obtain ⟨_,rfl⟩:=sq1_mem hs
   exact ⟨((nN q:Nat):Rat),by simp,Rl.refl _⟩
def ordQ (p q:Rat):Int:=if p<q then -1 else if q<p then 1 else 0
theorem sq1_pos {p:Rat} (h:p≠0):Sq1 p = [(nC p,((nN p:Nat):Rat))]:=by unfold Sq1;rw [if_neg h]
theorem sq_cmp {x y m:Rat} (hx:0≤x) (hy:0≤y) (hm:0<m) (h:x*x*m<y*y*m):x<y:=by
 have h1:=Rat.lt_of_mul_lt_mul_right h (Rat.le_of_lt hm)
 rcases ratTri x y with k | k | k
 ·exact k
 ·rw [k] at h1;exact absurd h1 (Rat.lt_irrefl)
 ·exfalso
  have a:=Rat.mul_le_mul_of_nonneg_left (Rat.le_of_lt k) hx
  have b:=Rat.mul_le_mul_of_nonneg_right (Rat.le_of_lt k) hy
  grind
theorem sub_lo {x y:Rat} (h:x<y):x - y<0:=by grind
theorem sub_hi {x y:Rat} (h:y<x):¬ x - y<0:=by grind
theorem cmp_sg {p q:Rat} (hp:Pq p) (hq:Pq q):sgV (T.fin (Sq1 p++(Sq1 q).map (mulT (-1))))=ordQ p q∧sgE (T.fin (Sq1 p++(Sq1 q).map (mulT (-1))))=0:=by
 have gd:=cmp_gd hp hq
 have np:=nrm_of hp.n0
 have nq:=nrm_of hq.n0
 have p0:=hp.n0
 have q0:=hq.n0
 by_cases zp:p=0
 ·by_cases zq:q=0
  ·have e:Sq1 p++(Sq1 q).map (mulT (-1)) = []:=by unfold Sq1;rw [if_pos zp,if_pos zq];rfl
   rw [e]
   have:ordQ p q=0:=by unfold ordQ;rw [zp,zq];decide
   rw [this]
   exact ⟨rfl,rfl⟩
  ·have cq:=nC_pos q0 zq
   have e:Sq1 p++(Sq1 q).map (mulT (-1)) = [(nC q * -1,((nN q:Nat):Rat))]:=by
    rw [sq1_pos zq];unfold Sq1;rw [if_pos zp];rfl
   rw [e] at gd ⊢
   have ne:nC q * -1≠0:=by grind
   have hf:T.fin [(nC q * -1,((nN q:Nat):Rat))] = [(nC q * -1,((nN q:Nat):Rat))]:=fin_id2 (fun t ht=>by obtain rfl:=List.mem_singleton.1 ht;exact ⟨ne,nN q,rfl,nq⟩) ⟨fun t ht=>by obtain rfl:=List.mem_singleton.1 ht;exact nat_pos nq.1,List.pairwise_singleton _ _⟩
   have bq:=gd.bq (nC q * -1,((nN q:Nat):Rat)) (by rw [hf];exact List.mem_cons_self)
   rw [hf,(sg_single ne bq nq.1).1,(sg_single ne bq nq.1).2]
   have:ordQ p q = -1:=by unfold ordQ;rw [if_pos (by grind)]
   rw [this,if_pos (by grind)]
   exact ⟨rfl,rfl⟩
 ·have cp:=nC_pos p0 zp
  by_cases zq:q=0
  ·have e:Sq1 p++(Sq1 q).map (mulT (-1)) = [(nC p,((nN p:Nat):Rat))]:=by
    rw [sq1_pos zp];unfold Sq1;rw [if_pos zq];rfl
   rw [e] at gd ⊢
   have ne:nC p≠0:=by grind
   have hf:T.fin [(nC p,((nN p:Nat):Rat))] = [(nC p,((nN p:Nat):Rat))]:=fin_id2 (fun t ht=>by obtain rfl:=List.mem_singleton.1 ht;exact ⟨ne,nN p,rfl,np⟩) ⟨fun t ht=>by obtain rfl:=List.mem_singleton.1 ht;exact nat_pos np.1,List.pairwise_singleton _ _⟩
   have bp:=gd.bq (nC p,((nN p:Nat):Rat)) (by rw [hf];exact List.mem_cons_self)
   rw [hf,(sg_single ne bp np.1).1,(sg_single ne bp np.1).2]
   have:ordQ p q=1:=by unfold ordQ;rw [if_neg (by grind),if_pos (by grind)]
   rw [this,if_neg (by grind)]
   exact ⟨rfl,rfl⟩
  ·have cq:=nC_pos q0 zq
   have e:Sq1 p++(Sq1 q).map (mulT (-1)) = [(nC p,((nN p:Nat):Rat)),(nC q * -1,((nN q:Nat):Rat))]:=by rw [sq1_pos zp,sq1_pos zq];rfl
   rw [e] at gd ⊢
   have sp:=nC_sq p0
   have sq:=nC_sq q0
   generalize hg : [(nC p,((nN p:Nat):Rat)),(nC q * -1,((nN q:Nat):Rat))]=g at *
   have g0:∀ t∈g,0≤t.2:=fun t ht=>by
    rw [←hg] at ht
    have:t=(nC p,((nN p:Nat):Rat))∨t=(nC q * -1,((nN q:Nat):Rat)):=by simpa using ht
    rcases this with rfl | rfl <;> exact castn_nonneg _
   by_cases rel:Rl ((nN p:Nat):Rat) ((nN q:Nat):Rat)
   ·-- one root
    have both:∀ m:Rat,0<m→Rl m ((nN p:Nat):Rat)→∃ x y:Rat,0≤x∧0≤y∧x*x*m=p∧y*y*m=q∧T.vl m g=x - y:=fun m hm r1=>by
     obtain ⟨r,r0,er⟩:=r1.symm
     obtain ⟨s,s0,es⟩:=(r1.trans rel).symm
     refine ⟨nC p*r,nC q*s,Rat.mul_nonneg (Rat.le_of_lt cp) (Rat.le_of_lt r0),Rat.mul_nonneg (Rat.le_of_lt cq) (Rat.le_of_lt s0),?_,?_,?_⟩
     ·have:nC p*r*(nC p*r)*m=nC p*nC p*(r*r*m):=by grind
      rw [this,←er];exact sp
     ·have:nC q*s*(nC q*s)*m=nC q*nC q*(s*s*m):=by grind
      rw [this,←es];exact sq
     ·rw [←hg]
      show co m (nC p,((nN p:Nat):Rat))+(co m (nC q * -1,((nN q:Nat):Rat))+0)=_
      rw [er,es,co_yes _ hm (Rat.le_of_lt r0),co_yes _ hm (Rat.le_of_lt s0)];grind
    have cl:Cl [((nN p:Nat):Rat)] g:=fun t ht _=>by
     rw [←hg] at ht
     have:t=(nC p,((nN p:Nat):Rat))∨t=(nC q * -1,((nN q:Nat):Rat)):=by simpa using ht
     rcases this with rfl | rfl
     ·exact ⟨_,List.mem_singleton.2 rfl,Rl.refl _⟩
     ·exact ⟨_,List.mem_singleton.2 rfl,rel.symm⟩
    have cf:=cl.fin g0
    have len:=cf.len (fin_red g)
    match hF:T.fin g,len with
    | [],_ =>
     obtain ⟨x,y,x0,y0,ex,ey,ev⟩:=both _ (nat_pos np.1) (Rl.refl _)
     have z:T.vl ((nN p:Nat):Rat) g=0:=by rw [←fin_vl (nat_pos np.1) g g0,hF];rfl
     rw [ev] at z
     have:p=q:=by rw [←ex,←ey,show x=y by grind]
     have o:ordQ p q=0:=by unfold ordQ;rw [this,if_neg Rat.lt_irrefl,if_neg Rat.lt_irrefl]
     rw [o]
     exact ⟨rfl,rfl⟩
    | [t],_ =>
     have tm:t∈T.fin g:=by rw [hF];exact List.mem_cons_self
     have t0:=(fin_red g).1 t tm
     obtain ⟨c,hc,rc⟩:=cf t tm (by grind)
     obtain rfl:=List.mem_singleton.1 hc
     obtain ⟨x,y,x0,y0,ex,ey,ev⟩:=both t.2 t0 rc
     have own:t.1=x - y:=by rw [←ev,←fin_vl t0 g g0,vl_own (fin_red g) tm]
     have ne:=fin_ne tm
     obtain ⟨s,hs,sz,es,_⟩:=gth_src g0 (List.mem_filter.1 tm).1
     have bt:=gd.bq t tm
     have et:t=(t.1,((nN s.2:Nat):Rat)):=by rw [←es]
     have sg:=sg_single ne bt (nN_pos s.2)
     rw [←et] at sg
     rw [sg.1,sg.2]
     refine ⟨?_,rfl⟩
     unfold ordQ
     rcases ratTri p q with k | k | k
     ·rw [if_pos k,if_pos]
      rw [own];exact sub_lo (sq_cmp x0 y0 t0 (by rw [ex,ey];exact k))
     ·exfalso
      have e2:x*x=y*y:=by
       have:x*x*t.2=y*y*t.2:=by rw [ex,ey,k]
       have h3:(x*x - y*y)*t.2=0:=by grind
       rcases Rat.mul_eq_zero.1 h3 with z | z
       ·grind
       ·grind
      have:=sq_inj x0 y0 e2
      grind
     ·rw [if_neg (show ¬ p<q by grind),if_pos k,if_neg]
      rw [own];exact sub_hi (sq_cmp y0 x0 t0 (by rw [ex,ey];exact k))
   ·have nm:Nm g:=fun t ht=>by
     rw [←hg] at ht
     have:t=(nC p,((nN p:Nat):Rat))∨t=(nC q * -1,((nN q:Nat):Rat)):=by simpa using ht
     rcases this with rfl | rfl
     ·exact ⟨by show nC p≠0;grind,nN p,rfl,np⟩
     ·exact ⟨by show nC q * -1≠0;grind,nN q,rfl,nq⟩
    have rd:Red g:=by
     rw [←hg]
     refine ⟨fun t ht => ?_,List.pairwise_cons.2 ⟨fun t ht => ?_,List.pairwise_singleton _ _⟩⟩
     ·have:t=(nC p,((nN p:Nat):Rat))∨t=(nC q * -1,((nN q:Nat):Rat)):=by simpa using ht
      rcases this with rfl | rfl
      ·exact nat_pos np.1
      ·exact nat_pos nq.1
     ·obtain rfl:=List.mem_singleton.1 ht;exact rel
    rw [fin_id2 nm rd]
    have pq:p≠q:=fun e=>rel (by rw [e];exact Rl.refl _)
    have hs:p*5308416+1≤q*5308416∨q*5308416+1≤p*5308416:=by
     rcases ratTri p q with k | k | k
     ·exact .inl (gap hp hq k)
     ·exact absurd k pq
     ·exact .inr (gap hq hp k)
    obtain ⟨s1,s2⟩:=sg_two cp cq np.1 nq.1 sp sq (pq_le hp) (pq_le hq) hs (F:=g) (by rw [←hg])
    rw [s1,s2]
    refine ⟨?_,rfl⟩
    unfold ordQ
    by_cases k:p<q
    ·rw [if_pos k,if_pos k]
    ·rw [if_neg k,if_neg k,if_pos (by grind)]
theorem frac_lt {a b c d:Int} (hc:0<c) (hd:0<d):Rat.divInt a c<Rat.divInt b d↔a*d<b*c:=by
 have c0:(0:Rat)<(c:Rat):=by have:=Rat.intCast_lt_intCast.2 hc;exact this
 have d0:(0:Rat)<(d:Rat):=by have:=Rat.intCast_lt_intCast.2 hd;exact this
 have e1:Rat.divInt a c*(c:Rat)=(a:Rat):=by rw [Rat.divInt_eq_div];exact Rat.div_mul_cancel (by grind)
 have e2:Rat.divInt b d*(d:Rat)=(b:Rat):=by rw [Rat.divInt_eq_div];exact Rat.div_mul_cancel (by grind)
 have e3:Rat.divInt a c*((c:Rat)*(d:Rat))=((a*d:Int):Rat):=by rw [Rat.intCast_mul,←e1];grind
 have e4:Rat.divInt b d*((c:Rat)*(d:Rat))=((b*c:Int):Rat):=by rw [Rat.intCast_mul,←e2];grind
 have m0:=Rat.mul_pos c0 d0
 constructor
 ·intro h
  have:=Rat.mul_lt_mul_of_pos_right h m0
  rw [e3,e4] at this
  exact Rat.intCast_lt_intCast.1 this
 ·intro h
  refine Rat.lt_of_mul_lt_mul_right (c:=(c:Rat)*(d:Rat)) ?_ (Rat.le_of_lt m0)
  rw [e3,e4]
  exact Rat.intCast_lt_intCast.2 h
def ordZ (x y:Int):Int:=if x<y then -1 else if y<x then 1 else 0
theorem ord_frac {a b c d:Int} (hc:0<c) (hd:0<d):ordQ (Rat.divInt a c) (Rat.divInt b d)=ordZ (a*d) (b*c):=by
 unfold ordQ ordZ
 simp only [frac_lt hc hd,frac_lt hd hc]
end Go.Proofs.YtjdfjgfdbgmbiaaGreatDoor.T
namespace Go.Proofs.YtjdfjgfdbgmbiaaGreatDoor.T
open Go.Proofs.YtjdfjgfdbgmbiaaGreatDoor Go Go.RowKit
theorem Sign_ok (l:List Tm) (p:Option Addr) (n c:Nat) (w:World) (h:Su w p n c l) (ht:Tab w) (ht2:Tab64 w) (hS:Sm w) :
  Calls Tryz.prog 18 #[.slice p n c] w fun e W'=>e = .returned (.tuple #[.int .i64 (sgV l),.int .i64 (sgE l)])∧Below w.heap.size w W':=by
 have hA:=fun W b (hW:Below w.heap.size w W) (hb:Blk W b #[.slice p n c])=>areSurds_1 b p n c l W hb (h.next hW).sd (ht.next hW) (TabQ_next ht2 hW) (hS.next hW)
 have hB:=fun W (hW:Below w.heap.size w W)=>sign_ok l p n c W (h.next hW) (ht.next hW) (TabQ_next ht2 hW)
 have O:=Lib.hid (And.intro hA hB);clear hA hB h ht ht2 hS
 generalize sgV l=sv at *
 generalize sgE l=se at *
 go_enter Tryz.func18,Tryz.ntmps18
 go_wp2_with fail
 refine (O.out.1 _ _ ((Below.refl _ w).alloc (Nat.le_refl _) _) (Blk.new w _ _)).mono ?_
 rintro e W1 ⟨rfl,b⟩
 have B1:=Lib.hid (((Below.refl _ w).alloc (Nat.le_refl _) (.cells #[.slice p n c] 26)).trans (b.mono (by simp)))
 clear b
 go_wp2_with fail
 refine (O.out.2 _ B1.out).mono ?_
 rintro e W2 ⟨rfl,b⟩
 have B2:=Lib.hid (B1.out.trans (b.mono B1.out.size));clear b
 go_wp2
 go_ret2
 exact ⟨rfl,B2.out⟩
end Go.Proofs.YtjdfjgfdbgmbiaaGreatDoor.T
namespace Go.Proofs.YtjdfjgfdbgmbiaaGreatDoor
open Go.ChangeShapes Go.WideShapes Go.ChangeAt Go.RowKit
theorem own:ownKnob Tryz.prog.godebug=none:=by kernel_rfl
theorem gTab64:Tryz.prog.globalNamed "math/bits.deBruijn64tab" = some 1:=by kernel_rfl
theorem laid64_tab:(Rows.laid_math_bits_deBruijn64tab:DataW Unit)=Lib.tabData .u8 (Lib.deBruijn64tab.map fun n:Nat=>(n:Int)):=rfl
theorem tab64_of {W:World} (h:Lib.TabIs Tryz.prog W "math/bits.deBruijn64tab" .u8 (Lib.deBruijn64tab.map fun n:Nat=>(n:Int))):Tab64 W:=by
 intro j hj
 unfold Lib.TabIs World.var? at h
 rw [gTab64] at h
 unfold World.cell?
 cases hh:W.heap[1]? with
 | none=>simp [hh] at h
 | some o =>
  cases o with
  | cells cs t f =>
   have h1:some cs=some ((Lib.deBruijn64tab.map fun n:Nat=>(n:Int)).map fun z=>Value.int .u8 z).toArray:=by
    rw [←h];simp only [Option.bind_some,hh]
   have h2:=Option.some.inj h1
   subst h2
   have hj':j<64:=hj
   simp only [List.map_map,List.getElem?_toArray,List.getElem?_map]
   rw [List.getD_eq_getElem?_getD,List.getElem?_eq_getElem hj]
   rfl
  | _=>simp [hh] at h
section
variable {H:Type} {enc:TypeId × Value→H} {P:Program} {w:World} {base:Nat} {spare:Nat→Bool} {held:Bool}
end
def laid6:List (String × DataW Unit) := [("math/bits.deBruijn32tab", Rows.laid_math_bits_deBruijn32tab),("math/bits.deBruijn64tab", Rows.laid_math_bits_deBruijn64tab),("internal/strconv.uint64pow10", Rows.laid_internal_strconv_uint64pow10),("strconv.ErrRange", Rows.laid_strconv_ErrRange),("strconv.ErrSyntax", Rows.laid_strconv_ErrSyntax),("kingpost/root.small", Rows.laid_kingpost_root_small)]
theorem door_met6 (os:Os) (args:Array Value):laidMetH Tryz.prog laid6 ((World.doorLaid Tryz.prog 400 os).forCall (fun _ _=>0) ⟨#[],args,[]⟩).memory :=
 laidMetH_of_parts3 (fuel:=8) (laidMet_of_run' 8 (by kernel_rfl) (by kernel_rfl)) (by kernel_rfl) (by kernel_rfl)
theorem plain6 {W:World} (h:laidMetH Tryz.prog laid6 W):laidMet Tryz.prog laid6 W:=by
 rwa [MakeChecks.laidMetH_plain _ _ _ (by kernel_rfl)] at h
theorem tab_of_laid6 {W:World} (h:laidMetH Tryz.prog laid6 W):Tab W:=by
 have h2:laidMet Tryz.prog (("internal/strconv.uint64pow10", Lib.tabData .u64 Lib.pow10Tab) :: [("strconv.ErrRange", Rows.laid_strconv_ErrRange),("strconv.ErrSyntax", Rows.laid_strconv_ErrSyntax),("kingpost/root.small", Rows.laid_kingpost_root_small)]) W:=laidMet.tail (laidMet.tail (plain6 h))
 exact Lib.tabIs_of_head gTab (t:=236) (e:=179) (n:=20) (by kernel_rfl) (by kernel_rfl) (by kernel_rfl) (by kernel_rfl) (by kernel_rfl) h2
theorem tab64_of_laid6 {W:World} (h:laidMetH Tryz.prog laid6 W):Tab64 W:=by
 have h2:=laidMet.tail (plain6 h)
 rw [laid64_tab] at h2
 exact tab64_of (Lib.tabIs_of_head gTab64 (t:=238) (e:=5) (n:=64) (by kernel_rfl) (by kernel_rfl) (by kernel_rfl) (by kernel_rfl) (by kernel_rfl) h2)
theorem gSmall:Tryz.prog.globalNamed "kingpost/root.small" = some 4:=by kernel_rfl
theorem laid_small:(Rows.laid_kingpost_root_small:DataW Unit)=Lib.tabData .u64 (T.primes.map fun n:Nat=>(n:Int)):=rfl
theorem sm_of {W:World} (h:Lib.TabIs Tryz.prog W "kingpost/root.small" .u64 (T.primes.map fun n:Nat=>(n:Int))):T.Sm W:=by
 unfold Lib.TabIs World.var? at h
 rw [gSmall] at h
 cases hh:W.heap[4]? with
 | none=>simp [hh] at h
 | some o =>
  cases o with
  | cells cs t f =>
   have h1:some cs=some ((T.primes.map fun n:Nat=>(n:Int)).map fun z=>Value.int .u64 z).toArray:=by
    rw [←h];simp only [Option.bind_some,hh]
   have h2:=Option.some.inj h1
   subst h2
   exact ⟨t,f,hh⟩
  | _=>simp [hh] at h
theorem sm_of_laid6 {W:World} (h:laidMetH Tryz.prog laid6 W):T.Sm W:=by
 have h2:=laidMet.tail (laidMet.tail (laidMet.tail (laidMet.tail (laidMet.tail (plain6 h)))))
 rw [laid_small] at h2
 exact sm_of (Lib.tabIs_of_head gSmall (t:=299) (e:=179) (n:=25) (by kernel_rfl) (by kernel_rfl) (by kernel_rfl) (by kernel_rfl) (by kernel_rfl) h2)
end Go.Proofs.YtjdfjgfdbgmbiaaGreatDoor
