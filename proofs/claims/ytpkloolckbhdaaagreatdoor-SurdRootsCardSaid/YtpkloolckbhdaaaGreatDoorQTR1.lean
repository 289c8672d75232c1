/- Parts of the proofs of the texts YtpkloolckbhdaaaGreatDoorQTR. -/
import Derived.Test.YtpkloolckbhdaaaGreatDoorQT37
set_option linter.all false
set_option maxRecDepth 100000
set_option maxHeartbeats 8000000
namespace Go.Proofs.YtpkloolckbhdaaaGreatDoor.T
open Go.Proofs.YtpkloolckbhdaaaGreatDoor
theorem RQ.floor {q:Rat} {r:Nat} (h0:0≤q) (h:IsRoot q.floor.toNat r):RQ q r:=by
 have f:0≤q.floor:=Rat.le_floor_iff.2 h0
 have e:((q.floor.toNat:Nat):Int)=q.floor:=Int.toNat_of_nonneg f
 constructor
 ·have:((r*r:Nat):Int)≤q.floor:=by have:=h.1;omega
  have:=Rat.le_floor_iff.1 this
  rwa [Rat.intCast_natCast] at this
 ·have:q.floor<(((r+1)*(r+1):Nat):Int):=by have:=h.2;omega
  have:=Rat.floor_lt_iff.1 this
  rwa [Rat.intCast_natCast] at this
end Go.Proofs.YtpkloolckbhdaaaGreatDoor.T
namespace Go.Proofs.YtpkloolckbhdaaaGreatDoor.T
open Go.Proofs.YtpkloolckbhdaaaGreatDoor Go Go.RowKit
theorem frac_any (n d:Int) (w:World) (h1:0≤n) (h2:n≤65535) (h3:0≤d) (h4:d≤255) (ht:Tab w) :
  Calls Tryz.prog 25 #[.int .u16 n,.int .u8 d] w fun e W'=>e = .returned (.string (strQ (Rat.divInt n (d % 20+1))))∧Below w.heap.size w W':=by
 have oI:=Lib.hid (fun z W (a : -9223372036854775808≤z) (b:z≤9223372036854775807) (h:Below w.heap.size w W)=>Itoa_any z W a b (ht.next h));clear ht
 obtain ⟨m,hm⟩:∃ m,m=d % 20:=⟨_,rfl⟩
 have hm1:0≤m:=by omega
 have hm2:m<20:=by omega
 rw [←hm]
 have HM:=Lib.hid hm.symm;clear hm
 have HB0:=Lib.hid (Below.refl w.heap.size w)
 go_enter Tryz.func25,Tryz.ntmps25
 go_wp2
 rw [HM.out]
 have F0:Fr n (m+1) n (m+1) 2:=⟨by rw [Int.mul_comm],fun j a b=>by omega⟩
 have HF:=Lib.hid F0;clear F0 HM
 go_loopw [5,6,7] (fun a b k wr=>∃ x y z:Int,a = .int .i64 x∧b = .int .i64 y∧k = .int .i64 z∧0≤x∧x≤70000∧1≤y∧y≤20∧2≤z∧z≤21∧Hid (Fr n (m+1) x y z)∧Hid (Below w.heap.size w wr)) (fun _ _ k _=>22 - (intOf k).toNat)
 case atStart=>exact ⟨n,m+1,2,rfl,rfl,rfl,by omega,by omega,by omega,by omega,by omega,by omega,HF,HB0⟩
 case round =>
  clear HF HB0 h1 h2
  obtain ⟨x,y,z,rfl,rfl,rfl,x1,x2,y1,y2,z1,z2,HF,HB⟩:=hrel
  by_cases hlt:z≤y
  ·have z3:z≤20:=by omega
   go_wp2
   go_loopw [5,6] (fun a b wr=>∃ x y:Int,a = .int .i64 x∧b = .int .i64 y∧0≤x∧x≤70000∧1≤y∧y≤20∧Hid (Fr n (m+1) x y z)∧Hid (Below w.heap.size w wr)) (fun _ b _=>(intOf b).toNat)
   case atStart=>exact ⟨x,y,rfl,rfl,x1,x2,y1,y2,HF,HB⟩
   case round =>
    clear HF HB x1 x2 y1 y2 hlt
    obtain ⟨x,y,rfl,rfl,x1,x2,y1,y2,HF,HB⟩:=hrel
    have zn:¬ z=0:=by omega
    have zb:(z==0)=false:=by simpa using zn
    by_cases c1:x % z=0
    ·by_cases c2:y % z=0
     ·have d1:=ediv_of (dvd_emod.1 c1)
      have d2:=ediv_of (dvd_emod.1 c2)
      have q1:=part_rng z1 d1
      have q2:=part_lt z1 (by omega) d2
      have HF2:=Lib.hid (HF.out.div z1 d1 d2)
      clear HF
      have q3:0≤x / z:=by exact Int.ediv_nonneg (by omega) (by omega)
      clear d1 d2
      go_wp2
      go_quiet (fail)
      go_wp2
      generalize x / z=u at *
      generalize y / z=v at *
      go_roundw
      case rel=>exact ⟨u,v,rfl,rfl,by omega,by omega,by omega,by omega,HF2,below_drewN HB.out _⟩
      case measure=>simp [intOf];omega
     ·have HF2:=Lib.hid (HF.out.step fun k=>c2 (dvd_emod.2 k.2))
      clear HF
      go_wp2
      go_roundw
      case rel=>exact ⟨x,y,z+1,rfl,rfl,by go_num,x1,x2,y1,y2,by omega,by omega,HF2,HB⟩
      case measure=>simp [intOf];omega
    ·have HF2:=Lib.hid (HF.out.step fun k=>c1 (dvd_emod.2 k.1))
     clear HF
     go_wp2
     go_roundw
     case rel=>exact ⟨x,y,z+1,rfl,rfl,by go_num,x1,x2,y1,y2,by omega,by omega,HF2,HB⟩
     case measure=>simp [intOf];omega
  ·obtain ⟨co,eq⟩:=HF.out.fin (by omega) (by omega) (by omega)
   have es:=strQ_frac x y (by omega) co
   rw [eq] at es
   have HE:=Lib.hid es
   have sx:=strB_short (z:=x) (by omega)
   have sy:=strB_short (z:=y) (by omega)
   clear co eq es HF
   go_wp2_with fail
   refine (oI.out x _ (by omega) (by omega) HB.out).mono ?_
   rintro e w2 ⟨rfl,b2⟩
   have HN:=Lib.hid (HB.out.trans (b2.mono HB.out.size));clear HB b2;have HB:=HN;clear HN
   by_cases y0:y=1
   ·have HE2:Hid (strQ (Rat.divInt n (m+1))=strB x):=Lib.hid (by rw [HE.out,if_pos y0])
    clear HE
    generalize strB x=sxx at *
    go_wp2
    go_ret
    exact ⟨by rw [HE2.out];first | done | rfl,HB.out⟩
   ·have HE2:Hid (strQ (Rat.divInt n (m+1))=strB x++(⟨#[47]⟩++strB y)):=Lib.hid (by rw [HE.out,if_neg y0])
    clear HE
    go_wp2_with fail
    refine (oI.out y _ (by omega) (by omega) HB.out).mono ?_
    rintro e w3 ⟨rfl,b3⟩
    have HN:=Lib.hid (HB.out.trans (b3.mono HB.out.size));clear HB b3;have HB:=HN;clear HN
    generalize strB x=sxx at *
    generalize strB y=syy at *
    have g1:¬ (9223372036854775807:Int)<1+(syy.size:Int):=by omega
    have g2:¬ (9223372036854775807:Int)<sxx.size+(1+(syy.size:Int)):=by omega
    go_wp2
    go_ret
    exact ⟨by rw [HE2.out];first | done | rfl,HB.out⟩
end Go.Proofs.YtpkloolckbhdaaaGreatDoor.T
namespace Go.Proofs.YtpkloolckbhdaaaGreatDoor.T
open Go.Proofs.YtpkloolckbhdaaaGreatDoor Go Go.RowKit
structure Pq (p:Rat):Prop where
 n0:0≤p
 num:p.num.natAbs≤65535
 den:p.den≤20
theorem pq_of (a b:Nat) (hb:0<b) (hb2:b≤20) (ha:a≤65535):Pq (Rat.divInt a b):=by
 have h:=divInt_le (n:=(a:Int)) (d:=(b:Int)) (by omega)
 refine ⟨?_,by have:=h.1;rw [Int.natAbs_natCast] at this;omega,?_⟩
 ·rw [Rat.divInt_eq_div,Rat.intCast_natCast,Rat.intCast_natCast]
  exact div_nn (castn_nonneg a) (nat_pos hb)
 ·have:=Nat.le_of_dvd (by simpa using hb) h.2
  rw [Int.natAbs_natCast] at this;omega
theorem cN_le (p:Rat):cN p≤p.num.natAbs:=by
 unfold cN
 split
 ·exact root_le _
 ·rename_i h
  obtain ⟨e,p1,p2,_⟩:=strips_spec primes primes_2 (num_pos_of h)
  generalize (strips primes p.num.natAbs).1=x at *
  generalize (strips primes p.num.natAbs).2=y at *
  have h1:x*1≤x*(x*y):=Nat.mul_le_mul_left x (Nat.mul_pos p1 p2)
  rw [e,Nat.mul_assoc];omega
theorem cD_le (p:Rat):cD p≤p.den:=by
 unfold cD
 split
 ·exact root_le _
 ·obtain ⟨e,p1,p2,_⟩:=strips_spec primes primes_2 p.den_pos
  generalize (strips primes p.den).1=x at *
  generalize (strips primes p.den).2=y at *
  have h1:x*y*1≤x*y*x:=Nat.mul_le_mul_left _ p1
  have h2:x*x*y=x*y*x:=by rw [Nat.mul_assoc,Nat.mul_comm]
  rw [e,h2];omega
theorem nNq_le {p:Rat} (h:Pq p):nN p≤1310700:=by
 unfold nN
 split
 ·decide
 ·rename_i hb
  have n0:=num_pos_of hb
  obtain ⟨_,_,_,d1,_⟩:=strips_spec primes primes_2 n0
  obtain ⟨_,_,_,d2,_⟩:=strips_spec primes primes_2 p.den_pos
  have l1:=Nat.le_of_dvd n0 d1
  have l2:=Nat.le_of_dvd p.den_pos d2
  exact Nat.mul_le_mul (Nat.le_trans l1 h.num) (Nat.le_trans l2 h.den)
theorem nC_J (p:Rat):J (cD p) (cN p) (nC p):=by
 refine ⟨cN p,?_,by simp⟩
 have d0:=nat_pos (cD_pos p)
 unfold nC
 rw [Rat.mkRat_eq_div,Rat.intCast_natCast,Rat.div_mul_cancel (by grind)]
noncomputable def Sq1 (p:Rat):List Tm:=if p=0 then [] else [(nC p,((nN p:Nat):Rat))]
theorem nC_Bq {p:Rat} (h:Pq p):Bq 5 (nC p) :=
 (nC_J p).bq (cD_pos p) (Nat.lt_of_le_of_lt (Nat.le_trans (cN_le p) h.num) (by decide+kernel)) (Nat.lt_of_le_of_lt (Nat.le_trans (cD_le p) h.den) (by decide+kernel))
theorem gth_one (p:Rat):gth [((1:Rat),p)]=Sq1 p:=by
 show stp [] (1,p)=_
 unfold stp Sq1
 by_cases z:p=0
 ·rw [if_pos (.inr z),if_pos z]
 ·rw [if_neg (fun h=>h.elim (fun k=>absurd (show (1:Rat)=0 from k) (by decide)) z),if_neg z]
  show [nrmT (1,p)]=_
  unfold nrmT
  rw [Rat.one_mul]
theorem fin_one {p:Rat} (h:Pq p):T.fin [((1:Rat),p)]=Sq1 p:=by
 unfold T.fin
 rw [gth_one]
 unfold Sq1
 split
 ·rfl
 ·rename_i z
  have:=nC_pos h.n0 z
  rw [List.filter_cons_of_pos (by unfold nz;exact decide_eq_true (by show nC p≠0;grind))];rfl
theorem gd_one {p:Rat} (h:Pq p):Gd [((1:Rat),p)]:=by
 have hb:=nC_Bq h
 have hn:=nNq_le h
 have nt:NT (nrmT ((1:Rat),p)):=⟨by show Bq 100 (1*nC p);rw [Rat.one_mul];exact hb.up (by decide),nN p,rfl,nrm_of h.n0,Nat.lt_of_le_of_lt hn (by decide+kernel)⟩
 have bp:Bq 5 p:=⟨Nat.lt_of_le_of_lt h.num (by decide+kernel),Nat.lt_of_le_of_lt h.den (by decide+kernel)⟩
 refine ⟨⟨by simp,fun t ht => ?_,fun t ht _ _ => ?_,fun j _ s hs => ?_⟩,?_,?_⟩
 ·obtain rfl:=List.mem_singleton.1 ht
  exact ⟨h.n0,bp.up (by decide),Bq_one.up (by decide)⟩
 ·obtain rfl:=List.mem_singleton.1 ht
  exact ⟨hb.up (by decide),nt⟩
 ·match j with
  | 0=>simp [gth] at hs
  | j+1 =>
   have e : [((1:Rat),p)].take (j+1) = [(1,p)]:=by simp
   rw [e,gth_one] at hs
   unfold Sq1 at hs
   split at hs
   ·cases hs
   ·obtain rfl:=List.mem_singleton.1 hs
    have:=nt
    unfold nrmT at this
    rwa [Rat.one_mul] at this
 ·rw [fin_one h];unfold Sq1;split <;> simp
 ·rw [fin_one h]
  intro t ht
  unfold Sq1 at ht
  split at ht
  ·cases ht
  ·obtain rfl:=List.mem_singleton.1 ht;exact hb.up (by decide)
theorem sq1_mem {p:Rat} {t:Tm} (h:t∈Sq1 p):p≠0∧t=(nC p,((nN p:Nat):Rat)):=by
 unfold Sq1 at h
 split at h
 ·cases h
 ·rename_i z;exact ⟨z,List.mem_singleton.1 h⟩
theorem sq1_len (p:Rat):(Sq1 p).length≤1:=by unfold Sq1;split <;> simp
theorem square_res {p:Rat} (h:Pq p):Gd (prods (Sq1 p) (Sq1 p))∧∀ r,r.Perm (T.fin (prods (Sq1 p) (Sq1 p)))→Good r→r=if p=0 then [] else [(p,1)]:=by
 have hn:=nNq_le h
 have n0:=nN_pos p
 have hD:=cD_pos p
 have ns:∀ t∈prods (Sq1 p) (Sq1 p),Ns (cD p*cD p) (cN p*cN p) (nN p*nN p) t:=fun t ht=>by
  obtain ⟨a,ha,b,hb,rfl⟩:=prods_mem ht
  obtain ⟨_,rfl⟩:=sq1_mem ha
  obtain ⟨_,rfl⟩:=sq1_mem hb
  exact ⟨(nC_J p).mul (nC_J p),nN p*nN p,by show _*_=_;rw [Rat.natCast_mul],Nat.le_refl _⟩
 have hl:(prods (Sq1 p) (Sq1 p)).length≤1:=by
  rw [prods_len];exact Nat.mul_le_mul (sq1_len p) (sq1_len p)
 have b1:nN p*nN p≤1310700*1310700:=Nat.mul_le_mul hn hn
 have b2:cN p*cN p≤65535*65535:=Nat.mul_le_mul (Nat.le_trans (cN_le p) h.num) (Nat.le_trans (cN_le p) h.num)
 have b3:cD p*cD p≤20*20:=Nat.mul_le_mul (Nat.le_trans (cD_le p) h.den) (Nat.le_trans (cD_le p) h.den)
 have cl:Cl [((nN p*nN p:Nat):Rat)] (prods (Sq1 p) (Sq1 p)):=fun t ht _=>by
  obtain ⟨a,ha,b,hb,rfl⟩:=prods_mem ht
  obtain ⟨_,rfl⟩:=sq1_mem ha
  obtain ⟨_,rfl⟩:=sq1_mem hb
  exact ⟨_,List.mem_singleton.2 rfl,by show Rl (_*_) _;rw [←Rat.natCast_mul];exact Rl.refl _⟩
 have gd:=gd_raw (k:=1) ns (Nat.mul_pos hD hD) (Nat.mul_pos n0 n0) hl (by decide) (Nat.lt_of_le_of_lt b1 (by decide+kernel))
  (Nat.lt_of_le_of_lt (Nat.mul_le_mul_left 1 (Nat.mul_le_mul b2 (Nat.mul_le_mul b1 b1))) (by decide+kernel)) (Nat.lt_of_le_of_lt (Nat.mul_le_mul b3 b1) (by decide+kernel)) cl (by simp)
 refine ⟨gd,fun r hp hg => ?_⟩
 have ok:=Ok.fin (Ln:=1) ns hl (fun t ht=>(ns t ht).r) (fun _ _=>rfl) gd cl hp
 refine one_only ok.red (fun t ht=>by obtain ⟨q,e,nq,_⟩:=ok.rt t ht;exact ⟨q,e,nq⟩) (fun t ht=>(hg.ok t ht).1) fun m hm => ?_
 rw [ok.vl m hm]
 unfold Sq1
 split
 ·rename_i z
  rw [z,co_zero];rfl
 ·show co m (nC p*nC p,((nN p:Nat):Rat)*((nN p:Nat):Rat))+0=_
  have e:=co_out (k:=((nN p:Nat):Rat)) (q:=1) (nC p*nC p) hm (by decide) (castn_nonneg _)
  rw [Rat.mul_one] at e
  rw [Rat.add_zero,e,nC_sq h.n0]
def Nm (g:List Tm):Prop:=∀ t∈g,t.1≠0∧∃ b:Nat,t.2=(b:Rat)∧Nrm b
theorem gth_id2:∀ (g l:List Tm),Red (l++g)→Nm g→g.foldl stp l=l++g
 | [],l,_,_=>by simp
 | t::g,l,hr,hg=>by
  obtain ⟨c0,b,e,nb⟩:=hg t List.mem_cons_self
  have ht:nrmT t=t:=by
   obtain ⟨c,q⟩:=t
   have e':q=(b:Rat):=e
   subst e'
   show (c*nC (b:Rat),((nN (b:Rat):Nat):Rat))=(c,(b:Rat))
   rw [nb.2.1,nb.2.2,Rat.mul_one]
  have hl:=(List.pairwise_append.1 hr.2).2.2
  have st:stp l t=l ++ [t]:=by
   unfold stp
   rw [if_neg (fun z=>z.elim c0 fun z=>by have:=nat_pos nb.1;rw [e] at z;grind),ht]
   refine ins_miss fun j hj r => ?_
   have hm:=tat_mem hj
   exact hl _ hm t List.mem_cons_self ((rel2_iff (hr.1 _ (List.mem_append.2 (.inl hm))) (hr.1 t (by simp))).1 r).symm
  show g.foldl stp (stp l t)=_
  rw [st,gth_id2 g (l ++ [t]) (by rw [List.append_assoc];exact hr) fun s hs=>hg s (List.mem_cons_of_mem _ hs),List.append_assoc];rfl
theorem fin_id2 {g:List Tm} (h:Nm g) (hr:Red g):T.fin g=g:=by
 have e:gth g=g:=by
  have:=gth_id2 g [] (by rw [List.nil_append];exact hr) h
  rwa [List.nil_append] at this
 unfold T.fin
 rw [e]
 refine List.filter_eq_self.2 fun t ht => ?_
 unfold nz
 exact decide_eq_true (h t ht).1
theorem rd_fl {c:Rat} {n P:Nat} (hc:0≤c.num):∃ x:Nat,rdZ c n P=x∧x*x*(c.den*c.den)≤rdN c n P∧rdN c n P<(x+1)*(x+1)*(c.den*c.den):=by
 have hd:0<c.den*c.den:=Nat.mul_pos c.den_pos c.den_pos
 obtain ⟨h1,h2⟩:=rootN_is (rdN c n P / (c.den*c.den))
 refine ⟨rdS c n P,by unfold rdZ;rw [if_pos hc],?_,?_⟩
 ·exact Nat.le_trans (Nat.mul_le_mul_right _ h1) (Nat.div_mul_le_self _ _)
 ·exact (Nat.div_lt_iff_lt_mul hd).1 h2
theorem rd_ce {c:Rat} {n P:Nat} (hc:c.num<0) (hn:0<n):∃ y:Nat,1≤y∧rdZ c n P = -(y:Int)∧(y - 1)*(y - 1)*(c.den*c.den)<rdN c n P∧rdN c n P≤y*y*(c.den*c.den):=by
 have hd:0<c.den*c.den:=Nat.mul_pos c.den_pos c.den_pos
 have N0:0<rdN c n P:=Nat.mul_pos (Nat.mul_pos (Nat.mul_pos (by omega) (by omega)) hn) (tenTo_pos _)
 obtain ⟨h1,h2⟩:=rootN_is (rdN c n P / (c.den*c.den))
 have h3:rdS c n P*rdS c n P*(c.den*c.den)≤rdN c n P:=Nat.le_trans (Nat.mul_le_mul_right _ h1) (Nat.div_mul_le_self _ _)
 have h4:rdN c n P<(rdS c n P+1)*(rdS c n P+1)*(c.den*c.den):=(Nat.div_lt_iff_lt_mul hd).1 h2
 by_cases e:rdS c n P*rdS c n P*(c.den*c.den)=rdN c n P
 ·have s0:1≤rdS c n P:=Nat.pos_of_ne_zero fun z=>by rw [z] at e;simp at e;omega
  refine ⟨rdS c n P,s0,by unfold rdZ;rw [if_neg (by omega),if_pos e],?_,by rw [e];exact Nat.le_refl _⟩
  rw [←e]
  refine Nat.mul_lt_mul_of_pos_right ?_ hd
  exact Nat.mul_lt_mul'' (by omega) (by omega)
 ·refine ⟨rdS c n P+1,by omega,by unfold rdZ;rw [if_neg (by omega),if_neg e];omega,?_,by omega⟩
  rw [Nat.add_sub_cancel]
  omega
theorem sg_single {e:Rat} {m:Nat} (h0:e≠0) (hB:Bq 60 e) (hm:0<m):sgV [(e,(m:Rat))]=(if e<0 then -1 else 1)∧sgE [(e,(m:Rat))]=0:=by
 have en:e.num≠0:=fun z=>h0 (Rat.num_eq_zero.1 z)
 have s:∀ p,sml p [(e,(m:Rat))] 1=rdZ e m p:=fun p=>by
  show 0+rdT p (e,(m:Rat))=_
  unfold rdT
  rw [natR_num,Int.zero_add]
 have l : [(e,(m:Rat))].length=1:=rfl
 by_cases neg:e<0
 ·have nn:e.num<0:=by
   have:=Rat.num_nonneg (q:=e)
   rcases Int.lt_or_le e.num 0 with k | k
   ·exact k
   ·have:=this.1 k;grind
  obtain ⟨y,y1,ey,_⟩:=rd_ce (P:=4) nn hm
  have d:dec 4 [(e,(m:Rat))] = -1:=by
   unfold dec
   rw [l,s,ey,if_neg (by omega),if_pos (by omega)]
  unfold sgV sgE
  rw [d,l,if_pos neg]
  exact ⟨rfl,rfl⟩
 ·have nn:0≤e.num:=Rat.num_nonneg.2 (by grind)
  obtain ⟨x,ex,_,x2⟩:=rd_fl (P:=64) (n:=m) nn
  obtain ⟨u,eu,_,_⟩:=rd_fl (P:=4) (n:=m) nn
  have x0:0<x:=Nat.pos_of_ne_zero fun z=>by
   rw [z] at x2
   have d2:e.den*e.den<tenTo 60*tenTo 60:=Nat.mul_lt_mul'' hB.2 hB.2
   have t1:tenTo 60*tenTo 60≤tenTo (2*64):=by rw [←tenTo_add];exact tenTo_mono (by decide)
   have n1:1*tenTo (2*64)≤e.num.natAbs*e.num.natAbs*m*tenTo (2*64):=Nat.mul_le_mul_right _ (Nat.mul_pos (Nat.mul_pos (by omega) (by omega)) hm)
   have:rdN e m 64=e.num.natAbs*e.num.natAbs*m*tenTo (2*64):=rfl
   omega
  have d64:dec 64 [(e,(m:Rat))]=1:=by
   unfold dec
   rw [l,s,ex,if_pos (by omega)]
  have d4:dec 4 [(e,(m:Rat))]=1∨dec 4 [(e,(m:Rat))]=0:=by
   unfold dec
   rw [l,s,eu]
   by_cases k:(0:Int)<u
   ·rw [if_pos k];exact .inl rfl
   ·rw [if_neg k,if_neg (by omega)];exact .inr rfl
  unfold sgV sgE
  rw [l,if_neg neg,d64]
  rcases d4 with d | d <;> rw [d] <;> exact ⟨rfl,rfl⟩
end Go.Proofs.YtpkloolckbhdaaaGreatDoor.T
namespace Go.Proofs.YtpkloolckbhdaaaGreatDoor.T
open Go.Proofs.YtpkloolckbhdaaaGreatDoor Go Go.RowKit
theorem rdN_val {c:Rat} {n P:Nat} {p:Rat} (hp:c*c*(n:Rat)=p):((rdN c n P:Nat):Rat)=p*(tenTo (2*P):Rat)*((c.den*c.den:Nat):Rat):=by
 have e:=num_is c
 have sq:((c.num.natAbs*c.num.natAbs:Nat):Rat)=c*c*((c.den*c.den:Nat):Rat):=by
  have h:((c.num.natAbs*c.num.natAbs:Nat):Rat)=(c.num:Rat)*(c.num:Rat):=by
   rw [←Rat.intCast_natCast,Int.natAbs_mul_self,Rat.intCast_mul]
  rw [h,e,Rat.natCast_mul];grind
 unfold rdN
 rw [Rat.natCast_mul,Rat.natCast_mul,sq,←hp];grind
theorem rat_fl {c:Rat} {n P x:Nat} {p:Rat} (hp:c*c*(n:Rat)=p) (h1:x*x*(c.den*c.den)≤rdN c n P) (h2:rdN c n P<(x+1)*(x+1)*(c.den*c.den)) :
  ((x*x:Nat):Rat)≤p*(tenTo (2*P):Rat)∧p*(tenTo (2*P):Rat)<(((x+1)*(x+1):Nat):Rat):=by
 have hv:=rdN_val (P:=P) hp
 have d0:(0:Rat)<((c.den*c.den:Nat):Rat):=nat_pos (Nat.mul_pos c.den_pos c.den_pos)
 generalize c.den*c.den=dd at *
 have h1:=Rat.natCast_le_natCast.2 h1
 have h2:=Rat.natCast_lt_natCast.2 h2
 rw [hv,Rat.natCast_mul] at h1
 rw [hv,Rat.natCast_mul] at h2
 exact ⟨Rat.le_of_mul_le_mul_right h1 d0,Rat.lt_of_mul_lt_mul_right h2 (Rat.le_of_lt d0)⟩
theorem rat_ce {c:Rat} {n P y:Nat} {p:Rat} (hp:c*c*(n:Rat)=p) (h1:(y - 1)*(y - 1)*(c.den*c.den)<rdN c n P) (h2:rdN c n P≤y*y*(c.den*c.den)) :
  (((y - 1)*(y - 1):Nat):Rat)<p*(tenTo (2*P):Rat)∧p*(tenTo (2*P):Rat)≤((y*y:Nat):Rat):=by
 have hv:=rdN_val (P:=P) hp
 have d0:(0:Rat)<((c.den*c.den:Nat):Rat):=nat_pos (Nat.mul_pos c.den_pos c.den_pos)
 generalize c.den*c.den=dd at *
 have h1:=Rat.natCast_lt_natCast.2 h1
 have h2:=Rat.natCast_le_natCast.2 h2
 rw [hv,Rat.natCast_mul] at h1
 rw [hv,Rat.natCast_mul] at h2
 exact ⟨Rat.lt_of_mul_lt_mul_right h1 (Rat.le_of_lt d0),Rat.le_of_mul_le_mul_right h2 d0⟩
theorem sq_le {a b:Nat} (h:a≤b):((a*a:Nat):Rat)≤((b*b:Nat):Rat):=Rat.natCast_le_natCast.2 (Nat.mul_le_mul h h)
theorem dec_right {P x y:Nat} {p q:Rat} (hy:1≤y) (h1:((x*x:Nat):Rat)≤p*(tenTo (2*P):Rat)) (h2:p*(tenTo (2*P):Rat)<(((x+1)*(x+1):Nat):Rat))
  (h3:(((y - 1)*(y - 1):Nat):Rat)<q*(tenTo (2*P):Rat)) (h4:q*(tenTo (2*P):Rat)≤((y*y:Nat):Rat)) :
  ((0:Int)<(x:Int) - y→q<p)∧((x:Int) - y+2≤0→p<q):=by
 have t0:(0:Rat)<(tenTo (2*P):Rat):=nat_pos (tenTo_pos _)
 refine ⟨fun h => ?_,fun h => ?_⟩
 ·have l:y+1≤x:=by omega
  have s:((y*y:Nat):Rat)<((x*x:Nat):Rat):=Rat.natCast_lt_natCast.2 (Nat.mul_lt_mul'' (by omega) (by omega))
  exact Rat.lt_of_mul_lt_mul_right (c:=(tenTo (2*P):Rat)) (by grind) (Rat.le_of_lt t0)
 ·have l:x+1≤y - 1:=by omega
  have s:=sq_le l
  exact Rat.lt_of_mul_lt_mul_right (c:=(tenTo (2*P):Rat)) (by grind) (Rat.le_of_lt t0)
theorem dec_all {x y:Nat} {p q:Rat} (hy:1≤y) (h1:((x*x:Nat):Rat)≤p*(tenTo (2*64):Rat)) (h2:p*(tenTo (2*64):Rat)<(((x+1)*(x+1):Nat):Rat))
  (h3:(((y - 1)*(y - 1):Nat):Rat)<q*(tenTo (2*64):Rat)) (h4:q*(tenTo (2*64):Rat)≤((y*y:Nat):Rat)) (hp:p≤65536) (hq:q≤65536) (hd:p*400+1≤q*400∨q*400+1≤p*400) :
  (0:Int)<(x:Int) - y∨(x:Int) - y+2≤0:=by
 have t0:(0:Rat)<(tenTo (2*64):Rat):=nat_pos (tenTo_pos _)
 have top:∀ {z:Nat} {r:Rat},r≤65536→((z*z:Nat):Rat)≤r*(tenTo (2*64):Rat)→z≤256*tenTo 64:=fun {z r} hr h=>by
  have a:r*(tenTo (2*64):Rat)≤65536*(tenTo (2*64):Rat):=Rat.mul_le_mul_of_nonneg_right hr (Rat.le_of_lt t0)
  have b:((z*z:Nat):Rat)≤((65536*tenTo (2*64):Nat):Rat):=by
   have e:((65536*tenTo (2*64):Nat):Rat)=65536*(tenTo (2*64):Rat):=by rw [Rat.natCast_mul];rfl
   rw [e];exact Rat.le_trans h a
  have c:=Rat.natCast_le_natCast.1 b
  rcases Nat.lt_or_ge (256*tenTo 64) z with l | l
  ·exfalso
   have h2:=Nat.mul_lt_mul'' l l
   have e:256*tenTo 64*(256*tenTo 64)=65536*tenTo (2*64):=by decide+kernel
   omega
  ·exact l
 have big:4*(256*tenTo 64+1)*400<tenTo (2*64):=by decide+kernel
 rcases Int.lt_or_le 0 ((x:Int) - y) with l | l
 ·exact .inl l
 ·refine .inr ?_
  rcases Int.lt_or_le 0 ((x:Int) - y+2) with k | k
  ·exfalso
   have xy:x=y∨x+1=y:=by omega
   rcases hd with d | d
   ·-- p is less
    have xb:=top hp h1
    have a1:q*(tenTo (2*64):Rat)≤(((x+1)*(x+1):Nat):Rat):=Rat.le_trans h4 (sq_le (by omega))
    have a2:(p*400+1)*(tenTo (2*64):Rat)≤q*400*(tenTo (2*64):Rat):=Rat.mul_le_mul_of_nonneg_right d (Rat.le_of_lt t0)
    have e:(x+1)*(x+1)=x*x+(2*x+1):=by grind
    rw [e,Rat.natCast_add] at a1
    have a3:(tenTo (2*64):Rat)≤((400*(2*x+1):Nat):Rat):=by
     rw [Rat.natCast_mul]
     have:((400:Nat):Rat)=400:=rfl
     rw [this];grind
    have:=Rat.natCast_le_natCast.1 a3
    omega
   ·have yb:y - 1≤256*tenTo 64:=top hq (Rat.le_of_lt h3)
    have a1:p*(tenTo (2*64):Rat)<(((y+1)*(y+1):Nat):Rat):=by
     have:=sq_le (a:=x+1) (b:=y+1) (by omega)
     grind
    have a2:(q*400+1)*(tenTo (2*64):Rat)≤p*400*(tenTo (2*64):Rat):=Rat.mul_le_mul_of_nonneg_right d (Rat.le_of_lt t0)
    have e:(y+1)*(y+1)=(y - 1)*(y - 1)+4*y:=by
     obtain ⟨z,rfl⟩:∃ z,y=z+1:=⟨y - 1,by omega⟩
     rw [Nat.add_sub_cancel];grind
    rw [e,Rat.natCast_add] at a1
    have a3:(tenTo (2*64):Rat)<((400*(4*y):Nat):Rat):=by
     rw [Rat.natCast_mul]
     have:((400:Nat):Rat)=400:=rfl
     rw [this];grind
    have:=Rat.natCast_lt_natCast.1 a3
    omega
  ·exact k
theorem sg_two {c d:Rat} {n m:Nat} {p q:Rat} (hc:0<c) (hd:0<d) (hn:0<n) (hm:0<m) (hp:c*c*(n:Rat)=p) (hq:d*d*(m:Rat)=q) (bp:p≤65536) (bq:q≤65536) (hs:p*400+1≤q*400∨q*400+1≤p*400)
  {F:List Tm} (hF:F.Perm [(c,(n:Rat)),(d * -1,(m:Rat))]):sgV F=(if p<q then -1 else 1)∧sgE F=0:=by
 have cn:0≤c.num:=Rat.num_nonneg.2 (Rat.le_of_lt hc)
 have dn:(d * -1).num<0:=by
  rcases Int.lt_or_le (d * -1).num 0 with k | k
  ·exact k
  ·have:=Rat.num_nonneg.1 k;grind
 have hq':(d * -1)*(d * -1)*(m:Rat)=q:=by rw [←hq];grind
 have l:F.length=2:=hF.length_eq
 have s:∀ P,∃ x y:Nat,sml P F F.length=(x:Int) - y∧1≤y∧((x*x:Nat):Rat)≤p*(tenTo (2*P):Rat)∧p*(tenTo (2*P):Rat)<(((x+1)*(x+1):Nat):Rat) ∧
   (((y - 1)*(y - 1):Nat):Rat)<q*(tenTo (2*P):Rat)∧q*(tenTo (2*P):Rat)≤((y*y:Nat):Rat):=fun P=>by
  obtain ⟨x,ex,x1,x2⟩:=rd_fl (n:=n) (P:=P) cn
  obtain ⟨y,y0,ey,y1,y2⟩:=rd_ce (n:=m) (P:=P) dn hm
  obtain ⟨a1,a2⟩:=rat_fl hp x1 x2
  obtain ⟨a3,a4⟩:=rat_ce hq' y1 y2
  refine ⟨x,y,?_,y0,a1,a2,a3,a4⟩
  rw [sml_all,sum_perm hF]
  show rdT P (c,(n:Rat))+(rdT P (d * -1,(m:Rat))+0)=_
  unfold rdT
  rw [natR_num,natR_num,ex,ey];omega
 have ne:¬ (p<q∧q<p):=by grind
 obtain ⟨x,y,e64,y0,a1,a2,a3,a4⟩:=s 64
 obtain ⟨u,v,e4,v0,b1,b2,b3,b4⟩:=s 4
 have r64:=dec_right y0 a1 a2 a3 a4
 have r4:=dec_right v0 b1 b2 b3 b4
 have all:=dec_all y0 a1 a2 a3 a4 bp bq hs
 have d64:dec 64 F=if p<q then -1 else 1:=by
  unfold dec
  rw [e64,l]
  rcases all with k | k
  ·rw [if_pos k,if_neg (by have:=r64.1 k;grind)]
  ·rw [if_neg (by omega),if_pos (by omega),if_pos (r64.2 k)]
 have d4:dec 4 F=(if p<q then -1 else 1)∨dec 4 F=0:=by
  unfold dec
  rw [e4,l]
  by_cases k:(0:Int)<(u:Int) - v
  ·rw [if_pos k,if_neg (by have:=r4.1 k;grind)];exact .inl rfl
  ·by_cases k2:(u:Int) - v+(2:Nat)≤0
   ·rw [if_neg k,if_pos k2,if_pos (r4.2 (by omega))];exact .inl rfl
   ·rw [if_neg k,if_neg k2];exact .inr rfl
 have nz:(if p<q then (-1:Int) else 1)≠0:=by split <;> decide
 generalize (if p<q then (-1:Int) else 1)=s0 at *
 unfold sgV sgE
 rw [l,d64,if_neg (show ¬ 2=0 by decide),if_neg (show ¬ 2=0 by decide)]
 rcases d4 with k | k
 ·rw [k,if_pos nz,if_pos nz];exact ⟨rfl,rfl⟩
 ·rw [k,if_neg (show ¬ (0:Int)≠0 by decide),if_neg (show ¬ (0:Int)≠0 by decide),if_pos nz];exact ⟨rfl,rfl⟩
end Go.Proofs.YtpkloolckbhdaaaGreatDoor.T
namespace Go.Proofs.YtpkloolckbhdaaaGreatDoor.T
open Go.Proofs.YtpkloolckbhdaaaGreatDoor Go Go.RowKit
theorem gap {p q:Rat} (hp:Pq p) (hq:Pq q) (h:p<q):p*400+1≤q*400:=by
 have ep:=num_is p
 have eq:=num_is q
 have a0:=nat_pos p.den_pos
 have b0:=nat_pos q.den_pos
 have h1:p*((p.den:Nat):Rat)*((q.den:Nat):Rat)<q*((q.den:Nat):Rat)*((p.den:Nat):Rat):=by
  have h2:p*(((p.den:Nat):Rat)*((q.den:Nat):Rat))<q*(((p.den:Nat):Rat)*((q.den:Nat):Rat)):=Rat.mul_lt_mul_of_pos_right h (Rat.mul_pos a0 b0)
  grind
 rw [←ep,←eq] at h1
 have h2:p.num*(q.den:Int)<q.num*(p.den:Int):=by
  rw [←Rat.intCast_natCast,←Rat.intCast_natCast,←Rat.intCast_mul,←Rat.intCast_mul] at h1
  exact Rat.intCast_lt_intCast.1 h1
 have h3:p.num*(q.den:Int)+1≤q.num*(p.den:Int):=by omega
 have h4:=Rat.intCast_le_intCast.2 h3
 rw [Rat.intCast_add,Rat.intCast_mul,Rat.intCast_mul,Rat.intCast_natCast,Rat.intCast_natCast,ep,eq] at h4
 have h5:((p.den*q.den:Nat):Rat)≤((400:Nat):Rat):=Rat.natCast_le_natCast.2 (Nat.mul_le_mul hp.den hq.den)
 rw [Rat.natCast_mul] at h5
 have h6:(q - p)*(((p.den:Nat):Rat)*((q.den:Nat):Rat))≤(q - p)*((400:Nat):Rat):=Rat.mul_le_mul_of_nonneg_left h5 (by grind)
 have c1:((1:Int):Rat)=1:=rfl
 have c2:((400:Nat):Rat)=400:=rfl
 rw [c1] at h4
 rw [c2] at h6
 grind
theorem pq_le {p:Rat} (h:Pq p):p≤65536:=by
 have e:=num_is p
 have d1:(1:Rat)≤((p.den:Nat):Rat):=by
  have:=Rat.natCast_le_natCast (a:=1) (b:=p.den)
  exact this.2 p.den_pos
 have n1:(p.num:Rat)≤((65535:Int):Rat):=Rat.intCast_le_intCast.2 (by have:=h.num;omega)
 have c:((65535:Int):Rat)=65535:=rfl
 rw [c,e] at n1
 have:=Rat.mul_le_mul_of_nonneg_left d1 h.n0
 rw [Rat.mul_one] at this
 grind
theorem cmp_gd {p q:Rat} (hp:Pq p) (hq:Pq q):Gd (Sq1 p++(Sq1 q).map (mulT (-1))):=by
 have b1:cN p*cD q≤65535*20:=Nat.mul_le_mul (Nat.le_trans (cN_le p) hp.num) (Nat.le_trans (cD_le q) hq.den)
 have b2:cN q*cD p≤65535*20:=Nat.mul_le_mul (Nat.le_trans (cN_le q) hq.num) (Nat.le_trans (cD_le p) hp.den)
 have b3:cD p*cD q≤20*20:=Nat.mul_le_mul (Nat.le_trans (cD_le p) hp.den) (Nat.le_trans (cD_le q) hq.den)
 refine gd_raw (D:=cD p*cD q) (M:=65535*20) (R:=1310700) (k:=2) (C := [((nN p:Nat):Rat),((nN q:Nat):Rat)]) (fun t ht => ?_) (Nat.mul_pos (cD_pos p) (cD_pos q)) (by decide) ?_ (by decide) (by decide+kernel) (by decide+kernel)
  (Nat.lt_of_le_of_lt (Nat.mul_le_mul_right _ b3) (by decide+kernel)) (fun t ht _ => ?_) (by simp)
 ·rcases List.mem_append.1 ht with ht | ht
  ·obtain ⟨_,rfl⟩:=sq1_mem ht
   exact ⟨((nC_J p).wide (cD q)).up b1,nN p,rfl,nNq_le hp⟩
  ·obtain ⟨s,hs,rfl⟩:=List.mem_map.1 ht
   obtain ⟨_,rfl⟩:=sq1_mem hs
   refine ⟨?_,nN q,rfl,nNq_le hq⟩
   have:=(((nC_J q).wide (cD p)).up b2).neg
   rwa [Nat.mul_comm] at this
 ·have:=sq1_len p
  have:=sq1_len q
  rw [List.length_append,List.length_map];omega
 ·rcases List.mem_append.1 ht with ht | ht
  ·obtain ⟨_,rfl⟩:=sq1_mem ht
   exact ⟨_,by simp,Rl.refl _⟩
  ·obtain ⟨s,hs,rfl⟩:=List.mem_map.1 ht
   obtain ⟨_,rfl⟩:=sq1_mem hs
   exact ⟨((nN q:Nat):Rat),by simp,Rl.refl _⟩
def ordQ (p q:Rat):Int:=if p<q then -1 else if q<p then 1 else 0
theorem sq1_pos {p:Rat} (h:p≠0):Sq1 p = [(nC p,((nN p:Nat):Rat))]:=by unfold Sq1;rw [if_neg h]
theorem sq_cmp {x y m:Rat} (hx:0≤x) (hy:0≤y) (hm:0<m) (h:x*x*m<y*y*m):x<y:=by
 have h1:=Rat.lt_of_mul_lt_mul_right h (Rat.le_of_lt hm)
 rcases ratTri x y with k | k | k
 ·exact k
 ·rw [k] at h1;exact absurd h1 (Rat.lt_irrefl)
 ·exfalso
  have a:=Rat.mul_le_mul_of_nonneg_left (Rat.le_of_lt k) hx
  have b:=Rat.mul_le_mul_of_nonneg_right (Rat.le_of_lt k) hy
  grind
theorem sub_lo {x y:Rat} (h:x<y):x - y<0:=by grind
theorem sub_hi {x y:Rat} (h:y<x):¬ x - y<0:=by grind
theorem cmp_sg {p q:Rat} (hp:Pq p) (hq:Pq q):sgV (T.fin (Sq1 p++(Sq1 q).map (mulT (-1))))=ordQ p q∧sgE (T.fin (Sq1 p++(Sq1 q).map (mulT (-1))))=0:=by
 have gd:=cmp_gd hp hq
 have np:=nrm_of hp.n0
 have nq:=nrm_of hq.n0
 have p0:=hp.n0
 have q0:=hq.n0
 by_cases zp:p=0
 ·by_cases zq:q=0
  ·have e:Sq1 p++(Sq1 q).map (mulT (-1)) = []:=by unfold Sq1;rw [if_pos zp,if_pos zq];rfl
   rw [e]
   have:ordQ p q=0:=by unfold ordQ;rw [zp,zq];decide
   rw [this]
   exact ⟨rfl,rfl⟩
  ·have cq:=nC_pos q0 zq
   have e:Sq1 p++(Sq1 q).map (mulT (-1)) = [(nC q * -1,((nN q:Nat):Rat))]:=by
    rw [sq1_pos zq];unfold Sq1;rw [if_pos zp];rfl
   rw [e] at gd ⊢
   have ne:nC q * -1≠0:=by grind
   have hf:T.fin [(nC q * -1,((nN q:Nat):Rat))] = [(nC q * -1,((nN q:Nat):Rat))]:=fin_id2 (fun t ht=>by obtain rfl:=List.mem_singleton.1 ht;exact ⟨ne,nN q,rfl,nq⟩) ⟨fun t ht=>by obtain rfl:=List.mem_singleton.1 ht;exact nat_pos nq.1,List.pairwise_singleton _ _⟩
   have bq:=gd.bq (nC q * -1,((nN q:Nat):Rat)) (by rw [hf];exact List.mem_cons_self)
   rw [hf,(sg_single ne bq nq.1).1,(sg_single ne bq nq.1).2]
   have:ordQ p q = -1:=by unfold ordQ;rw [if_pos (by grind)]
   rw [this,if_pos (by grind)]
   exact ⟨rfl,rfl⟩
 ·have cp:=nC_pos p0 zp
  by_cases zq:q=0
  ·have e:Sq1 p++(Sq1 q).map (mulT (-1)) = [(nC p,((nN p:Nat):Rat))]:=by
    rw [sq1_pos zp];unfold Sq1;rw [if_pos zq];rfl
   rw [e] at gd ⊢
   have ne:nC p≠0:=by grind
   have hf:T.fin [(nC p,((nN p:Nat):Rat))] = [(nC p,((nN p:Nat):Rat))]:=fin_id2 (fun t ht=>by obtain rfl:=List.mem_singleton.1 ht;exact ⟨ne,nN p,rfl,np⟩) ⟨fun t ht=>by obtain rfl:=List.mem_singleton.1 ht;exact nat_pos np.1,List.pairwise_singleton _ _⟩
   have bp:=gd.bq (nC p,((nN p:Nat):Rat)) (by rw [hf];exact List.mem_cons_self)
   rw [hf,(sg_single ne bp np.1).1,(sg_single ne bp np.1).2]
   have:ordQ p q=1:=by unfold ordQ;rw [if_neg (by grind),if_pos (by grind)]
   rw [this,if_neg (by grind)]
   exact ⟨rfl,rfl⟩
  ·have cq:=nC_pos q0 zq
   have e:Sq1 p++(Sq1 q).map (mulT (-1)) = [(nC p,((nN p:Nat):Rat)),(nC q * -1,((nN q:Nat):Rat))]:=by rw [sq1_pos zp,sq1_pos zq];rfl
   rw [e] at gd ⊢
   have sp:=nC_sq p0
   have sq:=nC_sq q0
   generalize hg : [(nC p,((nN p:Nat):Rat)),(nC q * -1,((nN q:Nat):Rat))]=g at *
   have g0:∀ t∈g,0≤t.2:=fun t ht=>by
    rw [←hg] at ht
    have:t=(nC p,((nN p:Nat):Rat))∨t=(nC q * -1,((nN q:Nat):Rat)):=by simpa using ht
    rcases this with rfl | rfl <;> exact castn_nonneg _
   by_cases rel:Rl ((nN p:Nat):Rat) ((nN q:Nat):Rat)
   ·-- one root
    have both:∀ m:Rat,0<m→Rl m ((nN p:Nat):Rat)→∃ x y:Rat,0≤x∧0≤y∧x*x*m=p∧y*y*m=q∧T.vl m g=x - y:=fun m hm r1=>by
     obtain ⟨r,r0,er⟩:=r1.symm
     obtain ⟨s,s0,es⟩:=(r1.trans rel).symm
     refine ⟨nC p*r,nC q*s,Rat.mul_nonneg (Rat.le_of_lt cp) (Rat.le_of_lt r0),Rat.mul_nonneg (Rat.le_of_lt cq) (Rat.le_of_lt s0),?_,?_,?_⟩
     ·have:nC p*r*(nC p*r)*m=nC p*nC p*(r*r*m):=by grind
      rw [this,←er];exact sp
     ·have:nC q*s*(nC q*s)*m=nC q*nC q*(s*s*m):=by grind
      rw [this,←es];exact sq
     ·rw [←hg]
      show co m (nC p,((nN p:Nat):Rat))+(co m (nC q * -1,((nN q:Nat):Rat))+0)=_
      rw [er,es,co_yes _ hm (Rat.le_of_lt r0),co_yes _ hm (Rat.le_of_lt s0)];grind
    have cl:Cl [((nN p:Nat):Rat)] g:=fun t ht _=>by
     rw [←hg] at ht
     have:t=(nC p,((nN p:Nat):Rat))∨t=(nC q * -1,((nN q:Nat):Rat)):=by simpa using ht
     rcases this with rfl | rfl
     ·exact ⟨_,List.mem_singleton.2 rfl,Rl.refl _⟩
     ·exact ⟨_,List.mem_singleton.2 rfl,rel.symm⟩
    have cf:=cl.fin g0
    have len:=cf.len (fin_red g)
    match hF:T.fin g,len with
    | [],_ =>
     obtain ⟨x,y,x0,y0,ex,ey,ev⟩:=both _ (nat_pos np.1) (Rl.refl _)
     have z:T.vl ((nN p:Nat):Rat) g=0:=by rw [←fin_vl (nat_pos np.1) g g0,hF];rfl
     rw [ev] at z
     have:p=q:=by rw [←ex,←ey,show x=y by grind]
     have o:ordQ p q=0:=by unfold ordQ;rw [this,if_neg Rat.lt_irrefl,if_neg Rat.lt_irrefl]
     rw [o]
     exact ⟨rfl,rfl⟩
    | [t],_ =>
     have tm:t∈T.fin g:=by rw [hF];exact List.mem_cons_self
     have t0:=(fin_red g).1 t tm
     obtain ⟨c,hc,rc⟩:=cf t tm (by grind)
     obtain rfl:=List.mem_singleton.1 hc
     obtain ⟨x,y,x0,y0,ex,ey,ev⟩:=both t.2 t0 rc
     have own:t.1=x - y:=by rw [←ev,←fin_vl t0 g g0,vl_own (fin_red g) tm]
     have ne:=fin_ne tm
     obtain ⟨s,hs,sz,es,_⟩:=gth_src g0 (List.mem_filter.1 tm).1
     have bt:=gd.bq t tm
     have et:t=(t.1,((nN s.2:Nat):Rat)):=by rw [←es]
     have sg:=sg_single ne bt (nN_pos s.2)
     rw [←et] at sg
     rw [sg.1,sg.2]
     refine ⟨?_,rfl⟩
     unfold ordQ
     rcases ratTri p q with k | k | k
     ·rw [if_pos k,if_pos]
      rw [own];exact sub_lo (sq_cmp x0 y0 t0 (by rw [ex,ey];exact k))
     ·exfalso
      have e2:x*x=y*y:=by
       have:x*x*t.2=y*y*t.2:=by rw [ex,ey,k]
       have h3:(x*x - y*y)*t.2=0:=by grind
       rcases Rat.mul_eq_zero.1 h3 with z | z
       ·grind
       ·grind
      have:=sq_inj x0 y0 e2
      grind
     ·rw [if_neg (show ¬ p<q by grind),if_pos k,if_neg]
      rw [own];exact sub_hi (sq_cmp y0 x0 t0 (by rw [ex,ey];exact k))
   ·have nm:Nm g:=fun t ht=>by
     rw [←hg] at ht
     have:t=(nC p,((nN p:Nat):Rat))∨t=(nC q * -1,((nN q:Nat):Rat)):=by simpa using ht
     rcases this with rfl | rfl
     ·exact ⟨by show nC p≠0;grind,nN p,rfl,np⟩
     ·exact ⟨by show nC q * -1≠0;grind,nN q,rfl,nq⟩
    have rd:Red g:=by
     rw [←hg]
     refine ⟨fun t ht => ?_,List.pairwise_cons.2 ⟨fun t ht => ?_,List.pairwise_singleton _ _⟩⟩
     ·have:t=(nC p,((nN p:Nat):Rat))∨t=(nC q * -1,((nN q:Nat):Rat)):=by simpa using ht
      rcases this with rfl | rfl
      ·exact nat_pos np.1
      ·exact nat_pos nq.1
     ·obtain rfl:=List.mem_singleton.1 ht;exact rel
    rw [fin_id2 nm rd]
    have pq:p≠q:=fun e=>rel (by rw [e];exact Rl.refl _)
    have hs:p*400+1≤q*400∨q*400+1≤p*400:=by
     rcases ratTri p q with k | k | k
     ·exact .inl (gap hp hq k)
     ·exact absurd k pq
     ·exact .inr (gap hq hp k)
    obtain ⟨s1,s2⟩:=sg_two cp cq np.1 nq.1 sp sq (pq_le hp) (pq_le hq) hs (F:=g) (by rw [←hg])
    rw [s1,s2]
    refine ⟨?_,rfl⟩
    unfold ordQ
    by_cases k:p<q
    ·rw [if_pos k,if_pos k]
    ·rw [if_neg k,if_neg k,if_pos (by grind)]
end Go.Proofs.YtpkloolckbhdaaaGreatDoor.T
