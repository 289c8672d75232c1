/- Parts of the proof of the text YtjdfjgfdbgmbiaaGreatDoorHB39. -/
import Derived.Laws.MakeOwn
import Derived.Test.YtjdfjgfdbgmbiaaGreatDoorHB1
import Derived.Test.YtjdfjgfdbgmbiaaGreatDoorHB30
import Derived.Test.YtjdfjgfdbgmbiaaGreatDoorHB34
import Derived.Test.YtjdfjgfdbgmbiaaGreatDoorHB35
set_option linter.all false
set_option maxRecDepth 100000
set_option maxHeartbeats 8000000
namespace Go.Proofs.YtjdfjgfdbgmbiaaGreatDoor.T
open Go.Proofs.YtjdfjgfdbgmbiaaGreatDoor Go Go.RowKit
theorem one_ap (W:World) (x y:ByteArray) (t:TypeId):Ap (W.alloc (.cells #[.string x,.string y] t)) (some ⟨W.heap.size,0,none⟩) 1 1 [.string x,.string y]:=by
 refine ⟨rfl,fun u hu => ?_,.inr ⟨_,rfl,fun j u hu => ?_⟩⟩
 ·simp at hu
  rcases hu with rfl | rfl <;> rfl
 ·have hk:=Blk.new W #[.string x,.string y] t
  have ha:(⟨W.heap.size,0,none⟩:Addr).add j=⟨W.heap.size,j,none⟩:=by unfold Addr.add;split <;> simp_all
  rw [ha]
  refine hk.cell j u ?_
  simpa using hu
theorem one_cells (W:World) (x y:ByteArray) (t:TypeId) (q:Nat) (u:Value) (hu : [Value.string x,.string y][q]? = some u):(W.alloc (.cells #[.string x,.string y] t)).cell? ((⟨W.heap.size,0,none⟩:Addr).add q)=some u:=by
 rcases (one_ap W x y t).2.2 with ⟨h,_⟩ | ⟨bb,h,k⟩
 ·cases h
 ·cases h;exact k q u hu
theorem Mul_core (p p':Option Addr) (b b' n n' c c':Nat) (w:World) (hp:0<n→p=some ⟨b,0,none⟩) (hp':0<n'→p'=some ⟨b',0,none⟩) (h1:n≤16) (h2:n'≤16) (Q:Value→World→Prop) (ac ar bc br:Nat→ByteArray) (pc pr:Nat→Nat→ByteArray) (zs:Nat→Nat→List Value) (hb:0<n→b<w.heap.size) (hb':0<n'→b'<w.heap.size)
  (hc:∀ j,j<n→w.cell? ⟨b,j*2,none⟩=some (.string (ac j))∧w.cell? ⟨b,j*2+1,none⟩=some (.string (ar j)))
  (hd:∀ j,j<n'→w.cell? ⟨b',j*2,none⟩=some (.string (bc j))∧w.cell? ⟨b',j*2+1,none⟩=some (.string (br j)))
  (hz0:zs 0 0 = []) (hz1:∀ j i,zs j (i+1)=zs j i ++ [.string (pc j i),.string (pr j i)]) (hz2:∀ j,zs (j+1) 0=zs j n')
  (hP:∀ j i,j<n→i<n'→∀ W,Below w.heap.size w W→Calls Tryz.prog 58 #[.agg #[.string (ac j),.string (ar j)],.agg #[.string (bc i),.string (br i)]] W fun e W'=>e = .returned (.agg #[.string (pc j i),.string (pr j i)])∧Below W.heap.size W W')
  (hG:∀ v W,W.ownsRow w.heap.size 50 2 v (n*n') (zs n 0)→Below w.heap.size w W→Calls Tryz.prog 59 #[v] W fun e W''=>∃ v,e = .returned (.tuple #[v,.int .i64 0])∧Q v W'')
  (hA:∀ W b1,Below w.heap.size w W→Blk W b1 #[.slice p n c,.slice p' n' c']→Calls Tryz.prog 40 #[.slice (some ⟨b1,0,none⟩) 2 2] W fun e W'=>e = .returned (.bool true)∧Below W.heap.size W W') :
  Calls Tryz.prog 25 #[.slice p n c,.slice p' n' c'] w fun e W'=>∃ v,e = .returned (.tuple #[v,.int .i64 0])∧Q v W':=by
 have O:=Lib.hid hA;clear hA
 have HP:=Lib.hid (And.intro hp hp');clear hp hp'
 have C:=Lib.hid (And.intro hb (And.intro hb' (And.intro hc hd)));have Z:=Lib.hid (And.intro hz0 (And.intro hz1 hz2));have P:=Lib.hid hP;have G:=Lib.hid hG;clear hb hb' hc hd hz0 hz1 hz2 hP hG
 have hnn:n*n'≤256:=Nat.mul_le_mul h1 h2
 obtain ⟨N,hN⟩:∃ N,N=n*n':=⟨_,rfl⟩
 have hNi:(n:Int)*(n':Int)=(N:Int):=by rw [hN,Int.natCast_mul]
 rw [←hN] at hnn
 have HNN:=Lib.hid hN;clear hN
 go_enter Tryz.func25,Tryz.ntmps25
 go_wp2_with fail
 refine (O.out _ _ ((Below.refl _ w).alloc (Nat.le_refl _) _) (Blk.new w _ _)).mono ?_
 rintro e W1 ⟨rfl,bb⟩
 have B1:=Lib.hid (((Below.refl _ w).alloc (Nat.le_refl _) (.cells #[.slice p n c,.slice p' n' c'] 26)).trans (bb.mono (by simp)))
 clear bb
 obtain ⟨i0,hi,hz0,hz1,hz2⟩:=info_parts info_term
 obtain ⟨W2,hr,ho,hg⟩:=run_make_own (P:=Tryz.prog) W1 w.heap.size 25 50 i0 _ 2 Tryz.underlying25 hi hz0 hz1 .i64 .i64 N (by rw [hz2];omega) (by unfold maxLen;omega) B1.out.size
 have B2:=Lib.hid (And.intro ho (B1.out.grown hg B1.out.size (fun k hk=>by cases hk)))
 clear hi hz0 hz1 hz2 ho hg
 go_wp2_with fail
 clear hr
 generalize W1.heap.size=g1 at *
 clear B1 O
 go_loopw [6,24] (fun x y wr=>∃ j:Nat,x = .slice (some ⟨g1,0,none⟩) (j*n') N∧y = .int .i64 j∧j≤n∧Hid (wr.ownsRow w.heap.size 50 2 (.slice (some ⟨g1,0,none⟩) (j*n') N) (j*n') (zs j 0)∧Below w.heap.size w wr)) (fun _ y _=>n - (intOf y).toNat)
 case atStart=>exact ⟨0,by rw [Nat.zero_mul],rfl,by omega,by rw [Nat.zero_mul,Z.out.1];exact B2.out⟩
 case round =>
  clear B2
  obtain ⟨j,rfl,rfl,hj,HI⟩:=hrel
  by_cases hlt:j<n
  ·have hz:(j:Int)<n:=by omega
   obtain rfl:=HP.out.1 (by omega)
   have hb0:=C.out.1 (by omega)
   have d0:wr.cell? ⟨b,j*2,none⟩=some (.string (ac j)):=(HI.out.2.cell (p:=⟨b,j*2,none⟩) hb0).trans (C.out.2.2.1 j hlt).1
   have d1:wr.cell? ⟨b,j*2+1,none⟩=some (.string (ar j)):=(HI.out.2.cell (p:=⟨b,j*2+1,none⟩) hb0).trans (C.out.2.2.1 j hlt).2
   have hP:=Lib.hid (fun i=>P.out j i hlt)
   clear hb0
   generalize ac j=acj at *
   generalize ar j=arj at *
   go_wp2
   have hgk:=(HI.out.1.lt g1 rfl).1
   have hgl:=Lib.hid (show g1<wr.heap.size from (HI.out.1.lt g1 rfl).2)
   clear hgk
   have HN:=Lib.hid (And.intro (HI.out.1.alloc (.cells #[.string acj,.string arj] 50)) (And.intro (HI.out.2.alloc HI.out.2.size (.cells #[.string acj,.string arj] 50)) (Blk.new wr #[.string acj,.string arj] 50)))
   generalize wr.alloc (.cells #[.string acj,.string arj] 50)=u at *
   generalize wr.heap.size=k at *
   clear HI d0 d1
   go_loopw [6,30] (fun x y wr=>∃ i:Nat,x = .slice (some ⟨g1,0,none⟩) (j*n'+i) N∧y = .int .i64 i∧i≤n'∧Hid (wr.ownsRow w.heap.size 50 2 (.slice (some ⟨g1,0,none⟩) (j*n'+i) N) (j*n'+i) (zs j i)∧Below w.heap.size w wr∧Blk wr k #[.string acj,.string arj])) (fun _ y _=>n' - (intOf y).toNat)
   case atStart=>exact ⟨0,rfl,rfl,by omega,HN.out.1,HN.out.2⟩
   case round =>
    clear HN
    obtain ⟨i,rfl,rfl,hi,HJ⟩:=hrel
    by_cases hlt2:i<n'
    ·have hz2:(i:Int)<n':=by omega
     obtain rfl:=HP.out.2 (by omega)
     have hb1:=C.out.2.1 (by omega)
     have p0:wr.cell? ⟨b',i*2,none⟩=some (.string (bc i)):=(HJ.out.2.1.cell (p:=⟨b',i*2,none⟩) hb1).trans (C.out.2.2.2 i hlt2).1
     have p1:wr.cell? ⟨b',i*2+1,none⟩=some (.string (br i)):=(HJ.out.2.1.cell (p:=⟨b',i*2+1,none⟩) hb1).trans (C.out.2.2.2 i hlt2).2
     have hP2:=Lib.hid (hP.out i hlt2)
     clear hb1
     have hz3:=Lib.hid (Z.out.2.1 j i)
     generalize bc i=bci at *
     generalize br i=bri at *
     generalize pc j i=pcji at *
     generalize pr j i=prji at *
     have HN:=Lib.hid (And.intro (HJ.out.1.alloc (.cells #[.string bci,.string bri] 50)) (And.intro (HJ.out.2.1.alloc HJ.out.2.1.size (.cells #[.string bci,.string bri] 50)) (HJ.out.2.2.alloc (.cells #[.string bci,.string bri] 50))))
     have e0:(wr.alloc (.cells #[.string bci,.string bri] 50)).cell? ⟨k,0,none⟩=some (.string acj):=HN.out.2.2.cell 0 _ rfl
     have e1:(wr.alloc (.cells #[.string bci,.string bri] 50)).cell? ⟨k,1,none⟩=some (.string arj):=HN.out.2.2.cell 1 _ rfl
     have f0:(wr.alloc (.cells #[.string bci,.string bri] 50)).cell? ⟨wr.heap.size,0,none⟩=some (.string bci):=(Blk.new wr #[.string bci,.string bri] 50).cell 0 _ rfl
     have f1:(wr.alloc (.cells #[.string bci,.string bri] 50)).cell? ⟨wr.heap.size,1,none⟩=some (.string bri):=(Blk.new wr #[.string bci,.string bri] 50).cell 1 _ rfl
     go_wp2_with fail
     refine (hP2.out _ HN.out.2.1).mono ?_
     rintro e w3 ⟨rfl,bd⟩
     have HM:=Lib.hid (And.intro (own_next HN.out.1 bd) (And.intro (HN.out.2.1.trans (bd.mono HN.out.2.1.size)) (HN.out.2.2.next bd)))
     have hjn:=Lib.hid (show j*n'≤256 from Nat.mul_le_mul (show j≤16 by omega) h2)
     clear e0 e1 f0 f1 HN bd
     have hfit:j*n'+i+1≤N:=by
      have e1:=Nat.mul_le_mul_right n' (show j+1≤n by omega)
      rw [Nat.succ_mul,←HNN.out] at e1
      omega
     obtain ⟨i1,hi1,hy0,hy1,hy2⟩:=info_parts info_term
     go_wp2_with (at_builtin;refine wpList_append_fits _ rfl _ _ 25 rfl w.heap.size 50 i1 2 Tryz.underlying25 hi1 hy1 g1 (j*n'+i) N _ rfl (HM.out.1.alloc _) ⟨w3.heap.size,0,none⟩ 1 1 [.string pcji,.string prji] rfl rfl (one_cells w3 pcji prji _) (one_ap w3 pcji prji 50).2.1 hfit ?_;intro w4 q1 q2;have HO:=Lib.hid (And.intro q1 q2);clear q1 q2)
     go_roundw
     case rel =>
      have o:=HO.out.1
      rw [←hz3.out] at o
      have gl:=hgl.out
      have kl:=(HM.out.2.2.lt)
      refine ⟨i+1,rfl,by go_num,by omega,Lib.hid ⟨o,(HM.out.2.1.alloc HM.out.2.1.size (.cells #[.string pcji,.string prji] 50)).grown HO.out.2 ?_ ?_,blk_grown (HM.out.2.2.alloc (.cells #[.string pcji,.string prji] 50)) HO.out.2 ?_⟩⟩
      ·exact (HM.out.2.1.alloc HM.out.2.1.size (.cells #[.string pcji,.string prji] 50)).size
      ·intro q hq;cases hq;exact (HM.out.1.lt g1 rfl).1
      ·intro hq;have:=Option.some.inj hq;omega
     case measure=>simp [intOf];omega
    ·have ei:i=n':=by omega
     have hz2:¬ (i:Int)<n':=by omega
     rw [ei] at HJ
     have HR:=Lib.hid (Z.out.2.2 j)
     have HJ2:Hid (wr.ownsRow w.heap.size 50 2 (.slice (some ⟨g1,0,none⟩) ((j+1)*n') N) ((j+1)*n') (zs (j+1) 0)∧Below w.heap.size w wr):=by
      have h1:=HJ.out.1
      rw [←HR.out,←Nat.succ_mul] at h1
      exact Lib.hid ⟨h1,HJ.out.2.1⟩
     have ex:=Lib.hid (show j*n'+i=(j+1)*n' by rw [ei,Nat.succ_mul])
     clear ei hlt2 hi HJ
     go_wp2
     go_roundw
     case rel=>exact ⟨j+1,by rw [ex.out],by go_num,by omega,HJ2⟩
     case measure=>simp [intOf];omega
  ·have ej:j=n:=by omega
   have hz:¬ (j:Int)<n:=by omega
   have HG:=Lib.hid (G.out (.slice (some ⟨g1,0,none⟩) (j*n') N) wr (by have:=HI.out.1;rw [ej] at this ⊢; exact this) HI.out.2)
   clear ej hlt hj HI G P Z C
   go_wp2_with fail
   refine HG.out.mono ?_
   rintro e W3 ⟨v',rfl,hq⟩
   have HQ:=Lib.hid hq;clear hq
   go_wp2
   go_ret2
   exact ⟨_,rfl,HQ.out⟩
end Go.Proofs.YtjdfjgfdbgmbiaaGreatDoor.T
namespace Go.Proofs.YtjdfjgfdbgmbiaaGreatDoor.T
open Go.Proofs.YtjdfjgfdbgmbiaaGreatDoor Go Go.RowKit
theorem nC_nat (a:Nat):∃ c:Nat,nC (a:Rat)=(c:Rat)∧c≤a:=by
 have d1:cD (a:Rat)=1:=by
  unfold cD
  rw [natR_den,strips_one _ primes_2,root_1]
  split <;> rfl
 refine ⟨cN (a:Rat),?_,?_⟩
 ·unfold nC
  rw [d1,Rat.mkRat_one];rfl
 ·unfold cN
  rw [natR_num]
  split
  ·exact root_le a
  ·rename_i h
   have hp:=num_pos_of h
   rw [natR_num] at hp
   obtain ⟨e,p1,p2,_⟩:=strips_spec primes primes_2 hp
   generalize (strips primes a).1=x at *
   generalize (strips primes a).2=y at *
   have h1:x*1≤x*(x*y):=Nat.mul_le_mul_left x (Nat.mul_pos p1 p2)
   rw [e,Nat.mul_assoc];omega
theorem nN_le {a:Nat} (h:0<a):nN (a:Rat)≤a:=by
 obtain ⟨c,e,_⟩:=nC_nat a
 have s:=nC_sq (q:=(a:Rat)) (castn_nonneg a)
 rw [e,←Rat.natCast_mul,←Rat.natCast_mul] at s
 have s2:=Rat.natCast_inj.1 s
 generalize nN (a:Rat)=n at *
 have c0:0<c:=Nat.pos_of_ne_zero fun z=>by subst z;simp at s2;omega
 have:=Nat.mul_le_mul_right n (Nat.mul_pos c0 c0)
 omega
theorem nC_pos {q:Rat} (h0:0≤q) (h:q≠0):0<nC q:=by
 refine Rat.lt_of_le_of_ne (nC_nonneg q) fun z=>h ?_
 have:=nC_sq h0
 rw [←z] at this;rw [←this];grind
theorem nrm_rl {q:Rat} (h0:0≤q) (h:q≠0):Rl ((nN q:Nat):Rat) q:=Rl.symm ⟨nC q,nC_pos h0 h,(nC_sq h0).symm⟩
structure Ns (D M R:Nat) (t:Tm):Prop where
 c:J D M t.1
 r:∃ a:Nat,t.2=(a:Rat)∧a≤R
theorem Ns.up {D M R M' R':Nat} {t:Tm} (h:Ns D M R t) (hM:M≤M') (hR:R≤R'):Ns D M' R' t :=
 ⟨h.c.up hM,by obtain ⟨a,e,l⟩:=h.r;exact ⟨a,e,Nat.le_trans l hR⟩⟩
theorem Ns.nn {D M R:Nat} {t:Tm} (h:Ns D M R t):0≤t.2:=by obtain ⟨a,e,_⟩:=h.r;rw [e];exact castn_nonneg a
theorem co_J {D M R b:Nat} {t:Tm} (h:Ns D M R t) (hb:0<b):J (D*b) (M*(R*b)) (co (b:Rat) t):=by
 obtain ⟨x,q⟩:=t
 obtain ⟨a,e,l⟩:=h.r
 have e':q=(a:Rat):=e
 subst e'
 unfold co
 split
 ·rename_i k
  exact (h.c.mul (J.root hb k)).up (Nat.mul_le_mul_left _ (Nat.mul_le_mul_right _ l))
 ·exact J.zero _ _
theorem vl_J {D M:Nat} {m:Rat}:∀ {l:List Tm},(∀ t∈l,J D M (co m t))→J D (l.length*M) (vl m l)
 | [],_=>by rw [List.length_nil,Nat.zero_mul];exact J.zero _ _
 | t::l,h=>by
  have ih:=vl_J (l:=l) fun s hs=>h s (List.mem_cons_of_mem _ hs)
  have:=(h t List.mem_cons_self).add ih
  rw [List.length_cons,Nat.succ_mul,Nat.add_comm];exact this
theorem vl_raw {D M R b:Nat} {L:List Tm} (h:∀ t∈L,Ns D M R t) (hb:0<b):J (D*b) (L.length*(M*(R*b))) (vl (b:Rat) L):=vl_J fun t ht=>co_J (h t ht) hb
theorem co_small {D M R b:Nat} {t:Tm} (h:Ns D M R t) (hR:R<10000) (hb:Nrm b) (lb:b<10000):J D (M*R) (co (b:Rat) t):=by
 obtain ⟨x,q⟩:=t
 obtain ⟨a,e,l⟩:=h.r
 have e':q=(a:Rat):=e
 subst e'
 have b0:=nat_pos hb.1
 rcases Nat.eq_zero_or_pos a with z | z
 ·subst z
  rw [show (((0:Nat):Rat))=0 from rfl,co_null b0];exact J.zero _ _
 ·rw [←co_nrm b0 (x,(a:Rat)) (castn_nonneg a)]
  obtain ⟨c,ec,lc⟩:=nC_nat a
  have nn:=nrm_of (q:=(a:Rat)) (castn_nonneg a)
  have ln:=nN_le z
  show J D (M*R) (co (b:Rat) (x*nC (a:Rat),((nN (a:Rat):Nat):Rat)))
  generalize nN (a:Rat)=n at *
  by_cases k:bothS ((n:Rat) / (b:Rat))
  ·have:=nrm_ratio nn hb (by omega) lb k
   subst this
   rw [co_self _ b0,ec]
   have j:=h.c.mul (J.int (c:Int))
   rw [Rat.intCast_natCast,Int.natAbs_natCast,Nat.mul_one] at j
   exact j.up (Nat.mul_le_mul_left _ (Nat.le_trans lc l))
  ·unfold co
   rw [if_neg k];exact J.zero _ _
theorem vl_small {D M R b:Nat} {L:List Tm} (h:∀ t∈L,Ns D M R t) (hR:R<10000) (hb:Nrm b) (lb:b<10000):J D (L.length*(M*R)) (vl (b:Rat) L):=vl_J fun t ht=>co_small (h t ht) hR hb lb
def Cl (C:List Rat) (l:List Tm):Prop:=∀ t∈l,t.2≠0→∃ c∈C,Rl t.2 c
theorem Cl.both {C:List Rat} {l k:List Tm} (h:Cl C l) (h':Cl C k):Cl C (l++k):=fun t ht z=>(List.mem_append.1 ht).elim (fun m=>h t m z) fun m=>h' t m z
theorem Cl.perm {C:List Rat} {l k:List Tm} (h:Cl C l) (p:k.Perm l):Cl C k:=fun t ht z=>h t (p.subset ht) z
theorem Cl.neg {C:List Rat} {l:List Tm} (h:Cl C l) (k:Rat):Cl C (l.map (mulT k)):=fun t ht z=>by
 obtain ⟨s,hs,rfl⟩:=List.mem_map.1 ht
 exact h s hs z
theorem gth_src {g:List Tm} {s:Tm} (h:∀ t∈g,0≤t.2) (hs:s∈gth g):∃ t∈g,t.2≠0∧s.2=((nN t.2:Nat):Rat)∧Rl s.2 t.2:=by
 obtain ⟨t,ht,_,z,e⟩:=gth_root hs
 exact ⟨t,ht,z,e,by rw [e];exact nrm_rl (h t ht) z⟩
theorem Cl.gth {C:List Rat} {g:List Tm} (h:Cl C g) (h0:∀ t∈g,0≤t.2):Cl C (gth g):=fun s hs _=>by
 obtain ⟨t,ht,z,_,r⟩:=gth_src h0 hs
 obtain ⟨c,hc,r'⟩:=h t ht z
 exact ⟨c,hc,r.trans r'⟩
theorem Cl.fin {C:List Rat} {g:List Tm} (h:Cl C g) (h0:∀ t∈g,0≤t.2):Cl C (fin g):=fun s hs z=>h.gth h0 s (List.mem_filter.1 hs).1 z
theorem Cl.len {C:List Rat} {l:List Tm} (h:Cl C l) (r:Red l):l.length≤C.length:=by
 have:=red_len C (l.map (·.2)) (List.pairwise_map.2 r.2) fun s hs=>by
  obtain ⟨t,ht,rfl⟩:=List.mem_map.1 hs
  exact h t ht (by have:=r.1 t ht;grind)
 rwa [List.length_map] at this
theorem bq_cast {a k:Nat} (h:a<tenTo k) (hk:1≤k):Bq k ((a:Nat):Rat):=nat_Bq hk h
theorem gd_gen {g:List Tm} {C:List Rat} (hlen:g.length≤256) (hok:∀ t∈g,Bq 60 t.1∧∃ a:Nat,t.2=(a:Rat)∧a<tenTo 20)
  (hpre:∀ j,∀ s∈gth (g.take j),Bq 100 s.1) (hfin:∀ s∈fin g,Bq 60 s.1) (hcl:Cl C g) (hC:C.length≤16):Gd g:=by
 have h0:∀ t∈g,0≤t.2:=fun t ht=>by obtain ⟨_,a,e,_⟩:=hok t ht;rw [e];exact castn_nonneg a
 refine ⟨⟨hlen,fun t ht => ?_,fun t ht n1 n2 => ?_,fun j _ s hs=>⟨hpre j s hs,?_⟩⟩,Nat.le_trans ((hcl.fin h0).len (fin_red g)) hC,hfin⟩
 ·obtain ⟨b,a,e,l⟩:=hok t ht
  exact ⟨h0 t ht,by rw [e];exact bq_cast (Nat.lt_of_lt_of_le l (tenTo_mono (by decide))) (by decide),b.up (by decide)⟩
 ·obtain ⟨b,a,e,l⟩:=hok t ht
  have a0:0<a:=Nat.pos_of_ne_zero fun z=>n2 (by rw [e,z];rfl)
  obtain ⟨c,ec,lc⟩:=nC_nat a
  have bc:Bq 20 (nC t.2):=by rw [e,ec];exact bq_cast (Nat.lt_of_le_of_lt lc l) (by decide)
  refine ⟨bc.up (by decide),((qmul_ok b bc (by decide)).2.2).up (by decide),nN t.2,rfl,nrm_of (h0 t ht),?_⟩
  rw [e];exact Nat.lt_of_le_of_lt (nN_le a0) l
 ·obtain ⟨t,ht,z,e',_⟩:=gth_src (fun t ht=>h0 t (List.mem_of_mem_take ht)) hs
  obtain ⟨_,a,e,l⟩:=hok t (List.mem_of_mem_take ht)
  have a0:0<a:=Nat.pos_of_ne_zero fun z'=>z (by rw [e,z'];rfl)
  refine ⟨nN t.2,e',nrm_of (h0 t (List.mem_of_mem_take ht)),?_⟩
  rw [e];exact Nat.lt_of_le_of_lt (nN_le a0) l
theorem gth_own {g:List Tm} (h0:∀ t∈g,0≤t.2) {s:Tm} (hs:s∈gth g):s.1=vl s.2 g:=by
 rw [←gth_vl ((gth_red g).1 s hs) g h0,vl_own (gth_red g) hs]
theorem gth_rt {D M R:Nat} {g:List Tm} (h:∀ t∈g,Ns D M R t) {s:Tm} (hs:s∈gth g):∃ b:Nat,s.2=(b:Rat)∧Nrm b∧b≤R:=by
 obtain ⟨t,ht,z,e',_⟩:=gth_src (fun t ht=>(h t ht).nn) hs
 obtain ⟨a,e,l⟩:=(h t ht).r
 have a0:0<a:=Nat.pos_of_ne_zero fun z'=>z (by rw [e,z'];rfl)
 refine ⟨nN t.2,e',nrm_of (h t ht).nn,?_⟩
 rw [e];exact Nat.le_trans (nN_le a0) l
theorem gth_raw {D M R:Nat} {g:List Tm} (h:∀ t∈g,Ns D M R t) {s:Tm} (hs:s∈gth g):∃ b:Nat,s.2=(b:Rat)∧Nrm b∧b≤R∧J (D*b) (g.length*(M*(R*b))) s.1:=by
 obtain ⟨b,e,nb,lb⟩:=gth_rt h hs
 refine ⟨b,e,nb,lb,?_⟩
 rw [gth_own (fun t ht=>(h t ht).nn) hs,e]
 exact vl_raw h nb.1
theorem mul_le3 {k k' M R b:Nat} (hk:k≤k') (hb:b≤R):k*(M*(R*b))≤k'*(M*(R*R)):=Nat.mul_le_mul hk (Nat.mul_le_mul_left _ (Nat.mul_le_mul_left _ hb))
theorem gd_raw {D M R k:Nat} {g:List Tm} {C:List Rat} (h:∀ t∈g,Ns D M R t) (hD:0<D) (hR1:0<R) (hk:g.length≤k) (hk2:k≤256) (hR:R<tenTo 20)
  (h1:k*(M*(R*R))<tenTo 60) (h2:D*R<tenTo 60) (hcl:Cl C g) (hC:C.length≤16):Gd g:=by
 refine gd_gen (by omega) (fun t ht=>⟨?_,?_⟩) (fun j s hs => ?_) (fun s hs => ?_) hcl hC
 ·have k0:0<k:=by have:=List.length_pos_of_mem ht;omega
  refine (h t ht).c.bq hD (Nat.lt_of_le_of_lt ?_ h1) (Nat.lt_of_le_of_lt (Nat.le_mul_of_pos_right _ hR1) h2)
  exact Nat.le_trans (Nat.le_mul_of_pos_right M (Nat.mul_pos hR1 hR1)) (Nat.le_mul_of_pos_left _ k0)
 ·obtain ⟨a,e,l⟩:=(h t ht).r
  exact ⟨a,e,by omega⟩
 ·obtain ⟨b,_,nb,lb,jj⟩:=gth_raw (fun t ht=>h t (List.mem_of_mem_take ht)) hs
  have lt:(g.take j).length≤k:=by rw [List.length_take];omega
  exact (J.bq (Nat.mul_pos hD nb.1) jj (Nat.lt_of_le_of_lt (mul_le3 lt lb) h1) (Nat.lt_of_le_of_lt (Nat.mul_le_mul_left _ lb) h2)).up (by decide)
 ·obtain ⟨b,_,nb,lb,j⟩:=gth_raw h (List.mem_filter.1 hs).1
  exact J.bq (Nat.mul_pos hD nb.1) j (Nat.lt_of_le_of_lt (mul_le3 hk lb) h1) (Nat.lt_of_le_of_lt (Nat.mul_le_mul_left _ lb) h2)
def Kx (E N:Nat) (x:Rat):Prop:=∃ D,0<D∧D≤E∧J D N x
theorem Kx.zero {E N:Nat} (h:0<E):Kx E N 0:=⟨1,by decide,h,J.zero _ _⟩
theorem Kx.add {E N:Nat} {x y:Rat} (h:Kx E N x) (h':Kx E N y):Kx (E*E) (N*E+N*E) (x+y):=by
 obtain ⟨D,d0,dl,j⟩:=h
 obtain ⟨D',d0',dl',j'⟩:=h'
 refine ⟨D*D',Nat.mul_pos d0 d0',Nat.mul_le_mul dl dl',?_⟩
 have a:=(j.wide D').up (Nat.mul_le_mul_left N dl')
 have b:=(j'.wide D).up (Nat.mul_le_mul_left N dl)
 rw [Nat.mul_comm D' D] at b
 exact a.add b
theorem Kx.bq {E N k:Nat} {x:Rat} (h:Kx E N x) (h1:N<tenTo k) (h2:E<tenTo k):Bq k x:=by
 obtain ⟨D,d0,dl,j⟩:=h
 exact j.bq d0 h1 (by omega)
theorem vl_red {m:Rat} (hm:0<m):∀ {l:List Tm},Red l→vl m l=0∨∃ t∈l,vl m l=co m t
 | [],_ => .inl rfl
 | t::l,h=>by
  have hl:Red l:=⟨fun x hx=>h.1 x (List.mem_cons_of_mem _ hx),(List.pairwise_cons.1 h.2).2⟩
  have ht:=h.1 t List.mem_cons_self
  by_cases k:Rl m t.2
  ·refine .inr ⟨t,List.mem_cons_self,?_⟩
   show co m t+vl m l=_
   rw [vl_other hm hl.1 fun s hs r=>(List.pairwise_cons.1 h.2).1 s hs (k.symm.trans r)];grind
  ·have z:co m t=0:=co_rl t.1 hm ht fun r=>k r.symm
   rcases vl_red hm hl with e | ⟨s,hs,e⟩
   ·refine .inl ?_
    show co m t+vl m l=0
    rw [z,e];grind
   ·refine .inr ⟨s,List.mem_cons_of_mem _ hs,?_⟩
    show co m t+vl m l=_
    rw [z,e];grind
theorem Red.take {l:List Tm} (h:Red l) (j:Nat):Red (l.take j):=⟨fun s hs=>h.1 s (List.mem_of_mem_take hs),h.2.sublist (List.take_sublist j l)⟩
structure Ok (D M R Ln:Nat) (C:List Rat) (L l:List Tm):Prop where
 raw:∀ t∈L,Ns D M R t
 len:L.length≤Ln
 red:Red l
 l16:l.length≤16
 rt:∀ t∈l,∃ b:Nat,t.2=(b:Rat)∧Nrm b∧b≤R
 cl:Cl C l
 vl:∀ m,0<m→vl m l=vl m L
theorem Ok.J {D M R Ln:Nat} {C:List Rat} {L l:List Tm} (h:Ok D M R Ln C L l) {t:Tm} (ht:t∈l):∃ b:Nat,t.2=(b:Rat)∧Nrm b∧b≤R∧J (D*b) (Ln*(M*(R*b))) t.1:=by
 obtain ⟨b,e,nb,lb⟩:=h.rt t ht
 refine ⟨b,e,nb,lb,?_⟩
 rw [←vl_own h.red ht,h.vl _ (h.red.1 t ht),e]
 exact (vl_raw h.raw nb.1).up (Nat.mul_le_mul_right _ h.len)
theorem Ok.small {D M R Ln:Nat} {C:List Rat} {L l:List Tm} (h:Ok D M R Ln C L l) (hR:R<10000) {t:Tm} (ht:t∈l):Ns D (Ln*(M*R)) R t:=by
 obtain ⟨b,e,nb,lb⟩:=h.rt t ht
 refine ⟨?_,b,e,lb⟩
 rw [←vl_own h.red ht,h.vl _ (h.red.1 t ht),e]
 exact (vl_small h.raw hR nb (by omega)).up (Nat.mul_le_mul_right _ h.len)
theorem vl_mulT (m k:Rat):∀ l:List Tm,T.vl m (l.map (mulT k))=k*T.vl m l
 | []=>by show (0:Rat)=k*0;grind
 | t::l=>by
  show co m (t.1*k,t.2)+T.vl m (l.map (mulT k))=k*(co m t+T.vl m l)
  rw [vl_mulT m k l,Rat.mul_comm,co_mul];grind
theorem Red.mulT {l:List Tm} (h:Red l) (k:Rat):Red (l.map (mulT k)):=by
 refine ⟨fun s hs => ?_,List.pairwise_map.2 h.2⟩
 obtain ⟨t,ht,rfl⟩:=List.mem_map.1 hs
 exact h.1 t ht
theorem Ok.neg {D M R Ln:Nat} {C:List Rat} {L l:List Tm} (h:Ok D M R Ln C L l):Ok D M R Ln C (L.map (mulT (-1))) (l.map (mulT (-1))):=by
 refine ⟨fun t ht => ?_,by rw [List.length_map];exact h.len,h.red.mulT _,by rw [List.length_map];exact h.l16,fun t ht => ?_,h.cl.neg _,fun m hm => ?_⟩
 ·obtain ⟨s,hs,rfl⟩:=List.mem_map.1 ht
  exact ⟨(h.raw s hs).c.neg,(h.raw s hs).r⟩
 ·obtain ⟨s,hs,rfl⟩:=List.mem_map.1 ht
  exact h.rt s hs
 ·rw [vl_mulT,vl_mulT,h.vl m hm]
theorem Ok.up {D M R Ln M' Ln':Nat} {C:List Rat} {L l:List Tm} (h:Ok D M R Ln C L l) (hM:M≤M') (hL:Ln≤Ln'):Ok D M' R Ln' C L l :=
 ⟨fun t ht=>(h.raw t ht).up hM (Nat.le_refl _),Nat.le_trans h.len hL,h.red,h.l16,h.rt,h.cl,h.vl⟩
structure Nb (D M R Ln:Nat):Prop where
 d0:0<D
 r0:0<R
 r:R<tenTo 20
 dr:D*R*R<tenTo 50
 n:(Ln*(M*(R*R))*(R*R)*(D*R*R))+(Ln*(M*(R*R))*(R*R)*(D*R*R))<tenTo 100
 f:Ln*(M*(R*R))<tenTo 60
theorem Ok.kx {D M R Ln:Nat} {C:List Rat} {L l:List Tm} (h:Ok D M R Ln C L l) (nb:Nb D M R Ln) {b:Nat} (hb:Nrm b) (lb:b≤R) (j:Nat):Kx (D*R*R) (Ln*(M*(R*R))*(R*R)) (T.vl (b:Rat) (l.take j)):=by
 rcases vl_red (nat_pos hb.1) (h.red.take j) with e | ⟨t,ht,e⟩
 ·rw [e];exact Kx.zero (Nat.mul_pos (Nat.mul_pos nb.d0 nb.r0) nb.r0)
 ·rw [e]
  obtain ⟨a,ea,na,la,ja⟩:=h.J (List.mem_of_mem_take ht)
  have n:Ns (D*a) (Ln*(M*(R*R))) R t:=⟨ja.up (mul_le3 (Nat.le_refl _) la),a,ea,la⟩
  have c:=co_J n hb.1
  exact ⟨D*a*b,Nat.mul_pos (Nat.mul_pos nb.d0 na.1) hb.1,Nat.mul_le_mul (Nat.mul_le_mul_left _ la) lb,c.up (Nat.mul_le_mul_left _ (Nat.mul_le_mul_left _ lb))⟩
theorem tenTo_up {x j k:Nat} (h:x<tenTo j) (hk:j≤k):x<tenTo k:=Nat.lt_of_lt_of_le h (tenTo_mono hk)
theorem Ok.bq {D M R Ln:Nat} {C:List Rat} {L l:List Tm} (h:Ok D M R Ln C L l) (nb:Nb D M R Ln) {t:Tm} (ht:t∈l):Bq 60 t.1:=by
 obtain ⟨b,_,nr,lb,j⟩:=h.J ht
 refine J.bq (Nat.mul_pos nb.d0 nr.1) j (Nat.lt_of_le_of_lt (mul_le3 (Nat.le_refl _) lb) nb.f) (tenTo_up (Nat.lt_of_le_of_lt ?_ nb.dr) (by decide))
 exact Nat.le_trans (Nat.mul_le_mul_left _ lb) (Nat.le_mul_of_pos_right _ nb.r0)
theorem Ok.fin {D M R Ln:Nat} {C:List Rat} {L g r:List Tm} (raw:∀ t∈L,Ns D M R t) (len:L.length≤Ln) (rt:∀ t∈g,∃ b:Nat,t.2=(b:Rat)∧b≤R) (hv:∀ m,0<m→T.vl m g=T.vl m L) (hg:Gd g) (cl:Cl C g) (hp:r.Perm (fin g)):Ok D M R Ln C L r:=by
 have h0:∀ t∈g,0≤t.2:=fun t ht=>by obtain ⟨b,e,_⟩:=rt t ht;rw [e];exact castn_nonneg b
 refine ⟨raw,len,(fin_red g).perm hp.symm,by rw [hp.length_eq];exact hg.len,fun t ht => ?_,(cl.fin h0).perm hp,fun m hm=>by rw [vl_perm hp,fin_vl hm g h0,hv m hm]⟩
 obtain ⟨s,hs,z,e',_⟩:=gth_src h0 (List.mem_filter.1 (hp.subset ht)).1
 obtain ⟨b,e,l⟩:=rt s hs
 have b0:0<b:=Nat.pos_of_ne_zero fun z'=>z (by rw [e,z'];rfl)
 refine ⟨nN s.2,e',nrm_of (h0 s hs),?_⟩
 rw [e];exact Nat.le_trans (nN_le b0) l
theorem rt_app {R:Nat} {l k:List Tm} (h:∀ t∈l,∃ b:Nat,t.2=(b:Rat)∧Nrm b∧b≤R) (h':∀ t∈k,∃ b:Nat,t.2=(b:Rat)∧Nrm b∧b≤R):∀ t∈l++k,∃ b:Nat,t.2=(b:Rat)∧b≤R:=fun t ht=>by
 rcases List.mem_append.1 ht with ht | ht
 ·obtain ⟨b,e,_,l⟩:=h t ht;exact ⟨b,e,l⟩
 ·obtain ⟨b,e,_,l⟩:=h' t ht;exact ⟨b,e,l⟩
theorem Ok.add {D M R Ln:Nat} {C C':List Rat} {L l K k:List Tm} (h:Ok D M R Ln C L l) (h':Ok D M R Ln C' K k) (nb:Nb D M R Ln) (nf:(Ln+Ln)*(M*(R*R))<tenTo 60) {C2:List Rat} (hC:C2.length≤16) (hcl:Cl C2 (l++k)) :
  Gd (l++k)∧∀ r,r.Perm (T.fin (l++k))→Ok D M R (Ln+Ln) C2 (L++K) r:=by
 have rt:=rt_app h.rt h'.rt
 have h0:∀ t∈l++k,0≤t.2:=fun t ht=>by obtain ⟨b,e,_⟩:=rt t ht;rw [e];exact castn_nonneg b
 have raw:∀ t∈L++K,Ns D M R t:=fun t ht=>(List.mem_append.1 ht).elim (h.raw t) (h'.raw t)
 have len:(L++K).length≤Ln+Ln:=by have:=h.len;have:=h'.len;rw [List.length_append];omega
 have hv:∀ m,0<m→T.vl m (l++k)=T.vl m (L++K):=fun m hm=>by rw [vl_append,vl_append,h.vl m hm,h'.vl m hm]
 have src:∀ {g:List Tm},(∀ t∈g,t∈l++k)→∀ s∈gth g,∃ b:Nat,s.2=(b:Rat)∧Nrm b∧b≤R:=fun {g} hg s hs=>by
  obtain ⟨t,ht,z,e',_⟩:=gth_src (fun t ht=>h0 t (hg t ht)) hs
  obtain ⟨b,e,l⟩:=rt t (hg t ht)
  have b0:0<b:=Nat.pos_of_ne_zero fun z'=>z (by rw [e,z'];rfl)
  refine ⟨nN t.2,e',nrm_of (h0 t (hg t ht)),?_⟩
  rw [e];exact Nat.le_trans (nN_le b0) l
 have gd:Gd (l++k):=by
  refine gd_gen (by have:=h.l16;have:=h'.l16;rw [List.length_append];omega) (fun t ht=>⟨?_,?_⟩) (fun j s hs => ?_) (fun s hs => ?_) hcl hC
  ·exact (List.mem_append.1 ht).elim (fun m=>h.bq nb m) fun m=>h'.bq nb m
  ·obtain ⟨b,e,l⟩:=rt t ht
   have:=nb.r
   exact ⟨b,e,by omega⟩
  ·obtain ⟨b,e,nr,lb⟩:=src (fun t ht=>List.mem_of_mem_take ht) s hs
   rw [gth_own (fun t ht=>h0 t (List.mem_of_mem_take ht)) hs,e,List.take_append,vl_append]
   have a:=(h.kx nb nr lb j).add (h'.kx nb nr lb (j - l.length))
   refine a.bq nb.n ?_
   have:=Nat.mul_lt_mul'' nb.dr nb.dr
   exact Nat.lt_of_lt_of_eq this (by rw [←tenTo_add])
  ·have hm:=(List.mem_filter.1 hs).1
   obtain ⟨b,e,nr,lb⟩:=src (fun t ht=>ht) s hm
   rw [gth_own h0 hm,e,hv _ (nat_pos nr.1)]
   refine J.bq (Nat.mul_pos nb.d0 nr.1) (vl_raw raw nr.1) (Nat.lt_of_le_of_lt (mul_le3 len lb) nf) (tenTo_up (Nat.lt_of_le_of_lt ?_ nb.dr) (by decide))
   exact Nat.le_trans (Nat.mul_le_mul_left _ lb) (Nat.le_mul_of_pos_right _ nb.r0)
 exact ⟨gd,fun r hp=>Ok.fin raw len rt hv gd hcl hp⟩
def prods (l k:List Tm):List Tm:=l.flatMap fun t=>k.map fun s=>(t.1*s.1,t.2*s.2)
theorem prods_len (k:List Tm):∀ l:List Tm,(prods l k).length=l.length*k.length
 | []=>by rw [List.length_nil,Nat.zero_mul];rfl
 | t::l=>by
  show (k.map _++prods l k).length=_
  rw [List.length_append,List.length_map,prods_len k l,List.length_cons,Nat.succ_mul,Nat.add_comm]
theorem prods_mem {l k:List Tm} {x:Tm} (h:x∈prods l k):∃ t∈l,∃ s∈k,x=(t.1*s.1,t.2*s.2):=by
 obtain ⟨t,ht,h⟩:=List.mem_flatMap.1 h
 obtain ⟨s,hs,rfl⟩:=List.mem_map.1 h
 exact ⟨t,ht,s,hs,rfl⟩
def prC (C C':List Rat):List Rat:=C.flatMap fun c=>C'.map fun d=>c*d
theorem Rl.mul {x y u v:Rat} (h:Rl x u) (k:Rl y v):Rl (x*y) (u*v):=by
 obtain ⟨r,r0,rfl⟩:=h
 obtain ⟨s,s0,rfl⟩:=k
 exact ⟨r*s,Rat.mul_pos r0 s0,by grind⟩
theorem Cl.prods {C C':List Rat} {l k:List Tm} (h:Cl C l) (h':Cl C' k):Cl (prC C C') (prods l k):=fun x hx z=>by
 obtain ⟨t,ht,s,hs,rfl⟩:=prods_mem hx
 obtain ⟨c,hc,r⟩:=h t ht fun e=>z (by show t.2*s.2=0;rw [e];grind)
 obtain ⟨d,hd,r'⟩:=h' s hs fun e=>z (by show t.2*s.2=0;rw [e];grind)
 exact ⟨c*d,List.mem_flatMap.2 ⟨c,hc,List.mem_map.2 ⟨d,hd,rfl⟩⟩,r.mul r'⟩
theorem fin_nil {g:List Tm} (h0:∀ t∈g,0≤t.2) (z:∀ m,0<m→T.vl m g=0):T.fin g = []:=vl_nil (fin_red g) (fun _ ht=>fin_ne ht) fun m hm=>by rw [fin_vl hm g h0,z m hm]
theorem diff_nil {l k:List Tm} (h:∀ t∈l,0≤t.2) (h':∀ t∈k,0≤t.2) (e:∀ m,0<m→T.vl m l=T.vl m k):T.fin (l++k.map (mulT (-1))) = []:=by
 refine fin_nil (fun t ht => ?_) fun m hm => ?_
 ·rcases List.mem_append.1 ht with ht | ht
  ·exact h t ht
  ·obtain ⟨s,hs,rfl⟩:=List.mem_map.1 ht
   exact h' s hs
 ·rw [vl_append,vl_mulT,e m hm];grind
theorem Nrm.one {b:Nat} (h:Nrm b) (r:Rl (b:Rat) 1):b=1:=by
 obtain ⟨x,x0,e⟩:=r
 have:=(nN_one (q:=(b:Rat)) (castn_nonneg b)).2 ⟨x,by rw [e];grind⟩
 have h2:=h.2.2
 omega
end Go.Proofs.YtjdfjgfdbgmbiaaGreatDoor.T
namespace Go.Proofs.YtjdfjgfdbgmbiaaGreatDoor.T
open Go.Proofs.YtjdfjgfdbgmbiaaGreatDoor Go Go.RowKit
theorem tat_map (l:List Tm):(List.range l.length).map (tat l)=l:=by
 refine List.ext_getElem (by simp) fun i h1 h2 => ?_
 simp [tat_get h2]
def rowZ (l k:List Tm) (j i:Nat):List Value:=(List.range i).flatMap fun i=>tc ((tat l j).1*(tat k i).1,(tat l j).2*(tat k i).2)
def zsP (l k:List Tm) (j i:Nat):List Value:=((List.range j).flatMap fun j=>rowZ l k j k.length)++rowZ l k j i
theorem rowZ_all (l k:List Tm) (j:Nat):rowZ l k j k.length=tcs (k.map fun s=>((tat l j).1*s.1,(tat l j).2*s.2)):=by
 unfold rowZ tcs
 conv=>rhs;rw [←tat_map k]
 rw [List.map_map,List.flatMap_map];rfl
theorem zsP_all (l k:List Tm):zsP l k l.length 0=tcs (prods l k):=by
 unfold zsP prods
 conv=>rhs;rw [←tat_map l]
 rw [List.flatMap_map,show rowZ l k l.length 0 = [] from rfl,List.append_nil]
 unfold tcs
 rw [List.flatMap_assoc]
 congr 1
 funext j
 exact rowZ_all l k j
theorem Su.at {W:World} {p:Option Addr} {n c:Nat} {l:List Tm} (h:Su W p n c l):∃ b,(0<n→p=some ⟨b,0,none⟩)∧(0<n→Tl W b l):=by
 rcases Nat.eq_zero_or_pos n with z | z
 ·exact ⟨0,fun k=>by omega,fun k=>by omega⟩
 ·have hn:=h.sr.1
  obtain ⟨b,e,t⟩:=h.sr.rd (by omega)
  exact ⟨b,fun _=>e,fun _=>t⟩
theorem Mul_ok (l k:List Tm) (p p':Option Addr) (n n' c c':Nat) (w:World) (h:Su w p n c l) (h':Su w p' n' c' k) (hg:Gd (prods l k)) (ht:Tab w) (ht2:Tab64 w) (hS:Sm w) :
  Calls Tryz.prog 25 #[.slice p n c,.slice p' n' c'] w fun e W'=>Rs (prods l k) w.heap.size w e W':=by
 obtain ⟨b,e1,t1⟩:=h.at
 obtain ⟨b',e2,t2⟩:=h'.at
 have n1:=h.sr.1
 have n2:=h'.sr.1
 refine (Mul_core p p' b b' n n' c c' w e1 e2 h.le h'.le (fun v W'=>Rs (prods l k) w.heap.size w (.returned (.tuple #[v,.int .i64 0])) W') (fun j=>strQ (tat l j).1) (fun j=>strQ (tat l j).2) (fun j=>strQ (tat k j).1) (fun j=>strQ (tat k j).2)
  (fun j i=>strQ ((tat l j).1*(tat k i).1)) (fun j i=>strQ ((tat l j).2*(tat k i).2)) (zsP l k) (fun z=>(t1 z).lt) (fun z=>(t2 z).lt)
  (fun j hj=>⟨(t1 (by omega)).c0 j (by omega),(t1 (by omega)).c1 j (by omega)⟩) (fun j hj=>⟨(t2 (by omega)).c0 j (by omega),(t2 (by omega)).c1 j (by omega)⟩)
  rfl (fun j i => ?_) (fun j => ?_) (fun j i hj hi W hW => ?_) (fun v W ho hW => ?_) (fun W b1 hW hb => ?_)).mono fun e W' h=>Rs.to h
 ·unfold zsP rowZ
  rw [List.range_succ,List.flatMap_append,List.append_assoc];rfl
 ·unfold zsP
  rw [List.range_succ,List.flatMap_append,n2,show rowZ l k (j+1) 0 = [] from rfl,List.append_nil]
  simp
 ·obtain ⟨_,b1,x,ex,_,lx⟩:=h.good.ok _ (tat_mem (l:=l) (j:=j) (by omega))
  obtain ⟨_,b2,y,ey,_,ly⟩:=h'.good.ok _ (tat_mem (l:=k) (j:=i) (by omega))
  have b3:Bq 40 (tat l j).2:=by rw [ex];exact bqN lx (by decide)
  have b4:Bq 40 (tat k i).2:=by rw [ey];exact bqN ly (by decide)
  refine product_core _ _ _ _ _ _ W (fun W2 h2 => ?_) (fun W2 h2 => ?_)
  ·have m1:=qmul_ok b1 b2 (by decide)
   have c:=Mul_q (tat l j).1 (tat k i).1 W2 (b1.lim (by decide)) (b2.lim (by decide)) ((ht.next hW).next h2) (TabQ_next (TabQ_next ht2 hW) h2)
   rwa [m1.1,m1.2.1] at c
  ·have m1:=qmul_ok b3 b4 (by decide)
   have c:=Mul_q (tat l j).2 (tat k i).2 W2 (b3.lim (by decide)) (b4.lim (by decide)) ((ht.next hW).next h2) (TabQ_next (TabQ_next ht2 hW) h2)
   rwa [m1.1,m1.2.1] at c
 ·have e:n*n'=(prods l k).length:=by rw [prods_len,n1,n2]
  have o:Ow W w.heap.size 50 v (prods l k):=by
   unfold Ow
   rw [←zsP_all,←n1,←e];exact ho
  obtain ⟨q,d,rfl,rd,_⟩:=o.rd
  exact (gathered_su _ hg q _ d W rfl rd (ht.next hW) (TabQ_next ht2 hW) (hS.next hW)).mono fun e W'' r=>r.of hW hW.size
 ·exact areSurds_2 b1 p p' n c n' c' l k W hb (h.next hW).sd (h'.next hW).sd (ht.next hW) (TabQ_next ht2 hW) (hS.next hW)
def vI:List Tm→Bool
 | []=>true
 | [t]=>decide (t.2=1)
 | _=>false
def vS:List Tm→ByteArray
 | []=>⟨#[48]⟩
 | [t]=>if t.2=1 then strQ t.1 else ⟨#[]⟩
 | _=>⟨#[]⟩
theorem is1Q (x:Rat):((strQ x).toList == [49])=decide (x=1):=by
 have e1:(strQ 1).toList = [49]:=by rw [strQ_one,ByteArray.toList_eq]
 by_cases h:x=1
 ·rw [decide_eq_true h,h,e1];rfl
 ·rw [decide_eq_false h]
  have:=strN_ne h
  rwa [e1] at this
theorem Value_ok (l:List Tm) (p:Option Addr) (n c:Nat) (w:World) (h:Su w p n c l) (ht:Tab w) (ht2:Tab64 w) (hS:Sm w) :
  Calls Tryz.prog 34 #[.slice p n c] w fun e W'=>e = .returned (.tuple #[.string (vS l),.bool (vI l),.int .i64 0])∧Below w.heap.size w W':=by
 have hA:=fun W b (hW:Below w.heap.size w W) (hb:Blk W b #[.slice p n c])=>areSurds_1 b p n c l W hb (h.next hW).sd (ht.next hW) (TabQ_next ht2 hW) (hS.next hW)
 have hn:=h.sr.1
 obtain ⟨b,e1,t1⟩:=h.at
 match l,h,hn,t1 with
 | [],_,hn,_ =>
  have z:n=0:=hn
  subst z
  exact Value_nil p c w hA
 | [t],_,hn,t1 =>
  have z:n=1:=hn
  subst z
  have e2:=e1 (by decide)
  subst e2
  have c0:=(t1 (by decide)).c0 0 (by simp)
  have c1:=(t1 (by decide)).c1 0 (by simp)
  have:=Value_one b c (strQ t.1) (strQ t.2) (decide (t.2=1)) w hA (is1Q t.2) ⟨c0,c1⟩
  refine this.mono fun e W' ⟨e3,b3⟩=>⟨?_,b3⟩
  rw [e3]
  unfold vS vI
  by_cases k:t.2=1 <;> simp [k]
 | t::s::l,_,hn,_ =>
  have z:2≤n:=by rw [hn];simp
  exact Value_more p n c w hA z
end Go.Proofs.YtjdfjgfdbgmbiaaGreatDoor.T
