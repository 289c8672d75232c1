/- Parts of the proof. -/
import Derived.Laws.MakeOwn
import Derived.Test.YtbhbhlfkdlfimaaGreatDoorQX24
set_option linter.all false
set_option maxRecDepth 100000
set_option maxHeartbeats 8000000
namespace Go.Proofs.YtbhbhlfkdlfimaaGreatDoor
namespace T
open Go.RowKit
theorem BH (W:World) (x y:ByteArray) (t:TypeId):Ap (W.alloc (.cells #[.string x,.string y] t)) (some ⟨W.heap.size,0,none⟩) 1 1 [.string x,.string y]:=by
 refine ⟨rfl,fun u hu => ?_,.inr ⟨_,rfl,fun j u hu => ?_⟩⟩
 ·simp at hu
  rcases hu with rfl | rfl <;> rfl
 ·have hk:=Blk.new W #[.string x,.string y] t
  have ha:(⟨W.heap.size,0,none⟩:Addr).add j=⟨W.heap.size,j,none⟩:=by unfold Addr.add;split <;> simp_all
  rw [ha]
  refine hk.cell j u ?_
  simpa using hu
theorem zM (W:World) (x y:ByteArray) (t:TypeId) (q:Nat) (u:Value) (hu : [Value.string x,.string y][q]? = some u):(W.alloc (.cells #[.string x,.string y] t)).cell? ((⟨W.heap.size,0,none⟩:Addr).add q)=some u:=by
 rcases (BH W x y t).2.2 with ⟨h,_⟩ | ⟨bb,h,k⟩
 ·cases h
 ·cases h;exact k q u hu
theorem BI (p p':Option Addr) (b b' n n' c c':Nat) (w:World) (hp:0<n→p=some ⟨b,0,none⟩) (hp':0<n'→p'=some ⟨b',0,none⟩) (h1:n≤16) (h2:n'≤16) (Q:Value→World→Prop) (ac ar bc br:Nat→ByteArray) (pc pr:Nat→Nat→ByteArray) (zs:Nat→Nat→List Value) (hb:0<n→b<w.heap.size) (hb':0<n'→b'<w.heap.size)
  (hc:∀ j,j<n→w.cell? ⟨b,j*2,none⟩=some (.string (ac j))∧w.cell? ⟨b,j*2+1,none⟩=some (.string (ar j)))
  (hd:∀ j,j<n'→w.cell? ⟨b',j*2,none⟩=some (.string (bc j))∧w.cell? ⟨b',j*2+1,none⟩=some (.string (br j)))
  (hz0:zs 0 0 = []) (hz1:∀ j i,zs j (i+1)=zs j i ++ [.string (pc j i),.string (pr j i)]) (hz2:∀ j,zs (j+1) 0=zs j n')
  (hP:∀ j i,j<n→i<n'→∀ W,Below w.heap.size w W→Calls Tryz.prog 68 #[.agg #[.string (ac j),.string (ar j)],.agg #[.string (bc i),.string (br i)]] W fun e W'=>e = .returned (.agg #[.string (pc j i),.string (pr j i)])∧Below W.heap.size W W')
  (hG:∀ v W,W.ownsRow w.heap.size 43 2 v (n*n') (zs n 0)→Below w.heap.size w W→Calls Tryz.prog 69 #[v] W fun e W''=>∃ v,e = .returned (.tuple #[v,.int .i64 0])∧Q v W'')
  (hA:∀ W b1,Below w.heap.size w W→Blk W b1 #[.slice p n c,.slice p' n' c']→Calls Tryz.prog 67 #[.slice (some ⟨b1,0,none⟩) 2 2] W fun e W'=>e = .returned (.bool true)∧Below W.heap.size W W') :
  Calls Tryz.prog 26 #[.slice p n c,.slice p' n' c'] w fun e W'=>∃ v,e = .returned (.tuple #[v,.int .i64 0])∧Q v W':=by
 have O:=Ha hA;clear hA
 have HP:=Ha (Hb hp hp');clear hp hp'
 have C:=Ha (Hb hb (Hb hb' (Hb hc hd)));have Z:=Ha (Hb hz0 (Hb hz1 hz2));have P:=Ha hP;have G:=Ha hG;clear hb hb' hc hd hz0 hz1 hz2 hP hG
 have hnn:n*n'≤256:=Nat.mul_le_mul h1 h2
 obtain ⟨N,hN⟩:∃ N,N=n*n':=⟨_,rfl⟩
 have hNi:(n:Int)*(n':Int)=(N:Int):=by rw [hN,Int.natCast_mul]
 rw [←hN] at hnn
 have HNN:=Ha hN;clear hN
 go_enter Tryz.func26,Tryz.ntmps26
 go_wp2_with fail
 refine (O.out _ _ ((Below.refl _ w).alloc (Nat.le_refl _) _) (Blk.new w _ _)).mono ?_
 rintro e W1 ⟨rfl,bb⟩
 have B1:=Ha (((Below.refl _ w).alloc (Nat.le_refl _) (.cells #[.slice p n c,.slice p' n' c'] 45)).trans (bb.mono (by simp)))
 clear bb
 obtain ⟨i0,hi,hz0,hz1,hz2⟩:=info_parts fq
 obtain ⟨W2,hr,ho,hg⟩:=run_make_own (P:=Tryz.prog) W1 w.heap.size 44 43 i0 _ 2 Tryz.underlying44 hi hz0 hz1 .i64 .i64 N (by rw [hz2];omega) (by unfold maxLen;omega) B1.out.size
 have B2:=Ha (Hb ho (B1.out.grown hg B1.out.size (fun k hk=>by cases hk)))
 clear hi hz0 hz1 hz2 ho hg
 go_wp2_with fail
 clear hr
 generalize W1.heap.size=g1 at *
 clear B1 O
 go_loopw [6,24] (fun x y wr=>∃ j:Nat,x = .slice (some ⟨g1,0,none⟩) (j*n') N∧y = .int .i64 j∧j≤n∧Hid (wr.ownsRow w.heap.size 43 2 (.slice (some ⟨g1,0,none⟩) (j*n') N) (j*n') (zs j 0)∧Below w.heap.size w wr)) (fun _ y _=>n - (intOf y).toNat)
 case atStart=>exact ⟨0,by rw [Nat.zero_mul],rfl,by omega,by rw [Nat.zero_mul,Z.out.1];exact B2.out⟩
 case round =>
  clear B2
  obtain ⟨j,rfl,rfl,hj,HI⟩:=hrel
  by_cases hlt:j<n
  ·have hz:(j:Int)<n:=by omega
   obtain rfl:=HP.out.1 (by omega)
   have hb0:=C.out.1 (by omega)
   have d0:wr.cell? ⟨b,j*2,none⟩=some (.string (ac j)):=(HI.out.2.cell (p:=⟨b,j*2,none⟩) hb0).trans (C.out.2.2.1 j hlt).1
   have d1:wr.cell? ⟨b,j*2+1,none⟩=some (.string (ar j)):=(HI.out.2.cell (p:=⟨b,j*2+1,none⟩) hb0).trans (C.out.2.2.1 j hlt).2
   have hP:=Ha (fun i=>P.out j i hlt)
   clear hb0
   generalize ac j=acj at *
   generalize ar j=arj at *
   go_wp2
   have hgk:=(HI.out.1.lt g1 rfl).1
   have hgl:=Ha (show g1<wr.heap.size from (HI.out.1.lt g1 rfl).2)
   clear hgk
   have HN:=Ha (Hb (HI.out.1.alloc (.cells #[.string acj,.string arj] 43)) (Hb (HI.out.2.alloc HI.out.2.size (.cells #[.string acj,.string arj] 43)) (Blk.new wr #[.string acj,.string arj] 43)))
   generalize wr.alloc (.cells #[.string acj,.string arj] 43)=u at *
   generalize wr.heap.size=k at *
   clear HI d0 d1
   go_loopw [6,30] (fun x y wr=>∃ i:Nat,x = .slice (some ⟨g1,0,none⟩) (j*n'+i) N∧y = .int .i64 i∧i≤n'∧Hid (wr.ownsRow w.heap.size 43 2 (.slice (some ⟨g1,0,none⟩) (j*n'+i) N) (j*n'+i) (zs j i)∧Below w.heap.size w wr∧Blk wr k #[.string acj,.string arj])) (fun _ y _=>n' - (intOf y).toNat)
   case atStart=>exact ⟨0,rfl,rfl,by omega,HN.out.1,HN.out.2⟩
   case round =>
    clear HN
    obtain ⟨i,rfl,rfl,hi,HJ⟩:=hrel
    by_cases hlt2:i<n'
    ·have hz2:(i:Int)<n':=by omega
     obtain rfl:=HP.out.2 (by omega)
     have hb1:=C.out.2.1 (by omega)
     have p0:wr.cell? ⟨b',i*2,none⟩=some (.string (bc i)):=(HJ.out.2.1.cell (p:=⟨b',i*2,none⟩) hb1).trans (C.out.2.2.2 i hlt2).1
     have p1:wr.cell? ⟨b',i*2+1,none⟩=some (.string (br i)):=(HJ.out.2.1.cell (p:=⟨b',i*2+1,none⟩) hb1).trans (C.out.2.2.2 i hlt2).2
     have hP2:=Ha (hP.out i hlt2)
     clear hb1
     have hz3:=Ha (Z.out.2.1 j i)
     generalize bc i=bci at *
     generalize br i=bri at *
     generalize pc j i=pcji at *
     generalize pr j i=prji at *
     have HN:=Ha (Hb (HJ.out.1.alloc (.cells #[.string bci,.string bri] 43)) (Hb (HJ.out.2.1.alloc HJ.out.2.1.size (.cells #[.string bci,.string bri] 43)) (HJ.out.2.2.alloc (.cells #[.string bci,.string bri] 43))))
     have e0:(wr.alloc (.cells #[.string bci,.string bri] 43)).cell? ⟨k,0,none⟩=some (.string acj):=HN.out.2.2.cell 0 _ rfl
     have e1:(wr.alloc (.cells #[.string bci,.string bri] 43)).cell? ⟨k,1,none⟩=some (.string arj):=HN.out.2.2.cell 1 _ rfl
     have f0:(wr.alloc (.cells #[.string bci,.string bri] 43)).cell? ⟨wr.heap.size,0,none⟩=some (.string bci):=(Blk.new wr #[.string bci,.string bri] 43).cell 0 _ rfl
     have f1:(wr.alloc (.cells #[.string bci,.string bri] 43)).cell? ⟨wr.heap.size,1,none⟩=some (.string bri):=(Blk.new wr #[.string bci,.string bri] 43).cell 1 _ rfl
     go_wp2_with fail
     refine (hP2.out _ HN.out.2.1).mono ?_
     rintro e w3 ⟨rfl,bd⟩
     have HM:=Ha (Hb (py HN.out.1 bd) (Hb (HN.out.2.1.trans (bd.mono HN.out.2.1.size)) (HN.out.2.2.next bd)))
     have hjn:=Ha (show j*n'≤256 from Nat.mul_le_mul (show j≤16 by omega) h2)
     clear e0 e1 f0 f1 HN bd
     have hfit:j*n'+i+1≤N:=by
      have e1:=Nat.mul_le_mul_right n' (show j+1≤n by omega)
      rw [Nat.succ_mul,←HNN.out] at e1
      omega
     obtain ⟨i1,hi1,hy0,hy1,hy2⟩:=info_parts fq
     go_wp2_with (at_builtin;refine wpList_append_fits _ rfl _ _ 44 rfl w.heap.size 43 i1 2 Tryz.underlying44 hi1 hy1 g1 (j*n'+i) N _ rfl (HM.out.1.alloc _) ⟨w3.heap.size,0,none⟩ 1 1 [.string pcji,.string prji] rfl rfl (zM w3 pcji prji _) (BH w3 pcji prji 43).2.1 hfit ?_;intro w4 q1 q2;have HO:=Ha (Hb q1 q2);clear q1 q2)
     go_roundw
     case rel =>
      have o:=HO.out.1
      rw [←hz3.out] at o
      have gl:=hgl.out
      have kl:=(HM.out.2.2.lt)
      refine ⟨i+1,rfl,by go_num,by omega,Ha ⟨o,(HM.out.2.1.alloc HM.out.2.1.size (.cells #[.string pcji,.string prji] 43)).grown HO.out.2 ?_ ?_,rc (HM.out.2.2.alloc (.cells #[.string pcji,.string prji] 43)) HO.out.2 ?_⟩⟩
      ·exact (HM.out.2.1.alloc HM.out.2.1.size (.cells #[.string pcji,.string prji] 43)).size
      ·intro q hq;cases hq;exact (HM.out.1.lt g1 rfl).1
      ·intro hq;have:=Option.some.inj hq;omega
     case measure=>simp [intOf];omega
    ·have ei:i=n':=by omega
     have hz2:¬ (i:Int)<n':=by omega
     rw [ei] at HJ
     have HR:=Ha (Z.out.2.2 j)
     have HJ2:Hid (wr.ownsRow w.heap.size 43 2 (.slice (some ⟨g1,0,none⟩) ((j+1)*n') N) ((j+1)*n') (zs (j+1) 0)∧Below w.heap.size w wr):=by
      have h1:=HJ.out.1
      rw [←HR.out,←Nat.succ_mul] at h1
      exact Ha ⟨h1,HJ.out.2.1⟩
     have ex:=Ha (show j*n'+i=(j+1)*n' by rw [ei,Nat.succ_mul])
     clear ei hlt2 hi HJ
     go_wp2
     go_roundw
     case rel=>exact ⟨j+1,by rw [ex.out],by go_num,by omega,HJ2⟩
     case measure=>simp [intOf];omega
  ·have ej:j=n:=by omega
   have hz:¬ (j:Int)<n:=by omega
   have HG:=Ha (G.out (.slice (some ⟨g1,0,none⟩) (j*n') N) wr (by have:=HI.out.1;rw [ej] at this ⊢; exact this) HI.out.2)
   clear ej hlt hj HI G P Z C
   go_wp2_with fail
   refine HG.out.mono ?_
   rintro e W3 ⟨v',rfl,hq⟩
   have HQ:=Ha hq;clear hq
   go_wp2
   go_ret2
   exact ⟨_,rfl,HQ.out⟩
end T
namespace T
open Go.RowKit
theorem wI (a:Nat):∃ c:Nat,nC (a:Rat)=(c:Rat)∧c≤a:=by
 have d1:cD (a:Rat)=1:=by
  unfold cD
  rw [oH,kz _ ck,AI]
  split <;> rfl
 refine ⟨cN (a:Rat),?_,?_⟩
 ·unfold nC
  rw [d1,Rat.mkRat_one];rfl
 ·unfold cN
  rw [fM]
  split
  ·exact nP a
  ·rename_i h
   have hp:=fp h
   rw [fM] at hp
   obtain ⟨e,p1,p2,_⟩:=aS au ck hp
   generalize (ai au a).1=x at *
   generalize (ai au a).2=y at *
   have h1:x*1≤x*(x*y):=Nat.mul_le_mul_left x (Nat.mul_pos p1 p2)
   rw [e,Nat.mul_assoc];omega
theorem ux {a:Nat} (h:0<a):nN (a:Rat)≤a:=by
 obtain ⟨c,e,_⟩:=wI a
 have s:=mV (q:=(a:Rat)) (aP a)
 rw [e,←Rat.natCast_mul,←Rat.natCast_mul] at s
 have s2:=Rat.natCast_inj.1 s
 generalize nN (a:Rat)=n at *
 have c0:0<c:=Nat.pos_of_ne_zero fun z=>by subst z;simp at s2;omega
 have:=Nat.mul_le_mul_right n (Nat.mul_pos c0 c0)
 omega
theorem FC {q:Rat} (h0:0≤q) (h:q≠0):0<nC q:=by
 refine Rat.lt_of_le_of_ne (mg q) fun z=>h ?_
 have:=mV h0
 rw [←z] at this;rw [←this];grind
theorem FD {q:Rat} (h0:0≤q) (h:q≠0):Rl ((nN q:Nat):Rat) q:=Rl.symm ⟨nC q,FC h0 h,(mV h0).symm⟩
structure Ns (D M R:Nat) (t:Tm):Prop where
 c:J D M t.1
 r:∃ a:Nat,t.2=(a:Rat)∧a≤R
theorem Ns.up {D M R M' R':Nat} {t:Tm} (h:Ns D M R t) (hM:M≤M') (hR:R≤R'):Ns D M' R' t :=
 ⟨h.c.up hM,by obtain ⟨a,e,l⟩:=h.r;exact ⟨a,e,Nat.le_trans l hR⟩⟩
theorem Ns.nn {D M R:Nat} {t:Tm} (h:Ns D M R t):0≤t.2:=by obtain ⟨a,e,_⟩:=h.r;rw [e];exact aP a
theorem Gn {D M R b:Nat} {t:Tm} (h:Ns D M R t) (hb:0<b):J (D*b) (M*(R*b)) (co (b:Rat) t):=by
 obtain ⟨x,q⟩:=t
 obtain ⟨a,e,l⟩:=h.r
 have e':q=(a:Rat):=e
 subst e'
 unfold co
 split
 ·rename_i k
  exact (h.c.mul (J.root hb k)).up (Nat.mul_le_mul_left _ (Nat.mul_le_mul_right _ l))
 ·exact J.zero _ _
theorem Gp {D M:Nat} {m:Rat}:∀ {l:List Tm},(∀ t∈l,J D M (co m t))→J D (l.length*M) (vl m l)
 | [],_=>by rw [List.length_nil,Nat.zero_mul];exact J.zero _ _
 | t::l,h=>by
  have ih:=Gp (l:=l) fun s hs=>h s (List.mem_cons_of_mem _ hs)
  have:=(h t List.mem_cons_self).add ih
  rw [List.length_cons,Nat.succ_mul,Nat.add_comm];exact this
theorem wJ {D M R b:Nat} {L:List Tm} (h:∀ t∈L,Ns D M R t) (hb:0<b):J (D*b) (L.length*(M*(R*b))) (vl (b:Rat) L):=Gp fun t ht=>Gn (h t ht) hb
def Cl (C:List Rat) (l:List Tm):Prop:=∀ t∈l,t.2≠0→∃ c∈C,Rl t.2 c
theorem Cl.perm {C:List Rat} {l k:List Tm} (h:Cl C l) (p:k.Perm l):Cl C k:=fun t ht z=>h t (p.subset ht) z
theorem lE {g:List Tm} {s:Tm} (h:∀ t∈g,0≤t.2) (hs:s∈gth g):∃ t∈g,t.2≠0∧s.2=((nN t.2:Nat):Rat)∧Rl s.2 t.2:=by
 obtain ⟨t,ht,_,z,e⟩:=By hs
 exact ⟨t,ht,z,e,by rw [e];exact FD (h t ht) z⟩
theorem Cl.gth {C:List Rat} {g:List Tm} (h:Cl C g) (h0:∀ t∈g,0≤t.2):Cl C (gth g):=fun s hs _=>by
 obtain ⟨t,ht,z,_,r⟩:=lE h0 hs
 obtain ⟨c,hc,r'⟩:=h t ht z
 exact ⟨c,hc,r.trans r'⟩
theorem Cl.fin {C:List Rat} {g:List Tm} (h:Cl C g) (h0:∀ t∈g,0≤t.2):Cl C (fin g):=fun s hs z=>h.gth h0 s (List.mem_filter.1 hs).1 z
theorem Cl.len {C:List Rat} {l:List Tm} (h:Cl C l) (r:Red l):l.length≤C.length:=by
 have:=yi C (l.map (·.2)) (List.pairwise_map.2 r.2) fun s hs=>by
  obtain ⟨t,ht,rfl⟩:=List.mem_map.1 hs
  exact h t ht (by have:=r.1 t ht;grind)
 rwa [List.length_map] at this
theorem yk {a k:Nat} (h:a<ak k) (hk:1≤k):Bq k ((a:Nat):Rat):=sF hk h
theorem BJ {g:List Tm} {C:List Rat} (hlen:g.length≤256) (hok:∀ t∈g,Bq 60 t.1∧∃ a:Nat,t.2=(a:Rat)∧a<ak 20)
  (hpre:∀ j,∀ s∈gth (g.take j),Bq 100 s.1) (hfin:∀ s∈fin g,Bq 60 s.1) (hcl:Cl C g) (hC:C.length≤16):Gd g:=by
 have h0:∀ t∈g,0≤t.2:=fun t ht=>by obtain ⟨_,a,e,_⟩:=hok t ht;rw [e];exact aP a
 refine ⟨⟨hlen,fun t ht => ?_,fun t ht n1 n2 => ?_,fun j _ s hs=>⟨hpre j s hs,?_⟩⟩,Nat.le_trans ((hcl.fin h0).len (nS g)) hC,hfin⟩
 ·obtain ⟨b,a,e,l⟩:=hok t ht
  exact ⟨h0 t ht,by rw [e];exact yk (Nat.lt_of_lt_of_le l (aG (by decide))) (by decide),b.up (by decide)⟩
 ·obtain ⟨b,a,e,l⟩:=hok t ht
  have a0:0<a:=Nat.pos_of_ne_zero fun z=>n2 (by rw [e,z];rfl)
  obtain ⟨c,ec,lc⟩:=wI a
  have bc:Bq 20 (nC t.2):=by rw [e,ec];exact yk (Nat.lt_of_le_of_lt lc l) (by decide)
  refine ⟨bc.up (by decide),((a8 b bc (by decide)).2.2).up (by decide),nN t.2,rfl,oI (h0 t ht),?_⟩
  rw [e];exact Nat.lt_of_le_of_lt (ux a0) l
 ·obtain ⟨t,ht,z,e',_⟩:=lE (fun t ht=>h0 t (List.mem_of_mem_take ht)) hs
  obtain ⟨_,a,e,l⟩:=hok t (List.mem_of_mem_take ht)
  have a0:0<a:=Nat.pos_of_ne_zero fun z'=>z (by rw [e,z'];rfl)
  refine ⟨nN t.2,e',oI (h0 t (List.mem_of_mem_take ht)),?_⟩
  rw [e];exact Nat.lt_of_le_of_lt (ux a0) l
theorem sV {g:List Tm} (h0:∀ t∈g,0≤t.2) {s:Tm} (hs:s∈gth g):s.1=vl s.2 g:=by
 rw [←Bu ((sQ g).1 s hs) g h0,oG (sQ g) hs]
theorem FE {D M R:Nat} {g:List Tm} (h:∀ t∈g,Ns D M R t) {s:Tm} (hs:s∈gth g):∃ b:Nat,s.2=(b:Rat)∧Nrm b∧b≤R:=by
 obtain ⟨t,ht,z,e',_⟩:=lE (fun t ht=>(h t ht).nn) hs
 obtain ⟨a,e,l⟩:=(h t ht).r
 have a0:0<a:=Nat.pos_of_ne_zero fun z'=>z (by rw [e,z'];rfl)
 refine ⟨nN t.2,e',oI (h t ht).nn,?_⟩
 rw [e];exact Nat.le_trans (ux a0) l
theorem yl {D M R:Nat} {g:List Tm} (h:∀ t∈g,Ns D M R t) {s:Tm} (hs:s∈gth g):∃ b:Nat,s.2=(b:Rat)∧Nrm b∧b≤R∧J (D*b) (g.length*(M*(R*b))) s.1:=by
 obtain ⟨b,e,nb,lb⟩:=FE h hs
 refine ⟨b,e,nb,lb,?_⟩
 rw [sV (fun t ht=>(h t ht).nn) hs,e]
 exact wJ h nb.1
theorem lF {k k' M R b:Nat} (hk:k≤k') (hb:b≤R):k*(M*(R*b))≤k'*(M*(R*R)):=Nat.mul_le_mul hk (Nat.mul_le_mul_left _ (Nat.mul_le_mul_left _ hb))
theorem BK {D M R k:Nat} {g:List Tm} {C:List Rat} (h:∀ t∈g,Ns D M R t) (hD:0<D) (hR1:0<R) (hk:g.length≤k) (hk2:k≤256) (hR:R<ak 20)
  (h1:k*(M*(R*R))<ak 60) (h2:D*R<ak 60) (hcl:Cl C g) (hC:C.length≤16):Gd g:=by
 refine BJ (by omega) (fun t ht=>⟨?_,?_⟩) (fun j s hs => ?_) (fun s hs => ?_) hcl hC
 ·have k0:0<k:=by have:=List.length_pos_of_mem ht;omega
  refine (h t ht).c.bq hD (Nat.lt_of_le_of_lt ?_ h1) (Nat.lt_of_le_of_lt (Nat.le_mul_of_pos_right _ hR1) h2)
  exact Nat.le_trans (Nat.le_mul_of_pos_right M (Nat.mul_pos hR1 hR1)) (Nat.le_mul_of_pos_left _ k0)
 ·obtain ⟨a,e,l⟩:=(h t ht).r
  exact ⟨a,e,by omega⟩
 ·obtain ⟨b,_,nb,lb,jj⟩:=yl (fun t ht=>h t (List.mem_of_mem_take ht)) hs
  have lt:(g.take j).length≤k:=by rw [List.length_take];omega
  exact (J.bq (Nat.mul_pos hD nb.1) jj (Nat.lt_of_le_of_lt (lF lt lb) h1) (Nat.lt_of_le_of_lt (Nat.mul_le_mul_left _ lb) h2)).up (by decide)
 ·obtain ⟨b,_,nb,lb,j⟩:=yl h (List.mem_filter.1 hs).1
  exact J.bq (Nat.mul_pos hD nb.1) j (Nat.lt_of_le_of_lt (lF hk lb) h1) (Nat.lt_of_le_of_lt (Nat.mul_le_mul_left _ lb) h2)
def Kx (E N:Nat) (x:Rat):Prop:=∃ D,0<D∧D≤E∧J D N x
theorem Kx.zero {E N:Nat} (h:0<E):Kx E N 0:=⟨1,by decide,h,J.zero _ _⟩
theorem Kx.add {E N:Nat} {x y:Rat} (h:Kx E N x) (h':Kx E N y):Kx (E*E) (N*E+N*E) (x+y):=by
 obtain ⟨D,d0,dl,j⟩:=h
 obtain ⟨D',d0',dl',j'⟩:=h'
 refine ⟨D*D',Nat.mul_pos d0 d0',Nat.mul_le_mul dl dl',?_⟩
 have a:=(j.wide D').up (Nat.mul_le_mul_left N dl')
 have b:=(j'.wide D).up (Nat.mul_le_mul_left N dl)
 rw [Nat.mul_comm D' D] at b
 exact a.add b
theorem Kx.bq {E N k:Nat} {x:Rat} (h:Kx E N x) (h1:N<ak k) (h2:E<ak k):Bq k x:=by
 obtain ⟨D,d0,dl,j⟩:=h
 exact j.bq d0 h1 (by omega)
theorem BL {m:Rat} (hm:0<m):∀ {l:List Tm},Red l→vl m l=0∨∃ t∈l,vl m l=co m t
 | [],_ => .inl rfl
 | t::l,h=>by
  have hl:Red l:=⟨fun x hx=>h.1 x (List.mem_cons_of_mem _ hx),(List.pairwise_cons.1 h.2).2⟩
  have ht:=h.1 t List.mem_cons_self
  by_cases k:Rl m t.2
  ·refine .inr ⟨t,List.mem_cons_self,?_⟩
   show co m t+vl m l=_
   rw [k9 hm hl.1 fun s hs r=>(List.pairwise_cons.1 h.2).1 s hs (k.symm.trans r)];grind
  ·have z:co m t=0:=AN t.1 hm ht fun r=>k r.symm
   rcases BL hm hl with e | ⟨s,hs,e⟩
   ·refine .inl ?_
    show co m t+vl m l=0
    rw [z,e];grind
   ·refine .inr ⟨s,List.mem_cons_of_mem _ hs,?_⟩
    show co m t+vl m l=_
    rw [z,e];grind
theorem Red.take {l:List Tm} (h:Red l) (j:Nat):Red (l.take j):=⟨fun s hs=>h.1 s (List.mem_of_mem_take hs),h.2.sublist (List.take_sublist j l)⟩
structure Ok (D M R Ln:Nat) (C:List Rat) (L l:List Tm):Prop where
 raw:∀ t∈L,Ns D M R t
 len:L.length≤Ln
 red:Red l
 l16:l.length≤16
 rt:∀ t∈l,∃ b:Nat,t.2=(b:Rat)∧Nrm b∧b≤R
 cl:Cl C l
 vl:∀ m,0<m→vl m l=vl m L
theorem Ok.J {D M R Ln:Nat} {C:List Rat} {L l:List Tm} (h:Ok D M R Ln C L l) {t:Tm} (ht:t∈l):∃ b:Nat,t.2=(b:Rat)∧Nrm b∧b≤R∧J (D*b) (Ln*(M*(R*b))) t.1:=by
 obtain ⟨b,e,nb,lb⟩:=h.rt t ht
 refine ⟨b,e,nb,lb,?_⟩
 rw [←oG h.red ht,h.vl _ (h.red.1 t ht),e]
 exact (wJ h.raw nb.1).up (Nat.mul_le_mul_right _ h.len)
theorem ym (m k:Rat):∀ l:List Tm,T.vl m (l.map (mulT k))=k*T.vl m l
 | []=>by show (0:Rat)=k*0;grind
 | t::l=>by
  show co m (t.1*k,t.2)+T.vl m (l.map (mulT k))=k*(co m t+T.vl m l)
  rw [ym m k l,Rat.mul_comm,EW];grind
theorem Red.mulT {l:List Tm} (h:Red l) (k:Rat):Red (l.map (mulT k)):=by
 refine ⟨fun s hs => ?_,List.pairwise_map.2 h.2⟩
 obtain ⟨t,ht,rfl⟩:=List.mem_map.1 hs
 exact h.1 t ht
theorem Ok.up {D M R Ln M' Ln':Nat} {C:List Rat} {L l:List Tm} (h:Ok D M R Ln C L l) (hM:M≤M') (hL:Ln≤Ln'):Ok D M' R Ln' C L l :=
 ⟨fun t ht=>(h.raw t ht).up hM (Nat.le_refl _),Nat.le_trans h.len hL,h.red,h.l16,h.rt,h.cl,h.vl⟩
structure Nb (D M R Ln:Nat):Prop where
 d0:0<D
 r0:0<R
 r:R<ak 20
 dr:D*R*R<ak 50
 n:(Ln*(M*(R*R))*(R*R)*(D*R*R))+(Ln*(M*(R*R))*(R*R)*(D*R*R))<ak 100
 f:Ln*(M*(R*R))<ak 60
theorem Ok.kx {D M R Ln:Nat} {C:List Rat} {L l:List Tm} (h:Ok D M R Ln C L l) (nb:Nb D M R Ln) {b:Nat} (hb:Nrm b) (lb:b≤R) (j:Nat):Kx (D*R*R) (Ln*(M*(R*R))*(R*R)) (T.vl (b:Rat) (l.take j)):=by
 rcases BL (cz hb.1) (h.red.take j) with e | ⟨t,ht,e⟩
 ·rw [e];exact Kx.zero (Nat.mul_pos (Nat.mul_pos nb.d0 nb.r0) nb.r0)
 ·rw [e]
  obtain ⟨a,ea,na,la,ja⟩:=h.J (List.mem_of_mem_take ht)
  have n:Ns (D*a) (Ln*(M*(R*R))) R t:=⟨ja.up (lF (Nat.le_refl _) la),a,ea,la⟩
  have c:=Gn n hb.1
  exact ⟨D*a*b,Nat.mul_pos (Nat.mul_pos nb.d0 na.1) hb.1,Nat.mul_le_mul (Nat.mul_le_mul_left _ la) lb,c.up (Nat.mul_le_mul_left _ (Nat.mul_le_mul_left _ lb))⟩
theorem pL {x j k:Nat} (h:x<ak j) (hk:j≤k):x<ak k:=Nat.lt_of_lt_of_le h (aG hk)
theorem Ok.bq {D M R Ln:Nat} {C:List Rat} {L l:List Tm} (h:Ok D M R Ln C L l) (nb:Nb D M R Ln) {t:Tm} (ht:t∈l):Bq 60 t.1:=by
 obtain ⟨b,_,nr,lb,j⟩:=h.J ht
 refine J.bq (Nat.mul_pos nb.d0 nr.1) j (Nat.lt_of_le_of_lt (lF (Nat.le_refl _) lb) nb.f) (pL (Nat.lt_of_le_of_lt ?_ nb.dr) (by decide))
 exact Nat.le_trans (Nat.mul_le_mul_left _ lb) (Nat.le_mul_of_pos_right _ nb.r0)
theorem Ok.fin {D M R Ln:Nat} {C:List Rat} {L g r:List Tm} (raw:∀ t∈L,Ns D M R t) (len:L.length≤Ln) (rt:∀ t∈g,∃ b:Nat,t.2=(b:Rat)∧b≤R) (hv:∀ m,0<m→T.vl m g=T.vl m L) (hg:Gd g) (cl:Cl C g) (hp:r.Perm (fin g)):Ok D M R Ln C L r:=by
 have h0:∀ t∈g,0≤t.2:=fun t ht=>by obtain ⟨b,e,_⟩:=rt t ht;rw [e];exact aP b
 refine ⟨raw,len,(nS g).perm hp.symm,by rw [hp.length_eq];exact hg.len,fun t ht => ?_,(cl.fin h0).perm hp,fun m hm=>by rw [Do hp,Bv hm g h0,hv m hm]⟩
 obtain ⟨s,hs,z,e',_⟩:=lE h0 (List.mem_filter.1 (hp.subset ht)).1
 obtain ⟨b,e,l⟩:=rt s hs
 have b0:0<b:=Nat.pos_of_ne_zero fun z'=>z (by rw [e,z'];rfl)
 refine ⟨nN s.2,e',oI (h0 s hs),?_⟩
 rw [e];exact Nat.le_trans (ux b0) l
theorem FF {R:Nat} {l k:List Tm} (h:∀ t∈l,∃ b:Nat,t.2=(b:Rat)∧Nrm b∧b≤R) (h':∀ t∈k,∃ b:Nat,t.2=(b:Rat)∧Nrm b∧b≤R):∀ t∈l++k,∃ b:Nat,t.2=(b:Rat)∧b≤R:=fun t ht=>by
 rcases List.mem_append.1 ht with ht | ht
 ·obtain ⟨b,e,_,l⟩:=h t ht;exact ⟨b,e,l⟩
 ·obtain ⟨b,e,_,l⟩:=h' t ht;exact ⟨b,e,l⟩
theorem Ok.add {D M R Ln:Nat} {C C':List Rat} {L l K k:List Tm} (h:Ok D M R Ln C L l) (h':Ok D M R Ln C' K k) (nb:Nb D M R Ln) (nf:(Ln+Ln)*(M*(R*R))<ak 60) {C2:List Rat} (hC:C2.length≤16) (hcl:Cl C2 (l++k)) :
  Gd (l++k)∧∀ r,r.Perm (T.fin (l++k))→Ok D M R (Ln+Ln) C2 (L++K) r:=by
 have rt:=FF h.rt h'.rt
 have h0:∀ t∈l++k,0≤t.2:=fun t ht=>by obtain ⟨b,e,_⟩:=rt t ht;rw [e];exact aP b
 have raw:∀ t∈L++K,Ns D M R t:=fun t ht=>(List.mem_append.1 ht).elim (h.raw t) (h'.raw t)
 have len:(L++K).length≤Ln+Ln:=by have:=h.len;have:=h'.len;rw [List.length_append];omega
 have hv:∀ m,0<m→T.vl m (l++k)=T.vl m (L++K):=fun m hm=>by rw [ie,ie,h.vl m hm,h'.vl m hm]
 have src:∀ {g:List Tm},(∀ t∈g,t∈l++k)→∀ s∈gth g,∃ b:Nat,s.2=(b:Rat)∧Nrm b∧b≤R:=fun {g} hg s hs=>by
  obtain ⟨t,ht,z,e',_⟩:=lE (fun t ht=>h0 t (hg t ht)) hs
  obtain ⟨b,e,l⟩:=rt t (hg t ht)
  have b0:0<b:=Nat.pos_of_ne_zero fun z'=>z (by rw [e,z'];rfl)
  refine ⟨nN t.2,e',oI (h0 t (hg t ht)),?_⟩
  rw [e];exact Nat.le_trans (ux b0) l
 have gd:Gd (l++k):=by
  refine BJ (by have:=h.l16;have:=h'.l16;rw [List.length_append];omega) (fun t ht=>⟨?_,?_⟩) (fun j s hs => ?_) (fun s hs => ?_) hcl hC
  ·exact (List.mem_append.1 ht).elim (fun m=>h.bq nb m) fun m=>h'.bq nb m
  ·obtain ⟨b,e,l⟩:=rt t ht
   have:=nb.r
   exact ⟨b,e,by omega⟩
  ·obtain ⟨b,e,nr,lb⟩:=src (fun t ht=>List.mem_of_mem_take ht) s hs
   rw [sV (fun t ht=>h0 t (List.mem_of_mem_take ht)) hs,e,List.take_append,ie]
   have a:=(h.kx nb nr lb j).add (h'.kx nb nr lb (j - l.length))
   refine a.bq nb.n ?_
   have:=Nat.mul_lt_mul'' nb.dr nb.dr
   exact Nat.lt_of_lt_of_eq this (by rw [←cE])
  ·have hm:=(List.mem_filter.1 hs).1
   obtain ⟨b,e,nr,lb⟩:=src (fun t ht=>ht) s hm
   rw [sV h0 hm,e,hv _ (cz nr.1)]
   refine J.bq (Nat.mul_pos nb.d0 nr.1) (wJ raw nr.1) (Nat.lt_of_le_of_lt (lF len lb) nf) (pL (Nat.lt_of_le_of_lt ?_ nb.dr) (by decide))
   exact Nat.le_trans (Nat.mul_le_mul_left _ lb) (Nat.le_mul_of_pos_right _ nb.r0)
 exact ⟨gd,fun r hp=>Ok.fin raw len rt hv gd hcl hp⟩
def prods (l k:List Tm):List Tm:=l.flatMap fun t=>k.map fun s=>(t.1*s.1,t.2*s.2)
theorem rl (k:List Tm):∀ l:List Tm,(prods l k).length=l.length*k.length
 | []=>by rw [List.length_nil,Nat.zero_mul];rfl
 | t::l=>by
  show (k.map _++prods l k).length=_
  rw [List.length_append,List.length_map,rl k l,List.length_cons,Nat.succ_mul,Nat.add_comm]
theorem zN {l k:List Tm} {x:Tm} (h:x∈prods l k):∃ t∈l,∃ s∈k,x=(t.1*s.1,t.2*s.2):=by
 obtain ⟨t,ht,h⟩:=List.mem_flatMap.1 h
 obtain ⟨s,hs,rfl⟩:=List.mem_map.1 h
 exact ⟨t,ht,s,hs,rfl⟩
def prC (C C':List Rat):List Rat:=C.flatMap fun c=>C'.map fun d=>c*d
theorem Rl.mul {x y u v:Rat} (h:Rl x u) (k:Rl y v):Rl (x*y) (u*v):=by
 obtain ⟨r,r0,rfl⟩:=h
 obtain ⟨s,s0,rfl⟩:=k
 exact ⟨r*s,Rat.mul_pos r0 s0,by grind⟩
theorem Cl.prods {C C':List Rat} {l k:List Tm} (h:Cl C l) (h':Cl C' k):Cl (prC C C') (prods l k):=fun x hx z=>by
 obtain ⟨t,ht,s,hs,rfl⟩:=zN hx
 obtain ⟨c,hc,r⟩:=h t ht fun e=>z (by show t.2*s.2=0;rw [e];grind)
 obtain ⟨d,hd,r'⟩:=h' s hs fun e=>z (by show t.2*s.2=0;rw [e];grind)
 exact ⟨c*d,List.mem_flatMap.2 ⟨c,hc,List.mem_map.2 ⟨d,hd,rfl⟩⟩,r.mul r'⟩
theorem DQ {g:List Tm} (h0:∀ t∈g,0≤t.2) (z:∀ m,0<m→T.vl m g=0):T.fin g = []:=EX (nS g) (fun _ ht=>Bw ht) fun m hm=>by rw [Bv hm g h0,z m hm]
theorem BM {l k:List Tm} (h:∀ t∈l,0≤t.2) (h':∀ t∈k,0≤t.2) (e:∀ m,0<m→T.vl m l=T.vl m k):T.fin (l++k.map (mulT (-1))) = []:=by
 refine DQ (fun t ht => ?_) fun m hm => ?_
 ·rcases List.mem_append.1 ht with ht | ht
  ·exact h t ht
  ·obtain ⟨s,hs,rfl⟩:=List.mem_map.1 ht
   exact h' s hs
 ·rw [ie,ym,e m hm];grind
theorem Nrm.one {b:Nat} (h:Nrm b) (r:Rl (b:Rat) 1):b=1:=by
 obtain ⟨x,x0,e⟩:=r
 have:=(EV (q:=(b:Rat)) (aP b)).2 ⟨x,by rw [e];grind⟩
 have h2:=h.2.2
 omega
end T
namespace T
open Go.RowKit
theorem yn (l:List Tm):(List.range l.length).map (tat l)=l:=by
 refine List.ext_getElem (by simp) fun i h1 h2 => ?_
 simp [dV h2]
def wK (l k:List Tm) (j i:Nat):List Value:=(List.range i).flatMap fun i=>tc ((tat l j).1*(tat k i).1,(tat l j).2*(tat k i).2)
def zsP (l k:List Tm) (j i:Nat):List Value:=((List.range j).flatMap fun j=>wK l k j k.length)++wK l k j i
theorem BN (l k:List Tm) (j:Nat):wK l k j k.length=tcs (k.map fun s=>((tat l j).1*s.1,(tat l j).2*s.2)):=by
 unfold wK tcs
 conv=>rhs;rw [←yn k]
 rw [List.map_map,List.flatMap_map];rfl
theorem DR (l k:List Tm):zsP l k l.length 0=tcs (prods l k):=by
 unfold zsP prods
 conv=>rhs;rw [←yn l]
 rw [List.flatMap_map,show wK l k l.length 0 = [] from rfl,List.append_nil]
 unfold tcs
 rw [List.flatMap_assoc]
 congr 1
 funext j
 exact BN l k j
theorem Su.at {W:World} {p:Option Addr} {n c:Nat} {l:List Tm} (h:Su W p n c l):∃ b,(0<n→p=some ⟨b,0,none⟩)∧(0<n→Tl W b l):=by
 rcases Nat.eq_zero_or_pos n with z | z
 ·exact ⟨0,fun k=>by omega,fun k=>by omega⟩
 ·have hn:=h.sr.1
  obtain ⟨b,e,t⟩:=h.sr.rd (by omega)
  exact ⟨b,fun _=>e,fun _=>t⟩
theorem FG (l k:List Tm) (p p':Option Addr) (n n' c c':Nat) (w:World) (h:Su w p n c l) (h':Su w p' n' c' k) (hg:Gd (prods l k)) (ht:Tab w) (ht2:aH w) (hS:Sm w) :
  Calls Tryz.prog 26 #[.slice p n c,.slice p' n' c'] w fun e W'=>Rs (prods l k) w.heap.size w e W':=by
 obtain ⟨b,e1,t1⟩:=h.at
 obtain ⟨b',e2,t2⟩:=h'.at
 have n1:=h.sr.1
 have n2:=h'.sr.1
 refine (BI p p' b b' n n' c c' w e1 e2 h.le h'.le (fun v W'=>Rs (prods l k) w.heap.size w (.returned (.tuple #[v,.int .i64 0])) W') (fun j=>af (tat l j).1) (fun j=>af (tat l j).2) (fun j=>af (tat k j).1) (fun j=>af (tat k j).2)
  (fun j i=>af ((tat l j).1*(tat k i).1)) (fun j i=>af ((tat l j).2*(tat k i).2)) (zsP l k) (fun z=>(t1 z).lt) (fun z=>(t2 z).lt)
  (fun j hj=>⟨(t1 (by omega)).c0 j (by omega),(t1 (by omega)).c1 j (by omega)⟩) (fun j hj=>⟨(t2 (by omega)).c0 j (by omega),(t2 (by omega)).c1 j (by omega)⟩)
  rfl (fun j i => ?_) (fun j => ?_) (fun j i hj hi W hW => ?_) (fun v W ho hW => ?_) (fun W b1 hW hb => ?_)).mono fun e W' h=>Rs.to h
 ·unfold zsP wK
  rw [List.range_succ,List.flatMap_append,List.append_assoc];rfl
 ·unfold zsP
  rw [List.range_succ,List.flatMap_append,n2,show wK l k (j+1) 0 = [] from rfl,List.append_nil]
  simp
 ·obtain ⟨_,b1,x,ex,_,lx⟩:=h.good.ok _ (bV (l:=l) (j:=j) (by omega))
  obtain ⟨_,b2,y,ey,_,ly⟩:=h'.good.ok _ (bV (l:=k) (j:=i) (by omega))
  have b3:Bq 40 (tat l j).2:=by rw [ex];exact bqN lx (by decide)
  have b4:Bq 40 (tat k i).2:=by rw [ey];exact bqN ly (by decide)
  refine sK _ _ _ _ _ _ W (fun W2 h2 => ?_) (fun W2 h2 => ?_)
  ·have m1:=a8 b1 b2 (by decide)
   have c:=gz (tat l j).1 (tat k i).1 W2 (b1.lim (by decide)) (b2.lim (by decide)) ((ht.next hW).next h2) (ae (ae ht2 hW) h2)
   rwa [m1.1,m1.2.1] at c
  ·have m1:=a8 b3 b4 (by decide)
   have c:=gz (tat l j).2 (tat k i).2 W2 (b3.lim (by decide)) (b4.lim (by decide)) ((ht.next hW).next h2) (ae (ae ht2 hW) h2)
   rwa [m1.1,m1.2.1] at c
 ·have e:n*n'=(prods l k).length:=by rw [rl,n1,n2]
  have o:Ow W w.heap.size 43 v (prods l k):=by
   unfold Ow
   rw [←DR,←n1,←e];exact ho
  obtain ⟨q,d,rfl,rd,_⟩:=o.rd
  exact (nh _ hg q _ d W rfl rd (ht.next hW) (ae ht2 hW) (hS.next hW)).mono fun e W'' r=>r.of hW hW.size
 ·exact pI b1 p p' n c n' c' l k W hb (h.next hW).sd (h'.next hW).sd (ht.next hW) (ae ht2 hW) (hS.next hW)
def vI:List Tm→Bool
 | []=>true
 | [t]=>decide (t.2=1)
 | _=>false
def vS:List Tm→ByteArray
 | []=>⟨#[48]⟩
 | [t]=>if t.2=1 then af t.1 else ⟨#[]⟩
 | _=>⟨#[]⟩
theorem GJ (x:Rat):((af x).toList == [49])=decide (x=1):=by
 have e1:(af 1).toList = [49]:=by rw [ig,ByteArray.toList_eq]
 by_cases h:x=1
 ·rw [decide_eq_true h,h,e1];rfl
 ·rw [decide_eq_false h]
  have:=sH h
  rwa [e1] at this
theorem BO (l:List Tm) (p:Option Addr) (n c:Nat) (w:World) (h:Su w p n c l) (ht:Tab w) (ht2:aH w) (hS:Sm w) :
  Calls Tryz.prog 27 #[.slice p n c] w fun e W'=>e = .returned (.tuple #[.string (vS l),.bool (vI l),.int .i64 0])∧Below w.heap.size w W':=by
 have hA:=fun W b (hW:Below w.heap.size w W) (hb:Blk W b #[.slice p n c])=>wB b p n c l W hb (h.next hW).sd (ht.next hW) (ae ht2 hW) (hS.next hW)
 have hn:=h.sr.1
 obtain ⟨b,e1,t1⟩:=h.at
 match l,h,hn,t1 with
 | [],_,hn,_ =>
  have z:n=0:=hn
  subst z
  exact zK p c w hA
 | [t],_,hn,t1 =>
  have z:n=1:=hn
  subst z
  have e2:=e1 (by decide)
  subst e2
  have c0:=(t1 (by decide)).c0 0 (by simp)
  have c1:=(t1 (by decide)).c1 0 (by simp)
  have:=zL b c (af t.1) (af t.2) (decide (t.2=1)) w hA (GJ t.2) ⟨c0,c1⟩
  refine this.mono fun e W' ⟨e3,b3⟩=>⟨?_,b3⟩
  rw [e3]
  unfold vS vI
  by_cases k:t.2=1 <;> simp [k]
 | t::s::l,_,hn,_ =>
  have z:2≤n:=by rw [hn];simp
  exact wH p n c w hA z
end T
namespace T
open Go.RowKit
theorem uy (b n c pl:Nat) (cs rs ds ss:Nat→ByteArray) (sn tl:ByteArray) (w:World) (h100:n≤100) (h0:ss 0=⟨#[48]⟩) (hb:b<w.heap.size)
  (hc:∀ j,j<n→w.cell? ⟨b,j*2,none⟩=some (.string (cs j))∧w.cell? ⟨b,j*2+1,none⟩=some (.string (rs j)))
  (hr:∀ j,j<n→∀ W,Below w.heap.size w W→Calls Tryz.prog 266 #[.agg #[.string (cs j),.string (rs j)],.int .i64 pl] W fun e W'=>e = .returned (.string (ds j))∧Below W.heap.size W W')
  (hp:∀ j,j<n→∀ W,Below w.heap.size w W→Calls Tryz.prog 265 #[.string (ss j),.string (ds j)] W fun e W'=>e = .returned (.string (ss (j+1)))∧Below W.heap.size W W')
  (hi:∀ W,Below w.heap.size w W→Calls Tryz.prog 109 #[.int .i64 n] W fun e W'=>e = .returned (.string sn)∧Below W.heap.size W W')
  (hf:∀ W,Below w.heap.size w W→Calls Tryz.prog 265 #[.string (ss n),.string sn] W fun e W'=>e = .returned (.string tl)∧Below W.heap.size W W') :
  Calls Tryz.prog 223 #[.slice (some ⟨b,0,none⟩) n c,.int .i64 pl] w fun e W'=>e = .returned (.tuple #[.string (ss n),.string tl])∧Below w.heap.size w W':=by
 have O:=Ha (Hb hc (Hb hr (Hb hp (Hb hi hf))));clear hc hr hp hi hf
 go_enter Tryz.func223,Tryz.ntmps223
 go_wp2
 go_loopw [6,11] (fun s i wr=>∃ j:Nat,s = .string (ss j)∧i = .int .i64 j∧j≤n∧Hid (Below w.heap.size w wr)) (fun _ i _=>n - (intOf i).toNat)
 case atStart=>exact ⟨0,by rw [h0],rfl,by omega,Below.refl _ _⟩
 case round =>
  obtain ⟨j,rfl,rfl,hj,HB⟩:=hrel
  by_cases hlt:j<n
  ·have hz:(j:Int)<n:=by omega
   have d0:=(HB.out.cell (p:=⟨b,j*2,none⟩) hb).trans (O.out.1 j hlt).1
   have d1:=(HB.out.cell (p:=⟨b,j*2+1,none⟩) hb).trans (O.out.1 j hlt).2
   have hr:=Ha (O.out.2.1 j hlt)
   have hp:=Ha (O.out.2.2.1 j hlt)
   clear h0
   generalize cs j=cj at *
   generalize rs j=rj at *
   generalize ds j=dj at *
   generalize hsj:ss j=sj at *
   generalize hsk:ss (j+1)=sk at *
   have HS:=Ha hsk;clear hsk hsj
   go_wp2_with fail
   have HN:=Ha (Hb (Blk.new wr #[.string cj,.string rj] 43) (HB.out.alloc HB.out.size (.cells #[.string cj,.string rj] 43)))
   clear HB;have HB:=HN;clear HN
   generalize wr.alloc (.cells #[.string cj,.string rj] 43)=u at *
   generalize wr.heap.size=k at *
   clear d0 d1
   have e0:=HB.out.1.cell 0 (.string cj) rfl;have e1:=HB.out.1.cell 1 (.string rj) rfl
   go_wp2_with fail
   refine (hr.out _ HB.out.2).mono ?_
   rintro e w2 ⟨rfl,b2⟩
   replace HB:=Ha (HB.out.2.trans (b2.mono HB.out.2.size));clear b2 e0 e1
   go_wp2_with fail
   refine (hp.out _ HB.out).mono ?_
   rintro e w3 ⟨rfl,b3⟩
   replace HB:=Ka HB b3 HB.out.size;clear b3
   go_wp2
   go_roundw
   case rel=>exact ⟨j+1,by rw [HS.out],by go_num,by omega,HB.out⟩
   case measure=>simp [intOf];omega
  ·have ej:j=n:=by omega
   have hz:¬ (j:Int)<n:=by omega
   rw [ej]
   clear hlt hj h0 ej hz
   have hz:¬ (n:Int)<n:=by omega
   go_wp2_with fail
   refine (O.out.2.2.2.1 _ HB.out).mono ?_
   rintro e w2 ⟨rfl,b2⟩
   replace HB:=Ka HB b2 HB.out.size;clear b2
   go_wp2_with fail
   refine (O.out.2.2.2.2 _ HB.out).mono ?_
   rintro e w3 ⟨rfl,b3⟩
   replace HB:=Ka HB b3 HB.out.size;clear b3
   go_wp2
   go_ret2
   exact ⟨rfl,HB.out⟩
theorem mA {p:Nat} {l:List Tm} (h:Good l) (hp:p≤64) (j:Nat) (hj:j≤l.length):(sml p l j).natAbs<ak 146:=by
 have b:=BE (p:=p) (l:=l) (fun t ht=>by
  obtain ⟨_,cb,b,eb,nb,lb⟩:=h.ok t ht
  unfold rdT
  rw [eb,fM]
  exact BD cb lb hp) j hj
 have h16:=h.len
 have h2:j*ak 144≤16*ak 144:=Nat.mul_le_mul_right _ (by omega)
 have e1:ak 145=10*ak 144:=ez 144
 have e2:ak 146=10*ak 145:=ez 145
 have:=cY 144
 omega
theorem zO (l:List Tm) (p:Nat) (b n c:Nat) (w:World) (h:Good l) (hn:n=l.length) (tl:Tl w b l) (hp:p≤64) (ht:Tab w) (ht2:aH w) :
  Calls Tryz.prog 223 #[.slice (some ⟨b,0,none⟩) n c,.int .i64 p] w fun e W'=>e = .returned (.tuple #[.string (aa (sml p l n)),.string (aa (sml p l n+n))])∧Below w.heap.size w W':=by
 have h16:=h.len
 have up:∀ {z:Int},z.natAbs<ak 146→short z:=fun h=>lD h (by decide)
 refine uy b n c p (fun j=>af (tat l j).1) (fun j=>af (tat l j).2) (fun j=>aa (rdT p (tat l j))) (fun j=>aa (sml p l j)) (aa (n:Int)) _ w (by omega) (by show aa 0=_;decide+kernel) tl.lt
  (fun j hj=>⟨tl.c0 j (by omega),tl.c1 j (by omega)⟩) (fun j hj W hW=>wG _ p W (h.ok _ (bV (by omega))) hp (ht.next hW) (ae ht2 hW)) (fun j hj W hW => ?_) (fun W hW => ?_) (fun W hW => ?_)
 ·have h1:=mA h hp j (by omega)
  have h2:=mA h hp (j+1) (by omega)
  obtain ⟨_,cb,b,eb,nb,lb⟩:=h.ok _ (bV (l:=l) (j:=j) (by omega))
  have h3:(rdT p (tat l j)).natAbs≤ak 144:=by
   unfold rdT
   rw [eb,fM]
   exact BD cb lb hp
  have:=js (show 144<146 by decide)
  exact BG _ _ W (up h1) (up (by omega)) (up h2) (ht.next hW)
 ·exact vd (n:Int) W (by omega) (by omega) (ht.next hW)
 ·have h1:=mA h hp n (by omega)
  have h2:(sml p l n+n).natAbs<ak 147:=by have e147:ak 147=10*ak 146:=ez 146;have:ak 2<ak 146:=js (show 2<146 by decide);have e2:ak 2=100:=rfl;omega
  exact BG _ _ W (up h1) (fw (by omega)) (lD h2 (by decide)) (ht.next hW)
theorem FH (W:World):(Instr.index 271 (.agg #[.int .i64 4,.int .i64 64]) (.int .i64 0)).run Tryz.prog W = .ok (.int .i64 4) W:=by kernel_rfl
theorem FI (W:World):(Instr.index 271 (.agg #[.int .i64 4,.int .i64 64]) (.int .i64 1)).run Tryz.prog W = .ok (.int .i64 64) W:=by kernel_rfl
theorem zP (p:Option Addr) (n c:Nat) (lo hi:Nat→ByteArray) (lp hp:Nat→Bool) (w:World) (h0:0<n)
  (hB:∀ q:Nat,(q=4∨q=64)→∀ W,Below w.heap.size w W→Calls Tryz.prog 223 #[.slice p n c,.int .i64 q] W fun e W'=>e = .returned (.tuple #[.string (lo q),.string (hi q)])∧Below W.heap.size W W')
  (hL:∀ q:Nat,(q=4∨q=64)→∀ W,Below w.heap.size w W→Calls Tryz.prog 224 #[.string (lo q)] W fun e W'=>e = .returned (.bool (lp q))∧Below W.heap.size W W')
  (hH:∀ q:Nat,(q=4∨q=64)→∀ W,Below w.heap.size w W→Calls Tryz.prog 224 #[.string (hi q)] W fun e W'=>e = .returned (.bool (hp q))∧Below W.heap.size W W') :
  Calls Tryz.prog 182 #[.slice p n c] w fun e W'=>e = .returned (if lp 4 then .tuple #[.int .i64 1,.int .i64 0] else if hp 4=false then .tuple #[.int .i64 (-1),.int .i64 0] else if lp 64 then .tuple #[.int .i64 1,.int .i64 0] else if hp 64=false then .tuple #[.int .i64 (-1),.int .i64 0] else .tuple #[.int .i64 0,.int .i64 4])∧Below w.heap.size w W':=by
 have O:=Ha (Hb (hB 4 (.inl rfl)) (Hb (hL 4 (.inl rfl)) (hH 4 (.inl rfl))))
 have O2:=Ha (Hb (hB 64 (.inr rfl)) (Hb (hL 64 (.inr rfl)) (hH 64 (.inr rfl))))
 clear hB hL hH
 generalize lo 4=lo4 at *
 generalize hi 4=hi4 at *
 generalize lo 64=lo6 at *
 generalize hi 64=hi6 at *
 generalize lp 4=lp4 at *
 generalize hp 4=hp4 at *
 generalize lp 64=lp6 at *
 generalize hp 64=hp6 at *
 have y0:¬ (n:Int)=0:=by omega
 have y0b:((n:Int)==0)=false:=by simpa using y0
 clear h0
 have HB:=Ha (Below.refl w.heap.size w)
 go_enter Tryz.func182,Tryz.ntmps182
 go_wp2
 go_loopw [12] (fun i wr=>∃ j:Nat,i = .int .i64 j∧j≤2∧Hid (((1≤j→lp4=false∧hp4=true)∧(2≤j→lp6=false∧hp6=true))∧Below w.heap.size w wr)) (fun i _=>2 - (intOf i).toNat)
 case atStart=>exact ⟨0,rfl,by omega,⟨fun h=>by omega,fun h=>by omega⟩,HB.out⟩
 case round =>
  clear HB
  obtain ⟨j,rfl,hj,HK⟩:=hrel
  have HB:=Ha HK.out.2
  have hj3:j=0∨j=1∨j=2:=by omega
  rcases hj3 with rfl | rfl | rfl
  ·clear HK hj
   have ix:=FH wr
   go_wp2_with fail
   refine (O.out.1 _ HB.out).mono ?_
   rintro e w1 ⟨rfl,b⟩
   replace HB:=Ka HB b HB.out.size;clear b
   go_wp2_with fail
   refine (O.out.2.1 _ HB.out).mono ?_
   rintro e w2 ⟨rfl,b⟩
   replace HB:=Ka HB b HB.out.size;clear b
   cases lp4
   ·go_wp2_with fail
    refine (O.out.2.2 _ HB.out).mono ?_
    rintro e w3 ⟨rfl,b⟩
    replace HB:=Ka HB b HB.out.size;clear b
    cases hp4
    ·go_wp2
     go_ret2
     exact ⟨rfl,HB.out⟩
    ·go_wp2
     go_roundw
     case rel=>exact ⟨1,by go_num,by omega,⟨fun _=>⟨trivial,trivial⟩,fun h=>by omega⟩,HB.out⟩
     case measure=>simp [intOf]
   ·go_wp2
    go_ret2
    exact ⟨rfl,HB.out⟩
  ·obtain ⟨rfl,rfl⟩:=HK.out.1.1 (by omega)
   clear HK hj
   have ix:=FI wr
   go_wp2_with fail
   refine (O2.out.1 _ HB.out).mono ?_
   rintro e w1 ⟨rfl,b⟩
   replace HB:=Ka HB b HB.out.size;clear b
   go_wp2_with fail
   refine (O2.out.2.1 _ HB.out).mono ?_
   rintro e w2 ⟨rfl,b⟩
   replace HB:=Ka HB b HB.out.size;clear b
   cases lp6
   ·go_wp2_with fail
    refine (O2.out.2.2 _ HB.out).mono ?_
    rintro e w3 ⟨rfl,b⟩
    replace HB:=Ka HB b HB.out.size;clear b
    cases hp6
    ·go_wp2
     go_ret2
     exact ⟨rfl,HB.out⟩
    ·go_wp2
     go_roundw
     case rel=>exact ⟨2,by go_num,by omega,⟨fun _=>⟨trivial,trivial⟩,fun _=>⟨trivial,trivial⟩⟩,HB.out⟩
     case measure=>simp [intOf]
   ·go_wp2
    go_ret2
    exact ⟨rfl,HB.out⟩
  ·obtain ⟨rfl,rfl⟩:=HK.out.1.1 (by omega)
   obtain ⟨rfl,rfl⟩:=HK.out.1.2 (by omega)
   clear HK hj
   go_wp2
   go_ret2
   exact ⟨rfl,HB.out⟩
theorem BP (p:Option Addr) (c:Nat) (w:World) :
  Calls Tryz.prog 182 #[.slice p 0 c] w fun e W'=>e = .returned (.tuple #[.int .i64 0,.int .i64 0])∧Below w.heap.size w W':=by
 go_enter Tryz.func182,Tryz.ntmps182
 go_wp2
 go_ret2
 exact ⟨rfl,Below.refl _ _⟩
theorem DT (l:List Tm) (p:Option Addr) (n c:Nat) (w:World) (h:Su w p n c l) (ht:Tab w) (ht2:aH w) :
  Calls Tryz.prog 182 #[.slice p n c] w fun e W'=>e = .returned (.tuple #[.int .i64 (sgV l),.int .i64 (sgE l)])∧Below w.heap.size w W':=by
 have hn:=h.sr.1
 rcases Nat.eq_zero_or_pos n with z | z
 ·unfold sgV sgE
  rw [if_pos (by omega),if_pos (by omega),z]
  exact BP p c w
 ·obtain ⟨b,e1,t1⟩:=h.at
  obtain rfl:=e1 z
  have tl:=t1 z
  refine (zP (some ⟨b,0,none⟩) n c (fun q=>aa (sml q l n)) (fun q=>aa (sml q l n+n)) (fun q=>decide (0<sml q l n)) (fun q=>decide (0<sml q l n+n)) w z
   (fun (q:Nat) hq W hW=>zO l q b n c W h.good hn (tl.next hW) (by omega) (ht.next hW) (ae ht2 hW)) (fun q _ W _=>rk _ W) (fun q _ W _=>rk _ W)).mono fun e W' ⟨e2,b2⟩=>⟨?_,b2⟩
  rw [e2]
  unfold sgV sgE dec
  rw [←hn,if_neg (by omega:¬ n=0),if_neg (by omega:¬ n=0)]
  have dd:∀ x:Int,(decide (0<x)=false)=(x≤0):=fun x=>by simp
  simp only [dd,decide_eq_true_eq]
  by_cases a1:0<sml 4 l n
  ·simp [a1]
  ·by_cases a2:sml 4 l n+n≤0
   ·simp [a1,a2]
   ·by_cases a3:0<sml 64 l n
    ·simp [a1,a2,a3]
    ·by_cases a4:sml 64 l n+n≤0
     ·simp [a1,a2,a3,a4]
     ·simp [a1,a2,a3,a4]
end T
namespace T
open Go.RowKit
def eE:Value→Lit
 | .string s => .string s.data.toList
 | _ => .bool false
theorem mapM_some {α:Type} {f:Nat→Option α} {g:Nat→α}:∀ (is:List Nat),(∀ i∈is,f i=some (g i))→is.mapM f=some (is.map g)
 | [],_=>rfl
 | i::is,h=>by
  rw [List.mapM_cons,h i List.mem_cons_self,mapM_some is fun j hj=>h j (List.mem_cons_of_mem _ hj)];rfl
theorem chunks:∀ (n:Nat) (cs:List Value),cs.length=n*2→((List.range n).map fun i=>((cs.drop (i*2)).take 2).map eE).flatten=cs.map eE
 | 0,cs,h=>by
  obtain rfl:=List.eq_nil_of_length_eq_zero (by omega:cs.length=0);rfl
 | n+1,[],h=>by simp at h
 | n+1,[_],h=>by simp at h;omega
 | n+1,x::y::cs,h=>by
  have ih:=chunks n cs (by simp at h;omega)
  have e:((List.range n).map ((fun i=>(((x::y::cs).drop (i*2)).take 2).map eE) ∘ Nat.succ))=(List.range n).map fun i=>((cs.drop (i*2)).take 2).map eE:=by
   refine List.map_congr_left fun i _ => ?_
   show (((x::y::cs).drop ((i+1)*2)).take 2).map eE=_
   rw [show (i+1)*2=i*2+1+1 by omega];rfl
  rw [List.range_succ_eq_map,List.map_cons,List.flatten_cons,List.map_map,e,ih];rfl
theorem zQ:Tryz.prog.cellsOf 30=1:=by kernel_rfl
theorem pM:Tryz.prog.cellsOf 43=2:=by kernel_rfl
theorem rm:Tryz.prog.cellsOf 228=32:=by kernel_rfl
theorem uz:Tryz.prog.eqGuardType Tryz.prog.depth 230=false:=by kernel_rfl
theorem BQ (s:ByteArray) (h:s.size≤maxLen):Tryz.prog.keyLits 1 30 [.string s]=some [.string s.data.toList]:=by
 simp [Program.keyLits,Tryz.underlying30,h]
theorem DU (x y:ByteArray) (hx:x.size≤maxLen) (hy:y.size≤maxLen):Tryz.prog.keyLits 2 43 [.string x,.string y]=some [.string x.data.toList,.string y.data.toList]:=by
 have h1:=BQ x hx
 have h2:=BQ y hy
 unfold Program.keyLits
 simp [Tryz.underlying43,pM,zQ,h1,h2]
theorem BR (cs:List Value) (hl:cs.length=32) (hs:∀ v∈cs,∃ s:ByteArray,v = .string s∧s.size≤maxLen):Tryz.prog.keyLits 3 228 cs=some (cs.map eE):=by
 have key:∀ i∈List.range 16,Tryz.prog.keyLits 2 43 ((cs.drop (i*2)).take 2)=some (((cs.drop (i*2)).take 2).map eE):=fun i hi=>by
  have hi:=List.mem_range.1 hi
  have e:(cs.drop (i*2)).take 2 = [cs[i*2]'(by omega),cs[i*2+1]'(by omega)]:=by
   rw [List.drop_eq_getElem_cons (by omega),List.take_succ_cons,List.drop_eq_getElem_cons (by omega),List.take_succ_cons,List.take_zero]
  rw [e]
  obtain ⟨x,ex,lx⟩:=hs _ (List.getElem_mem (l:=cs) (n:=i*2) (by omega))
  obtain ⟨y,ey,ly⟩:=hs _ (List.getElem_mem (l:=cs) (n:=i*2+1) (by omega))
  rw [ex,ey]
  exact DU x y lx ly
 unfold Program.keyLits
 simp only [Tryz.underlying228,rm,pM,hl,if_true]
 rw [mapM_some _ key]
 show some _=_
 rw [chunks 16 cs hl]
theorem DV:Tryz.prog.keyTypeAt 3 228=true:=by kernel_rfl
theorem zR (cs ds:List Value) (hl:cs.length=32) (hl':ds.length=32) (hs:∀ v∈cs,∃ s:ByteArray,v = .string s∧s.size≤maxLen) (hs':∀ v∈ds,∃ s:ByteArray,v = .string s∧s.size≤maxLen) :
  ∃ r:Bool,(r=true↔cs.map eE=ds.map eE)∧∀ W,(Op.equalIn 9999 228 (.agg (cs.toArray.extract 0 32)) (.agg (ds.toArray.extract 0 32))).run Tryz.prog W = .ok r W:=by
 classical
 have ex:∀ xs:List Value,xs.length=32→xs.toArray.extract 0 32=xs.toArray:=fun xs hx=>by
  apply Array.ext'
  simp [List.take_of_length_le (show xs.length≤32 by omega)]
 refine ⟨decide (cs.map eE=ds.map eE),by simp,fun W => ?_⟩
 have fm:∀ xs:List Value,xs.length=32→(Value.agg xs.toArray).formed Tryz.prog 228=true:=fun xs hx=>by
  simp [Value.formed,Tryz.underlying228,rm,hx]
 obtain ⟨r,hr,hiff⟩:=run_equalIn_deep (P:=Tryz.prog) 9996 3 228 DV W 3 3 (.agg cs.toArray) (.agg ds.toArray) _ _ (fm cs hl) (fm ds hl') (by show Tryz.prog.keyLits 3 _ cs.toArray.toList=_;rw [List.toList_toArray];exact BR cs hl hs) (by show Tryz.prog.keyLits 3 _ ds.toArray.toList=_;rw [List.toList_toArray];exact BR ds hl' hs')
 rw [ex cs hl,ex ds hl',show (9999:Nat)=9996+3 from rfl,hr]
 have:r=decide (cs.map eE=ds.map eE):=by
  by_cases k:cs.map eE=ds.map eE
  ·rw [decide_eq_true k];exact hiff.2 k
  ·rw [decide_eq_false k];exact Bool.eq_false_iff.2 fun h=>k (hiff.1 h)
 rw [this]
theorem uA (x:Rat):af x≠⟨#[]⟩:=fun h=>by
 have:=AX x
 rw [h] at this
 exact absurd this (by decide)
theorem jV {x y:ByteArray} (h:eE (.string x)=eE (.string y)):x=y:=by
 have:x.data.toList=y.data.toList:=by simpa [eE] using h
 exact aU this
theorem yo:∀ (l k:List Tm) (a b:Nat),(tcs l++List.replicate a (Value.string ⟨#[]⟩)).map eE=(tcs k++List.replicate b (Value.string ⟨#[]⟩)).map eE→l=k
 | [],[],_,_,_=>rfl
 | [],t::k,a,b,h=>by
  exfalso
  rw [xT,List.nil_append,dp] at h
  cases a with
  | zero=>simp at h
  | succ a =>
   rw [List.replicate_succ,List.map_cons,List.cons_append,List.map_cons] at h
   exact uA t.1 (jV (List.cons.inj h).1).symm
 | t::l,[],a,b,h=>by
  exfalso
  rw [xT,List.nil_append,dp] at h
  cases b with
  | zero=>simp at h
  | succ b =>
   rw [List.replicate_succ,List.map_cons,List.cons_append,List.map_cons] at h
   exact uA t.1 (jV (List.cons.inj h).1)
 | t::l,s::k,a,b,h=>by
  rw [dp,dp] at h
  simp only [List.cons_append,List.map_cons] at h
  obtain ⟨h1,h2⟩:=List.cons.inj h
  obtain ⟨h2,h3⟩:=List.cons.inj h2
  have e1:=kM (jV h1)
  have e2:=kM (jV h2)
  rw [yo l k a b (by rw [List.map_append,List.map_append] at h3 ⊢; exact h3),show t=(t.1,t.2) from rfl,e1,e2]
theorem BS {l:List Tm} (h:∀ t∈l,Bq 60 t.1∧Bq 60 t.2):∀ v∈pad l,∃ s:ByteArray,v = .string s∧s.size≤maxLen:=fun v hv=>by
 unfold pad tcs at hv
 rcases List.mem_append.1 hv with h1 | h1
 ·obtain ⟨t,ht,h1⟩:=List.mem_flatMap.1 h1
  unfold tc at h1
  simp only [List.mem_cons,List.mem_nil_iff,or_false] at h1
  rcases h1 with rfl | rfl
  ·exact ⟨_,rfl,(show Sq t.1 from (h t ht).1.lim (by decide)).size⟩
  ·exact ⟨_,rfl,(show Sq t.2 from (h t ht).2.lim (by decide)).size⟩
 ·exact ⟨_,(List.mem_replicate.1 h1).2,by decide⟩
theorem sW (p p':Option Addr) (n c n' c':Nat) (xs ys:Array Value) (q:Bool) (x y:Int) (w:World)
  (hA:∀ W b,Below w.heap.size w W→Blk W b #[.slice p n c,.slice p' n' c']→Calls Tryz.prog 67 #[.slice (some ⟨b,0,none⟩) 2 2] W fun e W'=>e = .returned (.bool true)∧Below W.heap.size W W')
  (hP:∀ W,Below w.heap.size w W→Calls Tryz.prog 180 #[.slice p n c] W fun e W'=>e = .returned (.agg xs)∧Below W.heap.size W W')
  (hP':∀ W,Below w.heap.size w W→Calls Tryz.prog 180 #[.slice p' n' c'] W fun e W'=>e = .returned (.agg ys)∧Below W.heap.size W W')
  (hE:∀ W,(Op.equalIn 9999 228 (.agg (xs.extract 0 32)) (.agg (ys.extract 0 32))).run Tryz.prog W = .ok q W)
  (hq:q=true→x=0∧y=0)
  (hD:q=false→∀ W,Below w.heap.size w W→Calls Tryz.prog 181 #[.slice p n c,.slice p' n' c'] W fun e W''=>∃ v,e = .returned (.tuple #[v,.int .i64 0])∧Below w.heap.size w W'' ∧
   Calls Tryz.prog 182 #[v] W'' fun e W3=>e = .returned (.tuple #[.int .i64 x,.int .i64 y])∧Below W''.heap.size W'' W3) :
  Calls Tryz.prog 120 #[.slice p n c,.slice p' n' c'] w fun e W'=>e = .returned (.tuple #[.int .i64 x,.int .i64 y])∧Below w.heap.size w W':=by
 have O:=Ha (Hb hA (Hb hP (Hb hP' hD)));clear hA hP hP' hD
 have HG:=Ha uz
 go_enter Tryz.func120,Tryz.ntmps120
 go_wp2_with fail
 refine (O.out.1 _ _ ((Below.refl _ w).alloc (Nat.le_refl _) _) (Blk.new w _ _)).mono ?_
 rintro e W1 ⟨rfl,b⟩
 have HB:=Ha (((Below.refl _ w).alloc (Nat.le_refl _) (.cells #[.slice p n c,.slice p' n' c'] 45)).trans (b.mono (by simp)))
 clear b
 go_wp2_with fail
 refine (O.out.2.1 _ HB.out).mono ?_
 rintro e W2 ⟨rfl,b⟩
 replace HB:=Ka HB b HB.out.size;clear b
 go_wp2_with fail
 refine (O.out.2.2.1 _ HB.out).mono ?_
 rintro e W3 ⟨rfl,b⟩
 replace HB:=Ka HB b HB.out.size;clear b
 have g1:=fun W=>run_eqGuard_agg (P:=Tryz.prog) W .eql 230
 have hE3:=hE W3
 clear hE
 cases q
 ·have HD:=Ha (O.out.2.2.2 rfl);clear O hq
  go_wp2_with fail
  refine (HD.out _ HB.out).mono ?_
  rintro e W4 ⟨v,rfl,b4,h4⟩
  have H4:=Ha (Hb b4 h4);clear b4 h4 HB HD
  go_wp2_with fail
  refine H4.out.2.mono ?_
  rintro e W5 ⟨rfl,b⟩
  have HN:=Ha (H4.out.1.trans (b.mono H4.out.1.size));clear H4 b
  go_wp2
  go_ret2
  exact ⟨rfl,HN.out⟩
 ·obtain ⟨rfl,rfl⟩:=hq rfl
  clear hq O
  go_wp2
  go_ret2
  exact ⟨rfl,HB.out⟩
theorem BU {f:Tm→Int} {l k:List Tm} (h:l.Perm k):(l.map f).sum=(k.map f).sum:=by
 induction h with
 | nil=>rfl
 | cons t _ ih=>rw [List.map_cons,List.map_cons,List.sum_cons,List.sum_cons,ih]
 | swap s t l=>simp only [List.map_cons,List.sum_cons];omega
 | trans _ _ a b=>exact a.trans b
theorem yp (p:Nat) (l:List Tm):∀ j,j≤l.length→sml p l j=((l.take j).map (rdT p)).sum
 | 0,_=>rfl
 | j+1,hj=>by
  rw [List.take_succ_eq_append_getElem (by omega),List.map_append,List.sum_append]
  show sml p l j+rdT p (tat l j)=_
  rw [yp p l j (by omega),dV (by omega)]
  simp
theorem sX (p:Nat) (l:List Tm):sml p l l.length=(l.map (rdT p)).sum:=by
 rw [yp p l _ (Nat.le_refl _),List.take_length]
theorem yq {l k:List Tm} (h:l.Perm k):sgV l=sgV k∧sgE l=sgE k:=by
 have d:∀ p,dec p l=dec p k:=fun p=>by
  unfold dec
  rw [sX,sX,BU h,h.length_eq]
 unfold sgV sgE
 rw [d,d,h.length_eq]
 exact ⟨rfl,rfl⟩
theorem wL (l k:List Tm) (p p':Option Addr) (n n' c c':Nat) (w:World) (h:Su w p n c l) (h':Su w p' n' c' k) (hg:Gd (l++k.map (mulT (-1)))) (ht:Tab w) (ht2:aH w) (hS:Sm w) :
  Calls Tryz.prog 120 #[.slice p n c,.slice p' n' c'] w fun e W'=>e = .returned (.tuple #[.int .i64 (sgV (T.fin (l++k.map (mulT (-1))))),.int .i64 (sgE (T.fin (l++k.map (mulT (-1)))))])∧Below w.heap.size w W':=by
 have hl:=h.good.len
 have hk:=h'.good.len
 have bl:∀ {l:List Tm},Good l→∀ t∈l,Bq 60 t.1∧Bq 60 t.2:=fun {l} g t ht=>by
  obtain ⟨_,b,x,e,_,lx⟩:=g.ok t ht
  exact ⟨b,by rw [e];exact (bqN lx (by decide)).up (by decide)⟩
 obtain ⟨q,hq,hE⟩:=zR (pad l) (pad k) (sR hl) (sR hk) (BS (bl h.good)) (BS (bl h'.good))
 refine sW p p' n c n' c' (pad l).toArray (pad k).toArray q _ _ w (fun W b hW hb=>pI b p p' n c n' c' l k W hb (h.next hW).sd (h'.next hW).sd (ht.next hW) (ae ht2 hW) (hS.next hW))
  (fun W hW=>pJ l p n c W (h.next hW).sr hl) (fun W hW=>pJ k p' n' c' W (h'.next hW).sr hk) hE (fun e => ?_) (fun _ W hW => ?_)
 ·have e2:=yo l k _ _ (hq.1 e)
  subst e2
  have nn:∀ t∈l,0≤t.2:=fun t ht=>Rat.le_of_lt (h.good.Red.1 t ht)
  rw [BM nn nn fun _ _=>rfl]
  exact ⟨rfl,rfl⟩
 ·refine (qC l k p p' n n' c c' W (h.next hW) (h'.next hW) hg (ht.next hW) (ae ht2 hW) (hS.next hW)).mono fun e W2 ⟨p2,n2,c2,r,e2,hp,hs,hb⟩ => ?_
  have hb2:=hW.trans (hb.mono hW.size)
  refine ⟨_,e2,hb2,?_⟩
  have:=DT r p2 n2 c2 W2 hs (ht.next hb2) (ae ht2 hb2)
  rwa [(yq hp).1,(yq hp).2] at this
end T
namespace T
open Go.RowKit
theorem Tl.lit1 {W:World} {b:Nat} (x q:Rat) (h:Blk W b #[.string (af x),.string (af q)]):Tl W b [(x,q)] :=
 ⟨h.lt,fun j hj=>by
  obtain rfl:j=0:=by simp at hj;omega
  exact h.cell 0 _ rfl,fun j hj=>by
  obtain rfl:j=0:=by simp at hj;omega
  exact h.cell 1 _ rfl⟩
theorem Tl.lit2 {W:World} {b:Nat} (x q y r:Rat) (h:Blk W b #[.string (af x),.string (af q),.string (af y),.string (af r)]):Tl W b [(x,q),(y,r)] :=
 ⟨h.lt,fun j hj=>by
  have h2:j=0∨j=1:=by simp at hj;omega
  rcases h2 with rfl | rfl
  ·exact h.cell 0 _ rfl
  ·exact h.cell 2 _ rfl,fun j hj=>by
  have h2:j=0∨j=1:=by simp at hj;omega
  rcases h2 with rfl | rfl
  ·exact h.cell 1 _ rfl
  ·exact h.cell 3 _ rfl⟩
theorem Su.lit {W:World} {b:Nat} {l:List Tm} (hg:Good l) (h:Tl W b l) (c:Nat) (hc:l.length≤c):Su W (some ⟨b,0,none⟩) l.length c l:=⟨hg,rfl,hc,.inr ⟨b,rfl,fun _=>h⟩⟩
end T
end Go.Proofs.YtbhbhlfkdlfimaaGreatDoor
