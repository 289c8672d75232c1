/- Parts of the proof of the text YtjdomibbaemdnaaGreatDoorZK42. -/
import Derived.Test.YtjdomibbaemdnaaGreatDoorZK1
import Derived.Test.YtjdomibbaemdnaaGreatDoorZK11
import Derived.Test.YtjdomibbaemdnaaGreatDoorZK9
set_option linter.all false
set_option maxRecDepth 100000
set_option maxHeartbeats 8000000
namespace Go.Proofs.YtjdomibbaemdnaaGreatDoor
open Go.RowKit
theorem vT (na nb:Bool) (va vb:Value) (a b:Nat) (w:World) (ha:IsNat w va a) (hb:IsNat w vb b) (h0:b≠0) (hla:(dg a).length≤900000) (hlb:(dg b).length≤900000) :
  Calls Tryz.prog 181 #[.agg #[.bool na,va],.agg #[.bool nb,vb]] w fun e W'=>∃ s x y q r,e = .returned (.tuple #[.agg #[.bool s,x],.agg #[.bool nb,y]])∧IsNat W' x q∧IsNat W' y r∧am s q=(am na a).fdiv (am nb b)∧am nb r=(am na a).fmod (am nb b)∧q≤a∧r≤b∧Below w.heap.size w W':=by
 have hf:=oA na nb a b h0
 have hm:=Nat.mod_lt a (show 0<b by omega)
 by_cases hn:na=nb
 ·subst hn
  refine (uz na va vb a b w ha hb h0 hla).mono ?_
  rintro e W' ⟨x,y,rfl,hx,hy,hB⟩
  have h1:=hf.1 (.inl rfl)
  rw [bne_self_eq_false] at h1
  exact ⟨false,x,y,_,_,rfl,hx,hy,h1.1.symm,h1.2.symm,Nat.div_le_self a b,by omega,hB⟩
 ·have hn2:(na==nb)=false:=by simpa using hn
  have hn3:(na != nb)=true:=by simpa using hn
  rw [hn3] at hf
  refine (uA na nb va vb a b w ha hb h0 hla hlb hn2).mono ?_
  rintro e W' ⟨x,y,q,r,rfl,hx,hy,h,hB⟩
  rcases h with ⟨hz,rfl,rfl⟩ | ⟨hz,rfl,rfl⟩
  ·have h1:=hf.1 (.inr hz)
   exact ⟨true,x,y,_,_,rfl,hx,hy,h1.1.symm,h1.2.symm,Nat.div_le_self a b,by omega,hB⟩
  ·have h1:=hf.2 ⟨hn,hz⟩
   refine ⟨true,x,y,_,_,rfl,hx,hy,h1.1.symm,h1.2.symm,?_,by omega,hB⟩
   have hb2:2≤b:=by
    rcases Nat.lt_or_ge b 2 with h | h
    ·have:b=1:=by omega
     subst this;rw [Nat.mod_one] at hz;exact absurd rfl hz
    ·exact h
   have ha1:a≠0:=fun e=>by rw [e,Nat.zero_mod] at hz;exact hz rfl
   exact Nat.div_lt_self (by omega) hb2
def qm (e x y:Int):ByteArray:=if e=0 then (if y=0 then ByteArray.empty else aa (x.fdiv y)) else ByteArray.empty
def qo (e x y:Int):ByteArray:=if e=0 then (if y=0 then ByteArray.empty else aa (x.fmod y)) else ByteArray.empty
def qp (e y:Int):Int:=if e=0 then (if y=0 then 12 else 0) else e
theorem jC {x y:Int} (h:y≠0):qm 0 x y=aa (x.fdiv y)∧qo 0 x y=aa (x.fmod y)∧qp 0 y=0:=by
 unfold qm qo qp
 simp [h]
theorem gx (x:Int):qm 0 x 0=ByteArray.empty∧qo 0 x 0=ByteArray.empty∧qp 0 0=12:=by
 unfold qm qo qp
 simp
theorem i6 {e:Int} (h:e≠0) (x y:Int):qm e x y=ByteArray.empty∧qo e x y=ByteArray.empty∧qp e y=e:=by
 unfold qm qo qp
 simp [h]
theorem iB (a b:ByteArray) (w:World) (k1:chk a.data.toList=0) (k2:chk b.data.toList=0) (h0:valOf b.data.toList≠0) (hs:¬ (a.size≤18∧b.size≤18)) (ht:Tab w) :
  Calls Tryz.prog 132 #[.string a,.string b] w fun e W'=>e = .returned (.tuple #[.string (aa ((valOf a.data.toList).fdiv (valOf b.data.toList))),.string (aa ((valOf a.data.toList).fmod (valOf b.data.toList))),.int .i64 0])∧Below w.heap.size w W':=by
 have s1:=bz k1
 have s2:=bz k2
 have cb:=bQ a b w (by unfold maxLen;omega) (by unfold maxLen;omega)
 have hc2:bC a.data.toList b.data.toList=0:=by unfold bC;rw [if_pos k1];exact k2
 rw [hc2] at cb
 have hb48:(b.toList == [48])=false:=by
  rw [ByteArray.toList_eq,beq_eq_false_iff_ne]
  intro e;rw [e] at h0;exact h0 rfl
 have i1:=fun W=>bm a W (by unfold maxLen;omega)
 have i2:=fun W=>bm b W (by unfold maxLen;omega)
 have rr1:=fun W=>bM a W (by omega) k1
 have rr2:=fun W=>bM b W (by omega) k2
 have HV:=Ha (Hb (fl a.data.toList) (fl b.data.toList))
 have NL:=Ha (Hb (cO k1) (cO k2))
 have hb0:ae (szL b.data.toList)≠0:=by
  intro e
  apply h0
  rw [←fl,e,aS]
 have H0:=Ha hb0
 have C:=Ha (Hb cb (Hb i1 (Hb i2 (Hb rr1 rr2))))
 have HT:=Ha ht
 clear cb i1 i2 rr1 rr2 hc2 h0 ht k1 k2 hb0
 generalize valOf a.data.toList=x at *
 generalize valOf b.data.toList=y at *
 generalize ap a.data.toList=na at *
 generalize ap b.data.toList=nb at *
 generalize ae (szL a.data.toList)=ax at *
 generalize ae (szL b.data.toList)=bx at *
 have rest:∀ W,Below w.heap.size w W→∀ va vb,IsNat W va ax→IsNat W vb bx→Calls Tryz.prog 181 #[.agg #[.bool na,va],.agg #[.bool nb,vb]] W fun e W'=>∃ s u v q r,e = .returned (.tuple #[.agg #[.bool s,u],.agg #[.bool nb,v]])∧IsNat W' u q∧IsNat W' v r∧am s q=x.fdiv y∧am nb r=x.fmod y∧q≤ax∧r≤bx∧Below W.heap.size W W':=fun W _ va vb h1 h2=>by
  have:=vT na nb va vb ax bx W h1 h2 H0.out (Nat.le_trans (fc NL.out.1) (by decide)) (Nat.le_trans (fc NL.out.2) (by decide))
  rwa [HV.out.1,HV.out.2] at this
 have tx:=fun s q v W (h:IsNat W v q) (hl:q<lim) (hb:Below w.heap.size w W)=>iS s v q W h (Nat.le_trans (fc hl) (by decide)) (HT.out.next hb)
 have RS:=Ha rest
 have TX:=Ha tx
 clear rest tx
 by_cases g1:a.size≤18
 ·have t1:decide ((a.size:Int)≤18)=true:=by simp;omega
  have t2:decide ((b.size:Int)≤18)=false:=by simp;omega
  go_enter Tryz.func132,Tryz.ntmps132
  go_wp2_with fail
  refine C.out.1.mono ?_
  rintro e w' ⟨rfl,rfl⟩
  go_wp2_with fail
  refine (C.out.2.1 _).mono ?_
  rintro e w' ⟨rfl,rfl⟩
  rw [t1]
  go_wp2_with fail
  refine (C.out.2.2.1 _).mono ?_
  rintro e w' ⟨rfl,rfl⟩
  rw [t2]
  go_wp2_with fail
  refine (C.out.2.2.2.1 _).mono ?_
  rintro e w1 ⟨va,rfl,hva,_,hb1⟩
  have H1:=Ha (Hb hva hb1);clear hva hb1
  go_wp2_with fail
  refine (C.out.2.2.2.2 _).mono ?_
  rintro e w2 ⟨vb,rfl,hvb,_,hb2⟩
  have H2:=Ha (Hb (H1.out.1.next hb2) (Hb hvb (H1.out.2.trans (hb2.mono H1.out.2.size))));clear hvb hb2 H1
  go_wp2_with fail
  refine (RS.out _ H2.out.2.2 _ _ H2.out.1 H2.out.2.1).mono ?_
  rintro e w3 ⟨s,u,v,q,r,rfl,hu,hv,e1,e2,l1,l2,hb3⟩
  have hB3:=H2.out.2.2.trans (hb3.mono H2.out.2.2.size)
  have r1:(x.fdiv y).natAbs<lim:=by rw [←e1,ia];exact Nat.lt_of_le_of_lt l1 NL.out.1
  have r2:(x.fmod y).natAbs<lim:=by rw [←e2,ia];exact Nat.lt_of_le_of_lt l2 NL.out.2
  have f1:fj (x.fdiv y)=aa (x.fdiv y):=if_pos r1
  have f2:fj (x.fmod y)=aa (x.fmod y):=if_pos r2
  have f3:fk (x.fdiv y)=0:=if_pos r1
  have f4:fk (x.fmod y)=0:=if_pos r2
  have T1:=Ha (fun W h hB=>by have:=TX.out s q u W h (Nat.lt_of_le_of_lt l1 NL.out.1) hB;rwa [e1,f1,f3] at this)
  have T2:=Ha (fun W h hB=>by have:=TX.out nb r v W h (Nat.lt_of_le_of_lt l2 NL.out.2) hB;rwa [e2,f2,f4] at this)
  have H3:=Ha (Hb hu (Hb hv hB3))
  obtain ⟨pu,cu,rfl⟩:=hu.shape
  obtain ⟨pv,cv,rfl⟩:=hv.shape
  clear hu hv e1 e2 l1 l2 hb3 hB3 r1 r2 f1 f2 f3 f4 H2 TX RS
  generalize (dg q).length=lq at *
  generalize (dg r).length=lr at *
  go_wp2_with fail
  have d0:((w3.alloc (.cells #[.bool s,.slice pu lq cu] 184)).alloc (.cells #[.bool nb,.slice pv lr cv] 184)).cell? ⟨w3.heap.size+1,0,none⟩=some (.bool nb):=by go_cell
  have d1:((w3.alloc (.cells #[.bool s,.slice pu lq cu] 184)).alloc (.cells #[.bool nb,.slice pv lr cv] 184)).cell? ⟨w3.heap.size+1,1,none⟩=some (.slice pv lr cv):=by go_cell
  have dz:w3.heap.size+1<((w3.alloc (.cells #[.bool s,.slice pu lq cu] 184)).alloc (.cells #[.bool nb,.slice pv lr cv] 184)).heap.size:=by simp
  have db:Below w3.heap.size w3 ((w3.alloc (.cells #[.bool s,.slice pu lq cu] 184)).alloc (.cells #[.bool nb,.slice pv lr cv] 184)):=((Below.refl _ w3).alloc (Nat.le_refl _) _).alloc (by simp) _
  generalize (w3.alloc (.cells #[.bool s,.slice pu lq cu] 184)).alloc (.cells #[.bool nb,.slice pv lr cv] 184)=W3 at *
  have H3':=Ha (Hb (H3.out.1.next db) (Hb (H3.out.2.1.next db) (H3.out.2.2.trans (db.mono H3.out.2.2.size))))
  clear H3 db
  refine (T1.out _ H3'.out.1 H3'.out.2.2).mono ?_
  rintro e w4 ⟨rfl,hb4⟩
  have H4:=Ha (Hb (H3'.out.2.1.next hb4) (H3'.out.2.2.trans (hb4.mono H3'.out.2.2.size)))
  have d0':=(hb4.cell (p:=⟨w3.heap.size+1,0,none⟩) dz).trans d0
  have d1':=(hb4.cell (p:=⟨w3.heap.size+1,1,none⟩) dz).trans d1
  clear hb4 T1 H3' d0 d1 dz
  go_wp2_with fail
  refine (T2.out _ H4.out.1 H4.out.2).mono ?_
  rintro e w5 ⟨rfl,hb5⟩
  have H5:=Ha (H4.out.2.trans (hb5.mono H4.out.2.size))
  clear hb5 T2 H4
  go_wp2
  go_ret3
  exact ⟨rfl,H5.out⟩
 ·have t1:decide ((a.size:Int)≤18)=false:=by simp;omega
  go_enter Tryz.func132,Tryz.ntmps132
  go_wp2_with fail
  refine C.out.1.mono ?_
  rintro e w' ⟨rfl,rfl⟩
  go_wp2_with fail
  refine (C.out.2.1 _).mono ?_
  rintro e w' ⟨rfl,rfl⟩
  rw [t1]
  go_wp2_with fail
  refine (C.out.2.2.2.1 _).mono ?_
  rintro e w1 ⟨va,rfl,hva,_,hb1⟩
  have H1:=Ha (Hb hva hb1);clear hva hb1
  go_wp2_with fail
  refine (C.out.2.2.2.2 _).mono ?_
  rintro e w2 ⟨vb,rfl,hvb,_,hb2⟩
  have H2:=Ha (Hb (H1.out.1.next hb2) (Hb hvb (H1.out.2.trans (hb2.mono H1.out.2.size))));clear hvb hb2 H1
  go_wp2_with fail
  refine (RS.out _ H2.out.2.2 _ _ H2.out.1 H2.out.2.1).mono ?_
  rintro e w3 ⟨s,u,v,q,r,rfl,hu,hv,e1,e2,l1,l2,hb3⟩
  have hB3:=H2.out.2.2.trans (hb3.mono H2.out.2.2.size)
  have r1:(x.fdiv y).natAbs<lim:=by rw [←e1,ia];exact Nat.lt_of_le_of_lt l1 NL.out.1
  have r2:(x.fmod y).natAbs<lim:=by rw [←e2,ia];exact Nat.lt_of_le_of_lt l2 NL.out.2
  have f1:fj (x.fdiv y)=aa (x.fdiv y):=if_pos r1
  have f2:fj (x.fmod y)=aa (x.fmod y):=if_pos r2
  have f3:fk (x.fdiv y)=0:=if_pos r1
  have f4:fk (x.fmod y)=0:=if_pos r2
  have T1:=Ha (fun W h hB=>by have:=TX.out s q u W h (Nat.lt_of_le_of_lt l1 NL.out.1) hB;rwa [e1,f1,f3] at this)
  have T2:=Ha (fun W h hB=>by have:=TX.out nb r v W h (Nat.lt_of_le_of_lt l2 NL.out.2) hB;rwa [e2,f2,f4] at this)
  have H3:=Ha (Hb hu (Hb hv hB3))
  obtain ⟨pu,cu,rfl⟩:=hu.shape
  obtain ⟨pv,cv,rfl⟩:=hv.shape
  clear hu hv e1 e2 l1 l2 hb3 hB3 r1 r2 f1 f2 f3 f4 H2 TX RS
  generalize (dg q).length=lq at *
  generalize (dg r).length=lr at *
  go_wp2_with fail
  have d0:((w3.alloc (.cells #[.bool s,.slice pu lq cu] 184)).alloc (.cells #[.bool nb,.slice pv lr cv] 184)).cell? ⟨w3.heap.size+1,0,none⟩=some (.bool nb):=by go_cell
  have d1:((w3.alloc (.cells #[.bool s,.slice pu lq cu] 184)).alloc (.cells #[.bool nb,.slice pv lr cv] 184)).cell? ⟨w3.heap.size+1,1,none⟩=some (.slice pv lr cv):=by go_cell
  have dz:w3.heap.size+1<((w3.alloc (.cells #[.bool s,.slice pu lq cu] 184)).alloc (.cells #[.bool nb,.slice pv lr cv] 184)).heap.size:=by simp
  have db:Below w3.heap.size w3 ((w3.alloc (.cells #[.bool s,.slice pu lq cu] 184)).alloc (.cells #[.bool nb,.slice pv lr cv] 184)):=((Below.refl _ w3).alloc (Nat.le_refl _) _).alloc (by simp) _
  generalize (w3.alloc (.cells #[.bool s,.slice pu lq cu] 184)).alloc (.cells #[.bool nb,.slice pv lr cv] 184)=W3 at *
  have H3':=Ha (Hb (H3.out.1.next db) (Hb (H3.out.2.1.next db) (H3.out.2.2.trans (db.mono H3.out.2.2.size))))
  clear H3 db
  refine (T1.out _ H3'.out.1 H3'.out.2.2).mono ?_
  rintro e w4 ⟨rfl,hb4⟩
  have H4:=Ha (Hb (H3'.out.2.1.next hb4) (H3'.out.2.2.trans (hb4.mono H3'.out.2.2.size)))
  have d0':=(hb4.cell (p:=⟨w3.heap.size+1,0,none⟩) dz).trans d0
  have d1':=(hb4.cell (p:=⟨w3.heap.size+1,1,none⟩) dz).trans d1
  clear hb4 T1 H3' d0 d1 dz
  go_wp2_with fail
  refine (T2.out _ H4.out.1 H4.out.2).mono ?_
  rintro e w5 ⟨rfl,hb5⟩
  have H5:=Ha (H4.out.2.trans (hb5.mono H4.out.2.size))
  clear hb5 T2 H4
  go_wp2
  go_ret3
  exact ⟨rfl,H5.out⟩
theorem oB (a b:ByteArray) (w:World) (k1:chk a.data.toList=0) (k2:chk b.data.toList=0) (h0:valOf b.data.toList≠0) (ht:Tab w) :
  Calls Tryz.prog 132 #[.string a,.string b] w fun e W'=>e = .returned (.tuple #[.string (aa ((valOf a.data.toList).fdiv (valOf b.data.toList))),.string (aa ((valOf a.data.toList).fmod (valOf b.data.toList))),.int .i64 0])∧Below w.heap.size w W':=by
 by_cases hs:a.size≤18∧b.size≤18
 ·exact p9 a b w k1 k2 h0 hs.1 hs.2 ht
 ·exact iB a b w k1 k2 h0 hs ht
theorem vU {l:List UInt8} (h:chk l=0) (hv:valOf l=0):l = [48]:=by
 have:=cZ l h
 rw [hv] at this
 rw [←this];decide+kernel
theorem Divide_any (a b:ByteArray) (w:World) (ha:a.size≤maxLen) (hb:b.size≤maxLen) (ht:Tab w) :
  Calls Tryz.prog 132 #[.string a,.string b] w fun e W'=>e = .returned (.tuple #[.string (qm (bC a.data.toList b.data.toList) (valOf a.data.toList) (valOf b.data.toList)),.string (qo (bC a.data.toList b.data.toList) (valOf a.data.toList) (valOf b.data.toList)),.int .i64 (qp (bC a.data.toList b.data.toList) (valOf b.data.toList))])∧Below w.heap.size w W':=by
 by_cases hz:bC a.data.toList b.data.toList=0
 ·obtain ⟨k1,k2⟩:=fw hz
  rw [hz]
  by_cases h0:valOf b.data.toList=0
  ·rw [h0,(gx _).1,(gx _).2.1,(gx 0).2.2]
   have e48:=vU k2 h0
   have hb48:(b.toList == [48])=true:=by rw [ByteArray.toList_eq,e48];rfl
   have cb:=bQ a b w ha hb
   rw [hz] at cb
   have C:=Ha cb
   clear cb e48 h0 k1 k2 hz ht
   go_enter Tryz.func132,Tryz.ntmps132
   go_wp2_with fail
   refine C.out.mono ?_
   rintro e w' ⟨rfl,rfl⟩
   go_wp2
   go_ret3
   exact ⟨rfl,Below.refl _ _⟩
  ·rw [(jC h0).1,(jC h0).2.1,(jC (x:=0) h0).2.2]
   exact oB a b w k1 k2 h0 ht
 ·rw [(i6 hz _ _).1,(i6 hz _ _).2.1,(i6 hz 0 _).2.2]
  have cb:=bQ a b w ha hb
  generalize bC a.data.toList b.data.toList=e at *
  have C:=Ha cb
  have hn:(e != 0)=true:=by simpa using hz
  clear cb hz ht
  go_enter Tryz.func132,Tryz.ntmps132
  go_wp2_with fail
  refine C.out.mono ?_
  rintro e w' ⟨rfl,rfl⟩
  go_wp2
  go_ret3
  exact ⟨rfl,Below.refl _ _⟩
theorem qs:aa 0=⟨#[48]⟩:=gp 0 [48] (by decide+kernel)
theorem lF (x y:Int) (w:World) (hx:x.natAbs<lim) (hy:y.natAbs<lim) (h0:y≠0) (ht:Tab w) :
  Calls Tryz.prog 132 #[.string (aa x),.string (aa y)] w fun e W'=>e = .returned (.tuple #[.string (aa (x.fdiv y)),.string (aa (x.fmod y)),.int .i64 0])∧Below w.heap.size w W':=by
 have c:=oB (aa x) (aa y) w (bX hx) (bX hy) (by rw [bB];exact h0) ht
 rwa [bB,bB] at c
theorem uB {x y:Int} (h:y≠0):(0<y∧0≤x.fmod y∧x.fmod y<y)∨(y<0∧y<x.fmod y∧x.fmod y≤0):=by
 have h1:=jY x y h
 by_cases h0:x.tmod y=0∨((x.tmod y<0)↔(y<0))
 ·rw [(fq h h0).2];omega
 ·rw [not_or] at h0;rw [(dY h h0.1 h0.2).2];omega
theorem qt {x y : Int} (h : y ≠ 0) : (x.fdiv y).natAbs ≤ x.natAbs ∧ (x.fmod y).natAbs ≤ y.natAbs := by
 constructor
 · have h1 : (x.tdiv y).natAbs ≤ x.natAbs := Int.natAbs_tdiv_le_natAbs x y
   by_cases h0 : x.tmod y = 0 ∨ ((x.tmod y < 0) ↔ (y < 0))
   · rw [(fq h h0).1]; exact h1
   · rw [not_or] at h0
     rw [(dY h h0.1 h0.2).1]
     have h2 : 2 ≤ y.natAbs := by
       rcases Nat.lt_or_ge y.natAbs 2 with h3 | h3
       · exfalso; have := jY x y h; apply h0.1; omega
       · exact h3
     have h3 : (x.tdiv y).natAbs = x.natAbs / y.natAbs := Int.natAbs_tdiv x y
     have hx : x.natAbs ≠ 0 := fun e => h0.1 (by have : x = 0 := by omega
                                                 rw [this]; exact Int.zero_tmod y)
     have h4 : x.natAbs / y.natAbs < x.natAbs := Nat.div_lt_self (by omega) h2
     omega
 · rcases uB (x := x) h with h1 | h1 <;> omega
theorem vV (n:Nat):(dg n).drop 1=dg (n / B):=by
 by_cases h:n=0
 ·subst h;rw [av,Nat.zero_div,av];rfl
 ·rw [de h];rfl
theorem tD (n k:Nat):(dg n).drop k=dg (n / B ^ k):=by
 induction k with
 | zero=>rw [Nat.pow_zero,Nat.div_one];rfl
 | succ k ih =>
  rw [←List.drop_drop,ih,vV,Nat.div_div_eq_div_mul,Nat.pow_succ]
theorem Nats.drop {w:World} {b off cap k:Nat} {l:List Nat} (h:Nats w (.slice (some ⟨b,off,none⟩) l.length cap) l) (hk:k<l.length):Nats w (.slice (some ⟨b,off+k,none⟩) (l.length - k) (cap - k)) (l.drop k):=by
 obtain ⟨p,cap',he,h1,h2,h3⟩:=h
 simp only [Value.slice.injEq,true_and] at he
 obtain ⟨rfl,rfl⟩:=he
 obtain ⟨b',off',e,hc⟩:=h3 (by intro e;subst e;simp at hk)
 simp only [Option.some.injEq,Addr.mk.injEq,and_true] at e
 obtain ⟨rfl,rfl⟩:=e
 refine ⟨_,cap - k,by rw [List.length_drop],by rw [List.length_drop];omega,by omega,fun _=>⟨b,off+k,rfl,fun i hi => ?_⟩⟩
 rw [List.length_drop] at hi
 rw [Nat.add_assoc,hc (k+i) (by omega)]
 congr 3
 rw [List.getD_eq_getElem?_getD,List.getD_eq_getElem?_getD,List.getElem?_drop]
theorem IsNat.unique {w:World} {v:Value} {m n:Nat} (h:IsNat w v m) (h':IsNat w v n):m=n:=by
 obtain ⟨p,cap,rfl,a1,a2,a3⟩:=h
 obtain ⟨p',cap',he,b1,b2,b3⟩:=h'
 simp only [Value.slice.injEq] at he
 obtain ⟨rfl,hl,rfl⟩:=he
 have e:dg m=dg n:=by
  refine List.ext_getElem hl (fun i h1 h2 => ?_)
  obtain ⟨b,off,e1,c1⟩:=a3 (by intro e;rw [e] at h1;simp at h1)
  obtain ⟨b',off',e2,c2⟩:=b3 (by intro e;rw [e] at h2;simp at h2)
  rw [e1] at e2
  simp only [Option.some.injEq,Addr.mk.injEq,and_true] at e2
  obtain ⟨rfl,rfl⟩:=e2
  have:=(c1 i h1).symm.trans (c2 i h2)
  simp only [Option.some.injEq,Value.int.injEq,true_and] at this
  rw [getD_lt h1,getD_lt h2] at this
  exact Int.ofNat.inj this
 have:=congrArg toN e
 rwa [ar,ar] at this
open Classical in
noncomputable def aX (w:World) (v:Value):Nat:=if h:∃ n,IsNat w v n then Classical.choose h else 0
theorem aL {w:World} {v:Value} {n:Nat} (h:IsNat w v n):aX w v=n:=by
 unfold aX
 have hx:∃ n,IsNat w v n:=⟨n,h⟩
 rw [dif_pos hx]
 exact (Classical.choose_spec hx).unique h
theorem r7 {a p r:Nat} (hr:IsRoot (a / B ^ (2*p)) r):aj a≤(r+1)*B ^ p:=by
 refine Nat.le_of_lt (jZ _ _ ?_)
 have hD:0<B ^ (2*p):=Nat.pow_pos bP
 have h1:a<(a / B ^ (2*p)+1)*B ^ (2*p):=by
  have:=Nat.lt_mul_div_succ a hD
  rwa [Nat.mul_comm] at this
 have h2:(a / B ^ (2*p)+1)*B ^ (2*p)≤(r+1)*(r+1)*B ^ (2*p):=Nat.mul_le_mul_right _ hr.2
 have h3:(r+1)*B ^ p*((r+1)*B ^ p)=(r+1)*(r+1)*B ^ (2*p):=by
  rw [Nat.two_mul,Nat.pow_add,Nat.mul_assoc,Nat.mul_left_comm (B ^ p),←Nat.mul_assoc (r+1)]
 omega
theorem k6 {P:Program} (w:World) {ops:Array Oper} {rest:List Oper} {o:Oper} {a:Act} {Q:Exit→Act→World→Prop}
  (hg:o.guard=none) (l c:Operand) (t:TypeId) (hop:o.op=Op.makeSlice t l c)
  (base:Nat) (e:TypeId) (i:TypeInfo) (h1:P.underlying t=some (.slice e)) (h2:P.info? e=some i) (h3:i.zero=some (.int .u64 0)) (h4:i.size=1) (h5:i.bytes=8)
  (kl kc:IntKind) (L C:Int) (m n:Nat) (hl:a.eval l = .int kl L) (hc:a.eval c = .int kc C) (hL:L=(m:Int)) (hC:C=(n:Int)) (hmn:m≤n) (b3:n≤1000000) (b4:base≤w.heap.size)
  (hK:∀ w',w'.ownsRow base e 1 (.slice (some ⟨w.heap.size,0,none⟩) m n) m (ag (List.replicate m 0))→w.grownBy w' none→wpList P ops Q rest (a.put o.dst (.slice (some ⟨w.heap.size,0,none⟩) m n)) w') :
  wpList P ops Q (o::rest) a w:=by
 refine wpList_plain hg fun K hK' => ?_
 have hr:=run_make (P:=P) w t e i _ h1 h2 h3 kl kc (m:Int) (n:Int) (by omega) (by omega) (by rw [h5];omega) (by omega)
 simp only [Int.toNat_natCast,h4,Nat.mul_one] at hr
 subst hL
 subst hC
 have hz:(Value.int .u64 0).cells = #[.int .u64 0]:=by simp [Value.cells]
 unfold Oper.wp
 simp [execOp,hop,hl,hc,hr,Result.andThen]
 refine hK' _ _ (hK _ ⟨by simp [ag],.inr ⟨w.heap.size,n,madeCells (Value.int .u64 0).cells n,rfl,b4,heap_alloc_new w _,hmn,by unfold maxLen;omega,?_,?_⟩⟩ (World.grownBy_alloc w _ none))
 ·rw [Nat.mul_one];exact size_madeCells _ _
 ·rw [Nat.mul_one,hz,toList_madeCells_one]
  simp [ag,Nat.min_eq_left hmn]
theorem qu (v:Value) (n p:Nat) (w:World) (h:IsNat w v n) (h0:n≠0) (hl:(dg n).length≤400000) (hp:p≤400000) :
  Calls Tryz.prog 213 #[v,.int .i64 p] w fun e W'=>∃ u,e = .returned u∧IsNat W' u (n*B ^ p)∧Fresh w.heap.size u∧Below w.heap.size w W':=by
 obtain ⟨i0,hi,hz0,hz1,hz2⟩:=info_parts di
 have HI:=Ha (Hb hi (Hb hz0 (Hb hz1 hz2)));clear hi hz0 hz1 hz2
 obtain ⟨pa,ca,rfl,a1,a2,a3⟩:=h
 have hpos:=aR h0
 obtain ⟨b,off,rfl,hc⟩:=a3 (List.length_pos_iff.1 hpos)
 have HC:=Ha hc
 clear a3 hc
 have ev:toN (List.replicate p 0++dg n)=n*B ^ p:=by rw [bJ,dw,List.length_replicate,ar,Nat.zero_add,Nat.mul_comm]
 have hdd:Dig (List.replicate p 0++dg n):=(Dig.replicate p).append (aq n)
 have HE:=Ha (Hb ev hdd)
 have HL:=Ha (Hb hl hp)
 clear ev hdd
 go_enter Tryz.func213,Tryz.ntmps213
 have hsrc:∀ W,Below w.heap.size w W→∀ j u,(ag (dg n))[j]? = some u→W.cell? ((⟨b,off,none⟩:Addr).add j)=some u:=by
  intro W hW j u hu
  have hadd:(⟨b,off,none⟩:Addr).add j=⟨b,off+j,none⟩:=by unfold Addr.add;split <;> simp_all
  have hj:j<(dg n).length:=by
   have:=(List.getElem?_eq_some_iff.1 hu).1
   simpa [ag] using this
  have hcj:=HC.out j hj
  rw [hadd,(hW.cell (p:=⟨b,off+j,none⟩) (World.block_lt_of_cell? w _ hcj)),hcj,←hu]
  simp [ag,hj]
 have HS:=Ha hsrc
 clear hsrc
 go_wp2_with (first
  | (at_make;refine k6 _ rfl _ _ 182 rfl w.heap.size 143 i0 Tryz.underlying182 HI.out.1 HI.out.2.1 HI.out.2.2.1 HI.out.2.2.2 .i64 .i64 _ _ p (p+(dg n).length) rfl rfl (by omega) (by omega) (by omega) (by omega) (Nat.le_refl _) ?_;intro w1 hown hgrow;have HO:=Ha hown;have HB:=Ha ((Below.refl _ w).grown hgrow (Nat.le_refl _) (fun k e=>by cases e));clear hown hgrow)
  | (at_builtin;refine wpList_append_own _ rfl _ _ 182 rfl w.heap.size 143 i0 (.int .u64 0) 1 8 Tryz.underlying182 HI.out.1 HI.out.2.1 HI.out.2.2.1 HI.out.2.2.2 rfl (by decide) _ _ _ rfl HO.out ⟨b,off,none⟩ (dg n).length ca (ag (dg n)) rfl (by simp [ag]) (HS.out w1 HB.out) (by simp [ag,Value.oneCell']) (by unfold maxLen;omega) (by omega) (by have:=HB.out.size;omega) ?_;intro v' w2 hown' hgrow' _;have HO2:=Ha hown';have HB2:=Ha (HB.out.grown hgrow' HB.out.size (fun k hk=>(HO.out.lt k hk).1));clear hown' hgrow'))
 have h2:=HO2.out
 rw [show ag (List.replicate p 0)++ag (dg n)=ag (List.replicate p 0++dg n) by simp [ag]] at h2
 obtain ⟨g,cap,rfl,hg,hc1,hc2,hr⟩:=fg h2 (fun e=>by rw [List.append_eq_nil_iff] at e;rw [e.2] at hpos;simp at hpos)
 have hN:=hr.nats hc1 (by unfold maxLen at hc2;omega)
 have ct:=eI _ _ w2 hN HE.out.2
 rw [HE.out.1] at ct
 have CT:=Ha ct
 clear ct h2 hr hN
 refine CT.out.mono ?_
 rintro e w' ⟨rfl,u,rfl,hu,hob⟩
 have HU:=Ha (Hb hu hob)
 clear hu hob CT
 go_wp2
 go_ret
 exact ⟨u,rfl,HU.out.1,fun k hk=>by rw [HU.out.2] at hk;cases hk;exact hg,HB2.out⟩
theorem cz {a:Nat}:aj a≤a:=by
 have:=(cC a).1
 by_cases h0:aj a=0
 ·omega
 ·exact Nat.le_trans (Nat.le_mul_of_pos_left _ (by omega)) this
theorem lG (n:Nat):(dg (n+1)).length≤(dg n).length+1:=by
 rw [ak]
 have h:=(ak n _).1 (Nat.le_refl _)
 rw [Nat.pow_succ]
 have:B ^ (dg n).length*2≤B ^ (dg n).length*B:=Nat.mul_le_mul_left _ (by decide)
 omega
theorem oi (n p:Nat):(dg (n*B ^ p)).length≤(dg n).length+p:=by
 rw [ak,Nat.pow_add]
 exact Nat.mul_lt_mul_of_pos_right ((ak n _).1 (Nat.le_refl _)) (Nat.pow_pos bP)
theorem uC (w:World):IsNat (w.alloc (.cells #[.int .u64 1] 143)) (.slice (some ⟨w.heap.size,0,none⟩) 1 1) 1:=by
 show Nats _ _ (dg 1)
 rw [show dg 1 = [1] by decide+kernel]
 exact Nats.of_cells (l := [1]) (Nat.le_refl _) (by decide) (fun i hi=>by
  match i,hi with
  | 0,_=>go_cell)
theorem vW (L:Nat):∀ (va:Value) (a:Nat) (w:World),IsNat w va a→(dg a).length≤L→L≤1000 →
  Calls Tryz.prog 173 #[va] w fun e W'=>∃ v,e = .returned v∧IsNat W' v (aj a)∧Fresh w.heap.size v∧Below w.heap.size w W':=by
 induction L using Nat.strongRecOn with
 | _ L ih =>
 intro va a w ha hl hL
 by_cases h2:(dg a).length≤2
 ·exact tl va a w ha (by have:=(ak a 2).1 h2;rwa [show B ^ 2=1000000000000000000 from rfl] at this)
 ·obtain ⟨n,hn⟩:∃ n,(dg a).length=n:=⟨_,rfl⟩
  obtain ⟨P,hP⟩:∃ P,(n+1) / 4=P:=⟨_,rfl⟩
  have hP1:1≤P:=by omega
  have hP2:2*P<n:=by omega
  have hsh:∃ b off ca,va = .slice (some ⟨b,off,none⟩) n ca∧n≤ca:=by
   obtain ⟨p,cap,rfl,h1,h2,h3⟩:=ha
   obtain ⟨b,off,rfl,_⟩:=h3 (by intro e;rw [e] at hn;simp at hn;omega)
   exact ⟨b,off,cap,by rw [hn],by omega⟩
  obtain ⟨b,off,ca,rfl,hca⟩:=hsh
  have ha':Nats w (.slice (some ⟨b,off,none⟩) (dg a).length ca) (dg a):=by rw [hn];exact ha
  have hsub:=ha'.drop (k:=2*P) (by omega)
  rw [tD,hn] at hsub
  have hlen:(dg (a / B ^ (2*P))).length=n - 2*P:=by rw [←tD,List.length_drop,hn]
  have cr:=ih (n - 2*P) (by omega) _ (a / B ^ (2*P)) w hsub (Nat.le_of_eq hlen) (by omega)
  obtain ⟨r,hr⟩:∃ r,aj (a / B ^ (2*P))=r:=⟨_,rfl⟩
  have hrl:(dg r).length≤1000:=by
   have h1:=aC (show r≤a / B ^ (2*P) by rw [←hr];exact cz)
   omega
  have hst:aj a≤(r+1)*B ^ P:=r7 (by rw [←hr];exact cC _)
  rw [hr] at cr
  have cs:=fun v W (h:IsNat W v r)=>mu v (.slice (some ⟨W.heap.size,0,none⟩) 1 1) r 1 (W.alloc (.cells #[.int .u64 1] 143)) (h.next ((Below.refl _ W).alloc (Nat.le_refl _) _)) (uC W) (by omega) (by rw [show dg 1 = [1] by decide+kernel];decide)
  have ch:=fun v W (h:IsNat W v (r+1))=>qu v (r+1) P W h (by omega) (by have:=lG r;omega) (by omega)
  have CR:=Ha (Hb cr (Hb cs ch))
  have HA:=Ha (Hb ha (Hb hst hrl))
  have eP:((n:Int)+1) / 4=(P:Int):=by omega
  have hn2:¬ (n:Int)≤2:=by omega
  have hPn:(2:Int)*(P:Int)≤(n:Int):=by omega
  have HN:=Ha (Hb hn (Hb hl hL))
  have hnL:n≤1000:=by omega
  clear cr cs ch ih hsub ha' hlen hr hst hrl h2 hn hl hL ha hP
  go_enter Tryz.func173,Tryz.ntmps173
  go_wp2_with fail
  refine CR.out.1.mono ?_
  rintro e w1 ⟨v1,rfl,hv1,_,hb1⟩
  obtain ⟨p1,c1,rfl⟩:=hv1.shape
  have H1:=Ha (Hb hv1 hb1)
  have CS:=Ha (CR.out.2.1 _ w1 hv1)
  clear hv1 hb1
  go_wp2_with fail
  refine CS.out.mono ?_
  rintro e w2 ⟨v2,rfl,hv2,_,hb2⟩
  obtain ⟨p2,c2,rfl⟩:=hv2.shape
  have hB2:Below w.heap.size w w2:=H1.out.2.trans ((((Below.refl _ w1).alloc (Nat.le_refl _) _).trans (hb2.mono (by simp))).mono H1.out.2.size)
  have CH:=Ha (CR.out.2.2 _ w2 hv2)
  have H2:=Ha hB2
  clear hv2 hb2 hB2 CS H1 CR
  go_wp2_with fail
  refine CH.out.mono ?_
  rintro e w3 ⟨v3,rfl,hv3,hf3,hb3⟩
  have H3:=Ha (Hb hv3 (Hb (hf3.mono H2.out.size) (H2.out.trans (hb3.mono H2.out.size))))
  clear hv3 hf3 hb3 H2 CH
  go_wp2
  go_loopw [4] (fun x wr=>∃ (g:Nat),Hid (IsNat wr x g)∧Hid (aj a≤g∧0<g∧(dg g).length≤400000∧Fresh w.heap.size x)∧Hid (Below w.heap.size w wr))
   (fun x wr=>aX wr x)
  case atStart =>
   refine ⟨(r+1)*B ^ P,H3.out.1,⟨HA.out.2.1,Nat.mul_pos (Nat.succ_pos r) (Nat.pow_pos bP),?_,H3.out.2.1⟩,H3.out.2.2⟩
   have h1:=oi (r+1) P
   have h2:=lG r
   have h3:=HA.out.2.2
   omega
  case round =>
   clear H3
   obtain ⟨g,hg,hgb,hbel⟩:=hrel
   have ha3:=HA.out.1.next hbel.out
   have hal:(dg a).length≤900000:=by rw [HN.out.1];omega
   have cd:=cH _ _ a g wr ha3 hg.out (by have:=hgb.out.2.1;omega) hal
   have hql:(dg (a / g)).length≤1000:=by
    have:=aC (Nat.div_le_self a g)
    rw [HN.out.1] at this;omega
   have CD:=Ha cd
   have HQ:=Ha hql
   clear cd ha3 hal hql
   go_wp2_with fail
   refine CD.out.mono ?_
   rintro e w4 ⟨q,q0,rfl,hq,_,_,_,hb4⟩
   obtain ⟨pq,cq,rfl⟩:=hq.shape
   have H4:=Ha (Hb hq (Hb (hg.out.next hb4) (hbel.out.trans (hb4.mono hbel.out.size))))
   have CS:=Ha (mu _ _ g (a / g) w4 (hg.out.next hb4) hq (by have:=hgb.out.2.2.1;omega) (by have:=HQ.out;omega))
   clear hq hb4 CD
   go_wp2_with fail
   refine CS.out.mono ?_
   rintro e w5 ⟨s,rfl,hs,_,hb5⟩
   obtain ⟨ps,cs,rfl⟩:=hs.shape
   have hsl:(dg (g+a / g)).length≤1000000:=by
    have h1:=hgb.out.2.2.1
    have h2:=HQ.out
    rw [ak] at h1 h2 ⊢
    obtain ⟨k1,e1⟩:∃ k,k=1000:=⟨_,rfl⟩
    obtain ⟨k2,e2⟩:∃ k,k=400000:=⟨_,rfl⟩
    obtain ⟨k3,e3⟩:∃ k,k=1000000:=⟨_,rfl⟩
    rw [←e1] at h2
    rw [←e2] at h1
    rw [←e3]
    have h3:B ^ k1≤B ^ k2:=Nat.pow_le_pow_right bP (by omega)
    have h4:B ^ k2*B≤B ^ k3:=by rw [←Nat.pow_succ];exact Nat.pow_le_pow_right bP (by omega)
    have h5:B ^ k2*2≤B ^ k2*B:=Nat.mul_le_mul_left _ (by decide)
    clear e1 e2 e3
    generalize B ^ k1=X at *
    generalize B ^ k2=Y at *
    generalize B ^ k3=Z at *
    omega
   have ch:=fe _ (dg (g+a / g)) 2 w5 hs (aq _) hsl (by decide) (by decide)
   rw [ar] at ch
   have CH:=Ha ch
   have H5:=Ha (Hb (H4.out.2.1.next hb5) (H4.out.2.2.trans (hb5.mono H4.out.2.2.size)))
   clear hs hb5 CS ch H4 hsl
   go_wp2_with fail
   refine CH.out.mono ?_
   rintro e w6 ⟨x,rfl,hx,hxf,hb6⟩
   obtain ⟨px,cx,rfl⟩:=hx.shape
   have H6:=Ha (Hb hx (Hb (H5.out.1.next hb6) (Hb (hxf.mono H5.out.2.size) (H5.out.2.trans (hb6.mono H5.out.2.size)))))
   have CC:=Ha (eK _ _ _ _ w6 hx (H5.out.1.next hb6))
   clear hx hxf hb6 CH H5
   go_wp2_with fail
   refine CC.out.mono ?_
   rintro e w7 ⟨rfl,k,rfl⟩
   have HGB:=Ha (k9 a g hgb.out.2.1 (aj a) (cC a))
   clear CC
   by_cases hc:(g+a / g) / 2<g
   ·rw [dp hc]
    have HC:=Ha hc
    clear hc
    go_wp2
    go_roundw
    case rel =>
     refine ⟨(g+a / g) / 2,H6.out.1.next (Below.drewK _ _ _),⟨HGB.out,?_,?_,H6.out.2.2.1⟩,H6.out.2.2.2.trans (Below.drewK _ _ _)⟩
     ·have h1:=HGB.out
      have h2:0<aj a:=by
       rcases Nat.eq_zero_or_pos (aj a) with h | h
       ·exfalso
        have h3:=(cC a).2
        rw [h] at h3
        have h4:a=0:=by omega
        have h5:=HN.out.1
        rw [h4,av] at h5
        simp at h5
        omega
       ·exact h
      omega
     ·have:=aC (Nat.le_of_lt HC.out)
      have:=hgb.out.2.2.1
      omega
    case measure =>
     have e1:=aL (H6.out.1.next (Below.drewK w6.heap.size w6 k))
     have e2:=aL hg.out
     show aX _ (Value.slice px _ cx)<aX wr _
     rw [e1]
     refine Nat.lt_of_lt_of_eq HC.out e2.symm
   ·have hge:¬ bW ((g+a / g) / 2) g<0:=by
     unfold bW;rw [if_neg hc];split <;> omega
    have he:g=aj a:=lJ a g (aj a) hgb.out.2.1 (cC a) hgb.out.1 (by omega)
    generalize bW ((g+a / g) / 2) g=c at *
    have HE:=Ha he
    clear he hc
    go_wp2
    go_ret
    exact ⟨_,rfl,by rw [←HE.out];exact H6.out.2.1.next (Below.drewK _ _ _),hgb.out.2.2.2,H6.out.2.2.2.trans (Below.drewK _ _ _)⟩
theorem x8 (a b:ByteArray) (w:World) (k1:chk a.data.toList=0) (k2:chk b.data.toList=0) (s1:(szB a).size≤18) (s2:(szB b).size≤18) (ht:Tab w) :
  Calls Tryz.prog 190 #[.string a,.string b] w fun e W'=>e = .returned (.tuple #[.string (aa (Nat.gcd (ae (szL a.data.toList)) (ae (szL b.data.toList)):Nat)),.int .i64 0])∧Below w.heap.size w W':=by
 have q1:=bz k1
 have q2:=bz k2
 have cb:=bQ a b w (by unfold maxLen;omega) (by unfold maxLen;omega)
 have hc2:bC a.data.toList b.data.toList=0:=by unfold bC;rw [if_pos k1];exact k2
 rw [hc2] at cb
 have z1:=fE a
 have z2:=fE b
 have i1:=fun W=>bm (szB a) W (by unfold maxLen;omega)
 have i2:=fun W=>bm (szB b) W (by unfold maxLen;omega)
 have t1:decide (((szB a).size:Int)≤18)=true:=by simp;omega
 have t2:decide (((szB b).size:Int)≤18)=true:=by simp;omega
 rw [t1] at i1;rw [t2] at i2
 have m1:=fun W=>gw (szB a) W (by omega) (by rw [bU];exact bY k1)
 have m2:=fun W=>gw (szB b) W (by omega) (by rw [bU];exact bY k2)
 rw [bU] at m1 m2
 have v1:=iI _ (bY k1) (by have:=s1;rw [←ac,bU] at this;exact this)
 have v2:=iI _ (bY k2) (by have:=s2;rw [←ac,bU] at this;exact this)
 have y1:=fun W=>dj a W (by unfold maxLen;omega)
 have y2:=fun W=>dj b W (by unfold maxLen;omega)
 generalize ae (szL a.data.toList)=x at *
 generalize ae (szL b.data.toList)=y at *
 have dm:=fun W=>fM x y W (by omega) (by omega)
 have hg:Nat.gcd x y<1000000000000000000:=by
  by_cases h0:x=0
  ·subst h0;rw [Nat.gcd_zero_left];exact v2
  ·exact Nat.lt_of_le_of_lt (Nat.gcd_le_left _ (by omega)) v1
 generalize Nat.gcd x y=g at *
 have o1:=fun W (h:Below w.heap.size w W)=>dB (g:Nat) W (by omega) (by omega) (ht.next h)
 clear s1 s2
 generalize szB a=sa at *
 generalize szB b=sb at *
 have C:=Ha (Hb cb (Hb y1 (Hb y2 (Hb i1 (Hb i2 (Hb m1 (Hb m2 (Hb dm o1))))))))
 clear cb i1 i2 m1 m2 dm o1 y1 y2 v1 v2 t1 t2 hc2 ht k1 k2 z1 z2
 go_enter Tryz.func190,Tryz.ntmps190
 go_wp2_with fail
 refine C.out.1.mono ?_
 rintro e w' ⟨rfl,rfl⟩
 go_wp2_with fail
 refine (C.out.2.1 _).mono ?_
 rintro e w' ⟨rfl,rfl⟩
 go_wp2_with fail
 refine (C.out.2.2.1 _).mono ?_
 rintro e w' ⟨rfl,rfl⟩
 go_wp2_with fail
 refine (C.out.2.2.2.1 _).mono ?_
 rintro e w' ⟨rfl,rfl⟩
 go_wp2_with fail
 refine (C.out.2.2.2.2.1 _).mono ?_
 rintro e w' ⟨rfl,rfl⟩
 go_wp2_with fail
 refine (C.out.2.2.2.2.2.1 _).mono ?_
 rintro e w' ⟨rfl,rfl⟩
 go_wp2_with fail
 refine (C.out.2.2.2.2.2.2.1 _).mono ?_
 rintro e w' ⟨rfl,rfl⟩
 go_wp2_with fail
 refine (C.out.2.2.2.2.2.2.2.1 _).mono ?_
 rintro e w' ⟨rfl,nn,rfl⟩
 go_wp2_with fail
 refine (C.out.2.2.2.2.2.2.2.2 _ (Below.drewN' nn)).mono ?_
 rintro e w1 ⟨rfl,b1⟩
 have H1:=Ha ((Below.drewN' nn).trans (show Below w.heap.size (w.drewN nn) w1 from b1));clear b1 C
 go_wp2
 go_ret2
 exact ⟨rfl,H1.out⟩
theorem fF (l:List UInt8):(valOf l).natAbs=ae (szL l):=by rw [←fl,ia]
theorem gy (x:Int):ap (aa x).data.toList=decide (x<0):=by
 rw [ay];exact a6 x
theorem mG {x:Int} (hx:x.natAbs<lim):ae (szL (aa x).data.toList)=x.natAbs:=by
 rw [←fF,bB]
theorem uE {x:Int} (hx:x.natAbs<lim) (h:0≤x):ae (aa x).data.toList=x.natAbs:=by
 have h1:=mG hx
 have h2:szL (aa x).data.toList=(aa x).data.toList:=by
  unfold szL;rw [gy,decide_eq_false (by omega)];rfl
 rwa [h2] at h1
theorem vX (x:Int) (w:World) (h0:0≤x) (hx:x.natAbs<lim) (ht:Tab w) :
  Calls Tryz.prog 126 #[.string (aa x)] w fun e W'=>e = .returned (.tuple #[.string (aa (aj x.natAbs:Nat)),.int .i64 0])∧Below w.heap.size w W':=by
 have hs:=aG hx
 have hd:=bY (bX hx)
 have hneg:ap (aa x).data.toList=false:=by rw [gy];exact decide_eq_false (by omega)
 have hz:szL (aa x).data.toList=(aa x).data.toList:=by unfold szL;rw [hneg];rfl
 rw [hz] at hd
 have c0:=dV (aa x) w (by unfold maxLen;omega)
 rw [bX hx] at c0
 have c1:=fun W=>bT (aa x) W
 rw [hneg] at c1
 have c2:=fun W=>iy (aa x) W (by omega) hd
 have hn:=uE hx h0
 rw [hn] at c2
 have hr:aj x.natAbs<lim:=Nat.lt_of_le_of_lt cz hx
 have hl:(dg x.natAbs).length≤1000:=Nat.le_trans (fc hx) (by decide)
 generalize x.natAbs=n at *
 have c3:=fun v W (h:IsNat W v n)=>vW 1000 v n W h hl (Nat.le_refl _)
 have e1:fj (am false (aj n))=aa (aj n:Nat):=by unfold am;exact if_pos (by simpa using hr)
 have e2:fk (am false (aj n))=0:=by unfold am;exact if_pos (by simpa using hr)
 have tx:=fun v W (h:IsNat W v (aj n)) (hb:Below w.heap.size w W)=>iS false v (aj n) W h (Nat.le_trans (fc hr) (by decide)) (ht.next hb)
 rw [e1,e2] at tx
 have C:=Ha (Hb c0 (Hb c1 (Hb c2 (Hb c3 tx))))
 clear c0 c1 c2 c3 tx e1 e2 hr hl hn hd hz hneg hx h0 ht
 generalize aa x=sx at *
 generalize aj n=r at *
 go_enter Tryz.func126,Tryz.ntmps126
 go_wp2_with fail
 refine C.out.1.mono ?_
 rintro e w' ⟨rfl,rfl⟩
 go_wp2_with fail
 refine (C.out.2.1 _).mono ?_
 rintro e w' ⟨rfl,rfl⟩
 go_wp2_with fail
 refine (C.out.2.2.1 _).mono ?_
 rintro e w1 ⟨v1,rfl,h1,_,b1⟩
 have H1:=Ha (Hb h1 b1);clear h1 b1
 go_wp2_with fail
 refine (C.out.2.2.2.1 _ _ H1.out.1).mono ?_
 rintro e w2 ⟨v2,rfl,h2,_,b2⟩
 obtain ⟨p2,cap2,rfl⟩:=h2.shape
 have H2:=Ha (Hb h2 (H1.out.2.trans (b2.mono H1.out.2.size)));clear h2 b2 H1
 go_wp2_with fail
 refine (C.out.2.2.2.2 _ _ H2.out.1 H2.out.2).mono ?_
 rintro e w3 ⟨rfl,b3⟩
 have H3:=Ha (H2.out.2.trans (b3.mono H2.out.2.size));clear b3 H2 C
 go_wp2
 go_ret2
 exact ⟨rfl,H3.out⟩
theorem qv (x:Int) (w:World) (h0:x<0) (hx:x.natAbs<lim) :
  Calls Tryz.prog 126 #[.string (aa x)] w fun e W'=>e = .returned (.tuple #[.string ⟨#[]⟩,.int .i64 2])∧Below w.heap.size w W':=by
 have hs:=aG hx
 have hneg:ap (aa x).data.toList=true:=by rw [gy];exact decide_eq_true h0
 have c0:=dV (aa x) w (by unfold maxLen;omega)
 rw [bX hx] at c0
 have c1:=fun W=>bT (aa x) W
 rw [hneg] at c1
 have C:=Ha (Hb c0 c1)
 clear c0 c1 hneg hx h0
 generalize aa x=sx at *
 go_enter Tryz.func126,Tryz.ntmps126
 go_wp2_with fail
 refine C.out.1.mono ?_
 rintro e w' ⟨rfl,rfl⟩
 go_wp2_with fail
 refine (C.out.2 _).mono ?_
 rintro e w' ⟨rfl,rfl⟩
 go_wp2
 go_ret2
 exact ⟨rfl,Below.refl _ _⟩
end Go.Proofs.YtjdomibbaemdnaaGreatDoor
