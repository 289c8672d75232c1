/- Parts of the proof of the text YtocalfjfjjljnaaGreatDoorZO44. -/
import Derived.Test.YtocalfjfjjljnaaGreatDoorZO1
import Derived.Test.YtocalfjfjjljnaaGreatDoorZO30
set_option linter.all false
set_option maxRecDepth 100000
set_option maxHeartbeats 8000000
namespace Go.Proofs.YtocalfjfjjljnaaGreatDoor
namespace R
open Go.RowKit
theorem iN (l:List UInt8):valOf l=ak (af l) (ad (szL l)):=(eZ l).symm
theorem it {l:List UInt8} (h:chk l=0) (hl:l.length≤17) : -100000000000000000<valOf l∧valOf l<100000000000000000:=by
 have h1:=dK (szL l) (cP h) (szL l).length (Nat.le_trans (dT l) hl)
 rw [List.take_length] at h1
 rw [cF];split <;> omega
theorem pC {l:List UInt8} (h:chk l=0):(valOf l).natAbs<10 ^ l.length:=by
 rw [gi]
 exact Nat.lt_of_lt_of_le (bg _ (cP h)) (Nat.pow_le_pow_right (by decide) (dT l))
theorem Cw {a b:List UInt8} (ha:chk a=0) (hb:chk b=0) (h:a.length+b.length≤18) : -1000000000000000000<valOf a*valOf b∧valOf a*valOf b<1000000000000000000:=by
 have h1:=pC ha
 have h2:=pC hb
 have h3:(valOf a).natAbs*(valOf b).natAbs≤10 ^ a.length*10 ^ b.length:=Nat.mul_le_mul (Nat.le_of_lt h1) (Nat.le_of_lt h2)
 have h4:(valOf a).natAbs*(valOf b).natAbs<10 ^ a.length*10 ^ b.length:=by
  rcases Nat.eq_zero_or_pos (valOf a).natAbs with h | h
  ·rw [h,Nat.zero_mul];exact Nat.mul_pos (Nat.pow_pos (by decide)) (Nat.pow_pos (by decide))
  ·exact Nat.lt_of_lt_of_le (Nat.mul_lt_mul_of_pos_left h2 h) (Nat.mul_le_mul_right _ (Nat.le_of_lt h1))
 rw [←Nat.pow_add,←Int.natAbs_mul] at h4
 have h5:10 ^ (a.length+b.length)≤10 ^ 18:=Nat.pow_le_pow_right (by decide) h
 have h6:(10:Nat) ^ 18=1000000000000000000:=by decide
 omega
theorem mp {z:Int} (h0 : -1000000000000000000<z) (h1:z<1000000000000000000):fH z=aa z∧fI z=0:=by
 have h:z.natAbs<lim:=jY (by omega)
 exact ⟨if_pos h,if_pos h⟩
theorem u9 {e:Int} (h:e≠0) (z:Int):qM e z=⟨#[]⟩∧qN e z=e:=⟨if_neg h,if_neg h⟩
theorem qv (z:Int):qM 0 z=fH z∧qN 0 z=fI z:=⟨if_pos rfl,if_pos rfl⟩
theorem Mul_any (a b:ByteArray) (w:World) (ha:a.size≤1000) (hb:b.size≤1000) (ht:Tab w) :
  Calls Tryz.prog 142 #[.string a,.string b] w fun e W'=>e = .returned (.tuple #[.string (qM (bo a.data.toList b.data.toList) (valOf a.data.toList*valOf b.data.toList)),.int .i64 (qN (bo a.data.toList b.data.toList) (valOf a.data.toList*valOf b.data.toList))])∧Below w.heap.size w W':=by
 have cb:=gr a b w (by unfold maxLen;omega) (by unfold maxLen;omega)
 by_cases hc:bo a.data.toList b.data.toList=0
 ·obtain ⟨k1,k2⟩:=d9 hc
  rw [hc] at cb
  rw [hc,(qv _).1,(qv _).2]
  have CB:=Ha cb
  clear cb hc
  by_cases hs:a.size+b.size≤18∧a.size≤17∧b.size≤17
  ·obtain ⟨hs,hs1,hs2⟩:=hs
   have ct:=ls a b w hs1 hs2 k1 k2
   have hm:=Cw k1 k2 (by rw [ac,ac];exact hs)
   obtain ⟨e1,e2⟩:=mp hm.1 hm.2
   have b1:=it k1 (by rw [ac];omega)
   have b2:=it k2 (by rw [ac];omega)
   rw [e1,e2]
   clear e1 e2 k1 k2
   generalize valOf a.data.toList=x at *
   generalize valOf b.data.toList=y at *
   have ci:=fun W (h:Below w.heap.size w W)=>jy (x*y) W (by omega) (by omega) (ht.next h)
   have C:=Ha (Hb ct ci)
   obtain ⟨m1,m2⟩:=hm
   clear ct ci ht
   go_enter Tryz.func142,Tryz.ntmps142
   go_wp2_with fail
   refine CB.out.mono ?_
   rintro e w' ⟨rfl,rfl⟩
   go_wp2_with fail
   refine C.out.1.mono ?_
   rintro e w' ⟨rfl,rfl⟩
   go_wp2_with fail
   refine (C.out.2 _ (Below.refl _ _)).mono ?_
   rintro e w1 ⟨rfl,hb1⟩
   have HB:=Ha hb1
   clear hb1
   go_wp2
   go_ret2
   exact ⟨rfl,HB.out⟩
  ·have n1:=gF (bW k1)
   have n2:=gF (bW k2)
   have r1:=fun W=>bP a W (by omega) k1
   have r2:=fun W=>bP b W (by omega) k2
   rw [iN,iN]
   have HT:=Ha (show (a.size≤17∧b.size≤17)∨¬ (a.size≤17∧b.size≤17) from Classical.em _)
   have t1:=fun h:a.size≤17∧b.size≤17=>ls a b w h.1 h.2 k1 k2
   have t2:=fun h:¬ (a.size≤17∧b.size≤17)=>qp a b w h k1 (by unfold maxLen;omega) (by unfold maxLen;omega)
   have CT:=Ha (Hb t1 t2)
   clear t1 t2
   generalize af a.data.toList=na at *
   generalize af b.data.toList=nb at *
   generalize ad (szL a.data.toList)=x at *
   generalize ad (szL b.data.toList)=y at *
   have cm:=fun va vb W (h1:IsNat W va x) (h2:IsNat W vb y)=>Ay na nb va vb x y W h1 h2 (by omega) (by omega)
   have hxy:(dg (x*y)).length≤10000:=by
    refine (an _ _).2 ?_
    have q1:=(an x 50).1 n1
    have q2:=(an y 50).1 n2
    refine Nat.lt_of_lt_of_le (Nat.mul_lt_mul'' q1 q2) ?_
    rw [←Nat.pow_add]
    exact Ei (50+50) 10000 (by decide)
   have cr:=fun ng v W (h:IsNat W v (x*y))=>aO ng v (x*y) W h hxy
   have C:=Ha (Hb r1 (Hb r2 (Hb cm cr)))
   clear r1 r2 cm cr k1 k2 n1 n2 hxy
   rcases HT.out with hs1 | hs1
   ·have hsum:¬ ((a.size:Int)+b.size≤18):=by omega
    have CT2:=Ha (CT.out.1 hs1)
    clear CT
    generalize valOf a.data.toList=zx at *
    generalize valOf b.data.toList=zy at *
    go_enter Tryz.func142,Tryz.ntmps142
    go_wp2_with fail
    refine CB.out.mono ?_
    rintro e w' ⟨rfl,rfl⟩
    go_wp2_with fail
    refine CT2.out.mono ?_
    rintro e w' ⟨rfl,rfl⟩
    go_wp2_with fail
    refine (C.out.1 _).mono ?_
    rintro e w1 ⟨va,rfl,hva,_,hb1⟩
    have H1:=Ha (Hb hva hb1)
    clear hva hb1
    go_wp2_with fail
    refine (C.out.2.1 _).mono ?_
    rintro e w2 ⟨vb,rfl,hvb,_,hb2⟩
    have H2:=Ha (Hb (H1.out.1.next hb2) (Hb hvb (H1.out.2.trans (hb2.mono H1.out.2.size))))
    clear hvb hb2 H1
    go_wp2_with fail
    refine (C.out.2.2.1 _ _ _ H2.out.1 H2.out.2.1).mono ?_
    rintro e w3 ⟨ng,v,rfl,hv,hz,_,hb3⟩
    have H3:=Ha (Hb hv (Hb hz (H2.out.2.2.trans (hb3.mono H2.out.2.2.size))))
    clear hv hz hb3 H2
    go_wp2_with fail
    refine (C.out.2.2.2 _ _ _ H3.out.1).mono ?_
    rw [H3.out.2.1]
    rintro e w4 ⟨rfl,hb4⟩
    have H4:=Ha (H3.out.2.2.trans (hb4.mono H3.out.2.2.size))
    clear hb4 H3 C
    go_wp2
    go_ret2
    exact ⟨rfl,H4.out⟩
   ·have CT2:=Ha (CT.out.2 hs1)
    clear CT
    go_enter Tryz.func142,Tryz.ntmps142
    go_wp2_with fail
    refine CB.out.mono ?_
    rintro e w' ⟨rfl,rfl⟩
    go_wp2_with fail
    refine CT2.out.mono ?_
    rintro e w' ⟨tx,ty,rfl,rfl⟩
    go_wp2_with fail
    refine (C.out.1 _).mono ?_
    rintro e w1 ⟨va,rfl,hva,_,hb1⟩
    have H1:=Ha (Hb hva hb1)
    clear hva hb1
    go_wp2_with fail
    refine (C.out.2.1 _).mono ?_
    rintro e w2 ⟨vb,rfl,hvb,_,hb2⟩
    have H2:=Ha (Hb (H1.out.1.next hb2) (Hb hvb (H1.out.2.trans (hb2.mono H1.out.2.size))))
    clear hvb hb2 H1
    go_wp2_with fail
    refine (C.out.2.2.1 _ _ _ H2.out.1 H2.out.2.1).mono ?_
    rintro e w3 ⟨ng,v,rfl,hv,hz,_,hb3⟩
    have H3:=Ha (Hb hv (Hb hz (H2.out.2.2.trans (hb3.mono H2.out.2.2.size))))
    clear hv hz hb3 H2
    go_wp2_with fail
    refine (C.out.2.2.2 _ _ _ H3.out.1).mono ?_
    rw [H3.out.2.1]
    rintro e w4 ⟨rfl,hb4⟩
    have H4:=Ha (H3.out.2.2.trans (hb4.mono H3.out.2.2.size))
    clear hb4 H3 C
    go_wp2
    go_ret2
    exact ⟨rfl,H4.out⟩
 ·have CB:=Ha cb
  obtain ⟨o1,o2⟩:=u9 hc (valOf a.data.toList*valOf b.data.toList)
  rw [o1,o2]
  clear o1 o2 cb
  generalize bo a.data.toList b.data.toList=c at *
  have hn:(c != 0)=true:=by rw [bne_iff_ne];exact hc
  clear hc
  go_enter Tryz.func142,Tryz.ntmps142
  go_wp2_with fail
  refine CB.out.mono ?_
  rintro e w' ⟨rfl,rfl⟩
  go_wp2
  go_ret2
  exact ⟨rfl,Below.refl _ _⟩
end R
namespace R
open Go.RowKit
theorem qw (a b:ByteArray) (w:World) (hs1:a.size≤17) (hs2:b.size≤17) (k1:chk a.data.toList=0) (k2:chk b.data.toList=0) (h0:valOf b.data.toList≠0) (ht:Tab w) :
   Calls Tryz.prog 59 #[.string a,.string b] w fun e W'=>e = .returned (.tuple #[.string (aa ((valOf a.data.toList).fdiv (valOf b.data.toList))),.string (aa ((valOf a.data.toList).fmod (valOf b.data.toList))),.int .i64 0])∧Below w.heap.size w W':=by
 have cb:=gr a b w (by unfold maxLen;omega) (by unfold maxLen;omega)
 have hc2:bo a.data.toList b.data.toList=0:=by unfold bo;rw [if_pos k1];exact k2
 rw [hc2] at cb
 have hb48:(b.toList == [48])=false:=by
   rw [ByteArray.toList_eq,beq_eq_false_iff_ne]
   intro e;rw [e] at h0;exact h0 rfl
 have ct:=ls a b w hs1 hs2 k1 k2
 have b1:=it k1 (by rw [ac];omega)
 have b2:=it k2 (by rw [ac];omega)
 have C:=Ha (Hb cb ct)
 have HT:=Ha ht
 clear cb ct k1 k2 hc2 ht
 generalize valOf a.data.toList=x at *
 generalize valOf b.data.toList=y at *
 obtain ⟨x0,x1⟩:=b1
 obtain ⟨y0,y1⟩:=b2
 have hq:=qs x y (by omega) (by omega)
 have hr:=qt x y (by omega) (by omega)
 have hz:(y==0)=false:=by rw [beq_eq_false_iff_ne];exact h0
 have e1:=Ha (fun h => @fY x y h0 h)
 have e2:=Ha (fun h h' => @fe x y h0 h h')
 have ci:=Ha (fun (z:Int) W (h1 : -1000000000000000001<z) (h2:z<1000000000000000001) (h:Below w.heap.size w W)=>jy z W (by omega) (by omega) (HT.out.next h))
 obtain ⟨q0,q1⟩:=hq
 obtain ⟨r0,r1⟩:=hr
 go_enter Tryz.func59,Tryz.ntmps59
 go_wp2_with fail
 refine C.out.1.mono ?_
 rintro e w' ⟨rfl,rfl⟩
 go_wp2_with fail
 refine C.out.2.mono ?_
 rintro e w' ⟨rfl,rfl⟩
 go_wp2
 go_quiet (fail)
 have HB0:=Ha (Below.drewK w.heap.size w nq)
 clear hb48 hz h0
 generalize x.tdiv y=q at *
 generalize x.tmod y=r at *
 generalize w.drewN nq=w0 at *
 by_cases c0:r=0
 · have c1:(r != 0)=false:=by simpa using c0
   obtain ⟨f1,f2⟩:=e1.out (.inl c0)
   have F:=Ha (Hb f1 f2)
   clear f1 f2 c0 e1 e2
   go_wp2_with fail
   refine (ci.out q _ (by omega) (by omega) HB0.out).mono ?_
   rintro e w1 ⟨rfl,hb1⟩
   have HB1:=Ha (HB0.out.trans (hb1.mono HB0.out.size))
   clear hb1
   go_wp2_with fail
   refine (ci.out r _ (by omega) (by omega) HB1.out).mono ?_
   rintro e w2 ⟨rfl,hb2⟩
   have HB2:=Ha (HB1.out.trans (hb2.mono HB1.out.size))
   clear hb2
   go_wp2
   go_ret3
   exact ⟨by rw [F.out.1,F.out.2];rfl,HB2.out⟩
 · have c1:(r != 0)=true:=by simpa using c0
   by_cases c2:r<0 <;> by_cases c3:y<0
   all_goals
     first
     | (obtain ⟨f1,f2⟩:=e1.out (.inr (by omega))
        have F:=Ha (Hb f1 f2)
        clear f1 f2 c0 e1 e2
        go_wp2_with fail
        refine (ci.out q _ (by omega) (by omega) HB0.out).mono ?_
        rintro e w1 ⟨rfl,hb1⟩
        have HB1:=Ha (HB0.out.trans (hb1.mono HB0.out.size))
        clear hb1
        go_wp2_with fail
        refine (ci.out r _ (by omega) (by omega) HB1.out).mono ?_
        rintro e w2 ⟨rfl,hb2⟩
        have HB2:=Ha (HB1.out.trans (hb2.mono HB1.out.size))
        clear hb2
        go_wp2
        go_ret3
        exact ⟨by rw [F.out.1,F.out.2];rfl,HB2.out⟩)
     | (obtain ⟨f1,f2⟩:=e2.out c0 (by omega)
        have F:=Ha (Hb f1 f2)
        clear f1 f2 c0 e1 e2
        go_wp2_with fail
        refine (ci.out (q - 1) _ (by omega) (by omega) HB0.out).mono ?_
        rintro e w1 ⟨rfl,hb1⟩
        have HB1:=Ha (HB0.out.trans (hb1.mono HB0.out.size))
        clear hb1
        go_wp2_with fail
        refine (ci.out (r+y) _ (by omega) (by omega) HB1.out).mono ?_
        rintro e w2 ⟨rfl,hb2⟩
        have HB2:=Ha (HB1.out.trans (hb2.mono HB1.out.size))
        clear hb2
        go_wp2
        go_ret3
        exact ⟨by rw [F.out.1,F.out.2];rfl,HB2.out⟩)
end R
end Go.Proofs.YtocalfjfjjljnaaGreatDoor
