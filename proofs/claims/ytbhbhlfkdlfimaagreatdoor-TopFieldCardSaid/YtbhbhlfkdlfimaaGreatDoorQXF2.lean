/- Parts of the proof. -/
import Derived.Test.YtbhbhlfkdlfimaaGreatDoorQX29
import Derived.Test.YtbhbhlfkdlfimaaGreatDoorQXF1
set_option linter.all false
set_option maxRecDepth 100000
set_option maxHeartbeats 8000000
namespace Go.Proofs.YtbhbhlfkdlfimaaGreatDoor.T
open Go.Proofs.YtbhbhlfkdlfimaaGreatDoor Go Go.RowKit
theorem Da (x y z:Rat):dn (x*z) (y*z)=dn x y*dn z 0:=by
 rcases kh x y with h | rfl | h <;> rcases kh z 0 with k | rfl | k
 ·have:=Rat.mul_pos (a:=y - x) (b := -z) (by grind) (by grind)
  rw [eO h,eO k,eU (by grind)];rfl
 ·rw [Rat.mul_zero,Rat.mul_zero,dJ,Int.mul_zero]
 ·have:=Rat.mul_pos (a:=y - x) (b:=z) (by grind) (by grind)
  rw [eO h,eU k,eO (by grind)];rfl
 ·rw [dJ,dJ,Int.zero_mul]
 ·rw [dJ,dJ,Int.zero_mul]
 ·rw [dJ,dJ,Int.zero_mul]
 ·have:=Rat.mul_pos (a:=x - y) (b := -z) (by grind) (by grind)
  rw [eU h,eO k,eO (by grind)];rfl
 ·rw [Rat.mul_zero,Rat.mul_zero,dJ,Int.mul_zero]
 ·have:=Rat.mul_pos (a:=x - y) (b:=z) (by grind) (by grind)
  rw [eU h,eU k,eU (by grind)];rfl
theorem GN (W:World):(Builtin.max_ #[26,26,26,26,26,26,26,26] 26 #[.int .i64 0,.int .i64 0,.int .i64 0,.int .i64 0,.int .i64 0,.int .i64 0,.int .i64 0,.int .i64 0]).run Tryz.prog W = .ok (.int .i64 0) W:=by kernel_rfl
theorem GO (W:World):(Builtin.max_ #[26,26,26,26,26,26,26] 26 #[.int .i64 0,.int .i64 0,.int .i64 0,.int .i64 0,.int .i64 0,.int .i64 0,.int .i64 0]).run Tryz.prog W = .ok (.int .i64 0) W:=by kernel_rfl
theorem GP (W:World):(Builtin.max_ #[26,26,26] 26 #[.int .i64 0,.int .i64 0,.int .i64 0]).run Tryz.prog W = .ok (.int .i64 0) W:=by kernel_rfl
theorem TopField_any (a b c:ByteArray) (w:World) (ha:a.size≤maxLen) (hb:b.size≤maxLen) (hc:c.size≤maxLen) (ht:Tab w) (ht2:aH w) (hS:Sm w) :
  Calls Tryz.prog 4 #[.string a,.string b,.string c] w fun e W'=>e = .returned (.bool true)∧Below w.heap.size w W':=by
 have hfin:=Ha (fun B W (hB:B<W.heap.size) (h0:W.cell? ⟨B,0,none⟩=some (.string a)) (h1:W.cell? ⟨B,1,none⟩=some (.string b)) (h2:W.cell? ⟨B,2,none⟩=some (.string c)) (h:Below w.heap.size w W)=>Ea a b c B W ha hb hc hB h0 h1 h2 (ht.next h))
 have oA:=fun W (h:Below w.heap.size w W)=>xp W (ht.next h) (ae ht2 h) (hS.next h)
 clear ha hb hc
 by_cases hf:(aQ a && aQ b && aQ c)=true
 ·rw [hf] at hfin
  obtain ⟨⟨fa,fb⟩,fc⟩:(aQ a=true∧aQ b=true)∧aQ c=true:=by simpa using hf
  obtain ⟨x,rfl,hx⟩:=kD fa
  obtain ⟨y,rfl,hy⟩:=kD fb
  obtain ⟨z,rfl,hz⟩:=kD fc
  clear hf fa fb fc
  have hxy:=(cH hx hy (by decide)).2.2
  have hyz:=(cH hy hz (by decide)).2.2
  have hxz:=(cH hx hz (by decide)).2.2
  have mxy:=(a8 hx hy (by decide)).2.2
  have mxz:=(a8 hx hz (by decide)).2.2
  have myz:=(a8 hy hz (by decide)).2.2
  have c1:=fun W (h:Below w.heap.size w W)=>j5 x y W (hx.lim (by decide)) (hy.lim (by decide)) (ht.next h) (ae ht2 h)
  rw [(cH hx hy (by decide)).1,(cH hx hy (by decide)).2.1] at c1
  have c2:=fun W (h:Below w.heap.size w W)=>j5 y x W (hy.lim (by decide)) (hx.lim (by decide)) (ht.next h) (ae ht2 h)
  rw [(cH hy hx (by decide)).1,(cH hy hx (by decide)).2.1,Rat.add_comm y x] at c2
  have c3:=fun W (h:Below w.heap.size w W)=>gz x y W (hx.lim (by decide)) (hy.lim (by decide)) (ht.next h) (ae ht2 h)
  rw [(a8 hx hy (by decide)).1,(a8 hx hy (by decide)).2.1] at c3
  have c4:=fun W (h:Below w.heap.size w W)=>gz y x W (hy.lim (by decide)) (hx.lim (by decide)) (ht.next h) (ae ht2 h)
  rw [(a8 hy hx (by decide)).1,(a8 hy hx (by decide)).2.1,Rat.mul_comm y x] at c4
  have c5:=fun W (h:Below w.heap.size w W)=>j5 y z W (hy.lim (by decide)) (hz.lim (by decide)) (ht.next h) (ae ht2 h)
  rw [(cH hy hz (by decide)).1,(cH hy hz (by decide)).2.1] at c5
  have c6:=fun W (h:Below w.heap.size w W)=>gz x (y+z) W (hx.lim (by decide)) (hyz.lim (by decide)) (ht.next h) (ae ht2 h)
  rw [(a8 hx hyz (by decide)).1,(a8 hx hyz (by decide)).2.1,Rat.mul_add] at c6
  have c7:=fun W (h:Below w.heap.size w W)=>gz x z W (hx.lim (by decide)) (hz.lim (by decide)) (ht.next h) (ae ht2 h)
  rw [(a8 hx hz (by decide)).1,(a8 hx hz (by decide)).2.1] at c7
  have c8:=fun W (h:Below w.heap.size w W)=>j5 (x*y) (x*z) W (mxy.lim (by decide)) (mxz.lim (by decide)) (ht.next h) (ae ht2 h)
  rw [(cH mxy mxz (by decide)).1,(cH mxy mxz (by decide)).2.1] at c8
  have c10:=fun W (h:Below w.heap.size w W)=>jS x y W (hx.lim (by decide)) (hy.lim (by decide)) (ht.next h) (ae ht2 h)
  rw [(gI hx hy (by decide)).1,(gI hx hy (by decide)).2] at c10
  have c11:=fun W (h:Below w.heap.size w W)=>j5 x z W (hx.lim (by decide)) (hz.lim (by decide)) (ht.next h) (ae ht2 h)
  rw [(cH hx hz (by decide)).1,(cH hx hz (by decide)).2.1] at c11
  have c13:=fun W (h:Below w.heap.size w W)=>jS (x+z) (y+z) W (hxz.lim (by decide)) (hyz.lim (by decide)) (ht.next h) (ae ht2 h)
  rw [(gI hxz hyz (by decide)).1,(gI hxz hyz (by decide)).2,AY] at c13
  have c14:=fun W (h:Below w.heap.size w W)=>jS z 0 W (hz.lim (by decide)) (jR.lim (by decide)) (ht.next h) (ae ht2 h)
  rw [(gI hz jR (by decide)).1,(gI hz jR (by decide)).2,gg] at c14
  have c15:=fun W (h:Below w.heap.size w W)=>gz y z W (hy.lim (by decide)) (hz.lim (by decide)) (ht.next h) (ae ht2 h)
  rw [(a8 hy hz (by decide)).1,(a8 hy hz (by decide)).2.1] at c15
  have c16:=fun W (h:Below w.heap.size w W)=>jS (x*z) (y*z) W (mxz.lim (by decide)) (myz.lim (by decide)) (ht.next h) (ae ht2 h)
  rw [(gI mxz myz (by decide)).1,(gI mxz myz (by decide)).2,Da] at c16
  have c17:=fun W (h:Below w.heap.size w W)=>nQ x W (hx.lim (by decide)) (ht.next h) (ae ht2 h)
  have sx:=hx.lim (by decide:20≤300)
  have c18:=fun W (h:Below w.heap.size w W)=>rF x.num x.den W sx.1 sx.2 (ht.next h)
  have hg:Nat.gcd x.num.natAbs ((x.den:Nat):Int).natAbs=1:=by rw [Int.natAbs_natCast];exact x.reduced
  rw [hg,show aa ((1:Nat):Int)=⟨#[49]⟩ from by decide+kernel] at c18
  have c19:=fun W=>nm (x.den:Int) 0 W sx.2 (by decide+kernel)
  have hd:bF ((x.den:Nat):Int) 0=1:=by have:=x.den_pos;unfold bF;rw [if_neg (by omega),if_pos (by omega)]
  rw [hd,show aa 0=⟨#[48]⟩ from by decide+kernel] at c19
  have k1:=oR x y
  have k2:=oR z 0
  have hw:IntKind.i64.wrap (dn x y*dn z 0)=dn x y*dn z 0:=by
   rcases k1 with ⟨h,_⟩ | ⟨h,_⟩ | ⟨h,_⟩ <;> rcases k2 with ⟨h',_⟩ | ⟨h',_⟩ | ⟨h',_⟩ <;> rw [h,h'] <;> decide
  have cZ:=fun W (h:Below w.heap.size w W)=>A1 (x*y) W (mxy.lim (by decide)) (ht.next h) (ae ht2 h)
  have cD:y≠0→∀ W,Below w.heap.size w W→Calls Tryz.prog 11 #[.string (af (x*y)),.string (af y)] W fun e W'=>e = .returned (.tuple #[.string (af x),.int .i64 0])∧Below W.heap.size W W':=fun h0 W h=>by
   have c:=xR (x*y) y W (mxy.lim (by decide)) (hy.lim (by decide)) h0 (ht.next h) (ae ht2 h)
   rwa [(iB mxy hy (by decide) h0).1,(iB mxy hy (by decide) h0).2.1,Rat.mul_div_cancel h0] at c
  have hz0:=oQ y
  have h48:y=0→af y=⟨#[48]⟩:=fun h=>by rw [h];exact gg
  have O:=Ha (Hb c1 (Hb c2 (Hb c3 (Hb c4 (Hb c5 (Hb c6 (Hb c7 (Hb c8 (Hb c10 (Hb c11 (Hb c13 (Hb c14 (Hb c15 (Hb c16 (Hb c17 (Hb c18 (Hb c19 (Hb cZ (Hb cD oA)))))))))))))))))))
  clear c1 c2 c3 c4 c5 c6 c7 c8 c10 c11 c13 c14 c15 c16 c17 c18 c19 cZ cD oA ht ht2 hS hx hy hz hxy hyz hxz mxy mxz myz sx k1 k2 hg hd
  have m8:=GN
  have m7:=GO
  have m3:=GP
  generalize dn x y=kk1 at *
  generalize dn z 0=kk2 at *
  generalize aa ((x.den:Nat):Int)=s_den at *
  generalize aa x.num=s_num at *
  generalize af (x*y+x*z)=s_dist at *
  generalize af (x+y)=s_axy at *
  generalize af (y+z)=s_ayz at *
  generalize af (x+z)=s_axz at *
  generalize af (x*y)=s_mxy at *
  generalize af (y*z)=s_myz at *
  generalize af (x*z)=s_mxz at *
  generalize af x=s_x at *
  generalize af y=s_y at *
  generalize af z=s_z at *
  go_enter Tryz.func4,Tryz.ntmps4
  go_wp2_with fail
  have B0:=(Below.refl w.heap.size w).alloc (Nat.le_refl _) (.cells #[.string s_x,.string s_y,.string s_z] 30)
  have K0:=Blk.new w #[.string s_x,.string s_y,.string s_z] 30
  generalize w.alloc (.cells #[.string s_x,.string s_y,.string s_z] 30)=v0 at *
  have HB:=Ha B0;clear B0
  refine (hfin.out _ _ K0.lt (K0.cell 0 _ rfl) (K0.cell 1 _ rfl) (K0.cell 2 _ rfl) HB.out).mono ?_
  rintro e W ⟨rfl,b⟩
  replace HB:=Ka HB b HB.out.size;clear b
  clear K0 hfin
  go_wp2_with fail
  refine (O.out.1 _ HB.out).mono ?_
  rintro e W ⟨rfl,b⟩
  replace HB:=Ka HB b HB.out.size;clear b
  go_wp2_with fail
  refine (O.out.2.1 _ HB.out).mono ?_
  rintro e W ⟨rfl,b⟩
  replace HB:=Ka HB b HB.out.size;clear b
  go_wp2_with fail
  refine (O.out.2.2.1 _ HB.out).mono ?_
  rintro e W ⟨rfl,b⟩
  replace HB:=Ka HB b HB.out.size;clear b
  go_wp2_with fail
  refine (O.out.2.2.2.1 _ HB.out).mono ?_
  rintro e W ⟨rfl,b⟩
  replace HB:=Ka HB b HB.out.size;clear b
  go_wp2_with fail
  refine (O.out.2.2.2.2.1 _ HB.out).mono ?_
  rintro e W ⟨rfl,b⟩
  replace HB:=Ka HB b HB.out.size;clear b
  go_wp2_with fail
  refine (O.out.2.2.2.2.2.1 _ HB.out).mono ?_
  rintro e W ⟨rfl,b⟩
  replace HB:=Ka HB b HB.out.size;clear b
  go_wp2_with fail
  refine (O.out.2.2.2.2.2.2.1 _ HB.out).mono ?_
  rintro e W ⟨rfl,b⟩
  replace HB:=Ka HB b HB.out.size;clear b
  go_wp2_with fail
  refine (O.out.2.2.2.2.2.2.2.1 _ HB.out).mono ?_
  rintro e W ⟨rfl,b⟩
  replace HB:=Ka HB b HB.out.size;clear b
  by_cases h0:y=0
  ·obtain rfl:=h48 h0;simp only [h0,decide_true] at hz0
   clear h48
   go_wp2_with fail
   refine (O.out.2.2.2.2.2.2.2.2.2.2.2.2.2.2.2.2.2.1 _ HB.out).mono ?_
   rintro e W ⟨rfl,b⟩
   replace HB:=Ka HB b HB.out.size;clear b
   go_wp2_with fail
   refine (O.out.2.2.2.2.2.2.2.2.1 _ HB.out).mono ?_
   rintro e W ⟨rfl,b⟩
   replace HB:=Ka HB b HB.out.size;clear b
   go_wp2_with fail
   refine (O.out.2.2.2.2.2.2.2.2.2.1 _ HB.out).mono ?_
   rintro e W ⟨rfl,b⟩
   replace HB:=Ka HB b HB.out.size;clear b
   go_wp2_with fail
   refine (O.out.2.2.2.2.1 _ HB.out).mono ?_
   rintro e W ⟨rfl,b⟩
   replace HB:=Ka HB b HB.out.size;clear b
   go_wp2_with fail
   refine (O.out.2.2.2.2.2.2.2.2.2.2.1 _ HB.out).mono ?_
   rintro e W ⟨rfl,b⟩
   replace HB:=Ka HB b HB.out.size;clear b
   go_wp2_with fail
   refine (O.out.2.2.2.2.2.2.2.2.2.2.2.1 _ HB.out).mono ?_
   rintro e W ⟨rfl,b⟩
   replace HB:=Ka HB b HB.out.size;clear b
   go_wp2_with fail
   refine (O.out.2.2.2.2.2.2.2.2.2.2.2.2.1 _ HB.out).mono ?_
   rintro e W ⟨rfl,b⟩
   replace HB:=Ka HB b HB.out.size;clear b
   go_wp2_with fail
   refine (O.out.2.2.2.2.2.2.2.2.2.2.2.2.2.1 _ HB.out).mono ?_
   rintro e W ⟨rfl,b⟩
   replace HB:=Ka HB b HB.out.size;clear b
   go_wp2_with fail
   refine (O.out.2.2.2.2.2.2.2.2.2.2.2.2.2.2.1 _ HB.out).mono ?_
   rintro e W ⟨rfl,b⟩
   replace HB:=Ka HB b HB.out.size;clear b
   go_wp2_with fail
   refine (O.out.2.2.2.2.2.2.2.2.2.2.2.2.2.2.2.1 _ HB.out).mono ?_
   rintro e W ⟨rfl,b⟩
   replace HB:=Ka HB b HB.out.size;clear b
   go_wp2_with fail
   refine (O.out.2.2.2.2.2.2.2.2.2.2.2.2.2.2.2.2.1 _).mono ?_
   rintro e W ⟨rfl,rfl⟩
   go_wp2_with fail
   refine (O.out.2.2.2.2.2.2.2.2.2.2.2.2.2.2.2.2.2.2.2 _ HB.out).mono ?_
   rintro e W ⟨rfl,b⟩
   replace HB:=Ka HB b HB.out.size;clear b
   go_wp2
   go_ret
   exact ⟨rfl,HB.out⟩
  ·rw [decide_eq_false h0] at hz0
   have cD:=Ha (O.out.2.2.2.2.2.2.2.2.2.2.2.2.2.2.2.2.2.2.1 h0)
   go_wp2_with fail
   refine (cD.out _ HB.out).mono ?_
   rintro e W ⟨rfl,b⟩
   replace HB:=Ka HB b HB.out.size;clear b
   go_wp2_with fail
   refine (O.out.2.2.2.2.2.2.2.2.1 _ HB.out).mono ?_
   rintro e W ⟨rfl,b⟩
   replace HB:=Ka HB b HB.out.size;clear b
   go_wp2_with fail
   refine (O.out.2.2.2.2.2.2.2.2.2.1 _ HB.out).mono ?_
   rintro e W ⟨rfl,b⟩
   replace HB:=Ka HB b HB.out.size;clear b
   go_wp2_with fail
   refine (O.out.2.2.2.2.1 _ HB.out).mono ?_
   rintro e W ⟨rfl,b⟩
   replace HB:=Ka HB b HB.out.size;clear b
   go_wp2_with fail
   refine (O.out.2.2.2.2.2.2.2.2.2.2.1 _ HB.out).mono ?_
   rintro e W ⟨rfl,b⟩
   replace HB:=Ka HB b HB.out.size;clear b
   go_wp2_with fail
   refine (O.out.2.2.2.2.2.2.2.2.2.2.2.1 _ HB.out).mono ?_
   rintro e W ⟨rfl,b⟩
   replace HB:=Ka HB b HB.out.size;clear b
   go_wp2_with fail
   refine (O.out.2.2.2.2.2.2.2.2.2.2.2.2.1 _ HB.out).mono ?_
   rintro e W ⟨rfl,b⟩
   replace HB:=Ka HB b HB.out.size;clear b
   go_wp2_with fail
   refine (O.out.2.2.2.2.2.2.2.2.2.2.2.2.2.1 _ HB.out).mono ?_
   rintro e W ⟨rfl,b⟩
   replace HB:=Ka HB b HB.out.size;clear b
   go_wp2_with fail
   refine (O.out.2.2.2.2.2.2.2.2.2.2.2.2.2.2.1 _ HB.out).mono ?_
   rintro e W ⟨rfl,b⟩
   replace HB:=Ka HB b HB.out.size;clear b
   go_wp2_with fail
   refine (O.out.2.2.2.2.2.2.2.2.2.2.2.2.2.2.2.1 _ HB.out).mono ?_
   rintro e W ⟨rfl,b⟩
   replace HB:=Ka HB b HB.out.size;clear b
   go_wp2_with fail
   refine (O.out.2.2.2.2.2.2.2.2.2.2.2.2.2.2.2.2.1 _).mono ?_
   rintro e W ⟨rfl,rfl⟩
   go_wp2_with fail
   refine (O.out.2.2.2.2.2.2.2.2.2.2.2.2.2.2.2.2.2.2.2 _ HB.out).mono ?_
   rintro e W ⟨rfl,b⟩
   replace HB:=Ka HB b HB.out.size;clear b
   go_wp2
   go_ret
   exact ⟨rfl,HB.out⟩
 ·rw [show (aQ a && aQ b && aQ c)=false by simpa using hf] at hfin
  have O:=Ha oA;clear oA ht ht2 hS hf
  go_enter Tryz.func4,Tryz.ntmps4
  go_wp2_with fail
  have B0:=(Below.refl w.heap.size w).alloc (Nat.le_refl _) (.cells #[.string a,.string b,.string c] 30)
  have K0:=Blk.new w #[.string a,.string b,.string c] 30
  generalize w.alloc (.cells #[.string a,.string b,.string c] 30)=v0 at *
  have HB:=Ha B0;clear B0
  refine (hfin.out _ _ K0.lt (K0.cell 0 _ rfl) (K0.cell 1 _ rfl) (K0.cell 2 _ rfl) HB.out).mono ?_
  rintro e W ⟨rfl,b⟩
  replace HB:=Ka HB b HB.out.size;clear b
  clear K0 hfin
  go_wp2_with fail
  refine (O.out _ HB.out).mono ?_
  rintro e W ⟨rfl,b⟩
  replace HB:=Ka HB b HB.out.size;clear b
  go_wp2
  go_ret
  exact ⟨rfl,HB.out⟩
end Go.Proofs.YtbhbhlfkdlfimaaGreatDoor.T
