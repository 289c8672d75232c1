/- Parts of the proof of the text YtocalfjfjjljnaaGreatDoorZO44. -/
import Derived.Test.YtocalfjfjjljnaaGreatDoorZO1
import Derived.Test.YtocalfjfjjljnaaGreatDoorZO32
import Derived.Test.YtocalfjfjjljnaaGreatDoorZO34
set_option linter.all false
set_option maxRecDepth 100000
set_option maxHeartbeats 8000000
namespace Go.Proofs.YtocalfjfjjljnaaGreatDoor
section
open Go.RowKit
theorem yv (x:Rat):sN (cW x)=Lib.itoa (x.num.natAbs:Int):=by
 rw [←(pR (cW x)).2,(di x).1,iY]
 unfold Lib.itoa
 rw [if_neg (by omega)];rfl
theorem yw (x:Rat):bsN (ag x)=aa (x.num.natAbs:Int):=aK (by rw [jp,be,aB,yv])
theorem pF (x:Rat):bR (ag x).data.toList=decide (x.den≠1):=by rw [be];exact (di x).2.2
theorem ot (x:Rat):bsD (ag x)=if x.den=1 then ⟨#[]⟩ else aa (x.den:Int):=by
 apply aK
 rw [iw]
 unfold sD
 rw [pF]
 by_cases h:x.den=1
 ·rw [if_pos h,if_neg (by simp [h])]
 ·rw [if_neg h,if_pos (by simp [h]),be,(di x).2.1,aB]
theorem qB (x:Rat) (w:World) (hx:Sq x) :
  Calls Tryz.prog 64 #[.string (ag x)] w fun e w'=>e = .returned (.tuple #[.bool (decide (x.num<0)),.string (aa (x.num.natAbs:Int)),.string (bsD (ag x)),.bool (decide (x.den≠1))])∧Below w.heap.size w w':=by
 have c:=ol (ag x) w hx.size
 have h:af (ag x).data.toList=decide (x.num<0):=by
  rw [rK]
  apply decide_eq_decide.2
  rw [←Rat.not_le,←Rat.num_nonneg];omega
 rwa [h,yw,pF] at c
theorem qC (k:Nat):ad (aa (k:Int)).data.toList=k:=by
 rw [aB];unfold Lib.itoa;rw [if_neg (by omega)];exact bY k
theorem qD (k:Nat):(aa (k:Int)).data.toList.all aj=true:=by
 rw [aB,List.all_eq_true];unfold Lib.itoa;rw [if_neg (by omega)];exact aG _
theorem lC (k:Nat) (w:World) (h:(aa (k:Int)).size≤18) :
  Calls Tryz.prog 76 #[.string (aa (k:Int))] w fun e w'=>e = .returned (.int .i64 (k:Int))∧w=w':=by
 have c:=kG (aa (k:Int)) w h (qD k)
 rwa [qC] at c
theorem jV {k j:Nat} (h:(aa (k:Int)).size≤j):k<aA j:=by
 have h1:=cV (aa (k:Int)).data.toList (fun c hc=>List.all_eq_true.1 (qD k) c hc)
 rw [qC,ac] at h1
 exact Nat.lt_of_lt_of_le h1 (ay h)
theorem yx (s n d:ByteArray) (m f:Bool) (w:World) (h1:(9:Int)<n.size) (hs:∀ W,Calls Tryz.prog 64 #[.string s] W fun e w'=>e = .returned (.tuple #[.bool m,.string n,.string d,.bool f])∧Below W.heap.size W w') :
  Calls Tryz.prog 55 #[.string s] w fun e w'=>e = .returned (.tuple #[.int .i64 0,.int .i64 0,.bool false])∧Below w.heap.size w w':=by
 have C:=Ha hs;clear hs
 go_enter Tryz.func55,Tryz.ntmps55
 go_wp2_with fail
 refine (C.out _).mono ?_
 rintro e w1 ⟨rfl,b⟩
 have B1:=Ha b;clear b
 go_wp2
 go_ret3
 exact ⟨rfl,B1.out⟩
theorem yy (s n d:ByteArray) (m f:Bool) (w:World) (h1:¬ (9:Int)<n.size) (h2:(9:Int)<d.size) (hs:∀ W,Calls Tryz.prog 64 #[.string s] W fun e w'=>e = .returned (.tuple #[.bool m,.string n,.string d,.bool f])∧Below W.heap.size W w') :
  Calls Tryz.prog 55 #[.string s] w fun e w'=>e = .returned (.tuple #[.int .i64 0,.int .i64 0,.bool false])∧Below w.heap.size w w':=by
 have C:=Ha hs;clear hs
 go_enter Tryz.func55,Tryz.ntmps55
 go_wp2_with fail
 refine (C.out _).mono ?_
 rintro e w1 ⟨rfl,b⟩
 have B1:=Ha b;clear b
 go_wp2
 go_ret3
 exact ⟨rfl,B1.out⟩
theorem AC (s n d:ByteArray) (x y:Nat) (w:World) (hx:x<1000000000) (h1:¬ (9:Int)<n.size) (h2:¬ (9:Int)<d.size) (hs:∀ W,Calls Tryz.prog 64 #[.string s] W fun e w'=>e = .returned (.tuple #[.bool false,.string n,.string d,.bool false])∧Below W.heap.size W w')
  (cx:∀ W,Calls Tryz.prog 76 #[.string n] W fun e w'=>e = .returned (.int .i64 (x:Int))∧W=w') :
  Calls Tryz.prog 55 #[.string s] w fun e w'=>e = .returned (.tuple #[.int .i64 (x:Int),.int .i64 1,.bool true])∧Below w.heap.size w w':=by
 have C:=Ha (Hb hs (Hb cx trivial));clear hs cx
 go_enter Tryz.func55,Tryz.ntmps55
 go_wp2_with fail
 refine (C.out.1 _).mono ?_
 rintro e w1 ⟨rfl,b⟩
 have B1:=Ha b;clear b
 go_wp2_with fail
 refine (C.out.2.1 _).mono ?_
 rintro e w' ⟨rfl,rfl⟩
 go_wp2
 go_ret3
 exact ⟨rfl,B1.out⟩
theorem yz (s n d:ByteArray) (w:World) (h1:n.size≤1000) (hs:∀ W,Calls Tryz.prog 64 #[.string s] W fun e w'=>e = .returned (.tuple #[.bool false,.string n,.string d,.bool false])∧Below W.heap.size W w') :
  Calls Tryz.prog 57 #[.string s] w fun e w'=>e = .returned (.tuple #[.string n,.string ⟨#[49]⟩])∧Below w.heap.size w w':=by
 have C:=Ha hs;clear hs
 go_enter Tryz.func57,Tryz.ntmps57
 go_wp2_with fail
 refine (C.out _).mono ?_
 rintro e w1 ⟨rfl,b⟩
 have B1:=Ha b;clear b
 go_wp2
 go_ret2
 exact ⟨rfl,B1.out⟩
theorem AD (s n d:ByteArray) (x y:Nat) (w:World) (hx:x<1000000000) (h1:¬ (9:Int)<n.size) (h2:¬ (9:Int)<d.size) (hs:∀ W,Calls Tryz.prog 64 #[.string s] W fun e w'=>e = .returned (.tuple #[.bool false,.string n,.string d,.bool true])∧Below W.heap.size W w')
  (cx:∀ W,Calls Tryz.prog 76 #[.string n] W fun e w'=>e = .returned (.int .i64 (x:Int))∧W=w') (cy:∀ W,Calls Tryz.prog 76 #[.string d] W fun e w'=>e = .returned (.int .i64 (y:Int))∧W=w') :
  Calls Tryz.prog 55 #[.string s] w fun e w'=>e = .returned (.tuple #[.int .i64 (x:Int),.int .i64 (y:Int),.bool true])∧Below w.heap.size w w':=by
 have C:=Ha (Hb hs (Hb cx cy));clear hs cx cy
 go_enter Tryz.func55,Tryz.ntmps55
 go_wp2_with fail
 refine (C.out.1 _).mono ?_
 rintro e w1 ⟨rfl,b⟩
 have B1:=Ha b;clear b
 go_wp2_with fail
 refine (C.out.2.1 _).mono ?_
 rintro e w' ⟨rfl,rfl⟩
 go_wp2_with fail
 refine (C.out.2.2 _).mono ?_
 rintro e w' ⟨rfl,rfl⟩
 go_wp2
 go_ret3
 exact ⟨rfl,B1.out⟩
theorem yA (s n d:ByteArray) (w:World) (h1:n.size≤1000) (hs:∀ W,Calls Tryz.prog 64 #[.string s] W fun e w'=>e = .returned (.tuple #[.bool false,.string n,.string d,.bool true])∧Below W.heap.size W w') :
  Calls Tryz.prog 57 #[.string s] w fun e w'=>e = .returned (.tuple #[.string n,.string d])∧Below w.heap.size w w':=by
 have C:=Ha hs;clear hs
 go_enter Tryz.func57,Tryz.ntmps57
 go_wp2_with fail
 refine (C.out _).mono ?_
 rintro e w1 ⟨rfl,b⟩
 have B1:=Ha b;clear b
 go_wp2
 go_ret2
 exact ⟨rfl,B1.out⟩
theorem AE (s n d:ByteArray) (x y:Nat) (w:World) (hx:x<1000000000) (h1:¬ (9:Int)<n.size) (h2:¬ (9:Int)<d.size) (hs:∀ W,Calls Tryz.prog 64 #[.string s] W fun e w'=>e = .returned (.tuple #[.bool true,.string n,.string d,.bool false])∧Below W.heap.size W w')
  (cx:∀ W,Calls Tryz.prog 76 #[.string n] W fun e w'=>e = .returned (.int .i64 (x:Int))∧W=w') :
  Calls Tryz.prog 55 #[.string s] w fun e w'=>e = .returned (.tuple #[.int .i64 (-(x:Int)),.int .i64 1,.bool true])∧Below w.heap.size w w':=by
 have C:=Ha (Hb hs (Hb cx trivial));clear hs cx
 go_enter Tryz.func55,Tryz.ntmps55
 go_wp2_with fail
 refine (C.out.1 _).mono ?_
 rintro e w1 ⟨rfl,b⟩
 have B1:=Ha b;clear b
 go_wp2_with fail
 refine (C.out.2.1 _).mono ?_
 rintro e w' ⟨rfl,rfl⟩
 go_wp2
 go_ret3
 exact ⟨rfl,B1.out⟩
theorem yB (s n d:ByteArray) (w:World) (h1:n.size≤1000) (hs:∀ W,Calls Tryz.prog 64 #[.string s] W fun e w'=>e = .returned (.tuple #[.bool true,.string n,.string d,.bool false])∧Below W.heap.size W w') :
  Calls Tryz.prog 57 #[.string s] w fun e w'=>e = .returned (.tuple #[.string (⟨#[45]⟩++n),.string ⟨#[49]⟩])∧Below w.heap.size w w':=by
 have C:=Ha hs;clear hs
 go_enter Tryz.func57,Tryz.ntmps57
 go_wp2_with fail
 refine (C.out _).mono ?_
 rintro e w1 ⟨rfl,b⟩
 have B1:=Ha b;clear b
 go_wp2
 go_ret2
 exact ⟨rfl,B1.out⟩
theorem AF (s n d:ByteArray) (x y:Nat) (w:World) (hx:x<1000000000) (h1:¬ (9:Int)<n.size) (h2:¬ (9:Int)<d.size) (hs:∀ W,Calls Tryz.prog 64 #[.string s] W fun e w'=>e = .returned (.tuple #[.bool true,.string n,.string d,.bool true])∧Below W.heap.size W w')
  (cx:∀ W,Calls Tryz.prog 76 #[.string n] W fun e w'=>e = .returned (.int .i64 (x:Int))∧W=w') (cy:∀ W,Calls Tryz.prog 76 #[.string d] W fun e w'=>e = .returned (.int .i64 (y:Int))∧W=w') :
  Calls Tryz.prog 55 #[.string s] w fun e w'=>e = .returned (.tuple #[.int .i64 (-(x:Int)),.int .i64 (y:Int),.bool true])∧Below w.heap.size w w':=by
 have C:=Ha (Hb hs (Hb cx cy));clear hs cx cy
 go_enter Tryz.func55,Tryz.ntmps55
 go_wp2_with fail
 refine (C.out.1 _).mono ?_
 rintro e w1 ⟨rfl,b⟩
 have B1:=Ha b;clear b
 go_wp2_with fail
 refine (C.out.2.1 _).mono ?_
 rintro e w' ⟨rfl,rfl⟩
 go_wp2_with fail
 refine (C.out.2.2 _).mono ?_
 rintro e w' ⟨rfl,rfl⟩
 go_wp2
 go_ret3
 exact ⟨rfl,B1.out⟩
theorem yC (s n d:ByteArray) (w:World) (h1:n.size≤1000) (hs:∀ W,Calls Tryz.prog 64 #[.string s] W fun e w'=>e = .returned (.tuple #[.bool true,.string n,.string d,.bool true])∧Below W.heap.size W w') :
  Calls Tryz.prog 57 #[.string s] w fun e w'=>e = .returned (.tuple #[.string (⟨#[45]⟩++n),.string d])∧Below w.heap.size w w':=by
 have C:=Ha hs;clear hs
 go_enter Tryz.func57,Tryz.ntmps57
 go_wp2_with fail
 refine (C.out _).mono ?_
 rintro e w1 ⟨rfl,b⟩
 have B1:=Ha b;clear b
 go_wp2
 go_ret2
 exact ⟨rfl,B1.out⟩
def inO (x:Rat):Bool:=decide ((aa (x.num.natAbs:Int)).size≤9∧(bsD (ag x)).size≤9)
theorem BX {x:Rat} (h:inO x=true):x.num.natAbs<1000000000∧x.den<1000000000:=by
 have h:=of_decide_eq_true h
 refine ⟨jV h.1,?_⟩
 have h2:=h.2
 rw [ot] at h2
 by_cases hd:x.den=1
 ·omega
 ·rw [if_neg hd] at h2;exact jV h2
theorem jq (x:Rat) (w:World) (hx:Sq x) :
  Calls Tryz.prog 55 #[.string (ag x)] w fun e w'=>e = .returned (.tuple #[.int .i64 (if inO x=true then x.num else 0),.int .i64 (if inO x=true then (x.den:Int) else 0),.bool (inO x)])∧Below w.heap.size w w':=by
 have hs:=fun W=>qB x W hx
 cases ho:inO x
 ·rw [if_neg (by decide),if_neg (by decide)]
  have h:=of_decide_eq_false ho
  by_cases h1:(9:Int)<(aa (x.num.natAbs:Int)).size
  ·exact yx _ _ _ _ _ w h1 hs
  ·exact yy _ _ _ _ _ w h1 (by
    have:¬ (bsD (ag x)).size≤9:=fun q=>h ⟨by omega,q⟩
    omega) hs
 ·rw [if_pos rfl,if_pos rfl]
  have h:=of_decide_eq_true ho
  have hb:=BX ho
  have cx:=fun W=>lC x.num.natAbs W (by omega)
  have h1:¬ (9:Int)<(aa (x.num.natAbs:Int)).size:=by omega
  have h2:¬ (9:Int)<(bsD (ag x)).size:=by omega
  by_cases hd:x.den=1
  ·rw [show decide (x.den≠1)=false by simp [hd]] at hs
   rw [hd]
   by_cases hn:x.num<0
   ·rw [decide_eq_true hn] at hs
    have c:=AE _ _ _ x.num.natAbs 0 w hb.1 h1 h2 hs cx
    rwa [show -((x.num.natAbs:Nat):Int)=x.num by omega] at c
   ·rw [decide_eq_false hn] at hs
    have c:=AC _ _ _ x.num.natAbs 0 w hb.1 h1 h2 hs cx
    rwa [show ((x.num.natAbs:Nat):Int)=x.num by omega] at c
  ·rw [show decide (x.den≠1)=true by simp [hd]] at hs
   have cy:∀ W,Calls Tryz.prog 76 #[.string (bsD (ag x))] W fun e w'=>e = .returned (.int .i64 ((x.den:Nat):Int))∧W=w':=fun W=>by
    have h3:=h.2
    rw [ot,if_neg hd] at h3 ⊢
    exact lC x.den W (by omega)
   by_cases hn:x.num<0
   ·rw [decide_eq_true hn] at hs
    have c:=AF _ _ _ x.num.natAbs x.den w hb.1 h1 h2 hs cx cy
    rwa [show -((x.num.natAbs:Nat):Int)=x.num by omega] at c
   ·rw [decide_eq_false hn] at hs
    have c:=AD _ _ _ x.num.natAbs x.den w hb.1 h1 h2 hs cx cy
    rwa [show ((x.num.natAbs:Nat):Int)=x.num by omega] at c
theorem fm {z:Int} (h:z<0):(⟨#[45]⟩:ByteArray)++aa (z.natAbs:Int)=aa z:=by
 have:=vc z.natAbs (by omega)
 rw [←this,show -((z.natAbs:Nat):Int)=z by omega];rfl
theorem gL (x:Rat) (w:World) (hx:Sq x) :
  Calls Tryz.prog 57 #[.string (ag x)] w fun e w'=>e = .returned (.tuple #[.string (aa x.num),.string (aa (x.den:Int))])∧Below w.heap.size w w':=by
 have hs:=fun W=>qB x W hx
 have hz:(aa (x.num.natAbs:Int)).size≤1000:=by
  have:=aJ (z:=(x.num.natAbs:Int)) (by rw [Int.natAbs_natCast];exact hx.1)
  omega
 by_cases hd:x.den=1
 ·rw [show decide (x.den≠1)=false by simp [hd]] at hs
  rw [hd,show aa ((1:Nat):Int)=⟨#[49]⟩ from ia]
  by_cases hn:x.num<0
  ·rw [decide_eq_true hn] at hs
   have c:=yB _ _ _ w hz hs
   rwa [fm hn] at c
  ·rw [decide_eq_false hn] at hs
   have c:=yz _ _ _ w hz hs
   rwa [show ((x.num.natAbs:Nat):Int)=x.num by omega] at c
 ·rw [show decide (x.den≠1)=true by simp [hd]] at hs
  have e:bsD (ag x)=aa (x.den:Int):=by rw [ot,if_neg hd]
  rw [e] at hs
  by_cases hn:x.num<0
  ·rw [decide_eq_true hn] at hs
   have c:=yC _ _ _ w hz hs
   rwa [fm hn] at c
  ·rw [decide_eq_false hn] at hs
   have c:=yA _ _ _ w hz hs
   rwa [show ((x.num.natAbs:Nat):Int)=x.num by omega] at c
end
namespace R
open Go.RowKit
theorem wF {x y:Int} (h0 : -100000000000000000<x) (h1:x<100000000000000000) (h2 : -100000000000000000<y) (h3:y<100000000000000000) :
  (fH (x+y)=aa (x+y)∧fI (x+y)=0)∧(fH (x - y)=aa (x - y)∧fI (x - y)=0):=⟨mp (by omega) (by omega),mp (by omega) (by omega)⟩
theorem Add_any (a b:ByteArray) (w:World) (ha:a.size≤1000) (hb:b.size≤1000) (ht:Tab w) :
  Calls Tryz.prog 108 #[.string a,.string b] w fun e W'=>e = .returned (.tuple #[.string (qM (bo a.data.toList b.data.toList) (valOf a.data.toList+valOf b.data.toList)),.int .i64 (qN (bo a.data.toList b.data.toList) (valOf a.data.toList+valOf b.data.toList))])∧Below w.heap.size w W':=by
 have cb:=gr a b w (by unfold maxLen;omega) (by unfold maxLen;omega)
 by_cases hc:bo a.data.toList b.data.toList=0
 ·obtain ⟨k1,k2⟩:=d9 hc
  rw [hc] at cb
  rw [hc,(qv _).1,(qv _).2]
  have CB:=Ha cb
  clear cb hc
  by_cases hs:a.size≤17∧b.size≤17
  ·have ct:=ls a b w hs.1 hs.2 k1 k2
   have b1:=it k1 (by rw [ac];omega)
   have b2:=it k2 (by rw [ac];omega)
   obtain ⟨e1,e2⟩:=(wF b1.1 b1.2 b2.1 b2.2).1
   rw [e1,e2]
   clear e1 e2 k1 k2
   generalize valOf a.data.toList=x at *
   generalize valOf b.data.toList=y at *
   obtain ⟨x0,x1⟩:=b1
   obtain ⟨y0,y1⟩:=b2
   have ci:=fun W (h:Below w.heap.size w W)=>jy (x+y) W (by omega) (by omega) (ht.next h)
   have C:=Ha (Hb ct ci)
   clear ct ci ht
   go_enter Tryz.func108,Tryz.ntmps108
   go_wp2_with fail
   refine CB.out.mono ?_
   rintro e w' ⟨rfl,rfl⟩
   go_wp2_with fail
   refine C.out.1.mono ?_
   rintro e w' ⟨rfl,rfl⟩
   go_wp2_with fail
   refine (C.out.2 _ (Below.refl _ _)).mono ?_
   rintro e w1 ⟨rfl,hb1⟩
   have HB:=Ha hb1
   clear hb1
   go_wp2
   go_ret2
   exact ⟨rfl,HB.out⟩
  ·have n1:=gF (bW k1)
   have n2:=gF (bW k2)
   have r1:=fun W=>bP a W (by omega) k1
   have r2:=fun W=>bP b W (by omega) k2
   rw [iN,iN]
   have t2:=qp a b w hs k1 (by unfold maxLen;omega) (by unfold maxLen;omega)
   generalize af a.data.toList=na at *
   generalize af b.data.toList=nb at *
   generalize ad (szL a.data.toList)=x at *
   generalize ad (szL b.data.toList)=y at *
   have HN:=Ha (Hb n1 n2)
   have cneg:=True.intro
   have C:=Ha (Hb r1 (Hb r2 (Hb cneg t2)))
   clear r1 r2 t2 cneg k1 k2 n1 n2
   go_enter Tryz.func108,Tryz.ntmps108
   go_wp2_with fail
   refine CB.out.mono ?_
   rintro e w' ⟨rfl,rfl⟩
   go_wp2_with fail
   refine C.out.2.2.2.mono ?_
   rintro e w' ⟨tx,ty,rfl,rfl⟩
   go_wp2_with fail
   refine (C.out.1 _).mono ?_
   rintro e w1 ⟨va,rfl,hva,_,hb1⟩
   have H1:=Ha (Hb hva hb1)
   clear hva hb1
   go_wp2_with fail
   refine (C.out.2.1 _).mono ?_
   rintro e w2 ⟨vb,rfl,hvb,_,hb2⟩
   have H2:=Ha (Hb (H1.out.1.next hb2) (Hb hvb (H1.out.2.trans (hb2.mono H1.out.2.size))))
   clear hvb hb2 H1
   have H3:=Ha (Hb H2.out.1 (Hb H2.out.2.1 (Hb H2.out.2.2 (rfl:ak nb y=ak nb y))))
   clear H2
   go_wp2_with fail
   refine (fP na nb va vb x y _ H3.out.1 H3.out.2.1 (by have:=HN.out.1;omega) (by have:=HN.out.2;omega)).mono ?_
   rintro e w4 ⟨ng4,n4,v4,rfl,hv4,⟨hz,hl4⟩,_,hb4⟩
   skip
   have hn4:(dg n4).length≤10000:=Nat.le_trans (aE hl4) (Nat.le_trans (jo x y) (by have:=HN.out;omega))
   have H4:=Ha (Hb hv4 (Hb hz (Hb (H3.out.2.2.1.trans (hb4.mono H3.out.2.2.1.size)) hn4)))
   clear hv4 hz hl4 hb4 hn4 H3
   go_wp2_with fail
   refine (aO ng4 v4 n4 _ H4.out.1 H4.out.2.2.2).mono ?_
   rw [H4.out.2.1]
   rintro e w5 ⟨rfl,hb5⟩
   have H5:=Ha (H4.out.2.2.1.trans (hb5.mono H4.out.2.2.1.size))
   clear hb5 H4 C
   go_wp2
   go_ret2
   exact ⟨rfl,H5.out⟩
 ·have CB:=Ha cb
  obtain ⟨o1,o2⟩:=u9 hc (valOf a.data.toList+valOf b.data.toList)
  rw [o1,o2]
  clear o1 o2 cb
  generalize bo a.data.toList b.data.toList=c at *
  have hn:(c != 0)=true:=by rw [bne_iff_ne];exact hc
  clear hc
  go_enter Tryz.func108,Tryz.ntmps108
  go_wp2_with fail
  refine CB.out.mono ?_
  rintro e w' ⟨rfl,rfl⟩
  go_wp2
  go_ret2
  exact ⟨rfl,Below.refl _ _⟩
end R
section
open Go.RowKit
theorem jr {z:Int} (h:short z):(aa z).size≤1000:=by have:=aJ h;omega
theorem ou (x y:Int) (w:World) (hx:short x) (hy:short y) (ht:Tab w) :
  Calls Tryz.prog 142 #[.string (aa x),.string (aa y)] w fun e W'=>e = .returned (.tuple #[.string (LB (mkL (x*y))),.int .i64 (LE (mkL (x*y)))])∧Below w.heap.size w W':=by
 have c:=R.Mul_any (aa x) (aa y) w (jr hx) (jr hy) ht
 rwa [dG hx hy,aW,aW,fw,fx,kZ,k9] at c
theorem sq (x y:Int) (w:World) (hx:short x) (hy:short y) (ht:Tab w) :
  Calls Tryz.prog 108 #[.string (aa x),.string (aa y)] w fun e W'=>e = .returned (.tuple #[.string (LB (mkL (x+y))),.int .i64 (LE (mkL (x+y)))])∧Below w.heap.size w W':=by
 have c:=R.Add_any (aa x) (aa y) w (jr hx) (jr hy) ht
 rwa [dG hx hy,aW,aW,fw,fx,kZ,k9] at c
theorem ov (x y:Int) (w:World) (hx:short x) (hy:short y) (h0:y≠0) (ht:Tab w) :
  Calls Tryz.prog 59 #[.string (aa x),.string (aa y)] w fun e W'=>e = .returned (.tuple #[.string (aa (x.fdiv y)),.string (aa (x.fmod y)),.int .i64 0])∧Below w.heap.size w W':=by
 have c:=R.Divide_any (aa x) (aa y) w (jr hx) (jr hy) ht
 rw [dG hx hy,aW,aW] at c
 obtain ⟨q1,q2,q3⟩:=kx (x:=x) h0
 rwa [q1,q2,q3] at c
theorem yD (x y:Int) (w:World) (hx:short x) (hy:short y) (ht:Tab w) :
  Calls Tryz.prog 77 #[.string (aa x),.string (aa y)] w fun e W'=>e = .returned (.tuple #[.string (aa (aD x y)),.int .i64 0])∧Below w.heap.size w W':=by
 have c:=R.Gcd_any (aa x) (aa y) w (by have:=jr hx;unfold maxLen;omega) (by have:=jr hy;unfold maxLen;omega) ht
 rw [dG hx hy,←jC,←jC,aW,aW] at c
 exact c
theorem qE (a b c d:ByteArray) (x:ByteArray) (f:Int) (w:World) (n1:(f==0)=false) (n2:(f != 0)=true)
  (h1:CqB w 142 #[.string a,.string b] (.tuple #[.string x,.int .i64 f])) :
  Calls Tryz.prog 100 #[.string a,.string b,.string c,.string d] w fun e W'=>e = .returned (.tuple #[.string ⟨#[]⟩,.string ⟨#[]⟩,.int .i64 f])∧Below w.heap.size w W':=by
 have C:=Ha h1;clear h1
 have B0:=Ha (Below.refl w.heap.size w)
 go_enter Tryz.func100,Tryz.ntmps100
 go_wp2_with fail
 refine (C.out _ B0.out).mono ?_
 rintro e w1 ⟨rfl,b⟩
 have B1:=Ha (B0.out.trans (b.mono B0.out.size));clear b B0
 go_wp2
 go_ret3
 exact ⟨rfl,B1.out⟩
theorem ss (a b c d:ByteArray) (x y:ByteArray) (f:Int) (w:World)
  (h1:CqB w 142 #[.string a,.string b] (.tuple #[.string x,.int .i64 0]))
  (h2:CqB w 142 #[.string c,.string d] (.tuple #[.string y,.int .i64 f])) :
  Calls Tryz.prog 100 #[.string a,.string b,.string c,.string d] w fun e W'=>e = .returned (.tuple #[.string x,.string y,.int .i64 f])∧Below w.heap.size w W':=by
 have C:=Ha (Hb h1 h2);clear h1 h2
 have B0:=Ha (Below.refl w.heap.size w)
 go_enter Tryz.func100,Tryz.ntmps100
 go_wp2_with fail
 refine (C.out.1 _ B0.out).mono ?_
 rintro e w1 ⟨rfl,b⟩
 have B1:=Ha (B0.out.trans (b.mono B0.out.size));clear b B0
 go_wp2_with fail
 refine (C.out.2 _ B1.out).mono ?_
 rintro e w2 ⟨rfl,b⟩
 have B2:=Ha (B1.out.trans (b.mono B1.out.size));clear b B1
 go_wp2
 go_ret3
 exact ⟨rfl,B2.out⟩
theorem ow (a b c d:Int) (w:World) (ha:short a) (hb:short b) (hc:short c) (hd:short d) (ht:Tab w) :
  Calls Tryz.prog 100 #[.string (aa a),.string (aa b),.string (aa c),.string (aa d)] w fun e W'=>e = .returned (.tuple #[.string (if short (a*b) then aa (a*b) else ⟨#[]⟩),.string (if short (a*b) then LB (mkL (c*d)) else ⟨#[]⟩),.int .i64 (if short (a*b) then LE (mkL (c*d)) else 4)])∧Below w.heap.size w W':=by
 by_cases h:short (a*b)
 ·rw [if_pos h,if_pos h,if_pos h]
  exact ss _ _ _ _ _ _ _ w (fun W hW=>by have k:=ou a b W ha hb (ht.next hW);rwa [et h] at k) (fun W hW=>ou c d W hc hd (ht.next hW))
 ·rw [if_neg h,if_neg h,if_neg h]
  exact qE _ _ _ _ _ 4 w (by decide) (by decide) (fun W hW=>by have k:=ou a b W ha hb (ht.next hW);rwa [show mkL (a*b)=none from if_neg h] at k)
end
end Go.Proofs.YtocalfjfjjljnaaGreatDoor
