/- Parts of the proof of the text YtjdomibbaemdnaaGreatDoorZK42. -/
import Derived.Deep.CutRange
import Derived.Deep.Cut
import Derived.Test.YtjdomibbaemdnaaGreatDoorZK1
import Derived.Test.YtjdomibbaemdnaaGreatDoorZK32
import Derived.Test.YtjdomibbaemdnaaGreatDoorZK34
set_option linter.all false
set_option maxRecDepth 100000
set_option maxHeartbeats 8000000
namespace Go.Proofs.YtjdomibbaemdnaaGreatDoor
section
open Go.RowKit
theorem wJ (x:Rat):sN (cQ x)=Lib.itoa (x.num.natAbs:Int):=by
 rw [←(qb (cQ x)).2,(cW x).1,gu]
 unfold Lib.itoa
 rw [if_neg (by omega)];rfl
theorem wK (x:Rat):bsN (ah x)=aa (x.num.natAbs:Int):=aY (by rw [iK,bH,ay,wJ])
theorem oL (x:Rat):bI (ah x).data.toList=decide (x.den≠1):=by rw [bH];exact (cW x).2.2
theorem ns (x:Rat):bsD (ah x)=if x.den=1 then ⟨#[]⟩ else aa (x.den:Int):=by
 apply aY
 rw [gP]
 unfold sD
 rw [oL]
 by_cases h:x.den=1
 ·rw [if_pos h,if_neg (by simp [h])]
 ·rw [if_neg h,if_pos (by simp [h]),bH,(cW x).2.1,ay]
theorem tY (x:Rat) (w:World) (hx:Sq x) :
  Calls Tryz.prog 100 #[.string (ah x)] w fun e w'=>e = .returned (.tuple #[.bool (decide (x.num<0)),.string (aa (x.num.natAbs:Int)),.string (bsD (ah x)),.bool (decide (x.den≠1))])∧Below w.heap.size w w':=by
 have c:=nk (ah x) w hx.size
 have h:ap (ah x).data.toList=decide (x.num<0):=by
  rw [qR]
  apply decide_eq_decide.2
  rw [←Rat.not_le,←Rat.num_nonneg];omega
 rwa [h,wK,oL] at c
theorem tZ (k:Nat):ae (aa (k:Int)).data.toList=k:=by
 rw [ay];unfold Lib.itoa;rw [if_neg (by omega)];exact dJ k
theorem t6 (k:Nat):(aa (k:Int)).data.toList.all az=true:=by
 rw [ay,List.all_eq_true];unfold Lib.itoa;rw [if_neg (by omega)];exact cF _
theorem ky (k:Nat) (w:World) (h:(aa (k:Int)).size≤18) :
  Calls Tryz.prog 103 #[.string (aa (k:Int))] w fun e w'=>e = .returned (.int .i64 (k:Int))∧w=w':=by
 have c:=jF (aa (k:Int)) w h (t6 k)
 rwa [tZ] at c
theorem kz {k j:Nat} (h:(aa (k:Int)).size≤j):k<aO j:=by
 have h1:=lB (aa (k:Int)).data.toList (fun c hc=>List.all_eq_true.1 (t6 k) c hc)
 rw [tZ,ac] at h1
 exact Nat.lt_of_lt_of_le h1 (aP h)
theorem wL (s n d:ByteArray) (m f:Bool) (w:World) (h1:(9:Int)<n.size) (hs:∀ W,Calls Tryz.prog 100 #[.string s] W fun e w'=>e = .returned (.tuple #[.bool m,.string n,.string d,.bool f])∧Below W.heap.size W w') :
  Calls Tryz.prog 97 #[.string s] w fun e w'=>e = .returned (.tuple #[.int .i64 0,.int .i64 0,.bool false])∧Below w.heap.size w w':=by
 have C:=Ha hs;clear hs
 go_enter Tryz.func97,Tryz.ntmps97
 go_wp2_with fail
 refine (C.out _).mono ?_
 rintro e w1 ⟨rfl,b⟩
 have B1:=Ha b;clear b
 go_wp2
 go_ret3
 exact ⟨rfl,B1.out⟩
theorem wM (s n d:ByteArray) (m f:Bool) (w:World) (h1:¬ (9:Int)<n.size) (h2:(9:Int)<d.size) (hs:∀ W,Calls Tryz.prog 100 #[.string s] W fun e w'=>e = .returned (.tuple #[.bool m,.string n,.string d,.bool f])∧Below W.heap.size W w') :
  Calls Tryz.prog 97 #[.string s] w fun e w'=>e = .returned (.tuple #[.int .i64 0,.int .i64 0,.bool false])∧Below w.heap.size w w':=by
 have C:=Ha hs;clear hs
 go_enter Tryz.func97,Tryz.ntmps97
 go_wp2_with fail
 refine (C.out _).mono ?_
 rintro e w1 ⟨rfl,b⟩
 have B1:=Ha b;clear b
 go_wp2
 go_ret3
 exact ⟨rfl,B1.out⟩
theorem yH (s n d:ByteArray) (x y:Nat) (w:World) (hx:x<1000000000) (h1:¬ (9:Int)<n.size) (h2:¬ (9:Int)<d.size) (hs:∀ W,Calls Tryz.prog 100 #[.string s] W fun e w'=>e = .returned (.tuple #[.bool false,.string n,.string d,.bool false])∧Below W.heap.size W w')
  (cx:∀ W,Calls Tryz.prog 103 #[.string n] W fun e w'=>e = .returned (.int .i64 (x:Int))∧W=w') :
  Calls Tryz.prog 97 #[.string s] w fun e w'=>e = .returned (.tuple #[.int .i64 (x:Int),.int .i64 1,.bool true])∧Below w.heap.size w w':=by
 have C:=Ha (Hb hs (Hb cx trivial));clear hs cx
 go_enter Tryz.func97,Tryz.ntmps97
 go_wp2_with fail
 refine (C.out.1 _).mono ?_
 rintro e w1 ⟨rfl,b⟩
 have B1:=Ha b;clear b
 go_wp2_with fail
 refine (C.out.2.1 _).mono ?_
 rintro e w' ⟨rfl,rfl⟩
 go_wp2
 go_ret3
 exact ⟨rfl,B1.out⟩
theorem wN (s n d:ByteArray) (w:World) (h1:n.size≤1000) (hs:∀ W,Calls Tryz.prog 100 #[.string s] W fun e w'=>e = .returned (.tuple #[.bool false,.string n,.string d,.bool false])∧Below W.heap.size W w') :
  Calls Tryz.prog 61 #[.string s] w fun e w'=>e = .returned (.tuple #[.string n,.string ⟨#[49]⟩])∧Below w.heap.size w w':=by
 have C:=Ha hs;clear hs
 go_enter Tryz.func61,Tryz.ntmps61
 go_wp2_with fail
 refine (C.out _).mono ?_
 rintro e w1 ⟨rfl,b⟩
 have B1:=Ha b;clear b
 go_wp2
 go_ret2
 exact ⟨rfl,B1.out⟩
theorem yI (s n d:ByteArray) (x y:Nat) (w:World) (hx:x<1000000000) (h1:¬ (9:Int)<n.size) (h2:¬ (9:Int)<d.size) (hs:∀ W,Calls Tryz.prog 100 #[.string s] W fun e w'=>e = .returned (.tuple #[.bool false,.string n,.string d,.bool true])∧Below W.heap.size W w')
  (cx:∀ W,Calls Tryz.prog 103 #[.string n] W fun e w'=>e = .returned (.int .i64 (x:Int))∧W=w') (cy:∀ W,Calls Tryz.prog 103 #[.string d] W fun e w'=>e = .returned (.int .i64 (y:Int))∧W=w') :
  Calls Tryz.prog 97 #[.string s] w fun e w'=>e = .returned (.tuple #[.int .i64 (x:Int),.int .i64 (y:Int),.bool true])∧Below w.heap.size w w':=by
 have C:=Ha (Hb hs (Hb cx cy));clear hs cx cy
 go_enter Tryz.func97,Tryz.ntmps97
 go_wp2_with fail
 refine (C.out.1 _).mono ?_
 rintro e w1 ⟨rfl,b⟩
 have B1:=Ha b;clear b
 go_wp2_with fail
 refine (C.out.2.1 _).mono ?_
 rintro e w' ⟨rfl,rfl⟩
 go_wp2_with fail
 refine (C.out.2.2 _).mono ?_
 rintro e w' ⟨rfl,rfl⟩
 go_wp2
 go_ret3
 exact ⟨rfl,B1.out⟩
theorem wO (s n d:ByteArray) (w:World) (h1:n.size≤1000) (hs:∀ W,Calls Tryz.prog 100 #[.string s] W fun e w'=>e = .returned (.tuple #[.bool false,.string n,.string d,.bool true])∧Below W.heap.size W w') :
  Calls Tryz.prog 61 #[.string s] w fun e w'=>e = .returned (.tuple #[.string n,.string d])∧Below w.heap.size w w':=by
 have C:=Ha hs;clear hs
 go_enter Tryz.func61,Tryz.ntmps61
 go_wp2_with fail
 refine (C.out _).mono ?_
 rintro e w1 ⟨rfl,b⟩
 have B1:=Ha b;clear b
 go_wp2
 go_ret2
 exact ⟨rfl,B1.out⟩
theorem yJ (s n d:ByteArray) (x y:Nat) (w:World) (hx:x<1000000000) (h1:¬ (9:Int)<n.size) (h2:¬ (9:Int)<d.size) (hs:∀ W,Calls Tryz.prog 100 #[.string s] W fun e w'=>e = .returned (.tuple #[.bool true,.string n,.string d,.bool false])∧Below W.heap.size W w')
  (cx:∀ W,Calls Tryz.prog 103 #[.string n] W fun e w'=>e = .returned (.int .i64 (x:Int))∧W=w') :
  Calls Tryz.prog 97 #[.string s] w fun e w'=>e = .returned (.tuple #[.int .i64 (-(x:Int)),.int .i64 1,.bool true])∧Below w.heap.size w w':=by
 have C:=Ha (Hb hs (Hb cx trivial));clear hs cx
 go_enter Tryz.func97,Tryz.ntmps97
 go_wp2_with fail
 refine (C.out.1 _).mono ?_
 rintro e w1 ⟨rfl,b⟩
 have B1:=Ha b;clear b
 go_wp2_with fail
 refine (C.out.2.1 _).mono ?_
 rintro e w' ⟨rfl,rfl⟩
 go_wp2
 go_ret3
 exact ⟨rfl,B1.out⟩
theorem wP (s n d:ByteArray) (w:World) (h1:n.size≤1000) (hs:∀ W,Calls Tryz.prog 100 #[.string s] W fun e w'=>e = .returned (.tuple #[.bool true,.string n,.string d,.bool false])∧Below W.heap.size W w') :
  Calls Tryz.prog 61 #[.string s] w fun e w'=>e = .returned (.tuple #[.string (⟨#[45]⟩++n),.string ⟨#[49]⟩])∧Below w.heap.size w w':=by
 have C:=Ha hs;clear hs
 go_enter Tryz.func61,Tryz.ntmps61
 go_wp2_with fail
 refine (C.out _).mono ?_
 rintro e w1 ⟨rfl,b⟩
 have B1:=Ha b;clear b
 go_wp2
 go_ret2
 exact ⟨rfl,B1.out⟩
theorem yK (s n d:ByteArray) (x y:Nat) (w:World) (hx:x<1000000000) (h1:¬ (9:Int)<n.size) (h2:¬ (9:Int)<d.size) (hs:∀ W,Calls Tryz.prog 100 #[.string s] W fun e w'=>e = .returned (.tuple #[.bool true,.string n,.string d,.bool true])∧Below W.heap.size W w')
  (cx:∀ W,Calls Tryz.prog 103 #[.string n] W fun e w'=>e = .returned (.int .i64 (x:Int))∧W=w') (cy:∀ W,Calls Tryz.prog 103 #[.string d] W fun e w'=>e = .returned (.int .i64 (y:Int))∧W=w') :
  Calls Tryz.prog 97 #[.string s] w fun e w'=>e = .returned (.tuple #[.int .i64 (-(x:Int)),.int .i64 (y:Int),.bool true])∧Below w.heap.size w w':=by
 have C:=Ha (Hb hs (Hb cx cy));clear hs cx cy
 go_enter Tryz.func97,Tryz.ntmps97
 go_wp2_with fail
 refine (C.out.1 _).mono ?_
 rintro e w1 ⟨rfl,b⟩
 have B1:=Ha b;clear b
 go_wp2_with fail
 refine (C.out.2.1 _).mono ?_
 rintro e w' ⟨rfl,rfl⟩
 go_wp2_with fail
 refine (C.out.2.2 _).mono ?_
 rintro e w' ⟨rfl,rfl⟩
 go_wp2
 go_ret3
 exact ⟨rfl,B1.out⟩
theorem wQ (s n d:ByteArray) (w:World) (h1:n.size≤1000) (hs:∀ W,Calls Tryz.prog 100 #[.string s] W fun e w'=>e = .returned (.tuple #[.bool true,.string n,.string d,.bool true])∧Below W.heap.size W w') :
  Calls Tryz.prog 61 #[.string s] w fun e w'=>e = .returned (.tuple #[.string (⟨#[45]⟩++n),.string d])∧Below w.heap.size w w':=by
 have C:=Ha hs;clear hs
 go_enter Tryz.func61,Tryz.ntmps61
 go_wp2_with fail
 refine (C.out _).mono ?_
 rintro e w1 ⟨rfl,b⟩
 have B1:=Ha b;clear b
 go_wp2
 go_ret2
 exact ⟨rfl,B1.out⟩
def inO (x:Rat):Bool:=decide ((aa (x.num.natAbs:Int)).size≤9∧(bsD (ah x)).size≤9)
theorem zK {x:Rat} (h:inO x=true):x.num.natAbs<1000000000∧x.den<1000000000:=by
 have h:=of_decide_eq_true h
 refine ⟨kz h.1,?_⟩
 have h2:=h.2
 rw [ns] at h2
 by_cases hd:x.den=1
 ·omega
 ·rw [if_neg hd] at h2;exact kz h2
theorem sO (x:Rat) (w:World) (hx:Sq x) :
  Calls Tryz.prog 97 #[.string (ah x)] w fun e w'=>e = .returned (.tuple #[.int .i64 (if inO x=true then x.num else 0),.int .i64 (if inO x=true then (x.den:Int) else 0),.bool (inO x)])∧Below w.heap.size w w':=by
 have hs:=fun W=>tY x W hx
 cases ho:inO x
 ·rw [if_neg (by decide),if_neg (by decide)]
  have h:=of_decide_eq_false ho
  by_cases h1:(9:Int)<(aa (x.num.natAbs:Int)).size
  ·exact wL _ _ _ _ _ w h1 hs
  ·exact wM _ _ _ _ _ w h1 (by
    have:¬ (bsD (ah x)).size≤9:=fun q=>h ⟨by omega,q⟩
    omega) hs
 ·rw [if_pos rfl,if_pos rfl]
  have h:=of_decide_eq_true ho
  have hb:=zK ho
  have cx:=fun W=>ky x.num.natAbs W (by omega)
  have h1:¬ (9:Int)<(aa (x.num.natAbs:Int)).size:=by omega
  have h2:¬ (9:Int)<(bsD (ah x)).size:=by omega
  by_cases hd:x.den=1
  ·rw [show decide (x.den≠1)=false by simp [hd]] at hs
   rw [hd]
   by_cases hn:x.num<0
   ·rw [decide_eq_true hn] at hs
    have c:=yJ _ _ _ x.num.natAbs 0 w hb.1 h1 h2 hs cx
    rwa [show -((x.num.natAbs:Nat):Int)=x.num by omega] at c
   ·rw [decide_eq_false hn] at hs
    have c:=yH _ _ _ x.num.natAbs 0 w hb.1 h1 h2 hs cx
    rwa [show ((x.num.natAbs:Nat):Int)=x.num by omega] at c
  ·rw [show decide (x.den≠1)=true by simp [hd]] at hs
   have cy:∀ W,Calls Tryz.prog 103 #[.string (bsD (ah x))] W fun e w'=>e = .returned (.int .i64 ((x.den:Nat):Int))∧W=w':=fun W=>by
    have h3:=h.2
    rw [ns,if_neg hd] at h3 ⊢
    exact ky x.den W (by omega)
   by_cases hn:x.num<0
   ·rw [decide_eq_true hn] at hs
    have c:=yK _ _ _ x.num.natAbs x.den w hb.1 h1 h2 hs cx cy
    rwa [show -((x.num.natAbs:Nat):Int)=x.num by omega] at c
   ·rw [decide_eq_false hn] at hs
    have c:=yI _ _ _ x.num.natAbs x.den w hb.1 h1 h2 hs cx cy
    rwa [show ((x.num.natAbs:Nat):Int)=x.num by omega] at c
theorem pR {z:Int} (h:z<0):(⟨#[45]⟩:ByteArray)++aa (z.natAbs:Int)=aa z:=by
 have:=tX z.natAbs (by omega)
 rw [←this,show -((z.natAbs:Nat):Int)=z by omega];rfl
theorem pS (x:Rat) (w:World) (hx:Sq x) :
  Calls Tryz.prog 61 #[.string (ah x)] w fun e w'=>e = .returned (.tuple #[.string (aa x.num),.string (aa (x.den:Int))])∧Below w.heap.size w w':=by
 have hs:=fun W=>tY x W hx
 have hz:(aa (x.num.natAbs:Int)).size≤1000:=by
  have:=aG (z:=(x.num.natAbs:Int)) (by rw [Int.natAbs_natCast];exact hx.1)
  omega
 by_cases hd:x.den=1
 ·rw [show decide (x.den≠1)=false by simp [hd]] at hs
  rw [hd,show aa ((1:Nat):Int)=⟨#[49]⟩ from we]
  by_cases hn:x.num<0
  ·rw [decide_eq_true hn] at hs
   have c:=wP _ _ _ w hz hs
   rwa [pR hn] at c
  ·rw [decide_eq_false hn] at hs
   have c:=wN _ _ _ w hz hs
   rwa [show ((x.num.natAbs:Nat):Int)=x.num by omega] at c
 ·rw [show decide (x.den≠1)=true by simp [hd]] at hs
  have e:bsD (ah x)=aa (x.den:Int):=by rw [ns,if_neg hd]
  rw [e] at hs
  by_cases hn:x.num<0
  ·rw [decide_eq_true hn] at hs
   have c:=wQ _ _ _ w hz hs
   rwa [pR hn] at c
  ·rw [decide_eq_false hn] at hs
   have c:=wO _ _ _ w hz hs
   rwa [show ((x.num.natAbs:Nat):Int)=x.num by omega] at c
end
namespace R
open Go.RowKit
end R
section
open Go.RowKit
theorem lW {z:Int} (h:short z):(aa z).size≤1000:=by have:=aG h;omega
theorem kA (x y:Int) (w:World) (hx:short x) (hy:short y) (ht:Tab w) :
  Calls Tryz.prog 66 #[.string (aa x),.string (aa y)] w fun e W'=>e = .returned (.tuple #[.string (LB (mkL (x*y))),.int .i64 (LE (mkL (x*y)))])∧Below w.heap.size w W':=by
 have c:=R.Mul_any (aa x) (aa y) w (lW hx) (lW hy) ht
 rwa [fx hx hy,bB,bB,jo,jp,o8,o9] at c
theorem nt (x y:Int) (w:World) (hx:short x) (hy:short y) (h0:y≠0) (ht:Tab w) :
  Calls Tryz.prog 65 #[.string (aa x),.string (aa y)] w fun e W'=>e = .returned (.tuple #[.string (aa (x.fdiv y)),.string (aa (x.fmod y)),.int .i64 0])∧Below w.heap.size w W':=by
 have c:=R.Divide_any (aa x) (aa y) w (lW hx) (lW hy) ht
 rw [fx hx hy,bB,bB] at c
 obtain ⟨q1,q2,q3⟩:=jC (x:=x) h0
 rwa [q1,q2,q3] at c
theorem wR (x y:Int) (w:World) (hx:short x) (hy:short y) (ht:Tab w) :
  Calls Tryz.prog 104 #[.string (aa x),.string (aa y)] w fun e W'=>e = .returned (.tuple #[.string (aa (aE x y)),.int .i64 0])∧Below w.heap.size w W':=by
 have c:=R.Gcd_any (aa x) (aa y) w (by have:=lW hx;unfold maxLen;omega) (by have:=lW hy;unfold maxLen;omega) ht
 rw [fx hx hy,←iW,←iW,bB,bB] at c
 exact c
theorem pT (a b c d:ByteArray) (x:ByteArray) (f:Int) (w:World) (n1:(f==0)=false) (n2:(f != 0)=true)
  (h1:CqB w 66 #[.string a,.string b] (.tuple #[.string x,.int .i64 f])) :
  Calls Tryz.prog 144 #[.string a,.string b,.string c,.string d] w fun e W'=>e = .returned (.tuple #[.string ⟨#[]⟩,.string ⟨#[]⟩,.int .i64 f])∧Below w.heap.size w W':=by
 have C:=Ha h1;clear h1
 have B0:=Ha (Below.refl w.heap.size w)
 go_enter Tryz.func144,Tryz.ntmps144
 go_wp2_with fail
 refine (C.out _ B0.out).mono ?_
 rintro e w1 ⟨rfl,b⟩
 have B1:=Ha (B0.out.trans (b.mono B0.out.size));clear b B0
 go_wp2
 go_ret3
 exact ⟨rfl,B1.out⟩
theorem ru (a b c d:ByteArray) (x y:ByteArray) (f:Int) (w:World)
  (h1:CqB w 66 #[.string a,.string b] (.tuple #[.string x,.int .i64 0]))
  (h2:CqB w 66 #[.string c,.string d] (.tuple #[.string y,.int .i64 f])) :
  Calls Tryz.prog 144 #[.string a,.string b,.string c,.string d] w fun e W'=>e = .returned (.tuple #[.string x,.string y,.int .i64 f])∧Below w.heap.size w W':=by
 have C:=Ha (Hb h1 h2);clear h1 h2
 have B0:=Ha (Below.refl w.heap.size w)
 go_enter Tryz.func144,Tryz.ntmps144
 go_wp2_with fail
 refine (C.out.1 _ B0.out).mono ?_
 rintro e w1 ⟨rfl,b⟩
 have B1:=Ha (B0.out.trans (b.mono B0.out.size));clear b B0
 go_wp2_with fail
 refine (C.out.2 _ B1.out).mono ?_
 rintro e w2 ⟨rfl,b⟩
 have B2:=Ha (B1.out.trans (b.mono B1.out.size));clear b B1
 go_wp2
 go_ret3
 exact ⟨rfl,B2.out⟩
theorem nu (a b c d:Int) (w:World) (ha:short a) (hb:short b) (hc:short c) (hd:short d) (ht:Tab w) :
  Calls Tryz.prog 144 #[.string (aa a),.string (aa b),.string (aa c),.string (aa d)] w fun e W'=>e = .returned (.tuple #[.string (if short (a*b) then aa (a*b) else ⟨#[]⟩),.string (if short (a*b) then LB (mkL (c*d)) else ⟨#[]⟩),.int .i64 (if short (a*b) then LE (mkL (c*d)) else 4)])∧Below w.heap.size w W':=by
 by_cases h:short (a*b)
 ·rw [if_pos h,if_pos h,if_pos h]
  exact ru _ _ _ _ _ _ _ w (fun W hW=>by have k:=kA a b W ha hb (ht.next hW);rwa [fG h] at k) (fun W hW=>kA c d W hc hd (ht.next hW))
 ·rw [if_neg h,if_neg h,if_neg h]
  exact pT _ _ _ _ _ 4 w (by decide) (by decide) (fun W hW=>by have k:=kA a b W ha hb (ht.next hW);rwa [show mkL (a*b)=none from if_neg h] at k)
theorem wS (n0 d0 n d:ByteArray) (x y:Nat) (r:ByteArray) (w:World) (pn:0<n0.size) (pn':(0:Int)<n0.size) (pd:0<d0.size) (pd':(0:Int)<d0.size) (zn:n0.size≤1000) (qn:0<n.size) (qn':(0:Int)<n.size) (hP:(((d0[0].toNat:Int)==45)=false∧n0=n∧d0=d)∨(((d0[0].toNat:Int)==45)=true∧d0.extract 1 d0.size=d∧((((n0[0].toNat:Int)==45)=true∧n0.extract 1 n0.size=n)∨(((n0[0].toNat:Int)==45)=false∧(n0.toList == [48])=true∧n0=n)∨(((n0[0].toNat:Int)==45)=false∧(n0.toList == [48])=false∧⟨#[45]⟩++n0=n))))
  (s1:(n.size:Int)≤18) (s2:(d.size:Int)≤18) (hm:((n[0].toNat:Int)==45)=false)
  (cx:∀ W,Calls Tryz.prog 103 #[.string n] W fun e W'=>e = .returned (.int .i64 (x:Int))∧W=W') (cy:∀ W,Calls Tryz.prog 103 #[.string d] W fun e W'=>e = .returned (.int .i64 (y:Int))∧W=W')
  (cq:CqB w 98 #[.int .i64 (x:Int),.int .i64 (y:Int)] (.string r)) :
  Calls Tryz.prog 99 #[.string n0,.string d0] w fun e W'=>e = .returned (.tuple #[.string r,.int .i64 0])∧Below w.heap.size w W':=by
 have C:=Ha (Hb cx (Hb cy cq));clear cx cy cq
 have B0:=Ha (Below.refl w.heap.size w)
 go_enter Tryz.func99,Tryz.ntmps99
 go_upto_if 11 with fail
 go_cut [0,1] from 9 to 22 (fun s0 s1 wx=>s0 = .string n∧s1 = .string d∧wx=w)
 case first =>
  rcases hP with ⟨h1,rfl,rfl⟩ | ⟨h1,h2,⟨h3,h4⟩ | ⟨h3,h4,rfl⟩ | ⟨h3,h4,h5⟩⟩
  ·go_wp2_with fail
   all_goals (go_meet;exact ⟨rfl,rfl,rfl⟩)
  ·go_wp2_with fail
   all_goals (go_meet;exact ⟨rfl,rfl,rfl⟩)
  ·have h4':(n0.toList != [48])=false:=by rw [bne,h4];rfl
   go_wp2_with fail
   all_goals (go_meet;exact ⟨rfl,rfl,rfl⟩)
  ·have h4':(n0.toList != [48])=true:=by rw [bne,h4];rfl
   go_wp2_with fail
   all_goals (go_meet;exact ⟨rfl,rfl,rfl⟩)
 case rest =>
 obtain ⟨rfl,rfl,rfl⟩:=hcut
 clear hP
 go_wp2_with fail
 refine (C.out.1 _).mono ?_
 rintro e w' ⟨rfl,rfl⟩
 go_wp2_with fail
 refine (C.out.2.1 _).mono ?_
 rintro e w' ⟨rfl,rfl⟩
 go_wp2_with fail
 refine (C.out.2.2 _ B0.out).mono ?_
 rintro e w1 ⟨rfl,b⟩
 have B1:=Ha (B0.out.trans (b.mono B0.out.size));clear b B0
 go_wp2
 go_ret2
 exact ⟨rfl,B1.out⟩
theorem wT (n0 d0 n d:ByteArray) (n1:ByteArray) (x y:Nat) (r:ByteArray) (w:World) (pn:0<n0.size) (pn':(0:Int)<n0.size) (pd:0<d0.size) (pd':(0:Int)<d0.size) (zn:n0.size≤1000) (qn:0<n.size) (qn':(0:Int)<n.size) (hP:(((d0[0].toNat:Int)==45)=false∧n0=n∧d0=d)∨(((d0[0].toNat:Int)==45)=true∧d0.extract 1 d0.size=d∧((((n0[0].toNat:Int)==45)=true∧n0.extract 1 n0.size=n)∨(((n0[0].toNat:Int)==45)=false∧(n0.toList == [48])=true∧n0=n)∨(((n0[0].toNat:Int)==45)=false∧(n0.toList == [48])=false∧⟨#[45]⟩++n0=n))))
  (s1:(n.size:Int)≤18) (s2:(d.size:Int)≤18) (hm:((n[0].toNat:Int)==45)=true) (he:n.extract 1 n.size=n1) (hx:x<9223372036854775808)
  (cx:∀ W,Calls Tryz.prog 103 #[.string n1] W fun e W'=>e = .returned (.int .i64 (x:Int))∧W=W') (cy:∀ W,Calls Tryz.prog 103 #[.string d] W fun e W'=>e = .returned (.int .i64 (y:Int))∧W=W')
  (cq:CqB w 98 #[.int .i64 (-(x:Int)),.int .i64 (y:Int)] (.string r)) :
  Calls Tryz.prog 99 #[.string n0,.string d0] w fun e W'=>e = .returned (.tuple #[.string r,.int .i64 0])∧Below w.heap.size w W':=by
 have C:=Ha (Hb cx (Hb cy cq));clear cx cy cq
 have B0:=Ha (Below.refl w.heap.size w)
 go_enter Tryz.func99,Tryz.ntmps99
 go_upto_if 11 with fail
 go_cut [0,1] from 9 to 22 (fun s0 s1 wx=>s0 = .string n∧s1 = .string d∧wx=w)
 case first =>
  rcases hP with ⟨h1,rfl,rfl⟩ | ⟨h1,h2,⟨h3,h4⟩ | ⟨h3,h4,rfl⟩ | ⟨h3,h4,h5⟩⟩
  ·go_wp2_with fail
   all_goals (go_meet;exact ⟨rfl,rfl,rfl⟩)
  ·go_wp2_with fail
   all_goals (go_meet;exact ⟨rfl,rfl,rfl⟩)
  ·have h4':(n0.toList != [48])=false:=by rw [bne,h4];rfl
   go_wp2_with fail
   all_goals (go_meet;exact ⟨rfl,rfl,rfl⟩)
  ·have h4':(n0.toList != [48])=true:=by rw [bne,h4];rfl
   go_wp2_with fail
   all_goals (go_meet;exact ⟨rfl,rfl,rfl⟩)
 case rest =>
 obtain ⟨rfl,rfl,rfl⟩:=hcut
 clear hP
 go_wp2_with fail
 refine (C.out.1 _).mono ?_
 rintro e w' ⟨rfl,rfl⟩
 go_wp2_with fail
 refine (C.out.2.1 _).mono ?_
 rintro e w' ⟨rfl,rfl⟩
 go_wp2_with fail
 refine (C.out.2.2 _ B0.out).mono ?_
 rintro e w1 ⟨rfl,b⟩
 have B1:=Ha (B0.out.trans (b.mono B0.out.size));clear b B0
 go_wp2
 go_ret2
 exact ⟨rfl,B1.out⟩
theorem sP (n0 d0 n d:ByteArray) (g a ra b rb:ByteArray) (w:World) (pn:0<n0.size) (pn':(0:Int)<n0.size) (pd:0<d0.size) (pd':(0:Int)<d0.size) (zn:n0.size≤1000) (qn:0<n.size) (qn':(0:Int)<n.size) (hP:(((d0[0].toNat:Int)==45)=false∧n0=n∧d0=d)∨(((d0[0].toNat:Int)==45)=true∧d0.extract 1 d0.size=d∧((((n0[0].toNat:Int)==45)=true∧n0.extract 1 n0.size=n)∨(((n0[0].toNat:Int)==45)=false∧(n0.toList == [48])=true∧n0=n)∨(((n0[0].toNat:Int)==45)=false∧(n0.toList == [48])=false∧⟨#[45]⟩++n0=n))))
  (s1:¬ (n.size:Int)≤18) (pa:0<a.size) (pa':(0:Int)<a.size) (za:(a.size:Int)≤301) (zb:¬ (300:Int)<b.size) (hm:((a[0].toNat:Int)==45)=false) (ka:¬ (300:Int)<a.size) (h1:(b.toList == [49])=false)
  (cg:CqB w 104 #[.string n,.string d] (.tuple #[.string g,.int .i64 0]))
  (ca:CqB w 65 #[.string n,.string g] (.tuple #[.string a,.string ra,.int .i64 0]))
  (cb:CqB w 65 #[.string d,.string g] (.tuple #[.string b,.string rb,.int .i64 0])) :
  Calls Tryz.prog 99 #[.string n0,.string d0] w fun e W'=>e = .returned (.tuple #[.string (a++⟨#[47]⟩++b),.int .i64 0])∧Below w.heap.size w W':=by
 have C:=Ha (Hb cg (Hb ca cb));clear cg ca cb
 have B0:=Ha (Below.refl w.heap.size w)
 go_enter Tryz.func99,Tryz.ntmps99
 go_upto_if 11 with fail
 go_cut [0,1] from 9 to 22 (fun s0 s1 wx=>s0 = .string n∧s1 = .string d∧wx=w)
 case first =>
  rcases hP with ⟨h1,rfl,rfl⟩ | ⟨h1,h2,⟨h3,h4⟩ | ⟨h3,h4,rfl⟩ | ⟨h3,h4,h5⟩⟩
  ·go_wp2_with fail
   all_goals (go_meet;exact ⟨rfl,rfl,rfl⟩)
  ·go_wp2_with fail
   all_goals (go_meet;exact ⟨rfl,rfl,rfl⟩)
  ·have h4':(n0.toList != [48])=false:=by rw [bne,h4];rfl
   go_wp2_with fail
   all_goals (go_meet;exact ⟨rfl,rfl,rfl⟩)
  ·have h4':(n0.toList != [48])=true:=by rw [bne,h4];rfl
   go_wp2_with fail
   all_goals (go_meet;exact ⟨rfl,rfl,rfl⟩)
 case rest =>
 obtain ⟨rfl,rfl,rfl⟩:=hcut
 clear hP
 go_wp2_with fail
 refine (C.out.1 _ B0.out).mono ?_
 rintro e w1 ⟨rfl,b⟩
 have B1:=Ha (B0.out.trans (b.mono B0.out.size));clear b B0
 go_wp2_with fail
 refine (C.out.2.1 _ B1.out).mono ?_
 rintro e w2 ⟨rfl,b⟩
 have B2:=Ha (B1.out.trans (b.mono B1.out.size));clear b B1
 go_wp2_with fail
 refine (C.out.2.2 _ B2.out).mono ?_
 rintro e w3 ⟨rfl,b⟩
 have B3:=Ha (B2.out.trans (b.mono B2.out.size));clear b B2
 go_wp2
 go_ret2
 exact ⟨rfl,B3.out⟩
theorem sQ (n0 d0 n d:ByteArray) (g a ra b rb:ByteArray) (w:World) (pn:0<n0.size) (pn':(0:Int)<n0.size) (pd:0<d0.size) (pd':(0:Int)<d0.size) (zn:n0.size≤1000) (qn:0<n.size) (qn':(0:Int)<n.size) (hP:(((d0[0].toNat:Int)==45)=false∧n0=n∧d0=d)∨(((d0[0].toNat:Int)==45)=true∧d0.extract 1 d0.size=d∧((((n0[0].toNat:Int)==45)=true∧n0.extract 1 n0.size=n)∨(((n0[0].toNat:Int)==45)=false∧(n0.toList == [48])=true∧n0=n)∨(((n0[0].toNat:Int)==45)=false∧(n0.toList == [48])=false∧⟨#[45]⟩++n0=n))))
  (s1:¬ (n.size:Int)≤18) (pa:0<a.size) (pa':(0:Int)<a.size) (za:(a.size:Int)≤301) (zb:¬ (300:Int)<b.size) (hm:((a[0].toNat:Int)==45)=false) (ka:¬ (300:Int)<a.size) (h1:(b.toList == [49])=true)
  (cg:CqB w 104 #[.string n,.string d] (.tuple #[.string g,.int .i64 0]))
  (ca:CqB w 65 #[.string n,.string g] (.tuple #[.string a,.string ra,.int .i64 0]))
  (cb:CqB w 65 #[.string d,.string g] (.tuple #[.string b,.string rb,.int .i64 0])) :
  Calls Tryz.prog 99 #[.string n0,.string d0] w fun e W'=>e = .returned (.tuple #[.string a,.int .i64 0])∧Below w.heap.size w W':=by
 have C:=Ha (Hb cg (Hb ca cb));clear cg ca cb
 have B0:=Ha (Below.refl w.heap.size w)
 go_enter Tryz.func99,Tryz.ntmps99
 go_upto_if 11 with fail
 go_cut [0,1] from 9 to 22 (fun s0 s1 wx=>s0 = .string n∧s1 = .string d∧wx=w)
 case first =>
  rcases hP with ⟨h1,rfl,rfl⟩ | ⟨h1,h2,⟨h3,h4⟩ | ⟨h3,h4,rfl⟩ | ⟨h3,h4,h5⟩⟩
  ·go_wp2_with fail
   all_goals (go_meet;exact ⟨rfl,rfl,rfl⟩)
  ·go_wp2_with fail
   all_goals (go_meet;exact ⟨rfl,rfl,rfl⟩)
  ·have h4':(n0.toList != [48])=false:=by rw [bne,h4];rfl
   go_wp2_with fail
   all_goals (go_meet;exact ⟨rfl,rfl,rfl⟩)
  ·have h4':(n0.toList != [48])=true:=by rw [bne,h4];rfl
   go_wp2_with fail
   all_goals (go_meet;exact ⟨rfl,rfl,rfl⟩)
 case rest =>
 obtain ⟨rfl,rfl,rfl⟩:=hcut
 clear hP
 go_wp2_with fail
 refine (C.out.1 _ B0.out).mono ?_
 rintro e w1 ⟨rfl,b⟩
 have B1:=Ha (B0.out.trans (b.mono B0.out.size));clear b B0
 go_wp2_with fail
 refine (C.out.2.1 _ B1.out).mono ?_
 rintro e w2 ⟨rfl,b⟩
 have B2:=Ha (B1.out.trans (b.mono B1.out.size));clear b B1
 go_wp2_with fail
 refine (C.out.2.2 _ B2.out).mono ?_
 rintro e w3 ⟨rfl,b⟩
 have B3:=Ha (B2.out.trans (b.mono B2.out.size));clear b B2
 go_wp2
 go_ret2
 exact ⟨rfl,B3.out⟩
theorem sR (n0 d0 n d:ByteArray) (g a ra b rb a1:ByteArray) (w:World) (pn:0<n0.size) (pn':(0:Int)<n0.size) (pd:0<d0.size) (pd':(0:Int)<d0.size) (zn:n0.size≤1000) (qn:0<n.size) (qn':(0:Int)<n.size) (hP:(((d0[0].toNat:Int)==45)=false∧n0=n∧d0=d)∨(((d0[0].toNat:Int)==45)=true∧d0.extract 1 d0.size=d∧((((n0[0].toNat:Int)==45)=true∧n0.extract 1 n0.size=n)∨(((n0[0].toNat:Int)==45)=false∧(n0.toList == [48])=true∧n0=n)∨(((n0[0].toNat:Int)==45)=false∧(n0.toList == [48])=false∧⟨#[45]⟩++n0=n))))
  (s1:¬ (n.size:Int)≤18) (pa:0<a.size) (pa':(0:Int)<a.size) (za:(a.size:Int)≤301) (zb:¬ (300:Int)<b.size) (hm:((a[0].toNat:Int)==45)=true) (he:a.extract 1 a.size=a1) (ka:¬ (300:Int)<a1.size) (h1:(b.toList == [49])=false)
  (cg:CqB w 104 #[.string n,.string d] (.tuple #[.string g,.int .i64 0]))
  (ca:CqB w 65 #[.string n,.string g] (.tuple #[.string a,.string ra,.int .i64 0]))
  (cb:CqB w 65 #[.string d,.string g] (.tuple #[.string b,.string rb,.int .i64 0])) :
  Calls Tryz.prog 99 #[.string n0,.string d0] w fun e W'=>e = .returned (.tuple #[.string (a++⟨#[47]⟩++b),.int .i64 0])∧Below w.heap.size w W':=by
 have C:=Ha (Hb cg (Hb ca cb));clear cg ca cb
 have B0:=Ha (Below.refl w.heap.size w)
 go_enter Tryz.func99,Tryz.ntmps99
 go_upto_if 11 with fail
 go_cut [0,1] from 9 to 22 (fun s0 s1 wx=>s0 = .string n∧s1 = .string d∧wx=w)
 case first =>
  rcases hP with ⟨h1,rfl,rfl⟩ | ⟨h1,h2,⟨h3,h4⟩ | ⟨h3,h4,rfl⟩ | ⟨h3,h4,h5⟩⟩
  ·go_wp2_with fail
   all_goals (go_meet;exact ⟨rfl,rfl,rfl⟩)
  ·go_wp2_with fail
   all_goals (go_meet;exact ⟨rfl,rfl,rfl⟩)
  ·have h4':(n0.toList != [48])=false:=by rw [bne,h4];rfl
   go_wp2_with fail
   all_goals (go_meet;exact ⟨rfl,rfl,rfl⟩)
  ·have h4':(n0.toList != [48])=true:=by rw [bne,h4];rfl
   go_wp2_with fail
   all_goals (go_meet;exact ⟨rfl,rfl,rfl⟩)
 case rest =>
 obtain ⟨rfl,rfl,rfl⟩:=hcut
 clear hP
 go_wp2_with fail
 refine (C.out.1 _ B0.out).mono ?_
 rintro e w1 ⟨rfl,b⟩
 have B1:=Ha (B0.out.trans (b.mono B0.out.size));clear b B0
 go_wp2_with fail
 refine (C.out.2.1 _ B1.out).mono ?_
 rintro e w2 ⟨rfl,b⟩
 have B2:=Ha (B1.out.trans (b.mono B1.out.size));clear b B1
 go_wp2_with fail
 refine (C.out.2.2 _ B2.out).mono ?_
 rintro e w3 ⟨rfl,b⟩
 have B3:=Ha (B2.out.trans (b.mono B2.out.size));clear b B2
 go_wp2
 go_ret2
 exact ⟨rfl,B3.out⟩
theorem sS (n0 d0 n d:ByteArray) (g a ra b rb a1:ByteArray) (w:World) (pn:0<n0.size) (pn':(0:Int)<n0.size) (pd:0<d0.size) (pd':(0:Int)<d0.size) (zn:n0.size≤1000) (qn:0<n.size) (qn':(0:Int)<n.size) (hP:(((d0[0].toNat:Int)==45)=false∧n0=n∧d0=d)∨(((d0[0].toNat:Int)==45)=true∧d0.extract 1 d0.size=d∧((((n0[0].toNat:Int)==45)=true∧n0.extract 1 n0.size=n)∨(((n0[0].toNat:Int)==45)=false∧(n0.toList == [48])=true∧n0=n)∨(((n0[0].toNat:Int)==45)=false∧(n0.toList == [48])=false∧⟨#[45]⟩++n0=n))))
  (s1:¬ (n.size:Int)≤18) (pa:0<a.size) (pa':(0:Int)<a.size) (za:(a.size:Int)≤301) (zb:¬ (300:Int)<b.size) (hm:((a[0].toNat:Int)==45)=true) (he:a.extract 1 a.size=a1) (ka:¬ (300:Int)<a1.size) (h1:(b.toList == [49])=true)
  (cg:CqB w 104 #[.string n,.string d] (.tuple #[.string g,.int .i64 0]))
  (ca:CqB w 65 #[.string n,.string g] (.tuple #[.string a,.string ra,.int .i64 0]))
  (cb:CqB w 65 #[.string d,.string g] (.tuple #[.string b,.string rb,.int .i64 0])) :
  Calls Tryz.prog 99 #[.string n0,.string d0] w fun e W'=>e = .returned (.tuple #[.string a,.int .i64 0])∧Below w.heap.size w W':=by
 have C:=Ha (Hb cg (Hb ca cb));clear cg ca cb
 have B0:=Ha (Below.refl w.heap.size w)
 go_enter Tryz.func99,Tryz.ntmps99
 go_upto_if 11 with fail
 go_cut [0,1] from 9 to 22 (fun s0 s1 wx=>s0 = .string n∧s1 = .string d∧wx=w)
 case first =>
  rcases hP with ⟨h1,rfl,rfl⟩ | ⟨h1,h2,⟨h3,h4⟩ | ⟨h3,h4,rfl⟩ | ⟨h3,h4,h5⟩⟩
  ·go_wp2_with fail
   all_goals (go_meet;exact ⟨rfl,rfl,rfl⟩)
  ·go_wp2_with fail
   all_goals (go_meet;exact ⟨rfl,rfl,rfl⟩)
  ·have h4':(n0.toList != [48])=false:=by rw [bne,h4];rfl
   go_wp2_with fail
   all_goals (go_meet;exact ⟨rfl,rfl,rfl⟩)
  ·have h4':(n0.toList != [48])=true:=by rw [bne,h4];rfl
   go_wp2_with fail
   all_goals (go_meet;exact ⟨rfl,rfl,rfl⟩)
 case rest =>
 obtain ⟨rfl,rfl,rfl⟩:=hcut
 clear hP
 go_wp2_with fail
 refine (C.out.1 _ B0.out).mono ?_
 rintro e w1 ⟨rfl,b⟩
 have B1:=Ha (B0.out.trans (b.mono B0.out.size));clear b B0
 go_wp2_with fail
 refine (C.out.2.1 _ B1.out).mono ?_
 rintro e w2 ⟨rfl,b⟩
 have B2:=Ha (B1.out.trans (b.mono B1.out.size));clear b B1
 go_wp2_with fail
 refine (C.out.2.2 _ B2.out).mono ?_
 rintro e w3 ⟨rfl,b⟩
 have B3:=Ha (B2.out.trans (b.mono B2.out.size));clear b B2
 go_wp2
 go_ret2
 exact ⟨rfl,B3.out⟩
theorem sT (n0 d0 n d:ByteArray) (g a ra b rb:ByteArray) (w:World) (pn:0<n0.size) (pn':(0:Int)<n0.size) (pd:0<d0.size) (pd':(0:Int)<d0.size) (zn:n0.size≤1000) (qn:0<n.size) (qn':(0:Int)<n.size) (hP:(((d0[0].toNat:Int)==45)=false∧n0=n∧d0=d)∨(((d0[0].toNat:Int)==45)=true∧d0.extract 1 d0.size=d∧((((n0[0].toNat:Int)==45)=true∧n0.extract 1 n0.size=n)∨(((n0[0].toNat:Int)==45)=false∧(n0.toList == [48])=true∧n0=n)∨(((n0[0].toNat:Int)==45)=false∧(n0.toList == [48])=false∧⟨#[45]⟩++n0=n))))
  (s1:(n.size:Int)≤18) (s2:¬ (d.size:Int)≤18) (pa:0<a.size) (pa':(0:Int)<a.size) (za:(a.size:Int)≤301) (zb:¬ (300:Int)<b.size) (hm:((a[0].toNat:Int)==45)=false) (ka:¬ (300:Int)<a.size) (h1:(b.toList == [49])=false)
  (cg:CqB w 104 #[.string n,.string d] (.tuple #[.string g,.int .i64 0]))
  (ca:CqB w 65 #[.string n,.string g] (.tuple #[.string a,.string ra,.int .i64 0]))
  (cb:CqB w 65 #[.string d,.string g] (.tuple #[.string b,.string rb,.int .i64 0])) :
  Calls Tryz.prog 99 #[.string n0,.string d0] w fun e W'=>e = .returned (.tuple #[.string (a++⟨#[47]⟩++b),.int .i64 0])∧Below w.heap.size w W':=by
 have C:=Ha (Hb cg (Hb ca cb));clear cg ca cb
 have B0:=Ha (Below.refl w.heap.size w)
 go_enter Tryz.func99,Tryz.ntmps99
 go_upto_if 11 with fail
 go_cut [0,1] from 9 to 22 (fun s0 s1 wx=>s0 = .string n∧s1 = .string d∧wx=w)
 case first =>
  rcases hP with ⟨h1,rfl,rfl⟩ | ⟨h1,h2,⟨h3,h4⟩ | ⟨h3,h4,rfl⟩ | ⟨h3,h4,h5⟩⟩
  ·go_wp2_with fail
   all_goals (go_meet;exact ⟨rfl,rfl,rfl⟩)
  ·go_wp2_with fail
   all_goals (go_meet;exact ⟨rfl,rfl,rfl⟩)
  ·have h4':(n0.toList != [48])=false:=by rw [bne,h4];rfl
   go_wp2_with fail
   all_goals (go_meet;exact ⟨rfl,rfl,rfl⟩)
  ·have h4':(n0.toList != [48])=true:=by rw [bne,h4];rfl
   go_wp2_with fail
   all_goals (go_meet;exact ⟨rfl,rfl,rfl⟩)
 case rest =>
 obtain ⟨rfl,rfl,rfl⟩:=hcut
 clear hP
 go_wp2_with fail
 refine (C.out.1 _ B0.out).mono ?_
 rintro e w1 ⟨rfl,b⟩
 have B1:=Ha (B0.out.trans (b.mono B0.out.size));clear b B0
 go_wp2_with fail
 refine (C.out.2.1 _ B1.out).mono ?_
 rintro e w2 ⟨rfl,b⟩
 have B2:=Ha (B1.out.trans (b.mono B1.out.size));clear b B1
 go_wp2_with fail
 refine (C.out.2.2 _ B2.out).mono ?_
 rintro e w3 ⟨rfl,b⟩
 have B3:=Ha (B2.out.trans (b.mono B2.out.size));clear b B2
 go_wp2
 go_ret2
 exact ⟨rfl,B3.out⟩
theorem sU (n0 d0 n d:ByteArray) (g a ra b rb:ByteArray) (w:World) (pn:0<n0.size) (pn':(0:Int)<n0.size) (pd:0<d0.size) (pd':(0:Int)<d0.size) (zn:n0.size≤1000) (qn:0<n.size) (qn':(0:Int)<n.size) (hP:(((d0[0].toNat:Int)==45)=false∧n0=n∧d0=d)∨(((d0[0].toNat:Int)==45)=true∧d0.extract 1 d0.size=d∧((((n0[0].toNat:Int)==45)=true∧n0.extract 1 n0.size=n)∨(((n0[0].toNat:Int)==45)=false∧(n0.toList == [48])=true∧n0=n)∨(((n0[0].toNat:Int)==45)=false∧(n0.toList == [48])=false∧⟨#[45]⟩++n0=n))))
  (s1:(n.size:Int)≤18) (s2:¬ (d.size:Int)≤18) (pa:0<a.size) (pa':(0:Int)<a.size) (za:(a.size:Int)≤301) (zb:¬ (300:Int)<b.size) (hm:((a[0].toNat:Int)==45)=false) (ka:¬ (300:Int)<a.size) (h1:(b.toList == [49])=true)
  (cg:CqB w 104 #[.string n,.string d] (.tuple #[.string g,.int .i64 0]))
  (ca:CqB w 65 #[.string n,.string g] (.tuple #[.string a,.string ra,.int .i64 0]))
  (cb:CqB w 65 #[.string d,.string g] (.tuple #[.string b,.string rb,.int .i64 0])) :
  Calls Tryz.prog 99 #[.string n0,.string d0] w fun e W'=>e = .returned (.tuple #[.string a,.int .i64 0])∧Below w.heap.size w W':=by
 have C:=Ha (Hb cg (Hb ca cb));clear cg ca cb
 have B0:=Ha (Below.refl w.heap.size w)
 go_enter Tryz.func99,Tryz.ntmps99
 go_upto_if 11 with fail
 go_cut [0,1] from 9 to 22 (fun s0 s1 wx=>s0 = .string n∧s1 = .string d∧wx=w)
 case first =>
  rcases hP with ⟨h1,rfl,rfl⟩ | ⟨h1,h2,⟨h3,h4⟩ | ⟨h3,h4,rfl⟩ | ⟨h3,h4,h5⟩⟩
  ·go_wp2_with fail
   all_goals (go_meet;exact ⟨rfl,rfl,rfl⟩)
  ·go_wp2_with fail
   all_goals (go_meet;exact ⟨rfl,rfl,rfl⟩)
  ·have h4':(n0.toList != [48])=false:=by rw [bne,h4];rfl
   go_wp2_with fail
   all_goals (go_meet;exact ⟨rfl,rfl,rfl⟩)
  ·have h4':(n0.toList != [48])=true:=by rw [bne,h4];rfl
   go_wp2_with fail
   all_goals (go_meet;exact ⟨rfl,rfl,rfl⟩)
 case rest =>
 obtain ⟨rfl,rfl,rfl⟩:=hcut
 clear hP
 go_wp2_with fail
 refine (C.out.1 _ B0.out).mono ?_
 rintro e w1 ⟨rfl,b⟩
 have B1:=Ha (B0.out.trans (b.mono B0.out.size));clear b B0
 go_wp2_with fail
 refine (C.out.2.1 _ B1.out).mono ?_
 rintro e w2 ⟨rfl,b⟩
 have B2:=Ha (B1.out.trans (b.mono B1.out.size));clear b B1
 go_wp2_with fail
 refine (C.out.2.2 _ B2.out).mono ?_
 rintro e w3 ⟨rfl,b⟩
 have B3:=Ha (B2.out.trans (b.mono B2.out.size));clear b B2
 go_wp2
 go_ret2
 exact ⟨rfl,B3.out⟩
theorem sV (n0 d0 n d:ByteArray) (g a ra b rb a1:ByteArray) (w:World) (pn:0<n0.size) (pn':(0:Int)<n0.size) (pd:0<d0.size) (pd':(0:Int)<d0.size) (zn:n0.size≤1000) (qn:0<n.size) (qn':(0:Int)<n.size) (hP:(((d0[0].toNat:Int)==45)=false∧n0=n∧d0=d)∨(((d0[0].toNat:Int)==45)=true∧d0.extract 1 d0.size=d∧((((n0[0].toNat:Int)==45)=true∧n0.extract 1 n0.size=n)∨(((n0[0].toNat:Int)==45)=false∧(n0.toList == [48])=true∧n0=n)∨(((n0[0].toNat:Int)==45)=false∧(n0.toList == [48])=false∧⟨#[45]⟩++n0=n))))
  (s1:(n.size:Int)≤18) (s2:¬ (d.size:Int)≤18) (pa:0<a.size) (pa':(0:Int)<a.size) (za:(a.size:Int)≤301) (zb:¬ (300:Int)<b.size) (hm:((a[0].toNat:Int)==45)=true) (he:a.extract 1 a.size=a1) (ka:¬ (300:Int)<a1.size) (h1:(b.toList == [49])=false)
  (cg:CqB w 104 #[.string n,.string d] (.tuple #[.string g,.int .i64 0]))
  (ca:CqB w 65 #[.string n,.string g] (.tuple #[.string a,.string ra,.int .i64 0]))
  (cb:CqB w 65 #[.string d,.string g] (.tuple #[.string b,.string rb,.int .i64 0])) :
  Calls Tryz.prog 99 #[.string n0,.string d0] w fun e W'=>e = .returned (.tuple #[.string (a++⟨#[47]⟩++b),.int .i64 0])∧Below w.heap.size w W':=by
 have C:=Ha (Hb cg (Hb ca cb));clear cg ca cb
 have B0:=Ha (Below.refl w.heap.size w)
 go_enter Tryz.func99,Tryz.ntmps99
 go_upto_if 11 with fail
 go_cut [0,1] from 9 to 22 (fun s0 s1 wx=>s0 = .string n∧s1 = .string d∧wx=w)
 case first =>
  rcases hP with ⟨h1,rfl,rfl⟩ | ⟨h1,h2,⟨h3,h4⟩ | ⟨h3,h4,rfl⟩ | ⟨h3,h4,h5⟩⟩
  ·go_wp2_with fail
   all_goals (go_meet;exact ⟨rfl,rfl,rfl⟩)
  ·go_wp2_with fail
   all_goals (go_meet;exact ⟨rfl,rfl,rfl⟩)
  ·have h4':(n0.toList != [48])=false:=by rw [bne,h4];rfl
   go_wp2_with fail
   all_goals (go_meet;exact ⟨rfl,rfl,rfl⟩)
  ·have h4':(n0.toList != [48])=true:=by rw [bne,h4];rfl
   go_wp2_with fail
   all_goals (go_meet;exact ⟨rfl,rfl,rfl⟩)
 case rest =>
 obtain ⟨rfl,rfl,rfl⟩:=hcut
 clear hP
 go_wp2_with fail
 refine (C.out.1 _ B0.out).mono ?_
 rintro e w1 ⟨rfl,b⟩
 have B1:=Ha (B0.out.trans (b.mono B0.out.size));clear b B0
 go_wp2_with fail
 refine (C.out.2.1 _ B1.out).mono ?_
 rintro e w2 ⟨rfl,b⟩
 have B2:=Ha (B1.out.trans (b.mono B1.out.size));clear b B1
 go_wp2_with fail
 refine (C.out.2.2 _ B2.out).mono ?_
 rintro e w3 ⟨rfl,b⟩
 have B3:=Ha (B2.out.trans (b.mono B2.out.size));clear b B2
 go_wp2
 go_ret2
 exact ⟨rfl,B3.out⟩
theorem sW (n0 d0 n d:ByteArray) (g a ra b rb a1:ByteArray) (w:World) (pn:0<n0.size) (pn':(0:Int)<n0.size) (pd:0<d0.size) (pd':(0:Int)<d0.size) (zn:n0.size≤1000) (qn:0<n.size) (qn':(0:Int)<n.size) (hP:(((d0[0].toNat:Int)==45)=false∧n0=n∧d0=d)∨(((d0[0].toNat:Int)==45)=true∧d0.extract 1 d0.size=d∧((((n0[0].toNat:Int)==45)=true∧n0.extract 1 n0.size=n)∨(((n0[0].toNat:Int)==45)=false∧(n0.toList == [48])=true∧n0=n)∨(((n0[0].toNat:Int)==45)=false∧(n0.toList == [48])=false∧⟨#[45]⟩++n0=n))))
  (s1:(n.size:Int)≤18) (s2:¬ (d.size:Int)≤18) (pa:0<a.size) (pa':(0:Int)<a.size) (za:(a.size:Int)≤301) (zb:¬ (300:Int)<b.size) (hm:((a[0].toNat:Int)==45)=true) (he:a.extract 1 a.size=a1) (ka:¬ (300:Int)<a1.size) (h1:(b.toList == [49])=true)
  (cg:CqB w 104 #[.string n,.string d] (.tuple #[.string g,.int .i64 0]))
  (ca:CqB w 65 #[.string n,.string g] (.tuple #[.string a,.string ra,.int .i64 0]))
  (cb:CqB w 65 #[.string d,.string g] (.tuple #[.string b,.string rb,.int .i64 0])) :
  Calls Tryz.prog 99 #[.string n0,.string d0] w fun e W'=>e = .returned (.tuple #[.string a,.int .i64 0])∧Below w.heap.size w W':=by
 have C:=Ha (Hb cg (Hb ca cb));clear cg ca cb
 have B0:=Ha (Below.refl w.heap.size w)
 go_enter Tryz.func99,Tryz.ntmps99
 go_upto_if 11 with fail
 go_cut [0,1] from 9 to 22 (fun s0 s1 wx=>s0 = .string n∧s1 = .string d∧wx=w)
 case first =>
  rcases hP with ⟨h1,rfl,rfl⟩ | ⟨h1,h2,⟨h3,h4⟩ | ⟨h3,h4,rfl⟩ | ⟨h3,h4,h5⟩⟩
  ·go_wp2_with fail
   all_goals (go_meet;exact ⟨rfl,rfl,rfl⟩)
  ·go_wp2_with fail
   all_goals (go_meet;exact ⟨rfl,rfl,rfl⟩)
  ·have h4':(n0.toList != [48])=false:=by rw [bne,h4];rfl
   go_wp2_with fail
   all_goals (go_meet;exact ⟨rfl,rfl,rfl⟩)
  ·have h4':(n0.toList != [48])=true:=by rw [bne,h4];rfl
   go_wp2_with fail
   all_goals (go_meet;exact ⟨rfl,rfl,rfl⟩)
 case rest =>
 obtain ⟨rfl,rfl,rfl⟩:=hcut
 clear hP
 go_wp2_with fail
 refine (C.out.1 _ B0.out).mono ?_
 rintro e w1 ⟨rfl,b⟩
 have B1:=Ha (B0.out.trans (b.mono B0.out.size));clear b B0
 go_wp2_with fail
 refine (C.out.2.1 _ B1.out).mono ?_
 rintro e w2 ⟨rfl,b⟩
 have B2:=Ha (B1.out.trans (b.mono B1.out.size));clear b B1
 go_wp2_with fail
 refine (C.out.2.2 _ B2.out).mono ?_
 rintro e w3 ⟨rfl,b⟩
 have B3:=Ha (B2.out.trans (b.mono B2.out.size));clear b B2
 go_wp2
 go_ret2
 exact ⟨rfl,B3.out⟩
end
end Go.Proofs.YtjdomibbaemdnaaGreatDoor
