/- Parts of the proof of the text YteckjifdpcbaeaaGreatDoorZG38. -/
import Derived.Test.YteckjifdpcbaeaaGreatDoorZG1
import Derived.Test.YteckjifdpcbaeaaGreatDoorZG31
import Derived.Test.YteckjifdpcbaeaaGreatDoorZG33
set_option linter.all false
set_option maxRecDepth 100000
set_option maxHeartbeats 8000000
namespace Go.Proofs.YteckjifdpcbaeaaGreatDoor
open Go.RowKit
theorem sN_itoaQ (x:Rat):sN (itoaQ x)=Lib.itoa (x.num.natAbs:Int):=by
 rw [←(cutN_sz (itoaQ x)).2,(itoaQ_cut x).1,szL_itoa]
 unfold Lib.itoa
 rw [if_neg (by omega)];rfl
theorem bsN_strQ (x:Rat):bsN (strQ x)=strB (x.num.natAbs:Int):=bytes_ext (by rw [bsN_data,strQ_data,strB_data,sN_itoaQ])
theorem hasS_strQ (x:Rat):hasS (strQ x).data.toList=decide (x.den≠1):=by rw [strQ_data];exact (itoaQ_cut x).2.2
theorem bsD_strQ (x:Rat):bsD (strQ x)=if x.den=1 then ⟨#[]⟩ else strB (x.den:Int):=by
 apply bytes_ext
 rw [bsD_data]
 unfold sD
 rw [hasS_strQ]
 by_cases h:x.den=1
 ·rw [if_pos h,if_neg (by simp [h])]
 ·rw [if_neg h,if_pos (by simp [h]),strQ_data,(itoaQ_cut x).2.1,strB_data]
theorem split_q (x:Rat) (w:World) (hx:Sq x) :
  Calls Tryz.prog 80 #[.string (strQ x)] w fun e w'=>e = .returned (.tuple #[.bool (decide (x.num<0)),.string (strB (x.num.natAbs:Int)),.string (bsD (strQ x)),.bool (decide (x.den≠1))])∧Below w.heap.size w w':=by
 have c:=split2_any (strQ x) w hx.size
 have h:isNeg (strQ x).data.toList=decide (x.num<0):=by
  rw [strQ_neg]
  apply decide_eq_decide.2
  rw [←Rat.not_le,←Rat.num_nonneg];omega
 rwa [h,bsN_strQ,hasS_strQ] at c
theorem nat_dec (k:Nat):natOf (strB (k:Int)).data.toList=k:=by
 rw [strB_data];unfold Lib.itoa;rw [if_neg (by omega)];exact natOf_dec k
theorem nat_dig (k:Nat):(strB (k:Int)).data.toList.all isDig=true:=by
 rw [strB_data,List.all_eq_true];unfold Lib.itoa;rw [if_neg (by omega)];exact decDigits_dig _
theorem small_q (k:Nat) (w:World) (h:(strB (k:Int)).size≤18) :
  Calls Tryz.prog 90 #[.string (strB (k:Int))] w fun e w'=>e = .returned (.int .i64 (k:Int))∧w=w':=by
 have c:=small2_any (strB (k:Int)) w h (nat_dig k)
 rwa [nat_dec] at c
theorem nat_len {k j:Nat} (h:(strB (k:Int)).size≤j):k<tenTo j:=by
 have h1:=natOf_tenTo (strB (k:Int)).data.toList (fun c hc=>List.all_eq_true.1 (nat_dig k) c hc)
 rw [nat_dec,size_len] at h1
 exact Nat.lt_of_lt_of_le h1 (tenTo_mono h)
theorem ints_non (s n d:ByteArray) (m f:Bool) (w:World) (h1:(9:Int)<n.size) (hs:∀ W,Calls Tryz.prog 80 #[.string s] W fun e w'=>e = .returned (.tuple #[.bool m,.string n,.string d,.bool f])∧Below W.heap.size W w') :
  Calls Tryz.prog 60 #[.string s] w fun e w'=>e = .returned (.tuple #[.int .i64 0,.int .i64 0,.bool false])∧Below w.heap.size w w':=by
 have C:=Lib.hid hs;clear hs
 go_enter Tryz.func60,Tryz.ntmps60
 go_wp2_with fail
 refine (C.out _).mono ?_
 rintro e w1 ⟨rfl,b⟩
 have B1:=Lib.hid b;clear b
 go_wp2
 go_ret3
 exact ⟨rfl,B1.out⟩
theorem ints_nod (s n d:ByteArray) (m f:Bool) (w:World) (h1:¬ (9:Int)<n.size) (h2:(9:Int)<d.size) (hs:∀ W,Calls Tryz.prog 80 #[.string s] W fun e w'=>e = .returned (.tuple #[.bool m,.string n,.string d,.bool f])∧Below W.heap.size W w') :
  Calls Tryz.prog 60 #[.string s] w fun e w'=>e = .returned (.tuple #[.int .i64 0,.int .i64 0,.bool false])∧Below w.heap.size w w':=by
 have C:=Lib.hid hs;clear hs
 go_enter Tryz.func60,Tryz.ntmps60
 go_wp2_with fail
 refine (C.out _).mono ?_
 rintro e w1 ⟨rfl,b⟩
 have B1:=Lib.hid b;clear b
 go_wp2
 go_ret3
 exact ⟨rfl,B1.out⟩
theorem ints_00 (s n d:ByteArray) (x y:Nat) (w:World) (hx:x<1000000000) (h1:¬ (9:Int)<n.size) (h2:¬ (9:Int)<d.size) (hs:∀ W,Calls Tryz.prog 80 #[.string s] W fun e w'=>e = .returned (.tuple #[.bool false,.string n,.string d,.bool false])∧Below W.heap.size W w')
  (cx:∀ W,Calls Tryz.prog 90 #[.string n] W fun e w'=>e = .returned (.int .i64 (x:Int))∧W=w') :
  Calls Tryz.prog 60 #[.string s] w fun e w'=>e = .returned (.tuple #[.int .i64 (x:Int),.int .i64 1,.bool true])∧Below w.heap.size w w':=by
 have C:=Lib.hid (And.intro hs (And.intro cx trivial));clear hs cx
 go_enter Tryz.func60,Tryz.ntmps60
 go_wp2_with fail
 refine (C.out.1 _).mono ?_
 rintro e w1 ⟨rfl,b⟩
 have B1:=Lib.hid b;clear b
 go_wp2_with fail
 refine (C.out.2.1 _).mono ?_
 rintro e w' ⟨rfl,rfl⟩
 go_wp2
 go_ret3
 exact ⟨rfl,B1.out⟩
theorem parts_00 (s n d:ByteArray) (w:World) (h1:n.size≤1000) (hs:∀ W,Calls Tryz.prog 80 #[.string s] W fun e w'=>e = .returned (.tuple #[.bool false,.string n,.string d,.bool false])∧Below W.heap.size W w') :
  Calls Tryz.prog 62 #[.string s] w fun e w'=>e = .returned (.tuple #[.string n,.string ⟨#[49]⟩])∧Below w.heap.size w w':=by
 have C:=Lib.hid hs;clear hs
 go_enter Tryz.func62,Tryz.ntmps62
 go_wp2_with fail
 refine (C.out _).mono ?_
 rintro e w1 ⟨rfl,b⟩
 have B1:=Lib.hid b;clear b
 go_wp2
 go_ret2
 exact ⟨rfl,B1.out⟩
theorem ints_01 (s n d:ByteArray) (x y:Nat) (w:World) (hx:x<1000000000) (h1:¬ (9:Int)<n.size) (h2:¬ (9:Int)<d.size) (hs:∀ W,Calls Tryz.prog 80 #[.string s] W fun e w'=>e = .returned (.tuple #[.bool false,.string n,.string d,.bool true])∧Below W.heap.size W w')
  (cx:∀ W,Calls Tryz.prog 90 #[.string n] W fun e w'=>e = .returned (.int .i64 (x:Int))∧W=w') (cy:∀ W,Calls Tryz.prog 90 #[.string d] W fun e w'=>e = .returned (.int .i64 (y:Int))∧W=w') :
  Calls Tryz.prog 60 #[.string s] w fun e w'=>e = .returned (.tuple #[.int .i64 (x:Int),.int .i64 (y:Int),.bool true])∧Below w.heap.size w w':=by
 have C:=Lib.hid (And.intro hs (And.intro cx cy));clear hs cx cy
 go_enter Tryz.func60,Tryz.ntmps60
 go_wp2_with fail
 refine (C.out.1 _).mono ?_
 rintro e w1 ⟨rfl,b⟩
 have B1:=Lib.hid b;clear b
 go_wp2_with fail
 refine (C.out.2.1 _).mono ?_
 rintro e w' ⟨rfl,rfl⟩
 go_wp2_with fail
 refine (C.out.2.2 _).mono ?_
 rintro e w' ⟨rfl,rfl⟩
 go_wp2
 go_ret3
 exact ⟨rfl,B1.out⟩
theorem parts_01 (s n d:ByteArray) (w:World) (h1:n.size≤1000) (hs:∀ W,Calls Tryz.prog 80 #[.string s] W fun e w'=>e = .returned (.tuple #[.bool false,.string n,.string d,.bool true])∧Below W.heap.size W w') :
  Calls Tryz.prog 62 #[.string s] w fun e w'=>e = .returned (.tuple #[.string n,.string d])∧Below w.heap.size w w':=by
 have C:=Lib.hid hs;clear hs
 go_enter Tryz.func62,Tryz.ntmps62
 go_wp2_with fail
 refine (C.out _).mono ?_
 rintro e w1 ⟨rfl,b⟩
 have B1:=Lib.hid b;clear b
 go_wp2
 go_ret2
 exact ⟨rfl,B1.out⟩
theorem ints_10 (s n d:ByteArray) (x y:Nat) (w:World) (hx:x<1000000000) (h1:¬ (9:Int)<n.size) (h2:¬ (9:Int)<d.size) (hs:∀ W,Calls Tryz.prog 80 #[.string s] W fun e w'=>e = .returned (.tuple #[.bool true,.string n,.string d,.bool false])∧Below W.heap.size W w')
  (cx:∀ W,Calls Tryz.prog 90 #[.string n] W fun e w'=>e = .returned (.int .i64 (x:Int))∧W=w') :
  Calls Tryz.prog 60 #[.string s] w fun e w'=>e = .returned (.tuple #[.int .i64 (-(x:Int)),.int .i64 1,.bool true])∧Below w.heap.size w w':=by
 have C:=Lib.hid (And.intro hs (And.intro cx trivial));clear hs cx
 go_enter Tryz.func60,Tryz.ntmps60
 go_wp2_with fail
 refine (C.out.1 _).mono ?_
 rintro e w1 ⟨rfl,b⟩
 have B1:=Lib.hid b;clear b
 go_wp2_with fail
 refine (C.out.2.1 _).mono ?_
 rintro e w' ⟨rfl,rfl⟩
 go_wp2
 go_ret3
 exact ⟨rfl,B1.out⟩
theorem parts_10 (s n d:ByteArray) (w:World) (h1:n.size≤1000) (hs:∀ W,Calls Tryz.prog 80 #[.string s] W fun e w'=>e = .returned (.tuple #[.bool true,.string n,.string d,.bool false])∧Below W.heap.size W w') :
  Calls Tryz.prog 62 #[.string s] w fun e w'=>e = .returned (.tuple #[.string (⟨#[45]⟩++n),.string ⟨#[49]⟩])∧Below w.heap.size w w':=by
 have C:=Lib.hid hs;clear hs
 go_enter Tryz.func62,Tryz.ntmps62
 go_wp2_with fail
 refine (C.out _).mono ?_
 rintro e w1 ⟨rfl,b⟩
 have B1:=Lib.hid b;clear b
 go_wp2
 go_ret2
 exact ⟨rfl,B1.out⟩
theorem ints_11 (s n d:ByteArray) (x y:Nat) (w:World) (hx:x<1000000000) (h1:¬ (9:Int)<n.size) (h2:¬ (9:Int)<d.size) (hs:∀ W,Calls Tryz.prog 80 #[.string s] W fun e w'=>e = .returned (.tuple #[.bool true,.string n,.string d,.bool true])∧Below W.heap.size W w')
  (cx:∀ W,Calls Tryz.prog 90 #[.string n] W fun e w'=>e = .returned (.int .i64 (x:Int))∧W=w') (cy:∀ W,Calls Tryz.prog 90 #[.string d] W fun e w'=>e = .returned (.int .i64 (y:Int))∧W=w') :
  Calls Tryz.prog 60 #[.string s] w fun e w'=>e = .returned (.tuple #[.int .i64 (-(x:Int)),.int .i64 (y:Int),.bool true])∧Below w.heap.size w w':=by
 have C:=Lib.hid (And.intro hs (And.intro cx cy));clear hs cx cy
 go_enter Tryz.func60,Tryz.ntmps60
 go_wp2_with fail
 refine (C.out.1 _).mono ?_
 rintro e w1 ⟨rfl,b⟩
 have B1:=Lib.hid b;clear b
 go_wp2_with fail
 refine (C.out.2.1 _).mono ?_
 rintro e w' ⟨rfl,rfl⟩
 go_wp2_with fail
 refine (C.out.2.2 _).mono ?_
 rintro e w' ⟨rfl,rfl⟩
 go_wp2
 go_ret3
 exact ⟨rfl,B1.out⟩
theorem parts_11 (s n d:ByteArray) (w:World) (h1:n.size≤1000) (hs:∀ W,Calls Tryz.prog 80 #[.string s] W fun e w'=>e = .returned (.tuple #[.bool true,.string n,.string d,.bool true])∧Below W.heap.size W w') :
  Calls Tryz.prog 62 #[.string s] w fun e w'=>e = .returned (.tuple #[.string (⟨#[45]⟩++n),.string d])∧Below w.heap.size w w':=by
 have C:=Lib.hid hs;clear hs
 go_enter Tryz.func62,Tryz.ntmps62
 go_wp2_with fail
 refine (C.out _).mono ?_
 rintro e w1 ⟨rfl,b⟩
 have B1:=Lib.hid b;clear b
 go_wp2
 go_ret2
 exact ⟨rfl,B1.out⟩
def inO (x:Rat):Bool:=decide ((strB (x.num.natAbs:Int)).size≤9∧(bsD (strQ x)).size≤9)
theorem inO_b {x:Rat} (h:inO x=true):x.num.natAbs<1000000000∧x.den<1000000000:=by
 have h:=of_decide_eq_true h
 refine ⟨nat_len h.1,?_⟩
 have h2:=h.2
 rw [bsD_strQ] at h2
 by_cases hd:x.den=1
 ·omega
 ·rw [if_neg hd] at h2;exact nat_len h2
theorem ints_q (x:Rat) (w:World) (hx:Sq x) :
  Calls Tryz.prog 60 #[.string (strQ x)] w fun e w'=>e = .returned (.tuple #[.int .i64 (if inO x=true then x.num else 0),.int .i64 (if inO x=true then (x.den:Int) else 0),.bool (inO x)])∧Below w.heap.size w w':=by
 have hs:=fun W=>split_q x W hx
 cases ho:inO x
 ·rw [if_neg (by decide),if_neg (by decide)]
  have h:=of_decide_eq_false ho
  by_cases h1:(9:Int)<(strB (x.num.natAbs:Int)).size
  ·exact ints_non _ _ _ _ _ w h1 hs
  ·exact ints_nod _ _ _ _ _ w h1 (by
    have:¬ (bsD (strQ x)).size≤9:=fun q=>h ⟨by omega,q⟩
    omega) hs
 ·rw [if_pos rfl,if_pos rfl]
  have h:=of_decide_eq_true ho
  have hb:=inO_b ho
  have cx:=fun W=>small_q x.num.natAbs W (by omega)
  have h1:¬ (9:Int)<(strB (x.num.natAbs:Int)).size:=by omega
  have h2:¬ (9:Int)<(bsD (strQ x)).size:=by omega
  by_cases hd:x.den=1
  ·rw [show decide (x.den≠1)=false by simp [hd]] at hs
   rw [hd]
   by_cases hn:x.num<0
   ·rw [decide_eq_true hn] at hs
    have c:=ints_10 _ _ _ x.num.natAbs 0 w hb.1 h1 h2 hs cx
    rwa [show -((x.num.natAbs:Nat):Int)=x.num by omega] at c
   ·rw [decide_eq_false hn] at hs
    have c:=ints_00 _ _ _ x.num.natAbs 0 w hb.1 h1 h2 hs cx
    rwa [show ((x.num.natAbs:Nat):Int)=x.num by omega] at c
  ·rw [show decide (x.den≠1)=true by simp [hd]] at hs
   have cy:∀ W,Calls Tryz.prog 90 #[.string (bsD (strQ x))] W fun e w'=>e = .returned (.int .i64 ((x.den:Nat):Int))∧W=w':=fun W=>by
    have h3:=h.2
    rw [bsD_strQ,if_neg hd] at h3 ⊢
    exact small_q x.den W (by omega)
   by_cases hn:x.num<0
   ·rw [decide_eq_true hn] at hs
    have c:=ints_11 _ _ _ x.num.natAbs x.den w hb.1 h1 h2 hs cx cy
    rwa [show -((x.num.natAbs:Nat):Int)=x.num by omega] at c
   ·rw [decide_eq_false hn] at hs
    have c:=ints_01 _ _ _ x.num.natAbs x.den w hb.1 h1 h2 hs cx cy
    rwa [show ((x.num.natAbs:Nat):Int)=x.num by omega] at c
theorem neg_str {z:Int} (h:z<0):(⟨#[45]⟩:ByteArray)++strB (z.natAbs:Int)=strB z:=by
 have:=dec_neg z.natAbs (by omega)
 rw [←this,show -((z.natAbs:Nat):Int)=z by omega];rfl
theorem parts_q (x:Rat) (w:World) (hx:Sq x) :
  Calls Tryz.prog 62 #[.string (strQ x)] w fun e w'=>e = .returned (.tuple #[.string (strB x.num),.string (strB (x.den:Int))])∧Below w.heap.size w w':=by
 have hs:=fun W=>split_q x W hx
 have hz:(strB (x.num.natAbs:Int)).size≤1000:=by
  have:=strB_size (z:=(x.num.natAbs:Int)) (by rw [Int.natAbs_natCast];exact hx.1)
  omega
 by_cases hd:x.den=1
 ·rw [show decide (x.den≠1)=false by simp [hd]] at hs
  rw [hd,show strB ((1:Nat):Int)=⟨#[49]⟩ from strB_one]
  by_cases hn:x.num<0
  ·rw [decide_eq_true hn] at hs
   have c:=parts_10 _ _ _ w hz hs
   rwa [neg_str hn] at c
  ·rw [decide_eq_false hn] at hs
   have c:=parts_00 _ _ _ w hz hs
   rwa [show ((x.num.natAbs:Nat):Int)=x.num by omega] at c
 ·rw [show decide (x.den≠1)=true by simp [hd]] at hs
  have e:bsD (strQ x)=strB (x.den:Int):=by rw [bsD_strQ,if_neg hd]
  rw [e] at hs
  by_cases hn:x.num<0
  ·rw [decide_eq_true hn] at hs
   have c:=parts_11 _ _ _ w hz hs
   rwa [neg_str hn] at c
  ·rw [decide_eq_false hn] at hs
   have c:=parts_01 _ _ _ w hz hs
   rwa [show ((x.num.natAbs:Nat):Int)=x.num by omega] at c
end Go.Proofs.YteckjifdpcbaeaaGreatDoor
namespace Go.Proofs.YteckjifdpcbaeaaGreatDoor.R
open Go.RowKit
theorem add_small {x y:Int} (h0 : -100000000000000000<x) (h1:x<100000000000000000) (h2 : -100000000000000000<y) (h3:y<100000000000000000) :
  (resB (x+y)=strB (x+y)∧resE (x+y)=0)∧(resB (x - y)=strB (x - y)∧resE (x - y)=0):=⟨res_small (by omega) (by omega),res_small (by omega) (by omega)⟩
theorem Add_any (a b:ByteArray) (w:World) (ha:a.size≤1000) (hb:b.size≤1000) (ht:Tab w) :
  Calls Tryz.prog 119 #[.string a,.string b] w fun e W'=>e = .returned (.tuple #[.string (outB (chk2 a.data.toList b.data.toList) (valOf a.data.toList+valOf b.data.toList)),.int .i64 (outE (chk2 a.data.toList b.data.toList) (valOf a.data.toList+valOf b.data.toList))])∧Below w.heap.size w W':=by
 have cb:=both_any a b w (by unfold maxLen;omega) (by unfold maxLen;omega)
 by_cases hc:chk2 a.data.toList b.data.toList=0
 ·obtain ⟨k1,k2⟩:=chk2_zero hc
  rw [hc] at cb
  rw [hc,(out_ok _).1,(out_ok _).2]
  have CB:=Lib.hid cb
  clear cb hc
  by_cases hs:a.size≤17∧b.size≤17
  ·have ct:=two_yes a b w hs.1 hs.2 k1 k2
   have b1:=valOf_17 k1 (by rw [size_len];omega)
   have b2:=valOf_17 k2 (by rw [size_len];omega)
   obtain ⟨e1,e2⟩:=(add_small b1.1 b1.2 b2.1 b2.2).1
   rw [e1,e2]
   clear e1 e2 k1 k2
   generalize valOf a.data.toList=x at *
   generalize valOf b.data.toList=y at *
   obtain ⟨x0,x1⟩:=b1
   obtain ⟨y0,y1⟩:=b2
   have ci:=fun W (h:Below w.heap.size w W)=>Itoa_any (x+y) W (by omega) (by omega) (ht.next h)
   have C:=Lib.hid (And.intro ct ci)
   clear ct ci ht
   go_enter Tryz.func119,Tryz.ntmps119
   go_wp2_with fail
   refine CB.out.mono ?_
   rintro e w' ⟨rfl,rfl⟩
   go_wp2_with fail
   refine C.out.1.mono ?_
   rintro e w' ⟨rfl,rfl⟩
   go_wp2_with fail
   refine (C.out.2 _ (Below.refl _ _)).mono ?_
   rintro e w1 ⟨rfl,hb1⟩
   have HB:=Lib.hid hb1
   clear hb1
   go_wp2
   go_ret2
   exact ⟨rfl,HB.out⟩
  ·have n1:=dg_lim' (nat_lim k1)
   have n2:=dg_lim' (nat_lim k2)
   have r1:=fun W=>read_any a W (by omega) k1
   have r2:=fun W=>read_any b W (by omega) k2
   rw [val_agg,val_agg]
   have t2:=two_no a b w hs k1 (by unfold maxLen;omega) (by unfold maxLen;omega)
   generalize isNeg a.data.toList=na at *
   generalize isNeg b.data.toList=nb at *
   generalize natOf (szL a.data.toList)=x at *
   generalize natOf (szL b.data.toList)=y at *
   have HN:=Lib.hid (And.intro n1 n2)
   have cneg:=True.intro
   have C:=Lib.hid (And.intro r1 (And.intro r2 (And.intro cneg t2)))
   clear r1 r2 t2 cneg k1 k2 n1 n2
   go_enter Tryz.func119,Tryz.ntmps119
   go_wp2_with fail
   refine CB.out.mono ?_
   rintro e w' ⟨rfl,rfl⟩
   go_wp2_with fail
   refine C.out.2.2.2.mono ?_
   rintro e w' ⟨tx,ty,rfl,rfl⟩
   go_wp2_with fail
   refine (C.out.1 _).mono ?_
   rintro e w1 ⟨va,rfl,hva,_,hb1⟩
   have H1:=Lib.hid (And.intro hva hb1)
   clear hva hb1
   go_wp2_with fail
   refine (C.out.2.1 _).mono ?_
   rintro e w2 ⟨vb,rfl,hvb,_,hb2⟩
   have H2:=Lib.hid (And.intro (H1.out.1.next hb2) (And.intro hvb (H1.out.2.trans (hb2.mono H1.out.2.size))))
   clear hvb hb2 H1
   have H3:=Lib.hid (And.intro H2.out.1 (And.intro H2.out.2.1 (And.intro H2.out.2.2 (rfl:sgnZ nb y=sgnZ nb y))))
   clear H2
   go_wp2_with fail
   refine (add_any na nb va vb x y _ H3.out.1 H3.out.2.1 (by have:=HN.out.1;omega) (by have:=HN.out.2;omega)).mono ?_
   rintro e w4 ⟨ng4,n4,v4,rfl,hv4,⟨hz,hl4⟩,_,hb4⟩
   skip
   have hn4:(dg n4).length≤10000:=Nat.le_trans (dg_len_le hl4) (Nat.le_trans (add_len2 x y) (by have:=HN.out;omega))
   have H4:=Lib.hid (And.intro hv4 (And.intro hz (And.intro (H3.out.2.2.1.trans (hb4.mono H3.out.2.2.1.size)) hn4)))
   clear hv4 hz hl4 hb4 hn4 H3
   go_wp2_with fail
   refine (result_any ng4 v4 n4 _ H4.out.1 H4.out.2.2.2).mono ?_
   rw [H4.out.2.1]
   rintro e w5 ⟨rfl,hb5⟩
   have H5:=Lib.hid (H4.out.2.2.1.trans (hb5.mono H4.out.2.2.1.size))
   clear hb5 H4 C
   go_wp2
   go_ret2
   exact ⟨rfl,H5.out⟩
 ·have CB:=Lib.hid cb
  obtain ⟨o1,o2⟩:=out_bad hc (valOf a.data.toList+valOf b.data.toList)
  rw [o1,o2]
  clear o1 o2 cb
  generalize chk2 a.data.toList b.data.toList=c at *
  have hn:(c != 0)=true:=by rw [bne_iff_ne];exact hc
  clear hc
  go_enter Tryz.func119,Tryz.ntmps119
  go_wp2_with fail
  refine CB.out.mono ?_
  rintro e w' ⟨rfl,rfl⟩
  go_wp2
  go_ret2
  exact ⟨rfl,Below.refl _ _⟩
end Go.Proofs.YteckjifdpcbaeaaGreatDoor.R
namespace Go.Proofs.YteckjifdpcbaeaaGreatDoor
open Go.RowKit
theorem s1000 {z:Int} (h:short z):(strB z).size≤1000:=by have:=strB_size h;omega
theorem MulR_res (x y:Int) (w:World) (hx:short x) (hy:short y) (ht:Tab w) :
  Calls Tryz.prog 164 #[.string (strB x),.string (strB y)] w fun e W'=>e = .returned (.tuple #[.string (LB (mkL (x*y))),.int .i64 (LE (mkL (x*y)))])∧Below w.heap.size w W':=by
 have c:=R.Mul_any (strB x) (strB y) w (s1000 hx) (s1000 hy) ht
 rwa [strB_chk2 hx hy,strB_val,strB_val,outB_ok,outE_ok,resB_mk,resE_mk] at c
theorem AddR_res (x y:Int) (w:World) (hx:short x) (hy:short y) (ht:Tab w) :
  Calls Tryz.prog 119 #[.string (strB x),.string (strB y)] w fun e W'=>e = .returned (.tuple #[.string (LB (mkL (x+y))),.int .i64 (LE (mkL (x+y)))])∧Below w.heap.size w W':=by
 have c:=R.Add_any (strB x) (strB y) w (s1000 hx) (s1000 hy) ht
 rwa [strB_chk2 hx hy,strB_val,strB_val,outB_ok,outE_ok,resB_mk,resE_mk] at c
theorem DivR_res (x y:Int) (w:World) (hx:short x) (hy:short y) (h0:y≠0) (ht:Tab w) :
  Calls Tryz.prog 63 #[.string (strB x),.string (strB y)] w fun e W'=>e = .returned (.tuple #[.string (strB (x.fdiv y)),.string (strB (x.fmod y)),.int .i64 0])∧Below w.heap.size w W':=by
 have c:=R.Divide_any (strB x) (strB y) w (s1000 hx) (s1000 hy) ht
 rw [strB_chk2 hx hy,strB_val,strB_val] at c
 obtain ⟨q1,q2,q3⟩:=div_ok (x:=x) h0
 rwa [q1,q2,q3] at c
theorem GcdR_res (x y:Int) (w:World) (hx:short x) (hy:short y) (ht:Tab w) :
  Calls Tryz.prog 91 #[.string (strB x),.string (strB y)] w fun e W'=>e = .returned (.tuple #[.string (strB (gcdZ x y)),.int .i64 0])∧Below w.heap.size w W':=by
 have c:=R.Gcd_any (strB x) (strB y) w (by have:=s1000 hx;unfold maxLen;omega) (by have:=s1000 hy;unfold maxLen;omega) ht
 rw [strB_chk2 hx hy,←valOf_abs,←valOf_abs,strB_val,strB_val] at c
 exact c
theorem products_bad (a b c d:ByteArray) (x:ByteArray) (f:Int) (w:World) (n1:(f==0)=false) (n2:(f != 0)=true)
  (h1:CqB w 164 #[.string a,.string b] (.tuple #[.string x,.int .i64 f])) :
  Calls Tryz.prog 118 #[.string a,.string b,.string c,.string d] w fun e W'=>e = .returned (.tuple #[.string ⟨#[]⟩,.string ⟨#[]⟩,.int .i64 f])∧Below w.heap.size w W':=by
 have C:=Lib.hid h1;clear h1
 have B0:=Lib.hid (Below.refl w.heap.size w)
 go_enter Tryz.func118,Tryz.ntmps118
 go_wp2_with fail
 refine (C.out _ B0.out).mono ?_
 rintro e w1 ⟨rfl,b⟩
 have B1:=Lib.hid (B0.out.trans (b.mono B0.out.size));clear b B0
 go_wp2
 go_ret3
 exact ⟨rfl,B1.out⟩
theorem products_ok (a b c d:ByteArray) (x y:ByteArray) (f:Int) (w:World)
  (h1:CqB w 164 #[.string a,.string b] (.tuple #[.string x,.int .i64 0]))
  (h2:CqB w 164 #[.string c,.string d] (.tuple #[.string y,.int .i64 f])) :
  Calls Tryz.prog 118 #[.string a,.string b,.string c,.string d] w fun e W'=>e = .returned (.tuple #[.string x,.string y,.int .i64 f])∧Below w.heap.size w W':=by
 have C:=Lib.hid (And.intro h1 h2);clear h1 h2
 have B0:=Lib.hid (Below.refl w.heap.size w)
 go_enter Tryz.func118,Tryz.ntmps118
 go_wp2_with fail
 refine (C.out.1 _ B0.out).mono ?_
 rintro e w1 ⟨rfl,b⟩
 have B1:=Lib.hid (B0.out.trans (b.mono B0.out.size));clear b B0
 go_wp2_with fail
 refine (C.out.2 _ B1.out).mono ?_
 rintro e w2 ⟨rfl,b⟩
 have B2:=Lib.hid (B1.out.trans (b.mono B1.out.size));clear b B1
 go_wp2
 go_ret3
 exact ⟨rfl,B2.out⟩
theorem products_q (a b c d:Int) (w:World) (ha:short a) (hb:short b) (hc:short c) (hd:short d) (ht:Tab w) :
  Calls Tryz.prog 118 #[.string (strB a),.string (strB b),.string (strB c),.string (strB d)] w fun e W'=>e = .returned (.tuple #[.string (if short (a*b) then strB (a*b) else ⟨#[]⟩),.string (if short (a*b) then LB (mkL (c*d)) else ⟨#[]⟩),.int .i64 (if short (a*b) then LE (mkL (c*d)) else 4)])∧Below w.heap.size w W':=by
 by_cases h:short (a*b)
 ·rw [if_pos h,if_pos h,if_pos h]
  exact products_ok _ _ _ _ _ _ _ w (fun W hW=>by have k:=MulR_res a b W ha hb (ht.next hW);rwa [mkL_some h] at k) (fun W hW=>MulR_res c d W hc hd (ht.next hW))
 ·rw [if_neg h,if_neg h,if_neg h]
  exact products_bad _ _ _ _ _ 4 w (by decide) (by decide) (fun W hW=>by have k:=MulR_res a b W ha hb (ht.next hW);rwa [show mkL (a*b)=none from if_neg h] at k)
end Go.Proofs.YteckjifdpcbaeaaGreatDoor
