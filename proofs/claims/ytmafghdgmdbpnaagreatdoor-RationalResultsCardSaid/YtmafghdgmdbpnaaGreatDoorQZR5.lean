/- Proved here: Check, Add, Sub, Mul, Div and Compare return the results of the reference implementation for any two strings of the examined lengths. The law RationalResults returns true for every input, and its arguments read behind the call as before. Conditions: the row's own, the listed tables hold their numbers. -/
import Derived.Test.YtmafghdgmdbpnaaGreatDoorQZ1
import Derived.Test.YtmafghdgmdbpnaaGreatDoorQZ2
import Derived.Test.YtmafghdgmdbpnaaGreatDoorQZ32
import Derived.Test.YtmafghdgmdbpnaaGreatDoorQZR4
set_option linter.all false
set_option maxRecDepth 100000
set_option maxHeartbeats 8000000
namespace Go.Proofs.YtmafghdgmdbpnaaGreatDoor
open Go.RowKit
theorem short18 {z : Int} (h : -1000000000000000000 < z ∧ z < 1000000000000000000) : short z := short_m (by omega)
theorem short19 {z : Int} (h : z.natAbs < 9223372036854775808) : short z := short_m h
theorem inO_i {x : Rat} (h : inO x = true) : (-1000000000 < x.num ∧ x.num < 1000000000) ∧ (0 < (x.den : Int) ∧ (x.den : Int) < 1000000000) := by
 obtain ⟨h1, h2⟩ := inO_b h
 have := x.den_nz
 omega
theorem ints_yes {x : Rat} (w : World) (hx : Sq x) (ho : inO x = true) :
   Calls Tryz.prog 59 #[.string (strQ x)] w fun e w' => e = .returned (.tuple #[.int .i64 x.num, .int .i64 (x.den : Int), .bool true]) ∧ Below w.heap.size w w' := by
 have c := ints_q x w hx
 rwa [ho, if_pos rfl, if_pos rfl] at c
theorem LE_no {z : Int} (h : ¬ short z) : LB (mkL z) = ⟨#[]⟩ ∧ LE (mkL z) = 4 := by
 rw [show mkL z = none from if_neg h]; exact ⟨rfl, rfl⟩
theorem LE_yes {z : Int} (h : short z) : LB (mkL z) = strB z ∧ LE (mkL z) = 0 := by
 rw [mkL_some h]; exact ⟨rfl, rfl⟩
theorem products_yes (a b c d : Int) (w : World) (ha : short a) (hb : short b) (hc : short c) (hd : short d) (h1 : short (a * b)) (h2 : short (c * d)) (ht : Tab w) :
   Calls Tryz.prog 66 #[.string (strB a), .string (strB b), .string (strB c), .string (strB d)] w fun e W' => e = .returned (.tuple #[.string (strB (a * b)), .string (strB (c * d)), .int .i64 0]) ∧ Below w.heap.size w W' := by
 have k := products_q a b c d w ha hb hc hd ht
 rwa [if_pos h1, if_pos h1, if_pos h1, (LE_yes h2).1, (LE_yes h2).2] at k
def prodX (a b : Int) : ByteArray := if short (a * b) then strB (a * b) else ⟨#[]⟩
def prodY (a b c d : Int) : ByteArray := if short (a * b) then LB (mkL (c * d)) else ⟨#[]⟩
theorem products_no' (a b c d : Int) (w : World) (ha : short a) (hb : short b) (hc : short c) (hd : short d) (h : ¬ (short (a * b) ∧ short (c * d))) (ht : Tab w) :
   Calls Tryz.prog 66 #[.string (strB a), .string (strB b), .string (strB c), .string (strB d)] w fun e W' => e = .returned (.tuple #[.string (prodX a b), .string (prodY a b c d), .int .i64 4]) ∧ Below w.heap.size w W' := by
 have k := products_q a b c d w ha hb hc hd ht
 have e : (if short (a * b) then LE (mkL (c * d)) else 4) = 4 := by
   by_cases h1 : short (a * b)
   · rw [if_pos h1, (LE_no (fun q => h ⟨h1, q⟩)).2]
   · rw [if_neg h1]
 rwa [e] at k
theorem short_one : short 1 := short_m (by decide)
theorem qaddB_ok {x y : Rat} (h : crossOK x y) (h1 : short (x.num * y.den + y.num * x.den)) (h2 : short ((x.den : Int) * y.den)) : qaddB x y = strQ (Rat.divInt (x.num * y.den + y.num * x.den) (x.den * y.den)) ∧ qaddE x y = 0 := by
 unfold qaddB qaddE lowB lowE
 rw [if_pos h, if_pos h, if_pos ⟨h1, h2⟩, if_pos ⟨h1, h2⟩]; exact ⟨rfl, rfl⟩
theorem qaddB_no {x y : Rat} (h : ¬ (crossOK x y ∧ short (x.num * y.den + y.num * x.den) ∧ short ((x.den : Int) * y.den))) : qaddB x y = ⟨#[]⟩ ∧ qaddE x y = 4 := by
 unfold qaddB qaddE lowB lowE
 by_cases hc : crossOK x y
 · have h' : ¬ (short (x.num * y.den + y.num * x.den) ∧ short ((x.den : Int) * y.den)) := fun q => h ⟨hc, q⟩
   rw [if_pos hc, if_pos hc, if_neg h', if_neg h']; exact ⟨rfl, rfl⟩
 · rw [if_neg hc, if_neg hc]; exact ⟨rfl, rfl⟩
theorem lowB_yes {n d : Int} (h1 : short n) (h2 : short d) : lowB n d = strQ (Rat.divInt n d) ∧ lowE n d = 0 := by
 unfold lowB lowE; rw [if_pos ⟨h1, h2⟩, if_pos ⟨h1, h2⟩]; exact ⟨rfl, rfl⟩
theorem lowB_no {n d : Int} (h : ¬ (short n ∧ short d)) : lowB n d = ⟨#[]⟩ ∧ lowE n d = 4 := by
 unfold lowB lowE; rw [if_neg h, if_neg h]; exact ⟨rfl, rfl⟩
theorem den_nez (x y : Rat) : ((x.den : Int) * y.den) ≠ 0 := den_ne x y
theorem den_pp (x y : Rat) : 0 < ((x.den : Int) * y.den) := by
 have h1 := x.den_nz; have h2 := y.den_nz
 exact Int.mul_pos (by omega) (by omega)
theorem radd_q (x y : Rat) (w : World) (hx : Sq x) (hy : Sq y) (ht : Tab w) :
   Calls Tryz.prog 57 #[.string (strQ x), .string (strQ y)] w fun e W' => e = .returned (.tuple #[.string (qaddB x y), .int .i64 (qaddE x y)]) ∧ Below w.heap.size w W' := by
 have hi := fun W (_ : Below w.heap.size w W) => ints_q x W hx
 have hj := fun W (_ : Below w.heap.size w W) => ints_q y W hy
 have hp := fun W (_ : Below w.heap.size w W) => parts_q x W hx
 have hr := fun W (_ : Below w.heap.size w W) => parts_q y W hy
 cases ox : inO x
 · rw [ox] at hi
   by_cases hc : crossOK x y
   · have P1 := fun W (hW : Below w.heap.size w W) => products_yes x.num y.den y.num x.den W hx.n hy.d hy.n hx.d hc.1 hc.2 (ht.next hW)
     by_cases h2 : short ((x.den : Int) * y.den)
     · have P2 := fun W (hW : Below w.heap.size w W) => products_yes x.den y.den 1 1 W hx.d hy.d short_one short_one h2 short_one (ht.next hW)
       rw [Int.mul_one, strB_one] at P2
       have A1 := fun W (hW : Below w.heap.size w W) => AddR_res (x.num * y.den) (y.num * x.den) W hc.1 hc.2 (ht.next hW)
       by_cases h1 : short (x.num * y.den + y.num * x.den)
       · rw [(qaddB_ok hc h1 h2).1, (qaddB_ok hc h1 h2).2]
         rw [(LE_yes h1).1, (LE_yes h1).2] at A1
         have M := fun W (hW : Below w.heap.size w W) => make2_q (x.num * y.den + y.num * x.den) (x.den * y.den) W h1 h2 (den_nez x y) (ht.next hW)
         exact radd_okf _ _ _ _ _ _ _ _ _ _ _ _ _ _ _ _ _ w hi hj hp hr P1 P2 A1 M
       · have hn := qaddB_no (x := x) (y := y) (fun q => h1 q.2.1)
         rw [hn.1, hn.2]
         rw [(LE_no h1).1, (LE_no h1).2] at A1
         exact radd_e3f _ _ _ _ _ _ _ _ _ _ _ _ _ _ _ 4 w (by decide) (by decide) hi hj hp hr P1 P2 A1
     · have hn := qaddB_no (x := x) (y := y) (fun q => h2 q.2.2)
       rw [hn.1, hn.2]
       have P2 := fun W (hW : Below w.heap.size w W) => products_no' x.den y.den 1 1 W hx.d hy.d short_one short_one (fun q => h2 q.1) (ht.next hW)
       rw [strB_one] at P2
       exact radd_e2f _ _ _ _ _ _ _ _ _ _ _ _ _ _ _ 4 w (by decide) (by decide) hi hj hp hr P1 P2
   · have hn := qaddB_no (x := x) (y := y) (fun q => hc q.1)
     rw [hn.1, hn.2]
     have P1 := fun W (hW : Below w.heap.size w W) => products_no' x.num y.den y.num x.den W hx.n hy.d hy.n hx.d hc (ht.next hW)
     exact radd_e1f _ _ _ _ _ _ _ _ _ _ _ _ _ 4 w (by decide) (by decide) hi hj hp hr P1
 · cases oy : inO y
   · rw [ox] at hi
     rw [oy] at hj
     by_cases hc : crossOK x y
     · have P1 := fun W (hW : Below w.heap.size w W) => products_yes x.num y.den y.num x.den W hx.n hy.d hy.n hx.d hc.1 hc.2 (ht.next hW)
       by_cases h2 : short ((x.den : Int) * y.den)
       · have P2 := fun W (hW : Below w.heap.size w W) => products_yes x.den y.den 1 1 W hx.d hy.d short_one short_one h2 short_one (ht.next hW)
         rw [Int.mul_one, strB_one] at P2
         have A1 := fun W (hW : Below w.heap.size w W) => AddR_res (x.num * y.den) (y.num * x.den) W hc.1 hc.2 (ht.next hW)
         by_cases h1 : short (x.num * y.den + y.num * x.den)
         · rw [(qaddB_ok hc h1 h2).1, (qaddB_ok hc h1 h2).2]
           rw [(LE_yes h1).1, (LE_yes h1).2] at A1
           have M := fun W (hW : Below w.heap.size w W) => make2_q (x.num * y.den + y.num * x.den) (x.den * y.den) W h1 h2 (den_nez x y) (ht.next hW)
           exact radd_okt _ _ _ _ _ _ _ _ _ _ _ _ _ _ _ _ w hi hj hp hr P1 P2 A1 M
         · have hn := qaddB_no (x := x) (y := y) (fun q => h1 q.2.1)
           rw [hn.1, hn.2]
           rw [(LE_no h1).1, (LE_no h1).2] at A1
           exact radd_e3t _ _ _ _ _ _ _ _ _ _ _ _ _ _ 4 w (by decide) (by decide) hi hj hp hr P1 P2 A1
       · have hn := qaddB_no (x := x) (y := y) (fun q => h2 q.2.2)
         rw [hn.1, hn.2]
         have P2 := fun W (hW : Below w.heap.size w W) => products_no' x.den y.den 1 1 W hx.d hy.d short_one short_one (fun q => h2 q.1) (ht.next hW)
         rw [strB_one] at P2
         exact radd_e2t _ _ _ _ _ _ _ _ _ _ _ _ _ _ 4 w (by decide) (by decide) hi hj hp hr P1 P2
     · have hn := qaddB_no (x := x) (y := y) (fun q => hc q.1)
       rw [hn.1, hn.2]
       have P1 := fun W (hW : Below w.heap.size w W) => products_no' x.num y.den y.num x.den W hx.n hy.d hy.n hx.d hc (ht.next hW)
       exact radd_e1t _ _ _ _ _ _ _ _ _ _ _ _ 4 w (by decide) (by decide) hi hj hp hr P1
   · have hi := fun W (_ : Below w.heap.size w W) => ints_yes W hx ox
     have hj := fun W (_ : Below w.heap.size w W) => ints_yes W hy oy
     obtain ⟨bx, cx⟩ := inO_i ox
     obtain ⟨bu, cu⟩ := inO_i oy
     have z1 := mul9 (x := x.num) (y := y.den) (by omega) (by omega)
     have z2 := mul9 (x := y.num) (y := x.den) (by omega) (by omega)
     have z3 := mul9 (x := x.den) (y := y.den) (by omega) (by omega)
     have z4 := den_pp x y
     rw [(qaddB_ok (x := x) (y := y) ⟨short18 z1, short18 z2⟩ (short19 (by omega)) (short18 z3)).1, (qaddB_ok (x := x) (y := y) ⟨short18 z1, short18 z2⟩ (short19 (by omega)) (short18 z3)).2]
     exact radd_s _ _ _ _ _ _ _ w bx cx bu cu hi hj (fun W _ => quick_any _ _ W (by omega) z4 (by omega))
theorem rmul_q (n d m c : Int) (w : World) (hn : short n) (hd : short d) (hm : short m) (hc : short c) (h0 : d * c ≠ 0) (ht : Tab w) :
   Calls Tryz.prog 62 #[.string (strB n), .string (strB d), .string (strB m), .string (strB c)] w fun e W' => e = .returned (.tuple #[.string (lowB (n * m) (d * c)), .int .i64 (lowE (n * m) (d * c))]) ∧ Below w.heap.size w W' := by
 by_cases h : short (n * m) ∧ short (d * c)
 · rw [(lowB_yes h.1 h.2).1, (lowB_yes h.1 h.2).2]
   exact rmul_ok _ _ _ _ _ _ _ _ w (fun W hW => products_yes n m d c W hn hm hd hc h.1 h.2 (ht.next hW)) (fun W hW => make2_q _ _ W h.1 h.2 h0 (ht.next hW))
 · rw [(lowB_no h).1, (lowB_no h).2]
   exact rmul_e _ _ _ _ _ _ 4 w (by decide) (by decide) (fun W hW => products_no' n m d c W hn hm hd hc h (ht.next hW))
theorem rchk_any (a b : ByteArray) (w : World) (ha : a.size ≤ maxLen) (hb : b.size ≤ maxLen) (ht : Tab w) :
   Calls Tryz.prog 56 #[.string a, .string b] w fun e W' => e = .returned (.int .i64 (chk2Q a b)) ∧ Below w.heap.size w W' := by
 have h1 := fun W (hW : Below w.heap.size w W) => Check2_any a W ha (ht.next hW)
 have h2 := fun W (hW : Below w.heap.size w W) => Check2_any b W hb (ht.next hW)
 unfold chk2Q
 by_cases e : chkQ a.data.toList = 0
 · rw [if_pos e]
   rw [e] at h1
   exact check2_ok a b _ w h1 h2
 · rw [if_neg e]
   exact check2_bad a b _ w (bool_ne e).1 (bool_ne e).2 h1
theorem qadd_neg (x y : Rat) : qaddB x (-y) = qsubB x y ∧ qaddE x (-y) = qsubE x y := by
 have hc : crossOK x (-y) ↔ crossOK x y := by
   unfold crossOK short
   rw [Rat.neg_num, Rat.neg_den, Int.neg_mul, Int.natAbs_neg]
 have hs : x.num * ((-y).den : Int) + (-y).num * x.den = x.num * y.den - y.num * x.den := by
   rw [Rat.neg_num, Rat.neg_den, Int.neg_mul]; omega
 unfold qaddB qaddE qsubB qsubE
 rw [hs, Rat.neg_den]
 by_cases h : crossOK x y
 · rw [if_pos h, if_pos h, if_pos (hc.2 h), if_pos (hc.2 h)]; exact ⟨rfl, rfl⟩
 · rw [if_neg h, if_neg h, if_neg (fun q => h (hc.1 q)), if_neg (fun q => h (hc.1 q))]; exact ⟨rfl, rfl⟩
theorem itoaQ_minus {y : Rat} (h : y.num < 0) : itoaQ y = 45 :: itoaQ (-y) := by
 have e1 : Lib.itoa y.num = 45 :: Lib.itoa (-y.num) := by
   unfold Lib.itoa
   rw [if_pos h, if_neg (by omega), show (-y.num).toNat = y.num.natAbs by omega]
 unfold itoaQ
 rw [Rat.neg_num, Rat.neg_den, e1]
 split <;> rfl
theorem strQ_min {y : Rat} (h : y.num < 0) : strQ y = ⟨#[45]⟩ ++ strQ (-y) := by
 apply bytes_ext
 rw [append_data, strQ_data, strQ_data, itoaQ_minus h]; rfl
theorem strQ_ext {y : Rat} (h : y.num < 0) : (strQ y).extract 1 (strQ y).size = strQ (-y) := by
 apply bytes_ext
 rw [Lib.extract_data, List.take_of_length_le (by rw [List.length_drop, size_len]; omega), strQ_data, strQ_data, itoaQ_minus h]; rfl
theorem strQ_size {y : Rat} (h : Sq y) : (strQ y).size ≤ 1000 := by
 have h1 := strB_size h.n
 have h2 := strB_size h.d
 rw [← size_len, strB_data] at h1 h2
 rw [← size_len, strQ_data]
 unfold itoaQ
 split
 · omega
 · rw [List.length_append, List.length_cons]; omega
theorem num_neg_iff {y : Rat} : y.num < 0 ↔ y < 0 := by
 rw [← Rat.not_le, ← Rat.num_nonneg]; omega
theorem rneg_q (y : Rat) (w : World) (hy : Sq y) :
   Calls Tryz.prog 58 #[.string (strQ y)] w fun e W' => e = .returned (.string (strQ (-y))) ∧ Below w.heap.size w W' := by
 have hp := strQ_pos y
 have hp' : (0 : Int) < (strQ y).size := by omega
 have h45 := (isNeg_pos hp).trans (strQ_neg y)
 rcases Int.lt_trichotomy y.num 0 with h | h | h
 · rw [← strQ_ext h]
   refine rneg_m _ w ?_ hp hp' ?_
   · rw [strQ_is0]; exact decide_eq_false (fun q => by rw [q] at h; exact absurd h (by decide))
   · rw [h45]; exact decide_eq_true (num_neg_iff.1 h)
 · have e : y = 0 := Rat.num_eq_zero.1 h
   subst e
   rw [show (-0 : Rat) = 0 from Rat.neg_zero]
   exact rneg_0 _ w (by rw [strQ_is0]; rfl)
 · have e := strQ_min (y := -y) (by rw [Rat.neg_num]; omega)
   rw [Rat.neg_neg] at e
   rw [e]
   refine rneg_p _ w (strQ_size hy) ?_ hp hp' ?_
   · rw [strQ_is0]; exact decide_eq_false (fun q => by rw [q] at h; exact absurd h (by decide))
   · rw [h45]; exact decide_eq_false (fun q => by have := num_neg_iff.2 q; omega)
theorem neg_sq {y : Rat} (h : Sq y) : Sq (-y) := by
 refine ⟨?_, ?_⟩
 · rw [Rat.neg_num, Int.natAbs_neg]; exact h.1
 · rw [Rat.neg_den]; exact h.2
theorem rAdd_any (a b : ByteArray) (w : World) (ha : a.size ≤ maxLen) (hb : b.size ≤ maxLen) (ht : Tab w) :
   Calls Tryz.prog 17 #[.string a, .string b] w fun e W' => e = .returned (.tuple #[.string (opB qaddB a b), .int .i64 (opE qaddE a b)]) ∧ Below w.heap.size w W' := by
 have hk := fun W (hW : Below w.heap.size w W) => rchk_any a b W ha hb (ht.next hW)
 unfold opB opE
 by_cases h : chk2Q a b = 0
 · rw [if_pos h, if_pos h]
   rw [h] at hk
   have sx := chkQ_sq (chk2Q_ok h).1
   have sy := chkQ_sq (chk2Q_ok h).2
   have ex := chkQ_str (chk2Q_ok h).1
   have ey := chkQ_str (chk2Q_ok h).2
   have c := fun W (hW : Below w.heap.size w W) => radd_q (rat a) (rat b) W sx sy (ht.next hW)
   rw [ex, ey] at c
   exact rAdd_ok a b _ _ w hk c
 · rw [if_neg h, if_neg h]
   exact rAdd_bad a b _ w (bool_ne h).1 (bool_ne h).2 hk
theorem rSub_any (a b : ByteArray) (w : World) (ha : a.size ≤ maxLen) (hb : b.size ≤ maxLen) (ht : Tab w) :
   Calls Tryz.prog 18 #[.string a, .string b] w fun e W' => e = .returned (.tuple #[.string (opB qsubB a b), .int .i64 (opE qsubE a b)]) ∧ Below w.heap.size w W' := by
 have hk := fun W (hW : Below w.heap.size w W) => rchk_any a b W ha hb (ht.next hW)
 unfold opB opE
 by_cases h : chk2Q a b = 0
 · rw [if_pos h, if_pos h]
   rw [h] at hk
   have sx := chkQ_sq (chk2Q_ok h).1
   have sy := chkQ_sq (chk2Q_ok h).2
   have ex := chkQ_str (chk2Q_ok h).1
   have ey := chkQ_str (chk2Q_ok h).2
   have c := fun W (hW : Below w.heap.size w W) => radd_q (rat a) (-(rat b)) W sx (neg_sq sy) (ht.next hW)
   have n := fun W (_ : Below w.heap.size w W) => rneg_q (rat b) W sy
   rw [(qadd_neg _ _).1, (qadd_neg _ _).2, ex] at c
   rw [ey] at n
   exact rSub_ok a b _ _ _ w hk n c
 · rw [if_neg h, if_neg h]
   exact rSub_bad a b _ w (bool_ne h).1 (bool_ne h).2 hk
theorem rMul_q (x y : Rat) (w : World) (hx : Sq x) (hy : Sq y) (h0 : CqB w 56 #[.string (strQ x), .string (strQ y)] (.int .i64 0)) (ht : Tab w) :
   Calls Tryz.prog 19 #[.string (strQ x), .string (strQ y)] w fun e W' => e = .returned (.tuple #[.string (qmulB x y), .int .i64 (qmulE x y)]) ∧ Below w.heap.size w W' := by
 unfold qmulB qmulE
 have hi := fun W (_ : Below w.heap.size w W) => ints_q x W hx
 have hj := fun W (_ : Below w.heap.size w W) => ints_q y W hy
 have hp := fun W (_ : Below w.heap.size w W) => parts_q x W hx
 have hr := fun W (_ : Below w.heap.size w W) => parts_q y W hy
 have hm := fun W (hW : Below w.heap.size w W) => rmul_q x.num x.den y.num y.den W hx.n hx.d hy.n hy.d (den_nez x y) (ht.next hW)
 cases ox : inO x
 · rw [ox] at hi
   exact rMul_lf _ _ _ _ _ _ _ _ _ _ _ _ _ w h0 hi hj hp hr hm
 · cases oy : inO y
   · rw [ox] at hi
     rw [oy] at hj
     exact rMul_lt _ _ _ _ _ _ _ _ _ _ _ _ w h0 hi hj hp hr hm
   · have hi := fun W (_ : Below w.heap.size w W) => ints_yes W hx ox
     have hj := fun W (_ : Below w.heap.size w W) => ints_yes W hy oy
     obtain ⟨bx, cx⟩ := inO_i ox
     obtain ⟨bu, cu⟩ := inO_i oy
     have z1 := mul9 (x := x.num) (y := y.num) (by omega) (by omega)
     have z3 := mul9 (x := x.den) (y := y.den) (by omega) (by omega)
     have z4 := den_pp x y
     rw [(lowB_yes (short18 z1) (short18 z3)).1, (lowB_yes (short18 z1) (short18 z3)).2]
     exact rMul_s _ _ _ _ _ _ _ w bx cx bu cu h0 hi hj (fun W _ => quick_any _ _ W (by omega) z4 (by omega))
theorem rMul_any (a b : ByteArray) (w : World) (ha : a.size ≤ maxLen) (hb : b.size ≤ maxLen) (ht : Tab w) :
   Calls Tryz.prog 19 #[.string a, .string b] w fun e W' => e = .returned (.tuple #[.string (opB qmulB a b), .int .i64 (opE qmulE a b)]) ∧ Below w.heap.size w W' := by
 have hk := fun W (hW : Below w.heap.size w W) => rchk_any a b W ha hb (ht.next hW)
 unfold opB opE
 by_cases h : chk2Q a b = 0
 · rw [if_pos h, if_pos h]
   rw [h] at hk
   have sx := chkQ_sq (chk2Q_ok h).1
   have sy := chkQ_sq (chk2Q_ok h).2
   have ex := chkQ_str (chk2Q_ok h).1
   have ey := chkQ_str (chk2Q_ok h).2
   have c := rMul_q (rat a) (rat b) w sx sy (by rw [ex, ey]; exact hk) ht
   rwa [ex, ey] at c
 · rw [if_neg h, if_neg h]
   exact rMul_bad a b _ w (bool_ne h).1 (bool_ne h).2 hk
theorem divInt_swap (n d : Int) : Rat.divInt (n * -1) (d * -1) = Rat.divInt n d := Rat.divInt_mul_right (by decide)
theorem rDiv_q (x y : Rat) (w : World) (hx : Sq x) (hy : Sq y) (hy0 : y ≠ 0) (h0 : CqB w 56 #[.string (strQ x), .string (strQ y)] (.int .i64 0)) (ht : Tab w) :
   Calls Tryz.prog 20 #[.string (strQ x), .string (strQ y)] w fun e W' => e = .returned (.tuple #[.string (qdivB x y), .int .i64 (qdivE x y)]) ∧ Below w.heap.size w W' := by
 have hz : ((strQ y).toList == [48]) = false := by rw [strQ_is0]; exact decide_eq_false hy0
 have hn0 : y.num ≠ 0 := fun q => hy0 (Rat.num_eq_zero.1 q)
 unfold qdivB qdivE
 have hi := fun W (_ : Below w.heap.size w W) => ints_q x W hx
 have hj := fun W (_ : Below w.heap.size w W) => ints_q y W hy
 have hp := fun W (_ : Below w.heap.size w W) => parts_q x W hx
 have hr := fun W (_ : Below w.heap.size w W) => parts_q y W hy
 have hm : ∀ W, Below w.heap.size w W → _ := fun W (hW : Below w.heap.size w W) => rmul_q x.num x.den y.den y.num W hx.n hx.d hy.d hy.n (fun q => (Int.mul_eq_zero.1 q).elim (den_0 x) hn0) (ht.next hW)
 rw [Int.mul_comm (x.den : Int) y.num] at hm
 cases ox : inO x
 · rw [ox] at hi
   exact rDiv_lf _ _ _ _ _ _ _ _ _ _ _ _ _ w hz h0 hi hj hp hr hm
 · cases oy : inO y
   · rw [ox] at hi
     rw [oy] at hj
     exact rDiv_lt _ _ _ _ _ _ _ _ _ _ _ _ w hz h0 hi hj hp hr hm
   · have hi := fun W (_ : Below w.heap.size w W) => ints_yes W hx ox
     have hj := fun W (_ : Below w.heap.size w W) => ints_yes W hy oy
     obtain ⟨bx, cx⟩ := inO_i ox
     obtain ⟨bu, cu⟩ := inO_i oy
     have z1 := mul9 (x := x.num) (y := y.den) (by omega) (by omega)
     have z3 := mul9 (x := y.num) (y := x.den) (by omega) (by omega)
     have d0 : (0 : Int) < x.den := cx.1
     rw [(lowB_yes (short18 z1) (short18 z3)).1, (lowB_yes (short18 z1) (short18 z3)).2]
     rcases Int.lt_or_gt_of_ne hn0 with h | h
     · have e : Rat.divInt (x.num * y.den) (y.num * x.den) = Rat.divInt (x.num * -y.den) (x.den * -y.num) := by
         rw [← divInt_swap (x.num * y.den), Int.mul_assoc, Int.mul_comm y.num, Int.mul_assoc (x.den : Int)]
         congr 2 <;> omega
       rw [e]
       have z5 : 0 < (x.den : Int) * -y.num := Int.mul_pos d0 (by omega)
       have z6 : (x.den : Int) * -y.num = -(y.num * x.den) := by rw [Int.mul_neg, Int.mul_comm]
       have z7 : x.num * -(y.den : Int) = -(x.num * y.den) := Int.mul_neg _ _
       exact rDiv_sn _ _ _ _ _ _ _ w hz h bx cx bu cu h0 hi hj (fun W _ => quick_any _ _ W (by omega) z5 (by omega))
     · rw [Int.mul_comm y.num]
       rw [Int.mul_comm y.num] at z3
       have z5 : 0 < (x.den : Int) * y.num := Int.mul_pos d0 (by omega)
       exact rDiv_sp _ _ _ _ _ _ _ w hz h bx cx bu cu h0 hi hj (fun W _ => quick_any _ _ W (by omega) z5 (by omega))
theorem rDiv_any (a b : ByteArray) (w : World) (ha : a.size ≤ maxLen) (hb : b.size ≤ maxLen) (ht : Tab w) :
   Calls Tryz.prog 20 #[.string a, .string b] w fun e W' => e = .returned (.tuple #[.string (opB qdivB' a b), .int .i64 (opE qdivE' a b)]) ∧ Below w.heap.size w W' := by
 have hk := fun W (hW : Below w.heap.size w W) => rchk_any a b W ha hb (ht.next hW)
 unfold opB opE
 by_cases h : chk2Q a b = 0
 · rw [if_pos h, if_pos h]
   rw [h] at hk
   have sx := chkQ_sq (chk2Q_ok h).1
   have sy := chkQ_sq (chk2Q_ok h).2
   have ex := chkQ_str (chk2Q_ok h).1
   have ey := chkQ_str (chk2Q_ok h).2
   unfold qdivB' qdivE'
   by_cases h0 : rat b = 0
   · rw [if_pos h0, if_pos h0]
     exact rDiv_0 a b w (by rw [← ey, strQ_is0]; exact decide_eq_true h0) hk
   · rw [if_neg h0, if_neg h0]
     have c := rDiv_q (rat a) (rat b) w sx sy h0 (by rw [ex, ey]; exact hk) ht
     rwa [ex, ey] at c
 · rw [if_neg h, if_neg h]
   exact rDiv_bad a b _ w (bool_ne h).1 (bool_ne h).2 hk
theorem rCompare_q (x y : Rat) (w : World) (hx : Sq x) (hy : Sq y) (h0 : CqB w 56 #[.string (strQ x), .string (strQ y)] (.int .i64 0)) (ht : Tab w) :
   Calls Tryz.prog 22 #[.string (strQ x), .string (strQ y)] w fun e W' => e = .returned (.tuple #[.int .i64 (qcmpR x y), .int .i64 (qcmpE x y)]) ∧ Below w.heap.size w W' := by
 unfold qcmpR qcmpE
 have hi := fun W (_ : Below w.heap.size w W) => ints_q x W hx
 have hj := fun W (_ : Below w.heap.size w W) => ints_q y W hy
 have hp := fun W (_ : Below w.heap.size w W) => parts_q x W hx
 have hr := fun W (_ : Below w.heap.size w W) => parts_q y W hy
 cases ox : inO x
 · rw [ox] at hi
   by_cases hc : crossOK x y
   · have P1 := fun W (hW : Below w.heap.size w W) => products_yes x.num y.den y.num x.den W hx.n hy.d hy.n hx.d hc.1 hc.2 (ht.next hW)
     have A1 := fun W (_ : Below w.heap.size w W) => CmpR_res (x.num * y.den) (y.num * x.den) W hc.1 hc.2
     rw [if_pos hc, if_pos hc]
     exact rCompare_wf _ _ _ _ _ _ _ _ _ _ _ _ _ _ _ w h0 hi hj hp hr P1 A1
   · have P1 := fun W (hW : Below w.heap.size w W) => products_no' x.num y.den y.num x.den W hx.n hy.d hy.n hx.d hc (ht.next hW)
     rw [if_neg hc, if_neg hc]
     exact rCompare_ef _ _ _ _ _ _ _ _ _ _ _ _ _ 4 w (by decide) (by decide) h0 hi hj hp hr P1
 · cases oy : inO y
   · rw [ox] at hi
     rw [oy] at hj
     by_cases hc : crossOK x y
     · have P1 := fun W (hW : Below w.heap.size w W) => products_yes x.num y.den y.num x.den W hx.n hy.d hy.n hx.d hc.1 hc.2 (ht.next hW)
       have A1 := fun W (_ : Below w.heap.size w W) => CmpR_res (x.num * y.den) (y.num * x.den) W hc.1 hc.2
       rw [if_pos hc, if_pos hc]
       exact rCompare_wt _ _ _ _ _ _ _ _ _ _ _ _ _ _ w h0 hi hj hp hr P1 A1
     · have P1 := fun W (hW : Below w.heap.size w W) => products_no' x.num y.den y.num x.den W hx.n hy.d hy.n hx.d hc (ht.next hW)
       rw [if_neg hc, if_neg hc]
       exact rCompare_et _ _ _ _ _ _ _ _ _ _ _ _ 4 w (by decide) (by decide) h0 hi hj hp hr P1
   · have hi := fun W (_ : Below w.heap.size w W) => ints_yes W hx ox
     have hj := fun W (_ : Below w.heap.size w W) => ints_yes W hy oy
     obtain ⟨bx, cx⟩ := inO_i ox
     obtain ⟨bu, cu⟩ := inO_i oy
     have z1 := mul9 (x := x.num) (y := y.den) (by omega) (by omega)
     have z2 := mul9 (x := y.num) (y := x.den) (by omega) (by omega)
     rw [if_pos (show crossOK x y from ⟨short18 z1, short18 z2⟩), if_pos (show crossOK x y from ⟨short18 z1, short18 z2⟩)]
     unfold cmpQ cmpZ
     by_cases h1 : x.num * y.den < y.num * x.den
     · rw [if_pos h1]
       exact rCompare_lt _ _ _ _ _ _ w h1 bx cx bu cu h0 hi hj
     · rw [if_neg h1]
       by_cases h2 : y.num * x.den < x.num * y.den
       · rw [if_pos h2]
         exact rCompare_gt _ _ _ _ _ _ w ⟨h1, h2⟩ bx cx bu cu h0 hi hj
       · rw [if_neg h2]
         exact rCompare_eq _ _ _ _ _ _ w ⟨h1, h2⟩ bx cx bu cu h0 hi hj
theorem rCompare_any (a b : ByteArray) (w : World) (ha : a.size ≤ maxLen) (hb : b.size ≤ maxLen) (ht : Tab w) :
   Calls Tryz.prog 22 #[.string a, .string b] w fun e W' => e = .returned (.tuple #[.int .i64 (opI qcmpR a b), .int .i64 (opE qcmpE a b)]) ∧ Below w.heap.size w W' := by
 have hk := fun W (hW : Below w.heap.size w W) => rchk_any a b W ha hb (ht.next hW)
 unfold opI opE
 by_cases h : chk2Q a b = 0
 · rw [if_pos h, if_pos h]
   rw [h] at hk
   have sx := chkQ_sq (chk2Q_ok h).1
   have sy := chkQ_sq (chk2Q_ok h).2
   have ex := chkQ_str (chk2Q_ok h).1
   have ey := chkQ_str (chk2Q_ok h).2
   have c := rCompare_q (rat a) (rat b) w sx sy (by rw [ex, ey]; exact hk) ht
   rwa [ex, ey] at c
 · rw [if_neg h, if_neg h]
   exact rCompare_bad a b _ w (bool_ne h).1 (bool_ne h).2 hk
def longQ (a : ByteArray) : Bool := decide ((82 : Int) < a.size) && decide ((a.size : Int) < 602) || decide ((700 : Int) < a.size)
theorem rLong_any (a : ByteArray) (w : World) (ha : a.size ≤ maxLen) :
   Calls Tryz.prog 11 #[.string a] w fun e W' => e = .returned (.bool (longQ a)) ∧ w = W' := by
 have hm : (a.size : Int) ≤ 9223372036854775807 := by unfold maxLen at ha; omega
 unfold longQ
 clear ha
 by_cases h1 : (82 : Int) < a.size
 · by_cases h2 : (a.size : Int) < 602
   · rw [decide_eq_true h1, decide_eq_true h2]
     go_enter Tryz.func11, Tryz.ntmps11
     go_wp2
     go_ret
     exact ⟨rfl, rfl⟩
   · rw [decide_eq_true h1, decide_eq_false h2]
     by_cases h3 : (700 : Int) < a.size
     · rw [decide_eq_true h3]
       go_enter Tryz.func11, Tryz.ntmps11
       go_wp2
       go_ret
       exact ⟨rfl, rfl⟩
     · rw [decide_eq_false h3]
       go_enter Tryz.func11, Tryz.ntmps11
       go_wp2
       go_ret
       exact ⟨rfl, rfl⟩
 · have h3 : ¬ (700 : Int) < a.size := by omega
   rw [decide_eq_false h1, decide_eq_false h3]
   go_enter Tryz.func11, Tryz.ntmps11
   go_wp2
   go_ret
   exact ⟨rfl, rfl⟩
theorem RationalResults_any (a b : ByteArray) (w : World) (ha : a.size ≤ maxLen) (hb : b.size ≤ maxLen) (ht : Tab w) (ht2 : Tab64 w) :
   Calls Tryz.prog 3 #[.string a, .string b] w fun e W' => e = .returned (.bool true) ∧ Below w.heap.size w W' := by
 have L1 := fun W => rLong_any a W ha
 have L2 := fun W => rLong_any b W hb
 have oA := fun W (h : Below w.heap.size w W) => awake2_any W (ht.next h) (TabQ_next ht2 h)
 by_cases la : longQ a = true
 · rw [la] at L1
   have O := Lib.hid (And.intro L1 oA)
   clear L1 L2 oA ht ht2 ha hb la
   have B0 := Lib.hid (Below.refl w.heap.size w)
   go_enter Tryz.func3, Tryz.ntmps3
   go_wp2_with fail
   refine (O.out.1 _).mono ?_
   rintro e v1 ⟨rfl, rfl⟩
   go_wp2_with fail
   refine (O.out.2 _ B0.out).mono ?_
   rintro e v2 ⟨rfl, b⟩
   have B2 := Lib.hid b; clear b
   go_wp2
   go_ret
   exact ⟨rfl, B2.out⟩
 have la' : longQ a = false := by simpa using la
 rw [la'] at L1
 clear la la'
 by_cases lb : longQ b = true
 · rw [lb] at L2
   have O := Lib.hid (And.intro L1 (And.intro L2 oA))
   clear L1 L2 oA ht ht2 ha hb lb
   have B0 := Lib.hid (Below.refl w.heap.size w)
   go_enter Tryz.func3, Tryz.ntmps3
   go_wp2_with fail
   refine (O.out.1 _).mono ?_
   rintro e v1 ⟨rfl, rfl⟩
   go_wp2_with fail
   refine (O.out.2.1 _).mono ?_
   rintro e v1 ⟨rfl, rfl⟩
   go_wp2_with fail
   refine (O.out.2.2 _ B0.out).mono ?_
   rintro e v2 ⟨rfl, b⟩
   have B2 := Lib.hid b; clear b
   go_wp2
   go_ret
   exact ⟨rfl, B2.out⟩
 have lb' : longQ b = false := by simpa using lb
 rw [lb'] at L2
 clear lb lb'
 have o1 := fun W (h : Below w.heap.size w W) => Add_anyQ a b W ha hb (ht.next h) (TabQ_next ht2 h)
 have o2 := fun W (h : Below w.heap.size w W) => Sub_anyQ a b W ha hb (ht.next h) (TabQ_next ht2 h)
 have o3 := fun W (h : Below w.heap.size w W) => Mul_anyQ a b W ha hb (ht.next h) (TabQ_next ht2 h)
 have o4 := fun W (h : Below w.heap.size w W) => Div_anyQ a b W ha hb (ht.next h) (TabQ_next ht2 h)
 have r1 := fun W (h : Below w.heap.size w W) => rAdd_any a b W ha hb (ht.next h)
 have r2 := fun W (h : Below w.heap.size w W) => rSub_any a b W ha hb (ht.next h)
 have r3 := fun W (h : Below w.heap.size w W) => rMul_any a b W ha hb (ht.next h)
 have r4 := fun W (h : Below w.heap.size w W) => rDiv_any a b W ha hb (ht.next h)
 have oc := fun W (h : Below w.heap.size w W) => Compare_anyQ a b W ha hb (ht.next h) (TabQ_next ht2 h)
 have rc := fun W (h : Below w.heap.size w W) => rCompare_any a b W ha hb (ht.next h)
 have k1 := fun W (h : Below w.heap.size w W) => checkQ_any a W ha (ht.next h) (TabQ_next ht2 h)
 have k2 := fun W (h : Below w.heap.size w W) => Check2_any a W ha (ht.next h)
 have O := Lib.hid ((And.intro o1 (And.intro o2 (And.intro o3 (And.intro o4 (And.intro r1 (And.intro r2 (And.intro r3 (And.intro r4 (And.intro oc (And.intro rc (And.intro k1 (And.intro k2 oA)))))))))))))
 have LL := Lib.hid (And.intro L1 L2)
 clear o1 o2 o3 o4 r1 r2 r3 r4 oc rc k1 k2 oA L1 L2 ht ht2 ha hb
 generalize opB qaddB a b = x1 at *
 generalize opB qsubB a b = x2 at *
 generalize opB qmulB a b = x3 at *
 generalize opB qdivB' a b = x4 at *
 generalize opE qaddE a b = e1 at *
 generalize opE qsubE a b = e2 at *
 generalize opE qmulE a b = e3 at *
 generalize opE qdivE' a b = e4 at *
 generalize opI qcmpR a b = c1 at *
 generalize opE qcmpE a b = c2 at *
 generalize chkQ a.data.toList = c3 at *
 have B0 := Lib.hid (Below.refl w.heap.size w)
 go_enter Tryz.func3, Tryz.ntmps3
 go_wp2_with fail
 refine (LL.out.1 _).mono ?_
 rintro e v0 ⟨rfl, rfl⟩
 go_wp2_with fail
 refine (LL.out.2 _).mono ?_
 rintro e v0 ⟨rfl, rfl⟩
 go_wp2_with fail
 have K := Lib.hid ((Blk.new w #[.func (.func 13) #[] #[], .func (.func 14) #[] #[], .func (.func 15) #[] #[], .func (.func 16) #[] #[]] 25).next ((Below.refl _ _).alloc (Nat.le_refl _) (.cells #[.func (.func 17) #[] #[], .func (.func 18) #[] #[], .func (.func 19) #[] #[], .func (.func 20) #[] #[]] 25)))
 have M := Lib.hid (Blk.new (w.alloc (.cells #[.func (.func 13) #[] #[], .func (.func 14) #[] #[], .func (.func 15) #[] #[], .func (.func 16) #[] #[]] 25)) #[.func (.func 17) #[] #[], .func (.func 18) #[] #[], .func (.func 19) #[] #[], .func (.func 20) #[] #[]] 25)
 have BB := Lib.hid ((B0.out.alloc (Nat.le_refl _) (.cells #[.func (.func 13) #[] #[], .func (.func 14) #[] #[], .func (.func 15) #[] #[], .func (.func 16) #[] #[]] 25)).alloc (by simp) (.cells #[.func (.func 17) #[] #[], .func (.func 18) #[] #[], .func (.func 19) #[] #[], .func (.func 20) #[] #[]] 25)); clear B0; have B0 := BB; clear BB
 have hsz : (w.alloc (.cells #[.func (.func 13) #[] #[], .func (.func 14) #[] #[], .func (.func 15) #[] #[], .func (.func 16) #[] #[]] 25)).heap.size = w.heap.size + 1 := by simp
 rw [hsz] at M
 clear hsz
 generalize (w.alloc (.cells #[.func (.func 13) #[] #[], .func (.func 14) #[] #[], .func (.func 15) #[] #[], .func (.func 16) #[] #[]] 25)).alloc (.cells #[.func (.func 17) #[] #[], .func (.func 18) #[] #[], .func (.func 19) #[] #[], .func (.func 20) #[] #[]] 25) = v0 at *
 generalize hk : w.heap.size = kb at *
 have HK := Lib.hid hk; clear hk
 refine wp_loop_rounds 5 ?_
 rw [rounds_succ]
 have c0 := K.out.cell 0 (.func (.func 13) #[] #[]) rfl
 go_wp2_with fail
 refine (O.out.1 _ B0.out).mono ?_
 rintro e v1 ⟨rfl, b⟩
 have B1 := Lib.hid (B0.out.trans (b.mono (by have h1 := B0.out.size; have h2 := HK.out; omega))); clear B0
 have Kn := Lib.hid (K.out.next b); clear K; have K := Kn; clear Kn
 have Mn := Lib.hid (M.out.next b); clear M; have M := Mn; clear Mn
 clear b
 have c1 := M.out.cell 0 (.func (.func 17) #[] #[]) rfl
 clear c0
 go_wp2_with fail
 refine (O.out.2.2.2.2.1 _ B1.out).mono ?_
 rintro e v2 ⟨rfl, b⟩
 have B2 := Lib.hid (B1.out.trans (b.mono (by have h1 := B1.out.size; have h2 := HK.out; omega))); clear B1
 have Kn := Lib.hid (K.out.next b); clear K; have K := Kn; clear Kn
 have Mn := Lib.hid (M.out.next b); clear M; have M := Mn; clear Mn
 clear b
 clear c1
 go_wp2_with fail
 rw [rounds_succ]
 have c0 := K.out.cell 1 (.func (.func 14) #[] #[]) rfl
 go_wp2_with fail
 refine (O.out.2.1 _ B2.out).mono ?_
 rintro e v3 ⟨rfl, b⟩
 have B3 := Lib.hid (B2.out.trans (b.mono (by have h1 := B2.out.size; have h2 := HK.out; omega))); clear B2
 have Kn := Lib.hid (K.out.next b); clear K; have K := Kn; clear Kn
 have Mn := Lib.hid (M.out.next b); clear M; have M := Mn; clear Mn
 clear b
 have c1 := M.out.cell 1 (.func (.func 18) #[] #[]) rfl
 clear c0
 go_wp2_with fail
 refine (O.out.2.2.2.2.2.1 _ B3.out).mono ?_
 rintro e v4 ⟨rfl, b⟩
 have B4 := Lib.hid (B3.out.trans (b.mono (by have h1 := B3.out.size; have h2 := HK.out; omega))); clear B3
 have Kn := Lib.hid (K.out.next b); clear K; have K := Kn; clear Kn
 have Mn := Lib.hid (M.out.next b); clear M; have M := Mn; clear Mn
 clear b
 clear c1
 go_wp2_with fail
 rw [rounds_succ]
 have c0 := K.out.cell 2 (.func (.func 15) #[] #[]) rfl
 go_wp2_with fail
 refine (O.out.2.2.1 _ B4.out).mono ?_
 rintro e v5 ⟨rfl, b⟩
 have B5 := Lib.hid (B4.out.trans (b.mono (by have h1 := B4.out.size; have h2 := HK.out; omega))); clear B4
 have Kn := Lib.hid (K.out.next b); clear K; have K := Kn; clear Kn
 have Mn := Lib.hid (M.out.next b); clear M; have M := Mn; clear Mn
 clear b
 have c1 := M.out.cell 2 (.func (.func 19) #[] #[]) rfl
 clear c0
 go_wp2_with fail
 refine (O.out.2.2.2.2.2.2.1 _ B5.out).mono ?_
 rintro e v6 ⟨rfl, b⟩
 have B6 := Lib.hid (B5.out.trans (b.mono (by have h1 := B5.out.size; have h2 := HK.out; omega))); clear B5
 have Kn := Lib.hid (K.out.next b); clear K; have K := Kn; clear Kn
 have Mn := Lib.hid (M.out.next b); clear M; have M := Mn; clear Mn
 clear b
 clear c1
 go_wp2_with fail
 rw [rounds_succ]
 have c0 := K.out.cell 3 (.func (.func 16) #[] #[]) rfl
 go_wp2_with fail
 refine (O.out.2.2.2.1 _ B6.out).mono ?_
 rintro e v7 ⟨rfl, b⟩
 have B7 := Lib.hid (B6.out.trans (b.mono (by have h1 := B6.out.size; have h2 := HK.out; omega))); clear B6
 have Kn := Lib.hid (K.out.next b); clear K; have K := Kn; clear Kn
 have Mn := Lib.hid (M.out.next b); clear M; have M := Mn; clear Mn
 clear b
 have c1 := M.out.cell 3 (.func (.func 20) #[] #[]) rfl
 clear c0
 go_wp2_with fail
 refine (O.out.2.2.2.2.2.2.2.1 _ B7.out).mono ?_
 rintro e v8 ⟨rfl, b⟩
 have B8 := Lib.hid (B7.out.trans (b.mono (by have h1 := B7.out.size; have h2 := HK.out; omega))); clear B7
 have Kn := Lib.hid (K.out.next b); clear K; have K := Kn; clear Kn
 have Mn := Lib.hid (M.out.next b); clear M; have M := Mn; clear Mn
 clear b
 clear c1
 go_wp2_with fail
 rw [rounds_succ]
 go_wp2_with fail
 refine (O.out.2.2.2.2.2.2.2.2.1 _ B8.out).mono ?_
 rintro e v9 ⟨rfl, b⟩
 have B9 := Lib.hid (B8.out.trans (b.mono (by have h1 := B8.out.size; have h2 := HK.out; omega))); clear B8
 clear b
 go_wp2_with fail
 refine (O.out.2.2.2.2.2.2.2.2.2.1 _ B9.out).mono ?_
 rintro e v10 ⟨rfl, b⟩
 have B10 := Lib.hid (B9.out.trans (b.mono (by have h1 := B9.out.size; have h2 := HK.out; omega))); clear B9
 clear b
 go_wp2_with fail
 refine (O.out.2.2.2.2.2.2.2.2.2.2.1 _ B10.out).mono ?_
 rintro e v11 ⟨rfl, b⟩
 have B11 := Lib.hid (B10.out.trans (b.mono (by have h1 := B10.out.size; have h2 := HK.out; omega))); clear B10
 clear b
 go_wp2_with fail
 refine (O.out.2.2.2.2.2.2.2.2.2.2.2.1 _ B11.out).mono ?_
 rintro e v12 ⟨rfl, b⟩
 have B12 := Lib.hid (B11.out.trans (b.mono (by have h1 := B11.out.size; have h2 := HK.out; omega))); clear B11
 clear b
 go_wp2_with fail
 refine (O.out.2.2.2.2.2.2.2.2.2.2.2.2 _ B12.out).mono ?_
 rintro e v13 ⟨rfl, b⟩
 have B13 := Lib.hid (B12.out.trans (b.mono (by have h1 := B12.out.size; have h2 := HK.out; omega))); clear B12
 clear b
 go_wp2
 go_ret
 exact ⟨rfl, by rw [HK.out]; exact B13.out⟩
end Go.Proofs.YtmafghdgmdbpnaaGreatDoor
namespace Go.Proofs.YtmafghdgmdbpnaaGreatDoor
open Go.ChangeShapes Go.WideShapes Go.ChangeAt Go.RowKit
open Go.ChangeMaps (open_string shut_string)
theorem rationalResults_lifted (os : Os) (started : os.Started) (H : Type) (enc : TypeId × Value → H) :
   ReturnsInHanded {} Tryz.checked os 3 .any (fun w args => (Rows.rationalResultsSpec.pre enc Tryz.prog Tryz.f3 [] false w args ∧ laidMetH Tryz.prog laid3 w) ∧ sizedMet enc Tryz.prog Tryz.f3 (OpenSpec.ofChange Rows.rationalResultsSpec) false w args)
     (Rows.rationalResultsSpec.post enc Tryz.prog Tryz.f3 false true false false) := by
 refine returnsInHanded_of_change_and (C := Tryz.checked) (X := fun w _ => laidMetH Tryz.prog laid3 w) (fun _ _ _ hh h => h.of_heap hh) own started (by kernel_rfl) Tryz.func3
   (ChangeSpec.witness_shaped (enc := enc) (C := Tryz.checked) (os := os) (X := fun w _ => laidMetH Tryz.prog laid3 w) false (World.doorLaid Tryz.prog 400 os) #[.string ⟨#[]⟩, .string ⟨#[]⟩] 8 rfl (World.shaped_of_RefB (by kernel_rfl) (by kernel_rfl)) (by kernel_rfl) (by kernel_rfl) (by kernel_rfl) (door_met os _)) ?_
 intro W base args ds gs before hval0 hW _ _ hL _
 have hval : ∀ (j : Nat) t v, Tryz.f3.params[j]? = some t → args[j]? = some v → Value.okWide Tryz.prog W .any base t v := hval0
 have hW' := hW
 obtain ⟨p, q, hA0, hV, rfl, hfz, hnd⟩ := hW
 have hA : DataW.TrodAll enc Tryz.prog W 0 (fun _ => true) true Tryz.f3.params.toList args.toList ds p := hA0
 rw [Tryz.params3] at hA hval
 obtain ⟨v0, v1, d0, d1, p0, p1, rfl, rfl, rfl, h0, h1⟩ := trodAll_two hA
 obtain ⟨rfl, rfl⟩ := trodVars_none hV
 obtain ⟨s0, rfl, rfl, rfl, z0⟩ := open_string Tryz.underlying22 (hval 0 22 v0 rfl rfl) h0
 obtain ⟨s1, rfl, rfl, rfl, z1⟩ := open_string Tryz.underlying22 (hval 1 22 v1 rfl rfl) h1
 clear hA0 hval0
 refine (RationalResults_any s0 s1 W z0 z1 (tab_of_laid hL) (tab64_of_laid hL)).mono fun e W' ⟨he, bel⟩ => ?_
 subst he
 exact ⟨_, rfl, _, _, _, [], _, [], hW', trodAll_mk1 (shut_bool Tryz.underlying4 _), trodAll_mk2 (shut_string Tryz.underlying22 z0) (shut_string Tryz.underlying22 z1), rfl, bel.frame _, fun h => by cases h⟩
theorem rationalResults_over : Rows.RationalResultsSaid :=
 OpenClaim.holds_of_wide 3 Tryz.f3 rfl rfl rfl rfl rfl rfl rfl ⟨rfl, rfl, rfl, rfl, rfl⟩ rfl rfl rfl rfl rfl (by kernel_rfl) Tryz.func3 (by kernel_rfl)
   (of_decide_eq_true (by kernel_rfl)) (by unfold Func.isWrapper; first | (rw [if_pos (by decide +kernel)]; kernel_rfl) | (rw [if_neg (by decide +kernel)]; exact ⟨rfl, rfl⟩))
   (fun os started H enc _ => rationalResults_lifted os started H enc)
theorem rationalResults_proved : Rows.RationalResultsCardSaid :=
 Claim7.holds_tied_plain_at .later [] [.data, .data, .data] true (true, "c5e0d21a5a41f479a183c420c2e54b6c89083f44158d8e981b1170a56436208f") true
   rationalResults_over (fun _ h => by cases h) (by kernel_rfl) (fun _ h => by cases h) rationalResults_row_tie rfl ⟨rfl, rfl⟩ (by kernel_rfl) rfl
   (fun f fn hf hfn => by
     obtain rfl : f = 3 := Option.some.inj ((show Tryz.prog.funcNamed "kingpost/kingpostlaw02.RationalResults" = some 3 by kernel_rfl).symm.trans hf) |>.symm
     obtain rfl : fn = Tryz.f3 := (Option.some.inj (Tryz.func3.symm.trans hfn)).symm
     exact ⟨by kernel_rfl, fun j t ht => by
       rw [Tryz.params3] at ht
       have hm : t ∈ [22, 22] := by simpa using Array.mem_of_getElem? ht
       have hall : ([22, 22].all fun u => !Tryz.prog.wantsStandIn u) = true := by kernel_rfl
       exact (show Tryz.prog.wantsStandIn t = false by simpa using List.all_eq_true.1 hall t hm)⟩)
   (by kernel_rfl)
#print axioms rationalResults_proved
end Go.Proofs.YtmafghdgmdbpnaaGreatDoor
