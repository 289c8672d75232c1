/- Parts of the proof of the text YtkjhaengllpaoaaGreatDoorZB27. -/
import Derived.Test.YtkjhaengllpaoaaGreatDoorRows
import Derived.Test.YtkjhaengllpaoaaGreatDoorCards
import Derived.Test.YtkjhaengllpaoaaGreatDoorTie
import Derived.ProofKit
import Derived.LaidMore
import Derived.OpenShut
import Derived.Stop.Joined
import Derived.Stop.LaidErr
import Derived.SevenTiedAt
import Derived.Below
import Derived.Test.YtkjhaengllpaoaaGreatDoorZB1
import Derived.Test.YtkjhaengllpaoaaGreatDoorZB11
import Derived.Test.YtkjhaengllpaoaaGreatDoorZB2
import Derived.Test.YtkjhaengllpaoaaGreatDoorZB25
import Derived.Test.YtkjhaengllpaoaaGreatDoorZB8
set_option linter.all false
set_option maxRecDepth 100000
set_option maxHeartbeats 8000000
namespace Go.Proofs.YtkjhaengllpaoaaGreatDoor.T
open Go.Proofs.YtkjhaengllpaoaaGreatDoor Go Go.RowKit
def TabM (w : World) : Prop := Tab w ∧ Tab64 w
theorem TabM.next {w W : World} (h : TabM w) (b : Below w.heap.size w W) : TabM W := ⟨h.1.next b, TabQ_next h.2 b⟩
theorem half_str : strQ half = ⟨#[49, 47, 50]⟩ := by decide +kernel
theorem half_bq : Bq 1 half := by constructor <;> decide +kernel
theorem tw_str : strQ tw = ⟨#[49, 50, 55, 47, 54, 48]⟩ := by decide +kernel
theorem tw_bq : Bq 3 tw := by constructor <;> decide +kernel
theorem pw_bd (n : Nat) : Bd (n + 1) ((tenTo n : Nat) : Int) := by
 show Int.natAbs _ < tenTo (n + 1)
 rw [Int.natAbs_natCast]
 exact Nat.pow_lt_pow_right (by decide) (by omega)
theorem pw_bq (n : Nat) : Bq (n + 1) (pw n) := Bq_int (by omega) (pw_bd n)
theorem strB_dec (m : Nat) : bO (Lib.decDigits m) = strB (m : Int) := by
 unfold strB bO; rw [Lib.itoa_nonneg]
theorem strB_sg (z : Int) : strB z = bO (sg (decide (z < 0)) (Lib.decDigits z.natAbs)) := by
 unfold strB bO; rw [itoa_sg]
theorem pw_str (n : Nat) : bO (49 :: List.replicate n 48) = strQ (pw n) := by
 unfold pw
 rw [strQ_int, ← strB_dec, show tenTo n = 10 ^ n from rfl, mdec_ten]
theorem zB_str (z : Int) : zB (strB z) = bO (Lib.decDigits z.natAbs) := by unfold zB; rw [strB_data, szL_itoa]
theorem neg_str (z : Int) : isNeg (strB z).data.toList = decide (z < 0) := by rw [strB_data, head_itoa_neg]
theorem dec_len {k m : Nat} (hk : 1 ≤ k) (h : m < tenTo k) : (Lib.decDigits m).length ≤ k := by
 rw [Lib.decDigits_length]; exact (nDigits_le_iff _ k hk).2 h
theorem nr_bd {k : Nat} {x : Rat} (h : Bq k (x + half)) : Bd k (nr x) := Nat.lt_of_le_of_lt (fdiv_abs (x := (x + half).num) (den_0 _)).1 h.num
theorem half_add {k : Nat} {x : Rat} (h : Bq k x) (hk : k ≤ 290) : qaddB x half = strQ (x + half) ∧ qaddE x half = 0 ∧ Bq (k + 2) (x + half) := qadd_ok h half_bq (by omega)
theorem near_q (x : Rat) {k : Nat} (w : World) (h : Bq k x) (hk : k ≤ 290) (T : TabM w) :
   Calls Tryz.prog 39 #[.string (strQ x)] w fun e W' => e = .returned (.tuple #[.string (strB (nr x)), .int .i64 0]) ∧ Below w.heap.size w W' := by
 obtain ⟨a1, a2, a3⟩ := half_add h hk
 refine near_core _ (strQ (x + half)) _ w (fun W hW => ?_) (fun W hW => ?_)
 · have c := Add_q x half W (h.lim (by omega)) (half_bq.lim (by decide)) (T.next hW).1 (T.next hW).2
   rwa [a1, a2, half_str] at c
 · exact Floor_q (x + half) W (a3.lim (by omega)) (T.next hW).1 (T.next hW).2
theorem check_q7 (x : Rat) (w : World) (h : Bq 90 x) (T : TabM w) :
   Calls Tryz.prog 52 #[.string (strQ x)] w fun e W' => e = .returned (.int .i64 0) ∧ Below w.heap.size w W' := by
 have l1 := dec_len (k := 90) (by decide) h.num
 have l2 := dec_len (k := 90) (by decide) h.2
 refine check_core _ (strB x.num) (strB (x.den : Int)) (bO (Lib.decDigits x.num.natAbs)) (decide (x.num < 0)) w ?_ ?_ (fun W hW => Parts_q x W (h.lim (by decide)) (T.next hW).1 (T.next hW).2) (fun W hW => ?_)
 · rw [bO_size]; omega
 · rw [← strB_dec, bO_size]; omega
 · have c := mprefix (strB x.num) W
   rwa [zB_str, neg_str] at c
theorem inl_q (x : Rat) (n : Nat) (w : World) (h : Bq 90 x) (hn : n ≤ 100) (T : TabM w) :
   Calls Tryz.prog 38 #[.string (strQ x), .int .i64 n] w fun e W' => e = .returned (.tuple #[.string (strQ (x * pw n)), .int .i64 0]) ∧ Below w.heap.size w W' := by
 obtain ⟨a1, a2, a3⟩ := qmul_ok h (pw_bq n) (by omega)
 refine inl_core _ (strQ (pw n)) _ n w (by omega) (by omega) (fun W hW => check_q7 x W h (T.next hW)) (fun W hW => ?_) (fun W hW => ?_)
 · have c := mten n W (by omega)
   rwa [pw_str] at c
 · have c := Mul_q x (pw n) W (h.lim (by decide)) ((pw_bq n).lim (by omega)) (T.next hW).1 (T.next hW).2
   rwa [a1, a2] at c
theorem sgB_bO {b : Bool} {l : List UInt8} (h : b = true → l ≠ [48]) : sgB b (bO l) = bO (sg b l) := by
 unfold sgB sg
 cases b
 · rfl
 · have h1 : ((bO l).toList != [48]) = true := by rw [bne, ByteArray.toList_eq, bO_data, Bool.not_eq_true', beq_eq_false_iff_ne]; exact h rfl
   rw [h1]
   exact bO_app [45] l
theorem dec_0 {m : Nat} (h : Lib.decDigits m = [48]) : m = 0 := by
 have h1 := natOf_dec m
 rw [h] at h1; rw [← h1]; decide
theorem sgB_str (b : Bool) (m : Nat) : sgB b (bO (Lib.decDigits m)) = strB (if b then -(m : Int) else (m : Int)) := by
 cases b
 · unfold sgB; rw [Bool.false_and, if_neg (by decide)]; exact strB_dec m
 · by_cases h : m = 0
   · subst h
     have e : Lib.decDigits 0 = [48] := by decide +kernel
     have h1 : ((bO [48]).toList != [48]) = false := by rw [bne, ByteArray.toList_eq, bO_data]; rfl
     unfold sgB
     rw [e, h1]
     show bO [48] = strB (-((0 : Nat) : Int))
     rw [← e]
     exact strB_dec 0
   · rw [sgB_bO (fun _ e => h (dec_0 e)), if_pos rfl, strB_sg, decide_eq_true (show -(m : Int) < 0 by omega), show (-(m : Int)).natAbs = m by omega]
theorem ext_take (l : List UInt8) (a : Nat) : (bO l).extract 0 a = bO (l.take a) := by
 apply bytes_ext
 rw [Lib.extract_data, bO_data, bO_data]; simp
theorem ext_drop (l : List UInt8) (a : Nat) : (bO l).extract a (bO l).size = bO (l.drop a) := by
 apply bytes_ext
 rw [Lib.extract_data, bO_data, bO_data, bO_size, List.take_of_length_le (by rw [List.length_drop]; exact Nat.le_refl _)]
theorem dec_q (z : Int) (n : Nat) (w : World) (hn : n ≤ 100) (hz : Bd 300 z) :
   Calls Tryz.prog 40 #[.string (strB z), .int .i64 n] w fun e W' => e = .returned (.string (bO (decT n z))) ∧ Below w.heap.size w W' := by
 have l1 := dec_len (k := 300) (by decide) hz
 have kp : ∀ W, Below w.heap.size w W → Calls Tryz.prog 18 #[.string (strB z), .string ⟨#[45]⟩] W fun e W' => e = .returned (.tuple #[.string (bO (Lib.decDigits z.natAbs)), .bool (decide (z < 0))]) ∧ Below W.heap.size W W' := fun W _ => by
   have c := mprefix (strB z) W
   rwa [zB_str, neg_str] at c
 by_cases h0 : n = 0
 · subst h0
   refine dec0_core _ _ _ (decide (z < 0)) w kp (fun W hW => ?_)
   have c := msigned (decide (z < 0)) (bO (Lib.decDigits z.natAbs)) W (by rw [bO_size]; omega)
   rwa [sgB_bO (fun h e => by have := dec_0 e; have := of_decide_eq_true h; omega)] at c
 · have p1 := pad_len n z.natAbs
   have p2 := pad_le n z.natAbs
   have ep : bO (List.replicate (n + 1 - (Lib.decDigits z.natAbs).length) 48) ++ bO (Lib.decDigits z.natAbs) = bO (pad n z.natAbs) := bO_app _ _
   have el : (pad n z.natAbs).length = (n + 1 - (Lib.decDigits z.natAbs).length) + (Lib.decDigits z.natAbs).length := by unfold pad; rw [List.length_append, List.length_replicate]
   refine dec_core _ (bO (Lib.decDigits z.natAbs)) _ (bO (List.replicate (n + 1 - (Lib.decDigits z.natAbs).length) 48)) (bO ((pad n z.natAbs).take ((pad n z.natAbs).length - n))) (bO ((pad n z.natAbs).drop ((pad n z.natAbs).length - n))) (decide (z < 0)) n (n + 1 - (Lib.decDigits z.natAbs).length) ((pad n z.natAbs).length - n) w (by simp; omega) (by rw [bO_size]) (by omega) (by rw [bO_size]; omega) (by rw [bO_size, List.length_replicate]) (by rw [bO_size, bO_size, List.length_replicate]; omega) (by rw [ep]; exact ext_take _ _) (by rw [ep]; exact ext_drop _ _) (by rw [ep, bO_size, bO_size, bO_size, List.length_replicate]; omega) (by rw [bO_size, List.length_take]; omega) (by rw [bO_size, List.length_drop]; omega) kp (fun j hj W hW => by rw [hj]; exact mrep _ W (by omega)) (fun W hW => ?_)
   rw [show (⟨#[46]⟩ : ByteArray) = bO [46] from rfl, bO_app, bO_app, List.append_assoc, List.singleton_append]
   have e : (pad n z.natAbs).take ((pad n z.natAbs).length - n) ++ 46 :: (pad n z.natAbs).drop ((pad n z.natAbs).length - n) = decU n z.natAbs := by unfold decU; rw [if_neg h0]
   rw [e]
   have c := msigned (decide (z < 0)) (bO (decU n z.natAbs)) W (by rw [bO_size]; have := decU_len n z.natAbs; omega)
   rwa [sgB_bO (fun _ e => by
     have := congrArg List.length e
     unfold decU at this
     rw [if_neg h0, List.length_append, List.length_cons, List.length_take, List.length_drop, List.length_singleton] at this
     omega)] at c
theorem print_q (x : Rat) (n : Nat) (w : World) (h : Bq 90 x) (hn : n ≤ 100) (T : TabM w) :
   Calls Tryz.prog 12 #[.string (strQ x), .int .i64 n] w fun e W' => e = .returned (.tuple #[.string (bO (decT n (nr (x * pw n)))), .int .i64 0]) ∧ Below w.heap.size w W' := by
 obtain ⟨_, _, a3⟩ := qmul_ok h (pw_bq n) (by omega)
 obtain ⟨_, _, b3⟩ := half_add a3 (by omega)
 exact print_core _ _ _ _ n w (fun W hW => inl_q x n W h hn (T.next hW)) (fun W hW => near_q _ W a3 (by omega) (T.next hW)) (fun W hW => dec_q _ n W hn ((nr_bd b3).up (by omega)))
theorem sq_size {x : Rat} (h : Sq x) : (strQ x).size ≤ 1000000 := by
 have h1 := strB_size h.n
 have h2 := strB_size h.d
 rw [strB_len] at h1 h2
 rw [← size_len, strQ_data]
 unfold itoaQ
 split
 · omega
 · rw [List.length_append, List.length_cons]; omega
theorem exact_q (x : Rat) (n : Nat) (w : World) (h : Bq 90 x) (hn : n ≤ 100) (T : TabM w) :
   Calls Tryz.prog 17 #[.string (strQ x), .int .i64 n] w fun e W' => e = .returned (.tuple #[.bool (decide ((x * pw n).den = 1)), .int .i64 0]) ∧ Below w.heap.size w W' := by
 obtain ⟨_, _, a3⟩ := qmul_ok h (pw_bq n) (by omega)
 have c := exact_core (strQ x) (strQ (x * pw n)) _ _ (decide ((x * pw n).den ≠ 1)) n w (fun W hW => inl_q x n W h hn (T.next hW)) (fun W hW => by
   have c := mcut 47 (strQ (x * pw n)) W (sq_size (a3.lim (by omega)))
   rwa [show kH 47 (strQ (x * pw n)).data.toList = decide ((x * pw n).den ≠ 1) by rw [strQ_data]; exact (itoaQ_cut _).2.2] at c)
 have e : (!decide ((x * pw n).den ≠ 1)) = decide ((x * pw n).den = 1) := by
   by_cases h : (x * pw n).den = 1 <;> simp [h]
 rwa [e] at c
theorem frac_any (s : ByteArray) (w : World) (hs : s.size ≤ 90) :
   Calls Tryz.prog 41 #[.string s] w fun e W' => e = .returned (.tuple #[.string (bO (frN s.data.toList)), .string (bO (frD s.data.toList)), .bool (frO s.data.toList)]) ∧ Below w.heap.size w W' := by
 have hl : s.data.toList.length ≤ 90 := hs
 have e1 : ∀ c, (k1 c s).size = (kA c s.data.toList).length := fun c => bO_size _
 have e2 : ∀ c, (k2 c s).size = (kB c s.data.toList).length := fun c => bO_size _
 have l46 := k_len 46 s.data.toList
 have l47 := k_len 47 s.data.toList
 have k46 := fun W (_ : Below w.heap.size w W) => mcut 46 s W (by omega)
 have k47 := fun W (_ : Below w.heap.size w W) => mcut 47 s W (by omega)
 have d1 : ∀ c, (k1 c s).data.toList = kA c s.data.toList := fun c => bO_data _
 have d2 : ∀ c, (k2 c s).data.toList = kB c s.data.toList := fun c => bO_data _
 have s46 : ¬ (9223372036854775807 : Int) < ((k1 46 s).size : Int) + ((k2 46 s).size : Int) := by rw [e1, e2]; omega
 have s47 : ¬ (9223372036854775807 : Int) < ((k1 47 s).size : Int) + ((k2 47 s).size : Int) := by rw [e1, e2]; omega
 have c1 : ∀ c W, Below w.heap.size w W → Calls Tryz.prog 64 #[.string (k1 c s), .func (.func 89) #[] #[]] W fun e W' => e = .returned (.bool (dgs (kA c s.data.toList))) ∧ Below W.heap.size W W' := fun c W _ => by
   have k := mcons (k1 c s) W (by rw [e1]; have := (k_len c s.data.toList).1; omega)
   rwa [d1] at k
 have c2 : ∀ c W, Below w.heap.size w W → Calls Tryz.prog 64 #[.string (k2 c s), .func (.func 89) #[] #[]] W fun e W' => e = .returned (.bool (dgs (kB c s.data.toList))) ∧ Below W.heap.size W W' := fun c W _ => by
   have k := mcons (k2 c s) W (by rw [e2]; have := (k_len c s.data.toList).2; omega)
   rwa [d2] at k
 have c0 : ∀ W, Below w.heap.size w W → Calls Tryz.prog 64 #[.string ⟨#[49]⟩, .func (.func 89) #[] #[]] W fun e W' => e = .returned (.bool (dgs [49])) ∧ Below W.heap.size W W' := fun W _ => mcons ⟨#[49]⟩ W (by decide)
 have z1 : ∀ W, Below w.heap.size w W → Calls Tryz.prog 88 #[.string (k1 47 s)] W fun e W' => e = .returned (.string (bO (wz (kA 47 s.data.toList)))) ∧ Below W.heap.size W W' := fun W _ => by
   have k := mwz (k1 47 s) W
   rwa [d1] at k
 have z2 : ∀ W, Below w.heap.size w W → Calls Tryz.prog 88 #[.string (k2 47 s)] W fun e W' => e = .returned (.string (bO (wz (kB 47 s.data.toList)))) ∧ Below W.heap.size W W' := fun W _ => by
   have k := mwz (k2 47 s) W
   rwa [d2] at k
 have z0 : ∀ W, Below w.heap.size w W → Calls Tryz.prog 88 #[.string ⟨#[49]⟩] W fun e W' => e = .returned (.string (bO (wz [49]))) ∧ Below W.heap.size W W' := fun W _ => mwz ⟨#[49]⟩ W
 have za : ∀ W, Below w.heap.size w W → Calls Tryz.prog 88 #[.string (k1 46 s ++ k2 46 s)] W fun e W' => e = .returned (.string (bO (wz (kA 46 s.data.toList ++ kB 46 s.data.toList)))) ∧ Below W.heap.size W W' := fun W _ => by
   have k := mwz (k1 46 s ++ k2 46 s) W
   rwa [ByteArray.data_append, Array.toList_append, d1, d2] at k
 have zt : ∀ W, Below w.heap.size w W → Calls Tryz.prog 86 #[.int .i64 (k2 46 s).size] W fun e W' => e = .returned (.string (bO (49 :: List.replicate (kB 46 s.data.toList).length 48))) ∧ Below W.heap.size W W' := fun W _ => by
   rw [e2]; exact mten _ W (by omega)
 unfold frN frD frO
 cases h : kH 46 s.data.toList
 · rw [h] at k46
   simp only [Bool.false_eq_true, if_false]
   cases h2 : kH 47 s.data.toList
   · rw [h2] at k47
     simp only [Bool.false_eq_true, if_false]
     cases g : dgs (kA 47 s.data.toList)
     · have c := c1 47; rw [g] at c
       rw [Bool.false_and]
       exact fr_nnn s _ _ _ _ _ _ true w s47 k46 k47 z1 z0 c
     · have c := c1 47; rw [g] at c
       rw [Bool.true_and]
       exact fr_nny s _ _ _ _ _ _ _ w s47 k46 k47 z1 z0 c c0
   · rw [h2] at k47
     simp only [if_true]
     cases g : dgs (kA 47 s.data.toList)
     · have c := c1 47; rw [g] at c
       rw [Bool.false_and]
       exact fr_nyn s _ _ _ _ _ _ true w s47 k46 k47 z1 z2 c
     · have c := c1 47; rw [g] at c
       rw [Bool.true_and]
       exact fr_nyy s _ _ _ _ _ _ _ w s47 k46 k47 z1 z2 c (c2 47)
 · rw [h] at k46
   simp only [if_true]
   cases g : dgs (kA 46 s.data.toList)
   · have c := c1 46; rw [g] at c
     rw [Bool.false_and]
     exact fr_yn s s s _ _ _ _ true w s46 k46 za zt c
   · have c := c1 46; rw [g] at c
     rw [Bool.true_and]
     exact fr_yy s s s _ _ _ _ _ w s46 k46 za zt c (c2 46)
theorem sg_len (b : Bool) (l : List UInt8) : (sg b l).length ≤ l.length + 1 := by
 unfold sg
 cases b
 · exact Nat.le_succ _
 · exact Nat.le_refl _
theorem szL_len (l : List UInt8) : (szL l).length ≤ l.length := by
 unfold szL; split
 · rw [List.length_tail]; omega
 · exact Nat.le_refl _
theorem prV_bq {l : List UInt8} (hl : l.length ≤ 90) (ho : frO (szL l) = true) (hd : deV (szL l) ≠ 0) : Bq 90 ((nuZ l : Int) : Rat) ∧ Bq 91 (((deV (szL l) : Nat) : Int) : Rat) := by
 obtain ⟨f1, f2⟩ := fr_lt ho (Nat.le_trans (szL_len l) hl) (by decide)
 refine ⟨Bq_int (by decide) ?_, Bq_int (by decide) ?_⟩
 · show Int.natAbs _ < _
   unfold nuZ
   split <;> simpa using f1
 · show Int.natAbs _ < _
   rw [Int.natAbs_natCast]; exact f2
theorem parse_ok (s : ByteArray) (w : World) (hs : s.size ≤ 90) (ho : frO (szL s.data.toList) = true) (hd : deV (szL s.data.toList) ≠ 0) (T : TabM w) :
   Calls Tryz.prog 13 #[.string s] w fun e W' => e = .returned (.tuple #[.string (strQ (prV s.data.toList)), .int .i64 0]) ∧ Below w.heap.size w W' := by
 have hl : s.data.toList.length ≤ 90 := hs
 obtain ⟨v1, v2⟩ := fr_val ho
 obtain ⟨b1, b2⟩ := prV_bq hl ho hd
 obtain ⟨q1, q2, _⟩ := qdiv_ok b1 b2 (by decide) (cast_ne hd)
 have zd : (zB s).data.toList = szL s.data.toList := bO_data _
 have zs : (zB s).size ≤ 90 := by show (bO _).size ≤ 90; rw [bO_size]; exact Nat.le_trans (szL_len _) hl
 have f1 := (fr_lt ho (Nat.le_trans (szL_len _) hl) (by decide)).1
 have sz := dec_len (k := 90) (by decide) f1
 refine parse_core s (zB s) (bO (Lib.decDigits (nuV (szL s.data.toList)))) (strQ (((deV (szL s.data.toList) : Nat) : Int) : Rat)) (strQ ((nuZ s.data.toList : Int) : Rat)) _ (isNeg s.data.toList) 0 w (by omega) (fun W hW => mprefix s W) (fun W hW => ?_) (fun W hW => ?_) (fun W hW => ?_)
 · have c := frac_any (zB s) W zs
   rwa [zd, ho, v1, v2, strB_dec (deV _), ← strQ_int] at c
 · have c := msigned (isNeg s.data.toList) (bO (Lib.decDigits (nuV (szL s.data.toList)))) W (by rw [bO_size]; omega)
   rw [sgB_str] at c
   rw [strQ_int]
   exact c
 · have c := Div_q _ _ W (b1.lim (by decide)) (b2.lim (by decide)) (cast_ne hd) (T.next hW).1 (T.next hW).2
   rwa [q1, q2] at c
end Go.Proofs.YtkjhaengllpaoaaGreatDoor.T
namespace Go.Proofs.YtkjhaengllpaoaaGreatDoor.T
open Go.Proofs.YtkjhaengllpaoaaGreatDoor Go Go.RowKit
theorem s_12m : strB 12 = ⟨#[49, 50]⟩ := by decide +kernel
theorem div12 (m : Nat) (w : World) (h : m < tenTo 250) (T : TabM w) :
   Calls Tryz.prog 62 #[.string (bO (Lib.decDigits m)), .string ⟨#[49, 50]⟩] w fun e W' => e = .returned (.tuple #[.string (bO (Lib.decDigits (m / 12))), .string (bO (Lib.decDigits (m % 12))), .int .i64 0]) ∧ Below w.heap.size w W' := by
 have c := Divide_strs (m : Int) 12 w (by rw [Int.natAbs_natCast]; exact Nat.lt_of_lt_of_le h (tenTo_mono (by decide))) (small_lim (by decide)) (by decide) T.1
 rw [Int.fdiv_eq_ediv_of_nonneg _ (by decide), Int.fmod_eq_emod_of_nonneg _ (by decide), s_12m, show (m : Int) / 12 = ((m / 12 : Nat) : Int) by omega, show (m : Int) % 12 = ((m % 12 : Nat) : Int) by omega, ← strB_dec, ← strB_dec, ← strB_dec] at c
 exact c
theorem feet_q (z : Int) (w : World) (hz : Bd 250 z) (T : TabM w) :
   Calls Tryz.prog 53 #[.string (strB z)] w fun e W' => e = .returned (.tuple #[.string (bO (ftT z)), .int .i64 0]) ∧ Below w.heap.size w W' := by
 have hz' : z.natAbs < tenTo 250 := hz
 have hq : z.natAbs / 12 < tenTo 250 := Nat.lt_of_le_of_lt (Nat.div_le_self _ _) hz'
 have hf : z.natAbs / 144 < tenTo 250 := Nat.lt_of_le_of_lt (Nat.div_le_self _ _) hz'
 have ef : z.natAbs / 12 / 12 = z.natAbs / 144 := by rw [Nat.div_div_eq_div_mul]
 have l1 := dec_len (k := 250) (by decide) hf
 have l2 := dec_len (k := 2) (m := z.natAbs / 12 % 12) (by decide) (by show _ < 100; omega)
 have l3 := dec_len (k := 2) (m := z.natAbs % 12) (by decide) (by show _ < 100; omega)
 refine feet_core (strB z) (bO (Lib.decDigits z.natAbs)) (bO (Lib.decDigits (z.natAbs / 12))) (bO (Lib.decDigits (z.natAbs % 12))) (bO (Lib.decDigits (z.natAbs / 144))) (bO (Lib.decDigits (z.natAbs / 12 % 12))) _ (decide (z < 0)) w (by rw [bO_size]; omega) (by rw [bO_size]; omega) (by rw [bO_size]; omega) (fun W _ => ?_) (fun W hW => div12 _ W hz' (T.next hW)) (fun W hW => ?_) (fun W _ => ?_)
 · have c := mprefix (strB z) W
   rwa [zB_str, neg_str] at c
 · have c := div12 _ W hq (T.next hW)
   rwa [ef] at c
 · rw [show (⟨#[39]⟩ : ByteArray) = bO [39] from rfl, show (⟨#[34]⟩ : ByteArray) = bO [34] from rfl, bO_app, bO_app, bO_app, bO_app]
   have e : Lib.decDigits (z.natAbs / 144) ++ [39] ++ Lib.decDigits (z.natAbs / 12 % 12) ++ [34] ++ Lib.decDigits (z.natAbs % 12) = ftU z.natAbs := by unfold ftU; simp
   rw [e]
   have c := msigned (decide (z < 0)) (bO (ftU z.natAbs)) W (by rw [bO_size]; unfold ftU; rw [List.length_append, List.length_cons, List.length_append, List.length_cons]; omega)
   rwa [sgB_bO (fun _ e => by
     have := congrArg List.length e
     unfold ftU at this
     rw [List.length_append, List.length_cons, List.length_append, List.length_cons, List.length_singleton] at this
     omega)] at c
theorem Feet_q (x : Rat) (w : World) (h : Bq 90 x) (T : TabM w) :
   Calls Tryz.prog 21 #[.string (strQ x)] w fun e W' => e = .returned (.tuple #[.string (bO (ftT (nr (x / tw)))), .int .i64 0]) ∧ Below w.heap.size w W' := by
 obtain ⟨a1, a2, a3⟩ := qdiv_ok h tw_bq (by decide) tw_ne
 obtain ⟨_, _, b3⟩ := half_add a3 (by decide)
 refine feetQ_core _ (strQ (x / tw)) _ _ 0 w (fun W hW => check_q7 x W h (T.next hW)) (fun W hW => ?_) (fun W hW => near_q _ W a3 (by decide) (T.next hW)) (fun W hW => feet_q _ W ((nr_bd b3).up (by decide)) (T.next hW))
 have c := Div_q x tw W (h.lim (by decide)) (tw_bq.lim (by decide)) tw_ne (T.next hW).1 (T.next hW).2
 rwa [a1, a2, tw_str] at c
theorem tidx0 (a b c : ByteArray) (W : World) : (Instr.index 128 (.agg #[.string a, .string b, .string c]) (.int .i64 0)).run Tryz.prog W = .ok (.string a) W := by kernel_rfl
theorem tidx1 (a b c : ByteArray) (W : World) : (Instr.index 128 (.agg #[.string a, .string b, .string c]) (.int .i64 1)).run Tryz.prog W = .ok (.string b) W := by kernel_rfl
theorem tidx2 (a b c : ByteArray) (W : World) : (Instr.index 128 (.agg #[.string a, .string b, .string c]) (.int .i64 2)).run Tryz.prog W = .ok (.string c) W := by kernel_rfl
theorem twe_core (s z rest m t : ByteArray) (g h1 h2 : Bool) (N P : Nat → ByteArray) (Q : Nat → ByteArray) (w : World) (hN : N 0 = ⟨#[48]⟩)
   (c1 : ∀ W, Below w.heap.size w W → Calls Tryz.prog 18 #[.string s, .string ⟨#[45]⟩] W fun e W' => e = .returned (.tuple #[.string z, .bool g]) ∧ Below W.heap.size W W')
   (c2 : ∀ W, Below w.heap.size w W → Calls Tryz.prog 16 #[.string z, .string ⟨#[39]⟩] W fun e W' => e = .returned (.tuple #[.string (P 0), .string rest, .bool h1]) ∧ Below W.heap.size W W')
   (c3 : ∀ W, Below w.heap.size w W → Calls Tryz.prog 16 #[.string rest, .string ⟨#[34]⟩] W fun e W' => e = .returned (.tuple #[.string (P 1), .string (P 2), .bool h2]) ∧ Below W.heap.size W W')
   (c4 : ∀ j, j < 3 → ∀ W, Below w.heap.size w W → Calls Tryz.prog 97 #[.string (N j), .string ⟨#[49, 50]⟩] W fun e W' => e = .returned (.tuple #[.string (Q j), .int .i64 0]) ∧ Below W.heap.size W W')
   (c5 : ∀ j, j < 3 → ∀ W, Below w.heap.size w W → Calls Tryz.prog 64 #[.string (P j), .func (.func 89) #[] #[]] W fun e W' => e = .returned (.bool true) ∧ Below W.heap.size W W')
   (c6 : ∀ j, j < 3 → ∀ W, Below w.heap.size w W → Calls Tryz.prog 98 #[.string (Q j), .string (P j)] W fun e W' => e = .returned (.tuple #[.string (N (j + 1)), .int .i64 0]) ∧ Below W.heap.size W W')
   (c7 : ∀ W, Below w.heap.size w W → Calls Tryz.prog 42 #[.string (N 3), .bool g] W fun e W' => e = .returned (.string m) ∧ Below W.heap.size W W')
   (c8 : ∀ W, Below w.heap.size w W → Calls Tryz.prog 53 #[.string m] W fun e W' => e = .returned (.tuple #[.string t, .int .i64 0]) ∧ Below W.heap.size W W') :
   Calls Tryz.prog 54 #[.string s] w fun e W' => e = .returned (.tuple #[.string m, .bool (t.toList == s.toList)]) ∧ Below w.heap.size w W' := by
 have O := Lib.hid (And.intro c1 (And.intro c2 (And.intro c3 (And.intro c4 (And.intro c5 (And.intro c6 (And.intro c7 c8))))))); clear c1 c2 c3 c4 c5 c6 c7 c8
 have HN0 := Lib.hid hN; clear hN
 have ix0 := tidx0
 have ix1 := tidx1
 have ix2 := tidx2
 go_enter Tryz.func54, Tryz.ntmps54
 have HB := Lib.hid (Below.refl w.heap.size w)
 go_wp2_with fail
 refine (O.out.1 _ HB.out).mono ?_
 rintro e w1 ⟨rfl, b⟩
 have HN := Lib.hid (HB.out.trans (b.mono HB.out.size)); clear HB b; have HB := HN; clear HN
 go_wp2_with fail
 refine (O.out.2.1 _ HB.out).mono ?_
 rintro e w2 ⟨rfl, b⟩
 have HN := Lib.hid (HB.out.trans (b.mono HB.out.size)); clear HB b; have HB := HN; clear HN
 go_wp2_with fail
 refine (O.out.2.2.1 _ HB.out).mono ?_
 rintro e w3 ⟨rfl, b⟩
 have HN := Lib.hid (HB.out.trans (b.mono HB.out.size)); clear HB b; have HB := HN; clear HN
 go_wp2
 go_loopw [12, 40] (fun x i wr => ∃ j : Nat, x = .string (N j) ∧ i = .int .i64 j ∧ j ≤ 3 ∧ Hid (Below w.heap.size w wr)) (fun _ i _ => 3 - (intOf i).toNat)
 case atStart => exact ⟨0, by rw [HN0.out], rfl, by omega, HB⟩
 case round =>
   clear HB
   obtain ⟨j, rfl, rfl, hj, HB⟩ := hrel
   by_cases hlt : j < 3
   · have X := Lib.hid (And.intro (O.out.2.2.2.1 j hlt) (And.intro (O.out.2.2.2.2.1 j hlt) (O.out.2.2.2.2.2.1 j hlt)))
     have hjj : j = 0 ∨ j = 1 ∨ j = 2 := by omega
     clear hlt hj
     rcases hjj with rfl | rfl | rfl <;>
     (go_wp2_with fail
      refine (X.out.1 _ HB.out).mono ?_
      rintro e w4 ⟨rfl, b⟩
      have HN := Lib.hid (HB.out.trans (b.mono HB.out.size)); clear HB b; have HB := HN; clear HN
      go_wp2_with fail
      refine (X.out.2.1 _ HB.out).mono ?_
      rintro e w5 ⟨rfl, b⟩
      have HN := Lib.hid (HB.out.trans (b.mono HB.out.size)); clear HB b; have HB := HN; clear HN
      go_wp2_with fail
      refine (X.out.2.2 _ HB.out).mono ?_
      rintro e w6 ⟨rfl, b⟩
      have HN := Lib.hid (HB.out.trans (b.mono HB.out.size)); clear HB b; have HB := HN; clear HN
      go_wp2
      go_roundw
      case rel => exact ⟨_, rfl, rfl, by decide, HB⟩
      case measure => simp [intOf])
   · obtain rfl : j = 3 := by omega
     clear hlt hj
     go_wp2_with fail
     refine (O.out.2.2.2.2.2.2.1 _ HB.out).mono ?_
     rintro e w4 ⟨rfl, b⟩
     have HN := Lib.hid (HB.out.trans (b.mono HB.out.size)); clear HB b; have HB := HN; clear HN
     go_wp2_with fail
     refine (O.out.2.2.2.2.2.2.2 _ HB.out).mono ?_
     rintro e w5 ⟨rfl, b⟩
     have HN := Lib.hid (HB.out.trans (b.mono HB.out.size)); clear HB b; have HB := HN; clear HN
     go_wp2
     go_ret2
     exact ⟨rfl, HB.out⟩
def tN (m : Nat) : Nat → Nat
 | 0 => 0
 | 1 => m / 144
 | 2 => m / 12
 | _ => m
def tP (m : Nat) : Nat → Nat
 | 0 => m / 144
 | 1 => m / 12 % 12
 | _ => m % 12
theorem tN_le (m j : Nat) : tN m j ≤ m := by
 unfold tN; split <;> omega
theorem tN_step (m j : Nat) (h : j < 3) : tN m j * 12 + tP m j = tN m (j + 1) := by
 have hj : j = 0 ∨ j = 1 ∨ j = 2 := by omega
 rcases hj with rfl | rfl | rfl
 · show 0 * 12 + m / 144 = m / 144; omega
 · show m / 144 * 12 + m / 12 % 12 = m / 12; omega
 · show m / 12 * 12 + m % 12 = m; omega
theorem ftT_len {z : Int} (h : Bd 80 z) : (ftT z).length ≤ 90 := by
 have h' : z.natAbs < tenTo 80 := h
 have l1 := dec_len (k := 80) (m := z.natAbs / 144) (by decide) (Nat.lt_of_le_of_lt (Nat.div_le_self _ _) h')
 have l2 := dec_len (k := 2) (m := z.natAbs / 12 % 12) (by decide) (by show _ < 100; omega)
 have l3 := dec_len (k := 2) (m := z.natAbs % 12) (by decide) (by show _ < 100; omega)
 unfold ftT ftU sg
 split <;> simp only [List.length_cons, List.length_append] <;> omega
theorem twe_q (z : Int) (w : World) (hz : Bd 80 z) (T : TabM w) :
   Calls Tryz.prog 54 #[.string (bO (ftT z))] w fun e W' => e = .returned (.tuple #[.string (strB z), .bool true]) ∧ Below w.heap.size w W' := by
 have hz' : z.natAbs < tenTo 80 := hz
 have hlen := ftT_len hz
 obtain ⟨n1, n2⟩ := sg_neg (b := decide (z < 0)) (ftU_neg z.natAbs)
 obtain ⟨u1, u2, u3⟩ := ftU_cut z.natAbs
 have lu : (ftU z.natAbs).length ≤ 90 := by rw [← n2]; exact Nat.le_trans (szL_len _) hlen
 have big : ∀ k, k ≤ z.natAbs * 12 + 12 → ((k : Nat) : Int).natAbs < lim := fun k hk => by
   rw [Int.natAbs_natCast]
   have e : tenTo 83 = tenTo 80 * 1000 := by unfold tenTo; rw [show 83 = 80 + 3 from rfl, Nat.pow_add]
   have h1 : k < tenTo 83 := by rw [e]; omega
   exact Nat.lt_of_lt_of_le h1 (tenTo_mono (by decide))
 have P0 : ∀ j, j < 3 → ∀ c ∈ Lib.decDigits (tP z.natAbs j), isDig c = true := fun j _ => decDigits_dig _
 have hP : ∀ j, j < 3 → tP z.natAbs j ≤ z.natAbs := fun j hj => by
   have := tN_step z.natAbs j hj
   have := tN_le z.natAbs (j + 1)
   omega
 have c := twe_core (bO (ftT z)) (bO (ftU z.natAbs)) (bO (kB 39 (ftU z.natAbs))) (strB z) (bO (ftT z)) (decide (z < 0)) (kH 39 (ftU z.natAbs)) (kH 34 (kB 39 (ftU z.natAbs))) (fun j => strB ((tN z.natAbs j : Nat) : Int)) (fun j => strB ((tP z.natAbs j : Nat) : Int)) (fun j => strB ((tN z.natAbs j * 12 : Nat) : Int)) w (by show strB 0 = _; decide +kernel)
   (fun W _ => ?_) (fun W _ => ?_) (fun W _ => ?_) (fun j hj W hW => ?_) (fun j hj W hW => ?_) (fun j hj W hW => ?_) (fun W hW => ?_) (fun W hW => feet_q z W (hz.up (by decide)) (T.next hW))
 · rwa [beq_self_eq_true] at c
 · have c := mprefix (bO (ftT z)) W
   unfold zB at c
   rw [bO_data] at c
   unfold ftT at c ⊢
   rwa [n1, n2] at c
 · have c := mcut 39 (bO (ftU z.natAbs)) W (by rw [bO_size]; omega)
   unfold k1 k2 at c
   rw [bO_data, u1] at c
   rw [strB_dec] at c
   exact c
 · have c := mcut 34 (bO (kB 39 (ftU z.natAbs))) W (by rw [bO_size]; have := (k_len 39 (ftU z.natAbs)).2; omega)
   unfold k1 k2 at c
   rw [bO_data, u2, u3, strB_dec, strB_dec] at c
   exact c
 · have c := Mul_str ((tN z.natAbs j : Nat) : Int) 12 W (big _ (by have := tN_le z.natAbs j; omega)) (small_lim (by decide)) (by
     have := big (tN z.natAbs j * 12) (by have := tN_le z.natAbs j; omega)
     rwa [Int.natCast_mul] at this) (T.next hW).1
   rw [s_12m] at c
   rw [Int.natCast_mul]
   exact c
 · have c := mcons (strB ((tP z.natAbs j : Nat) : Int)) W (by
     rw [← strB_dec, bO_size]
     have := dec_len (k := 80) (m := tP z.natAbs j) (by decide) (Nat.lt_of_le_of_lt (hP j hj) hz')
     omega)
   rwa [← strB_dec, bO_data, dgs_of (decDigits_dig _) (decDigits_ne _)] at c
 · have e := tN_step z.natAbs j hj
   have c := Add_str ((tN z.natAbs j * 12 : Nat) : Int) ((tP z.natAbs j : Nat) : Int) W (big _ (by have := tN_le z.natAbs j; omega)) (big _ (by have := hP j hj; omega)) (by
     rw [← Int.natCast_add, e]; exact big _ (by have := tN_le z.natAbs (j + 1); omega)) (T.next hW).1
   rwa [← Int.natCast_add, e] at c
 · have c := msigned (decide (z < 0)) (bO (Lib.decDigits z.natAbs)) W (by rw [bO_size]; have := dec_len (k := 80) (by decide) hz'; omega)
   rwa [sgB_str, sign_abs, strB_dec] at c
theorem pfeet_q (z : Int) (w : World) (hz : Bd 80 z) (T : TabM w) :
   Calls Tryz.prog 22 #[.string (bO (ftT z))] w fun e W' => e = .returned (.tuple #[.string (strQ ((z : Rat) * tw)), .int .i64 0]) ∧ Below w.heap.size w W' := by
 have hq := Bq_int (by decide : 1 ≤ 80) hz
 obtain ⟨a1, a2, _⟩ := qmul_ok hq tw_bq (by decide)
 refine pfeet_core (bO (ftT z)) (strB z) _ 0 w (by rw [bO_size]; have := ftT_len hz; omega) (fun W hW => twe_q z W hz (T.next hW)) (fun W hW => ?_)
 have c := Mul_q (z : Rat) tw W (hq.lim (by decide)) (tw_bq.lim (by decide)) (T.next hW).1 (T.next hW).2
 rwa [a1, a2, tw_str, strQ_int] at c
end Go.Proofs.YtkjhaengllpaoaaGreatDoor.T
namespace Go.Proofs.YtkjhaengllpaoaaGreatDoor.T
open Go.Proofs.YtkjhaengllpaoaaGreatDoor Go Go.RowKit
theorem mx2m (W : World) : (Builtin.max_ #[25, 25] 25 #[.int .i64 0, .int .i64 0]).run Tryz.prog W = .ok (.int .i64 0) W := by kernel_rfl
theorem mx4m (W : World) : (Builtin.max_ #[25, 25, 25, 25] 25 #[.int .i64 0, .int .i64 0, .int .i64 0, .int .i64 0]).run Tryz.prog W = .ok (.int .i64 0) W := by kernel_rfl
theorem fineM_yes (a : ByteArray) (r : Int) (w : World) (s1 : (a.size : Int) ≤ 30)
   (h1 : ∀ W, Below w.heap.size w W → Calls Tryz.prog 37 #[.string a] W fun e W' => e = .returned (.int .i64 r) ∧ Below W.heap.size W W')
   : Calls Tryz.prog 10 #[.string a] w fun e W' => e = .returned (.bool (r == 0)) ∧ Below w.heap.size w W' := by
 have O := Lib.hid (h1); clear h1
 go_enter Tryz.func10, Tryz.ntmps10
 have HB := Lib.hid (Below.refl w.heap.size w)
 go_wp2_with fail
 refine (O.out _ HB.out).mono ?_
 rintro e w1 ⟨rfl, b⟩
 have HN := Lib.hid (HB.out.trans (b.mono HB.out.size)); clear HB b; have HB := HN; clear HN
 go_wp2
 go_ret
 exact ⟨rfl, HB.out⟩
theorem fineM_no (a : ByteArray) (w : World) (s1 : ¬ (a.size : Int) ≤ 30) :
   Calls Tryz.prog 10 #[.string a] w fun e W' => e = .returned (.bool false) ∧ Below w.heap.size w W' := by
 go_enter Tryz.func10, Tryz.ntmps10
 go_wp2
 go_ret
 exact ⟨rfl, Below.refl _ _⟩
def fM (s : ByteArray) : Bool := decide (s.size ≤ 30) && (chkQ s.data.toList == 0)
theorem fM_str {s : ByteArray} (h : fM s = true) : ∃ x : Rat, s = strQ x ∧ Bq 30 x := by
 unfold fM at h
 simp only [Bool.and_eq_true, decide_eq_true_eq, beq_iff_eq] at h
 exact short_num h.2 30 h.1 (by decide)
theorem fineM (a : ByteArray) (w : World) (ha : a.size ≤ maxLen) (T : TabM w) :
   Calls Tryz.prog 10 #[.string a] w fun e W' => e = .returned (.bool (fM a)) ∧ Below w.heap.size w W' := by
 unfold fM
 by_cases h : a.size ≤ 30
 · rw [decide_eq_true h, Bool.true_and]
   exact fineM_yes a _ w (by omega) (fun W hW => checkQ_any a W ha (T.next hW).1 (T.next hW).2)
 · rw [decide_eq_false h, Bool.false_and]
   exact fineM_no a w (by omega)
theorem unit_core (r : ByteArray) (n : Nat) (w : World) (s1 : ¬ (9223372036854775807 : Int) < 3 + (r.size : Int))
   (h1 : ∀ W, Below w.heap.size w W → Calls Tryz.prog 19 #[.string ⟨#[48]⟩, .int .i64 n] W fun e W' => e = .returned (.string r) ∧ Below W.heap.size W W')
   : Calls Tryz.prog 15 #[.int .i64 n] w fun e W' => e = .returned (.string (⟨#[49, 47, 49]⟩ ++ r)) ∧ Below w.heap.size w W' := by
 have O := Lib.hid (h1); clear h1
 go_enter Tryz.func15, Tryz.ntmps15
 have HB := Lib.hid (Below.refl w.heap.size w)
 go_wp2_with fail
 refine (O.out _ HB.out).mono ?_
 rintro e w1 ⟨rfl, b⟩
 have HN := Lib.hid (HB.out.trans (b.mono HB.out.size)); clear HB b; have HB := HN; clear HN
 go_wp2
 go_ret
 exact ⟨rfl, HB.out⟩
def uv (n : Nat) : Rat := ⟨1, tenTo n, Nat.ne_of_gt (tenTo_pos' n), Nat.coprime_one_left _⟩
theorem uv_pw (n : Nat) : pw n * uv n = 1 := by
 have h := num_div (uv n)
 have hp := pw_ne n
 have e : ((uv n).num : Rat) / (((uv n).den : Int) : Rat) = 1 / pw n := by
   unfold pw uv; rw [Rat.intCast_one]
 rw [e] at h
 rw [← h, Rat.div_def, Rat.one_mul, Rat.mul_inv_cancel _ hp]
theorem uv_div (n : Nat) (x : Rat) : x / pw n = x * uv n := by
 have h := uv_pw n
 have hp := pw_ne n
 rw [Rat.div_def]
 have e : (pw n)⁻¹ = uv n := by
   have := Rat.mul_inv_cancel _ hp
   grind
 rw [e]
theorem uv_pos (n : Nat) : 0 < uv n := by
 have h := uv_pw n
 have hp := pw_pos n
 rcases ratTri 0 (uv n) with q | q | q
 · exact q
 · rw [← q, Rat.mul_zero] at h; exact absurd h (by decide)
 · exfalso
   have := Rat.mul_pos hp (show 0 < - uv n by grind)
   have e : pw n * - uv n = -1 := by grind
   rw [e] at this
   exact absurd this (by decide)
theorem uv_bq (n : Nat) : Bq (n + 1) (uv n) := by
 refine ⟨?_, ?_⟩
 · show (1 : Int).natAbs < tenTo (n + 1)
   rw [show tenTo (n + 1) = tenTo n * 10 from Nat.pow_succ ..]; have := tenTo_pos' n; show 1 < _; omega
 · exact Nat.pow_lt_pow_right (by decide) (by omega)
theorem uv_str (n : Nat) (h : 0 < n) : (⟨#[49, 47, 49]⟩ : ByteArray) ++ bO (List.replicate n 48) = strQ (uv n) := by
 apply bytes_ext
 rw [strQ_data, show (⟨#[49, 47, 49]⟩ : ByteArray) = bO [49, 47, 49] from rfl, bO_app, bO_data]
 unfold itoaQ
 have hd : (uv n).den ≠ 1 := by
   show tenTo n ≠ 1
   have : tenTo 0 < tenTo n := Nat.pow_lt_pow_right (by decide) h
   have e : tenTo 0 = 1 := rfl
   omega
 rw [if_neg hd, show (uv n).num = 1 from rfl, show (uv n).den = 10 ^ n from rfl, Lib.itoa_nonneg, mdec_ten, itoa_one]
 rfl
theorem unit_q (n : Nat) (w : World) (h : 0 < n) (hn : n ≤ 100) :
   Calls Tryz.prog 15 #[.int .i64 n] w fun e W' => e = .returned (.string (strQ (uv n))) ∧ Below w.heap.size w W' := by
 have c := unit_core (bO (List.replicate n 48)) n w (by rw [bO_size, List.length_replicate]; omega) (fun W _ => mrep n W (by omega))
 rwa [uv_str n h] at c
theorem near7_core (r a u d hf lo : ByteArray) (y : Int) (w : World) (y0 : y ≤ 0)
   (h1 : ∀ W, Below w.heap.size w W → Calls Tryz.prog 43 #[.string r, .string a] W fun e W' => e = .returned (.tuple #[.string d, .int .i64 0]) ∧ Below W.heap.size W W')
   (h2 : ∀ W, Below w.heap.size w W → Calls Tryz.prog 23 #[.string u, .string ⟨#[50]⟩] W fun e W' => e = .returned (.tuple #[.string hf, .int .i64 0]) ∧ Below W.heap.size W W')
   (h3 : ∀ W, Below w.heap.size w W → Calls Tryz.prog 43 #[.string ⟨#[48]⟩, .string hf] W fun e W' => e = .returned (.tuple #[.string lo, .int .i64 0]) ∧ Below W.heap.size W W')
   (h4 : ∀ W, Below w.heap.size w W → Calls Tryz.prog 36 #[.string d, .string lo] W fun e W' => e = .returned (.tuple #[.int .i64 1, .int .i64 0]) ∧ Below W.heap.size W W')
   (h5 : ∀ W, Below w.heap.size w W → Calls Tryz.prog 36 #[.string d, .string hf] W fun e W' => e = .returned (.tuple #[.int .i64 y, .int .i64 0]) ∧ Below W.heap.size W W')
   : Calls Tryz.prog 14 #[.string r, .string a, .string u] w fun e W' => e = .returned (.bool true) ∧ Below w.heap.size w W' := by
 have O := Lib.hid (And.intro h1 (And.intro h2 (And.intro h3 (And.intro h4 (h5))))); clear h1 h2 h3 h4 h5
 have hm4 := mx4m
 go_enter Tryz.func14, Tryz.ntmps14
 have HB := Lib.hid (Below.refl w.heap.size w)
 go_wp2_with fail
 refine (O.out.1 _ HB.out).mono ?_
 rintro e w1 ⟨rfl, b⟩
 have HN := Lib.hid (HB.out.trans (b.mono HB.out.size)); clear HB b; have HB := HN; clear HN
 go_wp2_with fail
 refine (O.out.2.1 _ HB.out).mono ?_
 rintro e w2 ⟨rfl, b⟩
 have HN := Lib.hid (HB.out.trans (b.mono HB.out.size)); clear HB b; have HB := HN; clear HN
 go_wp2_with fail
 refine (O.out.2.2.1 _ HB.out).mono ?_
 rintro e w3 ⟨rfl, b⟩
 have HN := Lib.hid (HB.out.trans (b.mono HB.out.size)); clear HB b; have HB := HN; clear HN
 go_wp2_with fail
 refine (O.out.2.2.2.1 _ HB.out).mono ?_
 rintro e w4 ⟨rfl, b⟩
 have HN := Lib.hid (HB.out.trans (b.mono HB.out.size)); clear HB b; have HB := HN; clear HN
 go_wp2_with fail
 refine (O.out.2.2.2.2 _ HB.out).mono ?_
 rintro e w5 ⟨rfl, b⟩
 have HN := Lib.hid (HB.out.trans (b.mono HB.out.size)); clear HB b; have HB := HN; clear HN
 go_wp2
 go_ret
 exact ⟨rfl, HB.out⟩
theorem two_str : strQ 2 = ⟨#[50]⟩ := by decide +kernel
theorem two_bq : Bq 1 2 := by constructor <;> decide +kernel
theorem half_of (x : Rat) : x / 2 = x * half := by
 have e : (2 : Rat)⁻¹ = half := by decide +kernel
 rw [Rat.div_def, e]
theorem near7_q {j k m : Nat} (r a u : Rat) (w : World) (hr : Bq j r) (ha : Bq k a) (hu : Bq m u) (hb : j + k + m + m + 10 ≤ 300) (h1 : r - a ≤ u * half) (h2 : 0 - u * half < r - a) (T : TabM w) :
   Calls Tryz.prog 14 #[.string (strQ r), .string (strQ a), .string (strQ u)] w fun e W' => e = .returned (.bool true) ∧ Below w.heap.size w W' := by
 obtain ⟨a1, a2, a3⟩ := qsub_ok hr ha (by omega)
 obtain ⟨b1, b2, b3⟩ := qdiv_ok hu two_bq (by omega) (by decide)
 obtain ⟨c1, c2, c3⟩ := qsub_ok Bq_zero b3 (by omega)
 obtain ⟨d1, d2⟩ := qcmp_ok a3 c3 (by omega)
 obtain ⟨e1, e2⟩ := qcmp_ok a3 b3 (by omega)
 rw [← half_of] at h1 h2
 refine near7_core _ _ _ (strQ (r - a)) (strQ (u / 2)) (strQ (0 - u / 2)) (cmpQ (r - a) (u / 2)) w ((cmpQ_le_iff _ _).2 h1) (fun W hW => ?_) (fun W hW => ?_) (fun W hW => ?_) (fun W hW => ?_) (fun W hW => ?_)
 · have c := Sub_q r a W (hr.lim (by omega)) (ha.lim (by omega)) (T.next hW).1 (T.next hW).2
   rwa [a1, a2] at c
 · have c := Div_q u 2 W (hu.lim (by omega)) (two_bq.lim (by decide)) (by decide) (T.next hW).1 (T.next hW).2
   rwa [b1, b2, two_str] at c
 · have c := Sub_q 0 (u / 2) W (Bq_zero.lim (by decide)) (b3.lim (by omega)) (T.next hW).1 (T.next hW).2
   rwa [c1, c2, strQ_zero] at c
 · have c := Compare_q (r - a) (0 - u / 2) W (a3.lim (by omega)) (c3.lim (by omega)) (T.next hW).1 (T.next hW).2
   rwa [d1, d2, cmpQ_gt h2] at c
 · have c := Compare_q (r - a) (u / 2) W (a3.lim (by omega)) (b3.lim (by omega)) (T.next hW).1 (T.next hW).2
   rwa [e1, e2] at c
theorem awake7_core  (w : World)
   (h1 : ∀ W, Below w.heap.size w W → Calls Tryz.prog 12 #[.string ⟨#[53, 47, 50]⟩, .int .i64 0] W fun e W' => e = .returned (.tuple #[.string ⟨#[51]⟩, .int .i64 0]) ∧ Below W.heap.size W W')
   (h2 : ∀ W, Below w.heap.size w W → Calls Tryz.prog 12 #[.string ⟨#[45, 53, 47, 50]⟩, .int .i64 0] W fun e W' => e = .returned (.tuple #[.string ⟨#[45, 50]⟩, .int .i64 0]) ∧ Below W.heap.size W W')
   (h3 : ∀ W, Below w.heap.size w W → Calls Tryz.prog 12 #[.string ⟨#[49, 47, 51]⟩, .int .i64 2] W fun e W' => e = .returned (.tuple #[.string ⟨#[48, 46, 51, 51]⟩, .int .i64 0]) ∧ Below W.heap.size W W')
   (h4 : ∀ W, Below w.heap.size w W → Calls Tryz.prog 21 #[.string ⟨#[49, 48, 48, 48]⟩] W fun e W' => e = .returned (.tuple #[.string ⟨#[51, 39, 51, 34, 52]⟩, .int .i64 0]) ∧ Below W.heap.size W W')
   (h5 : ∀ W, Below w.heap.size w W → Calls Tryz.prog 22 #[.string ⟨#[48, 39, 49, 34, 48]⟩] W fun e W' => e = .returned (.tuple #[.string ⟨#[49, 50, 55, 47, 53]⟩, .int .i64 0]) ∧ Below W.heap.size W W')
   : Calls Tryz.prog 11 #[] w fun e W' => e = .returned (.bool true) ∧ Below w.heap.size w W' := by
 have O := Lib.hid (And.intro h1 (And.intro h2 (And.intro h3 (And.intro h4 (h5))))); clear h1 h2 h3 h4 h5
 have hm4 := mx4m
 go_enter Tryz.func11, Tryz.ntmps11
 have HB := Lib.hid (Below.refl w.heap.size w)
 go_wp2_with fail
 refine (O.out.1 _ HB.out).mono ?_
 rintro e w1 ⟨rfl, b⟩
 have HN := Lib.hid (HB.out.trans (b.mono HB.out.size)); clear HB b; have HB := HN; clear HN
 go_wp2_with fail
 refine (O.out.2.1 _ HB.out).mono ?_
 rintro e w2 ⟨rfl, b⟩
 have HN := Lib.hid (HB.out.trans (b.mono HB.out.size)); clear HB b; have HB := HN; clear HN
 go_wp2_with fail
 refine (O.out.2.2.1 _ HB.out).mono ?_
 rintro e w3 ⟨rfl, b⟩
 have HN := Lib.hid (HB.out.trans (b.mono HB.out.size)); clear HB b; have HB := HN; clear HN
 go_wp2_with fail
 refine (O.out.2.2.2.1 _ HB.out).mono ?_
 rintro e w4 ⟨rfl, b⟩
 have HN := Lib.hid (HB.out.trans (b.mono HB.out.size)); clear HB b; have HB := HN; clear HN
 go_wp2_with fail
 refine (O.out.2.2.2.2 _ HB.out).mono ?_
 rintro e w5 ⟨rfl, b⟩
 have HN := Lib.hid (HB.out.trans (b.mono HB.out.size)); clear HB b; have HB := HN; clear HN
 go_wp2
 go_ret
 exact ⟨rfl, HB.out⟩
theorem awake7_any (w : World) (T : TabM w) : Calls Tryz.prog 11 #[] w fun e W' => e = .returned (.bool true) ∧ Below w.heap.size w W' := by
 have b1 : Bq 90 (mkRat 5 2) := by constructor <;> decide +kernel
 have b2 : Bq 90 (mkRat (-5) 2) := by constructor <;> decide +kernel
 have b3 : Bq 90 (mkRat 1 3) := by constructor <;> decide +kernel
 have b4 : Bq 90 1000 := by constructor <;> decide +kernel
 refine awake7_core w (fun W hW => ?_) (fun W hW => ?_) (fun W hW => ?_) (fun W hW => ?_) (fun W hW => ?_)
 · have c := print_q (mkRat 5 2) 0 W b1 (by decide) (T.next hW)
   rwa [show strQ (mkRat 5 2) = ⟨#[53, 47, 50]⟩ by decide +kernel, show nr (mkRat 5 2 * pw 0) = 3 by decide +kernel, show bO (decT 0 3) = ⟨#[51]⟩ by decide +kernel] at c
 · have c := print_q (mkRat (-5) 2) 0 W b2 (by decide) (T.next hW)
   rwa [show strQ (mkRat (-5) 2) = ⟨#[45, 53, 47, 50]⟩ by decide +kernel, show nr (mkRat (-5) 2 * pw 0) = -2 by decide +kernel, show bO (decT 0 (-2)) = ⟨#[45, 50]⟩ by decide +kernel] at c
 · have c := print_q (mkRat 1 3) 2 W b3 (by decide) (T.next hW)
   rwa [show strQ (mkRat 1 3) = ⟨#[49, 47, 51]⟩ by decide +kernel, show nr (mkRat 1 3 * pw 2) = 33 by decide +kernel, show bO (decT 2 33) = ⟨#[48, 46, 51, 51]⟩ by decide +kernel] at c
 · have c := Feet_q 1000 W b4 (T.next hW)
   rwa [show strQ 1000 = ⟨#[49, 48, 48, 48]⟩ by decide +kernel, show nr (1000 / tw) = 472 by decide +kernel, show bO (ftT 472) = ⟨#[51, 39, 51, 34, 52]⟩ by decide +kernel] at c
 · have c := pfeet_q 12 W (by show Int.natAbs 12 < tenTo 80; exact Nat.lt_of_lt_of_le (show 12 < tenTo 2 by decide) (tenTo_mono (by decide))) (T.next hW)
   rwa [show bO (ftT 12) = ⟨#[48, 39, 49, 34, 48]⟩ by decide +kernel, show strQ (((12 : Int) : Rat) * tw) = ⟨#[49, 50, 55, 47, 53]⟩ by decide +kernel] at c
end Go.Proofs.YtkjhaengllpaoaaGreatDoor.T
namespace Go.Proofs.YtkjhaengllpaoaaGreatDoor
open Go.ChangeShapes Go.WideShapes Go.ChangeAt Go.RowKit
theorem own : ownKnob Tryz.prog.godebug = none := by kernel_rfl
theorem gTab64 : Tryz.prog.globalNamed "math/bits.deBruijn64tab" = some 4 := by kernel_rfl
theorem laid64_tab : (Rows.laid_math_bits_deBruijn64tab : DataW Unit) = Lib.tabData .u8 (Lib.deBruijn64tab.map fun n : Nat => (n : Int)) := rfl
theorem tab64_of {W : World} (h : Lib.TabIs Tryz.prog W "math/bits.deBruijn64tab" .u8 (Lib.deBruijn64tab.map fun n : Nat => (n : Int))) : Tab64 W := by
 intro j hj
 unfold Lib.TabIs World.var? at h
 rw [gTab64] at h
 unfold World.cell?
 cases hh : W.heap[4]? with
 | none => simp [hh] at h
 | some o =>
   cases o with
   | cells cs t f =>
     have h1 : some cs = some ((Lib.deBruijn64tab.map fun n : Nat => (n : Int)).map fun z => Value.int .u8 z).toArray := by
       rw [← h]; simp only [Option.bind_some, hh]
     have h2 := Option.some.inj h1
     subst h2
     have hj' : j < 64 := hj
     simp only [List.map_map, List.getElem?_toArray, List.getElem?_map]
     rw [List.getD_eq_getElem?_getD, List.getElem?_eq_getElem hj]
     rfl
   | _ => simp [hh] at h
section
variable {H : Type} {enc : TypeId × Value → H} {P : Program} {w : World} {base : Nat} {spare : Nat → Bool} {held : Bool}
end
end Go.Proofs.YtkjhaengllpaoaaGreatDoor
