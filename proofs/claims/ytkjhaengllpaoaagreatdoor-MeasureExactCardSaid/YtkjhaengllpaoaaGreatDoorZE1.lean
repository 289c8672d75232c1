/- Parts of the proof of the text YtkjhaengllpaoaaGreatDoorZE2. -/
import Derived.Test.YtkjhaengllpaoaaGreatDoorZB1
import Derived.Test.YtkjhaengllpaoaaGreatDoorZB26
set_option linter.all false
set_option maxRecDepth 100000
set_option maxHeartbeats 8000000
namespace Go.Proofs.YtkjhaengllpaoaaGreatDoor.T
open Go.Proofs.YtkjhaengllpaoaaGreatDoor Go Go.RowKit
theorem MeasureExact_no (a : ByteArray) (p : Nat) (w : World)
   (h1 : ∀ W, Below w.heap.size w W → Calls Tryz.prog 10 #[.string a] W fun e W' => e = .returned (.bool false) ∧ Below W.heap.size W W')
   (h2 : ∀ W, Below w.heap.size w W → Calls Tryz.prog 11 #[] W fun e W' => e = .returned (.bool true) ∧ Below W.heap.size W W')
   : Calls Tryz.prog 4 #[.string a, .int .u8 p] w fun e W' => e = .returned (.bool true) ∧ Below w.heap.size w W' := by
 have O := Lib.hid (And.intro h1 (h2)); clear h1 h2
 go_enter Tryz.func4, Tryz.ntmps4
 have HB := Lib.hid (Below.refl w.heap.size w)
 go_wp2_with fail
 refine (O.out.1 _ HB.out).mono ?_
 rintro e w1 ⟨rfl, b⟩
 have HN := Lib.hid (HB.out.trans (b.mono HB.out.size)); clear HB b; have HB := HN; clear HN
 go_wp2_with fail
 refine (O.out.2 _ HB.out).mono ?_
 rintro e w2 ⟨rfl, b⟩
 have HN := Lib.hid (HB.out.trans (b.mono HB.out.size)); clear HB b; have HB := HN; clear HN
 go_wp2
 go_ret
 exact ⟨rfl, HB.out⟩
theorem MeasureExact_yes (a s b : ByteArray) (g : Bool) (p n : Nat) (w : World) (hp : p ≤ 255) (hn : n = p % 21) (e1 : (a.toList == b.toList) = true)
   (h1 : ∀ W, Below w.heap.size w W → Calls Tryz.prog 10 #[.string a] W fun e W' => e = .returned (.bool true) ∧ Below W.heap.size W W')
   (h2 : ∀ j : Int, j = n → ∀ W, Below w.heap.size w W → Calls Tryz.prog 17 #[.string a, .int .i64 j] W fun e W' => e = .returned (.tuple #[.bool true, .int .i64 0]) ∧ Below W.heap.size W W')
   (h3 : ∀ j : Int, j = ((n + 1 : Nat) : Int) → ∀ W, Below w.heap.size w W → Calls Tryz.prog 17 #[.string a, .int .i64 j] W fun e W' => e = .returned (.tuple #[.bool true, .int .i64 0]) ∧ Below W.heap.size W W')
   (h4 : ∀ j : Int, j = n → ∀ W, Below w.heap.size w W → Calls Tryz.prog 12 #[.string a, .int .i64 j] W fun e W' => e = .returned (.tuple #[.string s, .int .i64 0]) ∧ Below W.heap.size W W')
   (h5 : ∀ W, Below w.heap.size w W → Calls Tryz.prog 13 #[.string s] W fun e W' => e = .returned (.tuple #[.string b, .int .i64 0]) ∧ Below W.heap.size W W')
   (h6 : ∀ W, Below w.heap.size w W → Calls Tryz.prog 11 #[] W fun e W' => e = .returned (.bool true) ∧ Below W.heap.size W W')
   : Calls Tryz.prog 4 #[.string a, .int .u8 p] w fun e W' => e = .returned (.bool true) ∧ Below w.heap.size w W' := by
 have O := Lib.hid (And.intro h1 (And.intro h2 (And.intro h3 (And.intro h4 (And.intro h5 (h6)))))); clear h1 h2 h3 h4 h5 h6
 have hrem : Int.tmod (p : Int) 21 = ((p % 21 : Nat) : Int) := by rw [Int.tmod_eq_emod_of_nonneg (by omega)]; omega
 have hm4 := mx4m
 go_enter Tryz.func4, Tryz.ntmps4
 have HB := Lib.hid (Below.refl w.heap.size w)
 go_wp2_with fail
 refine (O.out.1 _ HB.out).mono ?_
 rintro e w1 ⟨rfl, b⟩
 have HN := Lib.hid (HB.out.trans (b.mono HB.out.size)); clear HB b; have HB := HN; clear HN
 go_wp2_with fail
 refine (O.out.2.1 _ (by omega) _ HB.out).mono ?_
 rintro e w2 ⟨rfl, b⟩
 have HN := Lib.hid (HB.out.trans (b.mono HB.out.size)); clear HB b; have HB := HN; clear HN
 go_wp2_with fail
 refine (O.out.2.2.1 _ (by omega) _ HB.out).mono ?_
 rintro e w3 ⟨rfl, b⟩
 have HN := Lib.hid (HB.out.trans (b.mono HB.out.size)); clear HB b; have HB := HN; clear HN
 go_wp2_with fail
 refine (O.out.2.2.2.1 _ (by omega) _ HB.out).mono ?_
 rintro e w4 ⟨rfl, b⟩
 have HN := Lib.hid (HB.out.trans (b.mono HB.out.size)); clear HB b; have HB := HN; clear HN
 go_wp2_with fail
 refine (O.out.2.2.2.2.1 _ HB.out).mono ?_
 rintro e w5 ⟨rfl, b⟩
 have HN := Lib.hid (HB.out.trans (b.mono HB.out.size)); clear HB b; have HB := HN; clear HN
 go_wp2_with fail
 refine (O.out.2.2.2.2.2 _ HB.out).mono ?_
 rintro e w6 ⟨rfl, b⟩
 have HN := Lib.hid (HB.out.trans (b.mono HB.out.size)); clear HB b; have HB := HN; clear HN
 go_wp2
 go_ret
 exact ⟨rfl, HB.out⟩
theorem MeasureExact_nay (a s b : ByteArray) (g : Bool) (p n : Nat) (w : World) (hp : p ≤ 255) (hn : n = p % 21) (e1 : (a.toList == b.toList) = false)
   (h1 : ∀ W, Below w.heap.size w W → Calls Tryz.prog 10 #[.string a] W fun e W' => e = .returned (.bool true) ∧ Below W.heap.size W W')
   (h2 : ∀ j : Int, j = n → ∀ W, Below w.heap.size w W → Calls Tryz.prog 17 #[.string a, .int .i64 j] W fun e W' => e = .returned (.tuple #[.bool false, .int .i64 0]) ∧ Below W.heap.size W W')
   (h3 : ∀ j : Int, j = ((n + 1 : Nat) : Int) → ∀ W, Below w.heap.size w W → Calls Tryz.prog 17 #[.string a, .int .i64 j] W fun e W' => e = .returned (.tuple #[.bool g, .int .i64 0]) ∧ Below W.heap.size W W')
   (h4 : ∀ j : Int, j = n → ∀ W, Below w.heap.size w W → Calls Tryz.prog 12 #[.string a, .int .i64 j] W fun e W' => e = .returned (.tuple #[.string s, .int .i64 0]) ∧ Below W.heap.size W W')
   (h5 : ∀ W, Below w.heap.size w W → Calls Tryz.prog 13 #[.string s] W fun e W' => e = .returned (.tuple #[.string b, .int .i64 0]) ∧ Below W.heap.size W W')
   (h6 : ∀ W, Below w.heap.size w W → Calls Tryz.prog 11 #[] W fun e W' => e = .returned (.bool true) ∧ Below W.heap.size W W')
   : Calls Tryz.prog 4 #[.string a, .int .u8 p] w fun e W' => e = .returned (.bool true) ∧ Below w.heap.size w W' := by
 have O := Lib.hid (And.intro h1 (And.intro h2 (And.intro h3 (And.intro h4 (And.intro h5 (h6)))))); clear h1 h2 h3 h4 h5 h6
 have hrem : Int.tmod (p : Int) 21 = ((p % 21 : Nat) : Int) := by rw [Int.tmod_eq_emod_of_nonneg (by omega)]; omega
 have hm4 := mx4m
 go_enter Tryz.func4, Tryz.ntmps4
 have HB := Lib.hid (Below.refl w.heap.size w)
 go_wp2_with fail
 refine (O.out.1 _ HB.out).mono ?_
 rintro e w1 ⟨rfl, b⟩
 have HN := Lib.hid (HB.out.trans (b.mono HB.out.size)); clear HB b; have HB := HN; clear HN
 go_wp2_with fail
 refine (O.out.2.1 _ (by omega) _ HB.out).mono ?_
 rintro e w2 ⟨rfl, b⟩
 have HN := Lib.hid (HB.out.trans (b.mono HB.out.size)); clear HB b; have HB := HN; clear HN
 go_wp2_with fail
 refine (O.out.2.2.1 _ (by omega) _ HB.out).mono ?_
 rintro e w3 ⟨rfl, b⟩
 have HN := Lib.hid (HB.out.trans (b.mono HB.out.size)); clear HB b; have HB := HN; clear HN
 go_wp2_with fail
 refine (O.out.2.2.2.1 _ (by omega) _ HB.out).mono ?_
 rintro e w4 ⟨rfl, b⟩
 have HN := Lib.hid (HB.out.trans (b.mono HB.out.size)); clear HB b; have HB := HN; clear HN
 go_wp2_with fail
 refine (O.out.2.2.2.2.1 _ HB.out).mono ?_
 rintro e w5 ⟨rfl, b⟩
 have HN := Lib.hid (HB.out.trans (b.mono HB.out.size)); clear HB b; have HB := HN; clear HN
 go_wp2_with fail
 refine (O.out.2.2.2.2.2 _ HB.out).mono ?_
 rintro e w6 ⟨rfl, b⟩
 have HN := Lib.hid (HB.out.trans (b.mono HB.out.size)); clear HB b; have HB := HN; clear HN
 go_wp2
 go_ret
 exact ⟨rfl, HB.out⟩
theorem exact_same {x P v : Rat} (hv : 0 < v) (hP : P * v = 1) : (x = ((nr (x * P) : Int) : Rat) * v) ↔ (x * P).den = 1 := by
 have hPn : v ≠ 0 := fun e => by rw [e] at hv; exact Rat.lt_irrefl hv
 constructor
 · intro h
   have e : x * P = ((nr (x * P) : Int) : Rat) := by
     have : x * P = ((nr (x * P) : Int) : Rat) * v * P := by rw [← h]
     rw [this]; grind
   rw [e, Rat.den_intCast]
 · intro h
   have e : ((x * P).num : Rat) = x * P := by
     have := num_div (x * P)
     rw [h] at this
     rw [← this]
     show _ = _ / (((1 : Nat) : Int) : Rat)
     rw [show (((1 : Nat) : Int) : Rat) = 1 from rfl, Rat.div_def, show (1 : Rat)⁻¹ = 1 by decide +kernel, Rat.mul_one, Rat.num_intCast]
   rw [← e, nr_int, e]
   grind
theorem exact_more {x : Rat} {n : Nat} (h : (x * pw n).den = 1) : (x * pw (n + 1)).den = 1 := by
 have e : x * pw (n + 1) = x * pw n * 10 := by rw [pw_succ]; grind
 have f : x * pw n = (((x * pw n).num : Int) : Rat) := by
   have := num_div (x * pw n)
   rw [h] at this
   rw [← this]
   show _ = ((_ / (((1 : Nat) : Int) : Rat)).num : Rat)
   rw [show (((1 : Nat) : Int) : Rat) = 1 from rfl, Rat.div_def, show (1 : Rat)⁻¹ = 1 by decide +kernel, Rat.mul_one, Rat.num_intCast]
 rw [e, f, show (10 : Rat) = ((10 : Int) : Rat) from rfl, ← Rat.intCast_mul, Rat.den_intCast]
theorem MeasureExact_nat (a : ByteArray) (p : Nat) (w : World) (ha : a.size ≤ maxLen) (hp : p ≤ 255) (T : TabM w) :
   Calls Tryz.prog 4 #[.string a, .int .u8 p] w fun e W' => e = .returned (.bool true) ∧ Below w.heap.size w W' := by
 have hf := fun W (hW : Below w.heap.size w W) => fineM a W ha (T.next hW)
 have hA := fun W (hW : Below w.heap.size w W) => awake7_any W (T.next hW)
 by_cases h : fM a = true
 · obtain ⟨x, rfl, hx⟩ := fM_str h
   rw [h] at hf
   obtain ⟨_, _, a3⟩ := qmul_ok hx (pw_bq (p % 21)) (by omega)
   obtain ⟨_, _, b3⟩ := half_add a3 (by omega)
   have ub := nr_bd b3
   have hx9 := hx.up (by decide : 30 ≤ 90)
   have lz := dec_len (k := 30 + (p % 21 + 1) + 2) (by omega) ub
   have ld := decU_len (p % 21) (nr (x * pw (p % 21))).natAbs
   have lt : (decT (p % 21) (nr (x * pw (p % 21)))).length ≤ 90 := by unfold decT; have := sg_len (decide (nr (x * pw (p % 21)) < 0)) (decU (p % 21) (nr (x * pw (p % 21))).natAbs); omega
   obtain ⟨v1, v2, v3⟩ := decT_val (p % 21) (nr (x * pw (p % 21)))
   rw [uv_div] at v3
   have s1 := exact_same (x := x) (uv_pos (p % 21)) (uv_pw (p % 21))
   have oE := fun W (hW : Below w.heap.size w W) => exact_q x (p % 21) W hx9 (by omega) (T.next hW)
   have oM := fun W (hW : Below w.heap.size w W) => exact_q x (p % 21 + 1) W hx9 (by omega) (T.next hW)
   have oP := fun W (hW : Below w.heap.size w W) => print_q x (p % 21) W hx9 (by omega) (T.next hW)
   have oR : ∀ W, Below w.heap.size w W → Calls Tryz.prog 13 #[.string (bO (decT (p % 21) (nr (x * pw (p % 21)))))] W fun e W' => e = .returned (.tuple #[.string (strQ (((nr (x * pw (p % 21)) : Int) : Rat) * uv (p % 21))), .int .i64 0]) ∧ Below W.heap.size W W' := fun W hW => by
     have c := parse_ok (bO (decT (p % 21) (nr (x * pw (p % 21))))) W (by rw [bO_size]; exact lt) (by rw [bO_data]; exact v1) (by rw [bO_data]; exact v2) (T.next hW)
     rwa [bO_data, v3] at c
   have se := strQ_toList x (((nr (x * pw (p % 21)) : Int) : Rat) * uv (p % 21))
   by_cases hd : (x * pw (p % 21)).den = 1
   · rw [decide_eq_true hd] at oE
     rw [decide_eq_true (exact_more hd)] at oM
     rw [decide_eq_true (s1.2 hd)] at se
     exact MeasureExact_yes _ _ _ true p (p % 21) w hp rfl se hf (fun j hj W hW => by rw [hj]; exact oE W hW) (fun j hj W hW => by rw [hj]; exact oM W hW) (fun j hj W hW => by rw [hj]; exact oP W hW) oR hA
   · rw [decide_eq_false hd] at oE
     rw [decide_eq_false (fun e => hd (s1.1 e))] at se
     exact MeasureExact_nay _ _ _ _ p (p % 21) w hp rfl se hf (fun j hj W hW => by rw [hj]; exact oE W hW) (fun j hj W hW => by rw [hj]; exact oM W hW) (fun j hj W hW => by rw [hj]; exact oP W hW) oR hA
 · have hf' : fM a = false := by simpa using h
   rw [hf'] at hf
   exact MeasureExact_no a p w hf hA
theorem MeasureExact_any (a : ByteArray) (p : Int) (w : World) (ha : a.size ≤ maxLen) (hp : (Lit.int .u8 p).wf = true) (T : TabM w) :
   Calls Tryz.prog 4 #[.string a, .int .u8 p] w fun e W' => e = .returned (.bool true) ∧ Below w.heap.size w W' := by
 have mn : IntKind.u8.min = 0 := rfl
 have mx : IntKind.u8.max = 255 := rfl
 simp [Lit.wf] at hp
 obtain ⟨p', rfl⟩ : ∃ k : Nat, p = k := ⟨p.toNat, by omega⟩
 exact MeasureExact_nat a p' w ha (by omega) T
end Go.Proofs.YtkjhaengllpaoaaGreatDoor.T
