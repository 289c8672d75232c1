/- Parts of the proof of the text YtkjhaengllpaoaaGreatDoorZD2. -/
import Derived.Test.YtkjhaengllpaoaaGreatDoorZB1
import Derived.Test.YtkjhaengllpaoaaGreatDoorZB26
set_option linter.all false
set_option maxRecDepth 100000
set_option maxHeartbeats 8000000
namespace Go.Proofs.YtkjhaengllpaoaaGreatDoor.T
open Go.Proofs.YtkjhaengllpaoaaGreatDoor Go Go.RowKit
theorem MeasureReads_no (a : ByteArray) (p : Nat) (w : World)
   (h1 : ∀ W, Below w.heap.size w W → Calls Tryz.prog 10 #[.string a] W fun e W' => e = .returned (.bool false) ∧ Below W.heap.size W W')
   (h2 : ∀ W, Below w.heap.size w W → Calls Tryz.prog 11 #[] W fun e W' => e = .returned (.bool true) ∧ Below W.heap.size W W')
   : Calls Tryz.prog 5 #[.string a, .int .u8 p] w fun e W' => e = .returned (.bool true) ∧ Below w.heap.size w W' := by
 have O := Lib.hid (And.intro h1 (h2)); clear h1 h2
 go_enter Tryz.func5, Tryz.ntmps5
 have HB := Lib.hid (Below.refl w.heap.size w)
 go_wp2_with fail
 refine (O.out.1 _ HB.out).mono ?_
 rintro e w1 ⟨rfl, b⟩
 have HN := Lib.hid (HB.out.trans (b.mono HB.out.size)); clear HB b; have HB := HN; clear HN
 go_wp2_with fail
 refine (O.out.2 _ HB.out).mono ?_
 rintro e w2 ⟨rfl, b⟩
 have HN := Lib.hid (HB.out.trans (b.mono HB.out.size)); clear HB b; have HB := HN; clear HN
 go_wp2
 go_ret
 exact ⟨rfl, HB.out⟩
theorem mindexS (c : UInt8) (s : ByteArray) (w : World) : Calls Tryz.prog 51 #[.string s, .string ⟨#[c]⟩] w fun e W' => e = .returned (.int .i64 (Lib.indexByte s.data.toList c)) ∧ Below w.heap.size w W' := by
 have C := Lib.hid (fun W => Tryz.stringslite_Index_one s c W)
 generalize Lib.indexByte s.data.toList c = i at *
 go_enter Tryz.func51, Tryz.ntmps51
 go_wp2_with fail
 refine (C.out _).mono ?_
 rintro e w1 ⟨rfl, rfl⟩
 go_wp2
 go_ret
 exact ⟨rfl, Below.refl _ _⟩
theorem mcontains (c : UInt8) (s : ByteArray) (w : World) : Calls Tryz.prog 20 #[.string s, .string ⟨#[c]⟩] w fun e W' => e = .returned (.bool (kH c s.data.toList)) ∧ Below w.heap.size w W' := by
 have C := Lib.hid (fun W => mindexS c s W)
 cases h : kH c s.data.toList
 · rw [(kcut_no h).2.2] at C
   clear h
   go_enter Tryz.func20, Tryz.ntmps20
   go_wp2_with fail
   refine (C.out _).mono ?_
   rintro e w1 ⟨rfl, b⟩
   have B := Lib.hid b; clear b
   go_wp2
   go_ret
   exact ⟨rfl, B.out⟩
 · rw [(kcut_yes h).1] at C
   clear h
   generalize (k1 c s).size = n at *
   go_enter Tryz.func20, Tryz.ntmps20
   go_wp2_with fail
   refine (C.out _).mono ?_
   rintro e w1 ⟨rfl, b⟩
   have B := Lib.hid b; clear b
   have n0 : (0 : Int) ≤ n := by omega
   go_wp2
   go_ret
   exact ⟨rfl, B.out⟩
theorem MeasureReads_yy (a z r r2 : ByteArray) (p : Nat) (w : World) (hp : p ≤ 255) (s1 : a.size ≤ 100) (s2 : z.size ≤ 100) (s3 : r.size ≤ 100) (s4 : r2.size ≤ 100)
   (h1 : ∀ W, Below w.heap.size w W → Calls Tryz.prog 10 #[.string a] W fun e W' => e = .returned (.bool true) ∧ Below W.heap.size W W')
   (h2 : ∀ W, Below w.heap.size w W → Calls Tryz.prog 13 #[.string a] W fun e W' => e = .returned (.tuple #[.string a, .int .i64 0]) ∧ Below W.heap.size W W')
   (h3 : ∀ W, Below w.heap.size w W → Calls Tryz.prog 18 #[.string a, .string ⟨#[45]⟩] W fun e W' => e = .returned (.tuple #[.string z, .bool true]) ∧ Below W.heap.size W W')
   (h4 : ∀ j : Int, j = ((p % 11 : Nat) : Int) → ∀ W, Below w.heap.size w W → Calls Tryz.prog 19 #[.string ⟨#[48]⟩, .int .i64 j] W fun e W' => e = .returned (.string r) ∧ Below W.heap.size W W')
   (h5 : ∀ W, Below w.heap.size w W → Calls Tryz.prog 13 #[.string (⟨#[45]⟩ ++ (r ++ z))] W fun e W' => e = .returned (.tuple #[.string a, .int .i64 0]) ∧ Below W.heap.size W W')
   (h6 : ∀ W, Below w.heap.size w W → Calls Tryz.prog 20 #[.string z, .string ⟨#[47]⟩] W fun e W' => e = .returned (.bool true) ∧ Below W.heap.size W W')
   (h7 : ∀ W, Below w.heap.size w W → Calls Tryz.prog 11 #[] W fun e W' => e = .returned (.bool true) ∧ Below W.heap.size W W')
   : Calls Tryz.prog 5 #[.string a, .int .u8 p] w fun e W' => e = .returned (.bool true) ∧ Below w.heap.size w W' := by
 have O := Lib.hid (And.intro h1 (And.intro h2 (And.intro h3 (And.intro h4 (And.intro h5 (And.intro h6 (h7))))))); clear h1 h2 h3 h4 h5 h6 h7
 have hrem : Int.tmod (p : Int) 11 = ((p % 11 : Nat) : Int) := by rw [Int.tmod_eq_emod_of_nonneg (by omega)]; omega
 have n1 : ¬ (9223372036854775807 : Int) < (r.size : Int) + (z.size : Int) := by omega
 have n2 : ¬ (9223372036854775807 : Int) < 1 + ((r.size : Int) + (z.size : Int)) := by omega
 have n3 : ¬ (9223372036854775807 : Int) < (a.size : Int) + 1 := by omega
 have n4 : ¬ (9223372036854775807 : Int) < (a.size : Int) + 1 + (r2.size : Int) := by omega
 have m1 : ¬ 9223372036854775807 < r.size + z.size := by omega
 have m2 : ¬ 9223372036854775807 < 1 + (r.size + z.size) := by omega
 have m3 : ¬ 9223372036854775807 < a.size + 1 := by omega
 have m4 : ¬ 9223372036854775807 < a.size + 1 + r2.size := by omega
 clear s1 s2 s3 s4
 go_enter Tryz.func5, Tryz.ntmps5
 have HB := Lib.hid (Below.refl w.heap.size w)
 go_wp2_with fail
 refine (O.out.1 _ HB.out).mono ?_
 rintro e w1 ⟨rfl, b⟩
 have HN := Lib.hid (HB.out.trans (b.mono HB.out.size)); clear HB b; have HB := HN; clear HN
 go_wp2_with fail
 refine (O.out.2.1 _ HB.out).mono ?_
 rintro e w2 ⟨rfl, b⟩
 have HN := Lib.hid (HB.out.trans (b.mono HB.out.size)); clear HB b; have HB := HN; clear HN
 go_wp2_with fail
 refine (O.out.2.2.1 _ HB.out).mono ?_
 rintro e w3 ⟨rfl, b⟩
 have HN := Lib.hid (HB.out.trans (b.mono HB.out.size)); clear HB b; have HB := HN; clear HN
 go_wp2_with fail
 refine (O.out.2.2.2.1 _ (by omega) _ HB.out).mono ?_
 rintro e w4 ⟨rfl, b⟩
 have HN := Lib.hid (HB.out.trans (b.mono HB.out.size)); clear HB b; have HB := HN; clear HN
 go_wp2_with fail
 refine (O.out.2.2.2.2.1 _ HB.out).mono ?_
 rintro e w5 ⟨rfl, b⟩
 have HN := Lib.hid (HB.out.trans (b.mono HB.out.size)); clear HB b; have HB := HN; clear HN
 go_wp2_with fail
 refine (O.out.2.2.2.2.2.1 _ HB.out).mono ?_
 rintro e w6 ⟨rfl, b⟩
 have HN := Lib.hid (HB.out.trans (b.mono HB.out.size)); clear HB b; have HB := HN; clear HN
 go_wp2_with fail
 refine (O.out.2.2.2.2.2.2 _ HB.out).mono ?_
 rintro e w7 ⟨rfl, b⟩
 have HN := Lib.hid (HB.out.trans (b.mono HB.out.size)); clear HB b; have HB := HN; clear HN
 go_wp2
 go_ret
 exact ⟨rfl, HB.out⟩
theorem MeasureReads_yn (a z r r2 : ByteArray) (p : Nat) (w : World) (hp : p ≤ 255) (s1 : a.size ≤ 100) (s2 : z.size ≤ 100) (s3 : r.size ≤ 100) (s4 : r2.size ≤ 100)
   (h1 : ∀ W, Below w.heap.size w W → Calls Tryz.prog 10 #[.string a] W fun e W' => e = .returned (.bool true) ∧ Below W.heap.size W W')
   (h2 : ∀ W, Below w.heap.size w W → Calls Tryz.prog 13 #[.string a] W fun e W' => e = .returned (.tuple #[.string a, .int .i64 0]) ∧ Below W.heap.size W W')
   (h3 : ∀ W, Below w.heap.size w W → Calls Tryz.prog 18 #[.string a, .string ⟨#[45]⟩] W fun e W' => e = .returned (.tuple #[.string z, .bool true]) ∧ Below W.heap.size W W')
   (h4 : ∀ j : Int, j = ((p % 11 : Nat) : Int) → ∀ W, Below w.heap.size w W → Calls Tryz.prog 19 #[.string ⟨#[48]⟩, .int .i64 j] W fun e W' => e = .returned (.string r) ∧ Below W.heap.size W W')
   (h5 : ∀ W, Below w.heap.size w W → Calls Tryz.prog 13 #[.string (⟨#[45]⟩ ++ (r ++ z))] W fun e W' => e = .returned (.tuple #[.string a, .int .i64 0]) ∧ Below W.heap.size W W')
   (h6 : ∀ W, Below w.heap.size w W → Calls Tryz.prog 20 #[.string z, .string ⟨#[47]⟩] W fun e W' => e = .returned (.bool false) ∧ Below W.heap.size W W')
   (h7 : ∀ j : Int, j = ((1 + p % 11 : Nat) : Int) → ∀ W, Below w.heap.size w W → Calls Tryz.prog 19 #[.string ⟨#[48]⟩, .int .i64 j] W fun e W' => e = .returned (.string r2) ∧ Below W.heap.size W W')
   (h8 : ∀ W, Below w.heap.size w W → Calls Tryz.prog 13 #[.string (a ++ ⟨#[46]⟩ ++ r2)] W fun e W' => e = .returned (.tuple #[.string a, .int .i64 0]) ∧ Below W.heap.size W W')
   (h9 : ∀ W, Below w.heap.size w W → Calls Tryz.prog 11 #[] W fun e W' => e = .returned (.bool true) ∧ Below W.heap.size W W')
   : Calls Tryz.prog 5 #[.string a, .int .u8 p] w fun e W' => e = .returned (.bool true) ∧ Below w.heap.size w W' := by
 have O := Lib.hid (And.intro h1 (And.intro h2 (And.intro h3 (And.intro h4 (And.intro h5 (And.intro h6 (And.intro h7 (And.intro h8 (h9))))))))); clear h1 h2 h3 h4 h5 h6 h7 h8 h9
 have hrem : Int.tmod (p : Int) 11 = ((p % 11 : Nat) : Int) := by rw [Int.tmod_eq_emod_of_nonneg (by omega)]; omega
 have n1 : ¬ (9223372036854775807 : Int) < (r.size : Int) + (z.size : Int) := by omega
 have n2 : ¬ (9223372036854775807 : Int) < 1 + ((r.size : Int) + (z.size : Int)) := by omega
 have n3 : ¬ (9223372036854775807 : Int) < (a.size : Int) + 1 := by omega
 have n4 : ¬ (9223372036854775807 : Int) < (a.size : Int) + 1 + (r2.size : Int) := by omega
 have m1 : ¬ 9223372036854775807 < r.size + z.size := by omega
 have m2 : ¬ 9223372036854775807 < 1 + (r.size + z.size) := by omega
 have m3 : ¬ 9223372036854775807 < a.size + 1 := by omega
 have m4 : ¬ 9223372036854775807 < a.size + 1 + r2.size := by omega
 clear s1 s2 s3 s4
 go_enter Tryz.func5, Tryz.ntmps5
 have HB := Lib.hid (Below.refl w.heap.size w)
 go_wp2_with fail
 refine (O.out.1 _ HB.out).mono ?_
 rintro e w1 ⟨rfl, b⟩
 have HN := Lib.hid (HB.out.trans (b.mono HB.out.size)); clear HB b; have HB := HN; clear HN
 go_wp2_with fail
 refine (O.out.2.1 _ HB.out).mono ?_
 rintro e w2 ⟨rfl, b⟩
 have HN := Lib.hid (HB.out.trans (b.mono HB.out.size)); clear HB b; have HB := HN; clear HN
 go_wp2_with fail
 refine (O.out.2.2.1 _ HB.out).mono ?_
 rintro e w3 ⟨rfl, b⟩
 have HN := Lib.hid (HB.out.trans (b.mono HB.out.size)); clear HB b; have HB := HN; clear HN
 go_wp2_with fail
 refine (O.out.2.2.2.1 _ (by omega) _ HB.out).mono ?_
 rintro e w4 ⟨rfl, b⟩
 have HN := Lib.hid (HB.out.trans (b.mono HB.out.size)); clear HB b; have HB := HN; clear HN
 go_wp2_with fail
 refine (O.out.2.2.2.2.1 _ HB.out).mono ?_
 rintro e w5 ⟨rfl, b⟩
 have HN := Lib.hid (HB.out.trans (b.mono HB.out.size)); clear HB b; have HB := HN; clear HN
 go_wp2_with fail
 refine (O.out.2.2.2.2.2.1 _ HB.out).mono ?_
 rintro e w6 ⟨rfl, b⟩
 have HN := Lib.hid (HB.out.trans (b.mono HB.out.size)); clear HB b; have HB := HN; clear HN
 go_wp2_with fail
 refine (O.out.2.2.2.2.2.2.1 _ (by omega) _ HB.out).mono ?_
 rintro e w7 ⟨rfl, b⟩
 have HN := Lib.hid (HB.out.trans (b.mono HB.out.size)); clear HB b; have HB := HN; clear HN
 go_wp2_with fail
 refine (O.out.2.2.2.2.2.2.2.1 _ HB.out).mono ?_
 rintro e w8 ⟨rfl, b⟩
 have HN := Lib.hid (HB.out.trans (b.mono HB.out.size)); clear HB b; have HB := HN; clear HN
 go_wp2_with fail
 refine (O.out.2.2.2.2.2.2.2.2 _ HB.out).mono ?_
 rintro e w9 ⟨rfl, b⟩
 have HN := Lib.hid (HB.out.trans (b.mono HB.out.size)); clear HB b; have HB := HN; clear HN
 go_wp2
 go_ret
 exact ⟨rfl, HB.out⟩
theorem MeasureReads_ny (a z r r2 : ByteArray) (p : Nat) (w : World) (hp : p ≤ 255) (s1 : a.size ≤ 100) (s2 : z.size ≤ 100) (s3 : r.size ≤ 100) (s4 : r2.size ≤ 100)
   (h1 : ∀ W, Below w.heap.size w W → Calls Tryz.prog 10 #[.string a] W fun e W' => e = .returned (.bool true) ∧ Below W.heap.size W W')
   (h2 : ∀ W, Below w.heap.size w W → Calls Tryz.prog 13 #[.string a] W fun e W' => e = .returned (.tuple #[.string a, .int .i64 0]) ∧ Below W.heap.size W W')
   (h3 : ∀ W, Below w.heap.size w W → Calls Tryz.prog 18 #[.string a, .string ⟨#[45]⟩] W fun e W' => e = .returned (.tuple #[.string z, .bool false]) ∧ Below W.heap.size W W')
   (h4 : ∀ j : Int, j = ((p % 11 : Nat) : Int) → ∀ W, Below w.heap.size w W → Calls Tryz.prog 19 #[.string ⟨#[48]⟩, .int .i64 j] W fun e W' => e = .returned (.string r) ∧ Below W.heap.size W W')
   (h5 : ∀ W, Below w.heap.size w W → Calls Tryz.prog 13 #[.string (r ++ z)] W fun e W' => e = .returned (.tuple #[.string a, .int .i64 0]) ∧ Below W.heap.size W W')
   (h6 : ∀ W, Below w.heap.size w W → Calls Tryz.prog 20 #[.string z, .string ⟨#[47]⟩] W fun e W' => e = .returned (.bool true) ∧ Below W.heap.size W W')
   (h7 : ∀ W, Below w.heap.size w W → Calls Tryz.prog 11 #[] W fun e W' => e = .returned (.bool true) ∧ Below W.heap.size W W')
   : Calls Tryz.prog 5 #[.string a, .int .u8 p] w fun e W' => e = .returned (.bool true) ∧ Below w.heap.size w W' := by
 have O := Lib.hid (And.intro h1 (And.intro h2 (And.intro h3 (And.intro h4 (And.intro h5 (And.intro h6 (h7))))))); clear h1 h2 h3 h4 h5 h6 h7
 have hrem : Int.tmod (p : Int) 11 = ((p % 11 : Nat) : Int) := by rw [Int.tmod_eq_emod_of_nonneg (by omega)]; omega
 have n1 : ¬ (9223372036854775807 : Int) < (r.size : Int) + (z.size : Int) := by omega
 have n2 : ¬ (9223372036854775807 : Int) < 1 + ((r.size : Int) + (z.size : Int)) := by omega
 have n3 : ¬ (9223372036854775807 : Int) < (a.size : Int) + 1 := by omega
 have n4 : ¬ (9223372036854775807 : Int) < (a.size : Int) + 1 + (r2.size : Int) := by omega
 have m1 : ¬ 9223372036854775807 < r.size + z.size := by omega
 have m2 : ¬ 9223372036854775807 < 1 + (r.size + z.size) := by omega
 have m3 : ¬ 9223372036854775807 < a.size + 1 := by omega
 have m4 : ¬ 9223372036854775807 < a.size + 1 + r2.size := by omega
 clear s1 s2 s3 s4
 go_enter Tryz.func5, Tryz.ntmps5
 have HB := Lib.hid (Below.refl w.heap.size w)
 go_wp2_with fail
 refine (O.out.1 _ HB.out).mono ?_
 rintro e w1 ⟨rfl, b⟩
 have HN := Lib.hid (HB.out.trans (b.mono HB.out.size)); clear HB b; have HB := HN; clear HN
 go_wp2_with fail
 refine (O.out.2.1 _ HB.out).mono ?_
 rintro e w2 ⟨rfl, b⟩
 have HN := Lib.hid (HB.out.trans (b.mono HB.out.size)); clear HB b; have HB := HN; clear HN
 go_wp2_with fail
 refine (O.out.2.2.1 _ HB.out).mono ?_
 rintro e w3 ⟨rfl, b⟩
 have HN := Lib.hid (HB.out.trans (b.mono HB.out.size)); clear HB b; have HB := HN; clear HN
 go_wp2_with fail
 refine (O.out.2.2.2.1 _ (by omega) _ HB.out).mono ?_
 rintro e w4 ⟨rfl, b⟩
 have HN := Lib.hid (HB.out.trans (b.mono HB.out.size)); clear HB b; have HB := HN; clear HN
 go_wp2_with fail
 refine (O.out.2.2.2.2.1 _ HB.out).mono ?_
 rintro e w5 ⟨rfl, b⟩
 have HN := Lib.hid (HB.out.trans (b.mono HB.out.size)); clear HB b; have HB := HN; clear HN
 go_wp2_with fail
 refine (O.out.2.2.2.2.2.1 _ HB.out).mono ?_
 rintro e w6 ⟨rfl, b⟩
 have HN := Lib.hid (HB.out.trans (b.mono HB.out.size)); clear HB b; have HB := HN; clear HN
 go_wp2_with fail
 refine (O.out.2.2.2.2.2.2 _ HB.out).mono ?_
 rintro e w7 ⟨rfl, b⟩
 have HN := Lib.hid (HB.out.trans (b.mono HB.out.size)); clear HB b; have HB := HN; clear HN
 go_wp2
 go_ret
 exact ⟨rfl, HB.out⟩
theorem MeasureReads_nn (a z r r2 : ByteArray) (p : Nat) (w : World) (hp : p ≤ 255) (s1 : a.size ≤ 100) (s2 : z.size ≤ 100) (s3 : r.size ≤ 100) (s4 : r2.size ≤ 100)
   (h1 : ∀ W, Below w.heap.size w W → Calls Tryz.prog 10 #[.string a] W fun e W' => e = .returned (.bool true) ∧ Below W.heap.size W W')
   (h2 : ∀ W, Below w.heap.size w W → Calls Tryz.prog 13 #[.string a] W fun e W' => e = .returned (.tuple #[.string a, .int .i64 0]) ∧ Below W.heap.size W W')
   (h3 : ∀ W, Below w.heap.size w W → Calls Tryz.prog 18 #[.string a, .string ⟨#[45]⟩] W fun e W' => e = .returned (.tuple #[.string z, .bool false]) ∧ Below W.heap.size W W')
   (h4 : ∀ j : Int, j = ((p % 11 : Nat) : Int) → ∀ W, Below w.heap.size w W → Calls Tryz.prog 19 #[.string ⟨#[48]⟩, .int .i64 j] W fun e W' => e = .returned (.string r) ∧ Below W.heap.size W W')
   (h5 : ∀ W, Below w.heap.size w W → Calls Tryz.prog 13 #[.string (r ++ z)] W fun e W' => e = .returned (.tuple #[.string a, .int .i64 0]) ∧ Below W.heap.size W W')
   (h6 : ∀ W, Below w.heap.size w W → Calls Tryz.prog 20 #[.string z, .string ⟨#[47]⟩] W fun e W' => e = .returned (.bool false) ∧ Below W.heap.size W W')
   (h7 : ∀ j : Int, j = ((1 + p % 11 : Nat) : Int) → ∀ W, Below w.heap.size w W → Calls Tryz.prog 19 #[.string ⟨#[48]⟩, .int .i64 j] W fun e W' => e = .returned (.string r2) ∧ Below W.heap.size W W')
   (h8 : ∀ W, Below w.heap.size w W → Calls Tryz.prog 13 #[.string (a ++ ⟨#[46]⟩ ++ r2)] W fun e W' => e = .returned (.tuple #[.string a, .int .i64 0]) ∧ Below W.heap.size W W')
   (h9 : ∀ W, Below w.heap.size w W → Calls Tryz.prog 11 #[] W fun e W' => e = .returned (.bool true) ∧ Below W.heap.size W W')
   : Calls Tryz.prog 5 #[.string a, .int .u8 p] w fun e W' => e = .returned (.bool true) ∧ Below w.heap.size w W' := by
 have O := Lib.hid (And.intro h1 (And.intro h2 (And.intro h3 (And.intro h4 (And.intro h5 (And.intro h6 (And.intro h7 (And.intro h8 (h9))))))))); clear h1 h2 h3 h4 h5 h6 h7 h8 h9
 have hrem : Int.tmod (p : Int) 11 = ((p % 11 : Nat) : Int) := by rw [Int.tmod_eq_emod_of_nonneg (by omega)]; omega
 have n1 : ¬ (9223372036854775807 : Int) < (r.size : Int) + (z.size : Int) := by omega
 have n2 : ¬ (9223372036854775807 : Int) < 1 + ((r.size : Int) + (z.size : Int)) := by omega
 have n3 : ¬ (9223372036854775807 : Int) < (a.size : Int) + 1 := by omega
 have n4 : ¬ (9223372036854775807 : Int) < (a.size : Int) + 1 + (r2.size : Int) := by omega
 have m1 : ¬ 9223372036854775807 < r.size + z.size := by omega
 have m2 : ¬ 9223372036854775807 < 1 + (r.size + z.size) := by omega
 have m3 : ¬ 9223372036854775807 < a.size + 1 := by omega
 have m4 : ¬ 9223372036854775807 < a.size + 1 + r2.size := by omega
 clear s1 s2 s3 s4
 go_enter Tryz.func5, Tryz.ntmps5
 have HB := Lib.hid (Below.refl w.heap.size w)
 go_wp2_with fail
 refine (O.out.1 _ HB.out).mono ?_
 rintro e w1 ⟨rfl, b⟩
 have HN := Lib.hid (HB.out.trans (b.mono HB.out.size)); clear HB b; have HB := HN; clear HN
 go_wp2_with fail
 refine (O.out.2.1 _ HB.out).mono ?_
 rintro e w2 ⟨rfl, b⟩
 have HN := Lib.hid (HB.out.trans (b.mono HB.out.size)); clear HB b; have HB := HN; clear HN
 go_wp2_with fail
 refine (O.out.2.2.1 _ HB.out).mono ?_
 rintro e w3 ⟨rfl, b⟩
 have HN := Lib.hid (HB.out.trans (b.mono HB.out.size)); clear HB b; have HB := HN; clear HN
 go_wp2_with fail
 refine (O.out.2.2.2.1 _ (by omega) _ HB.out).mono ?_
 rintro e w4 ⟨rfl, b⟩
 have HN := Lib.hid (HB.out.trans (b.mono HB.out.size)); clear HB b; have HB := HN; clear HN
 go_wp2_with fail
 refine (O.out.2.2.2.2.1 _ HB.out).mono ?_
 rintro e w5 ⟨rfl, b⟩
 have HN := Lib.hid (HB.out.trans (b.mono HB.out.size)); clear HB b; have HB := HN; clear HN
 go_wp2_with fail
 refine (O.out.2.2.2.2.2.1 _ HB.out).mono ?_
 rintro e w6 ⟨rfl, b⟩
 have HN := Lib.hid (HB.out.trans (b.mono HB.out.size)); clear HB b; have HB := HN; clear HN
 go_wp2_with fail
 refine (O.out.2.2.2.2.2.2.1 _ (by omega) _ HB.out).mono ?_
 rintro e w7 ⟨rfl, b⟩
 have HN := Lib.hid (HB.out.trans (b.mono HB.out.size)); clear HB b; have HB := HN; clear HN
 go_wp2_with fail
 refine (O.out.2.2.2.2.2.2.2.1 _ HB.out).mono ?_
 rintro e w8 ⟨rfl, b⟩
 have HN := Lib.hid (HB.out.trans (b.mono HB.out.size)); clear HB b; have HB := HN; clear HN
 go_wp2_with fail
 refine (O.out.2.2.2.2.2.2.2.2 _ HB.out).mono ?_
 rintro e w9 ⟨rfl, b⟩
 have HN := Lib.hid (HB.out.trans (b.mono HB.out.size)); clear HB b; have HB := HN; clear HN
 go_wp2
 go_ret
 exact ⟨rfl, HB.out⟩
theorem strQ_num (q : Rat) : strQ q = bO (sg (decide (q.num < 0)) (numU 0 q.num.natAbs q.den)) := by unfold strQ bO; rw [itoaQ_num]
theorem numU_rep (k m d : Nat) : bO (List.replicate k 48) ++ bO (numU 0 m d) = bO (numU k m d) := by
 rw [bO_app]; unfold numU
 simp
theorem numU_kH (m d : Nat) : kH 47 (numU 0 m d) = decide (d ≠ 1) := by
 unfold numU
 by_cases h : d = 1
 · rw [if_pos h, decide_eq_false (by simpa using h), List.append_nil, List.replicate_zero, List.nil_append]
   exact kH_no (dig_no (decDigits_dig m) (by decide))
 · rw [if_neg h, decide_eq_true h]
   exact kH_iff.2 (by simp)
theorem numU_len {k m d j : Nat} (h1 : m < tenTo j) (h2 : d < tenTo j) (hj : 1 ≤ j) : (numU k m d).length ≤ k + j + j + 1 := by
 have l1 := dec_len hj h1
 have l2 := dec_len hj h2
 unfold numU
 rw [List.length_append, List.length_append, List.length_replicate]
 by_cases h : d = 1
 · rw [if_pos h, List.length_nil]; omega
 · rw [if_neg h, List.length_cons]; omega
theorem MeasureReads_nat (a : ByteArray) (p : Nat) (w : World) (ha : a.size ≤ maxLen) (hp : p ≤ 255) (T : TabM w) :
   Calls Tryz.prog 5 #[.string a, .int .u8 p] w fun e W' => e = .returned (.bool true) ∧ Below w.heap.size w W' := by
 have hf := fun W (hW : Below w.heap.size w W) => fineM a W ha (T.next hW)
 have hA := fun W (hW : Below w.heap.size w W) => awake7_any W (T.next hW)
 by_cases h : fM a = true
 · obtain ⟨x, rfl, hx⟩ := fM_str h
   rw [h] at hf
   have len := fun k => numU_len (k := k) hx.num hx.2 (by decide : 1 ≤ 30)
   have pk : ∀ k, k ≤ 20 → ∀ W, Below w.heap.size w W → Calls Tryz.prog 13 #[.string (bO (sg (decide (x.num < 0)) (numU k x.num.natAbs x.den)))] W fun e W' => e = .returned (.tuple #[.string (strQ x), .int .i64 0]) ∧ Below W.heap.size W W' := fun k hk W hW => by
     obtain ⟨v1, v2, v3⟩ := numT_val k x
     have c := parse_ok (bO (sg (decide (x.num < 0)) (numU k x.num.natAbs x.den))) W (by
       rw [bO_size]; have := len k; have := sg_len (decide (x.num < 0)) (numU k x.num.natAbs x.den); omega) (by rw [bO_data]; exact v1) (by rw [bO_data]; exact v2) (T.next hW)
     rwa [bO_data, v3] at c
   have kp : ∀ W, Below w.heap.size w W → Calls Tryz.prog 18 #[.string (strQ x), .string ⟨#[45]⟩] W fun e W' => e = .returned (.tuple #[.string (bO (numU 0 x.num.natAbs x.den)), .bool (decide (x.num < 0))]) ∧ Below W.heap.size W W' := fun W _ => by
     have c := mprefix (strQ x) W
     obtain ⟨e1, e2⟩ := sg_neg (b := decide (x.num < 0)) (numU_neg 0 x.num.natAbs x.den)
     unfold zB at c
     rwa [strQ_num, bO_data, e1, e2, ← strQ_num] at c
   have p0 : ∀ W, Below w.heap.size w W → Calls Tryz.prog 13 #[.string (strQ x)] W fun e W' => e = .returned (.tuple #[.string (strQ x), .int .i64 0]) ∧ Below W.heap.size W W' := fun W hW => by
     have c := pk 0 (by decide) W hW
     rwa [← strQ_num] at c
   have kc : ∀ W, Below w.heap.size w W → Calls Tryz.prog 20 #[.string (bO (numU 0 x.num.natAbs x.den)), .string ⟨#[47]⟩] W fun e W' => e = .returned (.bool (decide (x.den ≠ 1))) ∧ Below W.heap.size W W' := fun W _ => by
     have c := mcontains 47 (bO (numU 0 x.num.natAbs x.den)) W
     rwa [bO_data, numU_kH] at c
   have sa : (strQ x).size ≤ 100 := by rw [strQ_num, bO_size]; have := len 0; have := sg_len (decide (x.num < 0)) (numU 0 x.num.natAbs x.den); omega
   have sz : (bO (numU 0 x.num.natAbs x.den)).size ≤ 100 := by rw [bO_size]; have := len 0; omega
   have sr : ∀ k, k ≤ 20 → (bO (List.replicate k 48)).size ≤ 100 := fun k hk => by rw [bO_size, List.length_replicate]; omega
   have kr : ∀ j : Int, j = ((p % 11 : Nat) : Int) → ∀ W, Below w.heap.size w W → Calls Tryz.prog 19 #[.string ⟨#[48]⟩, .int .i64 j] W fun e W' => e = .returned (.string (bO (List.replicate (p % 11) 48))) ∧ Below W.heap.size W W' := fun j hj W _ => by rw [hj]; exact mrep _ W (by omega)
   have kr2 : ∀ j : Int, j = ((1 + p % 11 : Nat) : Int) → ∀ W, Below w.heap.size w W → Calls Tryz.prog 19 #[.string ⟨#[48]⟩, .int .i64 j] W fun e W' => e = .returned (.string (bO (List.replicate (1 + p % 11) 48))) ∧ Below W.heap.size W W' := fun j hj W _ => by rw [hj]; exact mrep _ W (by omega)
   have pz : x.den = 1 → ∀ W, Below w.heap.size w W → Calls Tryz.prog 13 #[.string (strQ x ++ ⟨#[46]⟩ ++ bO (List.replicate (1 + p % 11) 48))] W fun e W' => e = .returned (.tuple #[.string (strQ x), .int .i64 0]) ∧ Below W.heap.size W W' := fun hd W hW => by
     have ex : x = ((x.num : Int) : Rat) := by
       have := num_div x
       rw [hd, show (((1 : Nat) : Int) : Rat) = 1 from rfl, Rat.div_def, show (1 : Rat)⁻¹ = 1 by decide +kernel, Rat.mul_one] at this
       exact this.symm
     have et : strQ x ++ ⟨#[46]⟩ ++ bO (List.replicate (1 + p % 11) 48) = bO (sg (decide (x.num < 0)) (potU x.num.natAbs (1 + p % 11))) := by
       rw [strQ_num, hd, show (⟨#[46]⟩ : ByteArray) = bO [46] from rfl, bO_app, bO_app]
       unfold numU potU sg
       rw [if_pos rfl]
       cases decide (x.num < 0) <;> simp
     obtain ⟨v1, v2, v3⟩ := potT_val (1 + p % 11) (by omega) x.num
     rw [et]
     have c := parse_ok (bO (sg (decide (x.num < 0)) (potU x.num.natAbs (1 + p % 11)))) W (by
       have l1 := dec_len (by decide : 1 ≤ 30) hx.num
       rw [bO_size]; have := sg_len (decide (x.num < 0)) (potU x.num.natAbs (1 + p % 11)); unfold potU at this ⊢; rw [List.length_append, List.length_cons, List.length_replicate] at this; omega) (by rw [bO_data]; exact v1) (by rw [bO_data]; exact v2) (T.next hW)
     rwa [bO_data, v3, ← ex] at c
   by_cases hn : x.num < 0
   · rw [decide_eq_true hn] at kp
     have pm' : ∀ W, Below w.heap.size w W → Calls Tryz.prog 13 #[.string (⟨#[45]⟩ ++ (bO (List.replicate (p % 11) 48) ++ bO (numU 0 x.num.natAbs x.den)))] W fun e W' => e = .returned (.tuple #[.string (strQ x), .int .i64 0]) ∧ Below W.heap.size W W' := fun W hW => by
       have c := pk (p % 11) (by omega) W hW
       rw [decide_eq_true hn] at c
       rw [numU_rep, show (⟨#[45]⟩ : ByteArray) = bO [45] from rfl, bO_app]
       exact c
     by_cases hd : x.den = 1
     · rw [decide_eq_false (by simpa using hd)] at kc
       exact MeasureReads_yn _ _ _ _ p w hp sa sz (sr _ (by omega)) (sr (1 + p % 11) (by omega)) hf p0 kp kr pm' kc kr2 (pz hd) hA
     · rw [decide_eq_true hd] at kc
       exact MeasureReads_yy _ _ _ ⟨#[]⟩ p w hp sa sz (sr _ (by omega)) (by decide) hf p0 kp kr pm' kc hA
   · rw [decide_eq_false hn] at kp
     have pm' : ∀ W, Below w.heap.size w W → Calls Tryz.prog 13 #[.string (bO (List.replicate (p % 11) 48) ++ bO (numU 0 x.num.natAbs x.den))] W fun e W' => e = .returned (.tuple #[.string (strQ x), .int .i64 0]) ∧ Below W.heap.size W W' := fun W hW => by
       have c := pk (p % 11) (by omega) W hW
       rw [decide_eq_false hn] at c
       rw [numU_rep]
       exact c
     by_cases hd : x.den = 1
     · rw [decide_eq_false (by simpa using hd)] at kc
       exact MeasureReads_nn _ _ _ _ p w hp sa sz (sr _ (by omega)) (sr (1 + p % 11) (by omega)) hf p0 kp kr pm' kc kr2 (pz hd) hA
     · rw [decide_eq_true hd] at kc
       exact MeasureReads_ny _ _ _ ⟨#[]⟩ p w hp sa sz (sr _ (by omega)) (by decide) hf p0 kp kr pm' kc hA
 · have hf' : fM a = false := by simpa using h
   rw [hf'] at hf
   exact MeasureReads_no a p w hf hA
theorem MeasureReads_any (a : ByteArray) (p : Int) (w : World) (ha : a.size ≤ maxLen) (hp : (Lit.int .u8 p).wf = true) (T : TabM w) :
   Calls Tryz.prog 5 #[.string a, .int .u8 p] w fun e W' => e = .returned (.bool true) ∧ Below w.heap.size w W' := by
 have mn : IntKind.u8.min = 0 := rfl
 have mx : IntKind.u8.max = 255 := rfl
 simp [Lit.wf] at hp
 obtain ⟨p', rfl⟩ : ∃ k : Nat, p = k := ⟨p.toNat, by omega⟩
 exact MeasureReads_nat a p' w ha (by omega) T
end Go.Proofs.YtkjhaengllpaoaaGreatDoor.T
