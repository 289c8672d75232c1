/- Parts of the proof of the text YtkjhaengllpaoaaGreatDoorZB27. -/
import Derived.Test.YtkjhaengllpaoaaGreatDoorZB1
import Derived.Test.YtkjhaengllpaoaaGreatDoorZB24
set_option linter.all false
set_option maxRecDepth 100000
set_option maxHeartbeats 8000000
namespace Go.Proofs.YtkjhaengllpaoaaGreatDoor.T
open Go.Proofs.YtkjhaengllpaoaaGreatDoor Go Go.RowKit
theorem near_core (a m n : ByteArray) (w : World)
   (h1 : ∀ W, Below w.heap.size w W → Calls Tryz.prog 87 #[.string a, .string ⟨#[49, 47, 50]⟩] W fun e W' => e = .returned (.tuple #[.string m, .int .i64 0]) ∧ Below W.heap.size W W')
   (h2 : ∀ W, Below w.heap.size w W → Calls Tryz.prog 24 #[.string m] W fun e W' => e = .returned (.tuple #[.string n, .int .i64 0]) ∧ Below W.heap.size W W')
   : Calls Tryz.prog 39 #[.string a] w fun e W' => e = .returned (.tuple #[.string n, .int .i64 0]) ∧ Below w.heap.size w W' := by
 have O := Lib.hid (And.intro h1 (h2)); clear h1 h2
 go_enter Tryz.func39, Tryz.ntmps39
 have HB := Lib.hid (Below.refl w.heap.size w)
 go_wp2_with fail
 refine (O.out.1 _ HB.out).mono ?_
 rintro e w1 ⟨rfl, b⟩
 have HN := Lib.hid (HB.out.trans (b.mono HB.out.size)); clear HB b; have HB := HN; clear HN
 go_wp2_with fail
 refine (O.out.2 _ HB.out).mono ?_
 rintro e w2 ⟨rfl, b⟩
 have HN := Lib.hid (HB.out.trans (b.mono HB.out.size)); clear HB b; have HB := HN; clear HN
 go_wp2
 go_ret2
 exact ⟨rfl, HB.out⟩
theorem check_core (a n d z : ByteArray) (g : Bool) (w : World) (s1 : ¬ (90 : Int) < z.size) (s2 : ¬ (90 : Int) < d.size)
   (h1 : ∀ W, Below w.heap.size w W → Calls Tryz.prog 61 #[.string a] W fun e W' => e = .returned (.tuple #[.string n, .string d, .int .i64 0]) ∧ Below W.heap.size W W')
   (h2 : ∀ W, Below w.heap.size w W → Calls Tryz.prog 18 #[.string n, .string ⟨#[45]⟩] W fun e W' => e = .returned (.tuple #[.string z, .bool g]) ∧ Below W.heap.size W W')
   : Calls Tryz.prog 52 #[.string a] w fun e W' => e = .returned (.int .i64 0) ∧ Below w.heap.size w W' := by
 have O := Lib.hid (And.intro h1 (h2)); clear h1 h2
 go_enter Tryz.func52, Tryz.ntmps52
 have HB := Lib.hid (Below.refl w.heap.size w)
 go_wp2_with fail
 refine (O.out.1 _ HB.out).mono ?_
 rintro e w1 ⟨rfl, b⟩
 have HN := Lib.hid (HB.out.trans (b.mono HB.out.size)); clear HB b; have HB := HN; clear HN
 go_wp2_with fail
 refine (O.out.2 _ HB.out).mono ?_
 rintro e w2 ⟨rfl, b⟩
 have HN := Lib.hid (HB.out.trans (b.mono HB.out.size)); clear HB b; have HB := HN; clear HN
 go_wp2
 go_ret
 exact ⟨rfl, HB.out⟩
theorem inl_core (a t r : ByteArray) (p : Nat) (w : World) (p1 : ¬ (p : Int) < 0) (p2 : ¬ (100 : Int) < p)
   (h1 : ∀ W, Below w.heap.size w W → Calls Tryz.prog 52 #[.string a] W fun e W' => e = .returned (.int .i64 0) ∧ Below W.heap.size W W')
   (h2 : ∀ W, Below w.heap.size w W → Calls Tryz.prog 86 #[.int .i64 p] W fun e W' => e = .returned (.string t) ∧ Below W.heap.size W W')
   (h3 : ∀ W, Below w.heap.size w W → Calls Tryz.prog 55 #[.string a, .string t] W fun e W' => e = .returned (.tuple #[.string r, .int .i64 0]) ∧ Below W.heap.size W W')
   : Calls Tryz.prog 38 #[.string a, .int .i64 p] w fun e W' => e = .returned (.tuple #[.string r, .int .i64 0]) ∧ Below w.heap.size w W' := by
 have O := Lib.hid (And.intro h1 (And.intro h2 (h3))); clear h1 h2 h3
 go_enter Tryz.func38, Tryz.ntmps38
 have HB := Lib.hid (Below.refl w.heap.size w)
 go_wp2_with fail
 refine (O.out.1 _ HB.out).mono ?_
 rintro e w1 ⟨rfl, b⟩
 have HN := Lib.hid (HB.out.trans (b.mono HB.out.size)); clear HB b; have HB := HN; clear HN
 go_wp2_with fail
 refine (O.out.2.1 _ HB.out).mono ?_
 rintro e w2 ⟨rfl, b⟩
 have HN := Lib.hid (HB.out.trans (b.mono HB.out.size)); clear HB b; have HB := HN; clear HN
 go_wp2_with fail
 refine (O.out.2.2 _ HB.out).mono ?_
 rintro e w3 ⟨rfl, b⟩
 have HN := Lib.hid (HB.out.trans (b.mono HB.out.size)); clear HB b; have HB := HN; clear HN
 go_wp2
 go_ret2
 exact ⟨rfl, HB.out⟩
theorem print_core (a u n t : ByteArray) (p : Nat) (w : World)
   (h1 : ∀ W, Below w.heap.size w W → Calls Tryz.prog 38 #[.string a, .int .i64 p] W fun e W' => e = .returned (.tuple #[.string u, .int .i64 0]) ∧ Below W.heap.size W W')
   (h2 : ∀ W, Below w.heap.size w W → Calls Tryz.prog 39 #[.string u] W fun e W' => e = .returned (.tuple #[.string n, .int .i64 0]) ∧ Below W.heap.size W W')
   (h3 : ∀ W, Below w.heap.size w W → Calls Tryz.prog 40 #[.string n, .int .i64 p] W fun e W' => e = .returned (.string t) ∧ Below W.heap.size W W')
   : Calls Tryz.prog 12 #[.string a, .int .i64 p] w fun e W' => e = .returned (.tuple #[.string t, .int .i64 0]) ∧ Below w.heap.size w W' := by
 have O := Lib.hid (And.intro h1 (And.intro h2 (h3))); clear h1 h2 h3
 go_enter Tryz.func12, Tryz.ntmps12
 have HB := Lib.hid (Below.refl w.heap.size w)
 go_wp2_with fail
 refine (O.out.1 _ HB.out).mono ?_
 rintro e w1 ⟨rfl, b⟩
 have HN := Lib.hid (HB.out.trans (b.mono HB.out.size)); clear HB b; have HB := HN; clear HN
 go_wp2_with fail
 refine (O.out.2.1 _ HB.out).mono ?_
 rintro e w2 ⟨rfl, b⟩
 have HN := Lib.hid (HB.out.trans (b.mono HB.out.size)); clear HB b; have HB := HN; clear HN
 go_wp2_with fail
 refine (O.out.2.2 _ HB.out).mono ?_
 rintro e w3 ⟨rfl, b⟩
 have HN := Lib.hid (HB.out.trans (b.mono HB.out.size)); clear HB b; have HB := HN; clear HN
 go_wp2
 go_ret2
 exact ⟨rfl, HB.out⟩
theorem exact_core (a u x y : ByteArray) (g : Bool) (p : Nat) (w : World)
   (h1 : ∀ W, Below w.heap.size w W → Calls Tryz.prog 38 #[.string a, .int .i64 p] W fun e W' => e = .returned (.tuple #[.string u, .int .i64 0]) ∧ Below W.heap.size W W')
   (h2 : ∀ W, Below w.heap.size w W → Calls Tryz.prog 16 #[.string u, .string ⟨#[47]⟩] W fun e W' => e = .returned (.tuple #[.string x, .string y, .bool g]) ∧ Below W.heap.size W W')
   : Calls Tryz.prog 17 #[.string a, .int .i64 p] w fun e W' => e = .returned (.tuple #[.bool (!g), .int .i64 0]) ∧ Below w.heap.size w W' := by
 have O := Lib.hid (And.intro h1 (h2)); clear h1 h2
 go_enter Tryz.func17, Tryz.ntmps17
 have HB := Lib.hid (Below.refl w.heap.size w)
 go_wp2_with fail
 refine (O.out.1 _ HB.out).mono ?_
 rintro e w1 ⟨rfl, b⟩
 have HN := Lib.hid (HB.out.trans (b.mono HB.out.size)); clear HB b; have HB := HN; clear HN
 go_wp2_with fail
 refine (O.out.2 _ HB.out).mono ?_
 rintro e w2 ⟨rfl, b⟩
 have HN := Lib.hid (HB.out.trans (b.mono HB.out.size)); clear HB b; have HB := HN; clear HN
 go_wp2
 go_ret2
 exact ⟨rfl, HB.out⟩
theorem dec0_core (n z t : ByteArray) (g : Bool) (w : World)
   (h1 : ∀ W, Below w.heap.size w W → Calls Tryz.prog 18 #[.string n, .string ⟨#[45]⟩] W fun e W' => e = .returned (.tuple #[.string z, .bool g]) ∧ Below W.heap.size W W')
   (h2 : ∀ W, Below w.heap.size w W → Calls Tryz.prog 42 #[.string z, .bool g] W fun e W' => e = .returned (.string t) ∧ Below W.heap.size W W')
   : Calls Tryz.prog 40 #[.string n, .int .i64 0] w fun e W' => e = .returned (.string t) ∧ Below w.heap.size w W' := by
 have O := Lib.hid (And.intro h1 (h2)); clear h1 h2
 go_enter Tryz.func40, Tryz.ntmps40
 have HB := Lib.hid (Below.refl w.heap.size w)
 go_wp2_with fail
 refine (O.out.1 _ HB.out).mono ?_
 rintro e w1 ⟨rfl, b⟩
 have HN := Lib.hid (HB.out.trans (b.mono HB.out.size)); clear HB b; have HB := HN; clear HN
 go_wp2_with fail
 refine (O.out.2 _ HB.out).mono ?_
 rintro e w2 ⟨rfl, b⟩
 have HN := Lib.hid (HB.out.trans (b.mono HB.out.size)); clear HB b; have HB := HN; clear HN
 go_wp2
 go_ret
 exact ⟨rfl, HB.out⟩
theorem fr_yy (s x0 y0 x y n d : ByteArray) (g : Bool) (w : World) (s1 : ¬ (9223372036854775807 : Int) < (x.size : Int) + (y.size : Int))
   (h1 : ∀ W, Below w.heap.size w W → Calls Tryz.prog 16 #[.string s, .string ⟨#[46]⟩] W fun e W' => e = .returned (.tuple #[.string x, .string y, .bool true]) ∧ Below W.heap.size W W')
   (h2 : ∀ W, Below w.heap.size w W → Calls Tryz.prog 88 #[.string (x ++ y)] W fun e W' => e = .returned (.string n) ∧ Below W.heap.size W W')
   (h3 : ∀ W, Below w.heap.size w W → Calls Tryz.prog 86 #[.int .i64 y.size] W fun e W' => e = .returned (.string d) ∧ Below W.heap.size W W')
   (h4 : ∀ W, Below w.heap.size w W → Calls Tryz.prog 64 #[.string x, .func (.func 89) #[] #[]] W fun e W' => e = .returned (.bool true) ∧ Below W.heap.size W W')
   (h5 : ∀ W, Below w.heap.size w W → Calls Tryz.prog 64 #[.string y, .func (.func 89) #[] #[]] W fun e W' => e = .returned (.bool g) ∧ Below W.heap.size W W')
   : Calls Tryz.prog 41 #[.string s] w fun e W' => e = .returned (.tuple #[.string n, .string d, .bool g]) ∧ Below w.heap.size w W' := by
 have O := Lib.hid (And.intro h1 (And.intro h2 (And.intro h3 (And.intro h4 (h5))))); clear h1 h2 h3 h4 h5
 go_enter Tryz.func41, Tryz.ntmps41
 have HB := Lib.hid (Below.refl w.heap.size w)
 go_wp2_with fail
 refine (O.out.1 _ HB.out).mono ?_
 rintro e w1 ⟨rfl, b⟩
 have HN := Lib.hid (HB.out.trans (b.mono HB.out.size)); clear HB b; have HB := HN; clear HN
 go_wp2_with fail
 refine (O.out.2.1 _ HB.out).mono ?_
 rintro e w2 ⟨rfl, b⟩
 have HN := Lib.hid (HB.out.trans (b.mono HB.out.size)); clear HB b; have HB := HN; clear HN
 go_wp2_with fail
 refine (O.out.2.2.1 _ HB.out).mono ?_
 rintro e w3 ⟨rfl, b⟩
 have HN := Lib.hid (HB.out.trans (b.mono HB.out.size)); clear HB b; have HB := HN; clear HN
 go_wp2_with fail
 refine (O.out.2.2.2.1 _ HB.out).mono ?_
 rintro e w4 ⟨rfl, b⟩
 have HN := Lib.hid (HB.out.trans (b.mono HB.out.size)); clear HB b; have HB := HN; clear HN
 go_wp2_with fail
 refine (O.out.2.2.2.2 _ HB.out).mono ?_
 rintro e w5 ⟨rfl, b⟩
 have HN := Lib.hid (HB.out.trans (b.mono HB.out.size)); clear HB b; have HB := HN; clear HN
 go_wp2
 go_ret3
 exact ⟨rfl, HB.out⟩
theorem fr_yn (s x0 y0 x y n d : ByteArray) (g : Bool) (w : World) (s1 : ¬ (9223372036854775807 : Int) < (x.size : Int) + (y.size : Int))
   (h1 : ∀ W, Below w.heap.size w W → Calls Tryz.prog 16 #[.string s, .string ⟨#[46]⟩] W fun e W' => e = .returned (.tuple #[.string x, .string y, .bool true]) ∧ Below W.heap.size W W')
   (h2 : ∀ W, Below w.heap.size w W → Calls Tryz.prog 88 #[.string (x ++ y)] W fun e W' => e = .returned (.string n) ∧ Below W.heap.size W W')
   (h3 : ∀ W, Below w.heap.size w W → Calls Tryz.prog 86 #[.int .i64 y.size] W fun e W' => e = .returned (.string d) ∧ Below W.heap.size W W')
   (h4 : ∀ W, Below w.heap.size w W → Calls Tryz.prog 64 #[.string x, .func (.func 89) #[] #[]] W fun e W' => e = .returned (.bool false) ∧ Below W.heap.size W W')
   : Calls Tryz.prog 41 #[.string s] w fun e W' => e = .returned (.tuple #[.string n, .string d, .bool false]) ∧ Below w.heap.size w W' := by
 have O := Lib.hid (And.intro h1 (And.intro h2 (And.intro h3 (h4)))); clear h1 h2 h3 h4
 go_enter Tryz.func41, Tryz.ntmps41
 have HB := Lib.hid (Below.refl w.heap.size w)
 go_wp2_with fail
 refine (O.out.1 _ HB.out).mono ?_
 rintro e w1 ⟨rfl, b⟩
 have HN := Lib.hid (HB.out.trans (b.mono HB.out.size)); clear HB b; have HB := HN; clear HN
 go_wp2_with fail
 refine (O.out.2.1 _ HB.out).mono ?_
 rintro e w2 ⟨rfl, b⟩
 have HN := Lib.hid (HB.out.trans (b.mono HB.out.size)); clear HB b; have HB := HN; clear HN
 go_wp2_with fail
 refine (O.out.2.2.1 _ HB.out).mono ?_
 rintro e w3 ⟨rfl, b⟩
 have HN := Lib.hid (HB.out.trans (b.mono HB.out.size)); clear HB b; have HB := HN; clear HN
 go_wp2_with fail
 refine (O.out.2.2.2 _ HB.out).mono ?_
 rintro e w4 ⟨rfl, b⟩
 have HN := Lib.hid (HB.out.trans (b.mono HB.out.size)); clear HB b; have HB := HN; clear HN
 go_wp2
 go_ret3
 exact ⟨rfl, HB.out⟩
theorem fr_nyy (s x0 y0 x y n d : ByteArray) (g : Bool) (w : World) (s1 : ¬ (9223372036854775807 : Int) < (x.size : Int) + (y.size : Int))
   (h1 : ∀ W, Below w.heap.size w W → Calls Tryz.prog 16 #[.string s, .string ⟨#[46]⟩] W fun e W' => e = .returned (.tuple #[.string x0, .string y0, .bool false]) ∧ Below W.heap.size W W')
   (h2 : ∀ W, Below w.heap.size w W → Calls Tryz.prog 16 #[.string s, .string ⟨#[47]⟩] W fun e W' => e = .returned (.tuple #[.string x, .string y, .bool true]) ∧ Below W.heap.size W W')
   (h3 : ∀ W, Below w.heap.size w W → Calls Tryz.prog 88 #[.string x] W fun e W' => e = .returned (.string n) ∧ Below W.heap.size W W')
   (h4 : ∀ W, Below w.heap.size w W → Calls Tryz.prog 88 #[.string y] W fun e W' => e = .returned (.string d) ∧ Below W.heap.size W W')
   (h5 : ∀ W, Below w.heap.size w W → Calls Tryz.prog 64 #[.string x, .func (.func 89) #[] #[]] W fun e W' => e = .returned (.bool true) ∧ Below W.heap.size W W')
   (h6 : ∀ W, Below w.heap.size w W → Calls Tryz.prog 64 #[.string y, .func (.func 89) #[] #[]] W fun e W' => e = .returned (.bool g) ∧ Below W.heap.size W W')
   : Calls Tryz.prog 41 #[.string s] w fun e W' => e = .returned (.tuple #[.string n, .string d, .bool g]) ∧ Below w.heap.size w W' := by
 have O := Lib.hid (And.intro h1 (And.intro h2 (And.intro h3 (And.intro h4 (And.intro h5 (h6)))))); clear h1 h2 h3 h4 h5 h6
 go_enter Tryz.func41, Tryz.ntmps41
 have HB := Lib.hid (Below.refl w.heap.size w)
 go_wp2_with fail
 refine (O.out.1 _ HB.out).mono ?_
 rintro e w1 ⟨rfl, b⟩
 have HN := Lib.hid (HB.out.trans (b.mono HB.out.size)); clear HB b; have HB := HN; clear HN
 go_wp2_with fail
 refine (O.out.2.1 _ HB.out).mono ?_
 rintro e w2 ⟨rfl, b⟩
 have HN := Lib.hid (HB.out.trans (b.mono HB.out.size)); clear HB b; have HB := HN; clear HN
 go_wp2_with fail
 refine (O.out.2.2.1 _ HB.out).mono ?_
 rintro e w3 ⟨rfl, b⟩
 have HN := Lib.hid (HB.out.trans (b.mono HB.out.size)); clear HB b; have HB := HN; clear HN
 go_wp2_with fail
 refine (O.out.2.2.2.1 _ HB.out).mono ?_
 rintro e w4 ⟨rfl, b⟩
 have HN := Lib.hid (HB.out.trans (b.mono HB.out.size)); clear HB b; have HB := HN; clear HN
 go_wp2_with fail
 refine (O.out.2.2.2.2.1 _ HB.out).mono ?_
 rintro e w5 ⟨rfl, b⟩
 have HN := Lib.hid (HB.out.trans (b.mono HB.out.size)); clear HB b; have HB := HN; clear HN
 go_wp2_with fail
 refine (O.out.2.2.2.2.2 _ HB.out).mono ?_
 rintro e w6 ⟨rfl, b⟩
 have HN := Lib.hid (HB.out.trans (b.mono HB.out.size)); clear HB b; have HB := HN; clear HN
 go_wp2
 go_ret3
 exact ⟨rfl, HB.out⟩
theorem fr_nyn (s x0 y0 x y n d : ByteArray) (g : Bool) (w : World) (s1 : ¬ (9223372036854775807 : Int) < (x.size : Int) + (y.size : Int))
   (h1 : ∀ W, Below w.heap.size w W → Calls Tryz.prog 16 #[.string s, .string ⟨#[46]⟩] W fun e W' => e = .returned (.tuple #[.string x0, .string y0, .bool false]) ∧ Below W.heap.size W W')
   (h2 : ∀ W, Below w.heap.size w W → Calls Tryz.prog 16 #[.string s, .string ⟨#[47]⟩] W fun e W' => e = .returned (.tuple #[.string x, .string y, .bool true]) ∧ Below W.heap.size W W')
   (h3 : ∀ W, Below w.heap.size w W → Calls Tryz.prog 88 #[.string x] W fun e W' => e = .returned (.string n) ∧ Below W.heap.size W W')
   (h4 : ∀ W, Below w.heap.size w W → Calls Tryz.prog 88 #[.string y] W fun e W' => e = .returned (.string d) ∧ Below W.heap.size W W')
   (h5 : ∀ W, Below w.heap.size w W → Calls Tryz.prog 64 #[.string x, .func (.func 89) #[] #[]] W fun e W' => e = .returned (.bool false) ∧ Below W.heap.size W W')
   : Calls Tryz.prog 41 #[.string s] w fun e W' => e = .returned (.tuple #[.string n, .string d, .bool false]) ∧ Below w.heap.size w W' := by
 have O := Lib.hid (And.intro h1 (And.intro h2 (And.intro h3 (And.intro h4 (h5))))); clear h1 h2 h3 h4 h5
 go_enter Tryz.func41, Tryz.ntmps41
 have HB := Lib.hid (Below.refl w.heap.size w)
 go_wp2_with fail
 refine (O.out.1 _ HB.out).mono ?_
 rintro e w1 ⟨rfl, b⟩
 have HN := Lib.hid (HB.out.trans (b.mono HB.out.size)); clear HB b; have HB := HN; clear HN
 go_wp2_with fail
 refine (O.out.2.1 _ HB.out).mono ?_
 rintro e w2 ⟨rfl, b⟩
 have HN := Lib.hid (HB.out.trans (b.mono HB.out.size)); clear HB b; have HB := HN; clear HN
 go_wp2_with fail
 refine (O.out.2.2.1 _ HB.out).mono ?_
 rintro e w3 ⟨rfl, b⟩
 have HN := Lib.hid (HB.out.trans (b.mono HB.out.size)); clear HB b; have HB := HN; clear HN
 go_wp2_with fail
 refine (O.out.2.2.2.1 _ HB.out).mono ?_
 rintro e w4 ⟨rfl, b⟩
 have HN := Lib.hid (HB.out.trans (b.mono HB.out.size)); clear HB b; have HB := HN; clear HN
 go_wp2_with fail
 refine (O.out.2.2.2.2 _ HB.out).mono ?_
 rintro e w5 ⟨rfl, b⟩
 have HN := Lib.hid (HB.out.trans (b.mono HB.out.size)); clear HB b; have HB := HN; clear HN
 go_wp2
 go_ret3
 exact ⟨rfl, HB.out⟩
theorem fr_nny (s x0 y0 x y n d : ByteArray) (g : Bool) (w : World) (s1 : ¬ (9223372036854775807 : Int) < (x.size : Int) + (y.size : Int))
   (h1 : ∀ W, Below w.heap.size w W → Calls Tryz.prog 16 #[.string s, .string ⟨#[46]⟩] W fun e W' => e = .returned (.tuple #[.string x0, .string y0, .bool false]) ∧ Below W.heap.size W W')
   (h2 : ∀ W, Below w.heap.size w W → Calls Tryz.prog 16 #[.string s, .string ⟨#[47]⟩] W fun e W' => e = .returned (.tuple #[.string x, .string y, .bool false]) ∧ Below W.heap.size W W')
   (h3 : ∀ W, Below w.heap.size w W → Calls Tryz.prog 88 #[.string x] W fun e W' => e = .returned (.string n) ∧ Below W.heap.size W W')
   (h4 : ∀ W, Below w.heap.size w W → Calls Tryz.prog 88 #[.string ⟨#[49]⟩] W fun e W' => e = .returned (.string d) ∧ Below W.heap.size W W')
   (h5 : ∀ W, Below w.heap.size w W → Calls Tryz.prog 64 #[.string x, .func (.func 89) #[] #[]] W fun e W' => e = .returned (.bool true) ∧ Below W.heap.size W W')
   (h6 : ∀ W, Below w.heap.size w W → Calls Tryz.prog 64 #[.string ⟨#[49]⟩, .func (.func 89) #[] #[]] W fun e W' => e = .returned (.bool g) ∧ Below W.heap.size W W')
   : Calls Tryz.prog 41 #[.string s] w fun e W' => e = .returned (.tuple #[.string n, .string d, .bool g]) ∧ Below w.heap.size w W' := by
 have O := Lib.hid (And.intro h1 (And.intro h2 (And.intro h3 (And.intro h4 (And.intro h5 (h6)))))); clear h1 h2 h3 h4 h5 h6
 go_enter Tryz.func41, Tryz.ntmps41
 have HB := Lib.hid (Below.refl w.heap.size w)
 go_wp2_with fail
 refine (O.out.1 _ HB.out).mono ?_
 rintro e w1 ⟨rfl, b⟩
 have HN := Lib.hid (HB.out.trans (b.mono HB.out.size)); clear HB b; have HB := HN; clear HN
 go_wp2_with fail
 refine (O.out.2.1 _ HB.out).mono ?_
 rintro e w2 ⟨rfl, b⟩
 have HN := Lib.hid (HB.out.trans (b.mono HB.out.size)); clear HB b; have HB := HN; clear HN
 go_wp2_with fail
 refine (O.out.2.2.1 _ HB.out).mono ?_
 rintro e w3 ⟨rfl, b⟩
 have HN := Lib.hid (HB.out.trans (b.mono HB.out.size)); clear HB b; have HB := HN; clear HN
 go_wp2_with fail
 refine (O.out.2.2.2.1 _ HB.out).mono ?_
 rintro e w4 ⟨rfl, b⟩
 have HN := Lib.hid (HB.out.trans (b.mono HB.out.size)); clear HB b; have HB := HN; clear HN
 go_wp2_with fail
 refine (O.out.2.2.2.2.1 _ HB.out).mono ?_
 rintro e w5 ⟨rfl, b⟩
 have HN := Lib.hid (HB.out.trans (b.mono HB.out.size)); clear HB b; have HB := HN; clear HN
 go_wp2_with fail
 refine (O.out.2.2.2.2.2 _ HB.out).mono ?_
 rintro e w6 ⟨rfl, b⟩
 have HN := Lib.hid (HB.out.trans (b.mono HB.out.size)); clear HB b; have HB := HN; clear HN
 go_wp2
 go_ret3
 exact ⟨rfl, HB.out⟩
theorem fr_nnn (s x0 y0 x y n d : ByteArray) (g : Bool) (w : World) (s1 : ¬ (9223372036854775807 : Int) < (x.size : Int) + (y.size : Int))
   (h1 : ∀ W, Below w.heap.size w W → Calls Tryz.prog 16 #[.string s, .string ⟨#[46]⟩] W fun e W' => e = .returned (.tuple #[.string x0, .string y0, .bool false]) ∧ Below W.heap.size W W')
   (h2 : ∀ W, Below w.heap.size w W → Calls Tryz.prog 16 #[.string s, .string ⟨#[47]⟩] W fun e W' => e = .returned (.tuple #[.string x, .string y, .bool false]) ∧ Below W.heap.size W W')
   (h3 : ∀ W, Below w.heap.size w W → Calls Tryz.prog 88 #[.string x] W fun e W' => e = .returned (.string n) ∧ Below W.heap.size W W')
   (h4 : ∀ W, Below w.heap.size w W → Calls Tryz.prog 88 #[.string ⟨#[49]⟩] W fun e W' => e = .returned (.string d) ∧ Below W.heap.size W W')
   (h5 : ∀ W, Below w.heap.size w W → Calls Tryz.prog 64 #[.string x, .func (.func 89) #[] #[]] W fun e W' => e = .returned (.bool false) ∧ Below W.heap.size W W')
   : Calls Tryz.prog 41 #[.string s] w fun e W' => e = .returned (.tuple #[.string n, .string d, .bool false]) ∧ Below w.heap.size w W' := by
 have O := Lib.hid (And.intro h1 (And.intro h2 (And.intro h3 (And.intro h4 (h5))))); clear h1 h2 h3 h4 h5
 go_enter Tryz.func41, Tryz.ntmps41
 have HB := Lib.hid (Below.refl w.heap.size w)
 go_wp2_with fail
 refine (O.out.1 _ HB.out).mono ?_
 rintro e w1 ⟨rfl, b⟩
 have HN := Lib.hid (HB.out.trans (b.mono HB.out.size)); clear HB b; have HB := HN; clear HN
 go_wp2_with fail
 refine (O.out.2.1 _ HB.out).mono ?_
 rintro e w2 ⟨rfl, b⟩
 have HN := Lib.hid (HB.out.trans (b.mono HB.out.size)); clear HB b; have HB := HN; clear HN
 go_wp2_with fail
 refine (O.out.2.2.1 _ HB.out).mono ?_
 rintro e w3 ⟨rfl, b⟩
 have HN := Lib.hid (HB.out.trans (b.mono HB.out.size)); clear HB b; have HB := HN; clear HN
 go_wp2_with fail
 refine (O.out.2.2.2.1 _ HB.out).mono ?_
 rintro e w4 ⟨rfl, b⟩
 have HN := Lib.hid (HB.out.trans (b.mono HB.out.size)); clear HB b; have HB := HN; clear HN
 go_wp2_with fail
 refine (O.out.2.2.2.2 _ HB.out).mono ?_
 rintro e w5 ⟨rfl, b⟩
 have HN := Lib.hid (HB.out.trans (b.mono HB.out.size)); clear HB b; have HB := HN; clear HN
 go_wp2
 go_ret3
 exact ⟨rfl, HB.out⟩
theorem parse_core (s z n d m r : ByteArray) (g : Bool) (x : Int) (w : World) (s1 : ¬ (90 : Int) < s.size)
   (h1 : ∀ W, Below w.heap.size w W → Calls Tryz.prog 18 #[.string s, .string ⟨#[45]⟩] W fun e W' => e = .returned (.tuple #[.string z, .bool g]) ∧ Below W.heap.size W W')
   (h2 : ∀ W, Below w.heap.size w W → Calls Tryz.prog 41 #[.string z] W fun e W' => e = .returned (.tuple #[.string n, .string d, .bool true]) ∧ Below W.heap.size W W')
   (h3 : ∀ W, Below w.heap.size w W → Calls Tryz.prog 42 #[.string n, .bool g] W fun e W' => e = .returned (.string m) ∧ Below W.heap.size W W')
   (h4 : ∀ W, Below w.heap.size w W → Calls Tryz.prog 23 #[.string m, .string d] W fun e W' => e = .returned (.tuple #[.string r, .int .i64 x]) ∧ Below W.heap.size W W')
   : Calls Tryz.prog 13 #[.string s] w fun e W' => e = .returned (.tuple #[.string r, .int .i64 x]) ∧ Below w.heap.size w W' := by
 have O := Lib.hid (And.intro h1 (And.intro h2 (And.intro h3 (h4)))); clear h1 h2 h3 h4
 go_enter Tryz.func13, Tryz.ntmps13
 have HB := Lib.hid (Below.refl w.heap.size w)
 go_wp2_with fail
 refine (O.out.1 _ HB.out).mono ?_
 rintro e w1 ⟨rfl, b⟩
 have HN := Lib.hid (HB.out.trans (b.mono HB.out.size)); clear HB b; have HB := HN; clear HN
 go_wp2_with fail
 refine (O.out.2.1 _ HB.out).mono ?_
 rintro e w2 ⟨rfl, b⟩
 have HN := Lib.hid (HB.out.trans (b.mono HB.out.size)); clear HB b; have HB := HN; clear HN
 go_wp2_with fail
 refine (O.out.2.2.1 _ HB.out).mono ?_
 rintro e w3 ⟨rfl, b⟩
 have HN := Lib.hid (HB.out.trans (b.mono HB.out.size)); clear HB b; have HB := HN; clear HN
 go_wp2_with fail
 refine (O.out.2.2.2 _ HB.out).mono ?_
 rintro e w4 ⟨rfl, b⟩
 have HN := Lib.hid (HB.out.trans (b.mono HB.out.size)); clear HB b; have HB := HN; clear HN
 go_wp2
 go_ret2
 exact ⟨rfl, HB.out⟩
theorem feet_core (n z q r f i t : ByteArray) (g : Bool) (w : World) (s1 : f.size ≤ 300) (s2 : i.size ≤ 100) (s3 : r.size ≤ 100)
   (h1 : ∀ W, Below w.heap.size w W → Calls Tryz.prog 18 #[.string n, .string ⟨#[45]⟩] W fun e W' => e = .returned (.tuple #[.string z, .bool g]) ∧ Below W.heap.size W W')
   (h2 : ∀ W, Below w.heap.size w W → Calls Tryz.prog 62 #[.string z, .string ⟨#[49, 50]⟩] W fun e W' => e = .returned (.tuple #[.string q, .string r, .int .i64 0]) ∧ Below W.heap.size W W')
   (h3 : ∀ W, Below w.heap.size w W → Calls Tryz.prog 62 #[.string q, .string ⟨#[49, 50]⟩] W fun e W' => e = .returned (.tuple #[.string f, .string i, .int .i64 0]) ∧ Below W.heap.size W W')
   (h4 : ∀ W, Below w.heap.size w W → Calls Tryz.prog 42 #[.string (f ++ ⟨#[39]⟩ ++ i ++ ⟨#[34]⟩ ++ r), .bool g] W fun e W' => e = .returned (.string t) ∧ Below W.heap.size W W')
   : Calls Tryz.prog 53 #[.string n] w fun e W' => e = .returned (.tuple #[.string t, .int .i64 0]) ∧ Below w.heap.size w W' := by
 have O := Lib.hid (And.intro h1 (And.intro h2 (And.intro h3 (h4)))); clear h1 h2 h3 h4
 have n1 : ¬ (9223372036854775807 : Int) < (f.size : Int) + 1 := by omega
 have n2 : ¬ (9223372036854775807 : Int) < (f.size : Int) + 1 + (i.size : Int) := by omega
 have n3 : ¬ (9223372036854775807 : Int) < (f.size : Int) + 1 + (i.size : Int) + 1 := by omega
 have n4 : ¬ (9223372036854775807 : Int) < (f.size : Int) + 1 + (i.size : Int) + 1 + (r.size : Int) := by omega
 have m1 : ¬ 9223372036854775807 < f.size + 1 := by omega
 have m2 : ¬ 9223372036854775807 < f.size + 1 + i.size := by omega
 have m3 : ¬ 9223372036854775807 < f.size + 1 + i.size + 1 := by omega
 have m4 : ¬ 9223372036854775807 < f.size + 1 + i.size + 1 + r.size := by omega
 clear s1 s2 s3
 go_enter Tryz.func53, Tryz.ntmps53
 have HB := Lib.hid (Below.refl w.heap.size w)
 go_wp2_with fail
 refine (O.out.1 _ HB.out).mono ?_
 rintro e w1 ⟨rfl, b⟩
 have HN := Lib.hid (HB.out.trans (b.mono HB.out.size)); clear HB b; have HB := HN; clear HN
 go_wp2_with fail
 refine (O.out.2.1 _ HB.out).mono ?_
 rintro e w2 ⟨rfl, b⟩
 have HN := Lib.hid (HB.out.trans (b.mono HB.out.size)); clear HB b; have HB := HN; clear HN
 go_wp2_with fail
 refine (O.out.2.2.1 _ HB.out).mono ?_
 rintro e w3 ⟨rfl, b⟩
 have HN := Lib.hid (HB.out.trans (b.mono HB.out.size)); clear HB b; have HB := HN; clear HN
 go_wp2_with fail
 refine (O.out.2.2.2 _ HB.out).mono ?_
 rintro e w4 ⟨rfl, b⟩
 have HN := Lib.hid (HB.out.trans (b.mono HB.out.size)); clear HB b; have HB := HN; clear HN
 go_wp2
 go_ret2
 exact ⟨rfl, HB.out⟩
theorem feetQ_core (a u n t : ByteArray) (x : Int) (w : World)
   (h1 : ∀ W, Below w.heap.size w W → Calls Tryz.prog 52 #[.string a] W fun e W' => e = .returned (.int .i64 0) ∧ Below W.heap.size W W')
   (h2 : ∀ W, Below w.heap.size w W → Calls Tryz.prog 23 #[.string a, .string ⟨#[49, 50, 55, 47, 54, 48]⟩] W fun e W' => e = .returned (.tuple #[.string u, .int .i64 0]) ∧ Below W.heap.size W W')
   (h3 : ∀ W, Below w.heap.size w W → Calls Tryz.prog 39 #[.string u] W fun e W' => e = .returned (.tuple #[.string n, .int .i64 0]) ∧ Below W.heap.size W W')
   (h4 : ∀ W, Below w.heap.size w W → Calls Tryz.prog 53 #[.string n] W fun e W' => e = .returned (.tuple #[.string t, .int .i64 x]) ∧ Below W.heap.size W W')
   : Calls Tryz.prog 21 #[.string a] w fun e W' => e = .returned (.tuple #[.string t, .int .i64 x]) ∧ Below w.heap.size w W' := by
 have O := Lib.hid (And.intro h1 (And.intro h2 (And.intro h3 (h4)))); clear h1 h2 h3 h4
 go_enter Tryz.func21, Tryz.ntmps21
 have HB := Lib.hid (Below.refl w.heap.size w)
 go_wp2_with fail
 refine (O.out.1 _ HB.out).mono ?_
 rintro e w1 ⟨rfl, b⟩
 have HN := Lib.hid (HB.out.trans (b.mono HB.out.size)); clear HB b; have HB := HN; clear HN
 go_wp2_with fail
 refine (O.out.2.1 _ HB.out).mono ?_
 rintro e w2 ⟨rfl, b⟩
 have HN := Lib.hid (HB.out.trans (b.mono HB.out.size)); clear HB b; have HB := HN; clear HN
 go_wp2_with fail
 refine (O.out.2.2.1 _ HB.out).mono ?_
 rintro e w3 ⟨rfl, b⟩
 have HN := Lib.hid (HB.out.trans (b.mono HB.out.size)); clear HB b; have HB := HN; clear HN
 go_wp2_with fail
 refine (O.out.2.2.2 _ HB.out).mono ?_
 rintro e w4 ⟨rfl, b⟩
 have HN := Lib.hid (HB.out.trans (b.mono HB.out.size)); clear HB b; have HB := HN; clear HN
 go_wp2
 go_ret2
 exact ⟨rfl, HB.out⟩
theorem pfeet_core (s n r : ByteArray) (x : Int) (w : World) (s1 : ¬ (90 : Int) < s.size)
   (h1 : ∀ W, Below w.heap.size w W → Calls Tryz.prog 54 #[.string s] W fun e W' => e = .returned (.tuple #[.string n, .bool true]) ∧ Below W.heap.size W W')
   (h2 : ∀ W, Below w.heap.size w W → Calls Tryz.prog 55 #[.string n, .string ⟨#[49, 50, 55, 47, 54, 48]⟩] W fun e W' => e = .returned (.tuple #[.string r, .int .i64 x]) ∧ Below W.heap.size W W')
   : Calls Tryz.prog 22 #[.string s] w fun e W' => e = .returned (.tuple #[.string r, .int .i64 x]) ∧ Below w.heap.size w W' := by
 have O := Lib.hid (And.intro h1 (h2)); clear h1 h2
 go_enter Tryz.func22, Tryz.ntmps22
 have HB := Lib.hid (Below.refl w.heap.size w)
 go_wp2_with fail
 refine (O.out.1 _ HB.out).mono ?_
 rintro e w1 ⟨rfl, b⟩
 have HN := Lib.hid (HB.out.trans (b.mono HB.out.size)); clear HB b; have HB := HN; clear HN
 go_wp2_with fail
 refine (O.out.2 _ HB.out).mono ?_
 rintro e w2 ⟨rfl, b⟩
 have HN := Lib.hid (HB.out.trans (b.mono HB.out.size)); clear HB b; have HB := HN; clear HN
 go_wp2
 go_ret2
 exact ⟨rfl, HB.out⟩
theorem dec_core (n z t r A B : ByteArray) (g : Bool) (p k m : Nat) (w : World) (p0 : ((p : Int) == 0) = false) (pk : k = p + 1 - z.size) (pp : p ≤ 1000) (zz : z.size ≤ 1000) (rz : r.size = k) (em : m + p = r.size + z.size) (f2 : (r ++ z).extract 0 m = A) (f3 : (r ++ z).extract m (r ++ z).size = B) (fs : (r ++ z).size = r.size + z.size) (sA : A.size ≤ 3000) (sB : B.size ≤ 3000)
   (h1 : ∀ W, Below w.heap.size w W → Calls Tryz.prog 18 #[.string n, .string ⟨#[45]⟩] W fun e W' => e = .returned (.tuple #[.string z, .bool g]) ∧ Below W.heap.size W W')
   (h2 : ∀ j : Int, j = k → ∀ W, Below w.heap.size w W → Calls Tryz.prog 19 #[.string ⟨#[48]⟩, .int .i64 j] W fun e W' => e = .returned (.string r) ∧ Below W.heap.size W W')
   (h3 : ∀ W, Below w.heap.size w W → Calls Tryz.prog 42 #[.string (A ++ ⟨#[46]⟩ ++ B), .bool g] W fun e W' => e = .returned (.string t) ∧ Below W.heap.size W W')
   : Calls Tryz.prog 40 #[.string n, .int .i64 p] w fun e W' => e = .returned (.string t) ∧ Below w.heap.size w W' := by
 have O := Lib.hid (And.intro h1 (And.intro h2 (h3))); clear h1 h2 h3
 have hw : wrap64 ((p : Int) + 1 - z.size) = p + 1 - z.size := by unfold wrap64; omega
 have n1 : ¬ (9223372036854775807 : Int) < (r.size : Int) + (z.size : Int) := by omega
 have hm : (r.size : Int) + (z.size : Int) - (p : Int) = (m : Int) := by omega
 have g0 : (0 : Int) ≤ (m : Int) := by omega
 have g1 : (m : Int) ≤ ((r ++ z).size : Int) := by rw [fs]; omega
 have n2 : ¬ (9223372036854775807 : Int) < (A.size : Int) + 1 := by omega
 have n3 : ¬ (9223372036854775807 : Int) < (A.size : Int) + 1 + (B.size : Int) := by omega
 have m2 : ¬ 9223372036854775807 < A.size + 1 := by omega
 have m3 : ¬ 9223372036854775807 < A.size + 1 + B.size := by omega
 have PK := Lib.hid pk; have RZ := Lib.hid rz; clear pk rz em fs sA sB
 go_enter Tryz.func40, Tryz.ntmps40
 have HB := Lib.hid (Below.refl w.heap.size w)
 go_wp2_with fail
 refine (O.out.1 _ HB.out).mono ?_
 rintro e w1 ⟨rfl, b⟩
 have HN := Lib.hid (HB.out.trans (b.mono HB.out.size)); clear HB b; have HB := HN; clear HN
 go_wp2_with fail
 refine (O.out.2.1 _ (by have := PK.out; omega) _ HB.out).mono ?_
 rintro e w2 ⟨rfl, b⟩
 have HN := Lib.hid (HB.out.trans (b.mono HB.out.size)); clear HB b; have HB := HN; clear HN
 go_wp2
 have HD := Lib.hid HB.out.drew; clear HB; have HB := HD; clear HD
 generalize r ++ z = q at *
 go_region_held3 (fun _ => True) (first | trivial | (go_keep; done)) (first | (go_at_call 42; refine Calls.mono (O.out.2.2 _ HB.out) ?_; rintro e w3 ⟨rfl, b⟩; have HN := Lib.hid (HB.out.trans (b.mono HB.out.size)); clear HB b; have HB := HN; clear HN))
 go_wp2
 go_ret
 exact ⟨rfl, HB.out⟩
end Go.Proofs.YtkjhaengllpaoaaGreatDoor.T
namespace Go.Proofs.YtkjhaengllpaoaaGreatDoor.T
open Go.Proofs.YtkjhaengllpaoaaGreatDoor Go Go.Lib
def half : Rat := mkRat 1 2
theorem half_is : half + half = 1 := by decide +kernel
theorem half_pos : (0 : Rat) < half := by decide +kernel
def tw : Rat := mkRat 127 60
theorem tw_ne : tw ≠ 0 := by decide +kernel
theorem tw_pos : (0 : Rat) < tw := by decide +kernel
def pw (n : Nat) : Rat := (((tenTo n : Nat) : Int) : Rat)
theorem cast_pos {m : Nat} (h : 0 < m) : (0 : Rat) < (((m : Nat) : Int) : Rat) := by
 have := Rat.intCast_lt_intCast (a := 0) (b := (m : Int))
 rw [Rat.intCast_zero] at this
 exact this.2 (by omega)
theorem tenTo_pos' (n : Nat) : 0 < tenTo n := Nat.pow_pos (by decide)
theorem pw_pos (n : Nat) : 0 < pw n := cast_pos (tenTo_pos' n)
theorem pw_ne (n : Nat) : pw n ≠ 0 := fun e => by have := pw_pos n; rw [e] at this; exact Rat.lt_irrefl this
theorem pw_succ (n : Nat) : pw (n + 1) = pw n * 10 := by
 unfold pw
 rw [show tenTo (n + 1) = tenTo n * 10 from Nat.pow_succ .., Int.natCast_mul, Rat.intCast_mul]
 rfl
def nr (x : Rat) : Int := (x + half).num.fdiv (x + half).den
theorem fl_b (y : Rat) : ((y.num.fdiv y.den : Int) : Rat) ≤ y ∧ y < ((y.num.fdiv y.den : Int) : Rat) + 1 := by
 have hd : (0 : Int) < y.den := by have := y.den_nz; omega
 have e1 : y.num.fdiv y.den = y.num / (y.den : Int) := Int.fdiv_eq_ediv_of_nonneg _ (by omega)
 have h1 := Int.ediv_mul_le y.num (b := (y.den : Int)) (by omega)
 have h2 := Int.lt_ediv_add_one_mul_self y.num hd
 have e2 : ((y.num.fdiv y.den : Int) : Rat) + 1 = ((y.num.fdiv y.den + 1 : Int) : Rat) := by rw [Rat.intCast_add, Rat.intCast_one]
 rw [e2, e1, Rat.le_iff, Rat.lt_iff, Rat.num_intCast, Rat.den_intCast, Rat.num_intCast, Rat.den_intCast]
 constructor
 · show _ ≤ y.num * ((1 : Nat) : Int); omega
 · show y.num * ((1 : Nat) : Int) < _; omega
theorem nr_le (x : Rat) : ((nr x : Int) : Rat) ≤ x + half := (fl_b _).1
theorem nr_lt (x : Rat) : x + half < ((nr x : Int) : Rat) + 1 := (fl_b _).2
theorem nr_uniq {x : Rat} {z : Int} (h1 : (z : Rat) ≤ x + half) (h2 : x + half < (z : Rat) + 1) : nr x = z := by
 have a := nr_le x
 have b := nr_lt x
 have c1 : ((nr x : Int) : Rat) < ((z + 1 : Int) : Rat) := by rw [Rat.intCast_add, Rat.intCast_one]; grind
 have c2 : (z : Rat) < ((nr x + 1 : Int) : Rat) := by rw [Rat.intCast_add, Rat.intCast_one]; grind
 rw [Rat.intCast_lt_intCast] at c1 c2
 omega
theorem nr_mono {x y : Rat} (h : x ≤ y) : nr x ≤ nr y := by
 have a := nr_le x
 have b := nr_lt y
 have c1 : ((nr x : Int) : Rat) < ((nr y + 1 : Int) : Rat) := by rw [Rat.intCast_add, Rat.intCast_one]; grind
 rw [Rat.intCast_lt_intCast] at c1
 omega
theorem nr_int (z : Int) : nr (z : Rat) = z := nr_uniq (by have := half_pos; grind) (by have := half_pos; have := half_is; grind)
theorem near_b {a v P : Rat} (hv : 0 < v) (hP : P * v = 1) : ((nr (a * P) : Int) : Rat) * v - a ≤ v * half ∧ 0 - v * half < ((nr (a * P) : Int) : Rat) * v - a := by
 have h1 := Rat.mul_le_mul_of_nonneg_right (nr_le (a * P)) (Rat.le_of_lt hv)
 have h2 := Rat.mul_lt_mul_of_pos_right (nr_lt (a * P)) hv
 have hi := half_is
 generalize ((nr (a * P) : Int) : Rat) = u at *
 have e1 : (a * P + half) * v = a + half * v := by grind
 rw [e1] at h1 h2
 generalize half = f at *
 constructor
 · grind
 · have : (u + 1) * v = u * v + v := by grind
   have : v = v * f + v * f := by grind
   grind
def nuZ (l : List UInt8) : Int := if isNeg l then -(nuV (szL l) : Int) else (nuV (szL l) : Int)
def prV (l : List UInt8) : Rat := ((nuZ l : Int) : Rat) / (((deV (szL l) : Nat) : Int) : Rat)
theorem cast_ne {d : Nat} (h : d ≠ 0) : (((d : Nat) : Int) : Rat) ≠ 0 := fun e => by have := cast_pos (Nat.pos_of_ne_zero h); rw [e] at this; exact Rat.lt_irrefl this
theorem prV_sg {b : Bool} {l : List UInt8} {m d : Nat} (h : isNeg l = false) (h2 : nuV l = m) (h3 : deV l = d) : nuZ (sg b l) = (if b then -(m : Int) else (m : Int)) ∧ deV (szL (sg b l)) = d ∧ szL (sg b l) = l := by
 obtain ⟨e1, e2⟩ := sg_neg (b := b) h
 unfold nuZ
 rw [e1, e2, h2, h3]
 exact ⟨rfl, rfl, rfl⟩
theorem sign_abs (z : Int) : (if decide (z < 0) = true then -(z.natAbs : Int) else (z.natAbs : Int)) = z := by
 by_cases h : z < 0
 · rw [decide_eq_true h, if_pos rfl]; omega
 · rw [decide_eq_false h, if_neg (by decide)]; omega
theorem decT_val (n : Nat) (z : Int) : frO (szL (decT n z)) = true ∧ deV (szL (decT n z)) ≠ 0 ∧ prV (decT n z) = (z : Rat) / pw n := by
 obtain ⟨f1, f2, f3⟩ := decU_fr n z.natAbs
 obtain ⟨e1, e2, e3⟩ := prV_sg (b := decide (z < 0)) (decU_neg n z.natAbs) f2 f3
 unfold decT prV
 rw [e1, e2, e3, sign_abs]
 refine ⟨f1, ?_, rfl⟩
 have := Nat.pow_pos (n := n) (show 0 < 10 by decide)
 omega
theorem num_div (q : Rat) : (q.num : Rat) / ((q.den : Int) : Rat) = q := by rw [← Rat.divInt_eq_div]; exact Rat.num_divInt_den q
theorem numT_val (k : Nat) (q : Rat) : frO (szL (sg (decide (q.num < 0)) (numU k q.num.natAbs q.den))) = true ∧ deV (szL (sg (decide (q.num < 0)) (numU k q.num.natAbs q.den))) ≠ 0 ∧ prV (sg (decide (q.num < 0)) (numU k q.num.natAbs q.den)) = q := by
 obtain ⟨f1, f2, f3⟩ := numU_fr k q.num.natAbs q.den
 obtain ⟨e1, e2, e3⟩ := prV_sg (b := decide (q.num < 0)) (numU_neg k q.num.natAbs q.den) f2 f3
 unfold prV
 rw [e1, e2, e3, sign_abs]
 exact ⟨f1, q.den_nz, num_div q⟩
theorem potT_val (k : Nat) (hk : 0 < k) (z : Int) : frO (szL (sg (decide (z < 0)) (potU z.natAbs k))) = true ∧ deV (szL (sg (decide (z < 0)) (potU z.natAbs k))) ≠ 0 ∧ prV (sg (decide (z < 0)) (potU z.natAbs k)) = (z : Rat) := by
 obtain ⟨f1, f2, f3⟩ := potU_fr z.natAbs k hk
 obtain ⟨e1, e2, e3⟩ := prV_sg (b := decide (z < 0)) (potU_neg z.natAbs k) f2 f3
 have hp : 0 < 10 ^ k := Nat.pow_pos (by decide)
 unfold prV
 rw [e1, e2, e3]
 refine ⟨f1, by omega, ?_⟩
 have e : (if decide (z < 0) = true then -((z.natAbs * 10 ^ k : Nat) : Int) else ((z.natAbs * 10 ^ k : Nat) : Int)) = z * ((10 ^ k : Nat) : Int) := by
   have h := sign_abs z
   rw [Int.natCast_mul]
   by_cases hz : decide (z < 0) = true
   · rw [if_pos hz] at h ⊢; rw [← Int.neg_mul, h]
   · rw [if_neg hz] at h ⊢; rw [h]
 rw [e, Rat.intCast_mul]
 have hn := cast_ne (d := 10 ^ k) (by omega)
 generalize (((10 ^ k : Nat) : Int) : Rat) = d at *
 rw [Rat.mul_div_cancel hn]
end Go.Proofs.YtkjhaengllpaoaaGreatDoor.T
