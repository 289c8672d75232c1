/- Parts of the proof of the text YtmafghdgmdbpnaaGreatDoorQZR5. -/
import Derived.Shelf.Strconv.Atoi
import Derived.Shelf.Strconv.AtoiErrFast
import Derived.Shelf.Strconv.ParseIntEmpty
import Derived.Shelf.Strconv.AtoiFail
import Derived.Shelf.Strconv.Clone
import Derived.Shelf.Strconv.SyntaxError
import Derived.Shelf.LaysC
import Derived.Shelf.Strconv.ToError
import Derived.Shelf.Strconv.AtoiErr
import Derived.Shelf.Strconv.ErrVar
import Derived.Shelf.Strconv.Lower
import Derived.Shelf.Strconv.ParseUint10
import Derived.Shelf.Strconv.ParseUint10Empty
import Derived.Shelf.Strconv.ParseUint10Any
import Derived.Shelf.Strconv.ParseInt10
import Derived.Shelf.Strconv.AtoiLong
import Derived.Shelf.Strconv.AtoiInnerAll
import Derived.Shelf.Strconv.RangeError
import Derived.Shelf.Strconv.ToErrorRange
import Derived.Shelf.Strconv.AtoiAll
import Derived.Shelf.Strconv.ErrVarAll
import Derived.Ground.Names2Prog
import Derived.Shelf.Slices.SearchI
import Derived.Lib.AtoiAllCases
import Derived.Lib.SmallJoins
import Derived.Test.YtmafghdgmdbpnaaGreatDoorQZ1
import Derived.Test.YtmafghdgmdbpnaaGreatDoorQZ32
import Derived.Test.YtmafghdgmdbpnaaGreatDoorQZR2
set_option linter.all false
set_option maxRecDepth 100000
set_option maxHeartbeats 8000000
namespace Go.Proofs.YtmafghdgmdbpnaaGreatDoor
open Go.RowKit
theorem mul9 {x y : Int} (hx : -1000000000 < x ∧ x < 1000000000) (hy : -1000000000 < y ∧ y < 1000000000) : -1000000000000000000 < x * y ∧ x * y < 1000000000000000000 := by
 have h : (x * y).natAbs ≤ 999999999 * 999999999 := by
   rw [Int.natAbs_mul]; exact Nat.mul_le_mul (by omega) (by omega)
 omega
theorem radd_s (a b : ByteArray) (n d m c : Int) (r : ByteArray) (w : World) (hn : -1000000000 < n ∧ n < 1000000000) (hd : 0 < d ∧ d < 1000000000) (hm : -1000000000 < m ∧ m < 1000000000) (hc : 0 < c ∧ c < 1000000000)
   (h1 : CqB w 59 #[.string a] (.tuple #[.int .i64 n, .int .i64 d, .bool true]))
   (h2 : CqB w 59 #[.string b] (.tuple #[.int .i64 m, .int .i64 c, .bool true]))
   (h3 : CqB w 60 #[.int .i64 (n * c + m * d), .int .i64 (d * c)] (.string r)) :
   Calls Tryz.prog 57 #[.string a, .string b] w fun e W' => e = .returned (.tuple #[.string r, .int .i64 0]) ∧ Below w.heap.size w W' := by
 have z1 := mul9 hn ⟨by omega, hc.2⟩
 have z2 := mul9 hm ⟨by omega, hd.2⟩
 have z3 := mul9 (x := d) (y := c) ⟨by omega, hd.2⟩ ⟨by omega, hc.2⟩
 have C := Lib.hid ((And.intro h1 (And.intro h2 h3))); clear h1 h2 h3
 have B0 := Lib.hid (Below.refl w.heap.size w)
 go_enter Tryz.func57, Tryz.ntmps57
 go_wp2_with fail
 refine (C.out.1 _ B0.out).mono ?_
 rintro e w1 ⟨rfl, b⟩
 have B1 := Lib.hid (B0.out.trans (b.mono B0.out.size)); clear b B0
 go_wp2_with fail
 refine (C.out.2.1 _ B1.out).mono ?_
 rintro e w2 ⟨rfl, b⟩
 have B2 := Lib.hid (B1.out.trans (b.mono B1.out.size)); clear b B1
 go_wp2_with fail
 refine (C.out.2.2 _ B2.out).mono ?_
 rintro e w3 ⟨rfl, b⟩
 have B3 := Lib.hid (B2.out.trans (b.mono B2.out.size)); clear b B2
 go_wp2
 go_ret2
 exact ⟨rfl, B3.out⟩
theorem radd_e1f (a b p q r s : ByteArray) (n d m c : Int) (k : Bool) (x y : ByteArray) (f : Int) (w : World) (n1 : (f == 0) = false) (n2 : (f != 0) = true)
   (h1 : CqB w 59 #[.string a] (.tuple #[.int .i64 n, .int .i64 d, .bool false]))
   (h2 : CqB w 59 #[.string b] (.tuple #[.int .i64 m, .int .i64 c, .bool k]))
   (h3 : CqB w 61 #[.string a] (.tuple #[.string p, .string q]))
   (h4 : CqB w 61 #[.string b] (.tuple #[.string r, .string s]))
   (h5 : CqB w 66 #[.string p, .string s, .string r, .string q] (.tuple #[.string x, .string y, .int .i64 f])) :
   Calls Tryz.prog 57 #[.string a, .string b] w fun e W' => e = .returned (.tuple #[.string ⟨#[]⟩, .int .i64 f]) ∧ Below w.heap.size w W' := by
 have C := Lib.hid ((And.intro h1 (And.intro h2 (And.intro h3 (And.intro h4 h5))))); clear h1 h2 h3 h4 h5
 have B0 := Lib.hid (Below.refl w.heap.size w)
 go_enter Tryz.func57, Tryz.ntmps57
 go_wp2_with fail
 refine (C.out.1 _ B0.out).mono ?_
 rintro e w1 ⟨rfl, b⟩
 have B1 := Lib.hid (B0.out.trans (b.mono B0.out.size)); clear b B0
 go_wp2_with fail
 refine (C.out.2.1 _ B1.out).mono ?_
 rintro e w2 ⟨rfl, b⟩
 have B2 := Lib.hid (B1.out.trans (b.mono B1.out.size)); clear b B1
 go_wp2_with fail
 refine (C.out.2.2.1 _ B2.out).mono ?_
 rintro e w3 ⟨rfl, b⟩
 have B3 := Lib.hid (B2.out.trans (b.mono B2.out.size)); clear b B2
 go_wp2_with fail
 refine (C.out.2.2.2.1 _ B3.out).mono ?_
 rintro e w4 ⟨rfl, b⟩
 have B4 := Lib.hid (B3.out.trans (b.mono B3.out.size)); clear b B3
 go_wp2_with fail
 refine (C.out.2.2.2.2 _ B4.out).mono ?_
 rintro e w5 ⟨rfl, b⟩
 have B5 := Lib.hid (B4.out.trans (b.mono B4.out.size)); clear b B4
 go_wp2
 go_ret2
 exact ⟨rfl, B5.out⟩
theorem radd_e2f (a b p q r s : ByteArray) (n d m c : Int) (k : Bool) (x y z v : ByteArray) (f : Int) (w : World) (n1 : (f == 0) = false) (n2 : (f != 0) = true)
   (h1 : CqB w 59 #[.string a] (.tuple #[.int .i64 n, .int .i64 d, .bool false]))
   (h2 : CqB w 59 #[.string b] (.tuple #[.int .i64 m, .int .i64 c, .bool k]))
   (h3 : CqB w 61 #[.string a] (.tuple #[.string p, .string q]))
   (h4 : CqB w 61 #[.string b] (.tuple #[.string r, .string s]))
   (h5 : CqB w 66 #[.string p, .string s, .string r, .string q] (.tuple #[.string x, .string y, .int .i64 0]))
   (h6 : CqB w 66 #[.string q, .string s, .string ⟨#[49]⟩, .string ⟨#[49]⟩] (.tuple #[.string z, .string v, .int .i64 f])) :
   Calls Tryz.prog 57 #[.string a, .string b] w fun e W' => e = .returned (.tuple #[.string ⟨#[]⟩, .int .i64 f]) ∧ Below w.heap.size w W' := by
 have C := Lib.hid ((And.intro h1 (And.intro h2 (And.intro h3 (And.intro h4 (And.intro h5 h6)))))); clear h1 h2 h3 h4 h5 h6
 have B0 := Lib.hid (Below.refl w.heap.size w)
 go_enter Tryz.func57, Tryz.ntmps57
 go_wp2_with fail
 refine (C.out.1 _ B0.out).mono ?_
 rintro e w1 ⟨rfl, b⟩
 have B1 := Lib.hid (B0.out.trans (b.mono B0.out.size)); clear b B0
 go_wp2_with fail
 refine (C.out.2.1 _ B1.out).mono ?_
 rintro e w2 ⟨rfl, b⟩
 have B2 := Lib.hid (B1.out.trans (b.mono B1.out.size)); clear b B1
 go_wp2_with fail
 refine (C.out.2.2.1 _ B2.out).mono ?_
 rintro e w3 ⟨rfl, b⟩
 have B3 := Lib.hid (B2.out.trans (b.mono B2.out.size)); clear b B2
 go_wp2_with fail
 refine (C.out.2.2.2.1 _ B3.out).mono ?_
 rintro e w4 ⟨rfl, b⟩
 have B4 := Lib.hid (B3.out.trans (b.mono B3.out.size)); clear b B3
 go_wp2_with fail
 refine (C.out.2.2.2.2.1 _ B4.out).mono ?_
 rintro e w5 ⟨rfl, b⟩
 have B5 := Lib.hid (B4.out.trans (b.mono B4.out.size)); clear b B4
 go_wp2_with fail
 refine (C.out.2.2.2.2.2 _ B5.out).mono ?_
 rintro e w6 ⟨rfl, b⟩
 have B6 := Lib.hid (B5.out.trans (b.mono B5.out.size)); clear b B5
 go_wp2
 go_ret2
 exact ⟨rfl, B6.out⟩
theorem radd_e3f (a b p q r s : ByteArray) (n d m c : Int) (k : Bool) (x y z t : ByteArray) (f : Int) (w : World) (n1 : (f == 0) = false) (n2 : (f != 0) = true)
   (h1 : CqB w 59 #[.string a] (.tuple #[.int .i64 n, .int .i64 d, .bool false]))
   (h2 : CqB w 59 #[.string b] (.tuple #[.int .i64 m, .int .i64 c, .bool k]))
   (h3 : CqB w 61 #[.string a] (.tuple #[.string p, .string q]))
   (h4 : CqB w 61 #[.string b] (.tuple #[.string r, .string s]))
   (h5 : CqB w 66 #[.string p, .string s, .string r, .string q] (.tuple #[.string x, .string y, .int .i64 0]))
   (h6 : CqB w 66 #[.string q, .string s, .string ⟨#[49]⟩, .string ⟨#[49]⟩] (.tuple #[.string z, .string ⟨#[49]⟩, .int .i64 0]))
   (h7 : CqB w 91 #[.string x, .string y] (.tuple #[.string t, .int .i64 f])) :
   Calls Tryz.prog 57 #[.string a, .string b] w fun e W' => e = .returned (.tuple #[.string ⟨#[]⟩, .int .i64 f]) ∧ Below w.heap.size w W' := by
 have C := Lib.hid ((And.intro h1 (And.intro h2 (And.intro h3 (And.intro h4 (And.intro h5 (And.intro h6 h7))))))); clear h1 h2 h3 h4 h5 h6 h7
 have B0 := Lib.hid (Below.refl w.heap.size w)
 go_enter Tryz.func57, Tryz.ntmps57
 go_wp2_with fail
 refine (C.out.1 _ B0.out).mono ?_
 rintro e w1 ⟨rfl, b⟩
 have B1 := Lib.hid (B0.out.trans (b.mono B0.out.size)); clear b B0
 go_wp2_with fail
 refine (C.out.2.1 _ B1.out).mono ?_
 rintro e w2 ⟨rfl, b⟩
 have B2 := Lib.hid (B1.out.trans (b.mono B1.out.size)); clear b B1
 go_wp2_with fail
 refine (C.out.2.2.1 _ B2.out).mono ?_
 rintro e w3 ⟨rfl, b⟩
 have B3 := Lib.hid (B2.out.trans (b.mono B2.out.size)); clear b B2
 go_wp2_with fail
 refine (C.out.2.2.2.1 _ B3.out).mono ?_
 rintro e w4 ⟨rfl, b⟩
 have B4 := Lib.hid (B3.out.trans (b.mono B3.out.size)); clear b B3
 go_wp2_with fail
 refine (C.out.2.2.2.2.1 _ B4.out).mono ?_
 rintro e w5 ⟨rfl, b⟩
 have B5 := Lib.hid (B4.out.trans (b.mono B4.out.size)); clear b B4
 go_wp2_with fail
 refine (C.out.2.2.2.2.2.1 _ B5.out).mono ?_
 rintro e w6 ⟨rfl, b⟩
 have B6 := Lib.hid (B5.out.trans (b.mono B5.out.size)); clear b B5
 go_wp2_with fail
 refine (C.out.2.2.2.2.2.2 _ B6.out).mono ?_
 rintro e w7 ⟨rfl, b⟩
 have B7 := Lib.hid (B6.out.trans (b.mono B6.out.size)); clear b B6
 go_wp2
 go_ret2
 exact ⟨rfl, B7.out⟩
theorem radd_okf (a b p q r s : ByteArray) (n d m c : Int) (k : Bool) (x y z t u : ByteArray) (f : Int) (w : World)
   (h1 : CqB w 59 #[.string a] (.tuple #[.int .i64 n, .int .i64 d, .bool false]))
   (h2 : CqB w 59 #[.string b] (.tuple #[.int .i64 m, .int .i64 c, .bool k]))
   (h3 : CqB w 61 #[.string a] (.tuple #[.string p, .string q]))
   (h4 : CqB w 61 #[.string b] (.tuple #[.string r, .string s]))
   (h5 : CqB w 66 #[.string p, .string s, .string r, .string q] (.tuple #[.string x, .string y, .int .i64 0]))
   (h6 : CqB w 66 #[.string q, .string s, .string ⟨#[49]⟩, .string ⟨#[49]⟩] (.tuple #[.string z, .string ⟨#[49]⟩, .int .i64 0]))
   (h7 : CqB w 91 #[.string x, .string y] (.tuple #[.string t, .int .i64 0]))
   (h8 : CqB w 78 #[.string t, .string z] (.tuple #[.string u, .int .i64 f])) :
   Calls Tryz.prog 57 #[.string a, .string b] w fun e W' => e = .returned (.tuple #[.string u, .int .i64 f]) ∧ Below w.heap.size w W' := by
 have C := Lib.hid ((And.intro h1 (And.intro h2 (And.intro h3 (And.intro h4 (And.intro h5 (And.intro h6 (And.intro h7 h8)))))))); clear h1 h2 h3 h4 h5 h6 h7 h8
 have B0 := Lib.hid (Below.refl w.heap.size w)
 go_enter Tryz.func57, Tryz.ntmps57
 go_wp2_with fail
 refine (C.out.1 _ B0.out).mono ?_
 rintro e w1 ⟨rfl, b⟩
 have B1 := Lib.hid (B0.out.trans (b.mono B0.out.size)); clear b B0
 go_wp2_with fail
 refine (C.out.2.1 _ B1.out).mono ?_
 rintro e w2 ⟨rfl, b⟩
 have B2 := Lib.hid (B1.out.trans (b.mono B1.out.size)); clear b B1
 go_wp2_with fail
 refine (C.out.2.2.1 _ B2.out).mono ?_
 rintro e w3 ⟨rfl, b⟩
 have B3 := Lib.hid (B2.out.trans (b.mono B2.out.size)); clear b B2
 go_wp2_with fail
 refine (C.out.2.2.2.1 _ B3.out).mono ?_
 rintro e w4 ⟨rfl, b⟩
 have B4 := Lib.hid (B3.out.trans (b.mono B3.out.size)); clear b B3
 go_wp2_with fail
 refine (C.out.2.2.2.2.1 _ B4.out).mono ?_
 rintro e w5 ⟨rfl, b⟩
 have B5 := Lib.hid (B4.out.trans (b.mono B4.out.size)); clear b B4
 go_wp2_with fail
 refine (C.out.2.2.2.2.2.1 _ B5.out).mono ?_
 rintro e w6 ⟨rfl, b⟩
 have B6 := Lib.hid (B5.out.trans (b.mono B5.out.size)); clear b B5
 go_wp2_with fail
 refine (C.out.2.2.2.2.2.2.1 _ B6.out).mono ?_
 rintro e w7 ⟨rfl, b⟩
 have B7 := Lib.hid (B6.out.trans (b.mono B6.out.size)); clear b B6
 go_wp2_with fail
 refine (C.out.2.2.2.2.2.2.2 _ B7.out).mono ?_
 rintro e w8 ⟨rfl, b⟩
 have B8 := Lib.hid (B7.out.trans (b.mono B7.out.size)); clear b B7
 go_wp2
 go_ret2
 exact ⟨rfl, B8.out⟩
theorem radd_e1t (a b p q r s : ByteArray) (n d m c : Int) (x y : ByteArray) (f : Int) (w : World) (n1 : (f == 0) = false) (n2 : (f != 0) = true)
   (h1 : CqB w 59 #[.string a] (.tuple #[.int .i64 n, .int .i64 d, .bool true]))
   (h2 : CqB w 59 #[.string b] (.tuple #[.int .i64 m, .int .i64 c, .bool false]))
   (h3 : CqB w 61 #[.string a] (.tuple #[.string p, .string q]))
   (h4 : CqB w 61 #[.string b] (.tuple #[.string r, .string s]))
   (h5 : CqB w 66 #[.string p, .string s, .string r, .string q] (.tuple #[.string x, .string y, .int .i64 f])) :
   Calls Tryz.prog 57 #[.string a, .string b] w fun e W' => e = .returned (.tuple #[.string ⟨#[]⟩, .int .i64 f]) ∧ Below w.heap.size w W' := by
 have C := Lib.hid ((And.intro h1 (And.intro h2 (And.intro h3 (And.intro h4 h5))))); clear h1 h2 h3 h4 h5
 have B0 := Lib.hid (Below.refl w.heap.size w)
 go_enter Tryz.func57, Tryz.ntmps57
 go_wp2_with fail
 refine (C.out.1 _ B0.out).mono ?_
 rintro e w1 ⟨rfl, b⟩
 have B1 := Lib.hid (B0.out.trans (b.mono B0.out.size)); clear b B0
 go_wp2_with fail
 refine (C.out.2.1 _ B1.out).mono ?_
 rintro e w2 ⟨rfl, b⟩
 have B2 := Lib.hid (B1.out.trans (b.mono B1.out.size)); clear b B1
 go_wp2_with fail
 refine (C.out.2.2.1 _ B2.out).mono ?_
 rintro e w3 ⟨rfl, b⟩
 have B3 := Lib.hid (B2.out.trans (b.mono B2.out.size)); clear b B2
 go_wp2_with fail
 refine (C.out.2.2.2.1 _ B3.out).mono ?_
 rintro e w4 ⟨rfl, b⟩
 have B4 := Lib.hid (B3.out.trans (b.mono B3.out.size)); clear b B3
 go_wp2_with fail
 refine (C.out.2.2.2.2 _ B4.out).mono ?_
 rintro e w5 ⟨rfl, b⟩
 have B5 := Lib.hid (B4.out.trans (b.mono B4.out.size)); clear b B4
 go_wp2
 go_ret2
 exact ⟨rfl, B5.out⟩
theorem radd_e2t (a b p q r s : ByteArray) (n d m c : Int) (x y z v : ByteArray) (f : Int) (w : World) (n1 : (f == 0) = false) (n2 : (f != 0) = true)
   (h1 : CqB w 59 #[.string a] (.tuple #[.int .i64 n, .int .i64 d, .bool true]))
   (h2 : CqB w 59 #[.string b] (.tuple #[.int .i64 m, .int .i64 c, .bool false]))
   (h3 : CqB w 61 #[.string a] (.tuple #[.string p, .string q]))
   (h4 : CqB w 61 #[.string b] (.tuple #[.string r, .string s]))
   (h5 : CqB w 66 #[.string p, .string s, .string r, .string q] (.tuple #[.string x, .string y, .int .i64 0]))
   (h6 : CqB w 66 #[.string q, .string s, .string ⟨#[49]⟩, .string ⟨#[49]⟩] (.tuple #[.string z, .string v, .int .i64 f])) :
   Calls Tryz.prog 57 #[.string a, .string b] w fun e W' => e = .returned (.tuple #[.string ⟨#[]⟩, .int .i64 f]) ∧ Below w.heap.size w W' := by
 have C := Lib.hid ((And.intro h1 (And.intro h2 (And.intro h3 (And.intro h4 (And.intro h5 h6)))))); clear h1 h2 h3 h4 h5 h6
 have B0 := Lib.hid (Below.refl w.heap.size w)
 go_enter Tryz.func57, Tryz.ntmps57
 go_wp2_with fail
 refine (C.out.1 _ B0.out).mono ?_
 rintro e w1 ⟨rfl, b⟩
 have B1 := Lib.hid (B0.out.trans (b.mono B0.out.size)); clear b B0
 go_wp2_with fail
 refine (C.out.2.1 _ B1.out).mono ?_
 rintro e w2 ⟨rfl, b⟩
 have B2 := Lib.hid (B1.out.trans (b.mono B1.out.size)); clear b B1
 go_wp2_with fail
 refine (C.out.2.2.1 _ B2.out).mono ?_
 rintro e w3 ⟨rfl, b⟩
 have B3 := Lib.hid (B2.out.trans (b.mono B2.out.size)); clear b B2
 go_wp2_with fail
 refine (C.out.2.2.2.1 _ B3.out).mono ?_
 rintro e w4 ⟨rfl, b⟩
 have B4 := Lib.hid (B3.out.trans (b.mono B3.out.size)); clear b B3
 go_wp2_with fail
 refine (C.out.2.2.2.2.1 _ B4.out).mono ?_
 rintro e w5 ⟨rfl, b⟩
 have B5 := Lib.hid (B4.out.trans (b.mono B4.out.size)); clear b B4
 go_wp2_with fail
 refine (C.out.2.2.2.2.2 _ B5.out).mono ?_
 rintro e w6 ⟨rfl, b⟩
 have B6 := Lib.hid (B5.out.trans (b.mono B5.out.size)); clear b B5
 go_wp2
 go_ret2
 exact ⟨rfl, B6.out⟩
theorem radd_e3t (a b p q r s : ByteArray) (n d m c : Int) (x y z t : ByteArray) (f : Int) (w : World) (n1 : (f == 0) = false) (n2 : (f != 0) = true)
   (h1 : CqB w 59 #[.string a] (.tuple #[.int .i64 n, .int .i64 d, .bool true]))
   (h2 : CqB w 59 #[.string b] (.tuple #[.int .i64 m, .int .i64 c, .bool false]))
   (h3 : CqB w 61 #[.string a] (.tuple #[.string p, .string q]))
   (h4 : CqB w 61 #[.string b] (.tuple #[.string r, .string s]))
   (h5 : CqB w 66 #[.string p, .string s, .string r, .string q] (.tuple #[.string x, .string y, .int .i64 0]))
   (h6 : CqB w 66 #[.string q, .string s, .string ⟨#[49]⟩, .string ⟨#[49]⟩] (.tuple #[.string z, .string ⟨#[49]⟩, .int .i64 0]))
   (h7 : CqB w 91 #[.string x, .string y] (.tuple #[.string t, .int .i64 f])) :
   Calls Tryz.prog 57 #[.string a, .string b] w fun e W' => e = .returned (.tuple #[.string ⟨#[]⟩, .int .i64 f]) ∧ Below w.heap.size w W' := by
 have C := Lib.hid ((And.intro h1 (And.intro h2 (And.intro h3 (And.intro h4 (And.intro h5 (And.intro h6 h7))))))); clear h1 h2 h3 h4 h5 h6 h7
 have B0 := Lib.hid (Below.refl w.heap.size w)
 go_enter Tryz.func57, Tryz.ntmps57
 go_wp2_with fail
 refine (C.out.1 _ B0.out).mono ?_
 rintro e w1 ⟨rfl, b⟩
 have B1 := Lib.hid (B0.out.trans (b.mono B0.out.size)); clear b B0
 go_wp2_with fail
 refine (C.out.2.1 _ B1.out).mono ?_
 rintro e w2 ⟨rfl, b⟩
 have B2 := Lib.hid (B1.out.trans (b.mono B1.out.size)); clear b B1
 go_wp2_with fail
 refine (C.out.2.2.1 _ B2.out).mono ?_
 rintro e w3 ⟨rfl, b⟩
 have B3 := Lib.hid (B2.out.trans (b.mono B2.out.size)); clear b B2
 go_wp2_with fail
 refine (C.out.2.2.2.1 _ B3.out).mono ?_
 rintro e w4 ⟨rfl, b⟩
 have B4 := Lib.hid (B3.out.trans (b.mono B3.out.size)); clear b B3
 go_wp2_with fail
 refine (C.out.2.2.2.2.1 _ B4.out).mono ?_
 rintro e w5 ⟨rfl, b⟩
 have B5 := Lib.hid (B4.out.trans (b.mono B4.out.size)); clear b B4
 go_wp2_with fail
 refine (C.out.2.2.2.2.2.1 _ B5.out).mono ?_
 rintro e w6 ⟨rfl, b⟩
 have B6 := Lib.hid (B5.out.trans (b.mono B5.out.size)); clear b B5
 go_wp2_with fail
 refine (C.out.2.2.2.2.2.2 _ B6.out).mono ?_
 rintro e w7 ⟨rfl, b⟩
 have B7 := Lib.hid (B6.out.trans (b.mono B6.out.size)); clear b B6
 go_wp2
 go_ret2
 exact ⟨rfl, B7.out⟩
theorem radd_okt (a b p q r s : ByteArray) (n d m c : Int) (x y z t u : ByteArray) (f : Int) (w : World)
   (h1 : CqB w 59 #[.string a] (.tuple #[.int .i64 n, .int .i64 d, .bool true]))
   (h2 : CqB w 59 #[.string b] (.tuple #[.int .i64 m, .int .i64 c, .bool false]))
   (h3 : CqB w 61 #[.string a] (.tuple #[.string p, .string q]))
   (h4 : CqB w 61 #[.string b] (.tuple #[.string r, .string s]))
   (h5 : CqB w 66 #[.string p, .string s, .string r, .string q] (.tuple #[.string x, .string y, .int .i64 0]))
   (h6 : CqB w 66 #[.string q, .string s, .string ⟨#[49]⟩, .string ⟨#[49]⟩] (.tuple #[.string z, .string ⟨#[49]⟩, .int .i64 0]))
   (h7 : CqB w 91 #[.string x, .string y] (.tuple #[.string t, .int .i64 0]))
   (h8 : CqB w 78 #[.string t, .string z] (.tuple #[.string u, .int .i64 f])) :
   Calls Tryz.prog 57 #[.string a, .string b] w fun e W' => e = .returned (.tuple #[.string u, .int .i64 f]) ∧ Below w.heap.size w W' := by
 have C := Lib.hid ((And.intro h1 (And.intro h2 (And.intro h3 (And.intro h4 (And.intro h5 (And.intro h6 (And.intro h7 h8)))))))); clear h1 h2 h3 h4 h5 h6 h7 h8
 have B0 := Lib.hid (Below.refl w.heap.size w)
 go_enter Tryz.func57, Tryz.ntmps57
 go_wp2_with fail
 refine (C.out.1 _ B0.out).mono ?_
 rintro e w1 ⟨rfl, b⟩
 have B1 := Lib.hid (B0.out.trans (b.mono B0.out.size)); clear b B0
 go_wp2_with fail
 refine (C.out.2.1 _ B1.out).mono ?_
 rintro e w2 ⟨rfl, b⟩
 have B2 := Lib.hid (B1.out.trans (b.mono B1.out.size)); clear b B1
 go_wp2_with fail
 refine (C.out.2.2.1 _ B2.out).mono ?_
 rintro e w3 ⟨rfl, b⟩
 have B3 := Lib.hid (B2.out.trans (b.mono B2.out.size)); clear b B2
 go_wp2_with fail
 refine (C.out.2.2.2.1 _ B3.out).mono ?_
 rintro e w4 ⟨rfl, b⟩
 have B4 := Lib.hid (B3.out.trans (b.mono B3.out.size)); clear b B3
 go_wp2_with fail
 refine (C.out.2.2.2.2.1 _ B4.out).mono ?_
 rintro e w5 ⟨rfl, b⟩
 have B5 := Lib.hid (B4.out.trans (b.mono B4.out.size)); clear b B4
 go_wp2_with fail
 refine (C.out.2.2.2.2.2.1 _ B5.out).mono ?_
 rintro e w6 ⟨rfl, b⟩
 have B6 := Lib.hid (B5.out.trans (b.mono B5.out.size)); clear b B5
 go_wp2_with fail
 refine (C.out.2.2.2.2.2.2.1 _ B6.out).mono ?_
 rintro e w7 ⟨rfl, b⟩
 have B7 := Lib.hid (B6.out.trans (b.mono B6.out.size)); clear b B6
 go_wp2_with fail
 refine (C.out.2.2.2.2.2.2.2 _ B7.out).mono ?_
 rintro e w8 ⟨rfl, b⟩
 have B8 := Lib.hid (B7.out.trans (b.mono B7.out.size)); clear b B7
 go_wp2
 go_ret2
 exact ⟨rfl, B8.out⟩
def I64 (z : Int) : Prop := -9223372036854775808 ≤ z ∧ z ≤ 9223372036854775807
theorem I64.short {z : Int} (h : I64 z) : short z :=
 Nat.lt_of_le_of_lt (show z.natAbs ≤ 9223372036854775808 by unfold I64 at h; omega) (Nat.lt_of_lt_of_le (by decide : 9223372036854775808 < tenTo 19) (tenTo_mono (by decide : 19 ≤ 300)))
theorem Of_q (n d : Int) (w : World) (hn : I64 n) (hd : I64 d) (h0 : d ≠ 0) (ht : Tab w) (ht2 : Tab64 w) :
   Calls Tryz.prog 26 #[.int .i64 n, .int .i64 d] w fun e W' => e = .returned (.tuple #[.string (strQ (Rat.divInt n d)), .int .i64 0]) ∧ Below w.heap.size w W' := by
 have c1 := fun W (h : Below w.heap.size w W) => lowestM_any n d W hn.1 hn.2 hd.1 hd.2 h0 (ht.next h) (TabQ_next ht2 h)
 have c2 := fun W (h : Below w.heap.size w W) => Itoa_any n W hn.1 hn.2 (ht.next h)
 have c3 := fun W (h : Below w.heap.size w W) => Itoa_any d W hd.1 hd.2 (ht.next h)
 have c4 : CqB w 76 #[.agg #[.string (strB n), .int .i64 0, .string (strB d), .int .i64 0]] (.tuple #[.string (strQ (Rat.divInt n d)), .int .i64 0]) := fun W h =>
   lowestL_any (some n) (some d) W (some_wf hn.short) (some_wf hd.short) (fun e => h0 (Option.some.inj e)) (ht.next h)
 have n0 : (d == 0) = false := by rw [beq_eq_false_iff_ne]; exact h0
 have hR : lowRE n d = 0 → lowR n d = strQ (Rat.divInt n d) := fun h => lowR_ne (lowRE_ne h).1 (lowRE_ne h).2
 by_cases he : lowRE n d = 0
 · rw [he, hR he] at c1
   have C := Lib.hid c1
   clear c1 c2 c3 c4 ht ht2 hn hd h0 hR he
   generalize strQ (Rat.divInt n d) = r at *
   go_enter Tryz.func26, Tryz.ntmps26
   go_wp2_with fail
   refine (C.out _ (Below.refl _ _)).mono ?_
   rintro e w1 ⟨rfl, b⟩
   have H1 := Lib.hid b; clear b
   go_wp2
   go_ret2
   exact ⟨rfl, H1.out⟩
 · obtain ⟨m1, m2⟩ := bool_ne he
   have C := Lib.hid (And.intro c1 (And.intro c2 (And.intro c3 c4)))
   clear c1 c2 c3 c4 ht ht2 hn hd h0 hR he
   generalize lowRE n d = e1 at *
   generalize lowR n d = r1 at *
   generalize strQ (Rat.divInt n d) = r at *
   generalize strB n = sn at *
   generalize strB d = sd at *
   go_enter Tryz.func26, Tryz.ntmps26
   go_wp2_with fail
   refine (C.out.1 _ (Below.refl _ _)).mono ?_
   rintro e w1 ⟨rfl, b⟩
   have H1 := Lib.hid b; clear b
   go_wp2_with fail
   refine (C.out.2.1 _ H1.out).mono ?_
   rintro e w2 ⟨rfl, b⟩
   have H2 := Lib.hid (H1.out.trans (b.mono H1.out.size)); clear b H1
   go_wp2_with fail
   refine (C.out.2.2.1 _ H2.out).mono ?_
   rintro e w3 ⟨rfl, b⟩
   have H3 := Lib.hid (H2.out.trans (b.mono H2.out.size)); clear b H2
   go_wp2_with fail
   refine (C.out.2.2.2 _ H3.out).mono ?_
   rintro e w4 ⟨rfl, b⟩
   have H4 := Lib.hid (H3.out.trans (b.mono H3.out.size)); clear b H3
   go_wp2
   go_ret2
   exact ⟨rfl, H4.out⟩
end Go.Proofs.YtmafghdgmdbpnaaGreatDoor
namespace Go.Proofs
open Go.Shelf
def Tryz.laysC172_ren : Go.Shelf.Ren := ⟨fun | 172 => 84 | 244 => 122 | 245 => 123 | 247 => 151 | 279 => 152 | 280 => 153 | 281 => 154 | 282 => 155 | 287 => 173 | 316 => 174 | 171 => 77 | 205 => 175 | 321 => 195 | 322 => 196 | 243 => 110 | 246 => 139 | 283 => 158 | 284 => 159 | 285 => 160 | 286 => 161 | 129 => 181 | 317 => 180 | 318 => 182 | 319 => 183 | 320 => 184 | 337 => 200 | 338 => 132 | n => n, fun | 9 => 9 | 3 => 3 | 75 => 105 | 76 => 106 | 4 => 4 | 5 => 5 | 167 => 180 | 37 => 155 | 0 => 0 | 85 => 181 | 2 => 2 | 168 => 183 | 53 => 162 | 175 => 205 | 46 => 187 | 210 => 208 | 127 => 230 | 145 => 233 | 143 => 231 | 21 => 21 | 171 => 189 | 173 => 191 | 212 => 215 | 51 => 216 | 20 => 20 | 213 => 217 | 232 => 244 | 233 => 186 | 80 => 245 | n => n, fun | 15 => 1 | 16 => 2 | 17 => 3 | 18 => 5 | 19 => 0 | n => n⟩
theorem Tryz.laysC172 : Go.Proofs.LaysC.n172 Tryz.prog Tryz.laysC172_ren := {
 mixed := by kernel_rfl
 f129 := Tryz.func181.trans (congrArg some (by kernel_rfl))
 f171 := Tryz.func77.trans (congrArg some (by kernel_rfl))
 f172 := Tryz.func84.trans (congrArg some (by kernel_rfl))
 f205 := Tryz.func175.trans (congrArg some (by kernel_rfl))
 f243 := Tryz.func110.trans (congrArg some (by kernel_rfl))
 f244 := Tryz.func122.trans (congrArg some (by kernel_rfl))
 f245 := Tryz.func123.trans (congrArg some (by kernel_rfl))
 f246 := Tryz.func139.trans (congrArg some (by kernel_rfl))
 f247 := Tryz.func151.trans (congrArg some (by kernel_rfl))
 f279 := Tryz.func152.trans (congrArg some (by kernel_rfl))
 f280 := Tryz.func153.trans (congrArg some (by kernel_rfl))
 f281 := Tryz.func154.trans (congrArg some (by kernel_rfl))
 f282 := Tryz.func155.trans (congrArg some (by kernel_rfl))
 f283 := Tryz.func158.trans (congrArg some (by kernel_rfl))
 f284 := Tryz.func159.trans (congrArg some (by kernel_rfl))
 f285 := Tryz.func160.trans (congrArg some (by kernel_rfl))
 f286 := Tryz.func161.trans (congrArg some (by kernel_rfl))
 f287 := Tryz.func173.trans (congrArg some (by kernel_rfl))
 f316 := Tryz.func174.trans (congrArg some (by kernel_rfl))
 f317 := Tryz.func180.trans (congrArg some (by kernel_rfl))
 f318 := Tryz.func182.trans (congrArg some (by kernel_rfl))
 f319 := Tryz.func183.trans (congrArg some (by kernel_rfl))
 f320 := Tryz.func184.trans (congrArg some (by kernel_rfl))
 f321 := Tryz.func195.trans (congrArg some (by kernel_rfl))
 f322 := Tryz.func196.trans (congrArg some (by kernel_rfl))
 f337 := Tryz.func200.trans (congrArg some (by kernel_rfl))
 f338 := Tryz.func132.trans (congrArg some (by kernel_rfl))
 t0 := Tryz.underlying0
 a0 := Tryz.isAgg0
 z0 := Tryz.sizeOf0
 v0 := Tryz.zeroValue0
 t2 := Tryz.underlying2
 a2 := Tryz.isAgg2
 z2 := Tryz.sizeOf2
 v2 := Tryz.zeroValue2
 t3 := Tryz.underlying3
 a3 := Tryz.isAgg3
 z3 := Tryz.sizeOf3
 v3 := Tryz.zeroValue3
 t4 := Tryz.underlying4
 a4 := Tryz.isAgg4
 z4 := Tryz.sizeOf4
 v4 := Tryz.zeroValue4
 t5 := Tryz.underlying5
 a5 := Tryz.isAgg5
 z5 := Tryz.sizeOf5
 v5 := Tryz.zeroValue5
 t9 := Tryz.underlying9
 a9 := Tryz.isAgg9
 z9 := Tryz.sizeOf9
 v9 := Tryz.zeroValue9
 t20 := Tryz.underlying20
 a20 := Tryz.isAgg20
 z20 := Tryz.sizeOf20
 v20 := Tryz.zeroValue20
 t21 := Tryz.underlying21
 a21 := Tryz.isAgg21
 z21 := Tryz.sizeOf21
 v21 := Tryz.zeroValue21
 t37 := Tryz.underlying155
 a37 := Tryz.isAgg155
 z37 := Tryz.sizeOf155
 v37 := Tryz.zeroValue155
 t46 := Tryz.underlying187
 a46 := Tryz.isAgg187
 z46 := Tryz.sizeOf187
 v46 := Tryz.zeroValue187
 t51 := Tryz.underlying216
 a51 := Tryz.isAgg216
 z51 := Tryz.sizeOf216
 v51 := Tryz.zeroValue216
 t53 := Tryz.underlying162
 a53 := Tryz.isAgg162
 z53 := Tryz.sizeOf162
 v53 := Tryz.zeroValue162
 t75 := Tryz.underlying105
 a75 := Tryz.isAgg105
 z75 := Tryz.sizeOf105
 v75 := Tryz.zeroValue105
 t76 := Tryz.underlying106
 a76 := Tryz.isAgg106
 z76 := Tryz.sizeOf106
 v76 := Tryz.zeroValue106
 t85 := Tryz.underlying181
 a85 := Tryz.isAgg181
 z85 := Tryz.sizeOf181
 v85 := Tryz.zeroValue181
 t127 := Tryz.underlying230
 a127 := Tryz.isAgg230
 z127 := Tryz.sizeOf230
 v127 := Tryz.zeroValue230
 t143 := Tryz.underlying231
 a143 := Tryz.isAgg231
 z143 := Tryz.sizeOf231
 v143 := Tryz.zeroValue231
 t145 := Tryz.underlying233
 a145 := Tryz.isAgg233
 z145 := Tryz.sizeOf233
 v145 := Tryz.zeroValue233
 t167 := Tryz.underlying180
 a167 := Tryz.isAgg180
 z167 := Tryz.sizeOf180
 v167 := Tryz.zeroValue180
 t168 := Tryz.underlying183
 a168 := Tryz.isAgg183
 z168 := Tryz.sizeOf183
 v168 := Tryz.zeroValue183
 t171 := Tryz.underlying189
 a171 := Tryz.isAgg189
 z171 := Tryz.sizeOf189
 v171 := Tryz.zeroValue189
 t173 := Tryz.underlying191
 a173 := Tryz.isAgg191
 z173 := Tryz.sizeOf191
 v173 := Tryz.zeroValue191
 t175 := Tryz.underlying205
 a175 := Tryz.isAgg205
 z175 := Tryz.sizeOf205
 v175 := Tryz.zeroValue205
 t210 := Tryz.underlying208
 a210 := Tryz.isAgg208
 z210 := Tryz.sizeOf208
 v210 := Tryz.zeroValue208
 t212 := Tryz.underlying215
 a212 := Tryz.isAgg215
 z212 := Tryz.sizeOf215
 v212 := Tryz.zeroValue215
 t213 := Tryz.underlying217
 a213 := Tryz.isAgg217
 z213 := Tryz.sizeOf217
 t232 := Tryz.underlying244
 a232 := Tryz.isAgg244
 z232 := Tryz.sizeOf244
 v232 := Tryz.zeroValue244
 t233 := Tryz.underlying186
 a233 := Tryz.isAgg186
 z233 := Tryz.sizeOf186
 v233 := Tryz.zeroValue186
 g15 := by kernel_rfl
 g16 := by kernel_rfl
 g17 := by kernel_rfl
 g18 := by kernel_rfl
 g19 := by kernel_rfl
 t80 := Tryz.underlying245
 a80 := Tryz.isAgg245
 z80 := Tryz.sizeOf245
 v80 := Tryz.zeroValue245
 i0 := by kernel_rfl
 i2 := by kernel_rfl
 i3 := by kernel_rfl
 i4 := by kernel_rfl
 i5 := by kernel_rfl
 i9 := by kernel_rfl
 i20 := by kernel_rfl
 i21 := by kernel_rfl
 i37 := by kernel_rfl
 i46 := by kernel_rfl
 i51 := by kernel_rfl
 i53 := by kernel_rfl
 i75 := by kernel_rfl
 i76 := by kernel_rfl
 i80 := by kernel_rfl
 i85 := by kernel_rfl
 i127 := by kernel_rfl
 i143 := by kernel_rfl
 i145 := by kernel_rfl
 i167 := by kernel_rfl
 i168 := by kernel_rfl
 i171 := by kernel_rfl
 i173 := by kernel_rfl
 i175 := by kernel_rfl
 i210 := by kernel_rfl
 i212 := by kernel_rfl
 i232 := by kernel_rfl
 i233 := by kernel_rfl
 m15 := by kernel_rfl
 m16 := by kernel_rfl
 m17 := by kernel_rfl
 m18 := by kernel_rfl
 m19 := by kernel_rfl
 c0 := by kernel_rfl
 c2 := by kernel_rfl
 c3 := by kernel_rfl
 c4 := by kernel_rfl
 c5 := by kernel_rfl
 c9 := by kernel_rfl
 c20 := by kernel_rfl
 c21 := by kernel_rfl
 c37 := by kernel_rfl
 c46 := by kernel_rfl
 c51 := by kernel_rfl
 c53 := by kernel_rfl
 c75 := by kernel_rfl
 c76 := by kernel_rfl
 c80 := by kernel_rfl
 c85 := by kernel_rfl
 c127 := by kernel_rfl
 c143 := by kernel_rfl
 c145 := by kernel_rfl
 c167 := by kernel_rfl
 c168 := by kernel_rfl
 c171 := by kernel_rfl
 c173 := by kernel_rfl
 c175 := by kernel_rfl
 c210 := by kernel_rfl
 c212 := by kernel_rfl
 c213 := by kernel_rfl
 c232 := by kernel_rfl
 c233 := by kernel_rfl }
open Go.RowKit in
theorem Tryz.strconv_Atoi_ok (s : ByteArray) (hmax : s.size ≤ 9223372036854775806) (v : Int) (h : Lib.atoiAll s.data.toList = .ok v) (w : World) :
   Calls Tryz.prog 84 #[.string s] w fun e w' => e = .returned (.tuple #[.int .i64 v, .nilIface]) ∧ (w' = w ∨ ∃ t, w' = Lib.bytesWorld w 5 t) := Any.strconv_Atoi_ok Tryz.laysC172 s hmax v h w
open Go.RowKit in
theorem Tryz.strconv_Atoi_range (s : ByteArray) (hlim : s.size ≤ 281474976710656) (h : Lib.atoiAll s.data.toList = .range) (ev : Value) (w : World) (hv : w.cell? ⟨2, 0, none⟩ = some ev) (hev : ev = .nilIface ∨ ∃ te pe, ev = .iface te pe) :
   Calls Tryz.prog 84 #[.string s] w fun e w' => ∃ N, e = .returned (.tuple #[.int .i64 (Lib.atoiSat s.data.toList), .iface 183 (.pointer (some ⟨N, 0, none⟩))]) ∧ w.heap.size ≤ N ∧ w'.heap[N]? = some (.cells #[.string ⟨#[65, 116, 111, 105]⟩, .string s, ev] 208 (0, 0)) ∧ Below w.heap.size w w' := Any.strconv_Atoi_range Tryz.laysC172 s hlim h ev w hv hev
end Go.Proofs
namespace Go.Proofs.YtmafghdgmdbpnaaGreatDoor
open Go.Lib
theorem natOf_cons' (c : UInt8) (r : List UInt8) : natOf (c :: r) = (c.toNat - 48) * 10 ^ r.length + natOf r := by
 have h := natOf_append [c] r
 rw [show [c] ++ r = c :: r from rfl] at h
 rw [h]
 have h2 : natOf [c] = c.toNat - 48 := by simp [natOf]
 rw [h2]
theorem isDig_b {c : UInt8} (h : isDig c = true) : 48 ≤ c.toNat ∧ c.toNat ≤ 57 := (isDig_iff c).1 h
theorem parse_digs : ∀ (l : List UInt8) (acc : Nat), acc < 18446744073709551616 → (∀ c ∈ l, isDig c = true) → parseUint10 acc l = if acc * 10 ^ l.length + natOf l < 18446744073709551616 then .ok (acc * 10 ^ l.length + natOf l) else .range
 | [], acc, ha, _ => by
   rw [List.length_nil, Nat.pow_zero, Nat.mul_one, natOf_nil, Nat.add_zero, if_pos ha]; rfl
 | c :: r, acc, ha, h => by
   have hc := isDig_b (h c (by simp))
   have hN : acc * 10 ^ (c :: r).length + natOf (c :: r) = (acc * 10 + (c.toNat - 48)) * 10 ^ r.length + natOf r := by
     rw [natOf_cons', List.length_cons, Nat.pow_succ, Nat.add_mul, Nat.mul_assoc acc 10, Nat.mul_comm 10 (10 ^ r.length)]; omega
   rw [hN]
   have hp : 1 ≤ 10 ^ r.length := Nat.pos_of_ne_zero (by simp)
   have hge : acc * 10 + (c.toNat - 48) ≤ (acc * 10 + (c.toNat - 48)) * 10 ^ r.length := Nat.le_mul_of_pos_right _ hp
   unfold parseUint10
   rw [if_pos hc]
   by_cases h1 : 1844674407370955162 ≤ acc
   · rw [if_pos h1, if_neg (by omega)]
   · rw [if_neg h1]
     by_cases h2 : 18446744073709551616 ≤ acc * 10 + (c.toNat - 48)
     · rw [if_pos h2, if_neg (by omega)]
     · rw [if_neg h2]
       exact parse_digs r _ (by omega) (fun x hx => h x (by simp [hx]))
theorem parseMag_dec (u : Nat) : parseMag (decDigits u) = if u < 18446744073709551616 then .ok u else .range := by
 unfold parseMag
 have hne := decDigits_ne u
 rw [if_neg hne, parse_digs _ 0 (by decide) (decDigits_dig u), Nat.zero_mul, Nat.zero_add, natOf_dec]
theorem atoi_itoa (z : Int) : atoiAll (itoa z) = if -9223372036854775808 ≤ z ∧ z ≤ 9223372036854775807 then .ok z else .range := by
 unfold itoa
 by_cases hz : z < 0
 · rw [if_pos hz, atoiAll_minus, parseMag_dec]
   by_cases h1 : z.natAbs < 18446744073709551616
   · rw [if_pos h1]
     unfold signed
     by_cases h2 : 9223372036854775808 < z.natAbs
     · rw [if_neg (by omega)]; simp only [if_pos h2]
     · rw [if_pos (by omega)]; simp only [if_neg h2]
       rw [show -((z.natAbs : Nat) : Int) = z by omega]
   · rw [if_neg h1, if_neg (by omega)]; rfl
 · rw [if_neg hz]
   have hm := parseMag_dec z.toNat
   have hd := decDigits_dig z.toNat
   generalize decDigits z.toNat = l at *
   cases l with
   | nil => rw [show parseMag [] = .syntax from rfl] at hm; split at hm <;> cases hm
   | cons c r =>
     have hc := isDig_b (hd c (by simp))
     rw [atoiAll_plain c r (by omega) (by omega), hm]
     by_cases h1 : z.toNat < 18446744073709551616
     · rw [if_pos h1]
       unfold signless
       by_cases h2 : 9223372036854775808 ≤ z.toNat
       · rw [if_neg (by omega)]; simp only [if_pos h2]
       · rw [if_pos (by omega)]; simp only [if_neg h2]
         rw [show ((z.toNat : Nat) : Int) = z by omega]
     · rw [if_neg h1, if_neg (by omega)]; rfl
end Go.Proofs.YtmafghdgmdbpnaaGreatDoor
namespace Go.Proofs.YtmafghdgmdbpnaaGreatDoor
open Go.RowKit
def ErrT (w : World) : Prop := ∃ ev, w.cell? ⟨2, 0, none⟩ = some ev ∧ (ev = .nilIface ∨ ∃ te pe, ev = .iface te pe)
theorem ErrT_next {w W : World} (h : ErrT w) (b : Below w.heap.size w W) : ErrT W := by
 obtain ⟨ev, h1, h2⟩ := h
 have hl := World.block_lt_of_cell? w _ h1
 exact ⟨ev, (b.cell (p := ⟨2, 0, none⟩) hl).trans h1, h2⟩
theorem Atoi_in (z : Int) (w : World) (hz : short z) (h : -9223372036854775808 ≤ z ∧ z ≤ 9223372036854775807) :
   Calls Tryz.prog 84 #[.string (strB z)] w fun e W' => e = .returned (.tuple #[.int .i64 z, .nilIface]) ∧ Below w.heap.size w W' := by
 have hs := strB_size hz
 refine (Tryz.strconv_Atoi_ok (strB z) (by omega) z (by rw [strB_data, atoi_itoa, if_pos h]) w).mono ?_
 rintro e W' ⟨he, rfl | ⟨t, rfl⟩⟩
 · exact ⟨he, Below.refl _ _⟩
 · exact ⟨he, Go.Joins.below_bytesWorld _ _ _ _ (Nat.le_refl _)⟩
theorem Atoi_out (z : Int) (w : World) (hz : short z) (h : ¬ (-9223372036854775808 ≤ z ∧ z ≤ 9223372036854775807)) (hE : ErrT w) :
   Calls Tryz.prog 84 #[.string (strB z)] w fun e W' => (∃ v t N, e = .returned (.tuple #[.int .i64 v, .iface t (.pointer (some ⟨N, 0, none⟩))])) ∧ Below w.heap.size w W' := by
 have hs := strB_size hz
 obtain ⟨ev, h1, h2⟩ := hE
 refine (Tryz.strconv_Atoi_range (strB z) (by omega) (by rw [strB_data, atoi_itoa, if_neg h]) ev w h1 h2).mono ?_
 rintro e W' ⟨N, he, _, _, hB⟩
 exact ⟨⟨_, _, N, he⟩, hB⟩
def intR (x : Rat) : Int := if x.den = 1 ∧ -4611686018427387904 ≤ x.num ∧ x.num ≤ 4611686018427387904 then x.num else 0
def intE (x : Rat) : Int := if x.den = 1 then (if -4611686018427387904 ≤ x.num ∧ x.num ≤ 4611686018427387904 then 0 else 2) else 8
theorem den_is1 (x : Rat) : ((strB (x.den : Int)).toList == [49]) = decide (x.den = 1) := by
 rw [← strQ_int, strQ_is1]
 apply decide_eq_decide.2
 rw [← Rat.intCast_one, Rat.intCast_inj]; omega
theorem Int_q (x : Rat) (w : World) (hx : Sq x) (ht : Tab w) (ht2 : Tab64 w) (hE : ErrT w) :
   Calls Tryz.prog 34 #[.string (strQ x)] w fun e W' => e = .returned (.tuple #[.int .i64 (intR x), .int .i64 (intE x)]) ∧ Below w.heap.size w W' := by
 have kp := fun W (h : Below w.heap.size w W) => Parts_q x W hx (ht.next h) (TabQ_next ht2 h)
 have hd := den_is1 x
 by_cases h1 : x.den = 1
 · rw [decide_eq_true h1] at hd
   have hd' : ((strB (x.den : Int)).toList != [49]) = false := by rw [bne, hd]; rfl
   unfold intR intE
   rw [if_pos h1]
   by_cases h2 : -9223372036854775808 ≤ x.num ∧ x.num ≤ 9223372036854775807
   · have ka := fun W (_ : Below w.heap.size w W) => Atoi_in x.num W hx.n h2
     have C := Lib.hid (And.intro kp ka); clear kp ka ht ht2 hE hx
     generalize strQ x = s at *
     generalize strB (x.den : Int) = d at *
     generalize strB x.num = n at *
     by_cases h3 : -4611686018427387904 ≤ x.num ∧ x.num ≤ 4611686018427387904
     · rw [if_pos ⟨h1, h3⟩, if_pos h3]
       clear h1
       generalize x.num = z at *
       go_enter Tryz.func34, Tryz.ntmps34
       go_wp2_with fail
       refine (C.out.1 _ (Below.refl _ _)).mono ?_
       rintro e w1 ⟨rfl, b⟩
       have H1 := Lib.hid b; clear b
       go_wp2_with fail
       refine (C.out.2 _ H1.out).mono ?_
       rintro e w2 ⟨rfl, b⟩
       have H2 := Lib.hid (H1.out.trans (b.mono H1.out.size)); clear b H1
       obtain ⟨h3a, h3b⟩ := h3
       go_wp2
       go_ret2
       exact ⟨rfl, H2.out⟩
     · rw [if_neg (fun h => h3 h.2), if_neg h3]
       clear h1
       generalize x.num = z at *
       have h4 : z < -4611686018427387904 ∨ 4611686018427387904 < z := by omega
       clear h3
       rcases h4 with h4 | h4
       · go_enter Tryz.func34, Tryz.ntmps34
         go_wp2_with fail
         refine (C.out.1 _ (Below.refl _ _)).mono ?_
         rintro e w1 ⟨rfl, b⟩
         have H1 := Lib.hid b; clear b
         go_wp2_with fail
         refine (C.out.2 _ H1.out).mono ?_
         rintro e w2 ⟨rfl, b⟩
         have H2 := Lib.hid (H1.out.trans (b.mono H1.out.size)); clear b H1
         go_wp2
         go_ret2
         exact ⟨rfl, H2.out⟩
       · have h5 : ¬ z < -4611686018427387904 := by omega
         go_enter Tryz.func34, Tryz.ntmps34
         go_wp2_with fail
         refine (C.out.1 _ (Below.refl _ _)).mono ?_
         rintro e w1 ⟨rfl, b⟩
         have H1 := Lib.hid b; clear b
         go_wp2_with fail
         refine (C.out.2 _ H1.out).mono ?_
         rintro e w2 ⟨rfl, b⟩
         have H2 := Lib.hid (H1.out.trans (b.mono H1.out.size)); clear b H1
         go_wp2
         go_ret2
         exact ⟨rfl, H2.out⟩
   · have h3 : ¬ (-4611686018427387904 ≤ x.num ∧ x.num ≤ 4611686018427387904) := by omega
     rw [if_neg (fun h => h3 h.2), if_neg h3]
     have ka := fun W (h : Below w.heap.size w W) => Atoi_out x.num W hx.n h2 (ErrT_next hE h)
     have C := Lib.hid (And.intro kp ka); clear kp ka ht ht2 hE hx h1 h2 h3
     generalize strQ x = s at *
     generalize strB (x.den : Int) = d at *
     generalize strB x.num = n at *
     go_enter Tryz.func34, Tryz.ntmps34
     go_wp2_with fail
     refine (C.out.1 _ (Below.refl _ _)).mono ?_
     rintro e w1 ⟨rfl, b⟩
     have H1 := Lib.hid b; clear b
     go_wp2_with fail
     refine (C.out.2 _ H1.out).mono ?_
     rintro e w2 ⟨⟨v, t, N, rfl⟩, b⟩
     have H2 := Lib.hid (H1.out.trans (b.mono H1.out.size)); clear b H1
     go_wp2
     go_ret2
     exact ⟨rfl, H2.out⟩
 · rw [decide_eq_false h1] at hd
   have hd' : ((strB (x.den : Int)).toList != [49]) = true := by rw [bne, hd]; rfl
   unfold intR intE
   rw [if_neg h1, if_neg (fun h => h1 h.1)]
   have C := Lib.hid kp; clear kp ht ht2 hE hx h1
   generalize strQ x = s at *
   generalize strB (x.den : Int) = d at *
   generalize strB x.num = n at *
   go_enter Tryz.func34, Tryz.ntmps34
   go_wp2_with fail
   refine (C.out _ (Below.refl _ _)).mono ?_
   rintro e w1 ⟨rfl, b⟩
   have H1 := Lib.hid b; clear b
   go_wp2
   go_ret2
   exact ⟨rfl, H1.out⟩
end Go.Proofs.YtmafghdgmdbpnaaGreatDoor
