/- Parts of the proof of the text YtmafghdgmdbpnaaGreatDoorQYH6. -/
import Derived.Test.YtmafghdgmdbpnaaGreatDoorQY1
import Derived.Test.YtmafghdgmdbpnaaGreatDoorQYH1
import Derived.Test.YtmafghdgmdbpnaaGreatDoorQYH3
set_option linter.all false
set_option maxRecDepth 100000
set_option maxHeartbeats 8000000
namespace Go.Proofs.YtmafghdgmdbpnaaGreatDoor
open Go.RowKit
theorem mul9 {x y : Int} (hx : -1000000000 < x ∧ x < 1000000000) (hy : -1000000000 < y ∧ y < 1000000000) : -1000000000000000000 < x * y ∧ x * y < 1000000000000000000 := by
 have h : (x * y).natAbs ≤ 999999999 * 999999999 := by
   rw [Int.natAbs_mul]; exact Nat.mul_le_mul (by omega) (by omega)
 omega
theorem radd_s (a b : ByteArray) (n d m c : Int) (r : ByteArray) (w : World) (hn : -1000000000 < n ∧ n < 1000000000) (hd : 0 < d ∧ d < 1000000000) (hm : -1000000000 < m ∧ m < 1000000000) (hc : 0 < c ∧ c < 1000000000)
   (h1 : CqB w 59 #[.string a] (.tuple #[.int .i64 n, .int .i64 d, .bool true]))
   (h2 : CqB w 59 #[.string b] (.tuple #[.int .i64 m, .int .i64 c, .bool true]))
   (h3 : CqB w 60 #[.int .i64 (n * c + m * d), .int .i64 (d * c)] (.string r)) :
   Calls Tryz.prog 57 #[.string a, .string b] w fun e W' => e = .returned (.tuple #[.string r, .int .i64 0]) ∧ Below w.heap.size w W' := by
 have z1 := mul9 hn ⟨by omega, hc.2⟩
 have z2 := mul9 hm ⟨by omega, hd.2⟩
 have z3 := mul9 (x := d) (y := c) ⟨by omega, hd.2⟩ ⟨by omega, hc.2⟩
 have C := Lib.hid ((And.intro h1 (And.intro h2 h3))); clear h1 h2 h3
 have B0 := Lib.hid (Below.refl w.heap.size w)
 go_enter Tryz.func57, Tryz.ntmps57
 go_wp2_with fail
 refine (C.out.1 _ B0.out).mono ?_
 rintro e w1 ⟨rfl, b⟩
 have B1 := Lib.hid (B0.out.trans (b.mono B0.out.size)); clear b B0
 go_wp2_with fail
 refine (C.out.2.1 _ B1.out).mono ?_
 rintro e w2 ⟨rfl, b⟩
 have B2 := Lib.hid (B1.out.trans (b.mono B1.out.size)); clear b B1
 go_wp2_with fail
 refine (C.out.2.2 _ B2.out).mono ?_
 rintro e w3 ⟨rfl, b⟩
 have B3 := Lib.hid (B2.out.trans (b.mono B2.out.size)); clear b B2
 go_wp2
 go_ret2
 exact ⟨rfl, B3.out⟩
theorem radd_e1f (a b p q r s : ByteArray) (n d m c : Int) (k : Bool) (x y : ByteArray) (f : Int) (w : World) (n1 : (f == 0) = false) (n2 : (f != 0) = true)
   (h1 : CqB w 59 #[.string a] (.tuple #[.int .i64 n, .int .i64 d, .bool false]))
   (h2 : CqB w 59 #[.string b] (.tuple #[.int .i64 m, .int .i64 c, .bool k]))
   (h3 : CqB w 61 #[.string a] (.tuple #[.string p, .string q]))
   (h4 : CqB w 61 #[.string b] (.tuple #[.string r, .string s]))
   (h5 : CqB w 66 #[.string p, .string s, .string r, .string q] (.tuple #[.string x, .string y, .int .i64 f])) :
   Calls Tryz.prog 57 #[.string a, .string b] w fun e W' => e = .returned (.tuple #[.string ⟨#[]⟩, .int .i64 f]) ∧ Below w.heap.size w W' := by
 have C := Lib.hid ((And.intro h1 (And.intro h2 (And.intro h3 (And.intro h4 h5))))); clear h1 h2 h3 h4 h5
 have B0 := Lib.hid (Below.refl w.heap.size w)
 go_enter Tryz.func57, Tryz.ntmps57
 go_wp2_with fail
 refine (C.out.1 _ B0.out).mono ?_
 rintro e w1 ⟨rfl, b⟩
 have B1 := Lib.hid (B0.out.trans (b.mono B0.out.size)); clear b B0
 go_wp2_with fail
 refine (C.out.2.1 _ B1.out).mono ?_
 rintro e w2 ⟨rfl, b⟩
 have B2 := Lib.hid (B1.out.trans (b.mono B1.out.size)); clear b B1
 go_wp2_with fail
 refine (C.out.2.2.1 _ B2.out).mono ?_
 rintro e w3 ⟨rfl, b⟩
 have B3 := Lib.hid (B2.out.trans (b.mono B2.out.size)); clear b B2
 go_wp2_with fail
 refine (C.out.2.2.2.1 _ B3.out).mono ?_
 rintro e w4 ⟨rfl, b⟩
 have B4 := Lib.hid (B3.out.trans (b.mono B3.out.size)); clear b B3
 go_wp2_with fail
 refine (C.out.2.2.2.2 _ B4.out).mono ?_
 rintro e w5 ⟨rfl, b⟩
 have B5 := Lib.hid (B4.out.trans (b.mono B4.out.size)); clear b B4
 go_wp2
 go_ret2
 exact ⟨rfl, B5.out⟩
theorem radd_e2f (a b p q r s : ByteArray) (n d m c : Int) (k : Bool) (x y z v : ByteArray) (f : Int) (w : World) (n1 : (f == 0) = false) (n2 : (f != 0) = true)
   (h1 : CqB w 59 #[.string a] (.tuple #[.int .i64 n, .int .i64 d, .bool false]))
   (h2 : CqB w 59 #[.string b] (.tuple #[.int .i64 m, .int .i64 c, .bool k]))
   (h3 : CqB w 61 #[.string a] (.tuple #[.string p, .string q]))
   (h4 : CqB w 61 #[.string b] (.tuple #[.string r, .string s]))
   (h5 : CqB w 66 #[.string p, .string s, .string r, .string q] (.tuple #[.string x, .string y, .int .i64 0]))
   (h6 : CqB w 66 #[.string q, .string s, .string ⟨#[49]⟩, .string ⟨#[49]⟩] (.tuple #[.string z, .string v, .int .i64 f])) :
   Calls Tryz.prog 57 #[.string a, .string b] w fun e W' => e = .returned (.tuple #[.string ⟨#[]⟩, .int .i64 f]) ∧ Below w.heap.size w W' := by
 have C := Lib.hid ((And.intro h1 (And.intro h2 (And.intro h3 (And.intro h4 (And.intro h5 h6)))))); clear h1 h2 h3 h4 h5 h6
 have B0 := Lib.hid (Below.refl w.heap.size w)
 go_enter Tryz.func57, Tryz.ntmps57
 go_wp2_with fail
 refine (C.out.1 _ B0.out).mono ?_
 rintro e w1 ⟨rfl, b⟩
 have B1 := Lib.hid (B0.out.trans (b.mono B0.out.size)); clear b B0
 go_wp2_with fail
 refine (C.out.2.1 _ B1.out).mono ?_
 rintro e w2 ⟨rfl, b⟩
 have B2 := Lib.hid (B1.out.trans (b.mono B1.out.size)); clear b B1
 go_wp2_with fail
 refine (C.out.2.2.1 _ B2.out).mono ?_
 rintro e w3 ⟨rfl, b⟩
 have B3 := Lib.hid (B2.out.trans (b.mono B2.out.size)); clear b B2
 go_wp2_with fail
 refine (C.out.2.2.2.1 _ B3.out).mono ?_
 rintro e w4 ⟨rfl, b⟩
 have B4 := Lib.hid (B3.out.trans (b.mono B3.out.size)); clear b B3
 go_wp2_with fail
 refine (C.out.2.2.2.2.1 _ B4.out).mono ?_
 rintro e w5 ⟨rfl, b⟩
 have B5 := Lib.hid (B4.out.trans (b.mono B4.out.size)); clear b B4
 go_wp2_with fail
 refine (C.out.2.2.2.2.2 _ B5.out).mono ?_
 rintro e w6 ⟨rfl, b⟩
 have B6 := Lib.hid (B5.out.trans (b.mono B5.out.size)); clear b B5
 go_wp2
 go_ret2
 exact ⟨rfl, B6.out⟩
theorem radd_e3f (a b p q r s : ByteArray) (n d m c : Int) (k : Bool) (x y z t : ByteArray) (f : Int) (w : World) (n1 : (f == 0) = false) (n2 : (f != 0) = true)
   (h1 : CqB w 59 #[.string a] (.tuple #[.int .i64 n, .int .i64 d, .bool false]))
   (h2 : CqB w 59 #[.string b] (.tuple #[.int .i64 m, .int .i64 c, .bool k]))
   (h3 : CqB w 61 #[.string a] (.tuple #[.string p, .string q]))
   (h4 : CqB w 61 #[.string b] (.tuple #[.string r, .string s]))
   (h5 : CqB w 66 #[.string p, .string s, .string r, .string q] (.tuple #[.string x, .string y, .int .i64 0]))
   (h6 : CqB w 66 #[.string q, .string s, .string ⟨#[49]⟩, .string ⟨#[49]⟩] (.tuple #[.string z, .string ⟨#[49]⟩, .int .i64 0]))
   (h7 : CqB w 91 #[.string x, .string y] (.tuple #[.string t, .int .i64 f])) :
   Calls Tryz.prog 57 #[.string a, .string b] w fun e W' => e = .returned (.tuple #[.string ⟨#[]⟩, .int .i64 f]) ∧ Below w.heap.size w W' := by
 have C := Lib.hid ((And.intro h1 (And.intro h2 (And.intro h3 (And.intro h4 (And.intro h5 (And.intro h6 h7))))))); clear h1 h2 h3 h4 h5 h6 h7
 have B0 := Lib.hid (Below.refl w.heap.size w)
 go_enter Tryz.func57, Tryz.ntmps57
 go_wp2_with fail
 refine (C.out.1 _ B0.out).mono ?_
 rintro e w1 ⟨rfl, b⟩
 have B1 := Lib.hid (B0.out.trans (b.mono B0.out.size)); clear b B0
 go_wp2_with fail
 refine (C.out.2.1 _ B1.out).mono ?_
 rintro e w2 ⟨rfl, b⟩
 have B2 := Lib.hid (B1.out.trans (b.mono B1.out.size)); clear b B1
 go_wp2_with fail
 refine (C.out.2.2.1 _ B2.out).mono ?_
 rintro e w3 ⟨rfl, b⟩
 have B3 := Lib.hid (B2.out.trans (b.mono B2.out.size)); clear b B2
 go_wp2_with fail
 refine (C.out.2.2.2.1 _ B3.out).mono ?_
 rintro e w4 ⟨rfl, b⟩
 have B4 := Lib.hid (B3.out.trans (b.mono B3.out.size)); clear b B3
 go_wp2_with fail
 refine (C.out.2.2.2.2.1 _ B4.out).mono ?_
 rintro e w5 ⟨rfl, b⟩
 have B5 := Lib.hid (B4.out.trans (b.mono B4.out.size)); clear b B4
 go_wp2_with fail
 refine (C.out.2.2.2.2.2.1 _ B5.out).mono ?_
 rintro e w6 ⟨rfl, b⟩
 have B6 := Lib.hid (B5.out.trans (b.mono B5.out.size)); clear b B5
 go_wp2_with fail
 refine (C.out.2.2.2.2.2.2 _ B6.out).mono ?_
 rintro e w7 ⟨rfl, b⟩
 have B7 := Lib.hid (B6.out.trans (b.mono B6.out.size)); clear b B6
 go_wp2
 go_ret2
 exact ⟨rfl, B7.out⟩
theorem radd_okf (a b p q r s : ByteArray) (n d m c : Int) (k : Bool) (x y z t u : ByteArray) (f : Int) (w : World)
   (h1 : CqB w 59 #[.string a] (.tuple #[.int .i64 n, .int .i64 d, .bool false]))
   (h2 : CqB w 59 #[.string b] (.tuple #[.int .i64 m, .int .i64 c, .bool k]))
   (h3 : CqB w 61 #[.string a] (.tuple #[.string p, .string q]))
   (h4 : CqB w 61 #[.string b] (.tuple #[.string r, .string s]))
   (h5 : CqB w 66 #[.string p, .string s, .string r, .string q] (.tuple #[.string x, .string y, .int .i64 0]))
   (h6 : CqB w 66 #[.string q, .string s, .string ⟨#[49]⟩, .string ⟨#[49]⟩] (.tuple #[.string z, .string ⟨#[49]⟩, .int .i64 0]))
   (h7 : CqB w 91 #[.string x, .string y] (.tuple #[.string t, .int .i64 0]))
   (h8 : CqB w 78 #[.string t, .string z] (.tuple #[.string u, .int .i64 f])) :
   Calls Tryz.prog 57 #[.string a, .string b] w fun e W' => e = .returned (.tuple #[.string u, .int .i64 f]) ∧ Below w.heap.size w W' := by
 have C := Lib.hid ((And.intro h1 (And.intro h2 (And.intro h3 (And.intro h4 (And.intro h5 (And.intro h6 (And.intro h7 h8)))))))); clear h1 h2 h3 h4 h5 h6 h7 h8
 have B0 := Lib.hid (Below.refl w.heap.size w)
 go_enter Tryz.func57, Tryz.ntmps57
 go_wp2_with fail
 refine (C.out.1 _ B0.out).mono ?_
 rintro e w1 ⟨rfl, b⟩
 have B1 := Lib.hid (B0.out.trans (b.mono B0.out.size)); clear b B0
 go_wp2_with fail
 refine (C.out.2.1 _ B1.out).mono ?_
 rintro e w2 ⟨rfl, b⟩
 have B2 := Lib.hid (B1.out.trans (b.mono B1.out.size)); clear b B1
 go_wp2_with fail
 refine (C.out.2.2.1 _ B2.out).mono ?_
 rintro e w3 ⟨rfl, b⟩
 have B3 := Lib.hid (B2.out.trans (b.mono B2.out.size)); clear b B2
 go_wp2_with fail
 refine (C.out.2.2.2.1 _ B3.out).mono ?_
 rintro e w4 ⟨rfl, b⟩
 have B4 := Lib.hid (B3.out.trans (b.mono B3.out.size)); clear b B3
 go_wp2_with fail
 refine (C.out.2.2.2.2.1 _ B4.out).mono ?_
 rintro e w5 ⟨rfl, b⟩
 have B5 := Lib.hid (B4.out.trans (b.mono B4.out.size)); clear b B4
 go_wp2_with fail
 refine (C.out.2.2.2.2.2.1 _ B5.out).mono ?_
 rintro e w6 ⟨rfl, b⟩
 have B6 := Lib.hid (B5.out.trans (b.mono B5.out.size)); clear b B5
 go_wp2_with fail
 refine (C.out.2.2.2.2.2.2.1 _ B6.out).mono ?_
 rintro e w7 ⟨rfl, b⟩
 have B7 := Lib.hid (B6.out.trans (b.mono B6.out.size)); clear b B6
 go_wp2_with fail
 refine (C.out.2.2.2.2.2.2.2 _ B7.out).mono ?_
 rintro e w8 ⟨rfl, b⟩
 have B8 := Lib.hid (B7.out.trans (b.mono B7.out.size)); clear b B7
 go_wp2
 go_ret2
 exact ⟨rfl, B8.out⟩
theorem radd_e1t (a b p q r s : ByteArray) (n d m c : Int) (x y : ByteArray) (f : Int) (w : World) (n1 : (f == 0) = false) (n2 : (f != 0) = true)
   (h1 : CqB w 59 #[.string a] (.tuple #[.int .i64 n, .int .i64 d, .bool true]))
   (h2 : CqB w 59 #[.string b] (.tuple #[.int .i64 m, .int .i64 c, .bool false]))
   (h3 : CqB w 61 #[.string a] (.tuple #[.string p, .string q]))
   (h4 : CqB w 61 #[.string b] (.tuple #[.string r, .string s]))
   (h5 : CqB w 66 #[.string p, .string s, .string r, .string q] (.tuple #[.string x, .string y, .int .i64 f])) :
   Calls Tryz.prog 57 #[.string a, .string b] w fun e W' => e = .returned (.tuple #[.string ⟨#[]⟩, .int .i64 f]) ∧ Below w.heap.size w W' := by
 have C := Lib.hid ((And.intro h1 (And.intro h2 (And.intro h3 (And.intro h4 h5))))); clear h1 h2 h3 h4 h5
 have B0 := Lib.hid (Below.refl w.heap.size w)
 go_enter Tryz.func57, Tryz.ntmps57
 go_wp2_with fail
 refine (C.out.1 _ B0.out).mono ?_
 rintro e w1 ⟨rfl, b⟩
 have B1 := Lib.hid (B0.out.trans (b.mono B0.out.size)); clear b B0
 go_wp2_with fail
 refine (C.out.2.1 _ B1.out).mono ?_
 rintro e w2 ⟨rfl, b⟩
 have B2 := Lib.hid (B1.out.trans (b.mono B1.out.size)); clear b B1
 go_wp2_with fail
 refine (C.out.2.2.1 _ B2.out).mono ?_
 rintro e w3 ⟨rfl, b⟩
 have B3 := Lib.hid (B2.out.trans (b.mono B2.out.size)); clear b B2
 go_wp2_with fail
 refine (C.out.2.2.2.1 _ B3.out).mono ?_
 rintro e w4 ⟨rfl, b⟩
 have B4 := Lib.hid (B3.out.trans (b.mono B3.out.size)); clear b B3
 go_wp2_with fail
 refine (C.out.2.2.2.2 _ B4.out).mono ?_
 rintro e w5 ⟨rfl, b⟩
 have B5 := Lib.hid (B4.out.trans (b.mono B4.out.size)); clear b B4
 go_wp2
 go_ret2
 exact ⟨rfl, B5.out⟩
theorem radd_e2t (a b p q r s : ByteArray) (n d m c : Int) (x y z v : ByteArray) (f : Int) (w : World) (n1 : (f == 0) = false) (n2 : (f != 0) = true)
   (h1 : CqB w 59 #[.string a] (.tuple #[.int .i64 n, .int .i64 d, .bool true]))
   (h2 : CqB w 59 #[.string b] (.tuple #[.int .i64 m, .int .i64 c, .bool false]))
   (h3 : CqB w 61 #[.string a] (.tuple #[.string p, .string q]))
   (h4 : CqB w 61 #[.string b] (.tuple #[.string r, .string s]))
   (h5 : CqB w 66 #[.string p, .string s, .string r, .string q] (.tuple #[.string x, .string y, .int .i64 0]))
   (h6 : CqB w 66 #[.string q, .string s, .string ⟨#[49]⟩, .string ⟨#[49]⟩] (.tuple #[.string z, .string v, .int .i64 f])) :
   Calls Tryz.prog 57 #[.string a, .string b] w fun e W' => e = .returned (.tuple #[.string ⟨#[]⟩, .int .i64 f]) ∧ Below w.heap.size w W' := by
 have C := Lib.hid ((And.intro h1 (And.intro h2 (And.intro h3 (And.intro h4 (And.intro h5 h6)))))); clear h1 h2 h3 h4 h5 h6
 have B0 := Lib.hid (Below.refl w.heap.size w)
 go_enter Tryz.func57, Tryz.ntmps57
 go_wp2_with fail
 refine (C.out.1 _ B0.out).mono ?_
 rintro e w1 ⟨rfl, b⟩
 have B1 := Lib.hid (B0.out.trans (b.mono B0.out.size)); clear b B0
 go_wp2_with fail
 refine (C.out.2.1 _ B1.out).mono ?_
 rintro e w2 ⟨rfl, b⟩
 have B2 := Lib.hid (B1.out.trans (b.mono B1.out.size)); clear b B1
 go_wp2_with fail
 refine (C.out.2.2.1 _ B2.out).mono ?_
 rintro e w3 ⟨rfl, b⟩
 have B3 := Lib.hid (B2.out.trans (b.mono B2.out.size)); clear b B2
 go_wp2_with fail
 refine (C.out.2.2.2.1 _ B3.out).mono ?_
 rintro e w4 ⟨rfl, b⟩
 have B4 := Lib.hid (B3.out.trans (b.mono B3.out.size)); clear b B3
 go_wp2_with fail
 refine (C.out.2.2.2.2.1 _ B4.out).mono ?_
 rintro e w5 ⟨rfl, b⟩
 have B5 := Lib.hid (B4.out.trans (b.mono B4.out.size)); clear b B4
 go_wp2_with fail
 refine (C.out.2.2.2.2.2 _ B5.out).mono ?_
 rintro e w6 ⟨rfl, b⟩
 have B6 := Lib.hid (B5.out.trans (b.mono B5.out.size)); clear b B5
 go_wp2
 go_ret2
 exact ⟨rfl, B6.out⟩
theorem radd_e3t (a b p q r s : ByteArray) (n d m c : Int) (x y z t : ByteArray) (f : Int) (w : World) (n1 : (f == 0) = false) (n2 : (f != 0) = true)
   (h1 : CqB w 59 #[.string a] (.tuple #[.int .i64 n, .int .i64 d, .bool true]))
   (h2 : CqB w 59 #[.string b] (.tuple #[.int .i64 m, .int .i64 c, .bool false]))
   (h3 : CqB w 61 #[.string a] (.tuple #[.string p, .string q]))
   (h4 : CqB w 61 #[.string b] (.tuple #[.string r, .string s]))
   (h5 : CqB w 66 #[.string p, .string s, .string r, .string q] (.tuple #[.string x, .string y, .int .i64 0]))
   (h6 : CqB w 66 #[.string q, .string s, .string ⟨#[49]⟩, .string ⟨#[49]⟩] (.tuple #[.string z, .string ⟨#[49]⟩, .int .i64 0]))
   (h7 : CqB w 91 #[.string x, .string y] (.tuple #[.string t, .int .i64 f])) :
   Calls Tryz.prog 57 #[.string a, .string b] w fun e W' => e = .returned (.tuple #[.string ⟨#[]⟩, .int .i64 f]) ∧ Below w.heap.size w W' := by
 have C := Lib.hid ((And.intro h1 (And.intro h2 (And.intro h3 (And.intro h4 (And.intro h5 (And.intro h6 h7))))))); clear h1 h2 h3 h4 h5 h6 h7
 have B0 := Lib.hid (Below.refl w.heap.size w)
 go_enter Tryz.func57, Tryz.ntmps57
 go_wp2_with fail
 refine (C.out.1 _ B0.out).mono ?_
 rintro e w1 ⟨rfl, b⟩
 have B1 := Lib.hid (B0.out.trans (b.mono B0.out.size)); clear b B0
 go_wp2_with fail
 refine (C.out.2.1 _ B1.out).mono ?_
 rintro e w2 ⟨rfl, b⟩
 have B2 := Lib.hid (B1.out.trans (b.mono B1.out.size)); clear b B1
 go_wp2_with fail
 refine (C.out.2.2.1 _ B2.out).mono ?_
 rintro e w3 ⟨rfl, b⟩
 have B3 := Lib.hid (B2.out.trans (b.mono B2.out.size)); clear b B2
 go_wp2_with fail
 refine (C.out.2.2.2.1 _ B3.out).mono ?_
 rintro e w4 ⟨rfl, b⟩
 have B4 := Lib.hid (B3.out.trans (b.mono B3.out.size)); clear b B3
 go_wp2_with fail
 refine (C.out.2.2.2.2.1 _ B4.out).mono ?_
 rintro e w5 ⟨rfl, b⟩
 have B5 := Lib.hid (B4.out.trans (b.mono B4.out.size)); clear b B4
 go_wp2_with fail
 refine (C.out.2.2.2.2.2.1 _ B5.out).mono ?_
 rintro e w6 ⟨rfl, b⟩
 have B6 := Lib.hid (B5.out.trans (b.mono B5.out.size)); clear b B5
 go_wp2_with fail
 refine (C.out.2.2.2.2.2.2 _ B6.out).mono ?_
 rintro e w7 ⟨rfl, b⟩
 have B7 := Lib.hid (B6.out.trans (b.mono B6.out.size)); clear b B6
 go_wp2
 go_ret2
 exact ⟨rfl, B7.out⟩
theorem radd_okt (a b p q r s : ByteArray) (n d m c : Int) (x y z t u : ByteArray) (f : Int) (w : World)
   (h1 : CqB w 59 #[.string a] (.tuple #[.int .i64 n, .int .i64 d, .bool true]))
   (h2 : CqB w 59 #[.string b] (.tuple #[.int .i64 m, .int .i64 c, .bool false]))
   (h3 : CqB w 61 #[.string a] (.tuple #[.string p, .string q]))
   (h4 : CqB w 61 #[.string b] (.tuple #[.string r, .string s]))
   (h5 : CqB w 66 #[.string p, .string s, .string r, .string q] (.tuple #[.string x, .string y, .int .i64 0]))
   (h6 : CqB w 66 #[.string q, .string s, .string ⟨#[49]⟩, .string ⟨#[49]⟩] (.tuple #[.string z, .string ⟨#[49]⟩, .int .i64 0]))
   (h7 : CqB w 91 #[.string x, .string y] (.tuple #[.string t, .int .i64 0]))
   (h8 : CqB w 78 #[.string t, .string z] (.tuple #[.string u, .int .i64 f])) :
   Calls Tryz.prog 57 #[.string a, .string b] w fun e W' => e = .returned (.tuple #[.string u, .int .i64 f]) ∧ Below w.heap.size w W' := by
 have C := Lib.hid ((And.intro h1 (And.intro h2 (And.intro h3 (And.intro h4 (And.intro h5 (And.intro h6 (And.intro h7 h8)))))))); clear h1 h2 h3 h4 h5 h6 h7 h8
 have B0 := Lib.hid (Below.refl w.heap.size w)
 go_enter Tryz.func57, Tryz.ntmps57
 go_wp2_with fail
 refine (C.out.1 _ B0.out).mono ?_
 rintro e w1 ⟨rfl, b⟩
 have B1 := Lib.hid (B0.out.trans (b.mono B0.out.size)); clear b B0
 go_wp2_with fail
 refine (C.out.2.1 _ B1.out).mono ?_
 rintro e w2 ⟨rfl, b⟩
 have B2 := Lib.hid (B1.out.trans (b.mono B1.out.size)); clear b B1
 go_wp2_with fail
 refine (C.out.2.2.1 _ B2.out).mono ?_
 rintro e w3 ⟨rfl, b⟩
 have B3 := Lib.hid (B2.out.trans (b.mono B2.out.size)); clear b B2
 go_wp2_with fail
 refine (C.out.2.2.2.1 _ B3.out).mono ?_
 rintro e w4 ⟨rfl, b⟩
 have B4 := Lib.hid (B3.out.trans (b.mono B3.out.size)); clear b B3
 go_wp2_with fail
 refine (C.out.2.2.2.2.1 _ B4.out).mono ?_
 rintro e w5 ⟨rfl, b⟩
 have B5 := Lib.hid (B4.out.trans (b.mono B4.out.size)); clear b B4
 go_wp2_with fail
 refine (C.out.2.2.2.2.2.1 _ B5.out).mono ?_
 rintro e w6 ⟨rfl, b⟩
 have B6 := Lib.hid (B5.out.trans (b.mono B5.out.size)); clear b B5
 go_wp2_with fail
 refine (C.out.2.2.2.2.2.2.1 _ B6.out).mono ?_
 rintro e w7 ⟨rfl, b⟩
 have B7 := Lib.hid (B6.out.trans (b.mono B6.out.size)); clear b B6
 go_wp2_with fail
 refine (C.out.2.2.2.2.2.2.2 _ B7.out).mono ?_
 rintro e w8 ⟨rfl, b⟩
 have B8 := Lib.hid (B7.out.trans (b.mono B7.out.size)); clear b B7
 go_wp2
 go_ret2
 exact ⟨rfl, B8.out⟩
theorem short18 {z : Int} (h : -1000000000000000000 < z ∧ z < 1000000000000000000) : short z := short_m (by omega)
theorem short19 {z : Int} (h : z.natAbs < 9223372036854775808) : short z := short_m h
theorem inO_i {x : Rat} (h : inO x = true) : (-1000000000 < x.num ∧ x.num < 1000000000) ∧ (0 < (x.den : Int) ∧ (x.den : Int) < 1000000000) := by
 obtain ⟨h1, h2⟩ := inO_b h
 have := x.den_nz
 omega
theorem ints_yes {x : Rat} (w : World) (hx : Sq x) (ho : inO x = true) :
   Calls Tryz.prog 59 #[.string (strQ x)] w fun e w' => e = .returned (.tuple #[.int .i64 x.num, .int .i64 (x.den : Int), .bool true]) ∧ Below w.heap.size w w' := by
 have c := ints_q x w hx
 rwa [ho, if_pos rfl, if_pos rfl] at c
theorem LE_no {z : Int} (h : ¬ short z) : LB (mkL z) = ⟨#[]⟩ ∧ LE (mkL z) = 4 := by
 rw [show mkL z = none from if_neg h]; exact ⟨rfl, rfl⟩
theorem LE_yes {z : Int} (h : short z) : LB (mkL z) = strB z ∧ LE (mkL z) = 0 := by
 rw [mkL_some h]; exact ⟨rfl, rfl⟩
theorem products_yes (a b c d : Int) (w : World) (ha : short a) (hb : short b) (hc : short c) (hd : short d) (h1 : short (a * b)) (h2 : short (c * d)) (ht : Tab w) :
   Calls Tryz.prog 66 #[.string (strB a), .string (strB b), .string (strB c), .string (strB d)] w fun e W' => e = .returned (.tuple #[.string (strB (a * b)), .string (strB (c * d)), .int .i64 0]) ∧ Below w.heap.size w W' := by
 have k := products_q a b c d w ha hb hc hd ht
 rwa [if_pos h1, if_pos h1, if_pos h1, (LE_yes h2).1, (LE_yes h2).2] at k
def prodX (a b : Int) : ByteArray := if short (a * b) then strB (a * b) else ⟨#[]⟩
def prodY (a b c d : Int) : ByteArray := if short (a * b) then LB (mkL (c * d)) else ⟨#[]⟩
theorem products_no' (a b c d : Int) (w : World) (ha : short a) (hb : short b) (hc : short c) (hd : short d) (h : ¬ (short (a * b) ∧ short (c * d))) (ht : Tab w) :
   Calls Tryz.prog 66 #[.string (strB a), .string (strB b), .string (strB c), .string (strB d)] w fun e W' => e = .returned (.tuple #[.string (prodX a b), .string (prodY a b c d), .int .i64 4]) ∧ Below w.heap.size w W' := by
 have k := products_q a b c d w ha hb hc hd ht
 have e : (if short (a * b) then LE (mkL (c * d)) else 4) = 4 := by
   by_cases h1 : short (a * b)
   · rw [if_pos h1, (LE_no (fun q => h ⟨h1, q⟩)).2]
   · rw [if_neg h1]
 rwa [e] at k
theorem short_one : short 1 := short_m (by decide)
theorem qaddB_ok {x y : Rat} (h : crossOK x y) (h1 : short (x.num * y.den + y.num * x.den)) (h2 : short ((x.den : Int) * y.den)) : qaddB x y = strQ (Rat.divInt (x.num * y.den + y.num * x.den) (x.den * y.den)) ∧ qaddE x y = 0 := by
 unfold qaddB qaddE lowB lowE
 rw [if_pos h, if_pos h, if_pos ⟨h1, h2⟩, if_pos ⟨h1, h2⟩]; exact ⟨rfl, rfl⟩
theorem qaddB_no {x y : Rat} (h : ¬ (crossOK x y ∧ short (x.num * y.den + y.num * x.den) ∧ short ((x.den : Int) * y.den))) : qaddB x y = ⟨#[]⟩ ∧ qaddE x y = 4 := by
 unfold qaddB qaddE lowB lowE
 by_cases hc : crossOK x y
 · have h' : ¬ (short (x.num * y.den + y.num * x.den) ∧ short ((x.den : Int) * y.den)) := fun q => h ⟨hc, q⟩
   rw [if_pos hc, if_pos hc, if_neg h', if_neg h']; exact ⟨rfl, rfl⟩
 · rw [if_neg hc, if_neg hc]; exact ⟨rfl, rfl⟩
theorem den_nez (x y : Rat) : ((x.den : Int) * y.den) ≠ 0 := den_ne x y
theorem den_pp (x y : Rat) : 0 < ((x.den : Int) * y.den) := by
 have h1 := x.den_nz; have h2 := y.den_nz
 exact Int.mul_pos (by omega) (by omega)
theorem radd_q (x y : Rat) (w : World) (hx : Sq x) (hy : Sq y) (ht : Tab w) :
   Calls Tryz.prog 57 #[.string (strQ x), .string (strQ y)] w fun e W' => e = .returned (.tuple #[.string (qaddB x y), .int .i64 (qaddE x y)]) ∧ Below w.heap.size w W' := by
 have hi := fun W (_ : Below w.heap.size w W) => ints_q x W hx
 have hj := fun W (_ : Below w.heap.size w W) => ints_q y W hy
 have hp := fun W (_ : Below w.heap.size w W) => parts_q x W hx
 have hr := fun W (_ : Below w.heap.size w W) => parts_q y W hy
 cases ox : inO x
 · rw [ox] at hi
   by_cases hc : crossOK x y
   · have P1 := fun W (hW : Below w.heap.size w W) => products_yes x.num y.den y.num x.den W hx.n hy.d hy.n hx.d hc.1 hc.2 (ht.next hW)
     by_cases h2 : short ((x.den : Int) * y.den)
     · have P2 := fun W (hW : Below w.heap.size w W) => products_yes x.den y.den 1 1 W hx.d hy.d short_one short_one h2 short_one (ht.next hW)
       rw [Int.mul_one, strB_one] at P2
       have A1 := fun W (hW : Below w.heap.size w W) => AddR_res (x.num * y.den) (y.num * x.den) W hc.1 hc.2 (ht.next hW)
       by_cases h1 : short (x.num * y.den + y.num * x.den)
       · rw [(qaddB_ok hc h1 h2).1, (qaddB_ok hc h1 h2).2]
         rw [(LE_yes h1).1, (LE_yes h1).2] at A1
         have M := fun W (hW : Below w.heap.size w W) => make2_q (x.num * y.den + y.num * x.den) (x.den * y.den) W h1 h2 (den_nez x y) (ht.next hW)
         exact radd_okf _ _ _ _ _ _ _ _ _ _ _ _ _ _ _ _ _ w hi hj hp hr P1 P2 A1 M
       · have hn := qaddB_no (x := x) (y := y) (fun q => h1 q.2.1)
         rw [hn.1, hn.2]
         rw [(LE_no h1).1, (LE_no h1).2] at A1
         exact radd_e3f _ _ _ _ _ _ _ _ _ _ _ _ _ _ _ 4 w (by decide) (by decide) hi hj hp hr P1 P2 A1
     · have hn := qaddB_no (x := x) (y := y) (fun q => h2 q.2.2)
       rw [hn.1, hn.2]
       have P2 := fun W (hW : Below w.heap.size w W) => products_no' x.den y.den 1 1 W hx.d hy.d short_one short_one (fun q => h2 q.1) (ht.next hW)
       rw [strB_one] at P2
       exact radd_e2f _ _ _ _ _ _ _ _ _ _ _ _ _ _ _ 4 w (by decide) (by decide) hi hj hp hr P1 P2
   · have hn := qaddB_no (x := x) (y := y) (fun q => hc q.1)
     rw [hn.1, hn.2]
     have P1 := fun W (hW : Below w.heap.size w W) => products_no' x.num y.den y.num x.den W hx.n hy.d hy.n hx.d hc (ht.next hW)
     exact radd_e1f _ _ _ _ _ _ _ _ _ _ _ _ _ 4 w (by decide) (by decide) hi hj hp hr P1
 · cases oy : inO y
   · rw [ox] at hi
     rw [oy] at hj
     by_cases hc : crossOK x y
     · have P1 := fun W (hW : Below w.heap.size w W) => products_yes x.num y.den y.num x.den W hx.n hy.d hy.n hx.d hc.1 hc.2 (ht.next hW)
       by_cases h2 : short ((x.den : Int) * y.den)
       · have P2 := fun W (hW : Below w.heap.size w W) => products_yes x.den y.den 1 1 W hx.d hy.d short_one short_one h2 short_one (ht.next hW)
         rw [Int.mul_one, strB_one] at P2
         have A1 := fun W (hW : Below w.heap.size w W) => AddR_res (x.num * y.den) (y.num * x.den) W hc.1 hc.2 (ht.next hW)
         by_cases h1 : short (x.num * y.den + y.num * x.den)
         · rw [(qaddB_ok hc h1 h2).1, (qaddB_ok hc h1 h2).2]
           rw [(LE_yes h1).1, (LE_yes h1).2] at A1
           have M := fun W (hW : Below w.heap.size w W) => make2_q (x.num * y.den + y.num * x.den) (x.den * y.den) W h1 h2 (den_nez x y) (ht.next hW)
           exact radd_okt _ _ _ _ _ _ _ _ _ _ _ _ _ _ _ _ w hi hj hp hr P1 P2 A1 M
         · have hn := qaddB_no (x := x) (y := y) (fun q => h1 q.2.1)
           rw [hn.1, hn.2]
           rw [(LE_no h1).1, (LE_no h1).2] at A1
           exact radd_e3t _ _ _ _ _ _ _ _ _ _ _ _ _ _ 4 w (by decide) (by decide) hi hj hp hr P1 P2 A1
       · have hn := qaddB_no (x := x) (y := y) (fun q => h2 q.2.2)
         rw [hn.1, hn.2]
         have P2 := fun W (hW : Below w.heap.size w W) => products_no' x.den y.den 1 1 W hx.d hy.d short_one short_one (fun q => h2 q.1) (ht.next hW)
         rw [strB_one] at P2
         exact radd_e2t _ _ _ _ _ _ _ _ _ _ _ _ _ _ 4 w (by decide) (by decide) hi hj hp hr P1 P2
     · have hn := qaddB_no (x := x) (y := y) (fun q => hc q.1)
       rw [hn.1, hn.2]
       have P1 := fun W (hW : Below w.heap.size w W) => products_no' x.num y.den y.num x.den W hx.n hy.d hy.n hx.d hc (ht.next hW)
       exact radd_e1t _ _ _ _ _ _ _ _ _ _ _ _ 4 w (by decide) (by decide) hi hj hp hr P1
   · have hi := fun W (_ : Below w.heap.size w W) => ints_yes W hx ox
     have hj := fun W (_ : Below w.heap.size w W) => ints_yes W hy oy
     obtain ⟨bx, cx⟩ := inO_i ox
     obtain ⟨bu, cu⟩ := inO_i oy
     have z1 := mul9 (x := x.num) (y := y.den) (by omega) (by omega)
     have z2 := mul9 (x := y.num) (y := x.den) (by omega) (by omega)
     have z3 := mul9 (x := x.den) (y := y.den) (by omega) (by omega)
     have z4 := den_pp x y
     rw [(qaddB_ok (x := x) (y := y) ⟨short18 z1, short18 z2⟩ (short19 (by omega)) (short18 z3)).1, (qaddB_ok (x := x) (y := y) ⟨short18 z1, short18 z2⟩ (short19 (by omega)) (short18 z3)).2]
     exact radd_s _ _ _ _ _ _ _ w bx cx bu cu hi hj (fun W _ => quick_any _ _ W (by omega) z4 (by omega))
theorem strB_min {z : Int} (h : z < 0) : strB z = ⟨#[45]⟩ ++ strB (-z) := by
 have e := neg_str h
 rw [show ((z.natAbs : Nat) : Int) = -z by omega] at e
 exact e.symm
theorem decDigits_step {m : Nat} (h : 10 ≤ m) : Lib.decDigits m = Lib.decDigits (m / 10) ++ Lib.decDigits (m % 10) := by
 conv => lhs; unfold Lib.decDigits
 rw [dif_neg (by omega), Lib.decDigits_one (Nat.mod_lt _ (by decide))]
theorem strB_step {n : Int} (h : n ≤ -10) : strB n = strB (n.tdiv 10) ++ strB (-(n.tmod 10)) := by
 obtain ⟨m, rfl⟩ : ∃ m : Nat, n = -(m : Int) := ⟨n.natAbs, by omega⟩
 have hm : 10 ≤ m := by omega
 have e1 : (-(m : Int)).tdiv 10 = -((m / 10 : Nat) : Int) := by rw [Int.neg_tdiv]; rfl
 have e2 : (-(m : Int)).tmod 10 = -((m % 10 : Nat) : Int) := by rw [Int.neg_tmod]; rfl
 rw [e1, e2, Int.neg_neg]
 apply bytes_ext
 rw [append_data, strB_data, strB_data, strB_data]
 unfold Lib.itoa
 rw [if_pos (by omega), if_pos (by omega), if_neg (by omega)]
 rw [show (-(m : Int)).natAbs = m by omega, show (-((m / 10 : Nat) : Int)).natAbs = m / 10 by omega, Int.toNat_natCast, decDigits_step hm]; rfl
theorem rtext_any : ∀ (k : Nat) (n : Int), n.natAbs ≤ k → I64 n → ∀ (w : World), Calls Tryz.prog 79 #[.int .i64 n] w fun e W' => e = .returned (.string (strB n)) ∧ Below w.heap.size w W' := by
 intro k
 induction k with
 | zero =>
   intro n hk hn w
   obtain rfl : n = 0 := by omega
   have C := Lib.hid (fun W => decimal_any 0 W (by decide))
   go_enter Tryz.func79, Tryz.ntmps79
   go_wp2_with fail
   refine (C.out _).mono ?_
   rintro e w1 ⟨rfl, b⟩
   have H1 := Lib.hid b; clear b
   go_wp2
   go_ret
   exact ⟨rfl, H1.out⟩
 | succ k ih =>
   intro n hk hn w
   obtain ⟨n1, n2⟩ := hn
   have B0 := Lib.hid (Below.refl w.heap.size w)
   by_cases h0 : 0 ≤ n
   · obtain ⟨m, rfl⟩ : ∃ m : Nat, n = m := ⟨n.toNat, by omega⟩
     have C := Lib.hid (fun W => decimal_any m W (by omega))
     clear ih
     go_enter Tryz.func79, Tryz.ntmps79
     go_wp2_with fail
     refine (C.out _).mono ?_
     rintro e w1 ⟨rfl, b⟩
     have H1 := Lib.hid b; clear b
     go_wp2
     go_ret
     exact ⟨rfl, H1.out⟩
   · by_cases h1 : -10 < n
     · have C := Lib.hid (fun W => decimal_any n.natAbs W (by omega))
       rw [show ((n.natAbs : Nat) : Int) = -n by omega] at C
       have hq : n.tdiv 10 = 0 := by
         rw [show n = -(-n) by omega, Int.neg_tdiv, Int.tdiv_eq_zero_of_lt (by omega) (by omega)]; rfl
       have e := strB_min (z := n) (by omega)
       have sz := s1000 (z := -n) (short_m (by omega))
       rw [e]
       clear ih e
       generalize strB (-n) = s at *
       go_enter Tryz.func79, Tryz.ntmps79
       go_wp2_with fail
       refine (C.out _).mono ?_
       rintro e w1 ⟨rfl, b⟩
       have H1 := Lib.hid b; clear b
       go_wp2
       go_ret
       exact ⟨rfl, H1.out⟩
     · have e := strB_step (n := n) (by omega)
       have q0 : n.tdiv 10 ≠ 0 ∧ (n.tdiv 10).natAbs ≤ k ∧ -922337203685477581 < n.tdiv 10 ∧ n.tdiv 10 < 0 := by
         obtain ⟨m, rfl⟩ : ∃ m : Nat, n = -(m : Int) := ⟨n.natAbs, by omega⟩
         have e1 : (-(m : Int)).tdiv 10 = -((m / 10 : Nat) : Int) := by rw [Int.neg_tdiv]; rfl
         rw [e1]; omega
       have r0 : -10 < n.tmod 10 ∧ n.tmod 10 ≤ 0 := by
         obtain ⟨m, rfl⟩ : ∃ m : Nat, n = -(m : Int) := ⟨n.natAbs, by omega⟩
         have e2 : (-(m : Int)).tmod 10 = -((m % 10 : Nat) : Int) := by rw [Int.neg_tmod]; rfl
         rw [e2]; omega
       have C1 := ih (n.tdiv 10) q0.2.1 ⟨by omega, by omega⟩
       have C2 := fun W => decimal_any (-(n.tmod 10)).toNat W (by omega)
       rw [show ((((-(n.tmod 10)).toNat) : Nat) : Int) = -(n.tmod 10) by omega] at C2
       have z1 := s1000 (z := n.tdiv 10) (short_m (by omega))
       have z2 := s1000 (z := -(n.tmod 10)) (short_m (by omega))
       have C := Lib.hid (And.intro C1 C2)
       rw [e]
       obtain ⟨q1, q2, q3, q4⟩ := q0
       obtain ⟨r1, r2⟩ := r0
       clear ih e C1 C2 q2
       have q1' : (n.tdiv 10 == 0) = false := by rw [beq_eq_false_iff_ne]; exact q1
       generalize strB (n.tdiv 10) = s at *
       generalize strB (-(n.tmod 10)) = t at *
       go_enter Tryz.func79, Tryz.ntmps79
       go_wp2_with fail
       refine (C.out.1 _).mono ?_
       rintro e w1 ⟨rfl, b⟩
       have H1 := Lib.hid b; clear b
       go_wp2_with fail
       refine (C.out.2 _).mono ?_
       rintro e w2 ⟨rfl, b⟩
       have H2 := Lib.hid (H1.out.trans (b.mono H1.out.size)); clear b
       go_wp2
       go_ret
       exact ⟨rfl, H2.out⟩
theorem rOf_zero (n : Int) (w : World) : Calls Tryz.prog 27 #[.int .i64 n, .int .i64 0] w fun e W' => e = .returned (.tuple #[.string ⟨#[]⟩, .int .i64 12]) ∧ Below w.heap.size w W' := by
 go_enter Tryz.func27, Tryz.ntmps27
 go_wp2
 go_ret2
 exact ⟨rfl, Below.refl _ _⟩
theorem rOf_q (n d : Int) (w : World) (hn : I64 n) (hd : I64 d) (h0 : d ≠ 0) (ht : Tab w) :
   Calls Tryz.prog 27 #[.int .i64 n, .int .i64 d] w fun e W' => e = .returned (.tuple #[.string (strQ (Rat.divInt n d)), .int .i64 0]) ∧ Below w.heap.size w W' := by
 have n0 : (d == 0) = false := by rw [beq_eq_false_iff_ne]; exact h0
 by_cases h : (-4611686018427387904 < n ∧ n < 4611686018427387904) ∧ 0 < d ∧ d < 4611686018427387904
 · obtain ⟨⟨a1, a2⟩, a3, a4⟩ := h
   have C := Lib.hid (fun W => quick_any n d W (by omega) a3 (by omega))
   clear hn hd h0 ht
   generalize strQ (Rat.divInt n d) = r at *
   go_enter Tryz.func27, Tryz.ntmps27
   go_wp2_with fail
   refine (C.out _).mono ?_
   rintro e w1 ⟨rfl, b⟩
   have H1 := Lib.hid b; clear b
   go_wp2
   go_ret2
   exact ⟨rfl, H1.out⟩
 · have c1 := fun W => rtext_any n.natAbs n (Nat.le_refl _) hn W
   have c2 := fun W => rtext_any d.natAbs d (Nat.le_refl _) hd W
   have c3 := fun W (hW : Below w.heap.size w W) => make2_q n d W hn.short hd.short h0 (ht.next hW)
   have C := Lib.hid (And.intro c1 (And.intro c2 c3))
   have hh : ¬ -4611686018427387904 < n ∨ (-4611686018427387904 < n ∧ ¬ n < 4611686018427387904) ∨ (-4611686018427387904 < n ∧ n < 4611686018427387904 ∧ ¬ 0 < d) ∨ (-4611686018427387904 < n ∧ n < 4611686018427387904 ∧ 0 < d ∧ ¬ d < 4611686018427387904) := by omega
   clear c1 c2 c3 hn hd h0 ht h
   generalize strQ (Rat.divInt n d) = r at *
   generalize strB n = sn at *
   generalize strB d = sd at *
   rcases hh with h1 | ⟨h1, h2⟩ | ⟨h1, h2, h3⟩ | ⟨h1, h2, h3, h4⟩
   all_goals
     go_enter Tryz.func27, Tryz.ntmps27
     go_wp2_with fail
     refine (C.out.1 _).mono ?_
     rintro e w1 ⟨rfl, b⟩
     have H1 := Lib.hid b; clear b
     go_wp2_with fail
     refine (C.out.2.1 _).mono ?_
     rintro e w2 ⟨rfl, b⟩
     have H2 := Lib.hid (H1.out.trans (b.mono H1.out.size)); clear b H1
     go_wp2_with fail
     refine (C.out.2.2 _ H2.out).mono ?_
     rintro e w3 ⟨rfl, b⟩
     have H3 := Lib.hid (H2.out.trans (b.mono H2.out.size)); clear b H2
     go_wp2
     go_ret2
     exact ⟨rfl, H3.out⟩
theorem rParts_bad (a : ByteArray) (f : Int) (w : World) (n1 : (f == 0) = false) (n2 : (f != 0) = true)
   (h1 : CqB w 24 #[.string a] (.int .i64 f)) :
   Calls Tryz.prog 29 #[.string a] w fun e W' => e = .returned (.tuple #[.string ⟨#[]⟩, .string ⟨#[]⟩, .int .i64 f]) ∧ Below w.heap.size w W' := by
 have C := Lib.hid h1; clear h1
 go_enter Tryz.func29, Tryz.ntmps29
 go_wp2_with fail
 refine (C.out _ (Below.refl _ _)).mono ?_
 rintro e w1 ⟨rfl, b⟩
 have H1 := Lib.hid b; clear b
 go_wp2
 go_ret3
 exact ⟨rfl, H1.out⟩
theorem rParts_ok (a n d : ByteArray) (w : World)
   (h1 : CqB w 24 #[.string a] (.int .i64 0))
   (h2 : CqB w 61 #[.string a] (.tuple #[.string n, .string d])) :
   Calls Tryz.prog 29 #[.string a] w fun e W' => e = .returned (.tuple #[.string n, .string d, .int .i64 0]) ∧ Below w.heap.size w W' := by
 have C := Lib.hid (And.intro h1 h2); clear h1 h2
 go_enter Tryz.func29, Tryz.ntmps29
 go_wp2_with fail
 refine (C.out.1 _ (Below.refl _ _)).mono ?_
 rintro e w1 ⟨rfl, b⟩
 have H1 := Lib.hid b; clear b
 go_wp2_with fail
 refine (C.out.2 _ H1.out).mono ?_
 rintro e w2 ⟨rfl, b⟩
 have H2 := Lib.hid (H1.out.trans (b.mono H1.out.size)); clear b H1
 go_wp2
 go_ret3
 exact ⟨rfl, H2.out⟩
theorem pa_num {a : ByteArray} (h : chkQ a.data.toList = 0) : paN a = strB (rat a).num ∧ paD a = strB ((rat a).den : Int) := by
 unfold paN paD
 rw [if_pos h, if_pos h, ← bN_strQ, ← bD_strQ, chkQ_str h]; exact ⟨rfl, rfl⟩
theorem pa_bad {a : ByteArray} (h : chkQ a.data.toList ≠ 0) : paN a = ⟨#[]⟩ ∧ paD a = ⟨#[]⟩ := by
 unfold paN paD; rw [if_neg h, if_neg h]; exact ⟨rfl, rfl⟩
theorem rParts_any (a : ByteArray) (w : World) (ha : a.size ≤ maxLen) (ht : Tab w) :
   Calls Tryz.prog 29 #[.string a] w fun e W' => e = .returned (.tuple #[.string (paN a), .string (paD a), .int .i64 (chkQ a.data.toList)]) ∧ Below w.heap.size w W' := by
 have hk := fun W (hW : Below w.heap.size w W) => Check2_any a W ha (ht.next hW)
 by_cases h : chkQ a.data.toList = 0
 · rw [(pa_num h).1, (pa_num h).2]
   rw [h] at hk ⊢
   have c := fun W (_ : Below w.heap.size w W) => parts_q (rat a) W (chkQ_sq h)
   rw [chkQ_str h] at c
   exact rParts_ok a _ _ w hk c
 · rw [(pa_bad h).1, (pa_bad h).2]
   exact rParts_bad a _ w (bool_ne h).1 (bool_ne h).2 hk
theorem divInt_one (q : Int) : Rat.divInt q 1 = (q : Rat) := by
 have h := Rat.num_divInt_den (q : Rat)
 rwa [Rat.num_intCast, Rat.den_intCast] at h
theorem floor_neg {n d : Int} (hd : 0 < d) (h : n.tmod d < 0) : n.tdiv d - 1 = n.fdiv d := by
 have h2 := Int.mul_tdiv_add_tmod n d
 have h3 : -d < n.tmod d := by
   have := Int.lt_tmod_of_pos n hd; exact this
 rw [Int.fdiv_eq_ediv_of_nonneg _ (by omega)]
 refine ((Int.ediv_emod_unique (a := n) (b := d) (r := n.tmod d + d) (q := n.tdiv d - 1) hd).2 ⟨?_, by omega, by omega⟩).1.symm
 rw [Int.mul_sub, Int.mul_one]; omega
theorem floor_pos {n d : Int} (hd : 0 < d) (h : ¬ n.tmod d < 0) : n.tdiv d = n.fdiv d := by
 have h1 := Int.tmod_lt_of_pos n hd
 have h2 := Int.mul_tdiv_add_tmod n d
 rw [Int.fdiv_eq_ediv_of_nonneg _ (by omega)]
 refine ((Int.ediv_emod_unique (a := n) (b := d) (r := n.tmod d) (q := n.tdiv d) hd).2 ⟨?_, by omega, h1⟩).1.symm
 omega
theorem rFloor_bad (a : ByteArray) (f : Int) (w : World) (n1 : (f == 0) = false) (n2 : (f != 0) = true)
   (h1 : CqB w 24 #[.string a] (.int .i64 f)) :
   Calls Tryz.prog 33 #[.string a] w fun e W' => e = .returned (.tuple #[.string ⟨#[]⟩, .int .i64 f]) ∧ Below w.heap.size w W' := by
 have C := Lib.hid h1; clear h1
 go_enter Tryz.func33, Tryz.ntmps33
 go_wp2_with fail
 refine (C.out _ (Below.refl _ _)).mono ?_
 rintro e w1 ⟨rfl, b⟩
 have H1 := Lib.hid b; clear b
 go_wp2
 go_ret2
 exact ⟨rfl, H1.out⟩
theorem rFloor_s (a r : ByteArray) (n d q : Int) (neg : Bool) (w : World) (hn : -1000000000 < n ∧ n < 1000000000) (hd : 0 < d ∧ d < 1000000000) (hneg : decide (n.tmod d < 0) = neg) (hq : (if neg = true then n.tdiv d - 1 else n.tdiv d) = q)
   (h1 : CqB w 24 #[.string a] (.int .i64 0))
   (h2 : CqB w 59 #[.string a] (.tuple #[.int .i64 n, .int .i64 d, .bool true]))
   (h3 : CqB w 60 #[.int .i64 q, .int .i64 1] (.string r)) :
   Calls Tryz.prog 33 #[.string a] w fun e W' => e = .returned (.tuple #[.string r, .int .i64 0]) ∧ Below w.heap.size w W' := by
 have C := Lib.hid (And.intro h1 (And.intro h2 h3)); clear h1 h2 h3
 have d0 : ¬ d = 0 := by omega
 have d1 : (d == 0) = false := by rw [beq_eq_false_iff_ne]; exact d0
 have b1 : (n.tdiv d).natAbs ≤ n.natAbs := by rw [Int.natAbs_tdiv]; exact Nat.div_le_self _ _
 have b2 : -1000000000 < n.tdiv d ∧ n.tdiv d < 1000000000 := by omega
 have b3 : (n.tmod d).natAbs < 1000000000 := by
   rw [Int.natAbs_tmod]
   exact Nat.lt_of_lt_of_le (Nat.mod_lt _ (by omega)) (by omega)
 have b4 : -1000000000 < n.tmod d ∧ n.tmod d < 1000000000 := by omega
 obtain ⟨b5, b6⟩ := b2
 obtain ⟨b7, b8⟩ := b4
 clear b1 b3
 cases neg
 · have hm := of_decide_eq_false hneg
   rw [if_neg (by decide)] at hq
   subst hq
   clear hneg hn
   go_enter Tryz.func33, Tryz.ntmps33
   go_wp2_with fail
   refine (C.out.1 _ (Below.refl _ _)).mono ?_
   rintro e w1 ⟨rfl, b⟩
   have H1 := Lib.hid b; clear b
   go_wp2_with fail
   refine (C.out.2.1 _ H1.out).mono ?_
   rintro e w2 ⟨rfl, b⟩
   have H2 := Lib.hid (H1.out.trans (b.mono H1.out.size)); clear b H1
   go_wp2_with fail
   refine (C.out.2.2 _ H2.out).mono ?_
   rintro e w3 ⟨rfl, b⟩
   have H3 := Lib.hid (H2.out.trans (b.mono H2.out.size)); clear b H2
   go_wp2
   go_ret2
   exact ⟨rfl, H3.out⟩
 · have hm := of_decide_eq_true hneg
   rw [if_pos rfl] at hq
   subst hq
   clear hneg hn
   go_enter Tryz.func33, Tryz.ntmps33
   go_wp2_with fail
   refine (C.out.1 _ (Below.refl _ _)).mono ?_
   rintro e w1 ⟨rfl, b⟩
   have H1 := Lib.hid b; clear b
   go_wp2_with fail
   refine (C.out.2.1 _ H1.out).mono ?_
   rintro e w2 ⟨rfl, b⟩
   have H2 := Lib.hid (H1.out.trans (b.mono H1.out.size)); clear b H1
   go_wp2_with fail
   refine (C.out.2.2 _ H2.out).mono ?_
   rintro e w3 ⟨rfl, b⟩
   have H3 := Lib.hid (H2.out.trans (b.mono H2.out.size)); clear b H2
   go_wp2
   go_ret2
   exact ⟨rfl, H3.out⟩
theorem rFloor_l (a n d q r t : ByteArray) (x y : Int) (w : World)
   (h1 : CqB w 24 #[.string a] (.int .i64 0))
   (h2 : CqB w 59 #[.string a] (.tuple #[.int .i64 x, .int .i64 y, .bool false]))
   (h3 : CqB w 61 #[.string a] (.tuple #[.string n, .string d]))
   (h4 : CqB w 83 #[.string n, .string d] (.tuple #[.string q, .string r, .int .i64 0]))
   (h5 : CqB w 78 #[.string q, .string ⟨#[49]⟩] (.tuple #[.string t, .int .i64 0])) :
   Calls Tryz.prog 33 #[.string a] w fun e W' => e = .returned (.tuple #[.string t, .int .i64 0]) ∧ Below w.heap.size w W' := by
 have C := Lib.hid (And.intro h1 (And.intro h2 (And.intro h3 (And.intro h4 h5)))); clear h1 h2 h3 h4 h5
 go_enter Tryz.func33, Tryz.ntmps33
 go_wp2_with fail
 refine (C.out.1 _ (Below.refl _ _)).mono ?_
 rintro e w1 ⟨rfl, b⟩
 have H1 := Lib.hid b; clear b
 go_wp2_with fail
 refine (C.out.2.1 _ H1.out).mono ?_
 rintro e w2 ⟨rfl, b⟩
 have H2 := Lib.hid (H1.out.trans (b.mono H1.out.size)); clear b H1
 go_wp2_with fail
 refine (C.out.2.2.1 _ H2.out).mono ?_
 rintro e w3 ⟨rfl, b⟩
 have H3 := Lib.hid (H2.out.trans (b.mono H2.out.size)); clear b H2
 go_wp2_with fail
 refine (C.out.2.2.2.1 _ H3.out).mono ?_
 rintro e w4 ⟨rfl, b⟩
 have H4 := Lib.hid (H3.out.trans (b.mono H3.out.size)); clear b H3
 go_wp2_with fail
 refine (C.out.2.2.2.2 _ H4.out).mono ?_
 rintro e w5 ⟨rfl, b⟩
 have H5 := Lib.hid (H4.out.trans (b.mono H4.out.size)); clear b H4
 go_wp2
 go_ret2
 exact ⟨rfl, H5.out⟩
theorem strQ_div1 (q : Int) : strQ (Rat.divInt q 1) = strB q := by rw [divInt_one, strQ_int]
theorem rFloor_any (a : ByteArray) (w : World) (ha : a.size ≤ maxLen) (ht : Tab w) :
   Calls Tryz.prog 33 #[.string a] w fun e W' => e = .returned (.tuple #[.string (floB a), .int .i64 (chkQ a.data.toList)]) ∧ Below w.heap.size w W' := by
 have hk := fun W (hW : Below w.heap.size w W) => Check2_any a W ha (ht.next hW)
 unfold floB
 by_cases h : chkQ a.data.toList = 0
 · rw [if_pos h]
   rw [h] at hk ⊢
   have sx := chkQ_sq h
   have hi := fun W (_ : Below w.heap.size w W) => ints_q (rat a) W sx
   have hd0 : (0 : Int) < (rat a).den := by have := (rat a).den_nz; omega
   rw [chkQ_str h] at hi
   cases ho : inO (rat a)
   · rw [ho] at hi
     have hp := fun W (_ : Below w.heap.size w W) => parts_q (rat a) W sx
     rw [chkQ_str h] at hp
     have hv := fun W (hW : Below w.heap.size w W) => DivR_res (rat a).num (rat a).den W sx.n sx.d (by omega) (ht.next hW)
     have hm := fun W (hW : Below w.heap.size w W) => make2_q ((rat a).num.fdiv (rat a).den) 1 W (fdiv_short sx.n (by omega)) short_one (by decide) (ht.next hW)
     rw [strQ_div1, strB_one] at hm
     exact rFloor_l a _ _ _ _ _ _ _ w hk hi hp hv hm
   · have hi := fun W (_ : Below w.heap.size w W) => ints_yes W sx ho
     rw [chkQ_str h] at hi
     obtain ⟨bx, cx⟩ := inO_i ho
     have b1 : ((rat a).num.tdiv (rat a).den).natAbs ≤ (rat a).num.natAbs := by rw [Int.natAbs_tdiv]; exact Nat.div_le_self _ _
     by_cases hneg : (rat a).num.tmod (rat a).den < 0
     · rw [← floor_neg hd0 hneg]
       have hq := fun W (_ : Below w.heap.size w W) => quick_any ((rat a).num.tdiv (rat a).den - 1) 1 W (by omega) (by decide) (by decide)
       rw [strQ_div1] at hq
       exact rFloor_s a _ _ _ _ true w bx cx (decide_eq_true hneg) (if_pos rfl) hk hi hq
     · rw [← floor_pos hd0 hneg]
       have hq := fun W (_ : Below w.heap.size w W) => quick_any ((rat a).num.tdiv (rat a).den) 1 W (by omega) (by decide) (by decide)
       rw [strQ_div1] at hq
       exact rFloor_s a _ _ _ _ false w bx cx (decide_eq_false hneg) (if_neg (by decide)) hk hi hq
 · rw [if_neg h]
   exact rFloor_bad a _ w (bool_ne h).1 (bool_ne h).2 hk
end Go.Proofs.YtmafghdgmdbpnaaGreatDoor
