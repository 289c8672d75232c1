/- Parts of the proofs of the texts YtkjhaengllpaoaaGreatDoorZF. -/
import Derived.Lib.TrimByte
import Derived.Test.YtkjhaengllpaoaaGreatDoorRows
import Derived.Test.YtkjhaengllpaoaaGreatDoorCards
import Derived.Test.YtkjhaengllpaoaaGreatDoorTie
import Derived.ProofKit
import Derived.LaidMore
import Derived.OpenShut
import Derived.Stop.Joined
import Derived.Stop.LaidErr
import Derived.SevenTiedAt
import Derived.Below
import Derived.Test.YtkjhaengllpaoaaGreatDoorZB1
import Derived.Test.YtkjhaengllpaoaaGreatDoorZB10
import Derived.Test.YtkjhaengllpaoaaGreatDoorZB11
import Derived.Test.YtkjhaengllpaoaaGreatDoorZB12
import Derived.Test.YtkjhaengllpaoaaGreatDoorZB13
import Derived.Test.YtkjhaengllpaoaaGreatDoorZB14
import Derived.Test.YtkjhaengllpaoaaGreatDoorZB15
import Derived.Test.YtkjhaengllpaoaaGreatDoorZB16
import Derived.Test.YtkjhaengllpaoaaGreatDoorZB17
import Derived.Test.YtkjhaengllpaoaaGreatDoorZB18
import Derived.Test.YtkjhaengllpaoaaGreatDoorZB19
import Derived.Test.YtkjhaengllpaoaaGreatDoorZB2
import Derived.Test.YtkjhaengllpaoaaGreatDoorZB20
import Derived.Test.YtkjhaengllpaoaaGreatDoorZB21
import Derived.Test.YtkjhaengllpaoaaGreatDoorZB22
import Derived.Test.YtkjhaengllpaoaaGreatDoorZB23
import Derived.Test.YtkjhaengllpaoaaGreatDoorZB24
import Derived.Test.YtkjhaengllpaoaaGreatDoorZB25
import Derived.Test.YtkjhaengllpaoaaGreatDoorZB26
import Derived.Test.YtkjhaengllpaoaaGreatDoorZB3
import Derived.Test.YtkjhaengllpaoaaGreatDoorZB4
import Derived.Test.YtkjhaengllpaoaaGreatDoorZB5
import Derived.Test.YtkjhaengllpaoaaGreatDoorZB6
import Derived.Test.YtkjhaengllpaoaaGreatDoorZB7
import Derived.Test.YtkjhaengllpaoaaGreatDoorZB8
import Derived.Test.YtkjhaengllpaoaaGreatDoorZB9
set_option linter.all false
set_option maxRecDepth 100000
set_option maxHeartbeats 8000000
namespace Go.Proofs.YtkjhaengllpaoaaGreatDoor.T
open Go.Proofs.YtkjhaengllpaoaaGreatDoor Go Go.Lib
theorem dgs_ne {l : List UInt8} (h : dgs l = true) : l ≠ [] := by
 rintro rfl; cases h
end Go.Proofs.YtkjhaengllpaoaaGreatDoor.T
namespace Go.Proofs.YtkjhaengllpaoaaGreatDoor.T
open Go.Proofs.YtkjhaengllpaoaaGreatDoor Go Go.RowKit
theorem pfeet_no (s n : ByteArray) (w : World) (s1 : ¬ (90 : Int) < s.size)
   (h1 : ∀ W, Below w.heap.size w W → Calls Tryz.prog 54 #[.string s] W fun e W' => e = .returned (.tuple #[.string n, .bool false]) ∧ Below W.heap.size W W')
   : Calls Tryz.prog 22 #[.string s] w fun e W' => e = .returned (.tuple #[.string ⟨#[]⟩, .int .i64 3]) ∧ Below w.heap.size w W' := by
 have O := Lib.hid (h1); clear h1
 go_enter Tryz.func22, Tryz.ntmps22
 have HB := Lib.hid (Below.refl w.heap.size w)
 go_wp2_with fail
 refine (O.out _ HB.out).mono ?_
 rintro e w1 ⟨rfl, b⟩
 have HN := Lib.hid (HB.out.trans (b.mono HB.out.size)); clear HB b; have HB := HN; clear HN
 go_wp2
 go_ret2
 exact ⟨rfl, HB.out⟩
end Go.Proofs.YtkjhaengllpaoaaGreatDoor.T
namespace Go.Proofs.YtkjhaengllpaoaaGreatDoor.T
open Go.Proofs.YtkjhaengllpaoaaGreatDoor Go Go.RowKit
def rdF (x : Rat) : Rat := ((nr (x / tw) : Int) : Rat) * tw
theorem feet_parse (x : Rat) (hx : Bq 30 x) : Bq 100 (rdF x) ∧ ∀ (w : World), TabM w →
   (∀ W, Below w.heap.size w W → Calls Tryz.prog 21 #[.string (strQ x)] W fun e W' => e = .returned (.tuple #[.string (bO (ftT (nr (x / tw)))), .int .i64 0]) ∧ Below W.heap.size W W') ∧
   (∀ W, Below w.heap.size w W → Calls Tryz.prog 22 #[.string (bO (ftT (nr (x / tw))))] W fun e W' => e = .returned (.tuple #[.string (strQ (rdF x)), .int .i64 0]) ∧ Below W.heap.size W W') := by
 obtain ⟨_, _, a3⟩ := qdiv_ok hx tw_bq (by decide) tw_ne
 obtain ⟨_, _, b3⟩ := half_add a3 (by decide)
 have ub := nr_bd b3
 obtain ⟨_, _, hb⟩ := qmul_ok (Bq_int (by decide) ub) tw_bq (by decide)
 exact ⟨hb.up (by decide), fun w T => ⟨fun W hW => Feet_q x W (hx.up (by decide)) (T.next hW), fun W hW => pfeet_q _ W (ub.up (by decide)) (T.next hW)⟩⟩
end Go.Proofs.YtkjhaengllpaoaaGreatDoor.T
namespace Go.Proofs.YtkjhaengllpaoaaGreatDoor.T
open Go.Proofs.YtkjhaengllpaoaaGreatDoor Go Go.RowKit
theorem MeasureFeet_no (a s : ByteArray) (w : World)
   (h1 : ∀ W, Below w.heap.size w W → Calls Tryz.prog 10 #[.string a] W fun e W' => e = .returned (.bool false) ∧ Below W.heap.size W W')
   (h2 : ∀ W, Below w.heap.size w W → Calls Tryz.prog 11 #[] W fun e W' => e = .returned (.bool true) ∧ Below W.heap.size W W')
   : Calls Tryz.prog 6 #[.string a, .string s] w fun e W' => e = .returned (.bool true) ∧ Below w.heap.size w W' := by
 have O := Lib.hid (And.intro h1 (h2)); clear h1 h2
 go_enter Tryz.func6, Tryz.ntmps6
 have HB := Lib.hid (Below.refl w.heap.size w)
 go_wp2_with fail
 refine (O.out.1 _ HB.out).mono ?_
 rintro e w1 ⟨rfl, b⟩
 have HN := Lib.hid (HB.out.trans (b.mono HB.out.size)); clear HB b; have HB := HN; clear HN
 go_wp2_with fail
 refine (O.out.2 _ HB.out).mono ?_
 rintro e w2 ⟨rfl, b⟩
 have HN := Lib.hid (HB.out.trans (b.mono HB.out.size)); clear HB b; have HB := HN; clear HN
 go_wp2
 go_ret
 exact ⟨rfl, HB.out⟩
theorem MeasureFeet_long (a s : ByteArray) (w : World) (s1 : (60 : Int) < s.size)
   (h1 : ∀ W, Below w.heap.size w W → Calls Tryz.prog 10 #[.string a] W fun e W' => e = .returned (.bool true) ∧ Below W.heap.size W W')
   (h2 : ∀ W, Below w.heap.size w W → Calls Tryz.prog 11 #[] W fun e W' => e = .returned (.bool true) ∧ Below W.heap.size W W')
   : Calls Tryz.prog 6 #[.string a, .string s] w fun e W' => e = .returned (.bool true) ∧ Below w.heap.size w W' := by
 have O := Lib.hid (And.intro h1 (h2)); clear h1 h2
 go_enter Tryz.func6, Tryz.ntmps6
 have HB := Lib.hid (Below.refl w.heap.size w)
 go_wp2_with fail
 refine (O.out.1 _ HB.out).mono ?_
 rintro e w1 ⟨rfl, b⟩
 have HN := Lib.hid (HB.out.trans (b.mono HB.out.size)); clear HB b; have HB := HN; clear HN
 go_wp2_with fail
 refine (O.out.2 _ HB.out).mono ?_
 rintro e w2 ⟨rfl, b⟩
 have HN := Lib.hid (HB.out.trans (b.mono HB.out.size)); clear HB b; have HB := HN; clear HN
 go_wp2
 go_ret
 exact ⟨rfl, HB.out⟩
theorem MeasureFeet_bad (a s t b n : ByteArray) (w : World) (s1 : ¬ (60 : Int) < s.size)
   (h1 : ∀ W, Below w.heap.size w W → Calls Tryz.prog 10 #[.string a] W fun e W' => e = .returned (.bool true) ∧ Below W.heap.size W W')
   (h2 : ∀ W, Below w.heap.size w W → Calls Tryz.prog 21 #[.string a] W fun e W' => e = .returned (.tuple #[.string t, .int .i64 0]) ∧ Below W.heap.size W W')
   (h3 : ∀ W, Below w.heap.size w W → Calls Tryz.prog 22 #[.string t] W fun e W' => e = .returned (.tuple #[.string b, .int .i64 0]) ∧ Below W.heap.size W W')
   (h4 : ∀ W, Below w.heap.size w W → Calls Tryz.prog 23 #[.string b, .string ⟨#[49, 50, 55, 47, 54, 48]⟩] W fun e W' => e = .returned (.tuple #[.string n, .int .i64 0]) ∧ Below W.heap.size W W')
   (h5 : ∀ W, Below w.heap.size w W → Calls Tryz.prog 24 #[.string n] W fun e W' => e = .returned (.tuple #[.string n, .int .i64 0]) ∧ Below W.heap.size W W')
   (h6 : ∀ W, Below w.heap.size w W → Calls Tryz.prog 14 #[.string b, .string a, .string ⟨#[49, 50, 55, 47, 54, 48]⟩] W fun e W' => e = .returned (.bool true) ∧ Below W.heap.size W W')
   (h7 : ∀ W, Below w.heap.size w W → Calls Tryz.prog 22 #[.string s] W fun e W' => e = .returned (.tuple #[.string ⟨#[]⟩, .int .i64 3]) ∧ Below W.heap.size W W')
   (h8 : ∀ W, Below w.heap.size w W → Calls Tryz.prog 11 #[] W fun e W' => e = .returned (.bool true) ∧ Below W.heap.size W W')
   : Calls Tryz.prog 6 #[.string a, .string s] w fun e W' => e = .returned (.bool true) ∧ Below w.heap.size w W' := by
 have O := Lib.hid (And.intro h1 (And.intro h2 (And.intro h3 (And.intro h4 (And.intro h5 (And.intro h6 (And.intro h7 (h8)))))))); clear h1 h2 h3 h4 h5 h6 h7 h8
 have hm4 := mx4m
 go_enter Tryz.func6, Tryz.ntmps6
 have HB := Lib.hid (Below.refl w.heap.size w)
 go_wp2_with fail
 refine (O.out.1 _ HB.out).mono ?_
 rintro e w1 ⟨rfl, b⟩
 have HN := Lib.hid (HB.out.trans (b.mono HB.out.size)); clear HB b; have HB := HN; clear HN
 go_wp2_with fail
 refine (O.out.2.1 _ HB.out).mono ?_
 rintro e w2 ⟨rfl, b⟩
 have HN := Lib.hid (HB.out.trans (b.mono HB.out.size)); clear HB b; have HB := HN; clear HN
 go_wp2_with fail
 refine (O.out.2.2.1 _ HB.out).mono ?_
 rintro e w3 ⟨rfl, b⟩
 have HN := Lib.hid (HB.out.trans (b.mono HB.out.size)); clear HB b; have HB := HN; clear HN
 go_wp2_with fail
 refine (O.out.2.2.2.1 _ HB.out).mono ?_
 rintro e w4 ⟨rfl, b⟩
 have HN := Lib.hid (HB.out.trans (b.mono HB.out.size)); clear HB b; have HB := HN; clear HN
 go_wp2_with fail
 refine (O.out.2.2.2.2.1 _ HB.out).mono ?_
 rintro e w5 ⟨rfl, b⟩
 have HN := Lib.hid (HB.out.trans (b.mono HB.out.size)); clear HB b; have HB := HN; clear HN
 go_wp2_with fail
 refine (O.out.2.2.2.2.2.1 _ HB.out).mono ?_
 rintro e w6 ⟨rfl, b⟩
 have HN := Lib.hid (HB.out.trans (b.mono HB.out.size)); clear HB b; have HB := HN; clear HN
 go_wp2_with fail
 refine (O.out.2.2.2.2.2.2.1 _ HB.out).mono ?_
 rintro e w7 ⟨rfl, b⟩
 have HN := Lib.hid (HB.out.trans (b.mono HB.out.size)); clear HB b; have HB := HN; clear HN
 go_wp2_with fail
 refine (O.out.2.2.2.2.2.2.2 _ HB.out).mono ?_
 rintro e w8 ⟨rfl, b⟩
 have HN := Lib.hid (HB.out.trans (b.mono HB.out.size)); clear HB b; have HB := HN; clear HN
 go_wp2
 go_ret
 exact ⟨rfl, HB.out⟩
theorem MeasureFeet_ok (a s t b n x : ByteArray) (w : World) (s1 : ¬ (60 : Int) < s.size)
   (h1 : ∀ W, Below w.heap.size w W → Calls Tryz.prog 10 #[.string a] W fun e W' => e = .returned (.bool true) ∧ Below W.heap.size W W')
   (h2 : ∀ W, Below w.heap.size w W → Calls Tryz.prog 21 #[.string a] W fun e W' => e = .returned (.tuple #[.string t, .int .i64 0]) ∧ Below W.heap.size W W')
   (h3 : ∀ W, Below w.heap.size w W → Calls Tryz.prog 22 #[.string t] W fun e W' => e = .returned (.tuple #[.string b, .int .i64 0]) ∧ Below W.heap.size W W')
   (h4 : ∀ W, Below w.heap.size w W → Calls Tryz.prog 23 #[.string b, .string ⟨#[49, 50, 55, 47, 54, 48]⟩] W fun e W' => e = .returned (.tuple #[.string n, .int .i64 0]) ∧ Below W.heap.size W W')
   (h5 : ∀ W, Below w.heap.size w W → Calls Tryz.prog 24 #[.string n] W fun e W' => e = .returned (.tuple #[.string n, .int .i64 0]) ∧ Below W.heap.size W W')
   (h6 : ∀ W, Below w.heap.size w W → Calls Tryz.prog 14 #[.string b, .string a, .string ⟨#[49, 50, 55, 47, 54, 48]⟩] W fun e W' => e = .returned (.bool true) ∧ Below W.heap.size W W')
   (h7 : ∀ W, Below w.heap.size w W → Calls Tryz.prog 22 #[.string s] W fun e W' => e = .returned (.tuple #[.string x, .int .i64 0]) ∧ Below W.heap.size W W')
   (h8 : ∀ W, Below w.heap.size w W → Calls Tryz.prog 21 #[.string x] W fun e W' => e = .returned (.tuple #[.string s, .int .i64 0]) ∧ Below W.heap.size W W')
   (h9 : ∀ W, Below w.heap.size w W → Calls Tryz.prog 11 #[] W fun e W' => e = .returned (.bool true) ∧ Below W.heap.size W W')
   : Calls Tryz.prog 6 #[.string a, .string s] w fun e W' => e = .returned (.bool true) ∧ Below w.heap.size w W' := by
 have O := Lib.hid (And.intro h1 (And.intro h2 (And.intro h3 (And.intro h4 (And.intro h5 (And.intro h6 (And.intro h7 (And.intro h8 (h9))))))))); clear h1 h2 h3 h4 h5 h6 h7 h8 h9
 have hm4 := mx4m
 go_enter Tryz.func6, Tryz.ntmps6
 have HB := Lib.hid (Below.refl w.heap.size w)
 go_wp2_with fail
 refine (O.out.1 _ HB.out).mono ?_
 rintro e w1 ⟨rfl, b⟩
 have HN := Lib.hid (HB.out.trans (b.mono HB.out.size)); clear HB b; have HB := HN; clear HN
 go_wp2_with fail
 refine (O.out.2.1 _ HB.out).mono ?_
 rintro e w2 ⟨rfl, b⟩
 have HN := Lib.hid (HB.out.trans (b.mono HB.out.size)); clear HB b; have HB := HN; clear HN
 go_wp2_with fail
 refine (O.out.2.2.1 _ HB.out).mono ?_
 rintro e w3 ⟨rfl, b⟩
 have HN := Lib.hid (HB.out.trans (b.mono HB.out.size)); clear HB b; have HB := HN; clear HN
 go_wp2_with fail
 refine (O.out.2.2.2.1 _ HB.out).mono ?_
 rintro e w4 ⟨rfl, b⟩
 have HN := Lib.hid (HB.out.trans (b.mono HB.out.size)); clear HB b; have HB := HN; clear HN
 go_wp2_with fail
 refine (O.out.2.2.2.2.1 _ HB.out).mono ?_
 rintro e w5 ⟨rfl, b⟩
 have HN := Lib.hid (HB.out.trans (b.mono HB.out.size)); clear HB b; have HB := HN; clear HN
 go_wp2_with fail
 refine (O.out.2.2.2.2.2.1 _ HB.out).mono ?_
 rintro e w6 ⟨rfl, b⟩
 have HN := Lib.hid (HB.out.trans (b.mono HB.out.size)); clear HB b; have HB := HN; clear HN
 go_wp2_with fail
 refine (O.out.2.2.2.2.2.2.1 _ HB.out).mono ?_
 rintro e w7 ⟨rfl, b⟩
 have HN := Lib.hid (HB.out.trans (b.mono HB.out.size)); clear HB b; have HB := HN; clear HN
 go_wp2_with fail
 refine (O.out.2.2.2.2.2.2.2.1 _ HB.out).mono ?_
 rintro e w8 ⟨rfl, b⟩
 have HN := Lib.hid (HB.out.trans (b.mono HB.out.size)); clear HB b; have HB := HN; clear HN
 go_wp2_with fail
 refine (O.out.2.2.2.2.2.2.2.2 _ HB.out).mono ?_
 rintro e w9 ⟨rfl, b⟩
 have HN := Lib.hid (HB.out.trans (b.mono HB.out.size)); clear HB b; have HB := HN; clear HN
 go_wp2
 go_ret
 exact ⟨rfl, HB.out⟩
theorem twe_fail (s z rest X : ByteArray) (g h1 h2 c : Bool) (J : Nat) (E : Int) (N P : Nat → ByteArray) (Q : Nat → ByteArray) (w : World) (hN : N 0 = ⟨#[48]⟩) (hJ : J < 3) (hE : (E == 0) = false) (hE' : (E != 0) = true)
   (c1 : ∀ W, Below w.heap.size w W → Calls Tryz.prog 18 #[.string s, .string ⟨#[45]⟩] W fun e W' => e = .returned (.tuple #[.string z, .bool g]) ∧ Below W.heap.size W W')
   (c2 : ∀ W, Below w.heap.size w W → Calls Tryz.prog 16 #[.string z, .string ⟨#[39]⟩] W fun e W' => e = .returned (.tuple #[.string (P 0), .string rest, .bool h1]) ∧ Below W.heap.size W W')
   (c3 : ∀ W, Below w.heap.size w W → Calls Tryz.prog 16 #[.string rest, .string ⟨#[34]⟩] W fun e W' => e = .returned (.tuple #[.string (P 1), .string (P 2), .bool h2]) ∧ Below W.heap.size W W')
   (c4 : ∀ j, j ≤ J → ∀ W, Below w.heap.size w W → Calls Tryz.prog 97 #[.string (N j), .string ⟨#[49, 50]⟩] W fun e W' => e = .returned (.tuple #[.string (Q j), .int .i64 0]) ∧ Below W.heap.size W W')
   (c5 : ∀ j, j < J → ∀ W, Below w.heap.size w W → Calls Tryz.prog 64 #[.string (P j), .func (.func 89) #[] #[]] W fun e W' => e = .returned (.bool true) ∧ Below W.heap.size W W')
   (c6 : ∀ j, j < J → ∀ W, Below w.heap.size w W → Calls Tryz.prog 98 #[.string (Q j), .string (P j)] W fun e W' => e = .returned (.tuple #[.string (N (j + 1)), .int .i64 0]) ∧ Below W.heap.size W W')
   (c7 : ∀ W, Below w.heap.size w W → Calls Tryz.prog 64 #[.string (P J), .func (.func 89) #[] #[]] W fun e W' => e = .returned (.bool c) ∧ Below W.heap.size W W')
   (c8 : c = true → ∀ W, Below w.heap.size w W → Calls Tryz.prog 98 #[.string (Q J), .string (P J)] W fun e W' => e = .returned (.tuple #[.string X, .int .i64 E]) ∧ Below W.heap.size W W') :
   Calls Tryz.prog 54 #[.string s] w fun e W' => e = .returned (.tuple #[.string ⟨#[]⟩, .bool false]) ∧ Below w.heap.size w W' := by
 have O := Lib.hid (And.intro c1 (And.intro c2 (And.intro c3 (And.intro c4 (And.intro c5 (And.intro c6 (And.intro c7 c8))))))); clear c1 c2 c3 c4 c5 c6 c7 c8
 have HN0 := Lib.hid hN; clear hN
 have ix0 := tidx0
 have ix1 := tidx1
 have ix2 := tidx2
 go_enter Tryz.func54, Tryz.ntmps54
 have HB := Lib.hid (Below.refl w.heap.size w)
 go_wp2_with fail
 refine (O.out.1 _ HB.out).mono ?_
 rintro e w1 ⟨rfl, b⟩
 have HN := Lib.hid (HB.out.trans (b.mono HB.out.size)); clear HB b; have HB := HN; clear HN
 go_wp2_with fail
 refine (O.out.2.1 _ HB.out).mono ?_
 rintro e w2 ⟨rfl, b⟩
 have HN := Lib.hid (HB.out.trans (b.mono HB.out.size)); clear HB b; have HB := HN; clear HN
 go_wp2_with fail
 refine (O.out.2.2.1 _ HB.out).mono ?_
 rintro e w3 ⟨rfl, b⟩
 have HN := Lib.hid (HB.out.trans (b.mono HB.out.size)); clear HB b; have HB := HN; clear HN
 have HJ := Lib.hid hJ; clear hJ
 go_wp2
 go_loopw [12, 40] (fun x i wr => ∃ j : Nat, x = .string (N j) ∧ i = .int .i64 j ∧ j ≤ J ∧ Hid (Below w.heap.size w wr)) (fun _ i _ => 3 - (intOf i).toNat)
 case atStart => exact ⟨0, by rw [HN0.out], rfl, by omega, HB⟩
 case round =>
   clear HB
   obtain ⟨j, rfl, rfl, hj, HB⟩ := hrel
   have hJ3 := HJ.out
   by_cases hlt : j < J
   · have X := Lib.hid (And.intro (O.out.2.2.2.1 j hj) (And.intro (O.out.2.2.2.2.1 j hlt) (O.out.2.2.2.2.2.1 j hlt)))
     have LT := Lib.hid hlt
     have hjj : j = 0 ∨ j = 1 := by omega
     clear hlt hj hJ3
     rcases hjj with rfl | rfl <;>
     (go_wp2_with fail
      refine (X.out.1 _ HB.out).mono ?_
      rintro e w4 ⟨rfl, b⟩
      have HN := Lib.hid (HB.out.trans (b.mono HB.out.size)); clear HB b; have HB := HN; clear HN
      go_wp2_with fail
      refine (X.out.2.1 _ HB.out).mono ?_
      rintro e w5 ⟨rfl, b⟩
      have HN := Lib.hid (HB.out.trans (b.mono HB.out.size)); clear HB b; have HB := HN; clear HN
      go_wp2_with fail
      refine (X.out.2.2 _ HB.out).mono ?_
      rintro e w6 ⟨rfl, b⟩
      have HN := Lib.hid (HB.out.trans (b.mono HB.out.size)); clear HB b; have HB := HN; clear HN
      go_wp2
      go_roundw
      case rel => exact ⟨_, rfl, rfl, LT.out, HB⟩
      case measure => simp [intOf])
   · obtain rfl : j = J := by omega
     have X := Lib.hid (And.intro (O.out.2.2.2.1 j hj) (And.intro O.out.2.2.2.2.2.2.1 O.out.2.2.2.2.2.2.2))
     have hjj : j = 0 ∨ j = 1 ∨ j = 2 := by omega
     clear hlt hj hJ3 HJ O
     rcases hjj with rfl | rfl | rfl <;>
     (cases c
      · go_wp2_with fail
        refine (X.out.1 _ HB.out).mono ?_
        rintro e w4 ⟨rfl, b⟩
        have HN := Lib.hid (HB.out.trans (b.mono HB.out.size)); clear HB b; have HB := HN; clear HN
        go_wp2_with fail
        refine (X.out.2.1 _ HB.out).mono ?_
        rintro e w5 ⟨rfl, b⟩
        have HN := Lib.hid (HB.out.trans (b.mono HB.out.size)); clear HB b; have HB := HN; clear HN
        go_wp2
        go_ret2
        exact ⟨rfl, HB.out⟩
      · go_wp2_with fail
        refine (X.out.1 _ HB.out).mono ?_
        rintro e w4 ⟨rfl, b⟩
        have HN := Lib.hid (HB.out.trans (b.mono HB.out.size)); clear HB b; have HB := HN; clear HN
        go_wp2_with fail
        refine (X.out.2.1 _ HB.out).mono ?_
        rintro e w5 ⟨rfl, b⟩
        have HN := Lib.hid (HB.out.trans (b.mono HB.out.size)); clear HB b; have HB := HN; clear HN
        go_wp2_with fail
        refine (X.out.2.2 trivial _ HB.out).mono ?_
        rintro e w6 ⟨rfl, b⟩
        have HN := Lib.hid (HB.out.trans (b.mono HB.out.size)); clear HB b; have HB := HN; clear HN
        go_wp2
        go_ret2
        exact ⟨rfl, HB.out⟩)
def prt (l : List UInt8) : Nat → List UInt8
 | 0 => kA 39 l
 | 1 => kA 34 (kB 39 l)
 | _ => kB 34 (kB 39 l)
def gd (p : List UInt8) : Bool := dgs p && (chk p == 0)
def vN (l : List UInt8) : Nat → Nat
 | 0 => 0
 | n + 1 => vN l n * 12 + natOf (prt l n)
theorem prt_len (l : List UInt8) (j : Nat) : (prt l j).length ≤ l.length := by
 unfold prt
 split
 · exact (k_len 39 l).1
 · exact Nat.le_trans (k_len 34 _).1 (k_len 39 l).2
 · exact Nat.le_trans (k_len 34 _).2 (k_len 39 l).2
theorem vN_lt {l : List UInt8} (h : l.length ≤ 60) : ∀ j, (∀ i, i < j → dgs (prt l i) = true) → vN l j < tenTo (60 + 2 * j)
 | 0, _ => Nat.pow_pos (by decide)
 | j + 1, hd => by
   have i1 := vN_lt h j (fun i hi => hd i (by omega))
   have i2 := Nat.lt_of_lt_of_le (natOf_tenTo (prt l j) (dgs_all (hd j (by omega)))) (tenTo_mono (Nat.le_trans (prt_len l j) (Nat.le_trans h (by omega : 60 ≤ 60 + 2 * j))))
   have e : tenTo (60 + 2 * (j + 1)) = tenTo (60 + 2 * j) * 100 := by unfold tenTo; rw [show 60 + 2 * (j + 1) = 60 + 2 * j + 2 by omega, Nat.pow_add]
   rw [e]
   show vN l j * 12 + natOf (prt l j) < _
   omega
theorem gd_dec {p : List UInt8} (h : gd p = true) : dgs p = true ∧ p = Lib.decDigits (natOf p) := by
 unfold gd at h
 rw [Bool.and_eq_true, beq_iff_eq] at h
 refine ⟨h.1, ?_⟩
 have hn : isNeg p = false := by
   have := isNeg_dig (dgs_all h.1) [] (dgs_ne h.1)
   rwa [List.append_nil] at this
 have := itoa_valOf p h.2
 rw [← natOf_val hn, Lib.itoa_nonneg] at this
 exact this.symm
def tz (l : List UInt8) : Int := if isNeg l then -(vN (szL l) 3 : Int) else (vN (szL l) 3 : Int)
theorem tz_bd {l : List UInt8} (h : l.length ≤ 60) (hd : ∀ i, i < 3 → dgs (prt (szL l) i) = true) : Bd 80 (tz l) := by
 have h1 := vN_lt (Nat.le_trans (szL_len l) h) 3 hd
 have h2 := Nat.lt_of_lt_of_le h1 (tenTo_mono (by decide : 60 + 2 * 3 ≤ 80))
 show Int.natAbs _ < _
 unfold tz
 split <;> simpa using h2
section
variable (s : ByteArray) (w : World) (hs : s.size ≤ 60) (T : TabM w)
include hs T
theorem tw_mul (j : Nat) (hj : j ≤ 3) (hd : ∀ i, i < j → dgs (prt (szL s.data.toList) i) = true) (W : World) (hW : Below w.heap.size w W) :
   Calls Tryz.prog 97 #[.string (strB ((vN (szL s.data.toList) j : Nat) : Int)), .string ⟨#[49, 50]⟩] W fun e W' => e = .returned (.tuple #[.string (strB ((vN (szL s.data.toList) j * 12 : Nat) : Int)), .int .i64 0]) ∧ Below W.heap.size W W' := by
 have hl : s.data.toList.length ≤ 60 := hs
 have h1 := vN_lt (Nat.le_trans (szL_len _) hl) j hd
 have h2 := Nat.lt_of_lt_of_le h1 (tenTo_mono (by omega : 60 + 2 * j ≤ 80))
 have e : tenTo 82 = tenTo 80 * 100 := by unfold tenTo; rw [show 82 = 80 + 2 from rfl, Nat.pow_add]
 have h3 : vN (szL s.data.toList) j * 12 < tenTo 82 := by rw [e]; omega
 have c := Mul_str ((vN (szL s.data.toList) j : Nat) : Int) 12 W (by rw [Int.natAbs_natCast]; exact Nat.lt_of_lt_of_le h2 (tenTo_mono (by decide))) (small_lim (by decide)) (by
   have : ((vN (szL s.data.toList) j * 12 : Nat) : Int).natAbs < lim := by rw [Int.natAbs_natCast]; exact Nat.lt_of_lt_of_le h3 (tenTo_mono (by decide))
   rwa [Int.natCast_mul] at this) (T.next hW).1
 rw [s_12m] at c
 rw [Int.natCast_mul]
 exact c
theorem tw_cons (j : Nat) (W : World) :
   Calls Tryz.prog 64 #[.string (bO (prt (szL s.data.toList) j)), .func (.func 89) #[] #[]] W fun e W' => e = .returned (.bool (dgs (prt (szL s.data.toList) j))) ∧ Below W.heap.size W W' := by
 have hl : s.data.toList.length ≤ 60 := hs
 have c := mcons (bO (prt (szL s.data.toList) j)) W (by rw [bO_size]; have := prt_len (szL s.data.toList) j; have := szL_len s.data.toList; omega)
 rwa [bO_data] at c
theorem tw_add (j : Nat) (hj : j < 3) (hd : ∀ i, i < j → dgs (prt (szL s.data.toList) i) = true) (hg : gd (prt (szL s.data.toList) j) = true) (W : World) (hW : Below w.heap.size w W) :
   Calls Tryz.prog 98 #[.string (strB ((vN (szL s.data.toList) j * 12 : Nat) : Int)), .string (bO (prt (szL s.data.toList) j))] W fun e W' => e = .returned (.tuple #[.string (strB ((vN (szL s.data.toList) (j + 1) : Nat) : Int)), .int .i64 0]) ∧ Below W.heap.size W W' := by
 have hl : s.data.toList.length ≤ 60 := hs
 obtain ⟨g1, g2⟩ := gd_dec hg
 have h1 := vN_lt (Nat.le_trans (szL_len _) hl) (j + 1) (fun i hi => by
   rcases Nat.lt_or_ge i j with q | q
   · exact hd i q
   · obtain rfl : i = j := by omega
     exact g1)
 have h2 := Nat.lt_of_lt_of_le h1 (tenTo_mono (by omega : 60 + 2 * (j + 1) ≤ 80))
 have es : vN (szL s.data.toList) (j + 1) = vN (szL s.data.toList) j * 12 + natOf (prt (szL s.data.toList) j) := rfl
 have big : ∀ k : Nat, k ≤ vN (szL s.data.toList) (j + 1) → ((k : Nat) : Int).natAbs < lim := fun k hk => by
   rw [Int.natAbs_natCast]; exact Nat.lt_of_lt_of_le (Nat.lt_of_le_of_lt hk h2) (tenTo_mono (by decide))
 have c := Add_str ((vN (szL s.data.toList) j * 12 : Nat) : Int) ((natOf (prt (szL s.data.toList) j) : Nat) : Int) W (big _ (by omega)) (big _ (by omega)) (by rw [← Int.natCast_add, ← es]; exact big _ (Nat.le_refl _)) (T.next hW).1
 rw [← Int.natCast_add, ← es, ← strB_dec (natOf _), ← g2] at c
 exact c
theorem tw_err (j : Nat) (hj : j < 3) (hd : ∀ i, i < j → dgs (prt (szL s.data.toList) i) = true) (hg : chk (prt (szL s.data.toList) j) ≠ 0) (W : World) (hW : Below w.heap.size w W) :
   Calls Tryz.prog 98 #[.string (strB ((vN (szL s.data.toList) j * 12 : Nat) : Int)), .string (bO (prt (szL s.data.toList) j))] W fun e W' => e = .returned (.tuple #[.string ⟨#[]⟩, .int .i64 (chk (prt (szL s.data.toList) j))]) ∧ Below W.heap.size W W' := by
 have hl : s.data.toList.length ≤ 60 := hs
 have h1 := vN_lt (Nat.le_trans (szL_len _) hl) j hd
 have h2 := Nat.lt_of_lt_of_le h1 (tenTo_mono (by omega : 60 + 2 * j ≤ 80))
 have e : tenTo 82 = tenTo 80 * 100 := by unfold tenTo; rw [show 82 = 80 + 2 from rfl, Nat.pow_add]
 have h3 : ((vN (szL s.data.toList) j * 12 : Nat) : Int).natAbs < lim := by
   rw [Int.natAbs_natCast]
   exact Nat.lt_of_lt_of_le (show _ < tenTo 82 by rw [e]; omega) (tenTo_mono (by decide))
 have c := Add_any (strB ((vN (szL s.data.toList) j * 12 : Nat) : Int)) (bO (prt (szL s.data.toList) j)) W (by have := strB_size h3; unfold maxLen; omega) (by rw [bO_size]; have := prt_len (szL s.data.toList) j; have := szL_len s.data.toList; unfold maxLen; omega) (T.next hW).1
 have e2 : chk2 (strB ((vN (szL s.data.toList) j * 12 : Nat) : Int)).data.toList (bO (prt (szL s.data.toList) j)).data.toList = chk (prt (szL s.data.toList) j) := by
   unfold chk2; rw [if_pos (strB_chk h3), bO_data]
 rw [e2, outB_bad hg, outE_bad hg] at c
 exact c
theorem tw_pre (W : World) : Calls Tryz.prog 18 #[.string s, .string ⟨#[45]⟩] W fun e W' => e = .returned (.tuple #[.string (bO (szL s.data.toList)), .bool (isNeg s.data.toList)]) ∧ Below W.heap.size W W' := mprefix s W
theorem tw_c39 (W : World) : Calls Tryz.prog 16 #[.string (bO (szL s.data.toList)), .string ⟨#[39]⟩] W fun e W' => e = .returned (.tuple #[.string (bO (prt (szL s.data.toList) 0)), .string (bO (kB 39 (szL s.data.toList))), .bool (kH 39 (szL s.data.toList))]) ∧ Below W.heap.size W W' := by
 have hl : s.data.toList.length ≤ 60 := hs
 have c := mcut 39 (bO (szL s.data.toList)) W (by rw [bO_size]; have := szL_len s.data.toList; omega)
 unfold k1 k2 at c
 rwa [bO_data] at c
theorem tw_c34 (W : World) : Calls Tryz.prog 16 #[.string (bO (kB 39 (szL s.data.toList))), .string ⟨#[34]⟩] W fun e W' => e = .returned (.tuple #[.string (bO (prt (szL s.data.toList) 1)), .string (bO (prt (szL s.data.toList) 2)), .bool (kH 34 (kB 39 (szL s.data.toList)))]) ∧ Below W.heap.size W W' := by
 have hl : s.data.toList.length ≤ 60 := hs
 have c := mcut 34 (bO (kB 39 (szL s.data.toList))) W (by rw [bO_size]; have := szL_len s.data.toList; have := (k_len 39 (szL s.data.toList)).2; omega)
 unfold k1 k2 at c
 rwa [bO_data] at c
theorem twe_good (hg : ∀ j, j < 3 → gd (prt (szL s.data.toList) j) = true) :
   Calls Tryz.prog 54 #[.string s] w fun e W' => e = .returned (.tuple #[.string (strB (tz s.data.toList)), .bool ((bO (ftT (tz s.data.toList))).toList == s.toList)]) ∧ Below w.heap.size w W' := by
 have hl : s.data.toList.length ≤ 60 := hs
 have hd : ∀ i, i < 3 → dgs (prt (szL s.data.toList) i) = true := fun i hi => (gd_dec (hg i hi)).1
 have bz := tz_bd hl hd
 have h3 := vN_lt (Nat.le_trans (szL_len _) hl) 3 hd
 exact twe_core s (bO (szL s.data.toList)) (bO (kB 39 (szL s.data.toList))) (strB (tz s.data.toList)) (bO (ftT (tz s.data.toList))) (isNeg s.data.toList) (kH 39 (szL s.data.toList)) (kH 34 (kB 39 (szL s.data.toList))) (fun j => strB ((vN (szL s.data.toList) j : Nat) : Int)) (fun j => bO (prt (szL s.data.toList) j)) (fun j => strB ((vN (szL s.data.toList) j * 12 : Nat) : Int)) w (by show strB 0 = _; decide +kernel)
   (fun W _ => tw_pre s w hs T W) (fun W _ => tw_c39 s w hs T W) (fun W _ => tw_c34 s w hs T W) (fun j hj W hW => tw_mul s w hs T j (by omega) (fun i hi => hd i (by omega)) W hW) (fun j hj W hW => by
     have c := tw_cons s w hs T j W
     rwa [hd j hj] at c) (fun j hj W hW => tw_add s w hs T j hj (fun i hi => hd i (by omega)) (hg j hj) W hW) (fun W hW => by
     have c := msigned (isNeg s.data.toList) (bO (Lib.decDigits (vN (szL s.data.toList) 3))) W (by rw [bO_size]; have := dec_len (k := 66) (by decide) h3; omega)
     rwa [sgB_str, strB_dec] at c) (fun W hW => feet_q _ W (bz.up (by decide)) (T.next hW))
theorem twe_bad (J : Nat) (hJ : J < 3) (hg : ∀ j, j < J → gd (prt (szL s.data.toList) j) = true) (hb : gd (prt (szL s.data.toList) J) = false) :
   Calls Tryz.prog 54 #[.string s] w fun e W' => e = .returned (.tuple #[.string ⟨#[]⟩, .bool false]) ∧ Below w.heap.size w W' := by
 have hd : ∀ i, i < J → dgs (prt (szL s.data.toList) i) = true := fun i hi => (gd_dec (hg i hi)).1
 obtain ⟨E, e0, e1, e2⟩ : ∃ E : Int, (E == 0) = false ∧ (E != 0) = true ∧ (dgs (prt (szL s.data.toList) J) = true → chk (prt (szL s.data.toList) J) = E) := by
   by_cases h : dgs (prt (szL s.data.toList) J) = true
   · unfold gd at hb
     rw [h, Bool.true_and] at hb
     exact ⟨_, hb, by rw [bne, hb]; rfl, fun _ => rfl⟩
   · exact ⟨1, rfl, rfl, fun q => absurd q h⟩
 refine twe_fail s (bO (szL s.data.toList)) (bO (kB 39 (szL s.data.toList))) ⟨#[]⟩ (isNeg s.data.toList) (kH 39 (szL s.data.toList)) (kH 34 (kB 39 (szL s.data.toList))) (dgs (prt (szL s.data.toList) J)) J E (fun j => strB ((vN (szL s.data.toList) j : Nat) : Int)) (fun j => bO (prt (szL s.data.toList) j)) (fun j => strB ((vN (szL s.data.toList) j * 12 : Nat) : Int)) w (by show strB 0 = _; decide +kernel) hJ e0 e1
   (fun W _ => tw_pre s w hs T W) (fun W _ => tw_c39 s w hs T W) (fun W _ => tw_c34 s w hs T W) (fun j hj W hW => tw_mul s w hs T j (by omega) (fun i hi => hd i (by omega)) W hW) (fun j hj W hW => by
     have c := tw_cons s w hs T j W
     rwa [hd j hj] at c) (fun j hj W hW => tw_add s w hs T j (by omega) (fun i hi => hd i (by omega)) (hg j hj) W hW) (fun W _ => tw_cons s w hs T J W) (fun hc W hW => ?_)
 have ne : chk (prt (szL s.data.toList) J) ≠ 0 := by rw [e2 hc]; simpa using e0
 have c := tw_err s w hs T J hJ hd ne W hW
 rwa [e2 hc] at c
end
theorem pfeet_any (s : ByteArray) (w : World) (hs : s.size ≤ 60) (T : TabM w) :
   (∀ W, Below w.heap.size w W → Calls Tryz.prog 22 #[.string s] W fun e W' => e = .returned (.tuple #[.string ⟨#[]⟩, .int .i64 3]) ∧ Below W.heap.size W W') ∨
   ∃ z : Int, Bd 80 z ∧ bO (ftT z) = s ∧ ∀ W, Below w.heap.size w W → Calls Tryz.prog 22 #[.string s] W fun e W' => e = .returned (.tuple #[.string (strQ ((z : Rat) * tw)), .int .i64 0]) ∧ Below W.heap.size W W' := by
 have hl : s.data.toList.length ≤ 60 := hs
 have bad : ∀ J, J < 3 → (∀ j, j < J → gd (prt (szL s.data.toList) j) = true) → gd (prt (szL s.data.toList) J) = false → ∀ W, Below w.heap.size w W → Calls Tryz.prog 22 #[.string s] W fun e W' => e = .returned (.tuple #[.string ⟨#[]⟩, .int .i64 3]) ∧ Below W.heap.size W W' := fun J hJ hg hb W hW =>
   pfeet_no s ⟨#[]⟩ W (by omega) (fun W' hW' => twe_bad s W' hs ((T.next hW).next hW') J hJ hg hb)
 cases g0 : gd (prt (szL s.data.toList) 0)
 · exact .inl (bad 0 (by decide) (fun j hj => by omega) g0)
 cases g1 : gd (prt (szL s.data.toList) 1)
 · exact .inl (bad 1 (by decide) (fun j hj => by obtain rfl : j = 0 := by omega
                                                 exact g0) g1)
 cases g2 : gd (prt (szL s.data.toList) 2)
 · exact .inl (bad 2 (by decide) (fun j hj => by
     have hj2 : j = 0 ∨ j = 1 := by omega
     rcases hj2 with rfl | rfl
     · exact g0
     · exact g1) g2)
 have hg : ∀ j, j < 3 → gd (prt (szL s.data.toList) j) = true := fun j hj => by
   have hj2 : j = 0 ∨ j = 1 ∨ j = 2 := by omega
   rcases hj2 with rfl | rfl | rfl
   · exact g0
   · exact g1
   · exact g2
 by_cases h : bO (ftT (tz s.data.toList)) = s
 · have bz := tz_bd hl (fun i hi => (gd_dec (hg i hi)).1)
   refine .inr ⟨_, bz, h, fun W hW => ?_⟩
   have c := pfeet_q (tz s.data.toList) W bz (T.next hW)
   rwa [h] at c
 · refine .inl (fun W hW => pfeet_no s (strB (tz s.data.toList)) W (by omega) (fun W' hW' => ?_))
   have c := twe_good s W' hs ((T.next hW).next hW') hg
   have hne : ((bO (ftT (tz s.data.toList))).toList == s.toList) = false := by
     rw [beq_eq_false_iff_ne]
     intro e
     apply h
     apply bytes_ext
     rwa [ByteArray.toList_eq, ByteArray.toList_eq] at e
   rwa [hne] at c
theorem MeasureFeet_any (a s : ByteArray) (w : World) (ha : a.size ≤ maxLen) (hs : s.size ≤ maxLen) (T : TabM w) :
   Calls Tryz.prog 6 #[.string a, .string s] w fun e W' => e = .returned (.bool true) ∧ Below w.heap.size w W' := by
 have hf := fun W (hW : Below w.heap.size w W) => fineM a W ha (T.next hW)
 have hA := fun W (hW : Below w.heap.size w W) => awake7_any W (T.next hW)
 by_cases h : fM a = true
 · rw [h] at hf
   by_cases h6 : s.size ≤ 60
   · obtain ⟨x, rfl, hx⟩ := fM_str h
     obtain ⟨_, _, a3⟩ := qdiv_ok hx tw_bq (by decide) tw_ne
     obtain ⟨_, _, b3⟩ := half_add a3 (by decide)
     have ub := nr_bd b3
     have hu := Bq_int (by decide) ub
     obtain ⟨x3, x4⟩ := feet_parse x hx
     have nb := near_b (a := x) tw_pos (show tw⁻¹ * tw = 1 by decide +kernel)
     rw [← Rat.div_def] at nb
     have dv : ∀ W, Below w.heap.size w W → Calls Tryz.prog 23 #[.string (strQ (rdF x)), .string ⟨#[49, 50, 55, 47, 54, 48]⟩] W fun e W' => e = .returned (.tuple #[.string (strB (nr (x / tw))), .int .i64 0]) ∧ Below W.heap.size W W' := fun W hW => by
       obtain ⟨q1, q2, _⟩ := qdiv_ok x3 tw_bq (by decide) tw_ne
       have c := Div_q (rdF x) tw W (x3.lim (by decide)) (tw_bq.lim (by decide)) tw_ne (T.next hW).1 (T.next hW).2
       have e : rdF x / tw = ((nr (x / tw) : Int) : Rat) := by unfold rdF; exact Rat.mul_div_cancel tw_ne
       rwa [q1, q2, e, strQ_int, tw_str] at c
     have fl : ∀ W, Below w.heap.size w W → Calls Tryz.prog 24 #[.string (strB (nr (x / tw)))] W fun e W' => e = .returned (.tuple #[.string (strB (nr (x / tw))), .int .i64 0]) ∧ Below W.heap.size W W' := fun W hW => by
       have c := Floor_q ((nr (x / tw) : Int) : Rat) W (hu.lim (by decide)) (T.next hW).1 (T.next hW).2
       rwa [strQ_int, Rat.num_intCast, Rat.den_intCast, show (nr (x / tw)).fdiv ((1 : Nat) : Int) = nr (x / tw) from Int.fdiv_one _] at c
     have nr' : ∀ W, Below w.heap.size w W → Calls Tryz.prog 14 #[.string (strQ (rdF x)), .string (strQ x), .string ⟨#[49, 50, 55, 47, 54, 48]⟩] W fun e W' => e = .returned (.bool true) ∧ Below W.heap.size W W' := fun W hW => by
       have c := near7_q (rdF x) x tw W x3 hx tw_bq (by decide) nb.1 nb.2 (T.next hW)
       rwa [tw_str] at c
     rcases pfeet_any s w h6 T with pf | ⟨z, bz, es, pf⟩
     · exact MeasureFeet_bad _ s _ _ _ w (by omega) hf (x4 w T).1 (x4 w T).2 dv fl nr' pf hA
     · refine MeasureFeet_ok _ s _ _ _ _ w (by omega) hf (x4 w T).1 (x4 w T).2 dv fl nr' pf (fun W hW => ?_) hA
       obtain ⟨_, _, qz⟩ := qmul_ok (Bq_int (by decide) bz) tw_bq (by decide)
       have c := Feet_q ((z : Rat) * tw) W (qz.up (by decide)) (T.next hW)
       rwa [Rat.mul_div_cancel tw_ne, nr_int, es] at c
   · exact MeasureFeet_long a s w (by omega) hf hA
 · have hf' : fM a = false := by simpa using h
   rw [hf'] at hf
   exact MeasureFeet_no a s w hf hA
end Go.Proofs.YtkjhaengllpaoaaGreatDoor.T
namespace Go.Proofs.YtkjhaengllpaoaaGreatDoor
open Go.ChangeShapes Go.WideShapes Go.ChangeAt Go.RowKit
def laid3 : List (String × DataW Unit) := [("math/bits.deBruijn32tab", Rows.laid_math_bits_deBruijn32tab), ("math/bits.deBruijn64tab", Rows.laid_math_bits_deBruijn64tab), ("internal/strconv.uint64pow10", Rows.laid_internal_strconv_uint64pow10)]
theorem door_met (os : Os) (args : Array Value) : laidMetH Tryz.prog laid3 ((World.doorLaid Tryz.prog 400 os).forCall (fun _ _ => 0) ⟨#[], args, []⟩).memory :=
 laidMetH_of_parts3 (fuel := 8) (laidMet_of_run' 8 (by kernel_rfl) (by kernel_rfl)) (by kernel_rfl) (by kernel_rfl)
theorem tab_of_laid {W : World} (h : laidMetH Tryz.prog laid3 W) : Tab W := by
 rw [MakeChecks.laidMetH_plain _ _ _ (by kernel_rfl)] at h
 have h2 : laidMet Tryz.prog [("internal/strconv.uint64pow10", Lib.tabData .u64 Lib.pow10Tab)] W := laidMet.tail (laidMet.tail h)
 exact Lib.tabIs_of_head gTab (t := 237) (e := 124) (n := 20) (by kernel_rfl) (by kernel_rfl) (by kernel_rfl) (by kernel_rfl) (by kernel_rfl) h2
end Go.Proofs.YtkjhaengllpaoaaGreatDoor
namespace Go.Proofs.YtkjhaengllpaoaaGreatDoor
open Go.ChangeShapes Go.WideShapes Go.ChangeAt Go.RowKit
theorem tab64_of_laid {W : World} (h : laidMetH Tryz.prog laid3 W) : Tab64 W := by
 rw [MakeChecks.laidMetH_plain _ _ _ (by kernel_rfl)] at h
 have h2 := laidMet.tail h
 rw [laid64_tab] at h2
 exact tab64_of (Lib.tabIs_of_head gTab64 (t := 214) (e := 5) (n := 64) (by kernel_rfl) (by kernel_rfl) (by kernel_rfl) (by kernel_rfl) (by kernel_rfl) h2)
section
variable {H : Type} {enc : TypeId × Value → H} {P : Program} {w : World} {base : Nat} {spare : Nat → Bool} {held : Bool}
end
end Go.Proofs.YtkjhaengllpaoaaGreatDoor
