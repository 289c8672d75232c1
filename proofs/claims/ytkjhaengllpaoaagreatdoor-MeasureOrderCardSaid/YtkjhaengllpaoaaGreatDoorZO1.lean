/- Parts of the proof of the text YtkjhaengllpaoaaGreatDoorZO2. -/
import Derived.Test.YtkjhaengllpaoaaGreatDoorZB1
import Derived.Test.YtkjhaengllpaoaaGreatDoorZB26
set_option linter.all false
set_option maxRecDepth 100000
set_option maxHeartbeats 8000000
namespace Go.Proofs.YtkjhaengllpaoaaGreatDoor.T
open Go.Proofs.YtkjhaengllpaoaaGreatDoor Go Go.RowKit
theorem MeasureOrder_no1 (a b : ByteArray) (p : Nat) (w : World)
   (h1 : ∀ W, Below w.heap.size w W → Calls Tryz.prog 10 #[.string a] W fun e W' => e = .returned (.bool false) ∧ Below W.heap.size W W')
   (h2 : ∀ W, Below w.heap.size w W → Calls Tryz.prog 11 #[] W fun e W' => e = .returned (.bool true) ∧ Below W.heap.size W W')
   : Calls Tryz.prog 9 #[.string a, .string b, .int .u8 p] w fun e W' => e = .returned (.bool true) ∧ Below w.heap.size w W' := by
 have O := Lib.hid (And.intro h1 (h2)); clear h1 h2
 go_enter Tryz.func9, Tryz.ntmps9
 have HB := Lib.hid (Below.refl w.heap.size w)
 go_wp2_with fail
 refine (O.out.1 _ HB.out).mono ?_
 rintro e w1 ⟨rfl, b⟩
 have HN := Lib.hid (HB.out.trans (b.mono HB.out.size)); clear HB b; have HB := HN; clear HN
 go_wp2_with fail
 refine (O.out.2 _ HB.out).mono ?_
 rintro e w2 ⟨rfl, b⟩
 have HN := Lib.hid (HB.out.trans (b.mono HB.out.size)); clear HB b; have HB := HN; clear HN
 go_wp2
 go_ret
 exact ⟨rfl, HB.out⟩
theorem MeasureOrder_no2 (a b : ByteArray) (p : Nat) (w : World)
   (h1 : ∀ W, Below w.heap.size w W → Calls Tryz.prog 10 #[.string a] W fun e W' => e = .returned (.bool true) ∧ Below W.heap.size W W')
   (h2 : ∀ W, Below w.heap.size w W → Calls Tryz.prog 10 #[.string b] W fun e W' => e = .returned (.bool false) ∧ Below W.heap.size W W')
   (h3 : ∀ W, Below w.heap.size w W → Calls Tryz.prog 11 #[] W fun e W' => e = .returned (.bool true) ∧ Below W.heap.size W W')
   : Calls Tryz.prog 9 #[.string a, .string b, .int .u8 p] w fun e W' => e = .returned (.bool true) ∧ Below w.heap.size w W' := by
 have O := Lib.hid (And.intro h1 (And.intro h2 (h3))); clear h1 h2 h3
 go_enter Tryz.func9, Tryz.ntmps9
 have HB := Lib.hid (Below.refl w.heap.size w)
 go_wp2_with fail
 refine (O.out.1 _ HB.out).mono ?_
 rintro e w1 ⟨rfl, b⟩
 have HN := Lib.hid (HB.out.trans (b.mono HB.out.size)); clear HB b; have HB := HN; clear HN
 go_wp2_with fail
 refine (O.out.2.1 _ HB.out).mono ?_
 rintro e w2 ⟨rfl, b⟩
 have HN := Lib.hid (HB.out.trans (b.mono HB.out.size)); clear HB b; have HB := HN; clear HN
 go_wp2_with fail
 refine (O.out.2.2 _ HB.out).mono ?_
 rintro e w3 ⟨rfl, b⟩
 have HN := Lib.hid (HB.out.trans (b.mono HB.out.size)); clear HB b; have HB := HN; clear HN
 go_wp2
 go_ret
 exact ⟨rfl, HB.out⟩
theorem MeasureOrder_yes (a b s t x y s2 t2 x2 y2 : ByteArray) (n m m2 : Int) (p k : Nat) (w : World) (hp : p ≤ 255) (hk : k = p % 21) (hn : n = -1 ∧ (m = -1 ∨ m = 0) ∧ (m2 = -1 ∨ m2 = 0) ∨ n = 0 ∧ m = 0 ∧ m2 = 0 ∨ n = 1 ∧ (m = 0 ∨ m = 1) ∧ (m2 = 0 ∨ m2 = 1))
   (h1 : ∀ W, Below w.heap.size w W → Calls Tryz.prog 10 #[.string a] W fun e W' => e = .returned (.bool true) ∧ Below W.heap.size W W')
   (h2 : ∀ W, Below w.heap.size w W → Calls Tryz.prog 10 #[.string b] W fun e W' => e = .returned (.bool true) ∧ Below W.heap.size W W')
   (h3 : ∀ W, Below w.heap.size w W → Calls Tryz.prog 36 #[.string a, .string b] W fun e W' => e = .returned (.tuple #[.int .i64 n, .int .i64 0]) ∧ Below W.heap.size W W')
   (h4 : ∀ j : Int, j = k → ∀ W, Below w.heap.size w W → Calls Tryz.prog 12 #[.string a, .int .i64 j] W fun e W' => e = .returned (.tuple #[.string s, .int .i64 0]) ∧ Below W.heap.size W W')
   (h5 : ∀ j : Int, j = k → ∀ W, Below w.heap.size w W → Calls Tryz.prog 12 #[.string b, .int .i64 j] W fun e W' => e = .returned (.tuple #[.string t, .int .i64 0]) ∧ Below W.heap.size W W')
   (h6 : ∀ W, Below w.heap.size w W → Calls Tryz.prog 13 #[.string s] W fun e W' => e = .returned (.tuple #[.string x, .int .i64 0]) ∧ Below W.heap.size W W')
   (h7 : ∀ W, Below w.heap.size w W → Calls Tryz.prog 13 #[.string t] W fun e W' => e = .returned (.tuple #[.string y, .int .i64 0]) ∧ Below W.heap.size W W')
   (h8 : ∀ W, Below w.heap.size w W → Calls Tryz.prog 36 #[.string x, .string y] W fun e W' => e = .returned (.tuple #[.int .i64 m, .int .i64 0]) ∧ Below W.heap.size W W')
   (h9 : ∀ W, Below w.heap.size w W → Calls Tryz.prog 21 #[.string a] W fun e W' => e = .returned (.tuple #[.string s2, .int .i64 0]) ∧ Below W.heap.size W W')
   (h10 : ∀ W, Below w.heap.size w W → Calls Tryz.prog 21 #[.string b] W fun e W' => e = .returned (.tuple #[.string t2, .int .i64 0]) ∧ Below W.heap.size W W')
   (h11 : ∀ W, Below w.heap.size w W → Calls Tryz.prog 22 #[.string s2] W fun e W' => e = .returned (.tuple #[.string x2, .int .i64 0]) ∧ Below W.heap.size W W')
   (h12 : ∀ W, Below w.heap.size w W → Calls Tryz.prog 22 #[.string t2] W fun e W' => e = .returned (.tuple #[.string y2, .int .i64 0]) ∧ Below W.heap.size W W')
   (h13 : ∀ W, Below w.heap.size w W → Calls Tryz.prog 36 #[.string x2, .string y2] W fun e W' => e = .returned (.tuple #[.int .i64 m2, .int .i64 0]) ∧ Below W.heap.size W W')
   (h14 : ∀ W, Below w.heap.size w W → Calls Tryz.prog 11 #[] W fun e W' => e = .returned (.bool true) ∧ Below W.heap.size W W')
   : Calls Tryz.prog 9 #[.string a, .string b, .int .u8 p] w fun e W' => e = .returned (.bool true) ∧ Below w.heap.size w W' := by
 have O := Lib.hid (And.intro h1 (And.intro h2 (And.intro h3 (And.intro h4 (And.intro h5 (And.intro h6 (And.intro h7 (And.intro h8 (And.intro h9 (And.intro h10 (And.intro h11 (And.intro h12 (And.intro h13 (h14)))))))))))))); clear h1 h2 h3 h4 h5 h6 h7 h8 h9 h10 h11 h12 h13 h14
 have hrem : Int.tmod (p : Int) 21 = ((p % 21 : Nat) : Int) := by rw [Int.tmod_eq_emod_of_nonneg (by omega)]; omega
 have hm4 := mx4m
 have hm2 := mx2m
 rcases hn with ⟨rfl, rfl | rfl, rfl | rfl⟩ | ⟨rfl, rfl, rfl⟩ | ⟨rfl, rfl | rfl, rfl | rfl⟩ <;>
 (go_enter Tryz.func9, Tryz.ntmps9
  have HB := Lib.hid (Below.refl w.heap.size w)
  go_wp2_with fail
  refine (O.out.1 _ HB.out).mono ?_
  rintro e w1 ⟨rfl, b⟩
  have HN := Lib.hid (HB.out.trans (b.mono HB.out.size)); clear HB b; have HB := HN; clear HN
  go_wp2_with fail
  refine (O.out.2.1 _ HB.out).mono ?_
  rintro e w2 ⟨rfl, b⟩
  have HN := Lib.hid (HB.out.trans (b.mono HB.out.size)); clear HB b; have HB := HN; clear HN
  go_wp2_with fail
  refine (O.out.2.2.1 _ HB.out).mono ?_
  rintro e w3 ⟨rfl, b⟩
  have HN := Lib.hid (HB.out.trans (b.mono HB.out.size)); clear HB b; have HB := HN; clear HN
  go_wp2_with fail
  refine (O.out.2.2.2.1 _ (by omega) _ HB.out).mono ?_
  rintro e w4 ⟨rfl, b⟩
  have HN := Lib.hid (HB.out.trans (b.mono HB.out.size)); clear HB b; have HB := HN; clear HN
  go_wp2_with fail
  refine (O.out.2.2.2.2.1 _ (by omega) _ HB.out).mono ?_
  rintro e w5 ⟨rfl, b⟩
  have HN := Lib.hid (HB.out.trans (b.mono HB.out.size)); clear HB b; have HB := HN; clear HN
  go_wp2_with fail
  refine (O.out.2.2.2.2.2.1 _ HB.out).mono ?_
  rintro e w6 ⟨rfl, b⟩
  have HN := Lib.hid (HB.out.trans (b.mono HB.out.size)); clear HB b; have HB := HN; clear HN
  go_wp2_with fail
  refine (O.out.2.2.2.2.2.2.1 _ HB.out).mono ?_
  rintro e w7 ⟨rfl, b⟩
  have HN := Lib.hid (HB.out.trans (b.mono HB.out.size)); clear HB b; have HB := HN; clear HN
  go_wp2_with fail
  refine (O.out.2.2.2.2.2.2.2.1 _ HB.out).mono ?_
  rintro e w8 ⟨rfl, b⟩
  have HN := Lib.hid (HB.out.trans (b.mono HB.out.size)); clear HB b; have HB := HN; clear HN
  go_wp2_with fail
  refine (O.out.2.2.2.2.2.2.2.2.1 _ HB.out).mono ?_
  rintro e w9 ⟨rfl, b⟩
  have HN := Lib.hid (HB.out.trans (b.mono HB.out.size)); clear HB b; have HB := HN; clear HN
  go_wp2_with fail
  refine (O.out.2.2.2.2.2.2.2.2.2.1 _ HB.out).mono ?_
  rintro e w10 ⟨rfl, b⟩
  have HN := Lib.hid (HB.out.trans (b.mono HB.out.size)); clear HB b; have HB := HN; clear HN
  go_wp2_with fail
  refine (O.out.2.2.2.2.2.2.2.2.2.2.1 _ HB.out).mono ?_
  rintro e w11 ⟨rfl, b⟩
  have HN := Lib.hid (HB.out.trans (b.mono HB.out.size)); clear HB b; have HB := HN; clear HN
  go_wp2_with fail
  refine (O.out.2.2.2.2.2.2.2.2.2.2.2.1 _ HB.out).mono ?_
  rintro e w12 ⟨rfl, b⟩
  have HN := Lib.hid (HB.out.trans (b.mono HB.out.size)); clear HB b; have HB := HN; clear HN
  go_wp2_with fail
  refine (O.out.2.2.2.2.2.2.2.2.2.2.2.2.1 _ HB.out).mono ?_
  rintro e w13 ⟨rfl, b⟩
  have HN := Lib.hid (HB.out.trans (b.mono HB.out.size)); clear HB b; have HB := HN; clear HN
  go_wp2_with fail
  refine (O.out.2.2.2.2.2.2.2.2.2.2.2.2.2 _ HB.out).mono ?_
  rintro e w14 ⟨rfl, b⟩
  have HN := Lib.hid (HB.out.trans (b.mono HB.out.size)); clear HB b; have HB := HN; clear HN
  go_wp2
  go_ret
  exact ⟨rfl, HB.out⟩)
theorem le_cases {c d : Rat} (h : c ≤ d) : cmpQ c d = -1 ∨ cmpQ c d = 0 := by
 rcases cmpQ_range c d with ⟨e, _⟩ | ⟨e, _⟩ | ⟨e, l⟩
 · exact .inl e
 · exact .inr e
 · exfalso; grind
theorem ge_cases {c d : Rat} (h : d ≤ c) : cmpQ c d = 0 ∨ cmpQ c d = 1 := by
 rcases cmpQ_range c d with ⟨e, l⟩ | ⟨e, _⟩ | ⟨e, _⟩
 · exfalso; grind
 · exact .inl e
 · exact .inr e
theorem mono_cases {f g : Rat → Rat} (hf : ∀ x y, x ≤ y → f x ≤ f y) (hg : ∀ x y, x ≤ y → g x ≤ g y) (x y : Rat) :
   cmpQ x y = -1 ∧ (cmpQ (f x) (f y) = -1 ∨ cmpQ (f x) (f y) = 0) ∧ (cmpQ (g x) (g y) = -1 ∨ cmpQ (g x) (g y) = 0) ∨ cmpQ x y = 0 ∧ cmpQ (f x) (f y) = 0 ∧ cmpQ (g x) (g y) = 0 ∨ cmpQ x y = 1 ∧ (cmpQ (f x) (f y) = 0 ∨ cmpQ (f x) (f y) = 1) ∧ (cmpQ (g x) (g y) = 0 ∨ cmpQ (g x) (g y) = 1) := by
 rcases cmpQ_range x y with ⟨e, l⟩ | ⟨e, rfl⟩ | ⟨e, l⟩
 · exact .inl ⟨e, le_cases (hf _ _ (Rat.le_of_lt l)), le_cases (hg _ _ (Rat.le_of_lt l))⟩
 · exact .inr (.inl ⟨e, cmpQ_eq _, cmpQ_eq _⟩)
 · exact .inr (.inr ⟨e, ge_cases (hf _ _ (Rat.le_of_lt l)), ge_cases (hg _ _ (Rat.le_of_lt l))⟩)
def rdP (n : Nat) (x : Rat) : Rat := ((nr (x * pw n) : Int) : Rat) * uv n
def rdF (x : Rat) : Rat := ((nr (x / tw) : Int) : Rat) * tw
theorem nr_cast {x y : Rat} (h : x ≤ y) : ((nr x : Int) : Rat) ≤ ((nr y : Int) : Rat) := Rat.intCast_le_intCast.2 (nr_mono h)
theorem rdP_mono (n : Nat) (x y : Rat) (h : x ≤ y) : rdP n x ≤ rdP n y :=
 Rat.mul_le_mul_of_nonneg_right (nr_cast (Rat.mul_le_mul_of_nonneg_right h (Rat.le_of_lt (pw_pos n)))) (Rat.le_of_lt (uv_pos n))
theorem tw_inv : (0 : Rat) ≤ tw⁻¹ := by decide +kernel
theorem rdF_mono (x y : Rat) (h : x ≤ y) : rdF x ≤ rdF y := by
 refine Rat.mul_le_mul_of_nonneg_right (nr_cast ?_) (Rat.le_of_lt tw_pos)
 rw [Rat.div_def, Rat.div_def]
 exact Rat.mul_le_mul_of_nonneg_right h tw_inv
theorem print_parse (x : Rat) (n : Nat) (hx : Bq 30 x) (hn : n ≤ 20) : Bq 100 (rdP n x) ∧ ∀ (w : World), TabM w →
   (∀ W, Below w.heap.size w W → Calls Tryz.prog 12 #[.string (strQ x), .int .i64 n] W fun e W' => e = .returned (.tuple #[.string (bO (decT n (nr (x * pw n)))), .int .i64 0]) ∧ Below W.heap.size W W') ∧
   (∀ W, Below w.heap.size w W → Calls Tryz.prog 13 #[.string (bO (decT n (nr (x * pw n))))] W fun e W' => e = .returned (.tuple #[.string (strQ (rdP n x)), .int .i64 0]) ∧ Below W.heap.size W W') := by
 obtain ⟨_, _, a3⟩ := qmul_ok hx (pw_bq n) (by omega)
 obtain ⟨_, _, b3⟩ := half_add a3 (by omega)
 have ub := nr_bd b3
 obtain ⟨_, _, hb⟩ := qmul_ok (Bq_int (by omega) ub) (uv_bq n) (by omega)
 have lz := dec_len (k := 30 + (n + 1) + 2) (by omega) ub
 have ld := decU_len n (nr (x * pw n)).natAbs
 have ls := sg_len (decide (nr (x * pw n) < 0)) (decU n (nr (x * pw n)).natAbs)
 have lt : (decT n (nr (x * pw n))).length ≤ 90 := by unfold decT; omega
 obtain ⟨v1, v2, v3⟩ := decT_val n (nr (x * pw n))
 rw [uv_div] at v3
 refine ⟨hb.up (by omega), fun w T => ⟨fun W hW => print_q x n W (hx.up (by decide)) (by omega) (T.next hW), fun W hW => ?_⟩⟩
 have c := parse_ok (bO (decT n (nr (x * pw n)))) W (by rw [bO_size]; exact lt) (by rw [bO_data]; exact v1) (by rw [bO_data]; exact v2) (T.next hW)
 rwa [bO_data, v3] at c
theorem feet_parse (x : Rat) (hx : Bq 30 x) : Bq 100 (rdF x) ∧ ∀ (w : World), TabM w →
   (∀ W, Below w.heap.size w W → Calls Tryz.prog 21 #[.string (strQ x)] W fun e W' => e = .returned (.tuple #[.string (bO (ftT (nr (x / tw)))), .int .i64 0]) ∧ Below W.heap.size W W') ∧
   (∀ W, Below w.heap.size w W → Calls Tryz.prog 22 #[.string (bO (ftT (nr (x / tw))))] W fun e W' => e = .returned (.tuple #[.string (strQ (rdF x)), .int .i64 0]) ∧ Below W.heap.size W W') := by
 obtain ⟨_, _, a3⟩ := qdiv_ok hx tw_bq (by decide) tw_ne
 obtain ⟨_, _, b3⟩ := half_add a3 (by decide)
 have ub := nr_bd b3
 obtain ⟨_, _, hb⟩ := qmul_ok (Bq_int (by decide) ub) tw_bq (by decide)
 exact ⟨hb.up (by decide), fun w T => ⟨fun W hW => Feet_q x W (hx.up (by decide)) (T.next hW), fun W hW => pfeet_q _ W (ub.up (by decide)) (T.next hW)⟩⟩
theorem MeasureOrder_nat (a b : ByteArray) (p : Nat) (w : World) (ha : a.size ≤ maxLen) (hb : b.size ≤ maxLen) (hp : p ≤ 255) (T : TabM w) :
   Calls Tryz.prog 9 #[.string a, .string b, .int .u8 p] w fun e W' => e = .returned (.bool true) ∧ Below w.heap.size w W' := by
 have hf := fun W (hW : Below w.heap.size w W) => fineM a W ha (T.next hW)
 have hg := fun W (hW : Below w.heap.size w W) => fineM b W hb (T.next hW)
 have hA := fun W (hW : Below w.heap.size w W) => awake7_any W (T.next hW)
 by_cases h : fM a = true
 · rw [h] at hf
   by_cases h2 : fM b = true
   · rw [h2] at hg
     obtain ⟨x, rfl, hx⟩ := fM_str h
     obtain ⟨y, rfl, hy⟩ := fM_str h2
     obtain ⟨x1, x2⟩ := print_parse x (p % 21) hx (by omega)
     obtain ⟨y1, y2⟩ := print_parse y (p % 21) hy (by omega)
     obtain ⟨x3, x4⟩ := feet_parse x hx
     obtain ⟨y3, y4⟩ := feet_parse y hy
     obtain ⟨q1, q2⟩ := qcmp_ok hx hy (by decide)
     obtain ⟨r1, r2⟩ := qcmp_ok x1 y1 (by decide)
     obtain ⟨s1, s2⟩ := qcmp_ok x3 y3 (by decide)
     refine MeasureOrder_yes _ _ _ _ _ _ _ _ _ _ (cmpQ x y) (cmpQ (rdP (p % 21) x) (rdP (p % 21) y)) (cmpQ (rdF x) (rdF y)) p (p % 21) w hp rfl (mono_cases (rdP_mono _) rdF_mono x y) hf hg (fun W hW => ?_) (fun j hj W hW => by rw [hj]; exact (x2 w T).1 W hW) (fun j hj W hW => by rw [hj]; exact (y2 w T).1 W hW) (x2 w T).2 (y2 w T).2 (fun W hW => ?_) (x4 w T).1 (y4 w T).1 (x4 w T).2 (y4 w T).2 (fun W hW => ?_) hA
     · have c := Compare_q x y W (hx.lim (by decide)) (hy.lim (by decide)) (T.next hW).1 (T.next hW).2
       rwa [q1, q2] at c
     · have c := Compare_q _ _ W (x1.lim (by decide)) (y1.lim (by decide)) (T.next hW).1 (T.next hW).2
       rwa [r1, r2] at c
     · have c := Compare_q _ _ W (x3.lim (by decide)) (y3.lim (by decide)) (T.next hW).1 (T.next hW).2
       rwa [s1, s2] at c
   · have h2' : fM b = false := by simpa using h2
     rw [h2'] at hg
     exact MeasureOrder_no2 a b p w hf hg hA
 · have hf' : fM a = false := by simpa using h
   rw [hf'] at hf
   exact MeasureOrder_no1 a b p w hf hA
theorem MeasureOrder_any (a b : ByteArray) (p : Int) (w : World) (ha : a.size ≤ maxLen) (hb : b.size ≤ maxLen) (hp : (Lit.int .u8 p).wf = true) (T : TabM w) :
   Calls Tryz.prog 9 #[.string a, .string b, .int .u8 p] w fun e W' => e = .returned (.bool true) ∧ Below w.heap.size w W' := by
 have mn : IntKind.u8.min = 0 := rfl
 have mx : IntKind.u8.max = 255 := rfl
 simp [Lit.wf] at hp
 obtain ⟨p', rfl⟩ : ∃ k : Nat, p = k := ⟨p.toNat, by omega⟩
 exact MeasureOrder_nat a b p' w ha hb (by omega) T
end Go.Proofs.YtkjhaengllpaoaaGreatDoor.T
