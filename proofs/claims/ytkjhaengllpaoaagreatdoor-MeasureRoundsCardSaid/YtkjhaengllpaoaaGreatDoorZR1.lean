/- Parts of the proof of the text YtkjhaengllpaoaaGreatDoorZR2. -/
import Derived.Test.YtkjhaengllpaoaaGreatDoorZB1
import Derived.Test.YtkjhaengllpaoaaGreatDoorZB26
set_option linter.all false
set_option maxRecDepth 100000
set_option maxHeartbeats 8000000
namespace Go.Proofs.YtkjhaengllpaoaaGreatDoor.T
open Go.Proofs.YtkjhaengllpaoaaGreatDoor Go Go.RowKit
theorem MeasureRounds_no (a : ByteArray) (p : Nat) (w : World)
   (h1 : ∀ W, Below w.heap.size w W → Calls Tryz.prog 10 #[.string a] W fun e W' => e = .returned (.bool false) ∧ Below W.heap.size W W')
   (h2 : ∀ W, Below w.heap.size w W → Calls Tryz.prog 11 #[] W fun e W' => e = .returned (.bool true) ∧ Below W.heap.size W W')
   : Calls Tryz.prog 3 #[.string a, .int .u8 p] w fun e W' => e = .returned (.bool true) ∧ Below w.heap.size w W' := by
 have O := Lib.hid (And.intro h1 (h2)); clear h1 h2
 go_enter Tryz.func3, Tryz.ntmps3
 have HB := Lib.hid (Below.refl w.heap.size w)
 go_wp2_with fail
 refine (O.out.1 _ HB.out).mono ?_
 rintro e w1 ⟨rfl, b⟩
 have HN := Lib.hid (HB.out.trans (b.mono HB.out.size)); clear HB b; have HB := HN; clear HN
 go_wp2_with fail
 refine (O.out.2 _ HB.out).mono ?_
 rintro e w2 ⟨rfl, b⟩
 have HN := Lib.hid (HB.out.trans (b.mono HB.out.size)); clear HB b; have HB := HN; clear HN
 go_wp2
 go_ret
 exact ⟨rfl, HB.out⟩
theorem MeasureRounds_yes (a s b u x y : ByteArray) (p n : Nat) (w : World) (hp : p ≤ 255) (hn : n = 1 + p % 20) (ly : ((y.size : Int) == 1 + (p : Int) % 20) = true)
   (h1 : ∀ W, Below w.heap.size w W → Calls Tryz.prog 10 #[.string a] W fun e W' => e = .returned (.bool true) ∧ Below W.heap.size W W')
   (h2 : ∀ j : Int, j = n → ∀ W, Below w.heap.size w W → Calls Tryz.prog 12 #[.string a, .int .i64 j] W fun e W' => e = .returned (.tuple #[.string s, .int .i64 0]) ∧ Below W.heap.size W W')
   (h3 : ∀ W, Below w.heap.size w W → Calls Tryz.prog 13 #[.string s] W fun e W' => e = .returned (.tuple #[.string b, .int .i64 0]) ∧ Below W.heap.size W W')
   (h4 : ∀ j : Int, j = n → ∀ W, Below w.heap.size w W → Calls Tryz.prog 15 #[.int .i64 j] W fun e W' => e = .returned (.string u) ∧ Below W.heap.size W W')
   (h5 : ∀ W, Below w.heap.size w W → Calls Tryz.prog 14 #[.string b, .string a, .string u] W fun e W' => e = .returned (.bool true) ∧ Below W.heap.size W W')
   (h6 : ∀ W, Below w.heap.size w W → Calls Tryz.prog 16 #[.string s, .string ⟨#[46]⟩] W fun e W' => e = .returned (.tuple #[.string x, .string y, .bool true]) ∧ Below W.heap.size W W')
   (h7 : ∀ W, Below w.heap.size w W → Calls Tryz.prog 11 #[] W fun e W' => e = .returned (.bool true) ∧ Below W.heap.size W W')
   : Calls Tryz.prog 3 #[.string a, .int .u8 p] w fun e W' => e = .returned (.bool true) ∧ Below w.heap.size w W' := by
 have O := Lib.hid (And.intro h1 (And.intro h2 (And.intro h3 (And.intro h4 (And.intro h5 (And.intro h6 (h7))))))); clear h1 h2 h3 h4 h5 h6 h7
 have hrem : Int.tmod (p : Int) 20 = ((p % 20 : Nat) : Int) := by rw [Int.tmod_eq_emod_of_nonneg (by omega)]; omega
 go_enter Tryz.func3, Tryz.ntmps3
 have HB := Lib.hid (Below.refl w.heap.size w)
 go_wp2_with fail
 refine (O.out.1 _ HB.out).mono ?_
 rintro e w1 ⟨rfl, b⟩
 have HN := Lib.hid (HB.out.trans (b.mono HB.out.size)); clear HB b; have HB := HN; clear HN
 go_wp2_with fail
 refine (O.out.2.1 _ (by omega) _ HB.out).mono ?_
 rintro e w2 ⟨rfl, b⟩
 have HN := Lib.hid (HB.out.trans (b.mono HB.out.size)); clear HB b; have HB := HN; clear HN
 go_wp2_with fail
 refine (O.out.2.2.1 _ HB.out).mono ?_
 rintro e w3 ⟨rfl, b⟩
 have HN := Lib.hid (HB.out.trans (b.mono HB.out.size)); clear HB b; have HB := HN; clear HN
 go_wp2_with fail
 refine (O.out.2.2.2.1 _ (by omega) _ HB.out).mono ?_
 rintro e w4 ⟨rfl, b⟩
 have HN := Lib.hid (HB.out.trans (b.mono HB.out.size)); clear HB b; have HB := HN; clear HN
 go_wp2_with fail
 refine (O.out.2.2.2.2.1 _ HB.out).mono ?_
 rintro e w5 ⟨rfl, b⟩
 have HN := Lib.hid (HB.out.trans (b.mono HB.out.size)); clear HB b; have HB := HN; clear HN
 go_wp2_with fail
 refine (O.out.2.2.2.2.2.1 _ HB.out).mono ?_
 rintro e w6 ⟨rfl, b⟩
 have HN := Lib.hid (HB.out.trans (b.mono HB.out.size)); clear HB b; have HB := HN; clear HN
 go_wp2_with fail
 refine (O.out.2.2.2.2.2.2 _ HB.out).mono ?_
 rintro e w7 ⟨rfl, b⟩
 have HN := Lib.hid (HB.out.trans (b.mono HB.out.size)); clear HB b; have HB := HN; clear HN
 go_wp2
 go_ret
 exact ⟨rfl, HB.out⟩
theorem MeasureRounds_nat (a : ByteArray) (p : Nat) (w : World) (ha : a.size ≤ maxLen) (hp : p ≤ 255) (T : TabM w) :
   Calls Tryz.prog 3 #[.string a, .int .u8 p] w fun e W' => e = .returned (.bool true) ∧ Below w.heap.size w W' := by
 have hf := fun W (hW : Below w.heap.size w W) => fineM a W ha (T.next hW)
 have hA := fun W (hW : Below w.heap.size w W) => awake7_any W (T.next hW)
 by_cases h : fM a = true
 · obtain ⟨x, rfl, hx⟩ := fM_str h
   rw [h] at hf
   obtain ⟨_, _, a3⟩ := qmul_ok hx (pw_bq (1 + p % 20)) (by omega)
   obtain ⟨_, _, b3⟩ := half_add a3 (by omega)
   have ub := nr_bd b3
   have hx9 := hx.up (by decide : 30 ≤ 90)
   have lz := dec_len (k := 30 + (1 + p % 20 + 1) + 2) (by omega) ub
   have ld := decU_len (1 + p % 20) (nr (x * pw (1 + p % 20))).natAbs
   have lt : (decT (1 + p % 20) (nr (x * pw (1 + p % 20)))).length ≤ 90 := by unfold decT; have := sg_len (decide (nr (x * pw (1 + p % 20)) < 0)) (decU (1 + p % 20) (nr (x * pw (1 + p % 20))).natAbs); omega
   obtain ⟨v1, v2, v3⟩ := decT_val (1 + p % 20) (nr (x * pw (1 + p % 20)))
   obtain ⟨c1, c2⟩ := decT_cut (n := 1 + p % 20) (by omega) (nr (x * pw (1 + p % 20)))
   obtain ⟨r1, r2⟩ := near_b (a := x) (uv_pos (1 + p % 20)) (uv_pw (1 + p % 20))
   obtain ⟨_, _, hb⟩ := qmul_ok (Bq_int (by omega) ub) (uv_bq (1 + p % 20)) (by omega)
   rw [uv_div] at v3
   have oP := fun W (hW : Below w.heap.size w W) => print_q x (1 + p % 20) W hx9 (by omega) (T.next hW)
   generalize nr (x * pw (1 + p % 20)) = u at *
   refine MeasureRounds_yes (strQ x) (bO (decT (1 + p % 20) u)) (strQ ((u : Rat) * uv (1 + p % 20))) (strQ (uv (1 + p % 20))) (k1 46 (bO (decT (1 + p % 20) u))) (k2 46 (bO (decT (1 + p % 20) u))) p (1 + p % 20) w hp rfl ?_ hf (fun j hj W hW => ?_) (fun W hW => ?_) (fun j hj W hW => ?_) (fun W hW => ?_) (fun W hW => ?_) hA
   · have hk : (k2 46 (bO (decT (1 + p % 20) u))).size = 1 + p % 20 := by unfold k2; rw [bO_size, bO_data, c2]
     rw [hk, beq_iff_eq]; omega
   · rw [hj]; exact oP W hW
   · have c := parse_ok (bO (decT (1 + p % 20) u)) W (by rw [bO_size]; exact lt) (by rw [bO_data]; exact v1) (by rw [bO_data]; exact v2) (T.next hW)
     rwa [bO_data, v3] at c
   · rw [hj]; exact unit_q _ W (by omega) (by omega)
   · exact near7_q _ x (uv (1 + p % 20)) W hb hx (uv_bq _) (by omega) r1 r2 (T.next hW)
   · have c := mcut 46 (bO (decT (1 + p % 20) u)) W (by rw [bO_size]; omega)
     rwa [bO_data, c1] at c
 · have hf' : fM a = false := by simpa using h
   rw [hf'] at hf
   exact MeasureRounds_no a p w hf hA
theorem MeasureRounds_any (a : ByteArray) (p : Int) (w : World) (ha : a.size ≤ maxLen) (hp : (Lit.int .u8 p).wf = true) (T : TabM w) :
   Calls Tryz.prog 3 #[.string a, .int .u8 p] w fun e W' => e = .returned (.bool true) ∧ Below w.heap.size w W' := by
 have mn : IntKind.u8.min = 0 := rfl
 have mx : IntKind.u8.max = 255 := rfl
 simp [Lit.wf] at hp
 obtain ⟨p', rfl⟩ : ∃ k : Nat, p = k := ⟨p.toNat, by omega⟩
 exact MeasureRounds_nat a p' w ha (by omega) T
end Go.Proofs.YtkjhaengllpaoaaGreatDoor.T
