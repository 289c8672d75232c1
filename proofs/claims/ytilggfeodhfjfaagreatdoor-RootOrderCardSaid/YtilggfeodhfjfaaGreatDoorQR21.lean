/- Parts of the proof of the text YtilggfeodhfjfaaGreatDoorQR31. -/
import Derived.Test.YtilggfeodhfjfaaGreatDoorQR1
import Derived.Test.YtilggfeodhfjfaaGreatDoorQR18
import Derived.Test.YtilggfeodhfjfaaGreatDoorQR19
set_option linter.all false
set_option maxRecDepth 100000
set_option maxHeartbeats 8000000
namespace Go.Proofs.YtilggfeodhfjfaaGreatDoor.T
open Go.Proofs.YtilggfeodhfjfaaGreatDoor Go.RowKit Go.Lib
theorem near_z (n d r q m : Int) (w : World)
   (h1 : ∀ W, Below w.heap.size w W → Calls Tryz.prog 94 #[.string (strB n), .string ⟨#[52]⟩] W fun e W' => e = .returned (.string (strB (n * 4))) ∧ Below W.heap.size W W')
   (h2 : ∀ W, Below w.heap.size w W → Calls Tryz.prog 56 #[.agg #[.string (strB (n * 4)), .string (strB d)]] W fun e W' => e = .returned (.string (strB r)) ∧ Below W.heap.size W W')
   (h3 : ∀ W, Below w.heap.size w W → Calls Tryz.prog 106 #[.string (strB r), .string ⟨#[50]⟩] W fun e W' => e = .returned (.tuple #[.string (strB q), .string (strB m)]) ∧ Below W.heap.size W W')
   (h4 : ∀ W, Below w.heap.size w W → Calls Tryz.prog 117 #[.string (strB q), .string (strB m)] W fun e W' => e = .returned (.string (strB (q + m))) ∧ Below W.heap.size W W') :
   Calls Tryz.prog 65 #[.agg #[.string (strB n), .string (strB d)]] w fun e W' => e = .returned (.string (strB (q + m))) ∧ Below w.heap.size w W' := by
 have C := Lib.hid (And.intro h1 (And.intro h2 (And.intro h3 h4))); clear h1 h2 h3 h4
 go_enter Tryz.func65, Tryz.ntmps65
 go_wp2
 have hbx : Bxs w w.heap.size [[.string (strB n), .string (strB d)]] (w.alloc (.cells #[.string (strB n), .string (strB d)] 59)) := ((Bxs.nil w w (Below.refl _ _)).push rfl [.string (strB n), .string (strB d)] 59)
 generalize (w.alloc (.cells #[.string (strB n), .string (strB d)] 59)) = W0 at *
 generalize hk : w.heap.size = k at *
 have HK := Lib.hid hk; clear hk
 have HB := Lib.hid (hbx.next (Below.refl _ _).drew)
 clear hbx
 have e00 := (show World.cell? _ ⟨k, 0, none⟩ = some (.string (strB n)) from HB.out.cells 0 _ rfl 0 _ rfl)
 have e01 := (show World.cell? _ ⟨k, 1, none⟩ = some (.string (strB d)) from HB.out.cells 0 _ rfl 1 _ rfl)
 go_region_held3 (fun w' => w'.cell? ⟨k, 0, none⟩ = some (.string (strB n)) ∧ w'.cell? ⟨k, 1, none⟩ = some (.string (strB d))) (first | exact ⟨e00, e01⟩ | (go_keep; done) | ((try dsimp only); (refine ⟨?_, ?_⟩ <;> (exact far2 (by omega) (by assumption)))))
   (first | (go_at_call 94; refine (C.out.1 _ (by have := HB.out.below; rwa [HK.out] at this)).mono ?_; rintro e w1 ⟨rfl, b⟩; have HN := Lib.hid (HB.out.next b); clear HB b; have HB := HN; clear HN; have e00 := (show World.cell? _ ⟨k, 0, none⟩ = some (.string (strB n)) from HB.out.cells 0 _ rfl 0 _ rfl); have e01 := (show World.cell? _ ⟨k, 1, none⟩ = some (.string (strB d)) from HB.out.cells 0 _ rfl 1 _ rfl)) | (go_at_call 56; refine (C.out.2.1 _ (by have := HB.out.below; rwa [HK.out] at this)).mono ?_; rintro e w1 ⟨rfl, b⟩; have HN := Lib.hid (HB.out.next b); clear HB b; have HB := HN; clear HN; have e00 := (show World.cell? _ ⟨k, 0, none⟩ = some (.string (strB n)) from HB.out.cells 0 _ rfl 0 _ rfl); have e01 := (show World.cell? _ ⟨k, 1, none⟩ = some (.string (strB d)) from HB.out.cells 0 _ rfl 1 _ rfl)))
 all_goals
   go_wp2_with fail
   refine (C.out.2.2.1 _ (by have := HB.out.below; rwa [HK.out] at this)).mono ?_
   rintro e w3 ⟨rfl, b⟩
   have HN := Lib.hid (HB.out.next b); clear HB b; have HB := HN; clear HN; have e00 := (show World.cell? _ ⟨k, 0, none⟩ = some (.string (strB n)) from HB.out.cells 0 _ rfl 0 _ rfl); have e01 := (show World.cell? _ ⟨k, 1, none⟩ = some (.string (strB d)) from HB.out.cells 0 _ rfl 1 _ rfl)
   go_wp2_with fail
   refine (C.out.2.2.2 _ (by have := HB.out.below; rwa [HK.out] at this)).mono ?_
   rintro e w4 ⟨rfl, b⟩
   have HN := Lib.hid (HB.out.next b); clear HB b; have HB := HN; clear HN; have e00 := (show World.cell? _ ⟨k, 0, none⟩ = some (.string (strB n)) from HB.out.cells 0 _ rfl 0 _ rfl); have e01 := (show World.cell? _ ⟨k, 1, none⟩ = some (.string (strB d)) from HB.out.cells 0 _ rfl 1 _ rfl)
   go_wp2
   go_ret
   refine ⟨rfl, ?_⟩
   have hbl := HB.out.below
   rwa [HK.out] at hbl ⊢
noncomputable def nearN (n d : Nat) : Nat := (rootN (4 * n / d) + 1) / 2
theorem strB_nat1 {k : Nat} {l : List UInt8} (h : Lib.itoa (k : Int) = l) : strB (k : Int) = ⟨l.toArray⟩ := str_of _ _ h
theorem onearest (n d : Nat) (w : World) (h1 : 4 * n < lim) (h2 : d < lim) (h0 : 0 < d) (ht : Tab w) :
   Calls Tryz.prog 65 #[.agg #[.string (strB n), .string (strB d)]] w fun e W' => e = .returned (.string (strB (nearN n d : Nat))) ∧ Below w.heap.size w W' := by
 have k0 : rootN (4 * n / d) < lim := Nat.lt_of_le_of_lt rootN_pos_le (Nat.lt_of_le_of_lt (Nat.div_le_self _ _) h1)
 have s4 : strB ((4 : Nat) : Int) = ⟨#[52]⟩ := strB_nat1 (by decide +kernel)
 have s2 : strB ((2 : Nat) : Int) = ⟨#[50]⟩ := strB_nat1 (by decide +kernel)
 have e1 : ((n : Nat) : Int) * 4 = ((4 * n : Nat) : Int) := by rw [Nat.mul_comm, Int.natCast_mul]; rfl
 have e2 : ((rootN (4 * n / d) / 2 : Nat) : Int) + ((rootN (4 * n / d) % 2 : Nat) : Int) = ((nearN n d : Nat) : Int) := by unfold nearN; generalize rootN (4 * n / d) = r; omega
 have l4 : (4 : Nat) < lim := by rw [← nat_short]; exact small_lim (by decide)
 have l2 : (2 : Nat) < lim := by rw [← nat_short]; exact small_lim (by decide)
 have hb : rootN (4 * n / d) / 2 < lim := Nat.lt_of_le_of_lt (Nat.div_le_self _ _) k0
 have hm : rootN (4 * n / d) % 2 < lim := Nat.lt_trans (Nat.mod_lt _ (by decide)) l2
 have hN : nearN n d < lim := by unfold nearN; generalize rootN (4 * n / d) = r at *; omega
 rw [← e2]
 refine near_z n d (rootN (4 * n / d) : Nat) _ _ w (fun W h => ?_) (fun W h => ?_) (fun W h => ?_) (fun W h => ?_)
 · have c := otimes n (4 : Nat) W (nat_short.2 (Nat.lt_of_le_of_lt (by omega) h1)) (nat_short.2 l4) (by rw [show ((n : Nat) : Int) * ((4 : Nat) : Int) = ((4 * n : Nat) : Int) from e1]; exact nat_short.2 h1) (ht.next h)
   rw [s4] at c
   exact c
 · rw [e1]; exact orootDown (4 * n) d W h1 h2 h0 (ht.next h)
 · have c := odivide (rootN (4 * n / d) : Nat) (2 : Nat) W (nat_short.2 k0) (nat_short.2 l2) (by decide) (ht.next h)
   rw [nat_fdiv, nat_fmod, s2] at c
   exact c
 · exact oplus _ _ W (nat_short.2 hb) (nat_short.2 hm) (by rw [e2]; exact nat_short.2 hN) (ht.next h)
theorem inUnits_z (s t : ByteArray) (a b c d : Int) (w : World) (ha : short a) (hb : short b) (hc : short c) (hd : short d) (h1 : short (a * d)) (h2 : short (b * c)) (h3 : short (a * d * d)) (h4 : short (b * c * c)) (ht : Tab w)
   (p1 : ∀ W, Below w.heap.size w W → Calls Tryz.prog 42 #[.string s] W fun e W' => e = .returned (.agg #[.string (strB a), .string (strB b)]) ∧ Below W.heap.size W W')
   (p2 : ∀ W, Below w.heap.size w W → Calls Tryz.prog 42 #[.string t] W fun e W' => e = .returned (.agg #[.string (strB c), .string (strB d)]) ∧ Below W.heap.size W W') :
   Calls Tryz.prog 60 #[.string s, .string t] w fun e W' => e = .returned (.agg #[.string (strB (a * d * d)), .string (strB (b * c * c))]) ∧ Below w.heap.size w W' := by
 have ct := fun x y z v W (hx : short x) (hy : short y) (hz : short z) (hv : short v) (h1 : short (x * z)) (h2 : short (y * v)) (hW : Below w.heap.size w W) => ptimes x y z v W hx hy hz hv h1 h2 (ht.next hW)
 have ci := fun W => oinverse_any (strB c) (strB d) W
 have C := Lib.hid (And.intro p1 (And.intro p2 (And.intro ct ci))); clear ct ci p1 p2 ht
 go_enter Tryz.func60, Tryz.ntmps60
 go_wp2_with fail
 have HB := Lib.hid (And.intro (Blk.new w #[.string ⟨#[]⟩, .string ⟨#[]⟩] 59) ((Below.refl _ w).alloc (Nat.le_refl _) (.cells #[.string ⟨#[]⟩, .string ⟨#[]⟩] 59)))
 generalize w.alloc (.cells #[.string ⟨#[]⟩, .string ⟨#[]⟩] 59) = W0 at *
 generalize hk : w.heap.size = k at *
 have HK := Lib.hid hk; clear hk
 refine (C.out.2.1 _ (HB.out.2)).mono ?_
 rintro e w1 ⟨rfl, b⟩
 have HN := Lib.hid (And.intro (HB.out.1.next b)  (HB.out.2.trans (b.mono (by have h1 := HB.out.2.size; have h2 := HK.out; omega)))); clear HB b; have HB := HN; clear HN; have e00 := (show World.cell? _ ⟨k, 0, none⟩ = some (.string ⟨#[]⟩) from HB.out.1.cell 0 _ rfl); have f00 := (show World.frozen? _ ⟨k, 0, none⟩ = false from HB.out.1.free 0); have e01 := (show World.cell? _ ⟨k, 1, none⟩ = some (.string ⟨#[]⟩) from HB.out.1.cell 1 _ rfl); have f01 := (show World.frozen? _ ⟨k, 1, none⟩ = false from HB.out.1.free 1)
 go_wp2_with fail
 refine (C.out.2.2.2 _).mono ?_
 rintro e w2 ⟨rfl, b⟩
 have HN := Lib.hid (And.intro (HB.out.1.next b)  (HB.out.2.trans (b.mono (by have h1 := HB.out.2.size; have h2 := HK.out; omega)))); clear HB b; have HB := HN; clear HN; have e00 := (show World.cell? _ ⟨k, 0, none⟩ = some (.string ⟨#[]⟩) from HB.out.1.cell 0 _ rfl); have f00 := (show World.frozen? _ ⟨k, 0, none⟩ = false from HB.out.1.free 0); have e01 := (show World.cell? _ ⟨k, 1, none⟩ = some (.string ⟨#[]⟩) from HB.out.1.cell 1 _ rfl); have f01 := (show World.frozen? _ ⟨k, 1, none⟩ = false from HB.out.1.free 1)
 go_wp2
 have hlt := HB.out.1.lt
 have hle := HB.out.2.size
 have HN := Lib.hid (And.intro (HB.out.1.alloc (.cells #[.string (strB d), .string (strB c)] 59)) (And.intro (Blk.new w2 #[.string (strB d), .string (strB c)] 59) (HB.out.2.alloc (by have := HB.out.2.size; rw [HK.out] at this; exact this) (.cells #[.string (strB d), .string (strB c)] 59))))
 clear HB
 have HB := HN; clear HN
 generalize w2.alloc (.cells #[.string (strB d), .string (strB c)] 59) = W3 at *
 generalize w2.heap.size = m at *
 have HD := Lib.hid (And.intro HB.out.1.drew (And.intro HB.out.2.1.drew HB.out.2.2.drew)); clear HB; have HB := HD; clear HD
 have e00 := (show World.cell? _ ⟨k, 0, none⟩ = some (.string ⟨#[]⟩) from HB.out.1.cell 0 _ rfl); have f00 := (show World.frozen? _ ⟨k, 0, none⟩ = false from HB.out.1.free 0); have e01 := (show World.cell? _ ⟨k, 1, none⟩ = some (.string ⟨#[]⟩) from HB.out.1.cell 1 _ rfl); have f01 := (show World.frozen? _ ⟨k, 1, none⟩ = false from HB.out.1.free 1); have e10 := (show World.cell? _ ⟨m, 0, none⟩ = some (.string (strB d)) from HB.out.2.1.cell 0 _ rfl); have e11 := (show World.cell? _ ⟨m, 1, none⟩ = some (.string (strB c)) from HB.out.2.1.cell 1 _ rfl)
 go_region_held3 (fun w' => w'.cell? ⟨m, 0, none⟩ = some (.string (strB d)) ∧ w'.cell? ⟨m, 1, none⟩ = some (.string (strB c))) (first | exact ⟨e10, e11⟩ | (go_keep; done) | ((try dsimp only); (refine ⟨?_, ?_⟩ <;> (exact far2 (by omega) (by assumption)))))
   (first | (go_at_call 42; refine (C.out.1 _ (HB.out.2.2)).mono ?_; rintro e w4 ⟨rfl, b⟩; have HN := Lib.hid (And.intro (HB.out.1.next b) (And.intro (HB.out.2.1.next b) (HB.out.2.2.trans (b.mono (by have h1 := HB.out.2.2.size; have h2 := HK.out; omega))))); clear HB b; have HB := HN; clear HN; have e00 := (show World.cell? _ ⟨k, 0, none⟩ = some (.string ⟨#[]⟩) from HB.out.1.cell 0 _ rfl); have f00 := (show World.frozen? _ ⟨k, 0, none⟩ = false from HB.out.1.free 0); have e01 := (show World.cell? _ ⟨k, 1, none⟩ = some (.string ⟨#[]⟩) from HB.out.1.cell 1 _ rfl); have f01 := (show World.frozen? _ ⟨k, 1, none⟩ = false from HB.out.1.free 1); have e10 := (show World.cell? _ ⟨m, 0, none⟩ = some (.string (strB d)) from HB.out.2.1.cell 0 _ rfl); have e11 := (show World.cell? _ ⟨m, 1, none⟩ = some (.string (strB c)) from HB.out.2.1.cell 1 _ rfl)) | (go_at_call 104; refine (C.out.2.2.1 _ _ _ _ _ (by assumption) (by assumption) (by assumption) (by assumption) (by assumption) (by assumption) (HB.out.2.2)).mono ?_; rintro e w4 ⟨rfl, b⟩; have HN := Lib.hid (And.intro (HB.out.1.next b) (And.intro (HB.out.2.1.next b) (HB.out.2.2.trans (b.mono (by have h1 := HB.out.2.2.size; have h2 := HK.out; omega))))); clear HB b; have HB := HN; clear HN; have e00 := (show World.cell? _ ⟨k, 0, none⟩ = some (.string ⟨#[]⟩) from HB.out.1.cell 0 _ rfl); have f00 := (show World.frozen? _ ⟨k, 0, none⟩ = false from HB.out.1.free 0); have e01 := (show World.cell? _ ⟨k, 1, none⟩ = some (.string ⟨#[]⟩) from HB.out.1.cell 1 _ rfl); have f01 := (show World.frozen? _ ⟨k, 1, none⟩ = false from HB.out.1.free 1); have e10 := (show World.cell? _ ⟨m, 0, none⟩ = some (.string (strB d)) from HB.out.2.1.cell 0 _ rfl); have e11 := (show World.cell? _ ⟨m, 1, none⟩ = some (.string (strB c)) from HB.out.2.1.cell 1 _ rfl)))
 all_goals
   have e00 := (show World.cell? _ ⟨k, 0, none⟩ = some (.string ⟨#[]⟩) from HB.out.1.cell 0 _ rfl); have f00 := (show World.frozen? _ ⟨k, 0, none⟩ = false from HB.out.1.free 0); have e01 := (show World.cell? _ ⟨k, 1, none⟩ = some (.string ⟨#[]⟩) from HB.out.1.cell 1 _ rfl); have f01 := (show World.frozen? _ ⟨k, 1, none⟩ = false from HB.out.1.free 1); have e10 := (show World.cell? _ ⟨m, 0, none⟩ = some (.string (strB d)) from HB.out.2.1.cell 0 _ rfl); have e11 := (show World.cell? _ ⟨m, 1, none⟩ = some (.string (strB c)) from HB.out.2.1.cell 1 _ rfl)
   obtain ⟨g0, g1⟩ := twoB e00 e01 (.string (strB (a * d * d))) (.string (strB (b * c * c)))
   go_wp2
   refine bodyPost_ret (v := .agg #[.string (strB (a * d * d)), .string (strB (b * c * c))]) (by simp [results, Tryz.results60, go_sem, g0, g1]) rfl ?_
   refine ⟨rfl, ?_⟩
   rw [HK.out]
   exact below_put2 HB.out.2.2 (by omega) _ _
theorem multiple_core (a b r : ByteArray) (e0 : Int) (w : World)
   (h : ∀ W, Below w.heap.size w W → Calls Tryz.prog 69 #[.string a, .string b] W fun e W' => e = .returned (.tuple #[.string r, .int .i64 e0]) ∧ Below W.heap.size W W') :
   Calls Tryz.prog 62 #[.string a, .string b] w fun e W' => e = .returned (.string r) ∧ Below w.heap.size w W' := by
 have C := Lib.hid h; clear h
 go_enter Tryz.func62, Tryz.ntmps62
 go_wp2_with fail
 refine (C.out _ (Below.refl _ _)).mono ?_
 rintro e w1 ⟨rfl, b⟩
 have B1 := Lib.hid b; clear b
 go_wp2
 go_ret
 exact ⟨rfl, B1.out⟩
end Go.Proofs.YtilggfeodhfjfaaGreatDoor.T
namespace Go.Proofs.YtilggfeodhfjfaaGreatDoor.T
open Go.Proofs.YtilggfeodhfjfaaGreatDoor
theorem cast1 : ((1 : Nat) : Rat) = 1 := rfl
def bothS (q : Rat) : Prop := rootN q.num.natAbs * rootN q.num.natAbs = q.num.natAbs ∧ rootN q.den * rootN q.den = q.den
noncomputable instance (q : Rat) : Decidable (bothS q) := inferInstanceAs (Decidable (_ ∧ _))
noncomputable def cN (q : Rat) : Nat := if bothS q then rootN q.num.natAbs else (strips primes q.num.natAbs).1
noncomputable def cD (q : Rat) : Nat := if bothS q then rootN q.den else (strips primes q.den).1 * (strips primes q.den).2
noncomputable def nN (q : Rat) : Nat := if bothS q then 1 else (strips primes q.num.natAbs).2 * (strips primes q.den).2
noncomputable def nC (q : Rat) : Rat := mkRat (cN q : Nat) (cD q)
theorem num_nat {q : Rat} (h : 0 ≤ q) : ((q.num.natAbs : Nat) : Int) = q.num := by
 have := Rat.num_nonneg.2 h; omega
theorem mk_nat {q : Rat} (h : 0 ≤ q) : mkRat ((q.num.natAbs : Nat) : Int) q.den = q := by rw [num_nat h, Rat.mkRat_self]
theorem root_0 : rootN 0 = 0 := rootN_eq ⟨Nat.le_refl _, by decide⟩
theorem root_1 : rootN 1 = 1 := rootN_eq ⟨by decide, by decide⟩
theorem num_pos_of {q : Rat} (h : ¬ bothS q) : 0 < q.num.natAbs := by
 refine Nat.pos_of_ne_zero fun z => h ?_
 have e : q.num = 0 := by omega
 have d : q.den = 1 := by have := q.reduced; rw [z] at this; exact (Nat.coprime_zero_left _).1 this
 unfold bothS; rw [z, d, root_0, root_1]; exact ⟨rfl, rfl⟩
theorem cop (q : Rat) : Nat.Coprime (cN q) (cD q) := by
 unfold cN cD
 split
 · rename_i h
   refine Nat.Coprime.coprime_dvd_left (k := q.num.natAbs) ?_ (Nat.Coprime.coprime_dvd_right (m := q.den) ?_ q.reduced)
   · exact ⟨_, h.1.symm⟩
   · exact ⟨_, h.2.symm⟩
 · rename_i h; exact (norm_no (num_pos_of h) q.den_pos q.reduced primes primes_pr).2.2.1
end Go.Proofs.YtilggfeodhfjfaaGreatDoor.T
namespace Go.Proofs.YtilggfeodhfjfaaGreatDoor.T
open Go.Proofs.YtilggfeodhfjfaaGreatDoor
theorem castn_nonneg (r : Nat) : (0 : Rat) ≤ (r : Rat) := by
 have := Rat.natCast_le_natCast (a := 0) (b := r)
 exact this.2 (Nat.zero_le _)
theorem RQ.le {z : Rat} {r : Nat} (h : RQ z r) : (r : Rat) * r ≤ z := by have := h.1; rwa [Rat.natCast_mul] at this
theorem RQ.lt {z : Rat} {r : Nat} (h : RQ z r) : z < ((r : Rat) + 1) * ((r : Rat) + 1) := by
 have := h.2; rw [Rat.natCast_mul, Rat.natCast_add] at this; exact this
theorem floor_le {q u z : Rat} {r : Nat} (hu : 0 < u) (hz : z * (u * u) = q) (h : RQ z r) : (r * u) * (r * u) ≤ q ∧ q < (r * u + u) * (r * u + u) := by
 have p := Rat.mul_pos hu hu
 have a := Rat.mul_le_mul_of_nonneg_right h.le (Rat.le_of_lt p)
 have b := Rat.mul_lt_mul_of_pos_right h.lt p
 rw [hz] at a b
 refine ⟨?_, ?_⟩
 · have e : (r : Rat) * r * (u * u) = (r * u) * (r * u) := by grind
   rwa [e] at a
 · have e : ((r : Rat) + 1) * (r + 1) * (u * u) = (r * u + u) * (r * u + u) := by grind
   rwa [e] at b
theorem near_le {q u z : Rat} {s r : Nat} (hu : 0 < u) (hz : z * (u * u) = q) (h : RQ (4 * z) s) (hr : r = (s + 1) / 2) :
   q < (r * u + u / 2) * (r * u + u / 2) ∧ (r = 0 ∨ (r * u - u / 2) * (r * u - u / 2) ≤ q) := by
 have p := Rat.mul_pos hu hu
 have h1 : s + 1 ≤ 2 * r + 1 := by omega
 have h2 : 4 * z < (2 * (r : Rat) + 1) * (2 * (r : Rat) + 1) := by
   have a := h.2
   have b : (((s + 1) * (s + 1) : Nat) : Rat) ≤ (((2 * r + 1) * (2 * r + 1) : Nat) : Rat) := Rat.natCast_le_natCast.2 (Nat.mul_self_le_mul_self h1)
   have c : (((2 * r + 1) * (2 * r + 1) : Nat) : Rat) = (2 * (r : Rat) + 1) * (2 * (r : Rat) + 1) := by
     rw [Rat.natCast_mul, Rat.natCast_add, Rat.natCast_mul]; rfl
   rw [c] at b
   exact Std.lt_of_lt_of_le a b
 refine ⟨?_, ?_⟩
 · have b := Rat.mul_lt_mul_of_pos_right h2 p
   grind
 · rcases Nat.eq_zero_or_pos r with r0 | r0
   · exact .inl r0
   · right
     have h3 : 2 * (r - 1) + 1 ≤ s := by omega
     have a := h.1
     have b : (((2 * (r - 1) + 1) * (2 * (r - 1) + 1) : Nat) : Rat) ≤ ((s * s : Nat) : Rat) := Rat.natCast_le_natCast.2 (Nat.mul_self_le_mul_self h3)
     have d : ((r - 1 : Nat) : Rat) = (r : Rat) - 1 := by
       have e : (((r - 1) + 1 : Nat) : Rat) = (r : Rat) := by congr 1; omega
       rw [Rat.natCast_add, cast1] at e; grind
     have c : (((2 * (r - 1) + 1) * (2 * (r - 1) + 1) : Nat) : Rat) = (2 * (r : Rat) - 1) * (2 * (r : Rat) - 1) := by
       rw [Rat.natCast_mul, Rat.natCast_add, Rat.natCast_mul, d, cast1]; show (2 * ((r : Rat) - 1) + 1) * (2 * ((r : Rat) - 1) + 1) = _; grind
     rw [c] at b
     have b := Rat.mul_le_mul_of_nonneg_right (Std.le_trans b a) (Rat.le_of_lt p)
     grind
def CQ (z : Rat) (c : Nat) : Prop := z ≤ ((c * c : Nat) : Rat) ∧ ∀ k : Nat, z ≤ ((k * k : Nat) : Rat) → c ≤ k
theorem CQ.exact {z : Rat} {r : Nat} (h : ((r * r : Nat) : Rat) = z) : CQ z r := by
 subst h
 refine ⟨Rat.le_refl, fun k hk => ?_⟩
 have := Rat.natCast_le_natCast.1 hk
 rcases Nat.lt_or_ge k r with l | l
 · exact absurd (Nat.mul_self_lt_mul_self l) (by omega)
 · exact l
theorem CQ.next {z : Rat} {r : Nat} (h : RQ z r) (hn : ((r * r : Nat) : Rat) ≠ z) : CQ z (r + 1) := by
 refine ⟨Rat.le_of_lt h.2, fun k hk => ?_⟩
 have a : ((r * r : Nat) : Rat) < ((k * k : Nat) : Rat) := Std.lt_of_lt_of_le (Rat.lt_of_le_of_ne h.1 hn) hk
 have := Rat.natCast_lt_natCast.1 a
 rcases Nat.lt_or_ge r k with l | l
 · exact l
 · exact absurd (Nat.mul_self_le_mul_self l) (by omega)
end Go.Proofs.YtilggfeodhfjfaaGreatDoor.T
namespace Go.Proofs.YtilggfeodhfjfaaGreatDoor.T
open Go.Proofs.YtilggfeodhfjfaaGreatDoor
def sg (a : Rat) : Rat := if a < 0 then -(a * a) else a * a
end Go.Proofs.YtilggfeodhfjfaaGreatDoor.T
namespace Go.Proofs.YtilggfeodhfjfaaGreatDoor.T
open Go.Proofs.YtilggfeodhfjfaaGreatDoor
noncomputable def rootR (z : Rat) : Rat := mkRat (rootN z.num.natAbs : Nat) (rootN z.den)
theorem nC_both {z : Rat} (h : bothS z) : nC z = rootR z ∧ nN z = 1 := by
 unfold nC rootR cN cD nN; rw [if_pos h, if_pos h, if_pos h]; exact ⟨rfl, rfl⟩
end Go.Proofs.YtilggfeodhfjfaaGreatDoor.T
namespace Go.Proofs.YtilggfeodhfjfaaGreatDoor
open Go.RowKit
theorem rl_n (s n d : ByteArray) (c2 : Int) (f : Bool) (w : World)
   (hcut : CqB w 131 #[.string s] (.tuple #[.string n, .string d, .bool f]))
   (hk1 : CqB w 186 #[.string n] (.int .i64 11))
   (hk2 : CqB w 186 #[.string d] (.int .i64 c2)) :
   Calls Tryz.prog 128 #[.string s] w fun e W' => e = .returned (.tuple #[.agg #[.string ⟨#[]⟩, .int .i64 0, .string ⟨#[]⟩, .int .i64 0], .int .i64 11]) ∧ Below w.heap.size w W' := by
 have C := Lib.hid (And.intro hcut (And.intro hk1 (And.intro hk2 trivial))); clear hcut hk1 hk2
 go_enter Tryz.func128, Tryz.ntmps128
 go_wp2_with fail
 have hb0 := Blk.new w #[.string ⟨#[]⟩, .int .i64 0, .string ⟨#[]⟩, .int .i64 0] 95
 have hB0 : Below w.heap.size w (w.alloc (.cells #[.string ⟨#[]⟩, .int .i64 0, .string ⟨#[]⟩, .int .i64 0] 95)) := (Below.refl _ w).alloc (Nat.le_refl _) _
 generalize w.alloc (.cells #[.string ⟨#[]⟩, .int .i64 0, .string ⟨#[]⟩, .int .i64 0] 95) = W0 at *
 have H0 := Lib.hid (And.intro hb0 hB0); clear hb0 hB0
 refine (C.out.1 _ H0.out.2).mono ?_
 rintro e w1 ⟨rfl, b⟩
 have H1 := Lib.hid (And.intro (H0.out.1.next b) (H0.out.2.trans (b.mono H0.out.2.size))); clear b H0
 go_wp2_with fail
 refine (C.out.2.1 _ H1.out.2).mono ?_
 rintro e w2 ⟨rfl, b⟩
 have H2 := Lib.hid (And.intro (H1.out.1.next b) (H1.out.2.trans (b.mono H1.out.2.size))); clear b H1
 go_wp2_with fail
 refine (C.out.2.2.1 _ H2.out.2).mono ?_
 rintro e w3 ⟨rfl, b⟩
 have H3 := Lib.hid (And.intro (H2.out.1.next b) (H2.out.2.trans (b.mono H2.out.2.size))); clear b H2
 have q0 := H3.out.1.cell 0 (.string ⟨#[]⟩) rfl
 have q1 := H3.out.1.cell 1 (.int .i64 0) rfl
 have q2 := H3.out.1.cell 2 (.string ⟨#[]⟩) rfl
 have q3 := H3.out.1.cell 3 (.int .i64 0) rfl
 have f0 := H3.out.1.free 0
 have f1 := H3.out.1.free 1
 have f2 := H3.out.1.free 2
 have f3 := H3.out.1.free 3
 have HP := Lib.hid (H3.out.1.put4 (.string ⟨#[]⟩) (.int .i64 0) (.string ⟨#[]⟩) (.int .i64 0))
 have HL := Lib.hid (below_put4 H3.out.2 (l := w.heap.size) (Nat.le_refl _) (.string ⟨#[]⟩) (.int .i64 0) (.string ⟨#[]⟩) (.int .i64 0))
 have g0 := HP.out.cell 0 (.string ⟨#[]⟩) rfl
 have g1 := HP.out.cell 1 (.int .i64 0) rfl
 have g2 := HP.out.cell 2 (.string ⟨#[]⟩) rfl
 have g3 := HP.out.cell 3 (.int .i64 0) rfl
 go_wp2
 refine bodyPost_ret (v := .tuple #[.agg #[.string ⟨#[]⟩, .int .i64 0, .string ⟨#[]⟩, .int .i64 0], .int .i64 11]) (by simp [results, Tryz.results128, go_sem, g0, g1, g2, g3]) rfl ?_
 exact ⟨rfl, HL.out⟩
theorem rl_1 (s n d : ByteArray) (c1 : Int) (c2 : Int) (w : World) (a1 : (c1 == 11) = false) (a1' : (c1 != 11) = true) (a2 : (c2 == 11) = false) (a2' : (c2 != 11) = true) (hp : 0 < d.size) (hp' : (0 : Int) < d.size) (hm : ((d[0].toNat : Int) == 45) = false) (hm' : ((d[0].toNat : Int) != 45) = true) (h0 : (d.toList == [48]) = false) (h0' : (d.toList != [48]) = true) (h1 : (d.toList == [49]) = true)
   (hcut : CqB w 131 #[.string s] (.tuple #[.string n, .string d, .bool true]))
   (hk1 : CqB w 186 #[.string n] (.int .i64 c1))
   (hk2 : CqB w 186 #[.string d] (.int .i64 c2)) :
   Calls Tryz.prog 128 #[.string s] w fun e W' => e = .returned (.tuple #[.agg #[.string ⟨#[]⟩, .int .i64 0, .string ⟨#[]⟩, .int .i64 0], .int .i64 11]) ∧ Below w.heap.size w W' := by
 have C := Lib.hid (And.intro hcut (And.intro hk1 (And.intro hk2 trivial))); clear hcut hk1 hk2
 go_enter Tryz.func128, Tryz.ntmps128
 go_wp2_with fail
 have hb0 := Blk.new w #[.string ⟨#[]⟩, .int .i64 0, .string ⟨#[]⟩, .int .i64 0] 95
 have hB0 : Below w.heap.size w (w.alloc (.cells #[.string ⟨#[]⟩, .int .i64 0, .string ⟨#[]⟩, .int .i64 0] 95)) := (Below.refl _ w).alloc (Nat.le_refl _) _
 generalize w.alloc (.cells #[.string ⟨#[]⟩, .int .i64 0, .string ⟨#[]⟩, .int .i64 0] 95) = W0 at *
 have H0 := Lib.hid (And.intro hb0 hB0); clear hb0 hB0
 refine (C.out.1 _ H0.out.2).mono ?_
 rintro e w1 ⟨rfl, b⟩
 have H1 := Lib.hid (And.intro (H0.out.1.next b) (H0.out.2.trans (b.mono H0.out.2.size))); clear b H0
 go_wp2_with fail
 refine (C.out.2.1 _ H1.out.2).mono ?_
 rintro e w2 ⟨rfl, b⟩
 have H2 := Lib.hid (And.intro (H1.out.1.next b) (H1.out.2.trans (b.mono H1.out.2.size))); clear b H1
 go_wp2_with fail
 refine (C.out.2.2.1 _ H2.out.2).mono ?_
 rintro e w3 ⟨rfl, b⟩
 have H3 := Lib.hid (And.intro (H2.out.1.next b) (H2.out.2.trans (b.mono H2.out.2.size))); clear b H2
 have q0 := H3.out.1.cell 0 (.string ⟨#[]⟩) rfl
 have q1 := H3.out.1.cell 1 (.int .i64 0) rfl
 have q2 := H3.out.1.cell 2 (.string ⟨#[]⟩) rfl
 have q3 := H3.out.1.cell 3 (.int .i64 0) rfl
 have f0 := H3.out.1.free 0
 have f1 := H3.out.1.free 1
 have f2 := H3.out.1.free 2
 have f3 := H3.out.1.free 3
 have HP := Lib.hid (H3.out.1.put4 (.string ⟨#[]⟩) (.int .i64 0) (.string ⟨#[]⟩) (.int .i64 0))
 have HL := Lib.hid (below_put4 H3.out.2 (l := w.heap.size) (Nat.le_refl _) (.string ⟨#[]⟩) (.int .i64 0) (.string ⟨#[]⟩) (.int .i64 0))
 have g0 := HP.out.cell 0 (.string ⟨#[]⟩) rfl
 have g1 := HP.out.cell 1 (.int .i64 0) rfl
 have g2 := HP.out.cell 2 (.string ⟨#[]⟩) rfl
 have g3 := HP.out.cell 3 (.int .i64 0) rfl
 go_wp2
 refine bodyPost_ret (v := .tuple #[.agg #[.string ⟨#[]⟩, .int .i64 0, .string ⟨#[]⟩, .int .i64 0], .int .i64 11]) (by simp [results, Tryz.results128, go_sem, g0, g1, g2, g3]) rfl ?_
 exact ⟨rfl, HL.out⟩
theorem rl_b1 (s n d : ByteArray) (c2 : Int) (w : World) (a2 : (c2 == 11) = false) (a2' : (c2 != 11) = true) (hp : 0 < d.size) (hp' : (0 : Int) < d.size) (hm : ((d[0].toNat : Int) == 45) = false) (hm' : ((d[0].toNat : Int) != 45) = true) (h0 : (d.toList == [48]) = false) (h0' : (d.toList != [48]) = true) (h1 : (d.toList == [49]) = false) (b2 : (c2 == 0) = false) (b2' : (c2 != 0) = true)
   (hcut : CqB w 131 #[.string s] (.tuple #[.string n, .string d, .bool true]))
   (hk1 : CqB w 186 #[.string n] (.int .i64 0))
   (hk2 : CqB w 186 #[.string d] (.int .i64 c2)) :
   Calls Tryz.prog 128 #[.string s] w fun e W' => e = .returned (.tuple #[.agg #[.string ⟨#[]⟩, .int .i64 0, .string ⟨#[]⟩, .int .i64 0], .int .i64 4]) ∧ Below w.heap.size w W' := by
 have C := Lib.hid (And.intro hcut (And.intro hk1 (And.intro hk2 trivial))); clear hcut hk1 hk2
 go_enter Tryz.func128, Tryz.ntmps128
 go_wp2_with fail
 have hb0 := Blk.new w #[.string ⟨#[]⟩, .int .i64 0, .string ⟨#[]⟩, .int .i64 0] 95
 have hB0 : Below w.heap.size w (w.alloc (.cells #[.string ⟨#[]⟩, .int .i64 0, .string ⟨#[]⟩, .int .i64 0] 95)) := (Below.refl _ w).alloc (Nat.le_refl _) _
 generalize w.alloc (.cells #[.string ⟨#[]⟩, .int .i64 0, .string ⟨#[]⟩, .int .i64 0] 95) = W0 at *
 have H0 := Lib.hid (And.intro hb0 hB0); clear hb0 hB0
 refine (C.out.1 _ H0.out.2).mono ?_
 rintro e w1 ⟨rfl, b⟩
 have H1 := Lib.hid (And.intro (H0.out.1.next b) (H0.out.2.trans (b.mono H0.out.2.size))); clear b H0
 go_wp2_with fail
 refine (C.out.2.1 _ H1.out.2).mono ?_
 rintro e w2 ⟨rfl, b⟩
 have H2 := Lib.hid (And.intro (H1.out.1.next b) (H1.out.2.trans (b.mono H1.out.2.size))); clear b H1
 go_wp2_with fail
 refine (C.out.2.2.1 _ H2.out.2).mono ?_
 rintro e w3 ⟨rfl, b⟩
 have H3 := Lib.hid (And.intro (H2.out.1.next b) (H2.out.2.trans (b.mono H2.out.2.size))); clear b H2
 have q0 := H3.out.1.cell 0 (.string ⟨#[]⟩) rfl
 have q1 := H3.out.1.cell 1 (.int .i64 0) rfl
 have q2 := H3.out.1.cell 2 (.string ⟨#[]⟩) rfl
 have q3 := H3.out.1.cell 3 (.int .i64 0) rfl
 have f0 := H3.out.1.free 0
 have f1 := H3.out.1.free 1
 have f2 := H3.out.1.free 2
 have f3 := H3.out.1.free 3
 have HP := Lib.hid (H3.out.1.put4 (.string ⟨#[]⟩) (.int .i64 0) (.string ⟨#[]⟩) (.int .i64 0))
 have HL := Lib.hid (below_put4 H3.out.2 (l := w.heap.size) (Nat.le_refl _) (.string ⟨#[]⟩) (.int .i64 0) (.string ⟨#[]⟩) (.int .i64 0))
 have g0 := HP.out.cell 0 (.string ⟨#[]⟩) rfl
 have g1 := HP.out.cell 1 (.int .i64 0) rfl
 have g2 := HP.out.cell 2 (.string ⟨#[]⟩) rfl
 have g3 := HP.out.cell 3 (.int .i64 0) rfl
 go_wp2
 refine bodyPost_ret (v := .tuple #[.agg #[.string ⟨#[]⟩, .int .i64 0, .string ⟨#[]⟩, .int .i64 0], .int .i64 4]) (by simp [results, Tryz.results128, go_sem, g0, g1, g2, g3]) rfl ?_
 exact ⟨rfl, HL.out⟩
theorem rl_d (s n d : ByteArray) (c1 : Int) (f : Bool) (w : World) (a1 : (c1 == 11) = false) (a1' : (c1 != 11) = true)
   (hcut : CqB w 131 #[.string s] (.tuple #[.string n, .string d, .bool f]))
   (hk1 : CqB w 186 #[.string n] (.int .i64 c1))
   (hk2 : CqB w 186 #[.string d] (.int .i64 11)) :
   Calls Tryz.prog 128 #[.string s] w fun e W' => e = .returned (.tuple #[.agg #[.string ⟨#[]⟩, .int .i64 0, .string ⟨#[]⟩, .int .i64 0], .int .i64 11]) ∧ Below w.heap.size w W' := by
 have C := Lib.hid (And.intro hcut (And.intro hk1 (And.intro hk2 trivial))); clear hcut hk1 hk2
 go_enter Tryz.func128, Tryz.ntmps128
 go_wp2_with fail
 have hb0 := Blk.new w #[.string ⟨#[]⟩, .int .i64 0, .string ⟨#[]⟩, .int .i64 0] 95
 have hB0 : Below w.heap.size w (w.alloc (.cells #[.string ⟨#[]⟩, .int .i64 0, .string ⟨#[]⟩, .int .i64 0] 95)) := (Below.refl _ w).alloc (Nat.le_refl _) _
 generalize w.alloc (.cells #[.string ⟨#[]⟩, .int .i64 0, .string ⟨#[]⟩, .int .i64 0] 95) = W0 at *
 have H0 := Lib.hid (And.intro hb0 hB0); clear hb0 hB0
 refine (C.out.1 _ H0.out.2).mono ?_
 rintro e w1 ⟨rfl, b⟩
 have H1 := Lib.hid (And.intro (H0.out.1.next b) (H0.out.2.trans (b.mono H0.out.2.size))); clear b H0
 go_wp2_with fail
 refine (C.out.2.1 _ H1.out.2).mono ?_
 rintro e w2 ⟨rfl, b⟩
 have H2 := Lib.hid (And.intro (H1.out.1.next b) (H1.out.2.trans (b.mono H1.out.2.size))); clear b H1
 go_wp2_with fail
 refine (C.out.2.2.1 _ H2.out.2).mono ?_
 rintro e w3 ⟨rfl, b⟩
 have H3 := Lib.hid (And.intro (H2.out.1.next b) (H2.out.2.trans (b.mono H2.out.2.size))); clear b H2
 have q0 := H3.out.1.cell 0 (.string ⟨#[]⟩) rfl
 have q1 := H3.out.1.cell 1 (.int .i64 0) rfl
 have q2 := H3.out.1.cell 2 (.string ⟨#[]⟩) rfl
 have q3 := H3.out.1.cell 3 (.int .i64 0) rfl
 have f0 := H3.out.1.free 0
 have f1 := H3.out.1.free 1
 have f2 := H3.out.1.free 2
 have f3 := H3.out.1.free 3
 have HP := Lib.hid (H3.out.1.put4 (.string ⟨#[]⟩) (.int .i64 0) (.string ⟨#[]⟩) (.int .i64 0))
 have HL := Lib.hid (below_put4 H3.out.2 (l := w.heap.size) (Nat.le_refl _) (.string ⟨#[]⟩) (.int .i64 0) (.string ⟨#[]⟩) (.int .i64 0))
 have g0 := HP.out.cell 0 (.string ⟨#[]⟩) rfl
 have g1 := HP.out.cell 1 (.int .i64 0) rfl
 have g2 := HP.out.cell 2 (.string ⟨#[]⟩) rfl
 have g3 := HP.out.cell 3 (.int .i64 0) rfl
 go_wp2
 refine bodyPost_ret (v := .tuple #[.agg #[.string ⟨#[]⟩, .int .i64 0, .string ⟨#[]⟩, .int .i64 0], .int .i64 11]) (by simp [results, Tryz.results128, go_sem, g0, g1, g2, g3]) rfl ?_
 exact ⟨rfl, HL.out⟩
theorem rl_a0 (s n d : ByteArray) (c1 : Int) (c2 : Int) (w : World) (a1 : (c1 == 11) = false) (a1' : (c1 != 11) = true) (a2 : (c2 == 11) = false) (a2' : (c2 != 11) = true) (hp : 0 < d.size) (hp' : (0 : Int) < d.size) (hm : ((d[0].toNat : Int) == 45) = false) (hm' : ((d[0].toNat : Int) != 45) = true) (h0 : (d.toList == [48]) = false) (h0' : (d.toList != [48]) = true) (b1 : (c1 == 0) = false) (b1' : (c1 != 0) = true)
   (hcut : CqB w 131 #[.string s] (.tuple #[.string n, .string d, .bool false]))
   (hk1 : CqB w 186 #[.string n] (.int .i64 c1))
   (hk2 : CqB w 186 #[.string d] (.int .i64 c2)) :
   Calls Tryz.prog 128 #[.string s] w fun e W' => e = .returned (.tuple #[.agg #[.string ⟨#[]⟩, .int .i64 0, .string ⟨#[]⟩, .int .i64 0], .int .i64 4]) ∧ Below w.heap.size w W' := by
 have C := Lib.hid (And.intro hcut (And.intro hk1 (And.intro hk2 trivial))); clear hcut hk1 hk2
 go_enter Tryz.func128, Tryz.ntmps128
 go_wp2_with fail
 have hb0 := Blk.new w #[.string ⟨#[]⟩, .int .i64 0, .string ⟨#[]⟩, .int .i64 0] 95
 have hB0 : Below w.heap.size w (w.alloc (.cells #[.string ⟨#[]⟩, .int .i64 0, .string ⟨#[]⟩, .int .i64 0] 95)) := (Below.refl _ w).alloc (Nat.le_refl _) _
 generalize w.alloc (.cells #[.string ⟨#[]⟩, .int .i64 0, .string ⟨#[]⟩, .int .i64 0] 95) = W0 at *
 have H0 := Lib.hid (And.intro hb0 hB0); clear hb0 hB0
 refine (C.out.1 _ H0.out.2).mono ?_
 rintro e w1 ⟨rfl, b⟩
 have H1 := Lib.hid (And.intro (H0.out.1.next b) (H0.out.2.trans (b.mono H0.out.2.size))); clear b H0
 go_wp2_with fail
 refine (C.out.2.1 _ H1.out.2).mono ?_
 rintro e w2 ⟨rfl, b⟩
 have H2 := Lib.hid (And.intro (H1.out.1.next b) (H1.out.2.trans (b.mono H1.out.2.size))); clear b H1
 go_wp2_with fail
 refine (C.out.2.2.1 _ H2.out.2).mono ?_
 rintro e w3 ⟨rfl, b⟩
 have H3 := Lib.hid (And.intro (H2.out.1.next b) (H2.out.2.trans (b.mono H2.out.2.size))); clear b H2
 have q0 := H3.out.1.cell 0 (.string ⟨#[]⟩) rfl
 have q1 := H3.out.1.cell 1 (.int .i64 0) rfl
 have q2 := H3.out.1.cell 2 (.string ⟨#[]⟩) rfl
 have q3 := H3.out.1.cell 3 (.int .i64 0) rfl
 have f0 := H3.out.1.free 0
 have f1 := H3.out.1.free 1
 have f2 := H3.out.1.free 2
 have f3 := H3.out.1.free 3
 have HP := Lib.hid (H3.out.1.put4 (.string ⟨#[]⟩) (.int .i64 0) (.string ⟨#[]⟩) (.int .i64 0))
 have HL := Lib.hid (below_put4 H3.out.2 (l := w.heap.size) (Nat.le_refl _) (.string ⟨#[]⟩) (.int .i64 0) (.string ⟨#[]⟩) (.int .i64 0))
 have g0 := HP.out.cell 0 (.string ⟨#[]⟩) rfl
 have g1 := HP.out.cell 1 (.int .i64 0) rfl
 have g2 := HP.out.cell 2 (.string ⟨#[]⟩) rfl
 have g3 := HP.out.cell 3 (.int .i64 0) rfl
 go_wp2
 refine bodyPost_ret (v := .tuple #[.agg #[.string ⟨#[]⟩, .int .i64 0, .string ⟨#[]⟩, .int .i64 0], .int .i64 4]) (by simp [results, Tryz.results128, go_sem, g0, g1, g2, g3]) rfl ?_
 exact ⟨rfl, HL.out⟩
theorem rl_ok (s n d : ByteArray) (w : World) (hp : 0 < d.size) (hp' : (0 : Int) < d.size) (hm : ((d[0].toNat : Int) == 45) = false) (hm' : ((d[0].toNat : Int) != 45) = true) (h0 : (d.toList == [48]) = false) (h0' : (d.toList != [48]) = true)
   (hcut : CqB w 131 #[.string s] (.tuple #[.string n, .string d, .bool false]))
   (hk1 : CqB w 186 #[.string n] (.int .i64 0))
   (hk2 : CqB w 186 #[.string d] (.int .i64 0)) :
   Calls Tryz.prog 128 #[.string s] w fun e W' => e = .returned (.tuple #[.agg #[.string n, .int .i64 0, .string d, .int .i64 0], .int .i64 0]) ∧ Below w.heap.size w W' := by
 have C := Lib.hid (And.intro hcut (And.intro hk1 (And.intro hk2 trivial))); clear hcut hk1 hk2
 go_enter Tryz.func128, Tryz.ntmps128
 go_wp2_with fail
 have hb0 := Blk.new w #[.string ⟨#[]⟩, .int .i64 0, .string ⟨#[]⟩, .int .i64 0] 95
 have hB0 : Below w.heap.size w (w.alloc (.cells #[.string ⟨#[]⟩, .int .i64 0, .string ⟨#[]⟩, .int .i64 0] 95)) := (Below.refl _ w).alloc (Nat.le_refl _) _
 generalize w.alloc (.cells #[.string ⟨#[]⟩, .int .i64 0, .string ⟨#[]⟩, .int .i64 0] 95) = W0 at *
 have H0 := Lib.hid (And.intro hb0 hB0); clear hb0 hB0
 refine (C.out.1 _ H0.out.2).mono ?_
 rintro e w1 ⟨rfl, b⟩
 have H1 := Lib.hid (And.intro (H0.out.1.next b) (H0.out.2.trans (b.mono H0.out.2.size))); clear b H0
 go_wp2_with fail
 refine (C.out.2.1 _ H1.out.2).mono ?_
 rintro e w2 ⟨rfl, b⟩
 have H2 := Lib.hid (And.intro (H1.out.1.next b) (H1.out.2.trans (b.mono H1.out.2.size))); clear b H1
 go_wp2_with fail
 refine (C.out.2.2.1 _ H2.out.2).mono ?_
 rintro e w3 ⟨rfl, b⟩
 have H3 := Lib.hid (And.intro (H2.out.1.next b) (H2.out.2.trans (b.mono H2.out.2.size))); clear b H2
 have H4 := Lib.hid (show Blk (w3.alloc (.cells #[.string n, .int .i64 0, .string d, .int .i64 0] 95)) w.heap.size #[.string ⟨#[]⟩, .int .i64 0, .string ⟨#[]⟩, .int .i64 0] ∧ Below w.heap.size w (w3.alloc (.cells #[.string n, .int .i64 0, .string d, .int .i64 0] 95)) ∧ Blk (w3.alloc (.cells #[.string n, .int .i64 0, .string d, .int .i64 0] 95)) w3.heap.size #[.string n, .int .i64 0, .string d, .int .i64 0] ∧ w.heap.size < w3.heap.size from ⟨H3.out.1.alloc _, H3.out.2.alloc H3.out.2.size _, Blk.new w3 _ _, H3.out.1.lt⟩)
 have e0 := H4.out.2.2.1.cell 0 (.string n) rfl
 have e1 := H4.out.2.2.1.cell 1 (.int .i64 0) rfl
 have e2 := H4.out.2.2.1.cell 2 (.string d) rfl
 have e3 := H4.out.2.2.1.cell 3 (.int .i64 0) rfl
 have H5 := Lib.hid (And.intro H4.out.1 H4.out.2.1); clear H4
 have q0 := H5.out.1.cell 0 (.string ⟨#[]⟩) rfl
 have q1 := H5.out.1.cell 1 (.int .i64 0) rfl
 have q2 := H5.out.1.cell 2 (.string ⟨#[]⟩) rfl
 have q3 := H5.out.1.cell 3 (.int .i64 0) rfl
 have f0 := H5.out.1.free 0
 have f1 := H5.out.1.free 1
 have f2 := H5.out.1.free 2
 have f3 := H5.out.1.free 3
 have HP := Lib.hid (H5.out.1.put4 (.string n) (.int .i64 0) (.string d) (.int .i64 0))
 have HL := Lib.hid (below_put4 H5.out.2 (l := w.heap.size) (Nat.le_refl _) (.string n) (.int .i64 0) (.string d) (.int .i64 0))
 have g0 := HP.out.cell 0 (.string n) rfl
 have g1 := HP.out.cell 1 (.int .i64 0) rfl
 have g2 := HP.out.cell 2 (.string d) rfl
 have g3 := HP.out.cell 3 (.int .i64 0) rfl
 go_wp2
 refine bodyPost_ret (v := .tuple #[.agg #[.string n, .int .i64 0, .string d, .int .i64 0], .int .i64 0]) (by simp [results, Tryz.results128, go_sem, g0, g1, g2, g3]) rfl ?_
 exact ⟨rfl, HL.out⟩
end Go.Proofs.YtilggfeodhfjfaaGreatDoor
