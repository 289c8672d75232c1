/- Parts of the proof of the text YtpkloolckbhdaaaGreatDoorQD31. -/
import Derived.Test.YtpkloolckbhdaaaGreatDoorQD1
import Derived.Test.YtpkloolckbhdaaaGreatDoorQD18
import Derived.Test.YtpkloolckbhdaaaGreatDoorQD19
set_option linter.all false
set_option maxRecDepth 100000
set_option maxHeartbeats 8000000
namespace Go.Proofs.YtpkloolckbhdaaaGreatDoor.T
open Go.Proofs.YtpkloolckbhdaaaGreatDoor Go.RowKit Go.Lib
theorem up_yes (n d r : Int) (w : World) (hn : short n) (hd : short d) (hr : short r) (hrr : short (r * r)) (hx : short (r * r * d)) (he : ((strB (r * r * d)).toList == (strB n).toList) = true) (he' : ((strB (r * r * d)).toList != (strB n).toList) = false) (ht : Tab w)
   (h : ∀ W, Below w.heap.size w W → Calls Tryz.prog 43 #[.agg #[.string (strB n), .string (strB d)]] W fun e W' => e = .returned (.string (strB r)) ∧ Below W.heap.size W W') :
   Calls Tryz.prog 44 #[.agg #[.string (strB n), .string (strB d)]] w fun e W' => e = .returned (.string (strB r)) ∧ Below w.heap.size w W' := by
 have ct := fun x y W (hx : short x) (hy : short y) (hz : short (x * y)) (hW : Below w.heap.size w W) => otimes x y W hx hy hz (ht.next hW)
 have cp := True.intro
 have C := Lib.hid (And.intro h (And.intro ct cp)); clear ct cp h ht
 go_enter Tryz.func44, Tryz.ntmps44
 go_wp2_with fail
 have hbx : Bxs w w.heap.size [[.string (strB n), .string (strB d)]] (w.alloc (.cells #[.string (strB n), .string (strB d)] 75)) := ((Bxs.nil w w (Below.refl _ _)).push rfl [.string (strB n), .string (strB d)] 75)
 generalize (w.alloc (.cells #[.string (strB n), .string (strB d)] 75)) = W0 at *
 generalize hk : w.heap.size = k at *
 have HK := Lib.hid hk; clear hk
 have HB := Lib.hid hbx
 clear hbx
 have e00 := (show World.cell? _ ⟨k, 0, none⟩ = some (.string (strB n)) from HB.out.cells 0 _ rfl 0 _ rfl)
 have e01 := (show World.cell? _ ⟨k, 1, none⟩ = some (.string (strB d)) from HB.out.cells 0 _ rfl 1 _ rfl)
 refine (C.out.1 _ (by have := HB.out.below; rwa [HK.out] at this)).mono ?_
 rintro e w1 ⟨rfl, b⟩
 have HN := Lib.hid (HB.out.next b); clear HB b; have HB := HN; clear HN; have e00 := (show World.cell? _ ⟨k, 0, none⟩ = some (.string (strB n)) from HB.out.cells 0 _ rfl 0 _ rfl); have e01 := (show World.cell? _ ⟨k, 1, none⟩ = some (.string (strB d)) from HB.out.cells 0 _ rfl 1 _ rfl)
 go_wp2
 have HD := Lib.hid (HB.out.next (Below.refl _ _).drew); clear HB; have HB := HD; clear HD; have e00 := (show World.cell? _ ⟨k, 0, none⟩ = some (.string (strB n)) from HB.out.cells 0 _ rfl 0 _ rfl); have e01 := (show World.cell? _ ⟨k, 1, none⟩ = some (.string (strB d)) from HB.out.cells 0 _ rfl 1 _ rfl)
 go_region_held3 (fun w' => w'.cell? ⟨k, 0, none⟩ = some (.string (strB n)) ∧ w'.cell? ⟨k, 1, none⟩ = some (.string (strB d))) (first | exact ⟨e00, e01⟩ | (go_keep; done) | ((try dsimp only); (refine ⟨?_, ?_⟩ <;> (exact far2 (by omega) (by assumption)))))
   (first | (go_at_call 88; refine (C.out.2.1 _ _ _ (by assumption) (by assumption) (by assumption) (by have := HB.out.below; rwa [HK.out] at this)).mono ?_; rintro e w2 ⟨rfl, b⟩; have HN := Lib.hid (HB.out.next b); clear HB b; have HB := HN; clear HN; have e00 := (show World.cell? _ ⟨k, 0, none⟩ = some (.string (strB n)) from HB.out.cells 0 _ rfl 0 _ rfl); have e01 := (show World.cell? _ ⟨k, 1, none⟩ = some (.string (strB d)) from HB.out.cells 0 _ rfl 1 _ rfl)))
 have e00 := (show World.cell? _ ⟨k, 0, none⟩ = some (.string (strB n)) from HB.out.cells 0 _ rfl 0 _ rfl)
 have e01 := (show World.cell? _ ⟨k, 1, none⟩ = some (.string (strB d)) from HB.out.cells 0 _ rfl 1 _ rfl)
 go_wp2
 go_ret
 refine ⟨rfl, ?_⟩
 have hbl := HB.out.below
 rwa [HK.out] at hbl ⊢
theorem up_no (n d r : Int) (w : World) (hn : short n) (hd : short d) (hr : short r) (hrr : short (r * r)) (hx : short (r * r * d)) (hp : short (r + 1)) (he : ((strB (r * r * d)).toList == (strB n).toList) = false) (he' : ((strB (r * r * d)).toList != (strB n).toList) = true) (ht : Tab w)
   (h : ∀ W, Below w.heap.size w W → Calls Tryz.prog 43 #[.agg #[.string (strB n), .string (strB d)]] W fun e W' => e = .returned (.string (strB r)) ∧ Below W.heap.size W W') :
   Calls Tryz.prog 44 #[.agg #[.string (strB n), .string (strB d)]] w fun e W' => e = .returned (.string (strB (r + 1))) ∧ Below w.heap.size w W' := by
 have ct := fun x y W (hx : short x) (hy : short y) (hz : short (x * y)) (hW : Below w.heap.size w W) => otimes x y W hx hy hz (ht.next hW)
 have cp := fun W (hW : Below w.heap.size w W) => oplus r 1 W hr (small_lim (by decide)) hp (ht.next hW)
 rw [show strB 1 = ⟨#[49]⟩ from str_of 1 [49] itoa_one] at cp
 have C := Lib.hid (And.intro h (And.intro ct cp)); clear ct cp h ht
 go_enter Tryz.func44, Tryz.ntmps44
 go_wp2_with fail
 have hbx : Bxs w w.heap.size [[.string (strB n), .string (strB d)]] (w.alloc (.cells #[.string (strB n), .string (strB d)] 75)) := ((Bxs.nil w w (Below.refl _ _)).push rfl [.string (strB n), .string (strB d)] 75)
 generalize (w.alloc (.cells #[.string (strB n), .string (strB d)] 75)) = W0 at *
 generalize hk : w.heap.size = k at *
 have HK := Lib.hid hk; clear hk
 have HB := Lib.hid hbx
 clear hbx
 have e00 := (show World.cell? _ ⟨k, 0, none⟩ = some (.string (strB n)) from HB.out.cells 0 _ rfl 0 _ rfl)
 have e01 := (show World.cell? _ ⟨k, 1, none⟩ = some (.string (strB d)) from HB.out.cells 0 _ rfl 1 _ rfl)
 refine (C.out.1 _ (by have := HB.out.below; rwa [HK.out] at this)).mono ?_
 rintro e w1 ⟨rfl, b⟩
 have HN := Lib.hid (HB.out.next b); clear HB b; have HB := HN; clear HN; have e00 := (show World.cell? _ ⟨k, 0, none⟩ = some (.string (strB n)) from HB.out.cells 0 _ rfl 0 _ rfl); have e01 := (show World.cell? _ ⟨k, 1, none⟩ = some (.string (strB d)) from HB.out.cells 0 _ rfl 1 _ rfl)
 go_wp2
 have HD := Lib.hid (HB.out.next (Below.refl _ _).drew); clear HB; have HB := HD; clear HD; have e00 := (show World.cell? _ ⟨k, 0, none⟩ = some (.string (strB n)) from HB.out.cells 0 _ rfl 0 _ rfl); have e01 := (show World.cell? _ ⟨k, 1, none⟩ = some (.string (strB d)) from HB.out.cells 0 _ rfl 1 _ rfl)
 go_region_held3 (fun w' => w'.cell? ⟨k, 0, none⟩ = some (.string (strB n)) ∧ w'.cell? ⟨k, 1, none⟩ = some (.string (strB d))) (first | exact ⟨e00, e01⟩ | (go_keep; done) | ((try dsimp only); (refine ⟨?_, ?_⟩ <;> (exact far2 (by omega) (by assumption)))))
   (first | (go_at_call 88; refine (C.out.2.1 _ _ _ (by assumption) (by assumption) (by assumption) (by have := HB.out.below; rwa [HK.out] at this)).mono ?_; rintro e w2 ⟨rfl, b⟩; have HN := Lib.hid (HB.out.next b); clear HB b; have HB := HN; clear HN; have e00 := (show World.cell? _ ⟨k, 0, none⟩ = some (.string (strB n)) from HB.out.cells 0 _ rfl 0 _ rfl); have e01 := (show World.cell? _ ⟨k, 1, none⟩ = some (.string (strB d)) from HB.out.cells 0 _ rfl 1 _ rfl)))
 have e00 := (show World.cell? _ ⟨k, 0, none⟩ = some (.string (strB n)) from HB.out.cells 0 _ rfl 0 _ rfl)
 have e01 := (show World.cell? _ ⟨k, 1, none⟩ = some (.string (strB d)) from HB.out.cells 0 _ rfl 1 _ rfl)
 go_wp2_with fail
 refine (C.out.2.2 _ (by have := HB.out.below; rwa [HK.out] at this)).mono ?_
 rintro e w3 ⟨rfl, b⟩
 have HN := Lib.hid (HB.out.next b); clear HB b; have HB := HN; clear HN; have e00 := (show World.cell? _ ⟨k, 0, none⟩ = some (.string (strB n)) from HB.out.cells 0 _ rfl 0 _ rfl); have e01 := (show World.cell? _ ⟨k, 1, none⟩ = some (.string (strB d)) from HB.out.cells 0 _ rfl 1 _ rfl)
 go_wp2
 go_ret
 refine ⟨rfl, ?_⟩
 have hbl := HB.out.below
 rwa [HK.out] at hbl ⊢
noncomputable def upN (n d : Nat) : Nat := if rootN (n / d) * rootN (n / d) * d = n then rootN (n / d) else rootN (n / d) + 1
theorem orootUp (n d : Nat) (w : World) (h1 : n < lim) (h2 : d < lim) (h0 : 0 < d) (ht : Tab w) :
   Calls Tryz.prog 44 #[.agg #[.string (strB n), .string (strB d)]] w fun e W' => e = .returned (.string (strB (upN n d : Nat))) ∧ Below w.heap.size w W' := by
 have hr := (rootN_is (n / d)).1
 have k1 : rootN (n / d) * rootN (n / d) < lim := Nat.lt_of_le_of_lt hr (Nat.lt_of_le_of_lt (Nat.div_le_self _ _) h1)
 have k0 : rootN (n / d) < lim := Nat.lt_of_le_of_lt rootN_pos_le (Nat.lt_of_le_of_lt (Nat.div_le_self _ _) h1)
 have k2 : rootN (n / d) * rootN (n / d) * d ≤ n := Nat.le_trans (Nat.mul_le_mul_right d hr) (Nat.div_mul_le_self n d)
 have k3 : rootN (n / d) * rootN (n / d) * d < lim := Nat.lt_of_le_of_lt k2 h1
 have e1 : ((rootN (n / d) : Nat) : Int) * (rootN (n / d) : Nat) = ((rootN (n / d) * rootN (n / d) : Nat) : Int) := by rw [Int.natCast_mul]
 have e2 : ((rootN (n / d) : Nat) : Int) * (rootN (n / d) : Nat) * (d : Nat) = ((rootN (n / d) * rootN (n / d) * d : Nat) : Int) := by rw [e1, ← Int.natCast_mul]
 have ho : ((strB (((rootN (n / d) : Nat) : Int) * (rootN (n / d) : Nat) * (d : Nat))).toList == (strB (n : Int)).toList) = decide (rootN (n / d) * rootN (n / d) * d = n) := by
   rw [e2, ByteArray.toList_eq, ByteArray.toList_eq, strB_data, strB_data]
   by_cases h : rootN (n / d) * rootN (n / d) * d = n
   · rw [decide_eq_true h, h]; simp
   · rw [decide_eq_false h, beq_eq_false_iff_ne]; intro e; exact h (Int.ofNat.inj (itoa_inj e))
 have hD := fun W (h : Below w.heap.size w W) => orootDown n d W h1 h2 h0 (ht.next h)
 unfold upN
 by_cases h : rootN (n / d) * rootN (n / d) * d = n
 · rw [if_pos h]
   rw [decide_eq_true h] at ho
   exact up_yes _ _ _ w (nat_short.2 h1) (nat_short.2 h2) (nat_short.2 k0) (by rw [e1]; exact nat_short.2 k1) (by rw [e2]; exact nat_short.2 k3) ho (by rw [bne, ho]; rfl) ht hD
 · rw [if_neg h]
   rw [decide_eq_false h] at ho
   have hlt : rootN (n / d) + 1 < lim := by
     have : rootN (n / d) ≤ rootN (n / d) * rootN (n / d) * d := by
       rcases Nat.eq_zero_or_pos (rootN (n / d)) with z | z
       · rw [z]; exact Nat.zero_le _
       · exact Nat.le_trans (Nat.le_mul_of_pos_right _ z) (Nat.le_mul_of_pos_right _ h0)
     omega
   exact up_no _ _ _ w (nat_short.2 h1) (nat_short.2 h2) (nat_short.2 k0) (by rw [e1]; exact nat_short.2 k1) (by rw [e2]; exact nat_short.2 k3) (nat_short.2 hlt) ho (by rw [bne, ho]; rfl) ht hD
theorem strB_nat1 {k : Nat} {l : List UInt8} (h : Lib.itoa (k : Int) = l) : strB (k : Int) = ⟨l.toArray⟩ := str_of _ _ h
theorem inUnits_z (s t : ByteArray) (a b c d : Int) (w : World) (ha : short a) (hb : short b) (hc : short c) (hd : short d) (h1 : short (a * d)) (h2 : short (b * c)) (h3 : short (a * d * d)) (h4 : short (b * c * c)) (ht : Tab w)
   (p1 : ∀ W, Below w.heap.size w W → Calls Tryz.prog 71 #[.string s] W fun e W' => e = .returned (.agg #[.string (strB a), .string (strB b)]) ∧ Below W.heap.size W W')
   (p2 : ∀ W, Below w.heap.size w W → Calls Tryz.prog 71 #[.string t] W fun e W' => e = .returned (.agg #[.string (strB c), .string (strB d)]) ∧ Below W.heap.size W W') :
   Calls Tryz.prog 42 #[.string s, .string t] w fun e W' => e = .returned (.agg #[.string (strB (a * d * d)), .string (strB (b * c * c))]) ∧ Below w.heap.size w W' := by
 have ct := fun x y z v W (hx : short x) (hy : short y) (hz : short z) (hv : short v) (h1 : short (x * z)) (h2 : short (y * v)) (hW : Below w.heap.size w W) => ptimes x y z v W hx hy hz hv h1 h2 (ht.next hW)
 have ci := fun W => oinverse_any (strB c) (strB d) W
 have C := Lib.hid (And.intro p1 (And.intro p2 (And.intro ct ci))); clear ct ci p1 p2 ht
 go_enter Tryz.func42, Tryz.ntmps42
 go_wp2_with fail
 have HB := Lib.hid (And.intro (Blk.new w #[.string ⟨#[]⟩, .string ⟨#[]⟩] 75) ((Below.refl _ w).alloc (Nat.le_refl _) (.cells #[.string ⟨#[]⟩, .string ⟨#[]⟩] 75)))
 generalize w.alloc (.cells #[.string ⟨#[]⟩, .string ⟨#[]⟩] 75) = W0 at *
 generalize hk : w.heap.size = k at *
 have HK := Lib.hid hk; clear hk
 refine (C.out.2.1 _ (HB.out.2)).mono ?_
 rintro e w1 ⟨rfl, b⟩
 have HN := Lib.hid (And.intro (HB.out.1.next b)  (HB.out.2.trans (b.mono (by have h1 := HB.out.2.size; have h2 := HK.out; omega)))); clear HB b; have HB := HN; clear HN; have e00 := (show World.cell? _ ⟨k, 0, none⟩ = some (.string ⟨#[]⟩) from HB.out.1.cell 0 _ rfl); have f00 := (show World.frozen? _ ⟨k, 0, none⟩ = false from HB.out.1.free 0); have e01 := (show World.cell? _ ⟨k, 1, none⟩ = some (.string ⟨#[]⟩) from HB.out.1.cell 1 _ rfl); have f01 := (show World.frozen? _ ⟨k, 1, none⟩ = false from HB.out.1.free 1)
 go_wp2_with fail
 refine (C.out.2.2.2 _).mono ?_
 rintro e w2 ⟨rfl, b⟩
 have HN := Lib.hid (And.intro (HB.out.1.next b)  (HB.out.2.trans (b.mono (by have h1 := HB.out.2.size; have h2 := HK.out; omega)))); clear HB b; have HB := HN; clear HN; have e00 := (show World.cell? _ ⟨k, 0, none⟩ = some (.string ⟨#[]⟩) from HB.out.1.cell 0 _ rfl); have f00 := (show World.frozen? _ ⟨k, 0, none⟩ = false from HB.out.1.free 0); have e01 := (show World.cell? _ ⟨k, 1, none⟩ = some (.string ⟨#[]⟩) from HB.out.1.cell 1 _ rfl); have f01 := (show World.frozen? _ ⟨k, 1, none⟩ = false from HB.out.1.free 1)
 go_wp2
 have hlt := HB.out.1.lt
 have hle := HB.out.2.size
 have HN := Lib.hid (And.intro (HB.out.1.alloc (.cells #[.string (strB d), .string (strB c)] 75)) (And.intro (Blk.new w2 #[.string (strB d), .string (strB c)] 75) (HB.out.2.alloc (by have := HB.out.2.size; rw [HK.out] at this; exact this) (.cells #[.string (strB d), .string (strB c)] 75))))
 clear HB
 have HB := HN; clear HN
 generalize w2.alloc (.cells #[.string (strB d), .string (strB c)] 75) = W3 at *
 generalize w2.heap.size = m at *
 have HD := Lib.hid (And.intro HB.out.1.drew (And.intro HB.out.2.1.drew HB.out.2.2.drew)); clear HB; have HB := HD; clear HD
 have e00 := (show World.cell? _ ⟨k, 0, none⟩ = some (.string ⟨#[]⟩) from HB.out.1.cell 0 _ rfl); have f00 := (show World.frozen? _ ⟨k, 0, none⟩ = false from HB.out.1.free 0); have e01 := (show World.cell? _ ⟨k, 1, none⟩ = some (.string ⟨#[]⟩) from HB.out.1.cell 1 _ rfl); have f01 := (show World.frozen? _ ⟨k, 1, none⟩ = false from HB.out.1.free 1); have e10 := (show World.cell? _ ⟨m, 0, none⟩ = some (.string (strB d)) from HB.out.2.1.cell 0 _ rfl); have e11 := (show World.cell? _ ⟨m, 1, none⟩ = some (.string (strB c)) from HB.out.2.1.cell 1 _ rfl)
 go_region_held3 (fun w' => w'.cell? ⟨m, 0, none⟩ = some (.string (strB d)) ∧ w'.cell? ⟨m, 1, none⟩ = some (.string (strB c))) (first | exact ⟨e10, e11⟩ | (go_keep; done) | ((try dsimp only); (refine ⟨?_, ?_⟩ <;> (exact far2 (by omega) (by assumption)))))
   (first | (go_at_call 71; refine (C.out.1 _ (HB.out.2.2)).mono ?_; rintro e w4 ⟨rfl, b⟩; have HN := Lib.hid (And.intro (HB.out.1.next b) (And.intro (HB.out.2.1.next b) (HB.out.2.2.trans (b.mono (by have h1 := HB.out.2.2.size; have h2 := HK.out; omega))))); clear HB b; have HB := HN; clear HN; have e00 := (show World.cell? _ ⟨k, 0, none⟩ = some (.string ⟨#[]⟩) from HB.out.1.cell 0 _ rfl); have f00 := (show World.frozen? _ ⟨k, 0, none⟩ = false from HB.out.1.free 0); have e01 := (show World.cell? _ ⟨k, 1, none⟩ = some (.string ⟨#[]⟩) from HB.out.1.cell 1 _ rfl); have f01 := (show World.frozen? _ ⟨k, 1, none⟩ = false from HB.out.1.free 1); have e10 := (show World.cell? _ ⟨m, 0, none⟩ = some (.string (strB d)) from HB.out.2.1.cell 0 _ rfl); have e11 := (show World.cell? _ ⟨m, 1, none⟩ = some (.string (strB c)) from HB.out.2.1.cell 1 _ rfl)) | (go_at_call 85; refine (C.out.2.2.1 _ _ _ _ _ (by assumption) (by assumption) (by assumption) (by assumption) (by assumption) (by assumption) (HB.out.2.2)).mono ?_; rintro e w4 ⟨rfl, b⟩; have HN := Lib.hid (And.intro (HB.out.1.next b) (And.intro (HB.out.2.1.next b) (HB.out.2.2.trans (b.mono (by have h1 := HB.out.2.2.size; have h2 := HK.out; omega))))); clear HB b; have HB := HN; clear HN; have e00 := (show World.cell? _ ⟨k, 0, none⟩ = some (.string ⟨#[]⟩) from HB.out.1.cell 0 _ rfl); have f00 := (show World.frozen? _ ⟨k, 0, none⟩ = false from HB.out.1.free 0); have e01 := (show World.cell? _ ⟨k, 1, none⟩ = some (.string ⟨#[]⟩) from HB.out.1.cell 1 _ rfl); have f01 := (show World.frozen? _ ⟨k, 1, none⟩ = false from HB.out.1.free 1); have e10 := (show World.cell? _ ⟨m, 0, none⟩ = some (.string (strB d)) from HB.out.2.1.cell 0 _ rfl); have e11 := (show World.cell? _ ⟨m, 1, none⟩ = some (.string (strB c)) from HB.out.2.1.cell 1 _ rfl)))
 all_goals
   have e00 := (show World.cell? _ ⟨k, 0, none⟩ = some (.string ⟨#[]⟩) from HB.out.1.cell 0 _ rfl); have f00 := (show World.frozen? _ ⟨k, 0, none⟩ = false from HB.out.1.free 0); have e01 := (show World.cell? _ ⟨k, 1, none⟩ = some (.string ⟨#[]⟩) from HB.out.1.cell 1 _ rfl); have f01 := (show World.frozen? _ ⟨k, 1, none⟩ = false from HB.out.1.free 1); have e10 := (show World.cell? _ ⟨m, 0, none⟩ = some (.string (strB d)) from HB.out.2.1.cell 0 _ rfl); have e11 := (show World.cell? _ ⟨m, 1, none⟩ = some (.string (strB c)) from HB.out.2.1.cell 1 _ rfl)
   obtain ⟨g0, g1⟩ := twoB e00 e01 (.string (strB (a * d * d))) (.string (strB (b * c * c)))
   go_wp2
   refine bodyPost_ret (v := .agg #[.string (strB (a * d * d)), .string (strB (b * c * c))]) (by simp [results, Tryz.results42, go_sem, g0, g1]) rfl ?_
   refine ⟨rfl, ?_⟩
   rw [HK.out]
   exact below_put2 HB.out.2.2 (by omega) _ _
theorem multiple_core (a b r : ByteArray) (e0 : Int) (w : World)
   (h : ∀ W, Below w.heap.size w W → Calls Tryz.prog 56 #[.string a, .string b] W fun e W' => e = .returned (.tuple #[.string r, .int .i64 e0]) ∧ Below W.heap.size W W') :
   Calls Tryz.prog 45 #[.string a, .string b] w fun e W' => e = .returned (.string r) ∧ Below w.heap.size w W' := by
 have C := Lib.hid h; clear h
 go_enter Tryz.func45, Tryz.ntmps45
 go_wp2_with fail
 refine (C.out _ (Below.refl _ _)).mono ?_
 rintro e w1 ⟨rfl, b⟩
 have B1 := Lib.hid b; clear b
 go_wp2
 go_ret
 exact ⟨rfl, B1.out⟩
end Go.Proofs.YtpkloolckbhdaaaGreatDoor.T
namespace Go.Proofs.YtpkloolckbhdaaaGreatDoor.T
open Go.Proofs.YtpkloolckbhdaaaGreatDoor
def bothS (q : Rat) : Prop := rootN q.num.natAbs * rootN q.num.natAbs = q.num.natAbs ∧ rootN q.den * rootN q.den = q.den
noncomputable instance (q : Rat) : Decidable (bothS q) := inferInstanceAs (Decidable (_ ∧ _))
noncomputable def cN (q : Rat) : Nat := if bothS q then rootN q.num.natAbs else (strips primes q.num.natAbs).1
noncomputable def cD (q : Rat) : Nat := if bothS q then rootN q.den else (strips primes q.den).1 * (strips primes q.den).2
noncomputable def nN (q : Rat) : Nat := if bothS q then 1 else (strips primes q.num.natAbs).2 * (strips primes q.den).2
noncomputable def nC (q : Rat) : Rat := mkRat (cN q : Nat) (cD q)
theorem num_nat {q : Rat} (h : 0 ≤ q) : ((q.num.natAbs : Nat) : Int) = q.num := by
 have := Rat.num_nonneg.2 h; omega
theorem mk_nat {q : Rat} (h : 0 ≤ q) : mkRat ((q.num.natAbs : Nat) : Int) q.den = q := by rw [num_nat h, Rat.mkRat_self]
theorem root_0 : rootN 0 = 0 := rootN_eq ⟨Nat.le_refl _, by decide⟩
theorem root_1 : rootN 1 = 1 := rootN_eq ⟨by decide, by decide⟩
theorem num_pos_of {q : Rat} (h : ¬ bothS q) : 0 < q.num.natAbs := by
 refine Nat.pos_of_ne_zero fun z => h ?_
 have e : q.num = 0 := by omega
 have d : q.den = 1 := by have := q.reduced; rw [z] at this; exact (Nat.coprime_zero_left _).1 this
 unfold bothS; rw [z, d, root_0, root_1]; exact ⟨rfl, rfl⟩
theorem cop (q : Rat) : Nat.Coprime (cN q) (cD q) := by
 unfold cN cD
 split
 · rename_i h
   refine Nat.Coprime.coprime_dvd_left (k := q.num.natAbs) ?_ (Nat.Coprime.coprime_dvd_right (m := q.den) ?_ q.reduced)
   · exact ⟨_, h.1.symm⟩
   · exact ⟨_, h.2.symm⟩
 · rename_i h; exact (norm_no (num_pos_of h) q.den_pos q.reduced primes primes_pr).2.2.1
end Go.Proofs.YtpkloolckbhdaaaGreatDoor.T
namespace Go.Proofs.YtpkloolckbhdaaaGreatDoor.T
open Go.Proofs.YtpkloolckbhdaaaGreatDoor
theorem castn_nonneg (r : Nat) : (0 : Rat) ≤ (r : Rat) := by
 have := Rat.natCast_le_natCast (a := 0) (b := r)
 exact this.2 (Nat.zero_le _)
theorem RQ.le {z : Rat} {r : Nat} (h : RQ z r) : (r : Rat) * r ≤ z := by have := h.1; rwa [Rat.natCast_mul] at this
theorem RQ.lt {z : Rat} {r : Nat} (h : RQ z r) : z < ((r : Rat) + 1) * ((r : Rat) + 1) := by
 have := h.2; rw [Rat.natCast_mul, Rat.natCast_add] at this; exact this
theorem floor_le {q u z : Rat} {r : Nat} (hu : 0 < u) (hz : z * (u * u) = q) (h : RQ z r) : (r * u) * (r * u) ≤ q ∧ q < (r * u + u) * (r * u + u) := by
 have p := Rat.mul_pos hu hu
 have a := Rat.mul_le_mul_of_nonneg_right h.le (Rat.le_of_lt p)
 have b := Rat.mul_lt_mul_of_pos_right h.lt p
 rw [hz] at a b
 refine ⟨?_, ?_⟩
 · have e : (r : Rat) * r * (u * u) = (r * u) * (r * u) := by grind
   rwa [e] at a
 · have e : ((r : Rat) + 1) * (r + 1) * (u * u) = (r * u + u) * (r * u + u) := by grind
   rwa [e] at b
def CQ (z : Rat) (c : Nat) : Prop := z ≤ ((c * c : Nat) : Rat) ∧ ∀ k : Nat, z ≤ ((k * k : Nat) : Rat) → c ≤ k
theorem CQ.exact {z : Rat} {r : Nat} (h : ((r * r : Nat) : Rat) = z) : CQ z r := by
 subst h
 refine ⟨Rat.le_refl, fun k hk => ?_⟩
 have := Rat.natCast_le_natCast.1 hk
 rcases Nat.lt_or_ge k r with l | l
 · exact absurd (Nat.mul_self_lt_mul_self l) (by omega)
 · exact l
theorem CQ.next {z : Rat} {r : Nat} (h : RQ z r) (hn : ((r * r : Nat) : Rat) ≠ z) : CQ z (r + 1) := by
 refine ⟨Rat.le_of_lt h.2, fun k hk => ?_⟩
 have a : ((r * r : Nat) : Rat) < ((k * k : Nat) : Rat) := Std.lt_of_lt_of_le (Rat.lt_of_le_of_ne h.1 hn) hk
 have := Rat.natCast_lt_natCast.1 a
 rcases Nat.lt_or_ge r k with l | l
 · exact l
 · exact absurd (Nat.mul_self_le_mul_self l) (by omega)
theorem CQ.ten {z : Rat} {c c' : Nat} (h : CQ z c) (h' : CQ (100 * z) c') : c' ≤ 10 * c := by
 refine h'.2 _ ?_
 have a := Rat.mul_le_mul_of_nonneg_left (c := 100) h.1 (by decide)
 have e : (((10 * c) * (10 * c) : Nat) : Rat) = 100 * ((c * c : Nat) : Rat) := by
   rw [show (10 * c) * (10 * c) = 100 * (c * c) from by rw [Nat.mul_mul_mul_comm], Rat.natCast_mul]; rfl
 rwa [e]
theorem RQ.ten {z : Rat} {r r' : Nat} (h : RQ z r) (h' : RQ (100 * z) r') : 10 * r ≤ r' := by
 have a := Rat.mul_le_mul_of_nonneg_left (c := 100) h.1 (by decide)
 have e : (((10 * r) * (10 * r) : Nat) : Rat) = 100 * ((r * r : Nat) : Rat) := by
   rw [show (10 * r) * (10 * r) = 100 * (r * r) from by rw [Nat.mul_mul_mul_comm], Rat.natCast_mul]; rfl
 rw [← e] at a
 have := Rat.natCast_lt_natCast.1 (Std.lt_of_le_of_lt a h'.2)
 rcases Nat.lt_or_ge r' (10 * r) with l | l
 · exact absurd (Nat.mul_self_le_mul_self (show r' + 1 ≤ 10 * r from l)) (by omega)
 · exact l
end Go.Proofs.YtpkloolckbhdaaaGreatDoor.T
namespace Go.Proofs.YtpkloolckbhdaaaGreatDoor.T
open Go.Proofs.YtpkloolckbhdaaaGreatDoor
def sg (a : Rat) : Rat := if a < 0 then -(a * a) else a * a
end Go.Proofs.YtpkloolckbhdaaaGreatDoor.T
namespace Go.Proofs.YtpkloolckbhdaaaGreatDoor.T
open Go.Proofs.YtpkloolckbhdaaaGreatDoor
noncomputable def rootR (z : Rat) : Rat := mkRat (rootN z.num.natAbs : Nat) (rootN z.den)
theorem nC_both {z : Rat} (h : bothS z) : nC z = rootR z ∧ nN z = 1 := by
 unfold nC rootR cN cD nN; rw [if_pos h, if_pos h, if_pos h]; exact ⟨rfl, rfl⟩
end Go.Proofs.YtpkloolckbhdaaaGreatDoor.T
namespace Go.Proofs.YtpkloolckbhdaaaGreatDoor
open Go.RowKit
theorem rl_n (s n d : ByteArray) (c2 : Int) (f : Bool) (w : World)
   (hcut : CqB w 111 #[.string s] (.tuple #[.string n, .string d, .bool f]))
   (hk1 : CqB w 114 #[.string n] (.int .i64 11))
   (hk2 : CqB w 114 #[.string d] (.int .i64 c2)) :
   Calls Tryz.prog 70 #[.string s] w fun e W' => e = .returned (.tuple #[.agg #[.string ⟨#[]⟩, .int .i64 0, .string ⟨#[]⟩, .int .i64 0], .int .i64 11]) ∧ Below w.heap.size w W' := by
 have C := Lib.hid (And.intro hcut (And.intro hk1 (And.intro hk2 trivial))); clear hcut hk1 hk2
 go_enter Tryz.func70, Tryz.ntmps70
 go_wp2_with fail
 have hb0 := Blk.new w #[.string ⟨#[]⟩, .int .i64 0, .string ⟨#[]⟩, .int .i64 0] 109
 have hB0 : Below w.heap.size w (w.alloc (.cells #[.string ⟨#[]⟩, .int .i64 0, .string ⟨#[]⟩, .int .i64 0] 109)) := (Below.refl _ w).alloc (Nat.le_refl _) _
 generalize w.alloc (.cells #[.string ⟨#[]⟩, .int .i64 0, .string ⟨#[]⟩, .int .i64 0] 109) = W0 at *
 have H0 := Lib.hid (And.intro hb0 hB0); clear hb0 hB0
 refine (C.out.1 _ H0.out.2).mono ?_
 rintro e w1 ⟨rfl, b⟩
 have H1 := Lib.hid (And.intro (H0.out.1.next b) (H0.out.2.trans (b.mono H0.out.2.size))); clear b H0
 go_wp2_with fail
 refine (C.out.2.1 _ H1.out.2).mono ?_
 rintro e w2 ⟨rfl, b⟩
 have H2 := Lib.hid (And.intro (H1.out.1.next b) (H1.out.2.trans (b.mono H1.out.2.size))); clear b H1
 go_wp2_with fail
 refine (C.out.2.2.1 _ H2.out.2).mono ?_
 rintro e w3 ⟨rfl, b⟩
 have H3 := Lib.hid (And.intro (H2.out.1.next b) (H2.out.2.trans (b.mono H2.out.2.size))); clear b H2
 have q0 := H3.out.1.cell 0 (.string ⟨#[]⟩) rfl
 have q1 := H3.out.1.cell 1 (.int .i64 0) rfl
 have q2 := H3.out.1.cell 2 (.string ⟨#[]⟩) rfl
 have q3 := H3.out.1.cell 3 (.int .i64 0) rfl
 have f0 := H3.out.1.free 0
 have f1 := H3.out.1.free 1
 have f2 := H3.out.1.free 2
 have f3 := H3.out.1.free 3
 have HP := Lib.hid (H3.out.1.put4 (.string ⟨#[]⟩) (.int .i64 0) (.string ⟨#[]⟩) (.int .i64 0))
 have HL := Lib.hid (below_put4 H3.out.2 (l := w.heap.size) (Nat.le_refl _) (.string ⟨#[]⟩) (.int .i64 0) (.string ⟨#[]⟩) (.int .i64 0))
 have g0 := HP.out.cell 0 (.string ⟨#[]⟩) rfl
 have g1 := HP.out.cell 1 (.int .i64 0) rfl
 have g2 := HP.out.cell 2 (.string ⟨#[]⟩) rfl
 have g3 := HP.out.cell 3 (.int .i64 0) rfl
 go_wp2
 refine bodyPost_ret (v := .tuple #[.agg #[.string ⟨#[]⟩, .int .i64 0, .string ⟨#[]⟩, .int .i64 0], .int .i64 11]) (by simp [results, Tryz.results70, go_sem, g0, g1, g2, g3]) rfl ?_
 exact ⟨rfl, HL.out⟩
theorem rl_1 (s n d : ByteArray) (c1 : Int) (c2 : Int) (w : World) (a1 : (c1 == 11) = false) (a1' : (c1 != 11) = true) (a2 : (c2 == 11) = false) (a2' : (c2 != 11) = true) (hp : 0 < d.size) (hp' : (0 : Int) < d.size) (hm : ((d[0].toNat : Int) == 45) = false) (hm' : ((d[0].toNat : Int) != 45) = true) (h0 : (d.toList == [48]) = false) (h0' : (d.toList != [48]) = true) (h1 : (d.toList == [49]) = true)
   (hcut : CqB w 111 #[.string s] (.tuple #[.string n, .string d, .bool true]))
   (hk1 : CqB w 114 #[.string n] (.int .i64 c1))
   (hk2 : CqB w 114 #[.string d] (.int .i64 c2)) :
   Calls Tryz.prog 70 #[.string s] w fun e W' => e = .returned (.tuple #[.agg #[.string ⟨#[]⟩, .int .i64 0, .string ⟨#[]⟩, .int .i64 0], .int .i64 11]) ∧ Below w.heap.size w W' := by
 have C := Lib.hid (And.intro hcut (And.intro hk1 (And.intro hk2 trivial))); clear hcut hk1 hk2
 go_enter Tryz.func70, Tryz.ntmps70
 go_wp2_with fail
 have hb0 := Blk.new w #[.string ⟨#[]⟩, .int .i64 0, .string ⟨#[]⟩, .int .i64 0] 109
 have hB0 : Below w.heap.size w (w.alloc (.cells #[.string ⟨#[]⟩, .int .i64 0, .string ⟨#[]⟩, .int .i64 0] 109)) := (Below.refl _ w).alloc (Nat.le_refl _) _
 generalize w.alloc (.cells #[.string ⟨#[]⟩, .int .i64 0, .string ⟨#[]⟩, .int .i64 0] 109) = W0 at *
 have H0 := Lib.hid (And.intro hb0 hB0); clear hb0 hB0
 refine (C.out.1 _ H0.out.2).mono ?_
 rintro e w1 ⟨rfl, b⟩
 have H1 := Lib.hid (And.intro (H0.out.1.next b) (H0.out.2.trans (b.mono H0.out.2.size))); clear b H0
 go_wp2_with fail
 refine (C.out.2.1 _ H1.out.2).mono ?_
 rintro e w2 ⟨rfl, b⟩
 have H2 := Lib.hid (And.intro (H1.out.1.next b) (H1.out.2.trans (b.mono H1.out.2.size))); clear b H1
 go_wp2_with fail
 refine (C.out.2.2.1 _ H2.out.2).mono ?_
 rintro e w3 ⟨rfl, b⟩
 have H3 := Lib.hid (And.intro (H2.out.1.next b) (H2.out.2.trans (b.mono H2.out.2.size))); clear b H2
 have q0 := H3.out.1.cell 0 (.string ⟨#[]⟩) rfl
 have q1 := H3.out.1.cell 1 (.int .i64 0) rfl
 have q2 := H3.out.1.cell 2 (.string ⟨#[]⟩) rfl
 have q3 := H3.out.1.cell 3 (.int .i64 0) rfl
 have f0 := H3.out.1.free 0
 have f1 := H3.out.1.free 1
 have f2 := H3.out.1.free 2
 have f3 := H3.out.1.free 3
 have HP := Lib.hid (H3.out.1.put4 (.string ⟨#[]⟩) (.int .i64 0) (.string ⟨#[]⟩) (.int .i64 0))
 have HL := Lib.hid (below_put4 H3.out.2 (l := w.heap.size) (Nat.le_refl _) (.string ⟨#[]⟩) (.int .i64 0) (.string ⟨#[]⟩) (.int .i64 0))
 have g0 := HP.out.cell 0 (.string ⟨#[]⟩) rfl
 have g1 := HP.out.cell 1 (.int .i64 0) rfl
 have g2 := HP.out.cell 2 (.string ⟨#[]⟩) rfl
 have g3 := HP.out.cell 3 (.int .i64 0) rfl
 go_wp2
 refine bodyPost_ret (v := .tuple #[.agg #[.string ⟨#[]⟩, .int .i64 0, .string ⟨#[]⟩, .int .i64 0], .int .i64 11]) (by simp [results, Tryz.results70, go_sem, g0, g1, g2, g3]) rfl ?_
 exact ⟨rfl, HL.out⟩
theorem rl_b1 (s n d : ByteArray) (c2 : Int) (w : World) (a2 : (c2 == 11) = false) (a2' : (c2 != 11) = true) (hp : 0 < d.size) (hp' : (0 : Int) < d.size) (hm : ((d[0].toNat : Int) == 45) = false) (hm' : ((d[0].toNat : Int) != 45) = true) (h0 : (d.toList == [48]) = false) (h0' : (d.toList != [48]) = true) (h1 : (d.toList == [49]) = false) (b2 : (c2 == 0) = false) (b2' : (c2 != 0) = true)
   (hcut : CqB w 111 #[.string s] (.tuple #[.string n, .string d, .bool true]))
   (hk1 : CqB w 114 #[.string n] (.int .i64 0))
   (hk2 : CqB w 114 #[.string d] (.int .i64 c2)) :
   Calls Tryz.prog 70 #[.string s] w fun e W' => e = .returned (.tuple #[.agg #[.string ⟨#[]⟩, .int .i64 0, .string ⟨#[]⟩, .int .i64 0], .int .i64 4]) ∧ Below w.heap.size w W' := by
 have C := Lib.hid (And.intro hcut (And.intro hk1 (And.intro hk2 trivial))); clear hcut hk1 hk2
 go_enter Tryz.func70, Tryz.ntmps70
 go_wp2_with fail
 have hb0 := Blk.new w #[.string ⟨#[]⟩, .int .i64 0, .string ⟨#[]⟩, .int .i64 0] 109
 have hB0 : Below w.heap.size w (w.alloc (.cells #[.string ⟨#[]⟩, .int .i64 0, .string ⟨#[]⟩, .int .i64 0] 109)) := (Below.refl _ w).alloc (Nat.le_refl _) _
 generalize w.alloc (.cells #[.string ⟨#[]⟩, .int .i64 0, .string ⟨#[]⟩, .int .i64 0] 109) = W0 at *
 have H0 := Lib.hid (And.intro hb0 hB0); clear hb0 hB0
 refine (C.out.1 _ H0.out.2).mono ?_
 rintro e w1 ⟨rfl, b⟩
 have H1 := Lib.hid (And.intro (H0.out.1.next b) (H0.out.2.trans (b.mono H0.out.2.size))); clear b H0
 go_wp2_with fail
 refine (C.out.2.1 _ H1.out.2).mono ?_
 rintro e w2 ⟨rfl, b⟩
 have H2 := Lib.hid (And.intro (H1.out.1.next b) (H1.out.2.trans (b.mono H1.out.2.size))); clear b H1
 go_wp2_with fail
 refine (C.out.2.2.1 _ H2.out.2).mono ?_
 rintro e w3 ⟨rfl, b⟩
 have H3 := Lib.hid (And.intro (H2.out.1.next b) (H2.out.2.trans (b.mono H2.out.2.size))); clear b H2
 have q0 := H3.out.1.cell 0 (.string ⟨#[]⟩) rfl
 have q1 := H3.out.1.cell 1 (.int .i64 0) rfl
 have q2 := H3.out.1.cell 2 (.string ⟨#[]⟩) rfl
 have q3 := H3.out.1.cell 3 (.int .i64 0) rfl
 have f0 := H3.out.1.free 0
 have f1 := H3.out.1.free 1
 have f2 := H3.out.1.free 2
 have f3 := H3.out.1.free 3
 have HP := Lib.hid (H3.out.1.put4 (.string ⟨#[]⟩) (.int .i64 0) (.string ⟨#[]⟩) (.int .i64 0))
 have HL := Lib.hid (below_put4 H3.out.2 (l := w.heap.size) (Nat.le_refl _) (.string ⟨#[]⟩) (.int .i64 0) (.string ⟨#[]⟩) (.int .i64 0))
 have g0 := HP.out.cell 0 (.string ⟨#[]⟩) rfl
 have g1 := HP.out.cell 1 (.int .i64 0) rfl
 have g2 := HP.out.cell 2 (.string ⟨#[]⟩) rfl
 have g3 := HP.out.cell 3 (.int .i64 0) rfl
 go_wp2
 refine bodyPost_ret (v := .tuple #[.agg #[.string ⟨#[]⟩, .int .i64 0, .string ⟨#[]⟩, .int .i64 0], .int .i64 4]) (by simp [results, Tryz.results70, go_sem, g0, g1, g2, g3]) rfl ?_
 exact ⟨rfl, HL.out⟩
theorem rl_d (s n d : ByteArray) (c1 : Int) (f : Bool) (w : World) (a1 : (c1 == 11) = false) (a1' : (c1 != 11) = true)
   (hcut : CqB w 111 #[.string s] (.tuple #[.string n, .string d, .bool f]))
   (hk1 : CqB w 114 #[.string n] (.int .i64 c1))
   (hk2 : CqB w 114 #[.string d] (.int .i64 11)) :
   Calls Tryz.prog 70 #[.string s] w fun e W' => e = .returned (.tuple #[.agg #[.string ⟨#[]⟩, .int .i64 0, .string ⟨#[]⟩, .int .i64 0], .int .i64 11]) ∧ Below w.heap.size w W' := by
 have C := Lib.hid (And.intro hcut (And.intro hk1 (And.intro hk2 trivial))); clear hcut hk1 hk2
 go_enter Tryz.func70, Tryz.ntmps70
 go_wp2_with fail
 have hb0 := Blk.new w #[.string ⟨#[]⟩, .int .i64 0, .string ⟨#[]⟩, .int .i64 0] 109
 have hB0 : Below w.heap.size w (w.alloc (.cells #[.string ⟨#[]⟩, .int .i64 0, .string ⟨#[]⟩, .int .i64 0] 109)) := (Below.refl _ w).alloc (Nat.le_refl _) _
 generalize w.alloc (.cells #[.string ⟨#[]⟩, .int .i64 0, .string ⟨#[]⟩, .int .i64 0] 109) = W0 at *
 have H0 := Lib.hid (And.intro hb0 hB0); clear hb0 hB0
 refine (C.out.1 _ H0.out.2).mono ?_
 rintro e w1 ⟨rfl, b⟩
 have H1 := Lib.hid (And.intro (H0.out.1.next b) (H0.out.2.trans (b.mono H0.out.2.size))); clear b H0
 go_wp2_with fail
 refine (C.out.2.1 _ H1.out.2).mono ?_
 rintro e w2 ⟨rfl, b⟩
 have H2 := Lib.hid (And.intro (H1.out.1.next b) (H1.out.2.trans (b.mono H1.out.2.size))); clear b H1
 go_wp2_with fail
 refine (C.out.2.2.1 _ H2.out.2).mono ?_
 rintro e w3 ⟨rfl, b⟩
 have H3 := Lib.hid (And.intro (H2.out.1.next b) (H2.out.2.trans (b.mono H2.out.2.size))); clear b H2
 have q0 := H3.out.1.cell 0 (.string ⟨#[]⟩) rfl
 have q1 := H3.out.1.cell 1 (.int .i64 0) rfl
 have q2 := H3.out.1.cell 2 (.string ⟨#[]⟩) rfl
 have q3 := H3.out.1.cell 3 (.int .i64 0) rfl
 have f0 := H3.out.1.free 0
 have f1 := H3.out.1.free 1
 have f2 := H3.out.1.free 2
 have f3 := H3.out.1.free 3
 have HP := Lib.hid (H3.out.1.put4 (.string ⟨#[]⟩) (.int .i64 0) (.string ⟨#[]⟩) (.int .i64 0))
 have HL := Lib.hid (below_put4 H3.out.2 (l := w.heap.size) (Nat.le_refl _) (.string ⟨#[]⟩) (.int .i64 0) (.string ⟨#[]⟩) (.int .i64 0))
 have g0 := HP.out.cell 0 (.string ⟨#[]⟩) rfl
 have g1 := HP.out.cell 1 (.int .i64 0) rfl
 have g2 := HP.out.cell 2 (.string ⟨#[]⟩) rfl
 have g3 := HP.out.cell 3 (.int .i64 0) rfl
 go_wp2
 refine bodyPost_ret (v := .tuple #[.agg #[.string ⟨#[]⟩, .int .i64 0, .string ⟨#[]⟩, .int .i64 0], .int .i64 11]) (by simp [results, Tryz.results70, go_sem, g0, g1, g2, g3]) rfl ?_
 exact ⟨rfl, HL.out⟩
theorem rl_a0 (s n d : ByteArray) (c1 : Int) (c2 : Int) (w : World) (a1 : (c1 == 11) = false) (a1' : (c1 != 11) = true) (a2 : (c2 == 11) = false) (a2' : (c2 != 11) = true) (hp : 0 < d.size) (hp' : (0 : Int) < d.size) (hm : ((d[0].toNat : Int) == 45) = false) (hm' : ((d[0].toNat : Int) != 45) = true) (h0 : (d.toList == [48]) = false) (h0' : (d.toList != [48]) = true) (b1 : (c1 == 0) = false) (b1' : (c1 != 0) = true)
   (hcut : CqB w 111 #[.string s] (.tuple #[.string n, .string d, .bool false]))
   (hk1 : CqB w 114 #[.string n] (.int .i64 c1))
   (hk2 : CqB w 114 #[.string d] (.int .i64 c2)) :
   Calls Tryz.prog 70 #[.string s] w fun e W' => e = .returned (.tuple #[.agg #[.string ⟨#[]⟩, .int .i64 0, .string ⟨#[]⟩, .int .i64 0], .int .i64 4]) ∧ Below w.heap.size w W' := by
 have C := Lib.hid (And.intro hcut (And.intro hk1 (And.intro hk2 trivial))); clear hcut hk1 hk2
 go_enter Tryz.func70, Tryz.ntmps70
 go_wp2_with fail
 have hb0 := Blk.new w #[.string ⟨#[]⟩, .int .i64 0, .string ⟨#[]⟩, .int .i64 0] 109
 have hB0 : Below w.heap.size w (w.alloc (.cells #[.string ⟨#[]⟩, .int .i64 0, .string ⟨#[]⟩, .int .i64 0] 109)) := (Below.refl _ w).alloc (Nat.le_refl _) _
 generalize w.alloc (.cells #[.string ⟨#[]⟩, .int .i64 0, .string ⟨#[]⟩, .int .i64 0] 109) = W0 at *
 have H0 := Lib.hid (And.intro hb0 hB0); clear hb0 hB0
 refine (C.out.1 _ H0.out.2).mono ?_
 rintro e w1 ⟨rfl, b⟩
 have H1 := Lib.hid (And.intro (H0.out.1.next b) (H0.out.2.trans (b.mono H0.out.2.size))); clear b H0
 go_wp2_with fail
 refine (C.out.2.1 _ H1.out.2).mono ?_
 rintro e w2 ⟨rfl, b⟩
 have H2 := Lib.hid (And.intro (H1.out.1.next b) (H1.out.2.trans (b.mono H1.out.2.size))); clear b H1
 go_wp2_with fail
 refine (C.out.2.2.1 _ H2.out.2).mono ?_
 rintro e w3 ⟨rfl, b⟩
 have H3 := Lib.hid (And.intro (H2.out.1.next b) (H2.out.2.trans (b.mono H2.out.2.size))); clear b H2
 have q0 := H3.out.1.cell 0 (.string ⟨#[]⟩) rfl
 have q1 := H3.out.1.cell 1 (.int .i64 0) rfl
 have q2 := H3.out.1.cell 2 (.string ⟨#[]⟩) rfl
 have q3 := H3.out.1.cell 3 (.int .i64 0) rfl
 have f0 := H3.out.1.free 0
 have f1 := H3.out.1.free 1
 have f2 := H3.out.1.free 2
 have f3 := H3.out.1.free 3
 have HP := Lib.hid (H3.out.1.put4 (.string ⟨#[]⟩) (.int .i64 0) (.string ⟨#[]⟩) (.int .i64 0))
 have HL := Lib.hid (below_put4 H3.out.2 (l := w.heap.size) (Nat.le_refl _) (.string ⟨#[]⟩) (.int .i64 0) (.string ⟨#[]⟩) (.int .i64 0))
 have g0 := HP.out.cell 0 (.string ⟨#[]⟩) rfl
 have g1 := HP.out.cell 1 (.int .i64 0) rfl
 have g2 := HP.out.cell 2 (.string ⟨#[]⟩) rfl
 have g3 := HP.out.cell 3 (.int .i64 0) rfl
 go_wp2
 refine bodyPost_ret (v := .tuple #[.agg #[.string ⟨#[]⟩, .int .i64 0, .string ⟨#[]⟩, .int .i64 0], .int .i64 4]) (by simp [results, Tryz.results70, go_sem, g0, g1, g2, g3]) rfl ?_
 exact ⟨rfl, HL.out⟩
theorem rl_ok (s n d : ByteArray) (w : World) (hp : 0 < d.size) (hp' : (0 : Int) < d.size) (hm : ((d[0].toNat : Int) == 45) = false) (hm' : ((d[0].toNat : Int) != 45) = true) (h0 : (d.toList == [48]) = false) (h0' : (d.toList != [48]) = true)
   (hcut : CqB w 111 #[.string s] (.tuple #[.string n, .string d, .bool false]))
   (hk1 : CqB w 114 #[.string n] (.int .i64 0))
   (hk2 : CqB w 114 #[.string d] (.int .i64 0)) :
   Calls Tryz.prog 70 #[.string s] w fun e W' => e = .returned (.tuple #[.agg #[.string n, .int .i64 0, .string d, .int .i64 0], .int .i64 0]) ∧ Below w.heap.size w W' := by
 have C := Lib.hid (And.intro hcut (And.intro hk1 (And.intro hk2 trivial))); clear hcut hk1 hk2
 go_enter Tryz.func70, Tryz.ntmps70
 go_wp2_with fail
 have hb0 := Blk.new w #[.string ⟨#[]⟩, .int .i64 0, .string ⟨#[]⟩, .int .i64 0] 109
 have hB0 : Below w.heap.size w (w.alloc (.cells #[.string ⟨#[]⟩, .int .i64 0, .string ⟨#[]⟩, .int .i64 0] 109)) := (Below.refl _ w).alloc (Nat.le_refl _) _
 generalize w.alloc (.cells #[.string ⟨#[]⟩, .int .i64 0, .string ⟨#[]⟩, .int .i64 0] 109) = W0 at *
 have H0 := Lib.hid (And.intro hb0 hB0); clear hb0 hB0
 refine (C.out.1 _ H0.out.2).mono ?_
 rintro e w1 ⟨rfl, b⟩
 have H1 := Lib.hid (And.intro (H0.out.1.next b) (H0.out.2.trans (b.mono H0.out.2.size))); clear b H0
 go_wp2_with fail
 refine (C.out.2.1 _ H1.out.2).mono ?_
 rintro e w2 ⟨rfl, b⟩
 have H2 := Lib.hid (And.intro (H1.out.1.next b) (H1.out.2.trans (b.mono H1.out.2.size))); clear b H1
 go_wp2_with fail
 refine (C.out.2.2.1 _ H2.out.2).mono ?_
 rintro e w3 ⟨rfl, b⟩
 have H3 := Lib.hid (And.intro (H2.out.1.next b) (H2.out.2.trans (b.mono H2.out.2.size))); clear b H2
 have H4 := Lib.hid (show Blk (w3.alloc (.cells #[.string n, .int .i64 0, .string d, .int .i64 0] 109)) w.heap.size #[.string ⟨#[]⟩, .int .i64 0, .string ⟨#[]⟩, .int .i64 0] ∧ Below w.heap.size w (w3.alloc (.cells #[.string n, .int .i64 0, .string d, .int .i64 0] 109)) ∧ Blk (w3.alloc (.cells #[.string n, .int .i64 0, .string d, .int .i64 0] 109)) w3.heap.size #[.string n, .int .i64 0, .string d, .int .i64 0] ∧ w.heap.size < w3.heap.size from ⟨H3.out.1.alloc _, H3.out.2.alloc H3.out.2.size _, Blk.new w3 _ _, H3.out.1.lt⟩)
 have e0 := H4.out.2.2.1.cell 0 (.string n) rfl
 have e1 := H4.out.2.2.1.cell 1 (.int .i64 0) rfl
 have e2 := H4.out.2.2.1.cell 2 (.string d) rfl
 have e3 := H4.out.2.2.1.cell 3 (.int .i64 0) rfl
 have H5 := Lib.hid (And.intro H4.out.1 H4.out.2.1); clear H4
 have q0 := H5.out.1.cell 0 (.string ⟨#[]⟩) rfl
 have q1 := H5.out.1.cell 1 (.int .i64 0) rfl
 have q2 := H5.out.1.cell 2 (.string ⟨#[]⟩) rfl
 have q3 := H5.out.1.cell 3 (.int .i64 0) rfl
 have f0 := H5.out.1.free 0
 have f1 := H5.out.1.free 1
 have f2 := H5.out.1.free 2
 have f3 := H5.out.1.free 3
 have HP := Lib.hid (H5.out.1.put4 (.string n) (.int .i64 0) (.string d) (.int .i64 0))
 have HL := Lib.hid (below_put4 H5.out.2 (l := w.heap.size) (Nat.le_refl _) (.string n) (.int .i64 0) (.string d) (.int .i64 0))
 have g0 := HP.out.cell 0 (.string n) rfl
 have g1 := HP.out.cell 1 (.int .i64 0) rfl
 have g2 := HP.out.cell 2 (.string d) rfl
 have g3 := HP.out.cell 3 (.int .i64 0) rfl
 go_wp2
 refine bodyPost_ret (v := .tuple #[.agg #[.string n, .int .i64 0, .string d, .int .i64 0], .int .i64 0]) (by simp [results, Tryz.results70, go_sem, g0, g1, g2, g3]) rfl ?_
 exact ⟨rfl, HL.out⟩
end Go.Proofs.YtpkloolckbhdaaaGreatDoor
