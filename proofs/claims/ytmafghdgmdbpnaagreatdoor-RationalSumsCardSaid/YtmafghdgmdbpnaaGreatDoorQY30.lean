/- Parts of the proof of the text YtmafghdgmdbpnaaGreatDoorQY30. -/
import Derived.Test.YtmafghdgmdbpnaaGreatDoorQY1
import Derived.Test.YtmafghdgmdbpnaaGreatDoorQY24
import Derived.Test.YtmafghdgmdbpnaaGreatDoorQY26
import Derived.Test.YtmafghdgmdbpnaaGreatDoorQY28
import Derived.Test.YtmafghdgmdbpnaaGreatDoorQY29
import Derived.Test.YtmafghdgmdbpnaaGreatDoorQY8
set_option linter.all false
set_option maxRecDepth 100000
set_option maxHeartbeats 8000000
namespace Go.Proofs.YtmafghdgmdbpnaaGreatDoor
open Go.RowKit
theorem sumL_any (a b c d : Option Int) (w : World) (ha : Lwf a) (hb : Lwf b) (hc : Lwf c) (hd : Lwf d) (ht : Tab w) :
   Calls Tryz.prog 49 #[.agg #[.string (LB a), .int .i64 (LE a), .string (LB b), .int .i64 (LE b)], .agg #[.string (LB c), .int .i64 (LE c), .string (LB d), .int .i64 (LE d)]] w fun e W' => e = .returned (.agg #[.string (LB (opL (· + ·) (opL (· * ·) a d) (opL (· * ·) c b))), .int .i64 (LE (opL (· + ·) (opL (· * ·) a d) (opL (· * ·) c b))), .string (LB (opL (· * ·) b d)), .int .i64 (LE (opL (· * ·) b d))]) ∧ Below w.heap.size w W' := by
 have ct := fun o p W (ho : Lwf o) (hp : Lwf p) (hW : Below w.heap.size w W) => long_times o p W ho hp (ht.next hW)
 have cp := fun o p W (ho : Lwf o) (hp : Lwf p) (hW : Below w.heap.size w W) => long_plus o p W ho hp (ht.next hW)
 have cm := fun o p W (ho : Lwf o) (hp : Lwf p) (hW : Below w.heap.size w W) => long_minus o p W ho hp (ht.next hW)
 have C := Lib.hid (And.intro ct (And.intro cp cm))
 clear ct cp cm ht
 go_enter Tryz.func49, Tryz.ntmps49
 go_wp2
 have hbx : Bxs w w.heap.size [[.string (LB a), .int .i64 (LE a), .string (LB b), .int .i64 (LE b)], [.string (LB c), .int .i64 (LE c), .string (LB d), .int .i64 (LE d)], [.string ⟨#[]⟩, .int .i64 0, .string ⟨#[]⟩, .int .i64 0]] (((w.alloc (.cells #[.string (LB a), .int .i64 (LE a), .string (LB b), .int .i64 (LE b)] 84)).alloc (.cells #[.string (LB c), .int .i64 (LE c), .string (LB d), .int .i64 (LE d)] 84)).alloc (.cells #[.string ⟨#[]⟩, .int .i64 0, .string ⟨#[]⟩, .int .i64 0] 84)) := (((Bxs.nil w w (Below.refl _ _)).push rfl [.string (LB a), .int .i64 (LE a), .string (LB b), .int .i64 (LE b)] 84).push (by simp) [.string (LB c), .int .i64 (LE c), .string (LB d), .int .i64 (LE d)] 84).push (by simp) [.string ⟨#[]⟩, .int .i64 0, .string ⟨#[]⟩, .int .i64 0] 84
 generalize ((w.alloc (.cells #[.string (LB a), .int .i64 (LE a), .string (LB b), .int .i64 (LE b)] 84)).alloc (.cells #[.string (LB c), .int .i64 (LE c), .string (LB d), .int .i64 (LE d)] 84)).alloc (.cells #[.string ⟨#[]⟩, .int .i64 0, .string ⟨#[]⟩, .int .i64 0] 84) = W0 at *
 generalize hk : w.heap.size = k at *
 have HK := Lib.hid hk; clear hk
 have HB := Lib.hid (hbx.next (Below.refl _ _).drew)
 clear hbx
 have e0 := (show _ = some (.string (LB a)) from HB.out.cells 0 _ rfl 0 _ rfl); have e1 := (show _ = some (.int .i64 (LE a)) from HB.out.cells 0 _ rfl 1 _ rfl); have e2 := (show _ = some (.string (LB b)) from HB.out.cells 0 _ rfl 2 _ rfl); have e3 := (show _ = some (.int .i64 (LE b)) from HB.out.cells 0 _ rfl 3 _ rfl); have e4 := (show _ = some (.string (LB c)) from HB.out.cells 1 _ rfl 0 _ rfl); have e5 := (show _ = some (.int .i64 (LE c)) from HB.out.cells 1 _ rfl 1 _ rfl); have e6 := (show _ = some (.string (LB d)) from HB.out.cells 1 _ rfl 2 _ rfl); have e7 := (show _ = some (.int .i64 (LE d)) from HB.out.cells 1 _ rfl 3 _ rfl); have z0 := (show World.cell? _ ⟨k + 1 + 1, 0, none⟩ = some (.string ⟨#[]⟩) from HB.out.cells 2 _ rfl 0 _ rfl); have f0 := (show World.frozen? _ ⟨k + 1 + 1, 0, none⟩ = false from HB.out.frozen 2 (by simp) 0); have z1 := (show World.cell? _ ⟨k + 1 + 1, 1, none⟩ = some (.int .i64 0) from HB.out.cells 2 _ rfl 1 _ rfl); have f1 := (show World.frozen? _ ⟨k + 1 + 1, 1, none⟩ = false from HB.out.frozen 2 (by simp) 1); have z2 := (show World.cell? _ ⟨k + 1 + 1, 2, none⟩ = some (.string ⟨#[]⟩) from HB.out.cells 2 _ rfl 2 _ rfl); have f2 := (show World.frozen? _ ⟨k + 1 + 1, 2, none⟩ = false from HB.out.frozen 2 (by simp) 2); have z3 := (show World.cell? _ ⟨k + 1 + 1, 3, none⟩ = some (.int .i64 0) from HB.out.cells 2 _ rfl 3 _ rfl); have f3 := (show World.frozen? _ ⟨k + 1 + 1, 3, none⟩ = false from HB.out.frozen 2 (by simp) 3)
 go_region_held3 (fun w' => w'.cell? ⟨k, 0, none⟩ = some (.string (LB a)) ∧ w'.cell? ⟨k, 1, none⟩ = some (.int .i64 (LE a)) ∧ w'.cell? ⟨k, 2, none⟩ = some (.string (LB b)) ∧ w'.cell? ⟨k, 3, none⟩ = some (.int .i64 (LE b)) ∧ w'.cell? ⟨k + 1, 0, none⟩ = some (.string (LB c)) ∧ w'.cell? ⟨k + 1, 1, none⟩ = some (.int .i64 (LE c)) ∧ w'.cell? ⟨k + 1, 2, none⟩ = some (.string (LB d)) ∧ w'.cell? ⟨k + 1, 3, none⟩ = some (.int .i64 (LE d))) (first | exact ⟨e0, e1, e2, e3, e4, e5, e6, e7⟩ | (go_keep; done) | ((try dsimp only); refine ⟨?_, ?_, ?_, ?_, ?_, ?_, ?_, ?_⟩ <;> (exact far4 (by omega) (by assumption))))
   (first | (go_at_call 247; refine (C.out.1 _ _ _ (by first | assumption | exact opL_wf _ _ _) (by first | assumption | exact opL_wf _ _ _) (by have := HB.out.below; rwa [HK.out] at this)).mono ?_; rintro e w1 ⟨rfl, hbw⟩; have HN := Lib.hid (HB.out.next hbw); clear HB hbw; have HB := HN; clear HN; have e0 := (show _ = some (.string (LB a)) from HB.out.cells 0 _ rfl 0 _ rfl); have e1 := (show _ = some (.int .i64 (LE a)) from HB.out.cells 0 _ rfl 1 _ rfl); have e2 := (show _ = some (.string (LB b)) from HB.out.cells 0 _ rfl 2 _ rfl); have e3 := (show _ = some (.int .i64 (LE b)) from HB.out.cells 0 _ rfl 3 _ rfl); have e4 := (show _ = some (.string (LB c)) from HB.out.cells 1 _ rfl 0 _ rfl); have e5 := (show _ = some (.int .i64 (LE c)) from HB.out.cells 1 _ rfl 1 _ rfl); have e6 := (show _ = some (.string (LB d)) from HB.out.cells 1 _ rfl 2 _ rfl); have e7 := (show _ = some (.int .i64 (LE d)) from HB.out.cells 1 _ rfl 3 _ rfl); have z0 := (show World.cell? _ ⟨k + 1 + 1, 0, none⟩ = some (.string ⟨#[]⟩) from HB.out.cells 2 _ rfl 0 _ rfl); have f0 := (show World.frozen? _ ⟨k + 1 + 1, 0, none⟩ = false from HB.out.frozen 2 (by simp) 0); have z1 := (show World.cell? _ ⟨k + 1 + 1, 1, none⟩ = some (.int .i64 0) from HB.out.cells 2 _ rfl 1 _ rfl); have f1 := (show World.frozen? _ ⟨k + 1 + 1, 1, none⟩ = false from HB.out.frozen 2 (by simp) 1); have z2 := (show World.cell? _ ⟨k + 1 + 1, 2, none⟩ = some (.string ⟨#[]⟩) from HB.out.cells 2 _ rfl 2 _ rfl); have f2 := (show World.frozen? _ ⟨k + 1 + 1, 2, none⟩ = false from HB.out.frozen 2 (by simp) 2); have z3 := (show World.cell? _ ⟨k + 1 + 1, 3, none⟩ = some (.int .i64 0) from HB.out.cells 2 _ rfl 3 _ rfl); have f3 := (show World.frozen? _ ⟨k + 1 + 1, 3, none⟩ = false from HB.out.frozen 2 (by simp) 3)) | (go_at_call 246; refine (C.out.2.1 _ _ _ (by first | assumption | exact opL_wf _ _ _) (by first | assumption | exact opL_wf _ _ _) (by have := HB.out.below; rwa [HK.out] at this)).mono ?_; rintro e w1 ⟨rfl, hbw⟩; have HN := Lib.hid (HB.out.next hbw); clear HB hbw; have HB := HN; clear HN; have e0 := (show _ = some (.string (LB a)) from HB.out.cells 0 _ rfl 0 _ rfl); have e1 := (show _ = some (.int .i64 (LE a)) from HB.out.cells 0 _ rfl 1 _ rfl); have e2 := (show _ = some (.string (LB b)) from HB.out.cells 0 _ rfl 2 _ rfl); have e3 := (show _ = some (.int .i64 (LE b)) from HB.out.cells 0 _ rfl 3 _ rfl); have e4 := (show _ = some (.string (LB c)) from HB.out.cells 1 _ rfl 0 _ rfl); have e5 := (show _ = some (.int .i64 (LE c)) from HB.out.cells 1 _ rfl 1 _ rfl); have e6 := (show _ = some (.string (LB d)) from HB.out.cells 1 _ rfl 2 _ rfl); have e7 := (show _ = some (.int .i64 (LE d)) from HB.out.cells 1 _ rfl 3 _ rfl); have z0 := (show World.cell? _ ⟨k + 1 + 1, 0, none⟩ = some (.string ⟨#[]⟩) from HB.out.cells 2 _ rfl 0 _ rfl); have f0 := (show World.frozen? _ ⟨k + 1 + 1, 0, none⟩ = false from HB.out.frozen 2 (by simp) 0); have z1 := (show World.cell? _ ⟨k + 1 + 1, 1, none⟩ = some (.int .i64 0) from HB.out.cells 2 _ rfl 1 _ rfl); have f1 := (show World.frozen? _ ⟨k + 1 + 1, 1, none⟩ = false from HB.out.frozen 2 (by simp) 1); have z2 := (show World.cell? _ ⟨k + 1 + 1, 2, none⟩ = some (.string ⟨#[]⟩) from HB.out.cells 2 _ rfl 2 _ rfl); have f2 := (show World.frozen? _ ⟨k + 1 + 1, 2, none⟩ = false from HB.out.frozen 2 (by simp) 2); have z3 := (show World.cell? _ ⟨k + 1 + 1, 3, none⟩ = some (.int .i64 0) from HB.out.cells 2 _ rfl 3 _ rfl); have f3 := (show World.frozen? _ ⟨k + 1 + 1, 3, none⟩ = false from HB.out.frozen 2 (by simp) 3)))
 have e0 := (show _ = some (.string (LB a)) from HB.out.cells 0 _ rfl 0 _ rfl); have e1 := (show _ = some (.int .i64 (LE a)) from HB.out.cells 0 _ rfl 1 _ rfl); have e2 := (show _ = some (.string (LB b)) from HB.out.cells 0 _ rfl 2 _ rfl); have e3 := (show _ = some (.int .i64 (LE b)) from HB.out.cells 0 _ rfl 3 _ rfl); have e4 := (show _ = some (.string (LB c)) from HB.out.cells 1 _ rfl 0 _ rfl); have e5 := (show _ = some (.int .i64 (LE c)) from HB.out.cells 1 _ rfl 1 _ rfl); have e6 := (show _ = some (.string (LB d)) from HB.out.cells 1 _ rfl 2 _ rfl); have e7 := (show _ = some (.int .i64 (LE d)) from HB.out.cells 1 _ rfl 3 _ rfl); have z0 := (show World.cell? _ ⟨k + 1 + 1, 0, none⟩ = some (.string ⟨#[]⟩) from HB.out.cells 2 _ rfl 0 _ rfl); have f0 := (show World.frozen? _ ⟨k + 1 + 1, 0, none⟩ = false from HB.out.frozen 2 (by simp) 0); have z1 := (show World.cell? _ ⟨k + 1 + 1, 1, none⟩ = some (.int .i64 0) from HB.out.cells 2 _ rfl 1 _ rfl); have f1 := (show World.frozen? _ ⟨k + 1 + 1, 1, none⟩ = false from HB.out.frozen 2 (by simp) 1); have z2 := (show World.cell? _ ⟨k + 1 + 1, 2, none⟩ = some (.string ⟨#[]⟩) from HB.out.cells 2 _ rfl 2 _ rfl); have f2 := (show World.frozen? _ ⟨k + 1 + 1, 2, none⟩ = false from HB.out.frozen 2 (by simp) 2); have z3 := (show World.cell? _ ⟨k + 1 + 1, 3, none⟩ = some (.int .i64 0) from HB.out.cells 2 _ rfl 3 _ rfl); have f3 := (show World.frozen? _ ⟨k + 1 + 1, 3, none⟩ = false from HB.out.frozen 2 (by simp) 3)
 obtain ⟨g0, g1, g2, g3⟩ := fourB_back z0 z1 z2 z3 (.string (LB (opL (· + ·) (opL (· * ·) a d) (opL (· * ·) c b)))) (.int .i64 (LE (opL (· + ·) (opL (· * ·) a d) (opL (· * ·) c b)))) (.string (LB (opL (· * ·) b d))) (.int .i64 (LE (opL (· * ·) b d)))
 go_wp2
 refine bodyPost_ret (v := .agg #[.string (LB (opL (· + ·) (opL (· * ·) a d) (opL (· * ·) c b))), .int .i64 (LE (opL (· + ·) (opL (· * ·) a d) (opL (· * ·) c b))), .string (LB (opL (· * ·) b d)), .int .i64 (LE (opL (· * ·) b d))]) (by simp [results, Tryz.results49, go_sem, g0, g1, g2, g3]) rfl ?_
 refine ⟨rfl, ?_⟩
 have hbl := HB.out.below
 rw [HK.out] at hbl ⊢
 exact (((hbl.setCell (p := ⟨k + 1 + 1, 0, none⟩) (by show k ≤ k + 1 + 1; omega) _).setCell (p := ⟨k + 1 + 1, 1, none⟩) (by show k ≤ k + 1 + 1; omega) _).setCell (p := ⟨k + 1 + 1, 2, none⟩) (by show k ≤ k + 1 + 1; omega) _).setCell (p := ⟨k + 1 + 1, 3, none⟩) (by show k ≤ k + 1 + 1; omega) _
end Go.Proofs.YtmafghdgmdbpnaaGreatDoor
namespace Go.Proofs.YtmafghdgmdbpnaaGreatDoor
open Go.Lib
theorem strQ_int (z : Int) : strQ (z : Rat) = strB z := by
 unfold strQ strB itoaQ
 rw [Rat.den_intCast, if_pos rfl, Rat.num_intCast]
theorem strQ_zero : strQ 0 = ⟨#[48]⟩ := by
 have h := strQ_int 0
 rw [Rat.intCast_zero] at h
 rw [h]; exact str_of 0 [48] itoa_zero
theorem strQ_one : strQ 1 = ⟨#[49]⟩ := by
 have h := strQ_int 1
 rw [Rat.intCast_one] at h
 rw [h]; exact str_of 1 [49] itoa_one
theorem isNeg_app (l m : List UInt8) (h : l ≠ []) : isNeg (l ++ m) = isNeg l := by
 cases l with
 | nil => exact absurd rfl h
 | cons a t => rfl
theorem itoa_ne (z : Int) : itoa z ≠ [] := fun h => by
 have h1 := chk_itoa z
 rw [h, show chk [] = 11 by decide] at h1
 split at h1 <;> omega
theorem strQ_neg (q : Rat) : isNeg (strQ q).data.toList = decide (q < 0) := by
 have h : decide (q < 0) = decide (q.num < 0) := by
   apply decide_eq_decide.2
   rw [← Rat.not_le, ← Rat.num_nonneg]; omega
 rw [strQ_data, h]
 unfold itoaQ
 split
 · rw [head_itoa_neg]
 · rw [isNeg_app _ _ (itoa_ne _), head_itoa_neg]
theorem strQ_toList (x y : Rat) : ((strQ x).toList == (strQ y).toList) = decide (x = y) := by
 by_cases h : x = y
 · subst h; simp
 · rw [decide_eq_false h, beq_eq_false_iff_ne, ByteArray.toList_eq, ByteArray.toList_eq, strQ_data, strQ_data]
   exact fun e => h (itoaQ_inj e)
theorem strQ_is0 (x : Rat) : ((strQ x).toList == [48]) = decide (x = 0) := by
 have h := strQ_toList x 0
 rw [strQ_zero, ByteArray.toList_eq ⟨#[48]⟩] at h
 exact h
theorem strQ_is1 (x : Rat) : ((strQ x).toList == [49]) = decide (x = 1) := by
 have h := strQ_toList x 1
 rw [strQ_one, ByteArray.toList_eq ⟨#[49]⟩] at h
 exact h
theorem Bq_int {k : Nat} {z : Int} (hk : 1 ≤ k) (h : Bd k z) : Bq k (z : Rat) := by
 refine ⟨by rw [Rat.num_intCast]; exact h, ?_⟩
 rw [Rat.den_intCast]
 exact Nat.lt_of_lt_of_le (by decide) (tenTo_mono hk)
theorem Bq_zero : Bq 1 0 := by have := Bq_int (k := 1) (z := 0) (by omega) (by show Int.natAbs 0 < tenTo 1; decide); rwa [Rat.intCast_zero] at this
theorem num_over_den (q : Rat) : (q.num : Rat) / ((q.den : Int) : Rat) = q := by
 rw [← Rat.divInt_eq_div, Rat.num_divInt_den]
theorem den_ne0 (q : Rat) : ((q.den : Int) : Rat) ≠ 0 := by
 rw [Ne, Rat.intCast_eq_zero_iff]
 have := q.den_nz; omega
end Go.Proofs.YtmafghdgmdbpnaaGreatDoor
namespace Go.Proofs.YtmafghdgmdbpnaaGreatDoor
open Go.RowKit
def Sq (x : Rat) : Prop := x.num.natAbs < lim ∧ x.den < lim
theorem Sq.n {x : Rat} (h : Sq x) : short x.num := h.1
theorem Sq.d {x : Rat} (h : Sq x) : short (x.den : Int) := by show Int.natAbs _ < lim; rw [Int.natAbs_natCast]; exact h.2
theorem bN_strQ (x : Rat) : bN (strQ x) = strB x.num := bytes_ext (by rw [bN_data, strQ_data, strB_data, (itoaQ_cut x).1])
theorem bD_strQ (x : Rat) : bD (strQ x) = strB (x.den : Int) := bytes_ext (by rw [bD_data, strQ_data, strB_data, (itoaQ_cut x).2.1])
theorem val_strQ (x : Rat) : valOf (cutN (strQ x).data.toList) = x.num ∧ valOf (cutD (strQ x).data.toList) = x.den := by
 rw [strQ_data, (itoaQ_cut x).1, (itoaQ_cut x).2.1, valOf_itoa, valOf_itoa]; exact ⟨rfl, rfl⟩
theorem Sq.chk {x : Rat} (h : Sq x) : chkQ (strQ x).data.toList = 0 := strQ_chk h.1 h.2
theorem Sq.size {x : Rat} (h : Sq x) : (strQ x).size ≤ maxLen := by
 have h1 := strB_size h.n
 have h2 := strB_size h.d
 rw [← size_len, strB_data] at h1 h2
 rw [← size_len, strQ_data]
 unfold itoaQ maxLen
 split
 · omega
 · rw [List.length_append, List.length_cons]; omega
theorem readLong_q (x : Rat) (w : World) (hx : Sq x) (ht : Tab w) :
   Calls Tryz.prog 69 #[.string (strQ x)] w fun e W' => e = .returned (.tuple #[.agg #[.string (strB x.num), .int .i64 0, .string (strB (x.den : Int)), .int .i64 0], .int .i64 0]) ∧ Below w.heap.size w W' := by
 have c := readLong_any (strQ x) w hx.size ht
 obtain ⟨q1, q2⟩ := rl_good hx.chk
 rwa [q1, q2, bN_strQ, bD_strQ, hx.chk] at c
theorem mOK_b {x : Rat} (h : mOK (strQ x).data.toList = true) : B18 x.num ∧ B18 (x.den : Int) := by
 have := (mOK_chk h).2
 rwa [(val_strQ x).1, (val_strQ x).2] at this
theorem computeN_q (x y : Rat) (p q : Nat) (rM : ByteArray) (eM : Int) (B : ByteArray) (E : Int) (w : World) (hx : Sq x) (hy : Sq y) (ht : Tab w) (ht2 : Tab64 w)
   (hs : B18 x.num → B18 (x.den : Int) → B18 y.num → B18 (y.den : Int) → CqB w 89 #[.agg #[.int .i64 x.num, .int .i64 (x.den : Int)], .agg #[.int .i64 y.num, .int .i64 (y.den : Int)], .pointer (some ⟨p, 0, none⟩)] (.tuple #[.string rM, .int .i64 eM]))
   (hok : eM = 0 → rM = B ∧ E = 0)
   (hl : CqB w 90 #[.agg #[.string (strB x.num), .int .i64 0, .string (strB (x.den : Int)), .int .i64 0], .agg #[.string (strB y.num), .int .i64 0, .string (strB (y.den : Int)), .int .i64 0], .pointer (some ⟨q, 0, none⟩)] (.tuple #[.string B, .int .i64 E])) :
   Calls Tryz.prog 45 #[.string (strQ x), .string (strQ y), .func (.func 89) #[] #[.pointer (some ⟨p, 0, none⟩)], .func (.func 90) #[] #[.pointer (some ⟨q, 0, none⟩)]] w fun e W' => e = .returned (.tuple #[.string B, .int .i64 E]) ∧ Below w.heap.size w W' := by
 have el : ∀ args W, (callFunc 90 args).run Tryz.prog W = .ok (.enter 90 args) W := enters_of Tryz.func90 (by kernel_rfl) rfl
 have es : ∀ args W, (callFunc 89 args).run Tryz.prog W = .ok (.enter 89 args) W := enters_of Tryz.func89 (by kernel_rfl) rfl
 have ra := fun W (hW : Below w.heap.size w W) => readLong_q x W hx (ht.next hW)
 have rb := fun W (hW : Below w.heap.size w W) => readLong_q y W hy (ht.next hW)
 by_cases o : mOK (strQ x).data.toList = true ∧ mOK (strQ y).data.toList = true
 · have hm := fun W (hW : Below w.heap.size w W) => readMachines_yes (strQ x) (strQ y) W hx.size hy.size o.1 o.2 (TabQ_next ht2 hW)
   simp only [(val_strQ x).1, (val_strQ x).2, (val_strQ y).1, (val_strQ y).2] at hm
   have hs := hs (mOK_b o.1).1 (mOK_b o.1).2 (mOK_b o.2).1 (mOK_b o.2).2
   by_cases he : eM = 0
   · obtain ⟨h1, h2⟩ := hok he
     subst h1; subst h2; subst he
     exact computeN_short _ _ p q _ _ _ _ _ _ _ w hm es hs
   · exact computeN_both _ _ p q _ _ _ _ _ _ _ _ _ _ _ _ _ _ w (bool_ne he).1 (bool_ne he).2 hm es hs ra rb el hl
 · have hm := fun W (hW : Below w.heap.size w W) => readMachines_no (strQ x) (strQ y) W hx.size hy.size o (TabQ_next ht2 hW)
   exact computeN_long _ _ p q _ _ _ _ _ _ _ _ w hm ra rb el hl
theorem B18.ok {z : Int} (h : B18 z) : z.natAbs < 4611686018427387904 := by unfold B18 at h; omega
theorem den_wf {x : Rat} (h : Sq x) : Lwf (some (x.den : Int)) := some_wf h.d
theorem num_wf {x : Rat} (h : Sq x) : Lwf (some x.num) := some_wf h.n
theorem mk_den0 (x y : Rat) : opL (· * ·) (some (x.den : Int)) (some (y.den : Int)) ≠ some 0 := by
 rw [opL_some]
 unfold mkL
 intro h
 split at h
 · have h1 := Option.some.inj h
   rcases Int.mul_eq_zero.1 h1 with q | q
   · exact den_0 x q
   · exact den_0 y q
 · cases h
theorem mk_num0 {x y : Rat} (hy : y ≠ 0) : opL (· * ·) (some y.num) (some (x.den : Int)) ≠ some 0 := by
 rw [opL_some]
 unfold mkL
 intro h
 split at h
 · have h1 := Option.some.inj h
   rcases Int.mul_eq_zero.1 h1 with q | q
   · exact hy (Rat.num_eq_zero.1 q)
   · exact den_0 x q
 · cases h
theorem addM_rule (x y : Rat) (p : Nat) (w : World) (bx : B18 x.num) (cx : B18 (x.den : Int)) (by_ : B18 y.num) (cy : B18 (y.den : Int)) (hb : Blk w p #[.func (.func 47) #[] #[]]) (ht : Tab w) (ht2 : Tab64 w) :
   Calls Tryz.prog 89 #[.agg #[.int .i64 x.num, .int .i64 (x.den : Int)], .agg #[.int .i64 y.num, .int .i64 (y.den : Int)], .pointer (some ⟨p, 0, none⟩)] w fun e W' => e = .returned (.tuple #[.string (lowR (plusM (timesM x.num y.den) (timesM y.num x.den)) (timesM x.den y.den)), .int .i64 (lowRE (plusM (timesM x.num y.den) (timesM y.num x.den)) (timesM x.den y.den))]) ∧ Below w.heap.size w W' :=
 ruleM_any 47 p _ _ _ _ _ _ _ _ w (enters_of Tryz.func47 (by kernel_rfl) rfl) hb (fun W _ => sumM_any _ _ _ _ W bx cx by_ cy)
   (fun W hW => lowestM_any _ _ W (plusM_lo (timesM_ok _ _) (timesM_ok _ _)).1 (plusM_lo (timesM_ok _ _) (timesM_ok _ _)).2 (timesM_ok _ _).lo (timesM_ok _ _).hi (timesM_0 (den_0 x) (den_0 y)) (ht.next hW) (TabQ_next ht2 hW))
theorem addL_rule (x y : Rat) (q : Nat) (w : World) (hx : Sq x) (hy : Sq y) (hb : Blk w q #[.func (.func 49) #[] #[]]) (ht : Tab w) :
   Calls Tryz.prog 90 #[.agg #[.string (strB x.num), .int .i64 0, .string (strB (x.den : Int)), .int .i64 0], .agg #[.string (strB y.num), .int .i64 0, .string (strB (y.den : Int)), .int .i64 0], .pointer (some ⟨q, 0, none⟩)] w fun e W' => e = .returned (.tuple #[.string (qaddB x y), .int .i64 (qaddE x y)]) ∧ Below w.heap.size w W' := by
 have c := ruleL_any 49 q (strB x.num) (strB (x.den : Int)) (strB y.num) (strB (y.den : Int)) _ _ 0 0 0 0 _ _ _ _ w (enters_of Tryz.func49 (by kernel_rfl) rfl) hb
   (fun W hW => sumL_any (some x.num) (some (x.den : Int)) (some y.num) (some (y.den : Int)) W (num_wf hx) (den_wf hx) (num_wf hy) (den_wf hy) (ht.next hW))
   (fun W hW => lowestL_any (opL (· + ·) (opL (· * ·) (some x.num) (some (y.den : Int))) (opL (· * ·) (some y.num) (some (x.den : Int)))) (opL (· * ·) (some (x.den : Int)) (some (y.den : Int))) W (opL_wf _ _ _) (opL_wf _ _ _) (mk_den0 x y) (ht.next hW))
 rwa [(addL_ok x y).1, (addL_ok x y).2] at c
theorem AddQ_core (a b r : ByteArray) (e0 : Int) (w : World)
   (h : ∀ W p q, Below w.heap.size w W → Blk W p #[.func (.func 47) #[] #[]] → Blk W q #[.func (.func 49) #[] #[]] → Calls Tryz.prog 45 #[.string a, .string b, .func (.func 89) #[] #[.pointer (some ⟨p, 0, none⟩)], .func (.func 90) #[] #[.pointer (some ⟨q, 0, none⟩)]] W fun e W' => e = .returned (.tuple #[.string r, .int .i64 e0]) ∧ Below W.heap.size W W') :
   Calls Tryz.prog 13 #[.string a, .string b] w fun e W' => e = .returned (.tuple #[.string r, .int .i64 e0]) ∧ Below w.heap.size w W' := by
 have C := Lib.hid (And.intro h (And.intro (fun W => reducedM_mk 47 W) (fun W => reducedL_mk 49 W))); clear h
 go_enter Tryz.func13, Tryz.ntmps13
 go_wp2_with fail
 refine (C.out.2.1 _).mono ?_
 rintro e w1 ⟨rfl, k0, b⟩
 have H1 := Lib.hid (And.intro k0 b); clear k0 b
 go_wp2_with fail
 refine (C.out.2.2 _).mono ?_
 rintro e w2 ⟨rfl, k1, b⟩
 have H2 := Lib.hid (And.intro (H1.out.1.next b) (And.intro k1 (H1.out.2.trans (b.mono H1.out.2.size)))); clear k1 b H1
 go_wp2_with fail
 refine (C.out.1 _ _ _ H2.out.2.2 H2.out.1 H2.out.2.1).mono ?_
 rintro e w3 ⟨rfl, b⟩
 have H3 := Lib.hid (H2.out.2.2.trans (b.mono H2.out.2.2.size)); clear b
 go_wp2
 go_ret2
 exact ⟨rfl, H3.out⟩
theorem Add_q (x y : Rat) (w : World) (hx : Sq x) (hy : Sq y) (ht : Tab w) (ht2 : Tab64 w) :
   Calls Tryz.prog 13 #[.string (strQ x), .string (strQ y)] w fun e W' => e = .returned (.tuple #[.string (qaddB x y), .int .i64 (qaddE x y)]) ∧ Below w.heap.size w W' := by
 refine AddQ_core _ _ _ _ w (fun W p q hW k0 k1 => ?_)
 exact computeN_q x y p q _ _ _ _ W hx hy (ht.next hW) (TabQ_next ht2 hW)
   (fun b1 c1 b2 c2 W' hW' => addM_rule x y p W' b1 c1 b2 c2 (k0.next hW') ((ht.next hW).next hW') (TabQ_next (TabQ_next ht2 hW) hW'))
   (fun he => addM_ok x y he)
   (fun W' hW' => addL_rule x y q W' hx hy (k1.next hW') ((ht.next hW).next hW'))
theorem divM_rule (x y : Rat) (p : Nat) (w : World) (bx : B18 x.num) (cx : B18 (x.den : Int)) (by_ : B18 y.num) (cy : B18 (y.den : Int)) (h0 : y ≠ 0) (hb : Blk w p #[.func (.func 54) #[] #[]]) (ht : Tab w) (ht2 : Tab64 w) :
   Calls Tryz.prog 89 #[.agg #[.int .i64 x.num, .int .i64 (x.den : Int)], .agg #[.int .i64 y.num, .int .i64 (y.den : Int)], .pointer (some ⟨p, 0, none⟩)] w fun e W' => e = .returned (.tuple #[.string (lowR (timesM x.num y.den) (timesM y.num x.den)), .int .i64 (lowRE (timesM x.num y.den) (timesM y.num x.den))]) ∧ Below w.heap.size w W' :=
 ruleM_any 54 p _ _ _ _ _ _ _ _ w (enters_of Tryz.func54 (by kernel_rfl) rfl) hb (fun W _ => ratioM_any _ _ _ _ W bx cx by_ cy)
   (fun W hW => lowestM_any _ _ W (timesM_ok _ _).lo (timesM_ok _ _).hi (timesM_ok _ _).lo (timesM_ok _ _).hi (timesM_0 (fun e => h0 (Rat.num_eq_zero.1 e)) (den_0 x)) (ht.next hW) (TabQ_next ht2 hW))
theorem divL_rule (x y : Rat) (q : Nat) (w : World) (hx : Sq x) (hy : Sq y) (h0 : y ≠ 0) (hb : Blk w q #[.func (.func 55) #[] #[]]) (ht : Tab w) :
   Calls Tryz.prog 90 #[.agg #[.string (strB x.num), .int .i64 0, .string (strB (x.den : Int)), .int .i64 0], .agg #[.string (strB y.num), .int .i64 0, .string (strB (y.den : Int)), .int .i64 0], .pointer (some ⟨q, 0, none⟩)] w fun e W' => e = .returned (.tuple #[.string (qdivB x y), .int .i64 (qdivE x y)]) ∧ Below w.heap.size w W' := by
 have c := ruleL_any 55 q (strB x.num) (strB (x.den : Int)) (strB y.num) (strB (y.den : Int)) _ _ 0 0 0 0 _ _ _ _ w (enters_of Tryz.func55 (by kernel_rfl) rfl) hb
   (fun W hW => ratioL_any (some x.num) (some (x.den : Int)) (some y.num) (some (y.den : Int)) W (num_wf hx) (den_wf hx) (num_wf hy) (den_wf hy) (ht.next hW))
   (fun W hW => lowestL_any (opL (· * ·) (some x.num) (some (y.den : Int))) (opL (· * ·) (some y.num) (some (x.den : Int))) W (opL_wf _ _ _) (opL_wf _ _ _) (mk_num0 h0) (ht.next hW))
 rwa [(divL_ok x y).1, (divL_ok x y).2] at c
theorem DivQ_core (a b r : ByteArray) (e0 : Int) (hz : (b.toList == [48]) = false) (hz' : (b.toList != [48]) = true) (w : World)
   (h : ∀ W p q, Below w.heap.size w W → Blk W p #[.func (.func 54) #[] #[]] → Blk W q #[.func (.func 55) #[] #[]] → Calls Tryz.prog 45 #[.string a, .string b, .func (.func 89) #[] #[.pointer (some ⟨p, 0, none⟩)], .func (.func 90) #[] #[.pointer (some ⟨q, 0, none⟩)]] W fun e W' => e = .returned (.tuple #[.string r, .int .i64 e0]) ∧ Below W.heap.size W W') :
   Calls Tryz.prog 16 #[.string a, .string b] w fun e W' => e = .returned (.tuple #[.string r, .int .i64 e0]) ∧ Below w.heap.size w W' := by
 have C := Lib.hid (And.intro h (And.intro (fun W => reducedM_mk 54 W) (fun W => reducedL_mk 55 W))); clear h
 go_enter Tryz.func16, Tryz.ntmps16
 go_wp2_with fail
 refine (C.out.2.1 _).mono ?_
 rintro e w1 ⟨rfl, k0, b⟩
 have H1 := Lib.hid (And.intro k0 b); clear k0 b
 go_wp2_with fail
 refine (C.out.2.2 _).mono ?_
 rintro e w2 ⟨rfl, k1, b⟩
 have H2 := Lib.hid (And.intro (H1.out.1.next b) (And.intro k1 (H1.out.2.trans (b.mono H1.out.2.size)))); clear k1 b H1
 go_wp2_with fail
 refine (C.out.1 _ _ _ H2.out.2.2 H2.out.1 H2.out.2.1).mono ?_
 rintro e w3 ⟨rfl, b⟩
 have H3 := Lib.hid (H2.out.2.2.trans (b.mono H2.out.2.2.size)); clear b
 go_wp2
 go_ret2
 exact ⟨rfl, H3.out⟩
theorem Div_q (x y : Rat) (w : World) (hx : Sq x) (hy : Sq y) (h0 : y ≠ 0) (ht : Tab w) (ht2 : Tab64 w) :
   Calls Tryz.prog 16 #[.string (strQ x), .string (strQ y)] w fun e W' => e = .returned (.tuple #[.string (qdivB x y), .int .i64 (qdivE x y)]) ∧ Below w.heap.size w W' := by
 have hz : ((strQ y).toList == [48]) = false := by rw [strQ_is0]; exact decide_eq_false h0
 refine DivQ_core _ _ _ _ hz (by rw [bne, hz]; rfl) w (fun W p q hW k0 k1 => ?_)
 exact computeN_q x y p q _ _ _ _ W hx hy (ht.next hW) (TabQ_next ht2 hW)
   (fun b1 c1 b2 c2 W' hW' => divM_rule x y p W' b1 c1 b2 c2 h0 (k0.next hW') ((ht.next hW).next hW') (TabQ_next (TabQ_next ht2 hW) hW'))
   (fun he => divM_ok x y he)
   (fun W' hW' => divL_rule x y q W' hx hy h0 (k1.next hW') ((ht.next hW).next hW'))
theorem Parts_q (x : Rat) (w : World) (hx : Sq x) (ht : Tab w) (ht2 : Tab64 w) :
   Calls Tryz.prog 28 #[.string (strQ x)] w fun e W' => e = .returned (.tuple #[.string (strB x.num), .string (strB (x.den : Int)), .int .i64 0]) ∧ Below w.heap.size w W' := by
 have c := partsQ_any (strQ x) w hx.size ht ht2
 unfold paN paD at c
 rwa [if_pos hx.chk, if_pos hx.chk, bN_strQ, bD_strQ, hx.chk] at c
theorem FloorQ_core (a n d q r : ByteArray) (w : World)
   (hp : CqB w 28 #[.string a] (.tuple #[.string n, .string d, .int .i64 0]))
   (hd : CqB w 82 #[.string n, .string d] (.tuple #[.string q, .string r, .int .i64 0])) :
   Calls Tryz.prog 32 #[.string a] w fun e W' => e = .returned (.tuple #[.string q, .int .i64 0]) ∧ Below w.heap.size w W' := by
 have C := Lib.hid (And.intro hp hd); clear hp hd
 go_enter Tryz.func32, Tryz.ntmps32
 go_wp2_with fail
 refine (C.out.1 _ (Below.refl _ _)).mono ?_
 rintro e w1 ⟨rfl, b⟩
 have H1 := Lib.hid b; clear b
 go_wp2_with fail
 refine (C.out.2 _ H1.out).mono ?_
 rintro e w2 ⟨rfl, b⟩
 have H2 := Lib.hid (H1.out.trans (b.mono H1.out.size)); clear b
 go_wp2
 go_ret2
 exact ⟨rfl, H2.out⟩
theorem Floor_q (x : Rat) (w : World) (hx : Sq x) (ht : Tab w) (ht2 : Tab64 w) :
   Calls Tryz.prog 32 #[.string (strQ x)] w fun e W' => e = .returned (.tuple #[.string (strB (x.num.fdiv x.den)), .int .i64 0]) ∧ Below w.heap.size w W' :=
 FloorQ_core _ _ _ _ _ w (fun W hW => Parts_q x W hx (ht.next hW) (TabQ_next ht2 hW)) (fun W hW => Divide_strs x.num x.den W hx.n hx.d (den_0 x) (ht.next hW))
theorem Sq_small {x : Rat} (h : x.num.natAbs < 10) (h' : x.den < 10) : Sq x :=
 ⟨Nat.lt_of_lt_of_le h (tenTo_mono (by decide : 1 ≤ 300)), Nat.lt_of_lt_of_le h' (tenTo_mono (by decide : 1 ≤ 300))⟩
theorem strQ_of (x : Rat) (l : List UInt8) (h : itoaQ x = l) : strQ x = ⟨l.toArray⟩ := by unfold strQ; rw [h]
theorem awake2_any (w : World) (ht : Tab w) (ht2 : Tab64 w) : Calls Tryz.prog 12 #[] w fun e W' => e = .returned (.bool true) ∧ Below w.heap.size w W' := by
 have s1 : strQ (mkRat 1 2) = ⟨#[49, 47, 50]⟩ := strQ_of _ [49, 47, 50] (by decide +kernel)
 have s2 : strQ (mkRat 1 3) = ⟨#[49, 47, 51]⟩ := strQ_of _ [49, 47, 51] (by decide +kernel)
 have s3 : strQ (mkRat (-7) 2) = ⟨#[45, 55, 47, 50]⟩ := strQ_of _ [45, 55, 47, 50] (by decide +kernel)
 have s4 : strQ 3 = ⟨#[51]⟩ := strQ_of _ [51] (by decide +kernel)
 have s5 : strQ (-6) = ⟨#[45, 54]⟩ := strQ_of _ [45, 54] (by decide +kernel)
 have r1 : qaddB (mkRat 1 2) (mkRat 1 3) = ⟨#[53, 47, 54]⟩ := by decide +kernel
 have r1' : qaddE (mkRat 1 2) (mkRat 1 3) = 0 := by decide +kernel
 have r2 : strB ((mkRat (-7) 2).num.fdiv (mkRat (-7) 2).den) = ⟨#[45, 52]⟩ := str_of _ [45, 52] (by decide +kernel)
 have r3 : qdivB 3 (-6) = ⟨#[45, 49, 47, 50]⟩ := by decide +kernel
 have r3' : qdivE 3 (-6) = 0 := by decide +kernel
 have c1 := fun W (h : Below w.heap.size w W) => Add_q (mkRat 1 2) (mkRat 1 3) W (Sq_small (by decide +kernel) (by decide +kernel)) (Sq_small (by decide +kernel) (by decide +kernel)) (ht.next h) (TabQ_next ht2 h)
 have c2 := fun W (h : Below w.heap.size w W) => Floor_q (mkRat (-7) 2) W (Sq_small (by decide +kernel) (by decide +kernel)) (ht.next h) (TabQ_next ht2 h)
 have c3 := fun W (h : Below w.heap.size w W) => Div_q 3 (-6) W (Sq_small (by decide +kernel) (by decide +kernel)) (Sq_small (by decide +kernel) (by decide +kernel)) (by decide +kernel) (ht.next h) (TabQ_next ht2 h)
 rw [s1, s2, r1, r1'] at c1
 rw [s3, r2] at c2
 rw [s4, s5, r3, r3'] at c3
 have C := Lib.hid (And.intro c1 (And.intro c2 c3))
 clear c1 c2 c3 s1 s2 s3 s4 s5 r1 r1' r2 r3 r3' ht ht2
 go_enter Tryz.func12, Tryz.ntmps12
 go_wp2_with fail
 refine (C.out.1 _ (Below.refl _ _)).mono ?_
 rintro e w1 ⟨rfl, b⟩
 have H1 := Lib.hid b; clear b
 go_wp2_with fail
 refine (C.out.2.1 _ H1.out).mono ?_
 rintro e w2 ⟨rfl, b⟩
 have H2 := Lib.hid (H1.out.trans (b.mono H1.out.size)); clear b H1
 go_wp2_with fail
 refine (C.out.2.2 _ H2.out).mono ?_
 rintro e w3 ⟨rfl, b⟩
 have H3 := Lib.hid (H2.out.trans (b.mono H2.out.size)); clear b H2
 go_wp2
 go_ret
 exact ⟨rfl, H3.out⟩
theorem strB_pos (z : Int) : 0 < (strB z).size := by
 rw [← size_len, strB_data]
 exact List.length_pos_iff.2 (itoa_ne z)
theorem neg_den (x : Rat) : isNeg (strB (x.den : Int)).data.toList = false := by
 rw [strB_data, head_itoa_neg]; simp
theorem strB_toQ (z : Int) (x : Rat) : ((strB z).toList == (strQ x).toList) = decide ((z : Rat) = x) := by
 rw [← strQ_int]; exact strQ_toList _ _
theorem num_is (x : Rat) : decide ((x.num : Rat) = x) = decide (x.den = 1) := by
 apply decide_eq_decide.2
 constructor
 · intro h
   have := congrArg Rat.den h
   rwa [Rat.den_intCast, eq_comm] at this
 · intro h
   have h1 := num_over_den x
   rw [h] at h1
   refine Eq.trans ?_ h1
   show (x.num : Rat) = (x.num : Rat) / ((1 : Int) : Rat)
   rw [Rat.intCast_one, Rat.div_def]
   rw [show (1 : Rat)⁻¹ = 1 by decide +kernel, Rat.mul_one]
theorem RationalParts_any (a : ByteArray) (w : World) (ha : a.size ≤ maxLen) (ht : Tab w) (ht2 : Tab64 w) :
   Calls Tryz.prog 10 #[.string a] w fun e W' => e = .returned (.bool true) ∧ Below w.heap.size w W' := by
 have hfin := Lib.hid (fun B W (hb : B < W.heap.size) (h0 : W.cell? ⟨B, 0, none⟩ = some (.string a)) (h : Below w.heap.size w W) => fineQ1 a B W ha hb h0 (ht.next h))
 clear ha
 by_cases hf : fineQ a = true
 · rw [hf] at hfin
   obtain ⟨x, rfl, hx⟩ := fineQ_str hf
   have sx : Sq x := hx.lim (by decide)
   have o1 := fun W (h : Below w.heap.size w W) => Parts_q x W sx (ht.next h) (TabQ_next ht2 h)
   have bn := Bq_int (by decide : 1 ≤ 60) hx.num
   have bd := Bq_int (by decide : 1 ≤ 60) hx.den
   have o2 := fun W (h : Below w.heap.size w W) => Div_q (x.num : Rat) ((x.den : Int) : Rat) W (bn.lim (by decide)) (bd.lim (by decide)) (den_ne0 x) (ht.next h) (TabQ_next ht2 h)
   obtain ⟨q1, q2, _⟩ := qdiv_ok bn bd (by decide) (den_ne0 x)
   rw [q1, q2, num_over_den, strQ_int, strQ_int] at o2
   have oA := fun W (h : Below w.heap.size w W) => awake2_any W (ht.next h) (TabQ_next ht2 h)
   have p1 := strB_pos (x.den : Int)
   have p1' : (0 : Int) < (strB (x.den : Int)).size := by omega
   have hm := (isNeg_pos p1).trans (neg_den x)
   have z0 : ((strB (x.den : Int)).toList == [48]) = false := by
     rw [← strQ_int, strQ_is0]; exact decide_eq_false (den_ne0 x)
   have z1 : ((strB (x.den : Int)).toList == [49]) = decide (x.den = 1) := by
     rw [← strQ_int, strQ_is1]
     apply decide_eq_decide.2
     rw [← Rat.intCast_one, Rat.intCast_inj]; omega
   have z2 : ((strB x.num).toList == (strQ x).toList) = decide (x.den = 1) := by rw [strB_toQ, num_is]
   have hE : (strB (x.den : Int)).toList.isEmpty = false := by
     rw [ByteArray.toList_eq, strB_data]
     cases h : Lib.itoa (x.den : Int) with
     | nil => exact absurd h (itoa_ne _)
     | cons c t => rfl
   have O := Lib.hid (And.intro o1 (And.intro o2 oA))
   clear o1 o2 oA ht ht2 bn bd q1 q2 hx sx hf
   generalize decide (x.den = 1) = b1 at *
   generalize strB x.num = n at *
   generalize strB (x.den : Int) = d at *
   generalize strQ x = s at *
   have hm' : ((d[0].toNat : Int) != 45) = true := by rw [bne, hm]; rfl
   have z0' : (d.toList != [48]) = true := by rw [bne, z0]; rfl
   go_enter Tryz.func10, Tryz.ntmps10
   go_wp2_with fail
   have B0 := (Below.refl w.heap.size w).alloc (Nat.le_refl _) (.cells #[.string s] 22)
   have K0 := Blk.new w #[.string s] 22
   generalize w.alloc (.cells #[.string s] 22) = v0 at *
   have B0 := Lib.hid B0
   refine (hfin.out _ _ K0.lt (K0.cell 0 _ rfl) B0.out).mono ?_
   rintro e v1 ⟨rfl, b⟩
   have B1 := Lib.hid (B0.out.trans (b.mono B0.out.size)); clear b B0 K0
   go_wp2_with fail
   refine (O.out.1 _ B1.out).mono ?_
   rintro e v2 ⟨rfl, b⟩
   have B2 := Lib.hid (B1.out.trans (b.mono B1.out.size)); clear b B1
   go_wp2_with fail
   refine (O.out.2.1 _ B2.out).mono ?_
   rintro e v3 ⟨rfl, b⟩
   have B3 := Lib.hid (B2.out.trans (b.mono B2.out.size)); clear b B2
   cases b1
   all_goals
     go_wp2_with fail
     refine (O.out.2.2 _ B3.out).mono ?_
     rintro e v4 ⟨rfl, b⟩
     have B4 := Lib.hid (B3.out.trans (b.mono B3.out.size)); clear b B3
     go_wp2
     go_ret
     exact ⟨rfl, B4.out⟩
 · have hf' : fineQ a = false := by simpa using hf
   rw [hf'] at hfin
   clear hf hf'
   have O := Lib.hid (fun W (h : Below w.heap.size w W) => awake2_any W (ht.next h) (TabQ_next ht2 h))
   clear ht ht2
   go_enter Tryz.func10, Tryz.ntmps10
   go_wp2_with fail
   have B0 := (Below.refl w.heap.size w).alloc (Nat.le_refl _) (.cells #[.string a] 22)
   have K0 := Blk.new w #[.string a] 22
   generalize w.alloc (.cells #[.string a] 22) = v0 at *
   have B0 := Lib.hid B0
   refine (hfin.out _ _ K0.lt (K0.cell 0 _ rfl) B0.out).mono ?_
   rintro e v1 ⟨rfl, b⟩
   have B1 := Lib.hid (B0.out.trans (b.mono B0.out.size)); clear b B0 K0
   go_wp2_with fail
   refine (O.out _ B1.out).mono ?_
   rintro e v2 ⟨rfl, b⟩
   have B2 := Lib.hid (B1.out.trans (b.mono B1.out.size)); clear b B1
   go_wp2
   go_ret
   exact ⟨rfl, B2.out⟩
end Go.Proofs.YtmafghdgmdbpnaaGreatDoor
