/- Parts of the proofs of the texts YtilggfeodhfjfaaGreatDoorQS. -/
import Derived.Shelf.Strings.Builder1
import Derived.Shelf.Strings.Builder2
import Derived.Shelf.Small.Strs
import Derived.Shelf.Small.Wraps
import Derived.Shelf.Strings.BuilderF
import Derived.Shelf.Strconv.Atoi
import Derived.Shelf.Strconv.Itoa0
import Derived.Shelf.Strconv.Itoa1
import Derived.Shelf.LaysM
import Derived.Shelf.Strconv.Itoa2
import Derived.Shelf.Strconv.Itoa3
import Derived.Shelf.Strconv.Itoa4
import Derived.Shelf.Strconv.AtoiErrFast
import Derived.Shelf.Strconv.ParseIntEmpty
import Derived.Shelf.Strconv.AtoiFail
import Derived.Shelf.Strconv.Clone
import Derived.Shelf.Strconv.SyntaxError
import Derived.Shelf.LaysC
import Derived.Shelf.Strconv.ToError
import Derived.Shelf.Strconv.AtoiErr
import Derived.Shelf.Strconv.ErrVar
import Derived.Shelf.Strconv.Lower
import Derived.Shelf.Strconv.ParseUint10
import Derived.Shelf.Strconv.ParseUint10Empty
import Derived.Shelf.Strconv.ParseUint10Any
import Derived.Shelf.Strconv.ParseInt10
import Derived.Shelf.Strconv.AtoiLong
import Derived.Shelf.Strconv.AtoiInnerAll
import Derived.Shelf.Strconv.RangeError
import Derived.Shelf.Strconv.ToErrorRange
import Derived.Shelf.Strconv.AtoiAll
import Derived.Shelf.Strconv.ErrVarAll
import Derived.Shelf.Strconv.ParseUint10b64
import Derived.Ground.MpProg
import Derived.Shelf.Pu.ParseUintPublic10
import Derived.Shelf.Strings.Search1
import Derived.Shelf.Strings.Search2
import Derived.Shelf.Strings.Cut
import Derived.Shelf.Strings.Shaped
import Derived.Shelf.Strconv.AppendUint10
import Derived.Shelf.Strconv.AppendInt10
import Derived.Shelf.Strconv.AppendIntPublic10
import Derived.Shelf.Strings.Prefix
import Derived.Shelf.Bits.Mul64
import Derived.Shelf.Strings.Repeat
import Derived.Test.YtilggfeodhfjfaaGreatDoorProg
import Derived.Test.YtilggfeodhfjfaaGreatDoorQR1
import Derived.Test.YtilggfeodhfjfaaGreatDoorQR10
import Derived.Test.YtilggfeodhfjfaaGreatDoorQR11
import Derived.Test.YtilggfeodhfjfaaGreatDoorQR12
import Derived.Test.YtilggfeodhfjfaaGreatDoorQR13
import Derived.Test.YtilggfeodhfjfaaGreatDoorQR14
import Derived.Test.YtilggfeodhfjfaaGreatDoorQR15
import Derived.Test.YtilggfeodhfjfaaGreatDoorQR16
import Derived.Test.YtilggfeodhfjfaaGreatDoorQR17
import Derived.Test.YtilggfeodhfjfaaGreatDoorQR18
import Derived.Test.YtilggfeodhfjfaaGreatDoorQR19
import Derived.Test.YtilggfeodhfjfaaGreatDoorQR2
import Derived.Test.YtilggfeodhfjfaaGreatDoorQR21
import Derived.Test.YtilggfeodhfjfaaGreatDoorQR22
import Derived.Test.YtilggfeodhfjfaaGreatDoorQR23
import Derived.Test.YtilggfeodhfjfaaGreatDoorQR24
import Derived.Test.YtilggfeodhfjfaaGreatDoorQR25
import Derived.Test.YtilggfeodhfjfaaGreatDoorQR26
import Derived.Test.YtilggfeodhfjfaaGreatDoorQR27
import Derived.Test.YtilggfeodhfjfaaGreatDoorQR28
import Derived.Test.YtilggfeodhfjfaaGreatDoorQR3
import Derived.Test.YtilggfeodhfjfaaGreatDoorQR4
import Derived.Test.YtilggfeodhfjfaaGreatDoorQR5
import Derived.Test.YtilggfeodhfjfaaGreatDoorQR6
import Derived.Test.YtilggfeodhfjfaaGreatDoorQR7
import Derived.Test.YtilggfeodhfjfaaGreatDoorQR8
import Derived.Test.YtilggfeodhfjfaaGreatDoorQR9
set_option linter.all false
set_option maxRecDepth 100000
set_option maxHeartbeats 8000000
namespace Go.Proofs
open Go.Shelf
def Tryz.laysM171_ren : Go.Shelf.Ren := ⟨fun | 171 => 74 | 243 => 144 | 246 => 200 | 283 => 233 | 284 => 234 | 285 => 235 | 286 => 236 | 129 => 259 | 317 => 258 | 318 => 260 | 319 => 261 | 320 => 262 | 337 => 276 | 338 => 220 | n => n, fun | 3 => 3 | 9 => 9 | 2 => 2 | 4 => 4 | 171 => 249 | 0 => 0 | 53 => 183 | 37 => 131 | 5 => 5 | 173 => 251 | 212 => 269 | 51 => 197 | 20 => 20 | 213 => 270 | 46 => 126 | 232 => 287 | 233 => 260 | n => n, fun | 17 => 5 | 18 => 6 | 19 => 4 | n => n⟩
theorem Tryz.laysM171 : Go.Proofs.LaysM.n171 Tryz.prog Tryz.laysM171_ren := {
 mixed := by kernel_rfl
 f129 := Tryz.func259.trans (congrArg some (by kernel_rfl))
 f171 := Tryz.func74.trans (congrArg some (by kernel_rfl))
 f243 := Tryz.func144.trans (congrArg some (by kernel_rfl))
 f246 := Tryz.func200.trans (congrArg some (by kernel_rfl))
 f283 := Tryz.func233.trans (congrArg some (by kernel_rfl))
 f284 := Tryz.func234.trans (congrArg some (by kernel_rfl))
 f285 := Tryz.func235.trans (congrArg some (by kernel_rfl))
 f286 := Tryz.func236.trans (congrArg some (by kernel_rfl))
 f317 := Tryz.func258.trans (congrArg some (by kernel_rfl))
 f318 := Tryz.func260.trans (congrArg some (by kernel_rfl))
 f319 := Tryz.func261.trans (congrArg some (by kernel_rfl))
 f320 := Tryz.func262.trans (congrArg some (by kernel_rfl))
 f337 := Tryz.func276.trans (congrArg some (by kernel_rfl))
 f338 := Tryz.func220.trans (congrArg some (by kernel_rfl))
 t0 := Tryz.underlying0
 a0 := Tryz.isAgg0
 z0 := Tryz.sizeOf0
 v0 := Tryz.zeroValue0
 t2 := Tryz.underlying2
 a2 := Tryz.isAgg2
 z2 := Tryz.sizeOf2
 v2 := Tryz.zeroValue2
 t3 := Tryz.underlying3
 a3 := Tryz.isAgg3
 z3 := Tryz.sizeOf3
 v3 := Tryz.zeroValue3
 t4 := Tryz.underlying4
 a4 := Tryz.isAgg4
 z4 := Tryz.sizeOf4
 v4 := Tryz.zeroValue4
 t5 := Tryz.underlying5
 a5 := Tryz.isAgg5
 z5 := Tryz.sizeOf5
 v5 := Tryz.zeroValue5
 t9 := Tryz.underlying9
 a9 := Tryz.isAgg9
 z9 := Tryz.sizeOf9
 v9 := Tryz.zeroValue9
 t20 := Tryz.underlying20
 a20 := Tryz.isAgg20
 z20 := Tryz.sizeOf20
 v20 := Tryz.zeroValue20
 t37 := Tryz.underlying131
 a37 := Tryz.isAgg131
 z37 := Tryz.sizeOf131
 v37 := Tryz.zeroValue131
 t46 := Tryz.underlying126
 a46 := Tryz.isAgg126
 z46 := Tryz.sizeOf126
 v46 := Tryz.zeroValue126
 t51 := Tryz.underlying197
 a51 := Tryz.isAgg197
 z51 := Tryz.sizeOf197
 v51 := Tryz.zeroValue197
 t53 := Tryz.underlying183
 a53 := Tryz.isAgg183
 z53 := Tryz.sizeOf183
 v53 := Tryz.zeroValue183
 t171 := Tryz.underlying249
 a171 := Tryz.isAgg249
 z171 := Tryz.sizeOf249
 v171 := Tryz.zeroValue249
 t173 := Tryz.underlying251
 a173 := Tryz.isAgg251
 z173 := Tryz.sizeOf251
 v173 := Tryz.zeroValue251
 t212 := Tryz.underlying269
 a212 := Tryz.isAgg269
 z212 := Tryz.sizeOf269
 v212 := Tryz.zeroValue269
 t213 := Tryz.underlying270
 a213 := Tryz.isAgg270
 z213 := Tryz.sizeOf270
 t232 := Tryz.underlying287
 a232 := Tryz.isAgg287
 z232 := Tryz.sizeOf287
 v232 := Tryz.zeroValue287
 t233 := Tryz.underlying260
 a233 := Tryz.isAgg260
 z233 := Tryz.sizeOf260
 v233 := Tryz.zeroValue260
 g17 := by kernel_rfl
 g18 := by kernel_rfl
 g19 := by kernel_rfl
 i0 := by kernel_rfl
 i2 := by kernel_rfl
 i3 := by kernel_rfl
 i4 := by kernel_rfl
 i5 := by kernel_rfl
 i9 := by kernel_rfl
 i20 := by kernel_rfl
 i37 := by kernel_rfl
 i46 := by kernel_rfl
 i51 := by kernel_rfl
 i53 := by kernel_rfl
 i171 := by kernel_rfl
 i173 := by kernel_rfl
 i212 := by kernel_rfl
 i232 := by kernel_rfl
 i233 := by kernel_rfl
 m17 := by kernel_rfl
 m18 := by kernel_rfl
 m19 := by kernel_rfl }
open Go.RowKit Go.Sort Go.Lib in
theorem Tryz.strconv_Itoa (n : Int) (h0 : -9223372036854775808 ≤ n) (h1 : n ≤ 9223372036854775807) (w : World) (htab : Lib.TabIs Tryz.prog w "internal/strconv.uint64pow10" .u64 Lib.pow10Tab) :
   Calls Tryz.prog 74 #[.int .i64 n] w fun e w' => e = .returned (.string ⟨(Lib.itoa n).toArray⟩) ∧ ∃ k os, w' = grow (w.drewN k) os := Any.strconv_Itoa Tryz.laysM171 n h0 h1 w htab
end Go.Proofs
namespace Go.Proofs.YtilggfeodhfjfaaGreatDoor
open Go.RowKit
theorem Itoa_any (z : Int) (w : World) (h0 : -9223372036854775808 ≤ z) (h1 : z ≤ 9223372036854775807) (ht : Tab w) :
   Calls Tryz.prog 74 #[.int .i64 z] w fun e w' => e = .returned (.string (strB z)) ∧ Below w.heap.size w w' :=
 (Tryz.strconv_Itoa z h0 h1 w ht).mono fun e w' ⟨he, k, os, hw⟩ => ⟨he, by rw [hw]; exact Lib.below_grow _ _ (Nat.le_refl _) _ _⟩
end Go.Proofs.YtilggfeodhfjfaaGreatDoor
namespace Go.Proofs.YtilggfeodhfjfaaGreatDoor.T
open Go.Proofs.YtilggfeodhfjfaaGreatDoor Go.RowKit
theorem order_core (a b : ByteArray) (r e0 : Int) (w : World)
   (h : Calls Tryz.prog 172 #[.string a, .string b] w fun e W' => e = .returned (.tuple #[.int .i64 r, .int .i64 e0]) ∧ Below w.heap.size w W') :
   Calls Tryz.prog 107 #[.string a, .string b] w fun e W' => e = .returned (.int .i64 r) ∧ Below w.heap.size w W' := by
 have C := Lib.hid h; clear h
 go_enter Tryz.func107, Tryz.ntmps107
 go_wp2_with fail
 refine C.out.mono ?_
 rintro e w1 ⟨rfl, b⟩
 have H1 := Lib.hid b; clear b
 go_wp2
 go_ret
 exact ⟨rfl, H1.out⟩
theorem oorder (x y : Int) (w : World) (hx : short x) (hy : short y) :
   Calls Tryz.prog 107 #[.string (strB x), .string (strB y)] w fun e W' => e = .returned (.int .i64 (cmpZ x y)) ∧ Below w.heap.size w W' :=
 order_core _ _ _ _ w ((Compare_str x y w hx hy).mono fun e W' h => ⟨h.1, by rw [← h.2]; exact Below.refl _ _⟩)
end Go.Proofs.YtilggfeodhfjfaaGreatDoor.T
namespace Go.Proofs.YtilggfeodhfjfaaGreatDoor.T
open Go.Proofs.YtilggfeodhfjfaaGreatDoor Go.RowKit Go.Lib
theorem osize_any (a b : ByteArray) (w : World) :
   Calls Tryz.prog 105 #[.agg #[.string a, .string b]] w fun e W' => e = .returned (.agg #[.string (szB a), .string b]) ∧ Below w.heap.size w W' := by
 have c := fun W => (Tryz.strings_TrimPrefix a ⟨#[45]⟩ W).mono (R' := fun e W' => e = .returned (.string (szB a)) ∧ Below W.heap.size W W') (fun e W' h => ⟨by rw [h.1, show (⟨#[45]⟩ : ByteArray).data.toList = [45] from rfl, trim_neg]; rfl, by rw [h.2]; exact Below.refl _ _⟩)
 have C := Lib.hid c; clear c
 generalize szB a = r at *
 go_enter Tryz.func105, Tryz.ntmps105
 go_wp2
 have hbx : Bxs w w.heap.size [[.string a, .string b], [.string ⟨#[]⟩, .string ⟨#[]⟩]] ((w.alloc (.cells #[.string a, .string b] 59)).alloc (.cells #[.string ⟨#[]⟩, .string ⟨#[]⟩] 59)) := (((Bxs.nil w w (Below.refl _ _)).push rfl [.string a, .string b] 59).push (by simp) [.string ⟨#[]⟩, .string ⟨#[]⟩] 59)
 generalize ((w.alloc (.cells #[.string a, .string b] 59)).alloc (.cells #[.string ⟨#[]⟩, .string ⟨#[]⟩] 59)) = W0 at *
 generalize hk : w.heap.size = k at *
 have HK := Lib.hid hk; clear hk
 have HB := Lib.hid (hbx.next (Below.refl _ _).drew)
 clear hbx
 have e00 := (show World.cell? _ ⟨k, 0, none⟩ = some (.string a) from HB.out.cells 0 _ rfl 0 _ rfl)
 have e01 := (show World.cell? _ ⟨k, 1, none⟩ = some (.string b) from HB.out.cells 0 _ rfl 1 _ rfl)
 have e10 := (show World.cell? _ ⟨k + 1, 0, none⟩ = some (.string ⟨#[]⟩) from HB.out.cells 1 _ rfl 0 _ rfl)
 have f10 := (show World.frozen? _ ⟨k + 1, 0, none⟩ = false from HB.out.frozen 1 (by simp) 0)
 have e11 := (show World.cell? _ ⟨k + 1, 1, none⟩ = some (.string ⟨#[]⟩) from HB.out.cells 1 _ rfl 1 _ rfl)
 have f11 := (show World.frozen? _ ⟨k + 1, 1, none⟩ = false from HB.out.frozen 1 (by simp) 1)
 go_region_held3 (fun w' => w'.cell? ⟨k, 0, none⟩ = some (.string a) ∧ w'.cell? ⟨k, 1, none⟩ = some (.string b)) (first | exact ⟨e00, e01⟩ | (go_keep; done) | ((try dsimp only); (refine ⟨?_, ?_⟩ <;> (exact far2 (by omega) (by assumption)))))
   (first | (go_at_call 90; refine (C.out _).mono ?_; rintro e w1 ⟨rfl, b⟩; have HN := Lib.hid (HB.out.next b); clear HB b; have HB := HN; clear HN; have e00 := (show World.cell? _ ⟨k, 0, none⟩ = some (.string a) from HB.out.cells 0 _ rfl 0 _ rfl); have e01 := (show World.cell? _ ⟨k, 1, none⟩ = some (.string b) from HB.out.cells 0 _ rfl 1 _ rfl); have e10 := (show World.cell? _ ⟨k + 1, 0, none⟩ = some (.string ⟨#[]⟩) from HB.out.cells 1 _ rfl 0 _ rfl); have f10 := (show World.frozen? _ ⟨k + 1, 0, none⟩ = false from HB.out.frozen 1 (by simp) 0); have e11 := (show World.cell? _ ⟨k + 1, 1, none⟩ = some (.string ⟨#[]⟩) from HB.out.cells 1 _ rfl 1 _ rfl); have f11 := (show World.frozen? _ ⟨k + 1, 1, none⟩ = false from HB.out.frozen 1 (by simp) 1)))
 have e00 := (show World.cell? _ ⟨k, 0, none⟩ = some (.string a) from HB.out.cells 0 _ rfl 0 _ rfl)
 have e01 := (show World.cell? _ ⟨k, 1, none⟩ = some (.string b) from HB.out.cells 0 _ rfl 1 _ rfl)
 have e10 := (show World.cell? _ ⟨k + 1, 0, none⟩ = some (.string ⟨#[]⟩) from HB.out.cells 1 _ rfl 0 _ rfl)
 have f10 := (show World.frozen? _ ⟨k + 1, 0, none⟩ = false from HB.out.frozen 1 (by simp) 0)
 have e11 := (show World.cell? _ ⟨k + 1, 1, none⟩ = some (.string ⟨#[]⟩) from HB.out.cells 1 _ rfl 1 _ rfl)
 have f11 := (show World.frozen? _ ⟨k + 1, 1, none⟩ = false from HB.out.frozen 1 (by simp) 1)
 obtain ⟨g0, g1⟩ := twoB e10 e11 (.string r) (.string b)
 go_wp2
 refine bodyPost_ret (v := .agg #[.string r, .string b]) (by simp [results, Tryz.results105, go_sem, g0, g1]) rfl ?_
 refine ⟨rfl, ?_⟩
 have hbl := HB.out.below
 rw [HK.out] at hbl ⊢
 exact below_put2 hbl (by omega) _ _
end Go.Proofs.YtilggfeodhfjfaaGreatDoor.T
namespace Go.Proofs.YtilggfeodhfjfaaGreatDoor.T
open Go.Proofs.YtilggfeodhfjfaaGreatDoor
theorem cmpZ_iff {x y u v : Int} (h1 : x < y ↔ u < v) (h2 : y < x ↔ v < u) : cmpZ x y = cmpZ u v := by
 unfold cmpZ
 by_cases a : x < y
 · rw [if_pos a, if_pos (h1.1 a)]
 · rw [if_neg a, if_neg (fun q => a (h1.2 q))]
   by_cases b : y < x
   · rw [if_pos b, if_pos (h2.1 b)]
   · rw [if_neg b, if_neg (fun q => b (h2.2 q))]
theorem whole_lt {q q' r r' d d' : Int} (_hd : 0 < d) (hd' : 0 < d') (hr : r < d) (hr' : 0 ≤ r') (h : q < q') : (q * d + r) * d' < (q' * d' + r') * d := by
 have h1 : (q * d + r) * d' < (q * d + d) * d' := Int.mul_lt_mul_of_pos_right (by omega) hd'
 have h2 : (q * d + d) * d' ≤ (q' * d' + r') * d := by
   have e : (q * d + d) * d' = (q + 1) * (d * d') := by rw [Int.add_mul, Int.add_mul q 1, Int.one_mul, Int.mul_assoc]
   have e' : (q' * d' + r') * d = q' * (d * d') + r' * d := by rw [Int.add_mul, Int.mul_assoc, Int.mul_comm d']
   rw [e, e']
   have m : (q + 1) * (d * d') ≤ q' * (d * d') := Int.mul_le_mul_of_nonneg_right (by omega) (Int.mul_nonneg (by omega) (by omega))
   have n : 0 ≤ r' * d := Int.mul_nonneg hr' (by omega)
   omega
 exact Int.lt_of_lt_of_le h1 h2
theorem cmp_whole {n n' q q' r r' d d' : Int} (hd : 0 < d) (hd' : 0 < d') (e : n = q * d + r) (e' : n' = q' * d' + r') (h0 : 0 ≤ r) (hr : r < d) (h0' : 0 ≤ r') (hr' : r' < d') (hq : q ≠ q') :
   cmpZ (n * d') (n' * d) = cmpZ q q' := by
 subst e e'
 rcases Int.lt_or_lt_of_ne hq with h | h
 · have := whole_lt hd hd' hr h0' h
   unfold cmpZ; rw [if_pos this, if_pos h]
 · have := whole_lt hd' hd hr' h0 h
   unfold cmpZ; rw [if_neg (by omega), if_pos this, if_neg (by omega), if_pos h]
theorem cmp_rest {n n' q r r' d d' : Int} (e : n = q * d + r) (e' : n' = q * d' + r') : cmpZ (n * d') (n' * d) = cmpZ (r * d') (r' * d) := by
 subst e e'
 have h : q * d * d' = q * d' * d := by rw [Int.mul_assoc, Int.mul_comm d, ← Int.mul_assoc]
 rw [Int.add_mul, Int.add_mul, h]
 exact cmpZ_iff ⟨fun h => by omega, fun h => by omega⟩ ⟨fun h => by omega, fun h => by omega⟩
theorem cmp_end {r r' d d' : Int} (hd : 0 < d) (hd' : 0 < d') (h0 : 0 ≤ r) (h0' : 0 ≤ r') (h : r = 0 ∨ r' = 0) : cmpZ (r * d') (r' * d) = cmpZ r r' := by
 rcases h with rfl | rfl
 · rw [Int.zero_mul]
   refine cmpZ_iff ⟨fun h => ?_, fun h => Int.mul_pos h hd⟩ ⟨fun h => ?_, fun h => ?_⟩
   · rcases Int.lt_or_eq_of_le h0' with h' | h'
     · exact h'
     · rw [← h', Int.zero_mul] at h; omega
   · have := Int.mul_nonneg h0' (Int.le_of_lt hd); omega
   · omega
 · rw [Int.zero_mul]
   refine cmpZ_iff ⟨fun h => ?_, fun h => ?_⟩ ⟨fun h => ?_, fun h => Int.mul_pos h hd'⟩
   · have := Int.mul_nonneg h0 (Int.le_of_lt hd'); omega
   · omega
   · rcases Int.lt_or_eq_of_le h0 with h' | h'
     · exact h'
     · rw [← h', Int.zero_mul] at h; omega
theorem cmp_turn (r r' d d' : Int) : cmpZ (r * d') (r' * d) = cmpZ (d' * r) (d * r') := by rw [Int.mul_comm r, Int.mul_comm r']
theorem norm_sq {n d : Nat} (hn : 0 < n) (hd : 0 < d) (l : List Nat) (hl : ∀ p ∈ l, 2 ≤ p) :
   mkRat ((strips l n).1 : Nat) ((strips l d).1 * (strips l d).2) * mkRat ((strips l n).1 : Nat) ((strips l d).1 * (strips l d).2) * (((strips l n).2 * (strips l d).2 : Nat) : Rat) = mkRat n d := by
 obtain ⟨a1, a2, a3, a4, _⟩ := strips_spec l hl hn
 obtain ⟨b1, b2, b3, b4, _⟩ := strips_spec l hl hd
 generalize (strips l n).1 = a at *
 generalize (strips l n).2 = m at *
 generalize (strips l d).1 = b at *
 generalize (strips l d).2 = k at *
 have hbk : 0 < b * k := Nat.mul_pos b2 b3
 rw [show (((m * k : Nat) : Rat)) = mkRat ((m * k : Nat) : Int) 1 from by rw [Rat.mkRat_one, Rat.intCast_natCast], Rat.mkRat_mul_mkRat, Rat.mkRat_mul_mkRat]
 refine (Rat.mkRat_eq_iff (Nat.ne_of_gt (by rw [Nat.mul_one]; exact Nat.mul_pos hbk hbk)) (Nat.ne_of_gt hd)).2 ?_
 rw [← Int.natCast_mul, ← Int.natCast_mul, ← Int.natCast_mul, ← Int.natCast_mul]
 congr 1
 rw [Nat.mul_one, a1, b1]
 simp only [Nat.mul_assoc, Nat.mul_left_comm]
end Go.Proofs.YtilggfeodhfjfaaGreatDoor.T
namespace Go.Proofs.YtilggfeodhfjfaaGreatDoor.T
open Go.Proofs.YtilggfeodhfjfaaGreatDoor Go.RowKit Go.Lib
theorem sigsq_z (s t : ByteArray) (a b c d v : Int) (w : World) (ha : short a) (hb : short b) (hc : short c) (hd : short d) (hv : short v) (h1 : short (a * v)) (h2 : short (b * b)) (h3 : short (a * v * c)) (h4 : short (b * b * d)) (ht : Tab w) (hsz : szB (strB a) = strB v)
   (p1 : ∀ W, Below w.heap.size w W → Calls Tryz.prog 42 #[.string s] W fun e W' => e = .returned (.agg #[.string (strB a), .string (strB b)]) ∧ Below W.heap.size W W')
   (p2 : ∀ W, Below w.heap.size w W → Calls Tryz.prog 42 #[.string t] W fun e W' => e = .returned (.agg #[.string (strB c), .string (strB d)]) ∧ Below W.heap.size W W') :
   Calls Tryz.prog 51 #[.string s, .string t] w fun e W' => e = .returned (.agg #[.string (strB (a * v * c)), .string (strB (b * b * d))]) ∧ Below w.heap.size w W' := by
 have ct := fun x y z v W (hx : short x) (hy : short y) (hz : short z) (hv : short v) (h1 : short (x * z)) (h2 : short (y * v)) (hW : Below w.heap.size w W) => ptimes x y z v W hx hy hz hv h1 h2 (ht.next hW)
 have ci := fun W => osize_any (strB a) (strB b) W
 rw [hsz] at ci
 have C := Lib.hid (And.intro p1 (And.intro p2 (And.intro ct ci))); clear ct ci p1 p2 ht hsz
 go_enter Tryz.func51, Tryz.ntmps51
 go_wp2_with fail
 have HB := Lib.hid (And.intro (Blk.new w #[.string ⟨#[]⟩, .string ⟨#[]⟩] 59) ((Below.refl _ w).alloc (Nat.le_refl _) (.cells #[.string ⟨#[]⟩, .string ⟨#[]⟩] 59)))
 generalize w.alloc (.cells #[.string ⟨#[]⟩, .string ⟨#[]⟩] 59) = W0 at *
 generalize hk : w.heap.size = k at *
 have HK := Lib.hid hk; clear hk
 refine (C.out.1 _ (HB.out.2)).mono ?_
 rintro e w2 ⟨rfl, b⟩
 have HN := Lib.hid (And.intro (HB.out.1.next b)  (HB.out.2.trans (b.mono (by have h1 := HB.out.2.size; have h2 := HK.out; omega)))); clear HB b; have HB := HN; clear HN; have e00 := (show World.cell? _ ⟨k, 0, none⟩ = some (.string ⟨#[]⟩) from HB.out.1.cell 0 _ rfl); have f00 := (show World.frozen? _ ⟨k, 0, none⟩ = false from HB.out.1.free 0); have e01 := (show World.cell? _ ⟨k, 1, none⟩ = some (.string ⟨#[]⟩) from HB.out.1.cell 1 _ rfl); have f01 := (show World.frozen? _ ⟨k, 1, none⟩ = false from HB.out.1.free 1)
 go_wp2
 have hlt := HB.out.1.lt
 have hle := HB.out.2.size
 have HN := Lib.hid (And.intro (HB.out.1.alloc (.cells #[.string (strB a), .string (strB b)] 59)) (And.intro (Blk.new w2 #[.string (strB a), .string (strB b)] 59) (HB.out.2.alloc (by have := HB.out.2.size; rw [HK.out] at this; exact this) (.cells #[.string (strB a), .string (strB b)] 59))))
 clear HB
 have HB := HN; clear HN
 generalize w2.alloc (.cells #[.string (strB a), .string (strB b)] 59) = W3 at *
 generalize w2.heap.size = m at *
 have HD := Lib.hid (And.intro HB.out.1.drew (And.intro HB.out.2.1.drew HB.out.2.2.drew)); clear HB; have HB := HD; clear HD
 have e00 := (show World.cell? _ ⟨k, 0, none⟩ = some (.string ⟨#[]⟩) from HB.out.1.cell 0 _ rfl); have f00 := (show World.frozen? _ ⟨k, 0, none⟩ = false from HB.out.1.free 0); have e01 := (show World.cell? _ ⟨k, 1, none⟩ = some (.string ⟨#[]⟩) from HB.out.1.cell 1 _ rfl); have f01 := (show World.frozen? _ ⟨k, 1, none⟩ = false from HB.out.1.free 1); have e10 := (show World.cell? _ ⟨m, 0, none⟩ = some (.string (strB a)) from HB.out.2.1.cell 0 _ rfl); have e11 := (show World.cell? _ ⟨m, 1, none⟩ = some (.string (strB b)) from HB.out.2.1.cell 1 _ rfl)
 go_region_held3 (fun w' => w'.cell? ⟨m, 0, none⟩ = some (.string (strB a)) ∧ w'.cell? ⟨m, 1, none⟩ = some (.string (strB b))) (first | exact ⟨e10, e11⟩ | (go_keep; done) | ((try dsimp only); (refine ⟨?_, ?_⟩ <;> (exact far2 (by omega) (by assumption)))))
   (first | (go_at_call 42; refine (C.out.2.1 _ (HB.out.2.2)).mono ?_; rintro e w4 ⟨rfl, b⟩; have HN := Lib.hid (And.intro (HB.out.1.next b) (And.intro (HB.out.2.1.next b) (HB.out.2.2.trans (b.mono (by have h1 := HB.out.2.2.size; have h2 := HK.out; omega))))); clear HB b; have HB := HN; clear HN; have e00 := (show World.cell? _ ⟨k, 0, none⟩ = some (.string ⟨#[]⟩) from HB.out.1.cell 0 _ rfl); have f00 := (show World.frozen? _ ⟨k, 0, none⟩ = false from HB.out.1.free 0); have e01 := (show World.cell? _ ⟨k, 1, none⟩ = some (.string ⟨#[]⟩) from HB.out.1.cell 1 _ rfl); have f01 := (show World.frozen? _ ⟨k, 1, none⟩ = false from HB.out.1.free 1); have e10 := (show World.cell? _ ⟨m, 0, none⟩ = some (.string (strB a)) from HB.out.2.1.cell 0 _ rfl); have e11 := (show World.cell? _ ⟨m, 1, none⟩ = some (.string (strB b)) from HB.out.2.1.cell 1 _ rfl)) | (go_at_call 104; refine (C.out.2.2.1 _ _ _ _ _ (by assumption) (by assumption) (by assumption) (by assumption) (by assumption) (by assumption) (HB.out.2.2)).mono ?_; rintro e w4 ⟨rfl, b⟩; have HN := Lib.hid (And.intro (HB.out.1.next b) (And.intro (HB.out.2.1.next b) (HB.out.2.2.trans (b.mono (by have h1 := HB.out.2.2.size; have h2 := HK.out; omega))))); clear HB b; have HB := HN; clear HN; have e00 := (show World.cell? _ ⟨k, 0, none⟩ = some (.string ⟨#[]⟩) from HB.out.1.cell 0 _ rfl); have f00 := (show World.frozen? _ ⟨k, 0, none⟩ = false from HB.out.1.free 0); have e01 := (show World.cell? _ ⟨k, 1, none⟩ = some (.string ⟨#[]⟩) from HB.out.1.cell 1 _ rfl); have f01 := (show World.frozen? _ ⟨k, 1, none⟩ = false from HB.out.1.free 1); have e10 := (show World.cell? _ ⟨m, 0, none⟩ = some (.string (strB a)) from HB.out.2.1.cell 0 _ rfl); have e11 := (show World.cell? _ ⟨m, 1, none⟩ = some (.string (strB b)) from HB.out.2.1.cell 1 _ rfl)) | (go_at_call 105; refine (C.out.2.2.2 _).mono ?_; rintro e w4 ⟨rfl, b⟩; have HN := Lib.hid (And.intro (HB.out.1.next b) (And.intro (HB.out.2.1.next b) (HB.out.2.2.trans (b.mono (by have h1 := HB.out.2.2.size; have h2 := HK.out; omega))))); clear HB b; have HB := HN; clear HN; have e00 := (show World.cell? _ ⟨k, 0, none⟩ = some (.string ⟨#[]⟩) from HB.out.1.cell 0 _ rfl); have f00 := (show World.frozen? _ ⟨k, 0, none⟩ = false from HB.out.1.free 0); have e01 := (show World.cell? _ ⟨k, 1, none⟩ = some (.string ⟨#[]⟩) from HB.out.1.cell 1 _ rfl); have f01 := (show World.frozen? _ ⟨k, 1, none⟩ = false from HB.out.1.free 1); have e10 := (show World.cell? _ ⟨m, 0, none⟩ = some (.string (strB a)) from HB.out.2.1.cell 0 _ rfl); have e11 := (show World.cell? _ ⟨m, 1, none⟩ = some (.string (strB b)) from HB.out.2.1.cell 1 _ rfl)))
 all_goals
   have e00 := (show World.cell? _ ⟨k, 0, none⟩ = some (.string ⟨#[]⟩) from HB.out.1.cell 0 _ rfl); have f00 := (show World.frozen? _ ⟨k, 0, none⟩ = false from HB.out.1.free 0); have e01 := (show World.cell? _ ⟨k, 1, none⟩ = some (.string ⟨#[]⟩) from HB.out.1.cell 1 _ rfl); have f01 := (show World.frozen? _ ⟨k, 1, none⟩ = false from HB.out.1.free 1); have e10 := (show World.cell? _ ⟨m, 0, none⟩ = some (.string (strB a)) from HB.out.2.1.cell 0 _ rfl); have e11 := (show World.cell? _ ⟨m, 1, none⟩ = some (.string (strB b)) from HB.out.2.1.cell 1 _ rfl)
   obtain ⟨g0, g1⟩ := twoB e00 e01 (.string (strB (a * v * c))) (.string (strB (b * b * d)))
   go_wp2
   refine bodyPost_ret (v := .agg #[.string (strB (a * v * c)), .string (strB (b * b * d))]) (by simp [results, Tryz.results51, go_sem, g0, g1]) rfl ?_
   refine ⟨rfl, ?_⟩
   rw [HK.out]
   exact below_put2 HB.out.2.2 (by omega) _ _
end Go.Proofs.YtilggfeodhfjfaaGreatDoor.T
namespace Go.Proofs.YtilggfeodhfjfaaGreatDoor.T
open Go.Proofs.YtilggfeodhfjfaaGreatDoor
theorem sqr_root {n : Nat} : Sqr n ↔ rootN n * rootN n = n := by
 constructor
 · rintro ⟨r, rfl⟩
   rw [rootN_eq (r := r) ⟨Nat.le_refl _, by simp only [Nat.add_mul, Nat.mul_add]; omega⟩]
 · exact fun h => ⟨_, h⟩
theorem bothS_iff {q : Rat} : bothS q ↔ Sqr q.num.natAbs ∧ Sqr q.den := by unfold bothS; rw [sqr_root, sqr_root]
theorem cD_pos (q : Rat) : 0 < cD q := by
 unfold cD
 split
 · rename_i h; exact Nat.pos_of_ne_zero fun z => by have := h.2; rw [z] at this; have := q.den_pos; omega
 · obtain ⟨_, b2, b3, _⟩ := strips_spec primes primes_2 q.den_pos; exact Nat.mul_pos b2 b3
theorem nN_pos (q : Rat) : 0 < nN q := by
 unfold nN
 split
 · exact Nat.one_pos
 · rename_i h
   obtain ⟨_, _, a3, _⟩ := strips_spec primes primes_2 (num_pos_of h)
   obtain ⟨_, _, b3, _⟩ := strips_spec primes primes_2 q.den_pos
   exact Nat.mul_pos a3 b3
theorem nC_sq {q : Rat} (h0 : 0 ≤ q) : nC q * nC q * ((nN q : Nat) : Rat) = q := by
 unfold nC cN cD nN
 split
 · rename_i h
   rw [Rat.mkRat_mul_mkRat, ← Int.natCast_mul, h.1, h.2, mk_nat h0, cast1, Rat.mul_one]
 · rename_i h
   rw [norm_sq (num_pos_of h) q.den_pos primes primes_2, mk_nat h0]
theorem nN_free (q : Rat) : ∀ p ∈ primes, ¬ p * p ∣ nN q := by
 intro p hp
 unfold nN
 split
 · intro d
   have := Nat.le_of_dvd Nat.one_pos d
   have := pp_pos (primes_2 p hp); omega
 · rename_i h
   obtain ⟨_, _, _, a4, a5⟩ := strips_spec primes primes_2 (num_pos_of h)
   obtain ⟨_, _, _, b4, b5⟩ := strips_spec primes primes_2 q.den_pos
   intro d
   rcases (primes_pr p hp).sq (Nat.Coprime.coprime_dvd_left a4 (Nat.Coprime.coprime_dvd_right b4 q.reduced)) d with e | e
   · exact a5 p hp e
   · exact b5 p hp e
theorem sq_parts (c : Rat) : (c * c).num.natAbs = c.num.natAbs * c.num.natAbs ∧ (c * c).den = c.den * c.den := by
 have hc : Nat.Coprime (c.num * c.num).natAbs (c.den * c.den) := by
   rw [Int.natAbs_mul]; exact (c.reduced.mul_left c.reduced).mul_right (c.reduced.mul_left c.reduced)
 have e : c * c = ⟨c.num * c.num, c.den * c.den, Nat.ne_of_gt (Nat.mul_pos c.den_pos c.den_pos), hc⟩ := by
   rw [Rat.mk_eq_mkRat, ← Rat.mkRat_mul_mkRat, Rat.mkRat_self]
 rw [e]; exact ⟨Int.natAbs_mul _ _, rfl⟩
theorem nN_one {q : Rat} (h0 : 0 ≤ q) : nN q = 1 ↔ ∃ c : Rat, c * c = q := by
 constructor
 · intro h
   refine ⟨nC q, ?_⟩
   have := nC_sq h0
   rwa [h, cast1, Rat.mul_one] at this
 · rintro ⟨c, rfl⟩
   unfold nN
   rw [if_pos]
   rw [bothS_iff, (sq_parts c).1, (sq_parts c).2]
   exact ⟨⟨_, rfl⟩, ⟨_, rfl⟩⟩
theorem nC_nonneg (q : Rat) : 0 ≤ nC q := by
 have h := (le_nat_div (n := cN q) (x := 0) (cD_pos q)).2 (by rw [Nat.zero_mul]; exact Nat.zero_le _)
 exact h
end Go.Proofs.YtilggfeodhfjfaaGreatDoor.T
namespace Go.Proofs.YtilggfeodhfjfaaGreatDoor.T
open Go.Proofs.YtilggfeodhfjfaaGreatDoor
def cmpR (x y : Rat) : Int := if x < y then -1 else if y < x then 1 else 0
theorem cmpR_lt {x y : Rat} (h : x < y) : cmpR x y = -1 := if_pos h
theorem cmpR_gt {x y : Rat} (h : y < x) : cmpR x y = 1 := by unfold cmpR; rw [if_neg (Rat.not_lt.2 (Rat.le_of_lt h)), if_pos h]
theorem cmpR_eq (x : Rat) : cmpR x x = 0 := by unfold cmpR; rw [if_neg (by grind), if_neg (by grind)]
theorem tri (x y : Rat) : x < y ∨ x = y ∨ y < x := by grind
theorem cmpR_swap (x y : Rat) : cmpR y x = -cmpR x y := by
 rcases tri x y with h | rfl | h
 · rw [cmpR_lt h, cmpR_gt h]; rfl
 · rw [cmpR_eq]; rfl
 · rw [cmpR_lt h, cmpR_gt h]
theorem mk_lt {n n' : Int} {d d' : Nat} (hd : 0 < d) (hd' : 0 < d') : mkRat n d < mkRat n' d' ↔ n * d' < n' * d := by
 have p : (0 : Rat) < (d : Rat) := Rat.natCast_lt_natCast (a := 0).2 hd
 have p' : (0 : Rat) < (d' : Rat) := Rat.natCast_lt_natCast (a := 0).2 hd'
 have e : mkRat n d * d = n := by rw [Rat.mkRat_eq_div, Rat.div_mul_cancel (by grind)]
 have e' : mkRat n' d' * d' = n' := by rw [Rat.mkRat_eq_div, Rat.div_mul_cancel (by grind)]
 rw [← Rat.mul_lt_mul_right (Rat.mul_pos p p')]
 have a : mkRat n d * ((d : Rat) * d') = ((n * d' : Int) : Rat) := by rw [← Rat.mul_assoc, e, Rat.intCast_mul, Rat.intCast_natCast]
 have b : mkRat n' d' * ((d : Rat) * d') = ((n' * d : Int) : Rat) := by rw [Rat.mul_comm (d : Rat), ← Rat.mul_assoc, e', Rat.intCast_mul, Rat.intCast_natCast]
 rw [a, b, Rat.intCast_lt_intCast]
theorem cmp_mk {n n' : Int} {d d' : Nat} (hd : 0 < d) (hd' : 0 < d') : cmpZ (n * d') (n' * d) = cmpR (mkRat n d) (mkRat n' d') := by
 unfold cmpZ cmpR
 simp only [mk_lt hd hd', mk_lt hd' hd]
theorem cmpR_mul {x y k : Rat} (hk : 0 < k) : cmpR (x * k) (y * k) = cmpR x y := by
 rcases tri x y with h | rfl | h
 · rw [cmpR_lt h, cmpR_lt (Rat.mul_lt_mul_of_pos_right h hk)]
 · rw [cmpR_eq, cmpR_eq]
 · rw [cmpR_gt h, cmpR_gt (Rat.mul_lt_mul_of_pos_right h hk)]
theorem cmpR_neg (x y : Rat) : cmpR (-x) (-y) = -cmpR x y := by
 rcases tri x y with h | rfl | h
 · rw [cmpR_lt h, cmpR_gt (by grind)]; rfl
 · rw [cmpR_eq, cmpR_eq]; rfl
 · rw [cmpR_gt h, cmpR_lt (by grind)]
theorem sq_nonneg (a : Rat) : 0 ≤ a * a := by
 rcases tri a 0 with h | rfl | h
 · have := Rat.mul_pos (a := -a) (b := -a) (by grind) (by grind); grind
 · rw [Rat.zero_mul]; exact Rat.le_refl
 · exact Rat.le_of_lt (Rat.mul_pos h h)
theorem sg_pos {a : Rat} (h : 0 < a) : sg a = a * a := if_neg (by grind)
theorem sg_neg {a : Rat} (h : a < 0) : sg a = -(a * a) := if_pos h
theorem sg_zero : sg 0 = 0 := by unfold sg; rw [if_neg (by grind), Rat.zero_mul]
theorem sg_mul (a c : Rat) : sg (a * c) = sg a * sg c := by
 rcases tri a 0 with h | rfl | h
 · rcases tri c 0 with k | rfl | k
   · have := Rat.mul_pos (a := -a) (b := -c) (by grind) (by grind)
     rw [sg_neg h, sg_neg k, sg_pos (by grind)]; grind
   · rw [Rat.mul_zero, sg_zero, Rat.mul_zero]
   · have := Rat.mul_pos (a := -a) (b := c) (by grind) (by grind)
     rw [sg_neg h, sg_pos k, sg_neg (by grind)]; grind
 · rw [Rat.zero_mul, sg_zero, Rat.zero_mul]
 · rcases tri c 0 with k | rfl | k
   · have := Rat.mul_pos (a := a) (b := -c) (by grind) (by grind)
     rw [sg_pos h, sg_neg k, sg_neg (by grind)]; grind
   · rw [Rat.mul_zero, sg_zero, Rat.mul_zero]
   · rw [sg_pos h, sg_pos k, sg_pos (Rat.mul_pos h k)]; grind
theorem sg_lt {a b : Rat} (h : a < b) : sg a < sg b := by
 rcases tri a 0 with k | rfl | k
 · rcases tri b 0 with l | rfl | l
   · rw [sg_neg k, sg_neg l]
     have := Rat.mul_pos (a := b - a) (b := -(a + b)) (by grind) (by grind)
     grind
   · rw [sg_neg k, sg_zero]
     have := Rat.mul_pos (a := -a) (b := -a) (by grind) (by grind)
     grind
   · rw [sg_neg k, sg_pos l]
     have := Rat.mul_pos (a := -a) (b := -a) (by grind) (by grind)
     have := Rat.mul_pos l l
     grind
 · rw [sg_zero, sg_pos h]; exact Rat.mul_pos h h
 · rw [sg_pos k, sg_pos (by grind)]
   have := Rat.mul_pos (a := b - a) (b := a + b) (by grind) (by grind)
   grind
theorem cmpR_sg (a b : Rat) : cmpR (sg a) (sg b) = cmpR a b := by
 rcases tri a b with h | rfl | h
 · rw [cmpR_lt h, cmpR_lt (sg_lt h)]
 · rw [cmpR_eq, cmpR_eq]
 · rw [cmpR_gt h, cmpR_gt (sg_lt h)]
theorem cmpR_times (x y c : Rat) : cmpR (x * sg c) (y * sg c) = cmpR x y * cmpR c 0 := by
 rcases tri c 0 with h | rfl | h
 · have e : ∀ x : Rat, x * sg c = -(x * (c * c)) := fun x => by rw [sg_neg h]; grind
   rw [e, e, cmpR_neg, cmpR_mul (by have := Rat.mul_pos (a := -c) (b := -c) (by grind) (by grind); grind), cmpR_lt h]; omega
 · rw [sg_zero, Rat.mul_zero, Rat.mul_zero, cmpR_eq, Int.mul_zero]
 · rw [sg_pos h, cmpR_mul (Rat.mul_pos h h), cmpR_gt h, Int.mul_one]
end Go.Proofs.YtilggfeodhfjfaaGreatDoor.T
namespace Go.Proofs.YtilggfeodhfjfaaGreatDoor.T
open Go.Proofs.YtilggfeodhfjfaaGreatDoor
def IsSq (z : Rat) : Prop := ∃ c : Rat, c * c = z
theorem bothS_sq {z : Rat} (h : IsSq z) : bothS z := by
 obtain ⟨c, rfl⟩ := h
 rw [bothS_iff, (sq_parts c).1, (sq_parts c).2]; exact ⟨⟨_, rfl⟩, ⟨_, rfl⟩⟩
theorem rootR_sq {z : Rat} (h0 : 0 ≤ z) (h : bothS z) : rootR z * rootR z = z := by
 have := nC_sq h0
 rwa [(nC_both h).1, (nC_both h).2, cast1, Rat.mul_one] at this
theorem rootR_nonneg {z : Rat} (h : bothS z) : 0 ≤ rootR z := (nC_both h).1 ▸ nC_nonneg z
theorem bothS_is {z : Rat} (h0 : 0 ≤ z) : bothS z ↔ IsSq z := ⟨fun h => ⟨_, rootR_sq h0 h⟩, bothS_sq⟩
theorem sq_inj {x y : Rat} (hx : 0 ≤ x) (hy : 0 ≤ y) (h : x * x = y * y) : x = y := by
 have e : sg x = sg y := by
   rcases tri x 0 with k | rfl | k
   · exact absurd k (by grind)
   · rw [Rat.zero_mul] at h
     rcases tri y 0 with l | rfl | l
     · exact absurd l (by grind)
     · rfl
     · have := Rat.mul_pos l l; grind
   · have := Rat.mul_pos k k
     rcases tri y 0 with l | rfl | l
     · exact absurd l (by grind)
     · rw [Rat.zero_mul] at h; grind
     · rw [sg_pos k, sg_pos l, h]
 rcases tri x y with k | k | k
 · have := sg_lt k; grind
 · exact k
 · have := sg_lt k; grind
theorem isSq_times {z r : Rat} (hr : r ≠ 0) : IsSq (z * (r * r)) ↔ IsSq z := by
 constructor
 · rintro ⟨c, h⟩
   refine ⟨c / r, ?_⟩
   have : c / r * r = c := Rat.div_mul_cancel hr
   have k : r * r ≠ 0 := by
     intro q; rcases Rat.mul_eq_zero.1 q with q | q <;> exact hr q
   have e : (c / r) * (c / r) * (r * r) = z * (r * r) := by grind
   have e2 := congrArg (· / (r * r)) e
   simp only [Rat.mul_div_cancel k] at e2
   exact e2
 · rintro ⟨c, rfl⟩; exact ⟨c * r, by grind⟩
theorem isSq_inv {x y : Rat} (h : x * y = 1) : IsSq x → IsSq y := by
 rintro ⟨c, rfl⟩
 refine ⟨c * y, ?_⟩
 have : c * y * (c * y) = (c * c * y) * y := by grind
 rw [this, h, Rat.one_mul]
end Go.Proofs.YtilggfeodhfjfaaGreatDoor.T
namespace Go.Proofs.YtilggfeodhfjfaaGreatDoor
open Go.RowKit
theorem Of_q (n d : Int) (w : World) (hn : I64 n) (hd : I64 d) (h0 : d ≠ 0) (ht : Tab w) (ht2 : Tab64 w) :
   Calls Tryz.prog 33 #[.int .i64 n, .int .i64 d] w fun e W' => e = .returned (.tuple #[.string (strQ (Rat.divInt n d)), .int .i64 0]) ∧ Below w.heap.size w W' := by
 have c1 := fun W (h : Below w.heap.size w W) => lowestM_any n d W hn.1 hn.2 hd.1 hd.2 h0 (ht.next h) (TabQ_next ht2 h)
 have c2 := fun W (h : Below w.heap.size w W) => Itoa_any n W hn.1 hn.2 (ht.next h)
 have c3 := fun W (h : Below w.heap.size w W) => Itoa_any d W hd.1 hd.2 (ht.next h)
 have c4 : ∀ W, Below w.heap.size w W → Calls Tryz.prog 73 #[.agg #[.string (strB n), .int .i64 0, .string (strB d), .int .i64 0]] W fun e W' => e = .returned (.tuple #[.string (strQ (Rat.divInt n d)), .int .i64 0]) ∧ Below W.heap.size W W' := fun W h =>
   lowestL_any (some n) (some d) W (some_wf hn.short) (some_wf hd.short) (fun e => h0 (Option.some.inj e)) (ht.next h)
 have n0 : (d == 0) = false := by rw [beq_eq_false_iff_ne]; exact h0
 have hR : lowRE n d = 0 → lowR n d = strQ (Rat.divInt n d) := fun h => lowR_ne (lowRE_ne h).1 (lowRE_ne h).2
 by_cases he : lowRE n d = 0
 · rw [he, hR he] at c1
   have C := Lib.hid c1
   clear c1 c2 c3 c4 ht ht2 hn hd h0 hR he
   generalize strQ (Rat.divInt n d) = r at *
   go_enter Tryz.func33, Tryz.ntmps33
   go_wp2_with fail
   refine (C.out _ (Below.refl _ _)).mono ?_
   rintro e w1 ⟨rfl, b⟩
   have H1 := Lib.hid b; clear b
   go_wp2
   go_ret2
   exact ⟨rfl, H1.out⟩
 · obtain ⟨m1, m2⟩ := bool_ne he
   have C := Lib.hid (And.intro c1 (And.intro c2 (And.intro c3 c4)))
   clear c1 c2 c3 c4 ht ht2 hn hd h0 hR he
   generalize lowRE n d = e1 at *
   generalize lowR n d = r1 at *
   generalize strQ (Rat.divInt n d) = r at *
   generalize strB n = sn at *
   generalize strB d = sd at *
   go_enter Tryz.func33, Tryz.ntmps33
   go_wp2_with fail
   refine (C.out.1 _ (Below.refl _ _)).mono ?_
   rintro e w1 ⟨rfl, b⟩
   have H1 := Lib.hid b; clear b
   go_wp2_with fail
   refine (C.out.2.1 _ H1.out).mono ?_
   rintro e w2 ⟨rfl, b⟩
   have H2 := Lib.hid (H1.out.trans (b.mono H1.out.size)); clear b H1
   go_wp2_with fail
   refine (C.out.2.2.1 _ H2.out).mono ?_
   rintro e w3 ⟨rfl, b⟩
   have H3 := Lib.hid (H2.out.trans (b.mono H2.out.size)); clear b H2
   go_wp2_with fail
   refine (C.out.2.2.2 _ H3.out).mono ?_
   rintro e w4 ⟨rfl, b⟩
   have H4 := Lib.hid (H3.out.trans (b.mono H3.out.size)); clear b H3
   go_wp2
   go_ret2
   exact ⟨rfl, H4.out⟩
end Go.Proofs.YtilggfeodhfjfaaGreatDoor
namespace Go.Proofs.YtilggfeodhfjfaaGreatDoor.T
open Go.Proofs.YtilggfeodhfjfaaGreatDoor Go.RowKit
theorem Sl.new3 (W : World) (s u v : ByteArray) (t : TypeId) : Sl (W.alloc (.cells #[.string s, .string u, .string v] t)) W.heap.size [s, u, v] :=
 ⟨by simp, fun j hj => by
   have h2 : j = 0 ∨ j = 1 ∨ j = 2 := by simp at hj; omega
   rcases h2 with rfl | rfl | rfl
   · exact (Blk.new W #[.string s, .string u, .string v] t).cell 0 _ rfl
   · exact (Blk.new W #[.string s, .string u, .string v] t).cell 1 _ rfl
   · exact (Blk.new W #[.string s, .string u, .string v] t).cell 2 _ rfl⟩
end Go.Proofs.YtilggfeodhfjfaaGreatDoor.T
