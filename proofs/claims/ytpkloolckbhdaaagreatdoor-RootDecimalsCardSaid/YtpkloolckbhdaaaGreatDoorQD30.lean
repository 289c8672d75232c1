/- Parts of the proof of the text YtpkloolckbhdaaaGreatDoorQD31. -/
import Derived.Test.YtpkloolckbhdaaaGreatDoorQD1
import Derived.Test.YtpkloolckbhdaaaGreatDoorQD29
set_option linter.all false
set_option maxRecDepth 100000
set_option maxHeartbeats 8000000
namespace Go.Proofs.YtpkloolckbhdaaaGreatDoor.T
open Go.Proofs.YtpkloolckbhdaaaGreatDoor Go Go.RowKit
theorem tenTo_lt {a b : Nat} (h : a < b) : tenTo a < tenTo b := Nat.pow_lt_pow_right (by decide) h
theorem uT_bd {n k : Nat} (h : n < k) : Bq k (uT n) := ⟨Nat.lt_of_lt_of_le (by decide : 1 < 10) (show tenTo 1 ≤ tenTo k from tenTo_mono (by omega)), tenTo_lt h⟩
theorem rep_size (n : Nat) : (⟨(List.replicate n 48).toArray⟩ : ByteArray).size = n := by show (List.replicate n (48 : UInt8)).toArray.size = n; simp
theorem unit_number (n : Nat) (w : World) (h : n ≤ 100) :
   Calls Tryz.prog 41 #[.agg #[.string ⟨#[49]⟩, .string ((⟨#[49]⟩ : ByteArray) ++ ⟨(List.replicate n 48).toArray⟩)]] w fun e W' => e = .returned (.string (strQ (uT n))) ∧ Below w.heap.size w W' := by
 have c := onumber 1 (tenTo n : Nat) w (by have := tenTo_pos n; omega) (by rw [show Int.natAbs 1 = 1 from rfl]; exact Nat.coprime_one_left _) (small_lim (by decide)) (nat_short.2 (tenTo_lt (by omega)))
 have e1 : Rat.divInt 1 (tenTo n : Nat) = uT n := (uT_mk n).symm
 rw [e1, show strB 1 = ⟨#[49]⟩ from str_of 1 [49] itoa_one, ← strB_ten] at c
 exact c
theorem Between_core (s u nu du lo up ml mu rp : ByteArray) (n : Nat) (w : World) (hn : n ≤ 100) (hrp : rp.size = n)
   (o1 : ∀ (b : Nat) W, Sl W b [s] → Below w.heap.size w W → Calls Tryz.prog 38 #[.slice (some ⟨b, 0, none⟩) 1 1] W fun e W' => e = .returned (.int .i64 0) ∧ Below W.heap.size W W')
   (o2 : ∀ (b : Nat) W, Sl W b [s] → Below w.heap.size w W → Calls Tryz.prog 39 #[.slice (some ⟨b, 0, none⟩) 1 1] W fun e W' => e = .returned (.int .i64 0) ∧ Below W.heap.size W W')
   (o3 : ∀ W, Below w.heap.size w W → Calls Tryz.prog 40 #[.string ⟨#[48]⟩, .int .i64 n] W fun e W' => e = .returned (.string rp) ∧ Below W.heap.size W W')
   (o4 : ∀ W, Below w.heap.size w W → Calls Tryz.prog 41 #[.agg #[.string ⟨#[49]⟩, .string ((⟨#[49]⟩ : ByteArray) ++ rp)]] W fun e W' => e = .returned (.string u) ∧ Below W.heap.size W W')
   (o5 : ∀ W, Below w.heap.size w W → Calls Tryz.prog 42 #[.string s, .string u] W fun e W' => e = .returned (.agg #[.string nu, .string du]) ∧ Below W.heap.size W W')
   (o6 : ∀ W, Below w.heap.size w W → Calls Tryz.prog 43 #[.agg #[.string nu, .string du]] W fun e W' => e = .returned (.string lo) ∧ Below W.heap.size W W')
   (o7 : ∀ W, Below w.heap.size w W → Calls Tryz.prog 44 #[.agg #[.string nu, .string du]] W fun e W' => e = .returned (.string up) ∧ Below W.heap.size W W')
   (o8 : ∀ W, Below w.heap.size w W → Calls Tryz.prog 45 #[.string lo, .string u] W fun e W' => e = .returned (.string ml) ∧ Below W.heap.size W W')
   (o9 : ∀ W, Below w.heap.size w W → Calls Tryz.prog 45 #[.string up, .string u] W fun e W' => e = .returned (.string mu) ∧ Below W.heap.size W W') :
   Calls Tryz.prog 13 #[.string s, .int .i64 n] w fun e W' => e = .returned (.tuple #[.agg #[.string ml, .string mu], .int .i64 0]) ∧ Below w.heap.size w W' := by
 have O := Lib.hid (And.intro o1 (And.intro o2 (And.intro o3 (And.intro o4 (And.intro o5 (And.intro o6 (And.intro o7 (And.intro o8 (And.intro o9 True.intro))))))))); clear o1 o2 o3 o4 o5 o6 o7 o8 o9
 have n1 : ¬ (n : Int) < 0 := by omega
 have n2 : ¬ (100 : Int) < (n : Int) := by omega
 have n3 : ¬ (9223372036854775807 : Int) < 1 + (rp.size : Int) := by omega
 clear hn
 go_enter Tryz.func13, Tryz.ntmps13
 go_wp2_with fail
 have hbx : Bxs w w.heap.size [[.string ⟨#[]⟩, .string ⟨#[]⟩], [.string s]] ((w.alloc (.cells #[.string ⟨#[]⟩, .string ⟨#[]⟩] 27)).alloc (.cells #[.string s] 22)) := ((Bxs.nil w w (Below.refl _ _)).push rfl [.string ⟨#[]⟩, .string ⟨#[]⟩] 27).push (by simp) [.string s] 22
 have hbk : Blk ((w.alloc (.cells #[.string ⟨#[]⟩, .string ⟨#[]⟩] 27)).alloc (.cells #[.string s] 22)) w.heap.size #[.string ⟨#[]⟩, .string ⟨#[]⟩] := (Blk.new w #[.string ⟨#[]⟩, .string ⟨#[]⟩] 27).alloc _
 generalize ((w.alloc (.cells #[.string ⟨#[]⟩, .string ⟨#[]⟩] 27)).alloc (.cells #[.string s] 22)) = W0 at *
 generalize hk : w.heap.size = k at *
 have hS : Sl W0 (k + 1) [s] := ⟨by have := hbx.size; simp at this; omega, fun j hj => by
   obtain rfl : j = 0 := by simp at hj; omega
   exact hbx.cells 1 _ rfl 0 _ rfl⟩
 have hbl := hbx.below
 rw [hk] at hbl
 have HB := Lib.hid (And.intro hbk hbl)
 have HK := Lib.hid hk
 clear hbx hbk hbl hk
 refine (O.out.1 _ _ hS HB.out.2).mono ?_
 rintro e v1 ⟨rfl, b⟩
 have HN := Lib.hid (And.intro (HB.out.1.next b) (HB.out.2.trans (b.mono (by have h1 := HB.out.2.size; have h2 := HK.out; omega)))); clear HB b; have HB := HN; clear HN
 clear hS
 go_wp2_with fail
 have hS := Sl.new1 v1 s 22
 have HN := Lib.hid (And.intro (HB.out.1.alloc (.cells #[.string s] 22)) (HB.out.2.alloc (by have h1 := HB.out.2.size; have h2 := HK.out; omega) (.cells #[.string s] 22)))
 clear HB; have HB := HN; clear HN
 generalize v1.alloc (.cells #[.string s] 22) = v2 at *
 generalize v1.heap.size = k1 at hS ⊢
 refine (O.out.2.1 _ _ hS HB.out.2).mono ?_
 rintro e v3 ⟨rfl, b⟩
 have HN := Lib.hid (And.intro (HB.out.1.next b) (HB.out.2.trans (b.mono (by have h1 := HB.out.2.size; have h2 := HK.out; omega)))); clear HB b; have HB := HN; clear HN
 clear hS
 go_wp2_with fail
 have hS := Blk.new v3 #[.int .i64 0, .int .i64 0] 28
 have HN := Lib.hid (And.intro (HB.out.1.alloc (.cells #[.int .i64 0, .int .i64 0] 28)) (HB.out.2.alloc (by have h1 := HB.out.2.size; have h2 := HK.out; omega) (.cells #[.int .i64 0, .int .i64 0] 28)))
 clear HB; have HB := HN; clear HN
 generalize v3.alloc (.cells #[.int .i64 0, .int .i64 0] 28) = v4 at *
 generalize v3.heap.size = k3 at hS ⊢
 refine (cmpOr2 _ 0 0 v4 hS).mono ?_
 rintro e v5 ⟨rfl, b⟩
 rw [if_pos rfl]
 have HN := Lib.hid (And.intro (HB.out.1.next b) (HB.out.2.trans (b.mono (by have h1 := HB.out.2.size; have h2 := HK.out; omega)))); clear HB b; have HB := HN; clear HN
 clear hS
 go_wp2_with fail
 refine (O.out.2.2.1 _ HB.out.2).mono ?_
 rintro e v ⟨rfl, b⟩
 have HN := Lib.hid (And.intro (HB.out.1.next b) (HB.out.2.trans (b.mono (by have h1 := HB.out.2.size; have h2 := HK.out; omega)))); clear HB b; have HB := HN; clear HN
 go_wp2_with fail
 refine (O.out.2.2.2.1 _ HB.out.2).mono ?_
 rintro e v ⟨rfl, b⟩
 have HN := Lib.hid (And.intro (HB.out.1.next b) (HB.out.2.trans (b.mono (by have h1 := HB.out.2.size; have h2 := HK.out; omega)))); clear HB b; have HB := HN; clear HN
 go_wp2_with fail
 refine (O.out.2.2.2.2.1 _ HB.out.2).mono ?_
 rintro e v ⟨rfl, b⟩
 have HN := Lib.hid (And.intro (HB.out.1.next b) (HB.out.2.trans (b.mono (by have h1 := HB.out.2.size; have h2 := HK.out; omega)))); clear HB b; have HB := HN; clear HN
 go_wp2
 have hlt := HB.out.1.lt
 have hle := HB.out.2.size
 have HN := Lib.hid (And.intro (HB.out.1.alloc (.cells #[.string nu, .string du] 75)) (And.intro (Blk.new v #[.string nu, .string du] 75) (HB.out.2.alloc (by have h1 := HB.out.2.size; have h2 := HK.out; omega) (.cells #[.string nu, .string du] 75))))
 clear HB
 have HB := HN; clear HN
 generalize v.alloc (.cells #[.string nu, .string du] 75) = W3 at *
 generalize v.heap.size = m at *
 have HD := Lib.hid (And.intro HB.out.1.drew (And.intro HB.out.2.1.drew HB.out.2.2.drew)); clear HB; have HB := HD; clear HD
 have e00 := (show World.cell? _ ⟨k, 0, none⟩ = some (.string ⟨#[]⟩) from HB.out.1.cell 0 _ rfl); have f00 := (show World.frozen? _ ⟨k, 0, none⟩ = false from HB.out.1.free 0); have e01 := (show World.cell? _ ⟨k, 1, none⟩ = some (.string ⟨#[]⟩) from HB.out.1.cell 1 _ rfl); have f01 := (show World.frozen? _ ⟨k, 1, none⟩ = false from HB.out.1.free 1); have e10 := (show World.cell? _ ⟨m, 0, none⟩ = some (.string nu) from HB.out.2.1.cell 0 _ rfl); have e11 := (show World.cell? _ ⟨m, 1, none⟩ = some (.string du) from HB.out.2.1.cell 1 _ rfl)
 go_region_held3 (fun w' => w'.cell? ⟨m, 0, none⟩ = some (.string nu) ∧ w'.cell? ⟨m, 1, none⟩ = some (.string du)) (first | exact ⟨e10, e11⟩ | (go_keep; done) | ((try dsimp only); (refine ⟨?_, ?_⟩ <;> (exact far2 (by omega) (by assumption)))))
   (first | (go_at_call 43; refine (O.out.2.2.2.2.2.1 _ (HB.out.2.2)).mono ?_; rintro e w4 ⟨rfl, b⟩; have HN := Lib.hid (And.intro (HB.out.1.next b) (And.intro (HB.out.2.1.next b) (HB.out.2.2.trans (b.mono (by have h1 := HB.out.2.2.size; have h2 := HK.out; omega))))); clear HB b; have HB := HN; clear HN; have e00 := (show World.cell? _ ⟨k, 0, none⟩ = some (.string ⟨#[]⟩) from HB.out.1.cell 0 _ rfl); have f00 := (show World.frozen? _ ⟨k, 0, none⟩ = false from HB.out.1.free 0); have e01 := (show World.cell? _ ⟨k, 1, none⟩ = some (.string ⟨#[]⟩) from HB.out.1.cell 1 _ rfl); have f01 := (show World.frozen? _ ⟨k, 1, none⟩ = false from HB.out.1.free 1); have e10 := (show World.cell? _ ⟨m, 0, none⟩ = some (.string nu) from HB.out.2.1.cell 0 _ rfl); have e11 := (show World.cell? _ ⟨m, 1, none⟩ = some (.string du) from HB.out.2.1.cell 1 _ rfl)) | (go_at_call 44; refine (O.out.2.2.2.2.2.2.1 _ (HB.out.2.2)).mono ?_; rintro e w4 ⟨rfl, b⟩; have HN := Lib.hid (And.intro (HB.out.1.next b) (And.intro (HB.out.2.1.next b) (HB.out.2.2.trans (b.mono (by have h1 := HB.out.2.2.size; have h2 := HK.out; omega))))); clear HB b; have HB := HN; clear HN; have e00 := (show World.cell? _ ⟨k, 0, none⟩ = some (.string ⟨#[]⟩) from HB.out.1.cell 0 _ rfl); have f00 := (show World.frozen? _ ⟨k, 0, none⟩ = false from HB.out.1.free 0); have e01 := (show World.cell? _ ⟨k, 1, none⟩ = some (.string ⟨#[]⟩) from HB.out.1.cell 1 _ rfl); have f01 := (show World.frozen? _ ⟨k, 1, none⟩ = false from HB.out.1.free 1); have e10 := (show World.cell? _ ⟨m, 0, none⟩ = some (.string nu) from HB.out.2.1.cell 0 _ rfl); have e11 := (show World.cell? _ ⟨m, 1, none⟩ = some (.string du) from HB.out.2.1.cell 1 _ rfl)))
 all_goals
   have e00 := (show World.cell? _ ⟨k, 0, none⟩ = some (.string ⟨#[]⟩) from HB.out.1.cell 0 _ rfl); have f00 := (show World.frozen? _ ⟨k, 0, none⟩ = false from HB.out.1.free 0); have e01 := (show World.cell? _ ⟨k, 1, none⟩ = some (.string ⟨#[]⟩) from HB.out.1.cell 1 _ rfl); have f01 := (show World.frozen? _ ⟨k, 1, none⟩ = false from HB.out.1.free 1); have e10 := (show World.cell? _ ⟨m, 0, none⟩ = some (.string nu) from HB.out.2.1.cell 0 _ rfl); have e11 := (show World.cell? _ ⟨m, 1, none⟩ = some (.string du) from HB.out.2.1.cell 1 _ rfl)
   go_wp2_with fail
   refine (O.out.2.2.2.2.2.2.2.1 _ HB.out.2.2).mono ?_
   rintro e w5 ⟨rfl, b⟩
   have HN := Lib.hid (And.intro (HB.out.1.next b) (And.intro (HB.out.2.1.next b) (HB.out.2.2.trans (b.mono (by have h1 := HB.out.2.2.size; have h2 := HK.out; omega))))); clear HB b; have HB := HN; clear HN; have e00 := (show World.cell? _ ⟨k, 0, none⟩ = some (.string ⟨#[]⟩) from HB.out.1.cell 0 _ rfl); have f00 := (show World.frozen? _ ⟨k, 0, none⟩ = false from HB.out.1.free 0); have e01 := (show World.cell? _ ⟨k, 1, none⟩ = some (.string ⟨#[]⟩) from HB.out.1.cell 1 _ rfl); have f01 := (show World.frozen? _ ⟨k, 1, none⟩ = false from HB.out.1.free 1); have e10 := (show World.cell? _ ⟨m, 0, none⟩ = some (.string nu) from HB.out.2.1.cell 0 _ rfl); have e11 := (show World.cell? _ ⟨m, 1, none⟩ = some (.string du) from HB.out.2.1.cell 1 _ rfl)
   go_wp2_with fail
   refine (O.out.2.2.2.2.2.2.2.2.1 _ HB.out.2.2).mono ?_
   rintro e w6 ⟨rfl, b⟩
   have HN := Lib.hid (And.intro (HB.out.1.next b) (And.intro (HB.out.2.1.next b) (HB.out.2.2.trans (b.mono (by have h1 := HB.out.2.2.size; have h2 := HK.out; omega))))); clear HB b; have HB := HN; clear HN; have e00 := (show World.cell? _ ⟨k, 0, none⟩ = some (.string ⟨#[]⟩) from HB.out.1.cell 0 _ rfl); have f00 := (show World.frozen? _ ⟨k, 0, none⟩ = false from HB.out.1.free 0); have e01 := (show World.cell? _ ⟨k, 1, none⟩ = some (.string ⟨#[]⟩) from HB.out.1.cell 1 _ rfl); have f01 := (show World.frozen? _ ⟨k, 1, none⟩ = false from HB.out.1.free 1); have e10 := (show World.cell? _ ⟨m, 0, none⟩ = some (.string nu) from HB.out.2.1.cell 0 _ rfl); have e11 := (show World.cell? _ ⟨m, 1, none⟩ = some (.string du) from HB.out.2.1.cell 1 _ rfl)
   obtain ⟨g0, g1⟩ := twoB e00 e01 (.string ml) (.string mu)
   go_wp2
   refine bodyPost_ret (v := .tuple #[.agg #[.string ml, .string mu], .int .i64 0]) (by simp [results, Tryz.results13, go_sem, g0, g1]) rfl ?_
   refine ⟨rfl, ?_⟩
   have hbl := below_put2 (l := k) HB.out.2.2 (by have := HK.out; omega) (.string ml) (.string mu)
   rw [← HK.out] at hbl
   rw [← HK.out]
   exact hbl
theorem hi_bd {q : Rat} {n j k : Nat} (hq : Bq j q) (hu : Bq k (uT n)) : loN q n < tenTo (j + k + k) ∧ hiN q n < tenTo (j + k + k + 1) := by
 have a : loN q n < tenTo (j + k + k) := Nat.lt_of_le_of_lt rootN_pos_le (Nat.lt_of_le_of_lt (Nat.div_le_self _ _) (uN_bd hq hu))
 refine ⟨a, ?_⟩
 have := tenTo_succ (j + k + k)
 have := tenTo_pos (j + k + k)
 rcases hi_lo q n with ⟨e, _⟩ | ⟨e, _⟩ <;> omega
theorem Between_k (q : Rat) (n j k : Nat) (w : World) (h0 : 0 ≤ q) (hn : n ≤ 100) (hq : Bq j q) (hk : n < k) (hj : j ≤ 90) (hb : j + k + k + 1 + k ≤ 300) (ht : Tab w) (ht2 : Tab64 w) :
   Calls Tryz.prog 13 #[.string (strQ q), .int .i64 n] w fun e W' => e = .returned (.tuple #[.agg #[.string (strQ (loT q n)), .string (strQ (hiT q n))], .int .i64 0]) ∧ Below w.heap.size w W' := by
 have h9 := hq.up hj
 have hu := uT_bd hk
 have u0 := uT_pos n
 have hd := uD_pos q u0
 obtain ⟨b1, b2⟩ := hi_bd hq hu
 have o2 := fun (b : Nat) W (hx : Sl W b [strQ q]) (_ : Below w.heap.size w W) => croots_any b [strQ q] W (by simp) hx
 rw [nn1 h0] at o2
 exact Between_core (strQ q) (strQ (uT n)) (strB (uN q (uT n) : Nat)) (strB (uD q (uT n) : Nat)) (strB (loN q n : Nat)) (strB (hiN q n : Nat)) (strQ (loT q n)) (strQ (hiT q n)) ⟨(List.replicate n 48).toArray⟩ n w hn (rep_size n)
   (fun b W hx h => check_ok1 b q W h9 hx (ht.next h) (TabQ_next ht2 h)) o2
   (fun W _ => rep0 n W (by omega)) (fun W _ => unit_number n W hn)
   (fun W h => oinUnits q (uT n) j k W h0 u0 hq hu (by omega) (ht.next h))
   (fun W h => orootDown _ _ W (ten_lim (by omega) (uN_bd hq hu)) (ten_lim (by omega) (uD_bd hq hu)) hd (ht.next h))
   (fun W h => orootUp _ _ W (ten_lim (by omega) (uN_bd hq hu)) (ten_lim (by omega) (uD_bd hq hu)) hd (ht.next h))
   (fun W h => omultiple (loN q n) (uT n) (j + k + k) k W b1 (by omega) hu (by omega) (ht.next h) (TabQ_next ht2 h))
   (fun W h => omultiple (hiN q n) (uT n) (j + k + k + 1) k W b2 (by omega) hu (by omega) (ht.next h) (TabQ_next ht2 h))
end Go.Proofs.YtpkloolckbhdaaaGreatDoor.T
