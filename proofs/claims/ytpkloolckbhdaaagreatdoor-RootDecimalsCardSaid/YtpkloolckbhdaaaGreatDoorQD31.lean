/- Parts of the proof of the text YtpkloolckbhdaaaGreatDoorQD31. -/
import Derived.Test.YtpkloolckbhdaaaGreatDoorQD1
import Derived.Test.YtpkloolckbhdaaaGreatDoorQD29
import Derived.Test.YtpkloolckbhdaaaGreatDoorQD30
set_option linter.all false
set_option maxRecDepth 100000
set_option maxHeartbeats 8000000
namespace Go.Proofs.YtpkloolckbhdaaaGreatDoor.T
open Go.Proofs.YtpkloolckbhdaaaGreatDoor Go Go.RowKit
theorem pre1d {a : ByteArray} (h : [a].all okS = true) : okS a = true := by simpa using h
theorem deci_rem (p : Nat) : Int.tmod (p : Int) 31 = ((p % 31 : Nat) : Int) := by rw [Int.tmod_eq_emod_of_nonneg (by omega)]; omega
theorem strQ_ten : strQ 10 = ⟨#[49, 48]⟩ := by
 rw [show (10 : Rat) = ((10 : Nat) : Rat) from rfl, strQ_nat]
 exact str_of 10 [49, 48] (by decide +kernel)
theorem bq_ten : Bq 2 (10 : Rat) := ⟨by decide +kernel, by decide +kernel⟩
theorem nz48d {u : Rat} (h : u ≠ 0) : ((strQ u).toList == [48]) = false := by
 rw [Bool.eq_false_iff]; intro k
 have h2 := (is0_iff _).1 k
 rw [← strQ_zero] at h2
 exact h (strQ_inj h2)
theorem str_ne {x y : Rat} (h : x ≠ y) : ((strQ x).toList == (strQ y).toList) = false := by
 rw [Bool.eq_false_iff]; intro k
 have h2 : (strQ x).toList = (strQ y).toList := by simpa using k
 refine h (strQ_inj ?_)
 rw [ByteArray.toList_eq, ByteArray.toList_eq] at h2
 exact bytes_ext h2
theorem lohi_bd {q : Rat} {n : Nat} (hq : Bq 20 q) (hn : n < 32) : Bq 116 (loT q n) ∧ Bq 117 (hiT q n) := by
 have hu := uT_bd hn
 obtain ⟨a, b⟩ := hi_bd hq hu
 exact ⟨(qmul_ok (nat_Bq (by decide) a) hu (by decide)).2.2, (qmul_ok (nat_Bq (by decide) b) hu (by decide)).2.2⟩
theorem deci_main (q : Rat) (p : Nat) (w : World) (hp : p ≤ 255) (hq : Bq 20 q) (Q0 : 0 ≤ q) (hk : okS (strQ q) = true) (ht : Tab w) (ht2 : Tab64 w) (hS : Sm w) :
   Calls Tryz.prog 3 #[.string (strQ q), .int .u8 p] w fun e W' => e = .returned (.bool true) ∧ Below w.heap.size w W' := by
 have hrem := deci_rem p
 have n30 : p % 31 ≤ 30 := by omega
 generalize p % 31 = n at *
 have oA := fun W (h : Below w.heap.size w W) => awake3_any W (ht.next h) (TabQ_next ht2 h) (hS.next h)
 have oS := fun (b : Nat) W (hx : Sl W b [strQ q]) (h : Below w.heap.size w W) => sizes_any b [strQ q] W (by simp) (by intro s hs; rw [List.mem_singleton.1 hs]; exact (show Sq q from hq.lim (by decide)).size) hx (ht.next h) (TabQ_next ht2 h)
 rw [show [strQ q].all okS = true by simp [hk]] at oS
 clear hk
 have oq := fun W (h : Below w.heap.size w W) => lsign q 20 W hq (by decide) (ht.next h) (TabQ_next ht2 h)
 have y0 : ¬ cmpQ q 0 < 0 := fun k => by have := cmp_neg.1 k; grind
 have oB1 := fun W (h : Below w.heap.size w W) => Between_k q n 20 32 W Q0 (by omega) hq (by omega) (by decide) (by decide) (ht.next h) (TabQ_next ht2 h)
 have oB2 := fun W (h : Below w.heap.size w W) => Between_k q (n + 1) 20 32 W Q0 (by omega) hq (by omega) (by decide) (by decide) (ht.next h) (TabQ_next ht2 h)
 have oD := fun (j : Nat) (hj : j < n) W (h : Below w.heap.size w W) => show Calls Tryz.prog 14 #[.string (strQ (uT j)), .string ⟨#[49, 48]⟩] W fun e W' => e = .returned (.tuple #[.string (strQ (uT (j + 1))), .int .i64 0]) ∧ Below W.heap.size W W' from by
   have hu := uT_bd (n := j) (k := 40) (by omega)
   obtain ⟨d1, d2, _⟩ := qdiv_ok hu bq_ten (by decide) (by decide)
   have c := Div_q (uT j) 10 W (hu.lim (by decide)) (bq_ten.lim (by decide)) (by decide) (ht.next h) (TabQ_next ht2 h)
   rwa [d1, d2, uT_div, strQ_ten] at c
 have h1 := lohi_bd hq (n := n) (by omega)
 have h2 := lohi_bd hq (n := n + 1) (by omega)
 have h1b := sq_bd h1.1 h1.1 (by decide)
 have h2b := sq_bd h1.2 h1.2 (by decide)
 have oT1 := fun (b : Nat) W (hx : Sl W b [strQ (loT q n), strQ (loT q n)]) (h : Below w.heap.size w W) => lt2 (loT q n) (loT q n) 116 W h1.1 h1.1 (by decide) (ht.next h) (TabQ_next ht2 h) b hx
 have oT2 := fun (b : Nat) W (hx : Sl W b [strQ (hiT q n), strQ (hiT q n)]) (h : Below w.heap.size w W) => lt2 (hiT q n) (hiT q n) 117 W h1.2 h1.2 (by decide) (ht.next h) (TabQ_next ht2 h) b hx
 have oC1 := fun W (h : Below w.heap.size w W) => Compare_q (loT q n * loT q n) q W (h1b.lim (by decide)) (hq.lim (by decide)) (ht.next h) (TabQ_next ht2 h)
 rw [(qcmp_ok h1b hq (by decide)).1, (qcmp_ok h1b hq (by decide)).2] at oC1
 have oC2 := fun W (h : Below w.heap.size w W) => Compare_q (hiT q n * hiT q n) q W (h2b.lim (by decide)) (hq.lim (by decide)) (ht.next h) (TabQ_next ht2 h)
 rw [(qcmp_ok h2b hq (by decide)).1, (qcmp_ok h2b hq (by decide)).2] at oC2
 have oC3 := fun W (h : Below w.heap.size w W) => Compare_q (loT q n) (loT q (n + 1)) W (h1.1.lim (by decide)) (h2.1.lim (by decide)) (ht.next h) (TabQ_next ht2 h)
 rw [(qcmp_ok h1.1 h2.1 (by decide)).1, (qcmp_ok h1.1 h2.1 (by decide)).2] at oC3
 have oC4 := fun W (h : Below w.heap.size w W) => Compare_q (hiT q (n + 1)) (hiT q n) W (h2.2.lim (by decide)) (h1.2.lim (by decide)) (ht.next h) (TabQ_next ht2 h)
 rw [(qcmp_ok h2.2 h1.2 (by decide)).1, (qcmp_ok h2.2 h1.2 (by decide)).2] at oC4
 obtain ⟨hc, l1, l2, l3, l4, -, -⟩ := deci_law Q0 n
 have y1 : ¬ 0 < cmpQ (loT q n * loT q n) q := Int.not_lt.2 (cmp_le.2 l1)
 have y2 : ¬ cmpQ (hiT q n * hiT q n) q < 0 := fun k => by
   rcases ratTri (hiT q n * hiT q n) q with t | t | t
   · grind
   · rw [t, cmpQ_eq] at k; omega
   · rw [cmpQ_gt t] at k; omega
 have y3 : ¬ 0 < cmpQ (loT q n) (loT q (n + 1)) := Int.not_lt.2 (cmp_le.2 l3)
 have y4 : ¬ 0 < cmpQ (hiT q (n + 1)) (hiT q n) := Int.not_lt.2 (cmp_le.2 l4)
 have hm3 := mx3
 have hm4 := mx4
 rcases hc with ⟨e1, e2⟩ | ⟨e1, e2⟩
 · rw [e2] at y1
   have oSub := fun W (h : Below w.heap.size w W) => Sub_q (hiT q n) (loT q n) W (h1.2.lim (by decide)) (h1.1.lim (by decide)) (ht.next h) (TabQ_next ht2 h)
   rw [(qsub_ok h1.2 h1.1 (by decide)).1, (qsub_ok h1.2 h1.1 (by decide)).2.1, e1] at oSub
   rw [strQ_zero] at oSub
   rw [e2] at oT1 oC1
   clear e1 e2 h1 h1b h2 h2b hq Q0 hS ht ht2 l1 l2 l3 l4
   have O := Lib.hid ((And.intro oS (And.intro oq (And.intro oB1 (And.intro oB2 (And.intro oD (And.intro oSub (And.intro oT1 (And.intro oC1 (And.intro oT2 (And.intro oC2 (And.intro oC3 (And.intro oC4 oA))))))))))))); clear oS oq oB1 oB2 oD oSub oT1 oC1 oT2 oC2 oC3 oC4 oA
   generalize cmpQ q 0 = c at *
   generalize cmpQ (loT q n) (loT q (n + 1)) = c3 at *
   generalize cmpQ (hiT q (n + 1)) (hiT q n) = c4 at *
   generalize cmpQ (hiT q n * hiT q n) q = c2 at *
   generalize cmpQ q q = c1 at *
   generalize strQ (hiT q n * hiT q n) = sh at *
   generalize strQ (loT q (n + 1)) = lo2 at *
   generalize strQ (hiT q (n + 1)) = hi2 at *
   generalize strQ (loT q n) = lo at *
   generalize strQ (hiT q n) = hi at *
   generalize strQ q = s at *
   obtain ⟨us, hus⟩ : ∃ us : Nat → ByteArray, us = fun j => strQ (uT j) := ⟨_, rfl⟩
   have U0 : Hid (us 0 = ⟨#[49]⟩) := Lib.hid (by rw [hus]; show strQ (uT 0) = _; rw [show uT 0 = 1 from rfl]; exact strQ_one)
   have eD : ∀ j, strQ (uT j) = us j := fun j => by rw [hus]
   simp only [eD] at *
   clear hus eD
   go_enter Tryz.func3, Tryz.ntmps3
   have B0 := Lib.hid (Below.refl w.heap.size w)
   go_wp2_with fail
   have hSl := Sl.new1 w s 22
   have BB := Lib.hid (B0.out.alloc B0.out.size (.cells #[.string s] 22))
   generalize w.alloc (.cells #[.string s] 22) = u0 at *
   generalize hk0 : w.heap.size = k0 at hSl
   refine (O.out.1 _ _ hSl BB.out).mono ?_
   rintro e v1 ⟨rfl, b⟩
   have B1 := Lib.hid (BB.out.trans (b.mono BB.out.size)); clear b BB hSl B0 hk0
   go_wp2_with fail
   refine (O.out.2.1 _ B1.out).mono ?_
   rintro e v2 ⟨rfl, b⟩
   have B2 := Lib.hid (B1.out.trans (b.mono B1.out.size)); clear b B1
   go_wp2_with fail
   refine (O.out.2.2.1 _ B2.out).mono ?_
   rintro e v3 ⟨rfl, b⟩
   have B3 := Lib.hid (B2.out.trans (b.mono B2.out.size)); clear b B2
   go_wp2_with fail
   have HB := Lib.hid (And.intro (Blk.new v3 #[.string lo, .string hi] 27) (B3.out.alloc B3.out.size (.cells #[.string lo, .string hi] 27)))
   clear B3
   generalize v3.alloc (.cells #[.string lo, .string hi] 27) = u3 at *
   generalize v3.heap.size = k6 at *
   refine (O.out.2.2.2.1 _ HB.out.2).mono ?_
   rintro e v4 ⟨rfl, b⟩
   have HN := Lib.hid (And.intro (HB.out.1.next b) (HB.out.2.trans (b.mono HB.out.2.size))); clear HB b; have HB := HN; clear HN
   go_wp2
   have HN := Lib.hid (And.intro (HB.out.1.alloc (.cells #[.string lo2, .string hi2] 27)) (And.intro (Blk.new v4 #[.string lo2, .string hi2] 27) (HB.out.2.alloc HB.out.2.size (.cells #[.string lo2, .string hi2] 27))))
   clear HB; have HB := HN; clear HN
   generalize v4.alloc (.cells #[.string lo2, .string hi2] 27) = u4 at *
   generalize v4.heap.size = k8 at *
   go_loopw [10, 45] (fun o i wr => ∃ j : Nat, i = .int .i64 j ∧ j ≤ n ∧ o = .string (us j) ∧ Hid (Blk wr k6 #[.string lo, .string hi] ∧ Blk wr k8 #[.string lo2, .string hi2] ∧ Below w.heap.size w wr)) (fun _ i _ => n - (intOf i).toNat)
   case atStart => exact ⟨0, rfl, by omega, by rw [U0.out], HB.out⟩
   case round =>
     clear HB
     obtain ⟨j, rfl, hj, rfl, HB⟩ := hrel
     by_cases hlt : j < n
     · go_wp2_with fail
       refine (O.out.2.2.2.2.1 j hlt _ HB.out.2.2).mono ?_
       rintro e w' ⟨rfl, b⟩
       have HN := Lib.hid (And.intro (HB.out.1.next b) (And.intro (HB.out.2.1.next b) (HB.out.2.2.trans (b.mono HB.out.2.2.size)))); clear HB b; have HB := HN; clear HN
       go_wp2
       go_roundw
       case rel => exact ⟨j + 1, by go_num, by omega, rfl, HB.out⟩
       case measure => simp [intOf]; omega
     · obtain rfl : j = n := by omega
       have ea0 := (show World.cell? _ ⟨k6, 0, none⟩ = some (.string lo) from HB.out.1.cell 0 _ rfl); have ea1 := (show World.cell? _ ⟨k6, 1, none⟩ = some (.string hi) from HB.out.1.cell 1 _ rfl); have eb0 := (show World.cell? _ ⟨k8, 0, none⟩ = some (.string lo2) from HB.out.2.1.cell 0 _ rfl); have eb1 := (show World.cell? _ ⟨k8, 1, none⟩ = some (.string hi2) from HB.out.2.1.cell 1 _ rfl)
       go_wp2_with fail
       refine (O.out.2.2.2.2.2.1 _ HB.out.2.2).mono ?_
       rintro e x1 ⟨rfl, b⟩
       have HN := Lib.hid (And.intro (HB.out.1.next b) (And.intro (HB.out.2.1.next b) (HB.out.2.2.trans (b.mono HB.out.2.2.size)))); clear HB b; have HB := HN; clear HN
       have ea0 := (show World.cell? _ ⟨k6, 0, none⟩ = some (.string lo) from HB.out.1.cell 0 _ rfl); have ea1 := (show World.cell? _ ⟨k6, 1, none⟩ = some (.string hi) from HB.out.1.cell 1 _ rfl); have eb0 := (show World.cell? _ ⟨k8, 0, none⟩ = some (.string lo2) from HB.out.2.1.cell 0 _ rfl); have eb1 := (show World.cell? _ ⟨k8, 1, none⟩ = some (.string hi2) from HB.out.2.1.cell 1 _ rfl)
       go_wp2_with fail
       have hSl := Sl.new2 x1 lo lo 22
       have HN := Lib.hid (And.intro (HB.out.1.alloc (.cells #[.string lo, .string lo] 22)) (And.intro (HB.out.2.1.alloc (.cells #[.string lo, .string lo] 22)) (HB.out.2.2.alloc HB.out.2.2.size (.cells #[.string lo, .string lo] 22))))
       clear HB; have HB := HN; clear HN
       generalize x1.alloc (.cells #[.string lo, .string lo] 22) = u2 at *
       generalize x1.heap.size = q2 at hSl ⊢
       refine (O.out.2.2.2.2.2.2.1 _ _ hSl HB.out.2.2).mono ?_
       rintro e x2 ⟨rfl, b⟩
       have HN := Lib.hid (And.intro (HB.out.1.next b) (And.intro (HB.out.2.1.next b) (HB.out.2.2.trans (b.mono HB.out.2.2.size)))); clear HB b; have HB := HN; clear HN
       clear hSl
       have ea0 := (show World.cell? _ ⟨k6, 0, none⟩ = some (.string lo) from HB.out.1.cell 0 _ rfl); have ea1 := (show World.cell? _ ⟨k6, 1, none⟩ = some (.string hi) from HB.out.1.cell 1 _ rfl); have eb0 := (show World.cell? _ ⟨k8, 0, none⟩ = some (.string lo2) from HB.out.2.1.cell 0 _ rfl); have eb1 := (show World.cell? _ ⟨k8, 1, none⟩ = some (.string hi2) from HB.out.2.1.cell 1 _ rfl)
       go_wp2_with fail
       refine (O.out.2.2.2.2.2.2.2.1 _ HB.out.2.2).mono ?_
       rintro e x3 ⟨rfl, b⟩
       have HN := Lib.hid (And.intro (HB.out.1.next b) (And.intro (HB.out.2.1.next b) (HB.out.2.2.trans (b.mono HB.out.2.2.size)))); clear HB b; have HB := HN; clear HN
       have ea0 := (show World.cell? _ ⟨k6, 0, none⟩ = some (.string lo) from HB.out.1.cell 0 _ rfl); have ea1 := (show World.cell? _ ⟨k6, 1, none⟩ = some (.string hi) from HB.out.1.cell 1 _ rfl); have eb0 := (show World.cell? _ ⟨k8, 0, none⟩ = some (.string lo2) from HB.out.2.1.cell 0 _ rfl); have eb1 := (show World.cell? _ ⟨k8, 1, none⟩ = some (.string hi2) from HB.out.2.1.cell 1 _ rfl)
       go_wp2_with fail
       have hSl := Sl.new2 x3 hi hi 22
       have HN := Lib.hid (And.intro (HB.out.1.alloc (.cells #[.string hi, .string hi] 22)) (And.intro (HB.out.2.1.alloc (.cells #[.string hi, .string hi] 22)) (HB.out.2.2.alloc HB.out.2.2.size (.cells #[.string hi, .string hi] 22))))
       clear HB; have HB := HN; clear HN
       generalize x3.alloc (.cells #[.string hi, .string hi] 22) = u4 at *
       generalize x3.heap.size = q4 at hSl ⊢
       refine (O.out.2.2.2.2.2.2.2.2.1 _ _ hSl HB.out.2.2).mono ?_
       rintro e x4 ⟨rfl, b⟩
       have HN := Lib.hid (And.intro (HB.out.1.next b) (And.intro (HB.out.2.1.next b) (HB.out.2.2.trans (b.mono HB.out.2.2.size)))); clear HB b; have HB := HN; clear HN
       clear hSl
       have ea0 := (show World.cell? _ ⟨k6, 0, none⟩ = some (.string lo) from HB.out.1.cell 0 _ rfl); have ea1 := (show World.cell? _ ⟨k6, 1, none⟩ = some (.string hi) from HB.out.1.cell 1 _ rfl); have eb0 := (show World.cell? _ ⟨k8, 0, none⟩ = some (.string lo2) from HB.out.2.1.cell 0 _ rfl); have eb1 := (show World.cell? _ ⟨k8, 1, none⟩ = some (.string hi2) from HB.out.2.1.cell 1 _ rfl)
       go_wp2_with fail
       refine (O.out.2.2.2.2.2.2.2.2.2.1 _ HB.out.2.2).mono ?_
       rintro e x5 ⟨rfl, b⟩
       have HN := Lib.hid (And.intro (HB.out.1.next b) (And.intro (HB.out.2.1.next b) (HB.out.2.2.trans (b.mono HB.out.2.2.size)))); clear HB b; have HB := HN; clear HN
       have ea0 := (show World.cell? _ ⟨k6, 0, none⟩ = some (.string lo) from HB.out.1.cell 0 _ rfl); have ea1 := (show World.cell? _ ⟨k6, 1, none⟩ = some (.string hi) from HB.out.1.cell 1 _ rfl); have eb0 := (show World.cell? _ ⟨k8, 0, none⟩ = some (.string lo2) from HB.out.2.1.cell 0 _ rfl); have eb1 := (show World.cell? _ ⟨k8, 1, none⟩ = some (.string hi2) from HB.out.2.1.cell 1 _ rfl)
       go_wp2_with fail
       refine (O.out.2.2.2.2.2.2.2.2.2.2.1 _ HB.out.2.2).mono ?_
       rintro e x6 ⟨rfl, b⟩
       have HN := Lib.hid (And.intro (HB.out.1.next b) (And.intro (HB.out.2.1.next b) (HB.out.2.2.trans (b.mono HB.out.2.2.size)))); clear HB b; have HB := HN; clear HN
       have ea0 := (show World.cell? _ ⟨k6, 0, none⟩ = some (.string lo) from HB.out.1.cell 0 _ rfl); have ea1 := (show World.cell? _ ⟨k6, 1, none⟩ = some (.string hi) from HB.out.1.cell 1 _ rfl); have eb0 := (show World.cell? _ ⟨k8, 0, none⟩ = some (.string lo2) from HB.out.2.1.cell 0 _ rfl); have eb1 := (show World.cell? _ ⟨k8, 1, none⟩ = some (.string hi2) from HB.out.2.1.cell 1 _ rfl)
       go_wp2_with fail
       refine (O.out.2.2.2.2.2.2.2.2.2.2.2.1 _ HB.out.2.2).mono ?_
       rintro e x7 ⟨rfl, b⟩
       have HN := Lib.hid (And.intro (HB.out.1.next b) (And.intro (HB.out.2.1.next b) (HB.out.2.2.trans (b.mono HB.out.2.2.size)))); clear HB b; have HB := HN; clear HN
       have ea0 := (show World.cell? _ ⟨k6, 0, none⟩ = some (.string lo) from HB.out.1.cell 0 _ rfl); have ea1 := (show World.cell? _ ⟨k6, 1, none⟩ = some (.string hi) from HB.out.1.cell 1 _ rfl); have eb0 := (show World.cell? _ ⟨k8, 0, none⟩ = some (.string lo2) from HB.out.2.1.cell 0 _ rfl); have eb1 := (show World.cell? _ ⟨k8, 1, none⟩ = some (.string hi2) from HB.out.2.1.cell 1 _ rfl)
       go_wp2_with fail
       have hSl := Sl.new2 x7 lo lo 22
       have HN := Lib.hid (And.intro (HB.out.1.alloc (.cells #[.string lo, .string lo] 22)) (And.intro (HB.out.2.1.alloc (.cells #[.string lo, .string lo] 22)) (HB.out.2.2.alloc HB.out.2.2.size (.cells #[.string lo, .string lo] 22))))
       clear HB; have HB := HN; clear HN
       generalize x7.alloc (.cells #[.string lo, .string lo] 22) = u8 at *
       generalize x7.heap.size = q8 at hSl ⊢
       refine (O.out.2.2.2.2.2.2.1 _ _ hSl HB.out.2.2).mono ?_
       rintro e x8 ⟨rfl, b⟩
       have HN := Lib.hid (And.intro (HB.out.1.next b) (And.intro (HB.out.2.1.next b) (HB.out.2.2.trans (b.mono HB.out.2.2.size)))); clear HB b; have HB := HN; clear HN
       clear hSl
       have ea0 := (show World.cell? _ ⟨k6, 0, none⟩ = some (.string lo) from HB.out.1.cell 0 _ rfl); have ea1 := (show World.cell? _ ⟨k6, 1, none⟩ = some (.string hi) from HB.out.1.cell 1 _ rfl); have eb0 := (show World.cell? _ ⟨k8, 0, none⟩ = some (.string lo2) from HB.out.2.1.cell 0 _ rfl); have eb1 := (show World.cell? _ ⟨k8, 1, none⟩ = some (.string hi2) from HB.out.2.1.cell 1 _ rfl)
       go_wp2_with fail
       refine (O.out.2.2.2.2.2.2.2.2.2.2.2.2 _ HB.out.2.2).mono ?_
       rintro e x9 ⟨rfl, b⟩
       have HN := Lib.hid (And.intro (HB.out.1.next b) (And.intro (HB.out.2.1.next b) (HB.out.2.2.trans (b.mono HB.out.2.2.size)))); clear HB b; have HB := HN; clear HN
       go_wp2
       go_ret
       exact ⟨rfl, HB.out.2.2⟩
 · skip
   have oSub := fun W (h : Below w.heap.size w W) => Sub_q (hiT q n) (loT q n) W (h1.2.lim (by decide)) (h1.1.lim (by decide)) (ht.next h) (TabQ_next ht2 h)
   rw [(qsub_ok h1.2 h1.1 (by decide)).1, (qsub_ok h1.2 h1.1 (by decide)).2.1, e1] at oSub
   have nz := nz48d (u := uT n) (by have := uT_pos n; grind)
   have ne := str_ne e2
   clear e1 e2 h1 h1b h2 h2b hq Q0 hS ht ht2 l1 l2 l3 l4
   have O := Lib.hid ((And.intro oS (And.intro oq (And.intro oB1 (And.intro oB2 (And.intro oD (And.intro oSub (And.intro oT1 (And.intro oC1 (And.intro oT2 (And.intro oC2 (And.intro oC3 (And.intro oC4 oA))))))))))))); clear oS oq oB1 oB2 oD oSub oT1 oC1 oT2 oC2 oC3 oC4 oA
   generalize cmpQ q 0 = c at *
   generalize cmpQ (loT q n) (loT q (n + 1)) = c3 at *
   generalize cmpQ (hiT q (n + 1)) (hiT q n) = c4 at *
   generalize cmpQ (hiT q n * hiT q n) q = c2 at *
   generalize cmpQ (loT q n * loT q n) q = c1 at *
   generalize strQ (loT q n * loT q n) = sl at *
   generalize strQ (hiT q n * hiT q n) = sh at *
   generalize strQ (loT q (n + 1)) = lo2 at *
   generalize strQ (hiT q (n + 1)) = hi2 at *
   generalize strQ (loT q n) = lo at *
   generalize strQ (hiT q n) = hi at *
   generalize strQ q = s at *
   obtain ⟨us, hus⟩ : ∃ us : Nat → ByteArray, us = fun j => strQ (uT j) := ⟨_, rfl⟩
   have U0 : Hid (us 0 = ⟨#[49]⟩) := Lib.hid (by rw [hus]; show strQ (uT 0) = _; rw [show uT 0 = 1 from rfl]; exact strQ_one)
   have eD : ∀ j, strQ (uT j) = us j := fun j => by rw [hus]
   simp only [eD] at *
   clear hus eD
   go_enter Tryz.func3, Tryz.ntmps3
   have B0 := Lib.hid (Below.refl w.heap.size w)
   go_wp2_with fail
   have hSl := Sl.new1 w s 22
   have BB := Lib.hid (B0.out.alloc B0.out.size (.cells #[.string s] 22))
   generalize w.alloc (.cells #[.string s] 22) = u0 at *
   generalize hk0 : w.heap.size = k0 at hSl
   refine (O.out.1 _ _ hSl BB.out).mono ?_
   rintro e v1 ⟨rfl, b⟩
   have B1 := Lib.hid (BB.out.trans (b.mono BB.out.size)); clear b BB hSl B0 hk0
   go_wp2_with fail
   refine (O.out.2.1 _ B1.out).mono ?_
   rintro e v2 ⟨rfl, b⟩
   have B2 := Lib.hid (B1.out.trans (b.mono B1.out.size)); clear b B1
   go_wp2_with fail
   refine (O.out.2.2.1 _ B2.out).mono ?_
   rintro e v3 ⟨rfl, b⟩
   have B3 := Lib.hid (B2.out.trans (b.mono B2.out.size)); clear b B2
   go_wp2_with fail
   have HB := Lib.hid (And.intro (Blk.new v3 #[.string lo, .string hi] 27) (B3.out.alloc B3.out.size (.cells #[.string lo, .string hi] 27)))
   clear B3
   generalize v3.alloc (.cells #[.string lo, .string hi] 27) = u3 at *
   generalize v3.heap.size = k6 at *
   refine (O.out.2.2.2.1 _ HB.out.2).mono ?_
   rintro e v4 ⟨rfl, b⟩
   have HN := Lib.hid (And.intro (HB.out.1.next b) (HB.out.2.trans (b.mono HB.out.2.size))); clear HB b; have HB := HN; clear HN
   go_wp2
   have HN := Lib.hid (And.intro (HB.out.1.alloc (.cells #[.string lo2, .string hi2] 27)) (And.intro (Blk.new v4 #[.string lo2, .string hi2] 27) (HB.out.2.alloc HB.out.2.size (.cells #[.string lo2, .string hi2] 27))))
   clear HB; have HB := HN; clear HN
   generalize v4.alloc (.cells #[.string lo2, .string hi2] 27) = u4 at *
   generalize v4.heap.size = k8 at *
   go_loopw [10, 45] (fun o i wr => ∃ j : Nat, i = .int .i64 j ∧ j ≤ n ∧ o = .string (us j) ∧ Hid (Blk wr k6 #[.string lo, .string hi] ∧ Blk wr k8 #[.string lo2, .string hi2] ∧ Below w.heap.size w wr)) (fun _ i _ => n - (intOf i).toNat)
   case atStart => exact ⟨0, rfl, by omega, by rw [U0.out], HB.out⟩
   case round =>
     clear HB
     obtain ⟨j, rfl, hj, rfl, HB⟩ := hrel
     by_cases hlt : j < n
     · go_wp2_with fail
       refine (O.out.2.2.2.2.1 j hlt _ HB.out.2.2).mono ?_
       rintro e w' ⟨rfl, b⟩
       have HN := Lib.hid (And.intro (HB.out.1.next b) (And.intro (HB.out.2.1.next b) (HB.out.2.2.trans (b.mono HB.out.2.2.size)))); clear HB b; have HB := HN; clear HN
       go_wp2
       go_roundw
       case rel => exact ⟨j + 1, by go_num, by omega, rfl, HB.out⟩
       case measure => simp [intOf]; omega
     · obtain rfl : j = n := by omega
       have ea0 := (show World.cell? _ ⟨k6, 0, none⟩ = some (.string lo) from HB.out.1.cell 0 _ rfl); have ea1 := (show World.cell? _ ⟨k6, 1, none⟩ = some (.string hi) from HB.out.1.cell 1 _ rfl); have eb0 := (show World.cell? _ ⟨k8, 0, none⟩ = some (.string lo2) from HB.out.2.1.cell 0 _ rfl); have eb1 := (show World.cell? _ ⟨k8, 1, none⟩ = some (.string hi2) from HB.out.2.1.cell 1 _ rfl)
       go_wp2_with fail
       refine (O.out.2.2.2.2.2.1 _ HB.out.2.2).mono ?_
       rintro e x1 ⟨rfl, b⟩
       have HN := Lib.hid (And.intro (HB.out.1.next b) (And.intro (HB.out.2.1.next b) (HB.out.2.2.trans (b.mono HB.out.2.2.size)))); clear HB b; have HB := HN; clear HN
       have ea0 := (show World.cell? _ ⟨k6, 0, none⟩ = some (.string lo) from HB.out.1.cell 0 _ rfl); have ea1 := (show World.cell? _ ⟨k6, 1, none⟩ = some (.string hi) from HB.out.1.cell 1 _ rfl); have eb0 := (show World.cell? _ ⟨k8, 0, none⟩ = some (.string lo2) from HB.out.2.1.cell 0 _ rfl); have eb1 := (show World.cell? _ ⟨k8, 1, none⟩ = some (.string hi2) from HB.out.2.1.cell 1 _ rfl)
       go_wp2_with fail
       have hSl := Sl.new2 x1 lo lo 22
       have HN := Lib.hid (And.intro (HB.out.1.alloc (.cells #[.string lo, .string lo] 22)) (And.intro (HB.out.2.1.alloc (.cells #[.string lo, .string lo] 22)) (HB.out.2.2.alloc HB.out.2.2.size (.cells #[.string lo, .string lo] 22))))
       clear HB; have HB := HN; clear HN
       generalize x1.alloc (.cells #[.string lo, .string lo] 22) = u2 at *
       generalize x1.heap.size = q2 at hSl ⊢
       refine (O.out.2.2.2.2.2.2.1 _ _ hSl HB.out.2.2).mono ?_
       rintro e x2 ⟨rfl, b⟩
       have HN := Lib.hid (And.intro (HB.out.1.next b) (And.intro (HB.out.2.1.next b) (HB.out.2.2.trans (b.mono HB.out.2.2.size)))); clear HB b; have HB := HN; clear HN
       clear hSl
       have ea0 := (show World.cell? _ ⟨k6, 0, none⟩ = some (.string lo) from HB.out.1.cell 0 _ rfl); have ea1 := (show World.cell? _ ⟨k6, 1, none⟩ = some (.string hi) from HB.out.1.cell 1 _ rfl); have eb0 := (show World.cell? _ ⟨k8, 0, none⟩ = some (.string lo2) from HB.out.2.1.cell 0 _ rfl); have eb1 := (show World.cell? _ ⟨k8, 1, none⟩ = some (.string hi2) from HB.out.2.1.cell 1 _ rfl)
       go_wp2_with fail
       refine (O.out.2.2.2.2.2.2.2.1 _ HB.out.2.2).mono ?_
       rintro e x3 ⟨rfl, b⟩
       have HN := Lib.hid (And.intro (HB.out.1.next b) (And.intro (HB.out.2.1.next b) (HB.out.2.2.trans (b.mono HB.out.2.2.size)))); clear HB b; have HB := HN; clear HN
       have ea0 := (show World.cell? _ ⟨k6, 0, none⟩ = some (.string lo) from HB.out.1.cell 0 _ rfl); have ea1 := (show World.cell? _ ⟨k6, 1, none⟩ = some (.string hi) from HB.out.1.cell 1 _ rfl); have eb0 := (show World.cell? _ ⟨k8, 0, none⟩ = some (.string lo2) from HB.out.2.1.cell 0 _ rfl); have eb1 := (show World.cell? _ ⟨k8, 1, none⟩ = some (.string hi2) from HB.out.2.1.cell 1 _ rfl)
       go_wp2_with fail
       have hSl := Sl.new2 x3 hi hi 22
       have HN := Lib.hid (And.intro (HB.out.1.alloc (.cells #[.string hi, .string hi] 22)) (And.intro (HB.out.2.1.alloc (.cells #[.string hi, .string hi] 22)) (HB.out.2.2.alloc HB.out.2.2.size (.cells #[.string hi, .string hi] 22))))
       clear HB; have HB := HN; clear HN
       generalize x3.alloc (.cells #[.string hi, .string hi] 22) = u4 at *
       generalize x3.heap.size = q4 at hSl ⊢
       refine (O.out.2.2.2.2.2.2.2.2.1 _ _ hSl HB.out.2.2).mono ?_
       rintro e x4 ⟨rfl, b⟩
       have HN := Lib.hid (And.intro (HB.out.1.next b) (And.intro (HB.out.2.1.next b) (HB.out.2.2.trans (b.mono HB.out.2.2.size)))); clear HB b; have HB := HN; clear HN
       clear hSl
       have ea0 := (show World.cell? _ ⟨k6, 0, none⟩ = some (.string lo) from HB.out.1.cell 0 _ rfl); have ea1 := (show World.cell? _ ⟨k6, 1, none⟩ = some (.string hi) from HB.out.1.cell 1 _ rfl); have eb0 := (show World.cell? _ ⟨k8, 0, none⟩ = some (.string lo2) from HB.out.2.1.cell 0 _ rfl); have eb1 := (show World.cell? _ ⟨k8, 1, none⟩ = some (.string hi2) from HB.out.2.1.cell 1 _ rfl)
       go_wp2_with fail
       refine (O.out.2.2.2.2.2.2.2.2.2.1 _ HB.out.2.2).mono ?_
       rintro e x5 ⟨rfl, b⟩
       have HN := Lib.hid (And.intro (HB.out.1.next b) (And.intro (HB.out.2.1.next b) (HB.out.2.2.trans (b.mono HB.out.2.2.size)))); clear HB b; have HB := HN; clear HN
       have ea0 := (show World.cell? _ ⟨k6, 0, none⟩ = some (.string lo) from HB.out.1.cell 0 _ rfl); have ea1 := (show World.cell? _ ⟨k6, 1, none⟩ = some (.string hi) from HB.out.1.cell 1 _ rfl); have eb0 := (show World.cell? _ ⟨k8, 0, none⟩ = some (.string lo2) from HB.out.2.1.cell 0 _ rfl); have eb1 := (show World.cell? _ ⟨k8, 1, none⟩ = some (.string hi2) from HB.out.2.1.cell 1 _ rfl)
       go_wp2_with fail
       refine (O.out.2.2.2.2.2.2.2.2.2.2.1 _ HB.out.2.2).mono ?_
       rintro e x6 ⟨rfl, b⟩
       have HN := Lib.hid (And.intro (HB.out.1.next b) (And.intro (HB.out.2.1.next b) (HB.out.2.2.trans (b.mono HB.out.2.2.size)))); clear HB b; have HB := HN; clear HN
       have ea0 := (show World.cell? _ ⟨k6, 0, none⟩ = some (.string lo) from HB.out.1.cell 0 _ rfl); have ea1 := (show World.cell? _ ⟨k6, 1, none⟩ = some (.string hi) from HB.out.1.cell 1 _ rfl); have eb0 := (show World.cell? _ ⟨k8, 0, none⟩ = some (.string lo2) from HB.out.2.1.cell 0 _ rfl); have eb1 := (show World.cell? _ ⟨k8, 1, none⟩ = some (.string hi2) from HB.out.2.1.cell 1 _ rfl)
       go_wp2_with fail
       refine (O.out.2.2.2.2.2.2.2.2.2.2.2.1 _ HB.out.2.2).mono ?_
       rintro e x7 ⟨rfl, b⟩
       have HN := Lib.hid (And.intro (HB.out.1.next b) (And.intro (HB.out.2.1.next b) (HB.out.2.2.trans (b.mono HB.out.2.2.size)))); clear HB b; have HB := HN; clear HN
       have ea0 := (show World.cell? _ ⟨k6, 0, none⟩ = some (.string lo) from HB.out.1.cell 0 _ rfl); have ea1 := (show World.cell? _ ⟨k6, 1, none⟩ = some (.string hi) from HB.out.1.cell 1 _ rfl); have eb0 := (show World.cell? _ ⟨k8, 0, none⟩ = some (.string lo2) from HB.out.2.1.cell 0 _ rfl); have eb1 := (show World.cell? _ ⟨k8, 1, none⟩ = some (.string hi2) from HB.out.2.1.cell 1 _ rfl)
       go_wp2_with fail
       have hSl := Sl.new2 x7 lo lo 22
       have HN := Lib.hid (And.intro (HB.out.1.alloc (.cells #[.string lo, .string lo] 22)) (And.intro (HB.out.2.1.alloc (.cells #[.string lo, .string lo] 22)) (HB.out.2.2.alloc HB.out.2.2.size (.cells #[.string lo, .string lo] 22))))
       clear HB; have HB := HN; clear HN
       generalize x7.alloc (.cells #[.string lo, .string lo] 22) = u8 at *
       generalize x7.heap.size = q8 at hSl ⊢
       refine (O.out.2.2.2.2.2.2.1 _ _ hSl HB.out.2.2).mono ?_
       rintro e x8 ⟨rfl, b⟩
       have HN := Lib.hid (And.intro (HB.out.1.next b) (And.intro (HB.out.2.1.next b) (HB.out.2.2.trans (b.mono HB.out.2.2.size)))); clear HB b; have HB := HN; clear HN
       clear hSl
       have ea0 := (show World.cell? _ ⟨k6, 0, none⟩ = some (.string lo) from HB.out.1.cell 0 _ rfl); have ea1 := (show World.cell? _ ⟨k6, 1, none⟩ = some (.string hi) from HB.out.1.cell 1 _ rfl); have eb0 := (show World.cell? _ ⟨k8, 0, none⟩ = some (.string lo2) from HB.out.2.1.cell 0 _ rfl); have eb1 := (show World.cell? _ ⟨k8, 1, none⟩ = some (.string hi2) from HB.out.2.1.cell 1 _ rfl)
       go_wp2_with fail
       refine (O.out.2.2.2.2.2.2.2.2.2.2.2.2 _ HB.out.2.2).mono ?_
       rintro e x9 ⟨rfl, b⟩
       have HN := Lib.hid (And.intro (HB.out.1.next b) (And.intro (HB.out.2.1.next b) (HB.out.2.2.trans (b.mono HB.out.2.2.size)))); clear HB b; have HB := HN; clear HN
       go_wp2
       go_ret
       exact ⟨rfl, HB.out.2.2⟩
theorem RootDecimals_nat (a : ByteArray) (p : Nat) (w : World) (ha : a.size ≤ maxLen) (hp : p ≤ 255) (ht : Tab w) (ht2 : Tab64 w) (hS : Sm w) :
   Calls Tryz.prog 3 #[.string a, .int .u8 p] w fun e W' => e = .returned (.bool true) ∧ Below w.heap.size w W' := by
 by_cases hf : [a].all okS = true
 · have hk := pre1d hf
   obtain ⟨q, rfl, hq⟩ := okS_num hk
   by_cases q0 : q < 0
   · have oA := fun W (h : Below w.heap.size w W) => awake3_any W (ht.next h) (TabQ_next ht2 h) (hS.next h)
     have oS := fun (b : Nat) W (hx : Sl W b [strQ q]) (h : Below w.heap.size w W) => sizes_any b [strQ q] W (by simp) (by intro s hs; rw [List.mem_singleton.1 hs]; exact ha) hx (ht.next h) (TabQ_next ht2 h)
     rw [hf] at oS
     have oq := fun W (h : Below w.heap.size w W) => lsign q 20 W hq (by decide) (ht.next h) (TabQ_next ht2 h)
     have y0 : cmpQ q 0 < 0 := cmp_neg.2 q0
     clear hf hk hq q0 hS ht ht2 ha hp
     have O := Lib.hid ((And.intro oS (And.intro oq oA))); clear oS oq oA
     generalize cmpQ q 0 = c at *
     generalize strQ q = s at *
     go_enter Tryz.func3, Tryz.ntmps3
     have B0 := Lib.hid (Below.refl w.heap.size w)
     go_wp2_with fail
     have hSl := Sl.new1 w s 22
     have BB := Lib.hid (B0.out.alloc B0.out.size (.cells #[.string s] 22))
     generalize w.alloc (.cells #[.string s] 22) = u0 at *
     generalize hk0 : w.heap.size = k0 at hSl
     refine (O.out.1 _ _ hSl BB.out).mono ?_
     rintro e v1 ⟨rfl, b⟩
     have B1 := Lib.hid (BB.out.trans (b.mono BB.out.size)); clear b BB hSl B0 hk0
     go_wp2_with fail
     refine (O.out.2.1 _ B1.out).mono ?_
     rintro e v2 ⟨rfl, b⟩
     have B2 := Lib.hid (B1.out.trans (b.mono B1.out.size)); clear b B1
     go_wp2_with fail
     refine (O.out.2.2 _ B2.out).mono ?_
     rintro e v3 ⟨rfl, b⟩
     have B3 := Lib.hid (B2.out.trans (b.mono B2.out.size)); clear b B2
     go_wp2
     go_ret
     exact ⟨rfl, B3.out⟩
   · exact deci_main q p w hp hq (by grind) hk ht ht2 hS
 · have oA := fun W (h : Below w.heap.size w W) => awake3_any W (ht.next h) (TabQ_next ht2 h) (hS.next h)
   have oS := fun (b : Nat) W (hx : Sl W b [a]) (h : Below w.heap.size w W) => sizes_any b [a] W (by simp) (by intro s hs; rw [List.mem_singleton.1 hs]; exact ha) hx (ht.next h) (TabQ_next ht2 h)
   have hf' : [a].all okS = false := by simpa using hf
   rw [hf'] at oS
   have oT := True.intro
   clear hf hf' hS ht ht2 ha hp
   have O := Lib.hid ((And.intro oS (And.intro oA oT))); clear oS oA oT
   go_enter Tryz.func3, Tryz.ntmps3
   have B0 := Lib.hid (Below.refl w.heap.size w)
   go_wp2_with fail
   have hSl := Sl.new1 w a 22
   have BB := Lib.hid (B0.out.alloc B0.out.size (.cells #[.string a] 22))
   generalize w.alloc (.cells #[.string a] 22) = u0 at *
   generalize hk0 : w.heap.size = k0 at hSl
   refine (O.out.1 _ _ hSl BB.out).mono ?_
   rintro e v1 ⟨rfl, b⟩
   have B1 := Lib.hid (BB.out.trans (b.mono BB.out.size)); clear b BB hSl B0 hk0
   go_wp2_with fail
   refine (O.out.2.1 _ B1.out).mono ?_
   rintro e v2 ⟨rfl, b⟩
   have B2 := Lib.hid (B1.out.trans (b.mono B1.out.size)); clear b B1
   go_wp2
   go_ret
   exact ⟨rfl, B2.out⟩
theorem RootDecimals_any (a : ByteArray) (p : Int) (w : World) (ha : a.size ≤ maxLen) (hp : (Lit.int .u8 p).wf = true) (ht : Tab w) (ht2 : Tab64 w) (hS : Sm w) :
   Calls Tryz.prog 3 #[.string a, .int .u8 p] w fun e W' => e = .returned (.bool true) ∧ Below w.heap.size w W' := by
 have mn : IntKind.u8.min = 0 := rfl
 have mx : IntKind.u8.max = 255 := rfl
 simp [Lit.wf] at hp
 obtain ⟨p', rfl⟩ : ∃ k : Nat, p = k := ⟨p.toNat, by omega⟩
 exact RootDecimals_nat a p' w ha (by omega) ht ht2 hS
end Go.Proofs.YtpkloolckbhdaaaGreatDoor.T
