/- Parts of the proofs of the texts YtilggfeodhfjfaaGreatDoorQS. -/
import Derived.Test.YtilggfeodhfjfaaGreatDoorQR1
import Derived.Test.YtilggfeodhfjfaaGreatDoorQR10
import Derived.Test.YtilggfeodhfjfaaGreatDoorQR11
import Derived.Test.YtilggfeodhfjfaaGreatDoorQR12
import Derived.Test.YtilggfeodhfjfaaGreatDoorQR13
import Derived.Test.YtilggfeodhfjfaaGreatDoorQR14
import Derived.Test.YtilggfeodhfjfaaGreatDoorQR15
import Derived.Test.YtilggfeodhfjfaaGreatDoorQR16
import Derived.Test.YtilggfeodhfjfaaGreatDoorQR17
import Derived.Test.YtilggfeodhfjfaaGreatDoorQR18
import Derived.Test.YtilggfeodhfjfaaGreatDoorQR19
import Derived.Test.YtilggfeodhfjfaaGreatDoorQR2
import Derived.Test.YtilggfeodhfjfaaGreatDoorQR20
import Derived.Test.YtilggfeodhfjfaaGreatDoorQR21
import Derived.Test.YtilggfeodhfjfaaGreatDoorQR22
import Derived.Test.YtilggfeodhfjfaaGreatDoorQR23
import Derived.Test.YtilggfeodhfjfaaGreatDoorQR24
import Derived.Test.YtilggfeodhfjfaaGreatDoorQR25
import Derived.Test.YtilggfeodhfjfaaGreatDoorQR26
import Derived.Test.YtilggfeodhfjfaaGreatDoorQR27
import Derived.Test.YtilggfeodhfjfaaGreatDoorQR28
import Derived.Test.YtilggfeodhfjfaaGreatDoorQR29
import Derived.Test.YtilggfeodhfjfaaGreatDoorQR3
import Derived.Test.YtilggfeodhfjfaaGreatDoorQR30
import Derived.Test.YtilggfeodhfjfaaGreatDoorQR4
import Derived.Test.YtilggfeodhfjfaaGreatDoorQR5
import Derived.Test.YtilggfeodhfjfaaGreatDoorQR6
import Derived.Test.YtilggfeodhfjfaaGreatDoorQR7
import Derived.Test.YtilggfeodhfjfaaGreatDoorQR8
import Derived.Test.YtilggfeodhfjfaaGreatDoorQR9
import Derived.Test.YtilggfeodhfjfaaGreatDoorQS1
import Derived.Test.YtilggfeodhfjfaaGreatDoorQS2
import Derived.Test.YtilggfeodhfjfaaGreatDoorQS3
set_option linter.all false
set_option maxRecDepth 100000
set_option maxHeartbeats 8000000
namespace Go.Proofs.YtilggfeodhfjfaaGreatDoor.T
open Go.Proofs.YtilggfeodhfjfaaGreatDoor Go Go.RowKit
theorem three_le {a b c : ByteArray} (ha : a.size ≤ maxLen) (hb : b.size ≤ maxLen) (hc : c.size ≤ maxLen) : ∀ s ∈ [a, b, c], s.size ≤ maxLen := by
 intro s hs
 have h2 : s = a ∨ s = b ∨ s = c := by simpa using hs
 rcases h2 with k | k | k <;> rw [k] <;> assumption
theorem pre3 {a b c : ByteArray} (h : [a, b, c].all okS = true) : okS a = true ∧ okS b = true ∧ okS c = true := by simpa using h
theorem div_nn {p q : Rat} (hp : 0 ≤ p) (hq : 0 < q) : 0 ≤ p / q := by
 rw [Rat.div_def]; exact Rat.mul_nonneg hp (Rat.le_of_lt (Rat.inv_pos.2 hq))
theorem div_sq (p : Rat) {q : Rat} (r : Rat) : p * r * r / q = p / q * (r * r) := by rw [Rat.div_def, Rat.div_def]; grind
theorem div_self2 {q : Rat} (h : 0 < q) (r : Rat) : q * r * r / q = r * r := by
 rw [div_sq, Rat.div_def, Rat.mul_inv_cancel q (by grind), Rat.one_mul]
theorem div_inv {p q : Rat} (hp : 0 < p) (hq : 0 < q) : p / q * (q / p) = 1 := by
 rw [Rat.div_def, Rat.div_def]
 have h1 := Rat.mul_inv_cancel p (by grind)
 have h2 := Rat.mul_inv_cancel q (by grind)
 grind
theorem mul_div_back {p q : Rat} (hq : 0 < q) : p / q * q = p := Rat.div_mul_cancel (by grind)
theorem cmp_pos {x : Rat} (h : 0 < x) : cmpQ x 0 = 1 := cmpQ_gt h
theorem pos_of_sq {x y : Rat} (hx : 0 ≤ x) (h : x * x = y) (hy : 0 < y) : 0 < x := by
 rcases tri x 0 with k | k | k
 · grind
 · rw [k, Rat.zero_mul] at h; grind
 · exact k
theorem RootRatios_any (tp tq tr : ByteArray) (w : World) (hp : tp.size ≤ maxLen) (hq : tq.size ≤ maxLen) (hr : tr.size ≤ maxLen) (ht : Tab w) (ht2 : Tab64 w) (hS : Sm w) :
   Calls Tryz.prog 7 #[.string tp, .string tq, .string tr] w fun e W' => e = .returned (.bool true) ∧ Below w.heap.size w W' := by
 have oA := fun W (h : Below w.heap.size w W) => awake3_any W (ht.next h) (TabQ_next ht2 h) (hS.next h)
 have oS := fun (k : Nat) W (hx : Sl W k [tp, tq, tr]) (h : Below w.heap.size w W) => sizes_any k [tp, tq, tr] W (by simp) (three_le hp hq hr) hx (ht.next h) (TabQ_next ht2 h)
 by_cases hf : [tp, tq, tr].all okS = true
 · rw [hf] at oS
   obtain ⟨f1, f2, f3⟩ := pre3 hf
   clear hp hq hr
   obtain ⟨p, rfl, hp⟩ := okS_num f1
   obtain ⟨q, rfl, hq⟩ := okS_num f2
   obtain ⟨r, rfl, hr⟩ := okS_num f3
   clear hf f1 f2 f3
   have op := fun W (h : Below w.heap.size w W) => lsign p 20 W hp (by decide) (ht.next h) (TabQ_next ht2 h)
   have oq := fun W (h : Below w.heap.size w W) => lsign q 20 W hq (by decide) (ht.next h) (TabQ_next ht2 h)
   have or' := fun W (h : Below w.heap.size w W) => lsign r 20 W hr (by decide) (ht.next h) (TabQ_next ht2 h)
   by_cases p0 : p ≤ 0
   · have n1 := cmp_le.2 p0
     clear p0 hS ht ht2 oq or'
     have O := Lib.hid ((And.intro oS (And.intro op oA))); clear oS op oA
     generalize cmpQ p 0 = d at *
     generalize strQ p = sp at *
     generalize strQ q = sq at *
     generalize strQ r = sr at *
     go_enter Tryz.func7, Tryz.ntmps7
     have B0 := Lib.hid (Below.refl w.heap.size w)
     go_wp2_with fail
     have hSl := Sl.new3 w sp sq sr 22
     have BB := Lib.hid (B0.out.alloc B0.out.size (.cells #[.string sp, .string sq, .string sr] 22))
     generalize w.alloc (.cells #[.string sp, .string sq, .string sr] 22) = u0 at *
     generalize w.heap.size = k0 at hSl ⊢
     refine (O.out.1 _ _ hSl BB.out).mono ?_
     rintro e v1 ⟨rfl, b⟩
     have B1 := Lib.hid (BB.out.trans (b.mono BB.out.size)); clear b BB hSl B0
     go_wp2_with fail
     refine (O.out.2.1 _ B1.out).mono ?_
     rintro e v2 ⟨rfl, b⟩
     have B2 := Lib.hid (B1.out.trans (b.mono B1.out.size)); clear b B1
     go_wp2_with fail
     refine (O.out.2.2 _ B2.out).mono ?_
     rintro e v3 ⟨rfl, b⟩
     have B3 := Lib.hid (B2.out.trans (b.mono B2.out.size)); clear b B2
     go_wp2
     go_ret
     exact ⟨rfl, B3.out⟩
   · have n1 : ¬ cmpQ p 0 ≤ 0 := fun k => p0 (cmp_le.1 k)
     by_cases q0 : q ≤ 0
     · have n2 := cmp_le.2 q0
       clear p0 q0 hS ht ht2 or'
       have O := Lib.hid ((And.intro oS (And.intro op (And.intro oq oA)))); clear oS op oq oA
       generalize cmpQ p 0 = d at *
       generalize cmpQ q 0 = d2 at *
       generalize strQ p = sp at *
       generalize strQ q = sq at *
       generalize strQ r = sr at *
       go_enter Tryz.func7, Tryz.ntmps7
       have B0 := Lib.hid (Below.refl w.heap.size w)
       go_wp2_with fail
       have hSl := Sl.new3 w sp sq sr 22
       have BB := Lib.hid (B0.out.alloc B0.out.size (.cells #[.string sp, .string sq, .string sr] 22))
       generalize w.alloc (.cells #[.string sp, .string sq, .string sr] 22) = u0 at *
       generalize w.heap.size = k0 at hSl ⊢
       refine (O.out.1 _ _ hSl BB.out).mono ?_
       rintro e v1 ⟨rfl, b⟩
       have B1 := Lib.hid (BB.out.trans (b.mono BB.out.size)); clear b BB hSl B0
       go_wp2_with fail
       refine (O.out.2.1 _ B1.out).mono ?_
       rintro e v2 ⟨rfl, b⟩
       have B2 := Lib.hid (B1.out.trans (b.mono B1.out.size)); clear b B1
       go_wp2_with fail
       refine (O.out.2.2.1 _ B2.out).mono ?_
       rintro e v3 ⟨rfl, b⟩
       have B3 := Lib.hid (B2.out.trans (b.mono B2.out.size)); clear b B2
       go_wp2_with fail
       refine (O.out.2.2.2 _ B3.out).mono ?_
       rintro e v4 ⟨rfl, b⟩
       have B4 := Lib.hid (B3.out.trans (b.mono B3.out.size)); clear b B3
       go_wp2
       go_ret
       exact ⟨rfl, B4.out⟩
     · have n2 : ¬ cmpQ q 0 ≤ 0 := fun k => q0 (cmp_le.1 k)
       by_cases r0 : r ≤ 0
       · have n3 := cmp_le.2 r0
         clear p0 q0 r0 hS ht ht2
         have O := Lib.hid ((And.intro oS (And.intro op (And.intro oq (And.intro or' oA))))); clear oS op oq or' oA
         generalize cmpQ p 0 = d at *
         generalize cmpQ q 0 = d2 at *
         generalize cmpQ r 0 = d3 at *
         generalize strQ p = sp at *
         generalize strQ q = sq at *
         generalize strQ r = sr at *
         go_enter Tryz.func7, Tryz.ntmps7
         have B0 := Lib.hid (Below.refl w.heap.size w)
         go_wp2_with fail
         have hSl := Sl.new3 w sp sq sr 22
         have BB := Lib.hid (B0.out.alloc B0.out.size (.cells #[.string sp, .string sq, .string sr] 22))
         generalize w.alloc (.cells #[.string sp, .string sq, .string sr] 22) = u0 at *
         generalize w.heap.size = k0 at hSl ⊢
         refine (O.out.1 _ _ hSl BB.out).mono ?_
         rintro e v1 ⟨rfl, b⟩
         have B1 := Lib.hid (BB.out.trans (b.mono BB.out.size)); clear b BB hSl B0
         go_wp2_with fail
         refine (O.out.2.1 _ B1.out).mono ?_
         rintro e v2 ⟨rfl, b⟩
         have B2 := Lib.hid (B1.out.trans (b.mono B1.out.size)); clear b B1
         go_wp2_with fail
         refine (O.out.2.2.1 _ B2.out).mono ?_
         rintro e v3 ⟨rfl, b⟩
         have B3 := Lib.hid (B2.out.trans (b.mono B2.out.size)); clear b B2
         go_wp2_with fail
         refine (O.out.2.2.2.1 _ B3.out).mono ?_
         rintro e v4 ⟨rfl, b⟩
         have B4 := Lib.hid (B3.out.trans (b.mono B3.out.size)); clear b B3
         go_wp2_with fail
         refine (O.out.2.2.2.2 _ B4.out).mono ?_
         rintro e v5 ⟨rfl, b⟩
         have B5 := Lib.hid (B4.out.trans (b.mono B4.out.size)); clear b B4
         go_wp2
         go_ret
         exact ⟨rfl, B5.out⟩
       · have n3 : ¬ cmpQ r 0 ≤ 0 := fun k => r0 (cmp_le.1 k)
         have P0 : 0 < p := by grind
         have Q0 : 0 < q := by grind
         have R0 : 0 < r := by grind
         have P1 := Rat.le_of_lt P0
         have Q1 := Rat.le_of_lt Q0
         have R1 := Rat.le_of_lt R0
         have up : ∀ {x : Rat}, Bq 20 x → Bq 90 x := fun h => h.up (by decide)
         have hqr : Bq 60 (q * r * r) := (qmul_ok (qmul_ok hq hr (by decide)).2.2 hr (by decide)).2.2
         have hpr : Bq 60 (p * r * r) := (qmul_ok (qmul_ok hp hr (by decide)).2.2 hr (by decide)).2.2
         have hz : Bq 40 (p / q) := (qdiv_ok hp hq (by decide) (by grind)).2.2
         have hz' : Bq 40 (q / p) := (qdiv_ok hq hp (by decide) (by grind)).2.2
         have e1 := div_self2 Q0 r
         have e2 := div_sq p (q := q) r
         have e3 := div_inv P0 Q0
         have z0 := div_nn P1 Q0
         have z1 := div_nn Q1 P0
         have qr0 : 0 ≤ q * r * r := Rat.mul_nonneg (Rat.mul_nonneg Q1 R1) R1
         have pr0 : 0 ≤ p * r * r := Rat.mul_nonneg (Rat.mul_nonneg P1 R1) R1
         have brr : bothS (r * r) := bothS_sq ⟨r, rfl⟩
         have o3 := fun (k : Nat) W (hx : Sl W k [strQ q, strQ r, strQ r]) (h : Below w.heap.size w W) => lt3 q r r 20 W hq hr hr (by decide) (ht.next h) (TabQ_next ht2 h) k hx
         have o4 := fun W (h : Below w.heap.size w W) => Ratio_yes (q * r * r) q W qr0 Q0 (by rw [e1]; exact sq_nonneg r) (hqr.up (by decide)) (up hq) (by rw [e1]; exact brr) (ht.next h) (TabQ_next ht2 h)
         rw [e1, sq_inj (rootR_nonneg brr) R1 (rootR_sq (sq_nonneg r) brr)] at o4
         have o7 := fun (k : Nat) W (hx : Sl W k [strQ p, strQ r, strQ r]) (h : Below w.heap.size w W) => lt3 p r r 20 W hp hr hr (by decide) (ht.next h) (TabQ_next ht2 h) k hx
         have hm := mx3
         have hiff : bothS (p * r * r / q) ↔ bothS (p / q) := by
           rw [bothS_is (div_nn pr0 Q0), bothS_is z0, e2]; exact isSq_times (by grind)
         have hinv : bothS (q / p) ↔ bothS (p / q) := by
           rw [bothS_is z0, bothS_is z1]; exact ⟨isSq_inv (by rw [Rat.mul_comm]; exact e3), isSq_inv e3⟩
         by_cases hb : bothS (p / q)
         · have hb2 := hinv.2 hb
           have hb3 := hiff.2 hb
           have o1 := fun W (h : Below w.heap.size w W) => Ratio_yes p q W P1 Q0 z0 (up hp) (up hq) hb (ht.next h) (TabQ_next ht2 h)
           have o2 := fun W (h : Below w.heap.size w W) => Ratio_yes q p W Q1 P0 z1 (up hq) (up hp) hb2 (ht.next h) (TabQ_next ht2 h)
           have hA := rootR_bd hz hb
           have hB := rootR_bd hz' hb2
           have a0 := rootR_nonneg hb
           have b0 := rootR_nonneg hb2
           have aa := rootR_sq z0 hb
           have bb := rootR_sq z1 hb2
           have ab : rootR (p / q) * rootR (q / p) = 1 := sq_inj (Rat.mul_nonneg a0 b0) (by decide) (by grind)
           have aq : rootR (p / q) * rootR (p / q) * q = p := by rw [aa]; exact mul_div_back Q0
           have zp : 0 < p / q := by
             have := mul_div_back (p := p) Q0
             rcases tri (p / q) 0 with k | k | k
             · grind
             · rw [k, Rat.zero_mul] at this; grind
             · exact k
           have ap := pos_of_sq a0 aa zp
           have o5 := fun (k : Nat) W (hx : Sl W k [strQ (rootR (p / q)), strQ (rootR (q / p))]) (h : Below w.heap.size w W) => lt2 (rootR (p / q)) (rootR (q / p)) 40 W hA hB (by decide) (ht.next h) (TabQ_next ht2 h) k hx
           rw [ab, strQ_one] at o5
           have o6 := fun (k : Nat) W (hx : Sl W k [strQ (rootR (p / q)), strQ (rootR (p / q)), strQ q]) (h : Below w.heap.size w W) => lt3 (rootR (p / q)) (rootR (p / q)) q 40 W hA hA (hq.up (by decide)) (by decide) (ht.next h) (TabQ_next ht2 h) k hx
           rw [aq] at o6
           have o6s := fun W (h : Below w.heap.size w W) => lsign (rootR (p / q)) 40 W hA (by decide) (ht.next h) (TabQ_next ht2 h)
           rw [cmp_pos ap] at o6s
           have o8 := fun W (h : Below w.heap.size w W) => Ratio_yes (p * r * r) q W pr0 Q0 (div_nn pr0 Q0) (hpr.up (by decide)) (up hq) hb3 (ht.next h) (TabQ_next ht2 h)
           have dd : rootR (p * r * r / q) = rootR (p / q) * r := by
             refine sq_inj (rootR_nonneg hb3) (Rat.mul_nonneg a0 R1) ?_
             rw [rootR_sq (div_nn pr0 Q0) hb3, e2]; grind
           rw [dd] at o8
           have o9 := fun (k : Nat) W (hx : Sl W k [strQ (rootR (p / q)), strQ r]) (h : Below w.heap.size w W) => lt2 (rootR (p / q)) r 40 W hA (hr.up (by decide)) (by decide) (ht.next h) (TabQ_next ht2 h) k hx
           clear hb hb2 hb3 hA hB a0 b0 aa bb ab aq zp ap dd hiff hinv brr e1 e2 e3 z0 z1 qr0 pr0 P0 Q0 R0 P1 Q1 R1 up hqr hpr hz hz' p0 q0 r0 hp hq hr hS ht ht2
           have O := Lib.hid ((And.intro oS (And.intro op (And.intro oq (And.intro or' (And.intro o1 (And.intro o2 (And.intro o3 (And.intro o4 (And.intro o5 (And.intro o6 (And.intro o6s (And.intro o7 (And.intro o8 (And.intro o9 oA))))))))))))))); clear oS op oq or' o1 o2 o3 o4 o5 o6 o6s o7 o8 o9 oA
           generalize cmpQ p 0 = d at *
           generalize cmpQ q 0 = d2 at *
           generalize cmpQ r 0 = d3 at *
           generalize strQ (q * r * r) = sqr at *
           generalize strQ (p * r * r) = spr at *
           generalize strQ (rootR (p / q) * r) = sAr at *
           generalize strQ (rootR (p / q)) = sA at *
           generalize strQ (rootR (q / p)) = sB at *
           generalize strQ p = sp at *
           generalize strQ q = sq at *
           generalize strQ r = sr at *
           go_enter Tryz.func7, Tryz.ntmps7
           have B0 := Lib.hid (Below.refl w.heap.size w)
           go_wp2_with fail
           have hSl := Sl.new3 w sp sq sr 22
           have BB := Lib.hid (B0.out.alloc B0.out.size (.cells #[.string sp, .string sq, .string sr] 22))
           generalize w.alloc (.cells #[.string sp, .string sq, .string sr] 22) = u0 at *
           generalize w.heap.size = k0 at hSl ⊢
           refine (O.out.1 _ _ hSl BB.out).mono ?_
           rintro e v1 ⟨rfl, b⟩
           have B1 := Lib.hid (BB.out.trans (b.mono BB.out.size)); clear b BB hSl B0
           go_wp2_with fail
           refine (O.out.2.1 _ B1.out).mono ?_
           rintro e v2 ⟨rfl, b⟩
           have B2 := Lib.hid (B1.out.trans (b.mono B1.out.size)); clear b B1
           go_wp2_with fail
           refine (O.out.2.2.1 _ B2.out).mono ?_
           rintro e v3 ⟨rfl, b⟩
           have B3 := Lib.hid (B2.out.trans (b.mono B2.out.size)); clear b B2
           go_wp2_with fail
           refine (O.out.2.2.2.1 _ B3.out).mono ?_
           rintro e v4 ⟨rfl, b⟩
           have B4 := Lib.hid (B3.out.trans (b.mono B3.out.size)); clear b B3
           go_wp2_with fail
           refine (O.out.2.2.2.2.1 _ B4.out).mono ?_
           rintro e v5 ⟨rfl, b⟩
           have B5 := Lib.hid (B4.out.trans (b.mono B4.out.size)); clear b B4
           go_wp2_with fail
           refine (O.out.2.2.2.2.2.1 _ B5.out).mono ?_
           rintro e v6 ⟨rfl, b⟩
           have B6 := Lib.hid (B5.out.trans (b.mono B5.out.size)); clear b B5
           go_wp2_with fail
           have hSl := Sl.new3 v6 sq sr sr 22
           have BB := Lib.hid (B6.out.alloc B6.out.size (.cells #[.string sq, .string sr, .string sr] 22))
           generalize v6.alloc (.cells #[.string sq, .string sr, .string sr] 22) = u6 at *
           generalize v6.heap.size = k6 at hSl ⊢
           refine (O.out.2.2.2.2.2.2.1 _ _ hSl BB.out).mono ?_
           rintro e v7 ⟨rfl, b⟩
           have B7 := Lib.hid (BB.out.trans (b.mono BB.out.size)); clear b BB hSl B6
           go_wp2_with fail
           refine (O.out.2.2.2.2.2.2.2.1 _ B7.out).mono ?_
           rintro e v8 ⟨rfl, b⟩
           have B8 := Lib.hid (B7.out.trans (b.mono B7.out.size)); clear b B7
           go_wp2_with fail
           have hSl := Sl.new2 v8 sA sB 22
           have BB := Lib.hid (B8.out.alloc B8.out.size (.cells #[.string sA, .string sB] 22))
           generalize v8.alloc (.cells #[.string sA, .string sB] 22) = u8 at *
           generalize v8.heap.size = k8 at hSl ⊢
           refine (O.out.2.2.2.2.2.2.2.2.1 _ _ hSl BB.out).mono ?_
           rintro e v9 ⟨rfl, b⟩
           have B9 := Lib.hid (BB.out.trans (b.mono BB.out.size)); clear b BB hSl B8
           go_wp2_with fail
           have hSl := Sl.new3 v9 sA sA sq 22
           have BB := Lib.hid (B9.out.alloc B9.out.size (.cells #[.string sA, .string sA, .string sq] 22))
           generalize v9.alloc (.cells #[.string sA, .string sA, .string sq] 22) = u9 at *
           generalize v9.heap.size = k9 at hSl ⊢
           refine (O.out.2.2.2.2.2.2.2.2.2.1 _ _ hSl BB.out).mono ?_
           rintro e v10 ⟨rfl, b⟩
           have B10 := Lib.hid (BB.out.trans (b.mono BB.out.size)); clear b BB hSl B9
           go_wp2_with fail
           refine (O.out.2.2.2.2.2.2.2.2.2.2.1 _ B10.out).mono ?_
           rintro e v11 ⟨rfl, b⟩
           have B11 := Lib.hid (B10.out.trans (b.mono B10.out.size)); clear b B10
           go_wp2_with fail
           have hSl := Sl.new3 v11 sp sr sr 22
           have BB := Lib.hid (B11.out.alloc B11.out.size (.cells #[.string sp, .string sr, .string sr] 22))
           generalize v11.alloc (.cells #[.string sp, .string sr, .string sr] 22) = u11 at *
           generalize v11.heap.size = k11 at hSl ⊢
           refine (O.out.2.2.2.2.2.2.2.2.2.2.2.1 _ _ hSl BB.out).mono ?_
           rintro e v12 ⟨rfl, b⟩
           have B12 := Lib.hid (BB.out.trans (b.mono BB.out.size)); clear b BB hSl B11
           go_wp2_with fail
           refine (O.out.2.2.2.2.2.2.2.2.2.2.2.2.1 _ B12.out).mono ?_
           rintro e v13 ⟨rfl, b⟩
           have B13 := Lib.hid (B12.out.trans (b.mono B12.out.size)); clear b B12
           go_wp2_with fail
           have hSl := Sl.new2 v13 sA sr 22
           have BB := Lib.hid (B13.out.alloc B13.out.size (.cells #[.string sA, .string sr] 22))
           generalize v13.alloc (.cells #[.string sA, .string sr] 22) = u13 at *
           generalize v13.heap.size = k13 at hSl ⊢
           refine (O.out.2.2.2.2.2.2.2.2.2.2.2.2.2.1 _ _ hSl BB.out).mono ?_
           rintro e v14 ⟨rfl, b⟩
           have B14 := Lib.hid (BB.out.trans (b.mono BB.out.size)); clear b BB hSl B13
           go_wp2_with fail
           refine (O.out.2.2.2.2.2.2.2.2.2.2.2.2.2.2 _ B14.out).mono ?_
           rintro e v15 ⟨rfl, b⟩
           have B15 := Lib.hid (B14.out.trans (b.mono B14.out.size)); clear b B14
           go_wp2
           go_ret
           exact ⟨rfl, B15.out⟩
         · have o1 := fun W (h : Below w.heap.size w W) => Ratio_no p q W P1 Q0 z0 (up hp) (up hq) hb (ht.next h) (TabQ_next ht2 h)
           have o2 := fun W (h : Below w.heap.size w W) => Ratio_no q p W Q1 P0 z1 (up hq) (up hp) (fun k => hb (hinv.1 k)) (ht.next h) (TabQ_next ht2 h)
           have o8 := fun W (h : Below w.heap.size w W) => Ratio_no (p * r * r) q W pr0 Q0 (div_nn pr0 Q0) (hpr.up (by decide)) (up hq) (fun k => hb (hiff.1 k)) (ht.next h) (TabQ_next ht2 h)
           clear hb hiff hinv brr e1 e2 e3 z0 z1 qr0 pr0 P0 Q0 R0 P1 Q1 R1 up hqr hpr hz hz' p0 q0 r0 hp hq hr hS ht ht2
           have O := Lib.hid ((And.intro oS (And.intro op (And.intro oq (And.intro or' (And.intro o1 (And.intro o2 (And.intro o3 (And.intro o4 (And.intro o7 (And.intro o8 oA))))))))))); clear oS op oq or' o1 o2 o3 o4 o7 o8 oA
           generalize cmpQ p 0 = d at *
           generalize cmpQ q 0 = d2 at *
           generalize cmpQ r 0 = d3 at *
           generalize strQ (q * r * r) = sqr at *
           generalize strQ (p * r * r) = spr at *
           generalize strQ p = sp at *
           generalize strQ q = sq at *
           generalize strQ r = sr at *
           go_enter Tryz.func7, Tryz.ntmps7
           have B0 := Lib.hid (Below.refl w.heap.size w)
           go_wp2_with fail
           have hSl := Sl.new3 w sp sq sr 22
           have BB := Lib.hid (B0.out.alloc B0.out.size (.cells #[.string sp, .string sq, .string sr] 22))
           generalize w.alloc (.cells #[.string sp, .string sq, .string sr] 22) = u0 at *
           generalize w.heap.size = k0 at hSl ⊢
           refine (O.out.1 _ _ hSl BB.out).mono ?_
           rintro e v1 ⟨rfl, b⟩
           have B1 := Lib.hid (BB.out.trans (b.mono BB.out.size)); clear b BB hSl B0
           go_wp2_with fail
           refine (O.out.2.1 _ B1.out).mono ?_
           rintro e v2 ⟨rfl, b⟩
           have B2 := Lib.hid (B1.out.trans (b.mono B1.out.size)); clear b B1
           go_wp2_with fail
           refine (O.out.2.2.1 _ B2.out).mono ?_
           rintro e v3 ⟨rfl, b⟩
           have B3 := Lib.hid (B2.out.trans (b.mono B2.out.size)); clear b B2
           go_wp2_with fail
           refine (O.out.2.2.2.1 _ B3.out).mono ?_
           rintro e v4 ⟨rfl, b⟩
           have B4 := Lib.hid (B3.out.trans (b.mono B3.out.size)); clear b B3
           go_wp2_with fail
           refine (O.out.2.2.2.2.1 _ B4.out).mono ?_
           rintro e v5 ⟨rfl, b⟩
           have B5 := Lib.hid (B4.out.trans (b.mono B4.out.size)); clear b B4
           go_wp2_with fail
           refine (O.out.2.2.2.2.2.1 _ B5.out).mono ?_
           rintro e v6 ⟨rfl, b⟩
           have B6 := Lib.hid (B5.out.trans (b.mono B5.out.size)); clear b B5
           go_wp2_with fail
           have hSl := Sl.new3 v6 sq sr sr 22
           have BB := Lib.hid (B6.out.alloc B6.out.size (.cells #[.string sq, .string sr, .string sr] 22))
           generalize v6.alloc (.cells #[.string sq, .string sr, .string sr] 22) = u6 at *
           generalize v6.heap.size = k6 at hSl ⊢
           refine (O.out.2.2.2.2.2.2.1 _ _ hSl BB.out).mono ?_
           rintro e v7 ⟨rfl, b⟩
           have B7 := Lib.hid (BB.out.trans (b.mono BB.out.size)); clear b BB hSl B6
           go_wp2_with fail
           refine (O.out.2.2.2.2.2.2.2.1 _ B7.out).mono ?_
           rintro e v8 ⟨rfl, b⟩
           have B8 := Lib.hid (B7.out.trans (b.mono B7.out.size)); clear b B7
           go_wp2_with fail
           have hSl := Sl.new3 v8 sp sr sr 22
           have BB := Lib.hid (B8.out.alloc B8.out.size (.cells #[.string sp, .string sr, .string sr] 22))
           generalize v8.alloc (.cells #[.string sp, .string sr, .string sr] 22) = u8 at *
           generalize v8.heap.size = k8 at hSl ⊢
           refine (O.out.2.2.2.2.2.2.2.2.1 _ _ hSl BB.out).mono ?_
           rintro e v9 ⟨rfl, b⟩
           have B9 := Lib.hid (BB.out.trans (b.mono BB.out.size)); clear b BB hSl B8
           go_wp2_with fail
           refine (O.out.2.2.2.2.2.2.2.2.2.1 _ B9.out).mono ?_
           rintro e v10 ⟨rfl, b⟩
           have B10 := Lib.hid (B9.out.trans (b.mono B9.out.size)); clear b B9
           go_wp2_with fail
           refine (O.out.2.2.2.2.2.2.2.2.2.2 _ B10.out).mono ?_
           rintro e v11 ⟨rfl, b⟩
           have B11 := Lib.hid (B10.out.trans (b.mono B10.out.size)); clear b B10
           go_wp2
           go_ret
           exact ⟨rfl, B11.out⟩
 · have hf' : [tp, tq, tr].all okS = false := by simpa using hf
   rw [hf'] at oS
   clear hf hf' hS ht ht2 hp hq hr
   have oT := True.intro
   have O := Lib.hid ((And.intro oS (And.intro oA oT))); clear oS oA oT
   go_enter Tryz.func7, Tryz.ntmps7
   have B0 := Lib.hid (Below.refl w.heap.size w)
   go_wp2_with fail
   have hSl := Sl.new3 w tp tq tr 22
   have BB := Lib.hid (B0.out.alloc B0.out.size (.cells #[.string tp, .string tq, .string tr] 22))
   generalize w.alloc (.cells #[.string tp, .string tq, .string tr] 22) = u0 at *
   generalize w.heap.size = k0 at hSl ⊢
   refine (O.out.1 _ _ hSl BB.out).mono ?_
   rintro e v1 ⟨rfl, b⟩
   have B1 := Lib.hid (BB.out.trans (b.mono BB.out.size)); clear b BB hSl B0
   go_wp2_with fail
   refine (O.out.2.1 _ B1.out).mono ?_
   rintro e v2 ⟨rfl, b⟩
   have B2 := Lib.hid (B1.out.trans (b.mono B1.out.size)); clear b B1
   go_wp2
   go_ret
   exact ⟨rfl, B2.out⟩
end Go.Proofs.YtilggfeodhfjfaaGreatDoor.T
namespace Go.Proofs.YtilggfeodhfjfaaGreatDoor.T
open Go.Proofs.YtilggfeodhfjfaaGreatDoor Go Go.RowKit
theorem Sl.new4 (W : World) (s0 s1 s2 s3 : ByteArray) (t : TypeId) : Sl (W.alloc (.cells #[.string s0, .string s1, .string s2, .string s3] t)) W.heap.size [s0, s1, s2, s3] :=
 ⟨by simp, fun j hj => by
   have h2 : j = 0 ∨ j = 1 ∨ j = 2 ∨ j = 3 := by simp at hj; omega
   rcases h2 with rfl | rfl | rfl | rfl
   · exact (Blk.new W #[.string s0, .string s1, .string s2, .string s3] t).cell 0 _ rfl
   · exact (Blk.new W #[.string s0, .string s1, .string s2, .string s3] t).cell 1 _ rfl
   · exact (Blk.new W #[.string s0, .string s1, .string s2, .string s3] t).cell 2 _ rfl
   · exact (Blk.new W #[.string s0, .string s1, .string s2, .string s3] t).cell 3 _ rfl⟩
theorem Sl.new5 (W : World) (s0 s1 s2 s3 s4 : ByteArray) (t : TypeId) : Sl (W.alloc (.cells #[.string s0, .string s1, .string s2, .string s3, .string s4] t)) W.heap.size [s0, s1, s2, s3, s4] :=
 ⟨by simp, fun j hj => by
   have h2 : j = 0 ∨ j = 1 ∨ j = 2 ∨ j = 3 ∨ j = 4 := by simp at hj; omega
   rcases h2 with rfl | rfl | rfl | rfl | rfl
   · exact (Blk.new W #[.string s0, .string s1, .string s2, .string s3, .string s4] t).cell 0 _ rfl
   · exact (Blk.new W #[.string s0, .string s1, .string s2, .string s3, .string s4] t).cell 1 _ rfl
   · exact (Blk.new W #[.string s0, .string s1, .string s2, .string s3, .string s4] t).cell 2 _ rfl
   · exact (Blk.new W #[.string s0, .string s1, .string s2, .string s3, .string s4] t).cell 3 _ rfl
   · exact (Blk.new W #[.string s0, .string s1, .string s2, .string s3, .string s4] t).cell 4 _ rfl⟩
theorem sg_mk (a : Rat) : mkRat (a.num * (a.num.natAbs : Nat)) (a.den * a.den) = sg a := by
 have e : mkRat (a.num * a.num) (a.den * a.den) = a * a := by rw [← Rat.mkRat_mul_mkRat, Rat.mkRat_self]
 by_cases h : a < 0
 · have hn : a.num < 0 := Int.not_le.1 fun k => by have := Rat.num_nonneg.1 k; grind
   have h2 : ((a.num.natAbs : Nat) : Int) = -a.num := by omega
   rw [sg_neg h, h2, Int.mul_neg, ← e, Rat.neg_mkRat]
 · have hn : 0 ≤ a.num := Rat.num_nonneg.2 (by grind)
   have h2 : ((a.num.natAbs : Nat) : Int) = a.num := by omega
   unfold sg
   rw [if_neg h, h2, e]
theorem sg_mk2 (a p : Rat) : mkRat (a.num * (a.num.natAbs : Nat) * p.num) (a.den * a.den * p.den) = sg a * p := by
 rw [← Rat.mkRat_mul_mkRat, sg_mk, Rat.mkRat_self]
theorem cmp_sgs (a p b q : Rat) : cmpZ (a.num * (a.num.natAbs : Nat) * p.num * ((b.den : Int) * b.den * q.den)) (b.num * (b.num.natAbs : Nat) * q.num * ((a.den : Int) * a.den * p.den)) = cmpR (sg a * p) (sg b * q) := by
 have h := cmp_mk (n := a.num * (a.num.natAbs : Nat) * p.num) (n' := b.num * (b.num.natAbs : Nat) * q.num) (d := a.den * a.den * p.den) (d' := b.den * b.den * q.den) (Nat.mul_pos (Nat.mul_pos a.den_pos a.den_pos) p.den_pos) (Nat.mul_pos (Nat.mul_pos b.den_pos b.den_pos) q.den_pos)
 rw [sg_mk2, sg_mk2, Int.natCast_mul, Int.natCast_mul, Int.natCast_mul, Int.natCast_mul] at h
 exact h
theorem at_sgs (a p b q : Rat) (ha : Bq 90 a) (hp : Bq 90 p) (hb : Bq 90 b) (hq : Bq 90 q) :
   CmpAt (cmpR (sg a * p) (sg b * q)) (a.num * (a.num.natAbs : Nat) * p.num) ((a.den : Int) * a.den * p.den) (b.num * (b.num.natAbs : Nat) * q.num) ((b.den : Int) * b.den * q.den) := by
 have na : ∀ {x : Rat}, Bq 90 x → Bd 90 ((x.num.natAbs : Nat) : Int) := fun {x} hx => by have := hx.num; unfold Bd at this ⊢; rwa [Int.natAbs_natCast]
 have p1 : ∀ (x y : Rat), (0 : Int) < (x.den : Int) * x.den * y.den := fun x y => by
   have h1 := x.den_pos
   have h2 := y.den_pos
   exact Int.mul_pos (Int.mul_pos (by omega) (by omega)) (by omega)
 exact ⟨⟨p1 a p, p1 b q⟩, ⟨short_le (by decide) ((ha.num.mul (na ha)).mul hp.num), short_le (by decide) ((ha.den.mul ha.den).mul hp.den), short_le (by decide) ((hb.num.mul (na hb)).mul hq.num), short_le (by decide) ((hb.den.mul hb.den).mul hq.den)⟩, cmp_sgs a p b q⟩
theorem Compare_q3 (a p b q : Rat) (w : World) (p0 : 0 ≤ p) (q0 : 0 ≤ q) (ha : Bq 90 a) (hp : Bq 90 p) (hb : Bq 90 b) (hq : Bq 90 q) (ht : Tab w) (ht2 : Tab64 w) :
   Calls Tryz.prog 20 #[.string (strQ a), .string (strQ p), .string (strQ b), .string (strQ q)] w fun e W' => e = .returned (.tuple #[.int .i64 (cmpR (sg a * p) (sg b * q)), .int .i64 0]) ∧ Below w.heap.size w W' := by
 have o1 := fun (k : Nat) W (hx : Sl W k [strQ a, strQ p, strQ b, strQ q]) (h : Below w.heap.size w W) => check_ok4 k a p b q W ha hp hb hq hx (ht.next h) (TabQ_next ht2 h)
 have o2 := fun (k : Nat) W (hx : Sl W k [strQ p, strQ q]) (_ : Below w.heap.size w W) => croots_any k [strQ p, strQ q] W (by simp) hx
 rw [nn2 p0 q0] at o2
 have o3 := fun W (h : Below w.heap.size w W) => osigsq a p 90 90 W ha hp (by decide) (ht.next h)
 have o4 := fun W (h : Below w.heap.size w W) => osigsq b q 90 90 W hb hq (by decide) (ht.next h)
 have o5 := fun W (h : Below w.heap.size w W) => ocompare_z _ _ _ _ _ W (at_sgs a p b q ha hp hb hq) (ht.next h)
 have O := Lib.hid (And.intro o1 (And.intro o2 (And.intro o3 (And.intro o4 o5)))); clear o1 o2 o3 o4 o5 ht ht2 p0 q0 ha hp hb hq
 generalize cmpR (sg a * p) (sg b * q) = r at *
 generalize strB (a.num * (a.num.natAbs : Nat) * p.num) = x1 at *
 generalize strB ((a.den : Int) * a.den * p.den) = x2 at *
 generalize strB (b.num * (b.num.natAbs : Nat) * q.num) = x3 at *
 generalize strB ((b.den : Int) * b.den * q.den) = x4 at *
 generalize strQ a = sa at *
 generalize strQ p = sp at *
 generalize strQ b = sb at *
 generalize strQ q = sq at *
 go_enter Tryz.func20, Tryz.ntmps20
 go_wp2_with fail
 have hS1 := Sl.new4 w sa sp sb sq 22
 have BB := Lib.hid ((Below.refl _ w).alloc (Nat.le_refl _) (.cells #[.string sa, .string sp, .string sb, .string sq] 22))
 generalize w.alloc (.cells #[.string sa, .string sp, .string sb, .string sq] 22) = v0 at *
 generalize hk0 : w.heap.size = k0 at hS1
 refine (O.out.1 _ _ hS1 BB.out).mono ?_
 rintro e v1 ⟨rfl, b⟩
 have B1 := Lib.hid (BB.out.trans (b.mono BB.out.size)); clear b BB hS1 hk0
 go_wp2_with fail
 have hS2 := Sl.new2 v1 sp sq 22
 have BB := Lib.hid (B1.out.alloc B1.out.size (.cells #[.string sp, .string sq] 22))
 generalize v1.alloc (.cells #[.string sp, .string sq] 22) = v2 at *
 generalize v1.heap.size = k1 at hS2 ⊢
 refine (O.out.2.1 _ _ hS2 BB.out).mono ?_
 rintro e v3 ⟨rfl, b⟩
 have B3 := Lib.hid (BB.out.trans (b.mono BB.out.size)); clear b BB hS2 B1
 go_wp2_with fail
 have hS3 := Blk.new v3 #[.int .i64 0, .int .i64 0] 26
 have BB := Lib.hid (B3.out.alloc B3.out.size (.cells #[.int .i64 0, .int .i64 0] 26))
 generalize v3.alloc (.cells #[.int .i64 0, .int .i64 0] 26) = v4 at *
 generalize v3.heap.size = k3 at hS3 ⊢
 refine (cmpOr2 _ 0 0 v4 hS3).mono ?_
 rintro e v5 ⟨rfl, b⟩
 rw [if_pos rfl]
 have B5 := Lib.hid (BB.out.trans (b.mono BB.out.size)); clear b BB hS3 B3
 go_wp2_with fail
 refine (O.out.2.2.1 _ B5.out).mono ?_
 rintro e v6 ⟨rfl, b⟩
 have B6 := Lib.hid (B5.out.trans (b.mono B5.out.size)); clear b B5
 go_wp2_with fail
 refine (O.out.2.2.2.1 _ B6.out).mono ?_
 rintro e v7 ⟨rfl, b⟩
 have B7 := Lib.hid (B6.out.trans (b.mono B6.out.size)); clear b B6
 go_wp2_with fail
 refine (O.out.2.2.2.2 _ B7.out).mono ?_
 rintro e v8 ⟨rfl, b⟩
 have B8 := Lib.hid (B7.out.trans (b.mono B7.out.size)); clear b B7
 go_wp2
 go_ret2
 exact ⟨rfl, B8.out⟩
end Go.Proofs.YtilggfeodhfjfaaGreatDoor.T
namespace Go.Proofs.YtilggfeodhfjfaaGreatDoor.T
open Go.Proofs.YtilggfeodhfjfaaGreatDoor Go Go.RowKit
theorem cmpQR (x y : Rat) : cmpQ x y = cmpR x y := by
 rcases ratTri x y with h | rfl | h
 · rw [cmpQ_lt h, cmpR_lt h]
 · rw [cmpQ_eq, cmpR_eq]
 · rw [cmpQ_gt h, cmpR_gt h]
theorem five_le {a b c d e : ByteArray} (ha : a.size ≤ maxLen) (hb : b.size ≤ maxLen) (hc : c.size ≤ maxLen) (hd : d.size ≤ maxLen) (he : e.size ≤ maxLen) : ∀ s ∈ [a, b, c, d, e], s.size ≤ maxLen := by
 intro s hs
 have h2 : s = a ∨ s = b ∨ s = c ∨ s = d ∨ s = e := by simpa using hs
 rcases h2 with k | k | k | k | k <;> rw [k] <;> assumption
theorem pre5 {a b c d e : ByteArray} (h : [a, b, c, d, e].all okS = true) : okS a = true ∧ okS b = true ∧ okS c = true ∧ okS d = true ∧ okS e = true := by simpa using h
theorem own0 (x : Rat) : cmpR x x = 0 := cmpR_eq x
theorem order_times (a b c p q : Rat) : cmpR (sg (a * c) * p) (sg (b * c) * q) = cmpR (sg a * p) (sg b * q) * cmpR c 0 := by
 rw [sg_mul, sg_mul, ← cmpR_times]
 congr 1 <;> grind
theorem order_one (a b : Rat) : cmpR (sg a * 1) (sg b * 1) = cmpR a b := by rw [Rat.mul_one, Rat.mul_one, cmpR_sg]
theorem cmpR_three (x y : Rat) : cmpR x y = -1 ∨ cmpR x y = 0 ∨ cmpR x y = 1 := by
 rcases tri x y with h | rfl | h
 · exact .inl (cmpR_lt h)
 · exact .inr (.inl (cmpR_eq x))
 · exact .inr (.inr (cmpR_gt h))
theorem RootOrder_any (ta tp tb tq tc : ByteArray) (w : World) (ha : ta.size ≤ maxLen) (hp : tp.size ≤ maxLen) (hb : tb.size ≤ maxLen) (hq : tq.size ≤ maxLen) (hc : tc.size ≤ maxLen) (ht : Tab w) (ht2 : Tab64 w) (hS : Sm w) :
   Calls Tryz.prog 8 #[.string ta, .string tp, .string tb, .string tq, .string tc] w fun e W' => e = .returned (.bool true) ∧ Below w.heap.size w W' := by
 have oA := fun W (h : Below w.heap.size w W) => awake3_any W (ht.next h) (TabQ_next ht2 h) (hS.next h)
 have oS := fun (k : Nat) W (hx : Sl W k [ta, tp, tb, tq, tc]) (h : Below w.heap.size w W) => sizes_any k [ta, tp, tb, tq, tc] W (by simp) (five_le ha hp hb hq hc) hx (ht.next h) (TabQ_next ht2 h)
 by_cases hf : [ta, tp, tb, tq, tc].all okS = true
 · rw [hf] at oS
   obtain ⟨f1, f2, f3, f4, f5⟩ := pre5 hf
   clear ha hp hb hq hc
   obtain ⟨a, rfl, ha⟩ := okS_num f1
   obtain ⟨p, rfl, hp⟩ := okS_num f2
   obtain ⟨b, rfl, hb⟩ := okS_num f3
   obtain ⟨q, rfl, hq⟩ := okS_num f4
   obtain ⟨c, rfl, hc⟩ := okS_num f5
   clear hf f1 f2 f3 f4 f5
   have op := fun W (h : Below w.heap.size w W) => lsign p 20 W hp (by decide) (ht.next h) (TabQ_next ht2 h)
   have oq := fun W (h : Below w.heap.size w W) => lsign q 20 W hq (by decide) (ht.next h) (TabQ_next ht2 h)
   by_cases p0 : p < 0
   · have n3 := cmp_neg.2 p0
     clear p0 hS ht ht2 oq
     have O := Lib.hid ((And.intro oS (And.intro op oA))); clear oS op oA
     generalize cmpQ p 0 = d at *
     generalize strQ a = sa at *
     generalize strQ p = sp at *
     generalize strQ b = sb at *
     generalize strQ q = sq at *
     generalize strQ c = sc at *
     go_enter Tryz.func8, Tryz.ntmps8
     have B0 := Lib.hid (Below.refl w.heap.size w)
     go_wp2_with fail
     have hSl := Sl.new5 w sa sp sb sq sc 22
     have BB := Lib.hid (B0.out.alloc B0.out.size (.cells #[.string sa, .string sp, .string sb, .string sq, .string sc] 22))
     generalize w.alloc (.cells #[.string sa, .string sp, .string sb, .string sq, .string sc] 22) = u0 at *
     generalize w.heap.size = k0 at hSl ⊢
     refine (O.out.1 _ _ hSl BB.out).mono ?_
     rintro e v1 ⟨rfl, b⟩
     have B1 := Lib.hid (BB.out.trans (b.mono BB.out.size)); clear b BB hSl B0
     go_wp2_with fail
     refine (O.out.2.1 _ B1.out).mono ?_
     rintro e v2 ⟨rfl, b⟩
     have B2 := Lib.hid (B1.out.trans (b.mono B1.out.size)); clear b B1
     go_wp2_with fail
     refine (O.out.2.2 _ B2.out).mono ?_
     rintro e v3 ⟨rfl, b⟩
     have B3 := Lib.hid (B2.out.trans (b.mono B2.out.size)); clear b B2
     go_wp2
     go_ret
     exact ⟨rfl, B3.out⟩
   · have n4 : ¬ cmpQ p 0 < 0 := fun k => p0 (cmp_neg.1 k)
     by_cases q0 : q < 0
     · have n3 := cmp_neg.2 q0
       clear q0 p0 hS ht ht2
       have O := Lib.hid ((And.intro oS (And.intro op (And.intro oq oA)))); clear oS op oq oA
       generalize cmpQ p 0 = d at *
       generalize cmpQ q 0 = d2 at *
       generalize strQ a = sa at *
       generalize strQ p = sp at *
       generalize strQ b = sb at *
       generalize strQ q = sq at *
       generalize strQ c = sc at *
       go_enter Tryz.func8, Tryz.ntmps8
       have B0 := Lib.hid (Below.refl w.heap.size w)
       go_wp2_with fail
       have hSl := Sl.new5 w sa sp sb sq sc 22
       have BB := Lib.hid (B0.out.alloc B0.out.size (.cells #[.string sa, .string sp, .string sb, .string sq, .string sc] 22))
       generalize w.alloc (.cells #[.string sa, .string sp, .string sb, .string sq, .string sc] 22) = u0 at *
       generalize w.heap.size = k0 at hSl ⊢
       refine (O.out.1 _ _ hSl BB.out).mono ?_
       rintro e v1 ⟨rfl, b⟩
       have B1 := Lib.hid (BB.out.trans (b.mono BB.out.size)); clear b BB hSl B0
       go_wp2_with fail
       refine (O.out.2.1 _ B1.out).mono ?_
       rintro e v2 ⟨rfl, b⟩
       have B2 := Lib.hid (B1.out.trans (b.mono B1.out.size)); clear b B1
       go_wp2_with fail
       refine (O.out.2.2.1 _ B2.out).mono ?_
       rintro e v3 ⟨rfl, b⟩
       have B3 := Lib.hid (B2.out.trans (b.mono B2.out.size)); clear b B2
       go_wp2_with fail
       refine (O.out.2.2.2 _ B3.out).mono ?_
       rintro e v4 ⟨rfl, b⟩
       have B4 := Lib.hid (B3.out.trans (b.mono B3.out.size)); clear b B3
       go_wp2
       go_ret
       exact ⟨rfl, B4.out⟩
     · have n5 : ¬ cmpQ q 0 < 0 := fun k => q0 (cmp_neg.1 k)
       have P0 : 0 ≤ p := by grind
       have Q0 : 0 ≤ q := by grind
       have up : ∀ {x : Rat}, Bq 20 x → Bq 90 x := fun h => h.up (by decide)
       obtain ⟨m1, m2, hac⟩ := qmul_ok ha hc (by decide)
       obtain ⟨m3, m4, hbc⟩ := qmul_ok hb hc (by decide)
       have hone : Bq 90 (1 : Rat) := Bq_one.up (by decide)
       have o1 := fun W (h : Below w.heap.size w W) => Compare_q3 a p b q W P0 Q0 (up ha) (up hp) (up hb) (up hq) (ht.next h) (TabQ_next ht2 h)
       have o2 := fun W (h : Below w.heap.size w W) => Compare_q3 b q a p W Q0 P0 (up hb) (up hq) (up ha) (up hp) (ht.next h) (TabQ_next ht2 h)
       have o3 := fun (k : Nat) W (hx : Sl W k [strQ a, strQ c]) (h : Below w.heap.size w W) => lt2 a c 20 W ha hc (by decide) (ht.next h) (TabQ_next ht2 h) k hx
       have o4 := fun (k : Nat) W (hx : Sl W k [strQ b, strQ c]) (h : Below w.heap.size w W) => lt2 b c 20 W hb hc (by decide) (ht.next h) (TabQ_next ht2 h) k hx
       have o5 := fun W (h : Below w.heap.size w W) => Compare_q3 (a * c) p (b * c) q W P0 Q0 (hac.up (by decide)) (up hp) (hbc.up (by decide)) (up hq) (ht.next h) (TabQ_next ht2 h)
       have o6 := fun W (h : Below w.heap.size w W) => Compare_q3 a 1 b 1 W (by decide) (by decide) (up ha) hone (up hb) hone (ht.next h) (TabQ_next ht2 h)
       have o7 := fun W (h : Below w.heap.size w W) => Compare_q a b W (ha.lim (by decide)) (hb.lim (by decide)) (ht.next h) (TabQ_next ht2 h)
       rw [(qcmp_ok ha hb (by decide)).1, (qcmp_ok ha hb (by decide)).2, cmpQR] at o7
       have o8 := fun W (h : Below w.heap.size w W) => Compare_q3 a p a p W P0 P0 (up ha) (up hp) (up ha) (up hp) (ht.next h) (TabQ_next ht2 h)
       have o9 := fun W (h : Below w.heap.size w W) => lsign c 20 W hc (by decide) (ht.next h) (TabQ_next ht2 h)
       rw [cmpR_swap (sg a * p)] at o2
       rw [order_times] at o5
       rw [order_one, strQ_one] at o6
       rw [own0] at o8
       rw [cmpQR] at o9
       have hm := mx4
       have hm2 := mx2
       have t1 := cmpR_three (sg a * p) (sg b * q)
       have t2 := cmpR_three c 0
       clear m1 m2 hac m3 m4 hbc hone up P0 Q0 p0 q0 ha hp hb hq hc hS ht ht2
       have O := Lib.hid ((And.intro oS (And.intro op (And.intro oq (And.intro o1 (And.intro o2 (And.intro o3 (And.intro o4 (And.intro o5 (And.intro o6 (And.intro o7 (And.intro o8 (And.intro o9 oA))))))))))))); clear oS op oq o1 o2 o3 o4 o5 o6 o7 o8 o9 oA
       generalize cmpQ p 0 = d at *
       generalize cmpQ q 0 = d2 at *
       generalize cmpR (sg a * p) (sg b * q) = r at *
       generalize cmpR c 0 = rc at *
       generalize cmpR a b = rab at *
       generalize strQ (a * c) = sac at *
       generalize strQ (b * c) = sbc at *
       generalize strQ a = sa at *
       generalize strQ p = sp at *
       generalize strQ b = sb at *
       generalize strQ q = sq at *
       generalize strQ c = sc at *
       rcases t1 with rfl | rfl | rfl <;> rcases t2 with rfl | rfl | rfl
       all_goals
         go_enter Tryz.func8, Tryz.ntmps8
         have B0 := Lib.hid (Below.refl w.heap.size w)
         go_wp2_with fail
         have hSl := Sl.new5 w sa sp sb sq sc 22
         have BB := Lib.hid (B0.out.alloc B0.out.size (.cells #[.string sa, .string sp, .string sb, .string sq, .string sc] 22))
         generalize w.alloc (.cells #[.string sa, .string sp, .string sb, .string sq, .string sc] 22) = u0 at *
         generalize w.heap.size = k0 at hSl ⊢
         refine (O.out.1 _ _ hSl BB.out).mono ?_
         rintro e v1 ⟨rfl, b⟩
         have B1 := Lib.hid (BB.out.trans (b.mono BB.out.size)); clear b BB hSl B0
         go_wp2_with fail
         refine (O.out.2.1 _ B1.out).mono ?_
         rintro e v2 ⟨rfl, b⟩
         have B2 := Lib.hid (B1.out.trans (b.mono B1.out.size)); clear b B1
         go_wp2_with fail
         refine (O.out.2.2.1 _ B2.out).mono ?_
         rintro e v3 ⟨rfl, b⟩
         have B3 := Lib.hid (B2.out.trans (b.mono B2.out.size)); clear b B2
         go_wp2_with fail
         refine (O.out.2.2.2.1 _ B3.out).mono ?_
         rintro e v4 ⟨rfl, b⟩
         have B4 := Lib.hid (B3.out.trans (b.mono B3.out.size)); clear b B3
         go_wp2_with fail
         refine (O.out.2.2.2.2.1 _ B4.out).mono ?_
         rintro e v5 ⟨rfl, b⟩
         have B5 := Lib.hid (B4.out.trans (b.mono B4.out.size)); clear b B4
         go_wp2_with fail
         have hSl := Sl.new2 v5 sa sc 22
         have BB := Lib.hid (B5.out.alloc B5.out.size (.cells #[.string sa, .string sc] 22))
         generalize v5.alloc (.cells #[.string sa, .string sc] 22) = u5 at *
         generalize v5.heap.size = k5 at hSl ⊢
         refine (O.out.2.2.2.2.2.1 _ _ hSl BB.out).mono ?_
         rintro e v6 ⟨rfl, b⟩
         have B6 := Lib.hid (BB.out.trans (b.mono BB.out.size)); clear b BB hSl B5
         go_wp2_with fail
         have hSl := Sl.new2 v6 sb sc 22
         have BB := Lib.hid (B6.out.alloc B6.out.size (.cells #[.string sb, .string sc] 22))
         generalize v6.alloc (.cells #[.string sb, .string sc] 22) = u6 at *
         generalize v6.heap.size = k6 at hSl ⊢
         refine (O.out.2.2.2.2.2.2.1 _ _ hSl BB.out).mono ?_
         rintro e v7 ⟨rfl, b⟩
         have B7 := Lib.hid (BB.out.trans (b.mono BB.out.size)); clear b BB hSl B6
         go_wp2_with fail
         refine (O.out.2.2.2.2.2.2.2.1 _ B7.out).mono ?_
         rintro e v8 ⟨rfl, b⟩
         have B8 := Lib.hid (B7.out.trans (b.mono B7.out.size)); clear b B7
         go_wp2_with fail
         refine (O.out.2.2.2.2.2.2.2.2.1 _ B8.out).mono ?_
         rintro e v9 ⟨rfl, b⟩
         have B9 := Lib.hid (B8.out.trans (b.mono B8.out.size)); clear b B8
         go_wp2_with fail
         refine (O.out.2.2.2.2.2.2.2.2.2.1 _ B9.out).mono ?_
         rintro e v10 ⟨rfl, b⟩
         have B10 := Lib.hid (B9.out.trans (b.mono B9.out.size)); clear b B9
         go_wp2_with fail
         refine (O.out.2.2.2.2.2.2.2.2.2.2.1 _ B10.out).mono ?_
         rintro e v11 ⟨rfl, b⟩
         have B11 := Lib.hid (B10.out.trans (b.mono B10.out.size)); clear b B10
         go_wp2_with fail
         refine (O.out.2.2.2.2.2.2.2.2.2.2.2.1 _ B11.out).mono ?_
         rintro e v12 ⟨rfl, b⟩
         have B12 := Lib.hid (B11.out.trans (b.mono B11.out.size)); clear b B11
         go_wp2_with fail
         refine (O.out.2.2.2.2.2.2.2.2.2.2.2.2 _ B12.out).mono ?_
         rintro e v13 ⟨rfl, b⟩
         have B13 := Lib.hid (B12.out.trans (b.mono B12.out.size)); clear b B12
         go_wp2
         go_ret
         exact ⟨rfl, B13.out⟩
 · have hf' : [ta, tp, tb, tq, tc].all okS = false := by simpa using hf
   rw [hf'] at oS
   clear hf hf' hS ht ht2 ha hp hb hq hc
   have oT := True.intro
   have O := Lib.hid ((And.intro oS (And.intro oA oT))); clear oS oA oT
   go_enter Tryz.func8, Tryz.ntmps8
   have B0 := Lib.hid (Below.refl w.heap.size w)
   go_wp2_with fail
   have hSl := Sl.new5 w ta tp tb tq tc 22
   have BB := Lib.hid (B0.out.alloc B0.out.size (.cells #[.string ta, .string tp, .string tb, .string tq, .string tc] 22))
   generalize w.alloc (.cells #[.string ta, .string tp, .string tb, .string tq, .string tc] 22) = u0 at *
   generalize w.heap.size = k0 at hSl ⊢
   refine (O.out.1 _ _ hSl BB.out).mono ?_
   rintro e v1 ⟨rfl, b⟩
   have B1 := Lib.hid (BB.out.trans (b.mono BB.out.size)); clear b BB hSl B0
   go_wp2_with fail
   refine (O.out.2.1 _ B1.out).mono ?_
   rintro e v2 ⟨rfl, b⟩
   have B2 := Lib.hid (B1.out.trans (b.mono B1.out.size)); clear b B1
   go_wp2
   go_ret
   exact ⟨rfl, B2.out⟩
end Go.Proofs.YtilggfeodhfjfaaGreatDoor.T
