/- Parts of the proofs of the texts YtilggfeodhfjfaaGreatDoorQS. -/
import Derived.Test.YtilggfeodhfjfaaGreatDoorQR1
import Derived.Test.YtilggfeodhfjfaaGreatDoorQR10
import Derived.Test.YtilggfeodhfjfaaGreatDoorQR11
import Derived.Test.YtilggfeodhfjfaaGreatDoorQR12
import Derived.Test.YtilggfeodhfjfaaGreatDoorQR13
import Derived.Test.YtilggfeodhfjfaaGreatDoorQR14
import Derived.Test.YtilggfeodhfjfaaGreatDoorQR15
import Derived.Test.YtilggfeodhfjfaaGreatDoorQR16
import Derived.Test.YtilggfeodhfjfaaGreatDoorQR17
import Derived.Test.YtilggfeodhfjfaaGreatDoorQR18
import Derived.Test.YtilggfeodhfjfaaGreatDoorQR19
import Derived.Test.YtilggfeodhfjfaaGreatDoorQR2
import Derived.Test.YtilggfeodhfjfaaGreatDoorQR20
import Derived.Test.YtilggfeodhfjfaaGreatDoorQR21
import Derived.Test.YtilggfeodhfjfaaGreatDoorQR22
import Derived.Test.YtilggfeodhfjfaaGreatDoorQR23
import Derived.Test.YtilggfeodhfjfaaGreatDoorQR24
import Derived.Test.YtilggfeodhfjfaaGreatDoorQR25
import Derived.Test.YtilggfeodhfjfaaGreatDoorQR26
import Derived.Test.YtilggfeodhfjfaaGreatDoorQR27
import Derived.Test.YtilggfeodhfjfaaGreatDoorQR28
import Derived.Test.YtilggfeodhfjfaaGreatDoorQR29
import Derived.Test.YtilggfeodhfjfaaGreatDoorQR3
import Derived.Test.YtilggfeodhfjfaaGreatDoorQR30
import Derived.Test.YtilggfeodhfjfaaGreatDoorQR4
import Derived.Test.YtilggfeodhfjfaaGreatDoorQR5
import Derived.Test.YtilggfeodhfjfaaGreatDoorQR6
import Derived.Test.YtilggfeodhfjfaaGreatDoorQR7
import Derived.Test.YtilggfeodhfjfaaGreatDoorQR8
import Derived.Test.YtilggfeodhfjfaaGreatDoorQR9
import Derived.Test.YtilggfeodhfjfaaGreatDoorQS1
import Derived.Test.YtilggfeodhfjfaaGreatDoorQS2
set_option linter.all false
set_option maxRecDepth 100000
set_option maxHeartbeats 8000000
namespace Go.Proofs.YtilggfeodhfjfaaGreatDoor.T
open Go.Proofs.YtilggfeodhfjfaaGreatDoor Go Go.RowKit
theorem RootNear_any (a u : ByteArray) (w : World) (ha : a.size ≤ maxLen) (hu : u.size ≤ maxLen) (ht : Tab w) (ht2 : Tab64 w) (hS : Sm w) :
   Calls Tryz.prog 10 #[.string a, .string u] w fun e W' => e = .returned (.bool true) ∧ Below w.heap.size w W' := by
 have oA := fun W (h : Below w.heap.size w W) => awake3_any W (ht.next h) (TabQ_next ht2 h) (hS.next h)
 have oS := fun (b : Nat) W (hx : Sl W b [a, u]) (h : Below w.heap.size w W) => sizes_any b [a, u] W (by simp) (two_le ha hu) hx (ht.next h) (TabQ_next ht2 h)
 by_cases hf : [a, u].all okS = true
 · rw [hf] at oS
   obtain ⟨hfa, hfu⟩ := pre2 hf
   obtain ⟨q, rfl, hq⟩ := okS_num hfa
   obtain ⟨v, rfl, hv⟩ := okS_num hfu
   clear hf hfa hfu ha hu
   have oq := fun W (h : Below w.heap.size w W) => lsign q 20 W hq (by decide) (ht.next h) (TabQ_next ht2 h)
   have ov := fun W (h : Below w.heap.size w W) => lsign v 20 W hv (by decide) (ht.next h) (TabQ_next ht2 h)
   have n1 := cmp_neg (x := q)
   have n2 := cmp_le (x := v) (y := 0)
   by_cases q0 : q < 0
   · have n3 := n1.2 q0
     clear n1 n2 q0 hS ht ht2 ov
     have O := Lib.hid ((And.intro oS (And.intro oq oA))); clear oS oq oA
     generalize cmpQ q 0 = c at *
     generalize strQ q = s at *
     generalize strQ v = t at *
     go_enter Tryz.func10, Tryz.ntmps10
     have B0 := Lib.hid (Below.refl w.heap.size w)
     go_wp2_with fail
     have hSl := Sl.new2 w s t 22
     have BB := Lib.hid (B0.out.alloc B0.out.size (.cells #[.string s, .string t] 22))
     generalize w.alloc (.cells #[.string s, .string t] 22) = u0 at *
     generalize w.heap.size = k0 at hSl ⊢
     refine (O.out.1 _ _ hSl BB.out).mono ?_
     rintro e v1 ⟨rfl, b⟩
     have B1 := Lib.hid (BB.out.trans (b.mono BB.out.size)); clear b BB hSl B0
     go_wp2_with fail
     refine (O.out.2.1 _ B1.out).mono ?_
     rintro e v2 ⟨rfl, b⟩
     have B2 := Lib.hid (B1.out.trans (b.mono B1.out.size)); clear b B1
     go_wp2_with fail
     refine (O.out.2.2 _ B2.out).mono ?_
     rintro e v3 ⟨rfl, b⟩
     have B3 := Lib.hid (B2.out.trans (b.mono B2.out.size)); clear b B2
     go_wp2
     go_ret
     exact ⟨rfl, B3.out⟩
   · have n4 : ¬ cmpQ q 0 < 0 := fun k => q0 (n1.1 k)
     by_cases v0 : v ≤ 0
     · have n3 := n2.2 v0
       clear n1 n2 q0 v0 hS ht ht2
       have O := Lib.hid ((And.intro oS (And.intro oq (And.intro ov oA)))); clear oS oq ov oA
       generalize cmpQ q 0 = c at *
       generalize cmpQ v 0 = d at *
       generalize strQ q = s at *
       generalize strQ v = t at *
       go_enter Tryz.func10, Tryz.ntmps10
       have B0 := Lib.hid (Below.refl w.heap.size w)
       go_wp2_with fail
       have hSl := Sl.new2 w s t 22
       have BB := Lib.hid (B0.out.alloc B0.out.size (.cells #[.string s, .string t] 22))
       generalize w.alloc (.cells #[.string s, .string t] 22) = u0 at *
       generalize w.heap.size = k0 at hSl ⊢
       refine (O.out.1 _ _ hSl BB.out).mono ?_
       rintro e v1 ⟨rfl, b⟩
       have B1 := Lib.hid (BB.out.trans (b.mono BB.out.size)); clear b BB hSl B0
       go_wp2_with fail
       refine (O.out.2.1 _ B1.out).mono ?_
       rintro e v2 ⟨rfl, b⟩
       have B2 := Lib.hid (B1.out.trans (b.mono B1.out.size)); clear b B1
       go_wp2_with fail
       refine (O.out.2.2.1 _ B2.out).mono ?_
       rintro e v3 ⟨rfl, b⟩
       have B3 := Lib.hid (B2.out.trans (b.mono B2.out.size)); clear b B2
       go_wp2_with fail
       refine (O.out.2.2.2 _ B3.out).mono ?_
       rintro e v4 ⟨rfl, b⟩
       have B4 := Lib.hid (B3.out.trans (b.mono B3.out.size)); clear b B3
       go_wp2
       go_ret
       exact ⟨rfl, B4.out⟩
     · have n5 : ¬ cmpQ v 0 ≤ 0 := fun k => v0 (n2.1 k)
       have Q0 : 0 ≤ q := by grind
       have V0 : 0 < v := by grind
       clear n1 n2 q0 v0
       obtain ⟨f1, f2⟩ := near_law (r := nearN (uN q v) (uD q v)) Q0 V0 rfl
       have hn := T.near_bd hq hv V0
       have hN := nat_Bq (k := 41) (by decide) hn
       have hX : Bq 61 ((nearN (uN q v) (uD q v) : Nat) * v) := (qmul_ok hN hv (by decide)).2.2
       have xv : ((nearN (uN q v) (uD q v) : Nat) : Rat) * v / v = ((nearN (uN q v) (uD q v) : Nat) : Rat) := nat_mul_div V0
       have hneg := near_neg (r := nearN (uN q v) (uD q v)) V0
       have o1 := fun W (h : Below w.heap.size w W) => T.Nearest_q q v W Q0 V0 (hq.up (by decide)) (hv.up (by decide)) (ht.next h) (TabQ_next ht2 h)
       generalize nearN (uN q v) (uD q v) = n at *
       generalize hx : ((n : Nat) : Rat) * v = x at *
       clear hx
       obtain ⟨d1, d2, _⟩ := qdiv_ok hX hv (by decide) (by grind)
       have o2 := fun W (h : Below w.heap.size w W) => Div_q x v W (hX.lim (by decide)) (hv.lim (by decide)) (by grind) (ht.next h) (TabQ_next ht2 h)
       rw [d1, d2, xv] at o2
       have o3 := fun W (h : Below w.heap.size w W) => Go.Proofs.YtilggfeodhfjfaaGreatDoor.Floor_q ((n : Nat) : Rat) W (hN.lim (by decide)) (ht.next h) (TabQ_next ht2 h)
       rw [natfl] at o3
       have h2b : Bq 1 (2 : Rat) := ⟨by decide +kernel, by decide +kernel⟩
       obtain ⟨g1, g2, hH⟩ := qdiv_ok hv h2b (by decide) (by decide)
       have o4 := fun W (h : Below w.heap.size w W) => Div_q v 2 W (hv.lim (by decide)) (h2b.lim (by decide)) (by decide) (ht.next h) (TabQ_next ht2 h)
       rw [g1, g2, s_2] at o4
       generalize v / 2 = y at *
       obtain ⟨e1, e2, hA⟩ := qadd_ok hX hH (by decide)
       have o5 := fun W (h : Below w.heap.size w W) => Add_q x y W (hX.lim (by decide)) (hH.lim (by decide)) (ht.next h) (TabQ_next ht2 h)
       rw [e1, e2] at o5
       obtain ⟨e3, e4, hS2⟩ := qsub_ok hX hH (by decide)
       have o6 := fun W (h : Below w.heap.size w W) => Sub_q x y W (hX.lim (by decide)) (hH.lim (by decide)) (ht.next h) (TabQ_next ht2 h)
       rw [e3, e4] at o6
       have o7 := fun (b : Nat) W (hx : Sl W b [strQ (x + y), strQ (x + y)]) (h : Below w.heap.size w W) => lt2 (x + y) (x + y) 83 W hA hA (by decide) (ht.next h) (TabQ_next ht2 h) b hx
       have o8 := fun W (h : Below w.heap.size w W) => Compare_q ((x + y) * (x + y)) q W ((sq_bd hA hA (by decide)).lim (by decide)) (hq.lim (by decide)) (ht.next h) (TabQ_next ht2 h)
       rw [(qcmp_ok (sq_bd hA hA (by decide)) hq (by decide)).1, (qcmp_ok (sq_bd hA hA (by decide)) hq (by decide)).2] at o8
       have o9 := fun (b : Nat) W (hx : Sl W b [strQ (x - y), strQ (x - y)]) (h : Below w.heap.size w W) => lt2 (x - y) (x - y) 83 W hS2 hS2 (by decide) (ht.next h) (TabQ_next ht2 h) b hx
       have p0 := fun W (h : Below w.heap.size w W) => Compare_q ((x - y) * (x - y)) q W ((sq_bd hS2 hS2 (by decide)).lim (by decide)) (hq.lim (by decide)) (ht.next h) (TabQ_next ht2 h)
       rw [(qcmp_ok (sq_bd hS2 hS2 (by decide)) hq (by decide)).1, (qcmp_ok (sq_bd hS2 hS2 (by decide)) hq (by decide)).2] at p0
       have p1 := fun W (h : Below w.heap.size w W) => lsign (x - y) 83 W hS2 (by decide) (ht.next h) (TabQ_next ht2 h)
       have y1 : 0 < cmpQ ((x + y) * (x + y)) q := by
         have := cmpQ_gt f1
         rw [this]; decide
       have y2 : cmpQ ((x - y) * (x - y)) q ≤ 0 ∨ cmpQ (x - y) 0 < 0 := by
         rcases f2 with k | k
         · exact .inr (cmp_neg.2 (hneg k))
         · exact .inl (cmp_le.2 k)
       have hm := mx4
       have hm2 := mx2
       clear f1 f2 hn hN hX xv d1 d2 e1 e2 e3 e4 g1 g2 hA hS2 hH h2b hneg Q0 V0 hq hv hS ht ht2
       have O := Lib.hid ((And.intro oS (And.intro oq (And.intro ov (And.intro o1 (And.intro o2 (And.intro o3 (And.intro o4 (And.intro o5 (And.intro o6 (And.intro o7 (And.intro o8 (And.intro o9 (And.intro p0 (And.intro p1 oA))))))))))))))); clear oS oq ov o1 o2 o3 o4 o5 o6 o7 o8 o9 p0 p1 oA
       generalize cmpQ q 0 = c at *
       generalize cmpQ v 0 = d at *
       generalize cmpQ (x - y) 0 = g0 at *
       generalize cmpQ ((x + y) * (x + y)) q = g1 at *
       generalize cmpQ ((x - y) * (x - y)) q = g2 at *
       generalize strQ ((x + y) * (x + y)) = saa at *
       generalize strQ ((x - y) * (x - y)) = sll at *
       generalize strQ (x + y) = sa at *
       generalize strQ (x - y) = sl at *
       generalize strQ ((n : Nat) : Rat) = sn at *
       generalize strQ x = sx at *
       generalize strQ y = sh at *
       generalize strQ q = s at *
       generalize strQ v = t at *
       by_cases y3 : g2 ≤ 0
       · clear y2
         go_enter Tryz.func10, Tryz.ntmps10
         have B0 := Lib.hid (Below.refl w.heap.size w)
         go_wp2_with fail
         have hSl := Sl.new2 w s t 22
         have BB := Lib.hid (B0.out.alloc B0.out.size (.cells #[.string s, .string t] 22))
         generalize w.alloc (.cells #[.string s, .string t] 22) = u0 at *
         generalize w.heap.size = k0 at hSl ⊢
         refine (O.out.1 _ _ hSl BB.out).mono ?_
         rintro e v1 ⟨rfl, b⟩
         have B1 := Lib.hid (BB.out.trans (b.mono BB.out.size)); clear b BB hSl B0
         go_wp2_with fail
         refine (O.out.2.1 _ B1.out).mono ?_
         rintro e v2 ⟨rfl, b⟩
         have B2 := Lib.hid (B1.out.trans (b.mono B1.out.size)); clear b B1
         go_wp2_with fail
         refine (O.out.2.2.1 _ B2.out).mono ?_
         rintro e v3 ⟨rfl, b⟩
         have B3 := Lib.hid (B2.out.trans (b.mono B2.out.size)); clear b B2
         go_wp2_with fail
         refine (O.out.2.2.2.1 _ B3.out).mono ?_
         rintro e v4 ⟨rfl, b⟩
         have B4 := Lib.hid (B3.out.trans (b.mono B3.out.size)); clear b B3
         go_wp2_with fail
         refine (O.out.2.2.2.2.1 _ B4.out).mono ?_
         rintro e v5 ⟨rfl, b⟩
         have B5 := Lib.hid (B4.out.trans (b.mono B4.out.size)); clear b B4
         go_wp2_with fail
         refine (O.out.2.2.2.2.2.1 _ B5.out).mono ?_
         rintro e v6 ⟨rfl, b⟩
         have B6 := Lib.hid (B5.out.trans (b.mono B5.out.size)); clear b B5
         go_wp2_with fail
         refine (O.out.2.2.2.2.2.2.1 _ B6.out).mono ?_
         rintro e v7 ⟨rfl, b⟩
         have B7 := Lib.hid (B6.out.trans (b.mono B6.out.size)); clear b B6
         go_wp2_with fail
         refine (O.out.2.2.2.2.2.2.2.1 _ B7.out).mono ?_
         rintro e v8 ⟨rfl, b⟩
         have B8 := Lib.hid (B7.out.trans (b.mono B7.out.size)); clear b B7
         go_wp2_with fail
         refine (O.out.2.2.2.2.2.2.2.2.1 _ B8.out).mono ?_
         rintro e v9 ⟨rfl, b⟩
         have B9 := Lib.hid (B8.out.trans (b.mono B8.out.size)); clear b B8
         go_wp2_with fail
         have hSl := Sl.new2 v9 sa sa 22
         have BB := Lib.hid (B9.out.alloc B9.out.size (.cells #[.string sa, .string sa] 22))
         generalize v9.alloc (.cells #[.string sa, .string sa] 22) = u9 at *
         generalize v9.heap.size = k9 at hSl ⊢
         refine (O.out.2.2.2.2.2.2.2.2.2.1 _ _ hSl BB.out).mono ?_
         rintro e v10 ⟨rfl, b⟩
         have B10 := Lib.hid (BB.out.trans (b.mono BB.out.size)); clear b BB hSl B9
         go_wp2_with fail
         refine (O.out.2.2.2.2.2.2.2.2.2.2.1 _ B10.out).mono ?_
         rintro e v11 ⟨rfl, b⟩
         have B11 := Lib.hid (B10.out.trans (b.mono B10.out.size)); clear b B10
         go_wp2_with fail
         have hSl := Sl.new2 v11 sl sl 22
         have BB := Lib.hid (B11.out.alloc B11.out.size (.cells #[.string sl, .string sl] 22))
         generalize v11.alloc (.cells #[.string sl, .string sl] 22) = u11 at *
         generalize v11.heap.size = k11 at hSl ⊢
         refine (O.out.2.2.2.2.2.2.2.2.2.2.2.1 _ _ hSl BB.out).mono ?_
         rintro e v12 ⟨rfl, b⟩
         have B12 := Lib.hid (BB.out.trans (b.mono BB.out.size)); clear b BB hSl B11
         go_wp2_with fail
         refine (O.out.2.2.2.2.2.2.2.2.2.2.2.2.1 _ B12.out).mono ?_
         rintro e v13 ⟨rfl, b⟩
         have B13 := Lib.hid (B12.out.trans (b.mono B12.out.size)); clear b B12
         go_wp2_with fail
         refine (O.out.2.2.2.2.2.2.2.2.2.2.2.2.2.2 _ B13.out).mono ?_
         rintro e v14 ⟨rfl, b⟩
         have B14 := Lib.hid (B13.out.trans (b.mono B13.out.size)); clear b B13
         go_wp2
         go_ret
         exact ⟨rfl, B14.out⟩
       · have y4 := y2.resolve_left y3
         clear y2
         go_enter Tryz.func10, Tryz.ntmps10
         have B0 := Lib.hid (Below.refl w.heap.size w)
         go_wp2_with fail
         have hSl := Sl.new2 w s t 22
         have BB := Lib.hid (B0.out.alloc B0.out.size (.cells #[.string s, .string t] 22))
         generalize w.alloc (.cells #[.string s, .string t] 22) = u0 at *
         generalize w.heap.size = k0 at hSl ⊢
         refine (O.out.1 _ _ hSl BB.out).mono ?_
         rintro e v1 ⟨rfl, b⟩
         have B1 := Lib.hid (BB.out.trans (b.mono BB.out.size)); clear b BB hSl B0
         go_wp2_with fail
         refine (O.out.2.1 _ B1.out).mono ?_
         rintro e v2 ⟨rfl, b⟩
         have B2 := Lib.hid (B1.out.trans (b.mono B1.out.size)); clear b B1
         go_wp2_with fail
         refine (O.out.2.2.1 _ B2.out).mono ?_
         rintro e v3 ⟨rfl, b⟩
         have B3 := Lib.hid (B2.out.trans (b.mono B2.out.size)); clear b B2
         go_wp2_with fail
         refine (O.out.2.2.2.1 _ B3.out).mono ?_
         rintro e v4 ⟨rfl, b⟩
         have B4 := Lib.hid (B3.out.trans (b.mono B3.out.size)); clear b B3
         go_wp2_with fail
         refine (O.out.2.2.2.2.1 _ B4.out).mono ?_
         rintro e v5 ⟨rfl, b⟩
         have B5 := Lib.hid (B4.out.trans (b.mono B4.out.size)); clear b B4
         go_wp2_with fail
         refine (O.out.2.2.2.2.2.1 _ B5.out).mono ?_
         rintro e v6 ⟨rfl, b⟩
         have B6 := Lib.hid (B5.out.trans (b.mono B5.out.size)); clear b B5
         go_wp2_with fail
         refine (O.out.2.2.2.2.2.2.1 _ B6.out).mono ?_
         rintro e v7 ⟨rfl, b⟩
         have B7 := Lib.hid (B6.out.trans (b.mono B6.out.size)); clear b B6
         go_wp2_with fail
         refine (O.out.2.2.2.2.2.2.2.1 _ B7.out).mono ?_
         rintro e v8 ⟨rfl, b⟩
         have B8 := Lib.hid (B7.out.trans (b.mono B7.out.size)); clear b B7
         go_wp2_with fail
         refine (O.out.2.2.2.2.2.2.2.2.1 _ B8.out).mono ?_
         rintro e v9 ⟨rfl, b⟩
         have B9 := Lib.hid (B8.out.trans (b.mono B8.out.size)); clear b B8
         go_wp2_with fail
         have hSl := Sl.new2 v9 sa sa 22
         have BB := Lib.hid (B9.out.alloc B9.out.size (.cells #[.string sa, .string sa] 22))
         generalize v9.alloc (.cells #[.string sa, .string sa] 22) = u9 at *
         generalize v9.heap.size = k9 at hSl ⊢
         refine (O.out.2.2.2.2.2.2.2.2.2.1 _ _ hSl BB.out).mono ?_
         rintro e v10 ⟨rfl, b⟩
         have B10 := Lib.hid (BB.out.trans (b.mono BB.out.size)); clear b BB hSl B9
         go_wp2_with fail
         refine (O.out.2.2.2.2.2.2.2.2.2.2.1 _ B10.out).mono ?_
         rintro e v11 ⟨rfl, b⟩
         have B11 := Lib.hid (B10.out.trans (b.mono B10.out.size)); clear b B10
         go_wp2_with fail
         have hSl := Sl.new2 v11 sl sl 22
         have BB := Lib.hid (B11.out.alloc B11.out.size (.cells #[.string sl, .string sl] 22))
         generalize v11.alloc (.cells #[.string sl, .string sl] 22) = u11 at *
         generalize v11.heap.size = k11 at hSl ⊢
         refine (O.out.2.2.2.2.2.2.2.2.2.2.2.1 _ _ hSl BB.out).mono ?_
         rintro e v12 ⟨rfl, b⟩
         have B12 := Lib.hid (BB.out.trans (b.mono BB.out.size)); clear b BB hSl B11
         go_wp2_with fail
         refine (O.out.2.2.2.2.2.2.2.2.2.2.2.2.1 _ B12.out).mono ?_
         rintro e v13 ⟨rfl, b⟩
         have B13 := Lib.hid (B12.out.trans (b.mono B12.out.size)); clear b B12
         go_wp2_with fail
         refine (O.out.2.2.2.2.2.2.2.2.2.2.2.2.2.1 _ B13.out).mono ?_
         rintro e v14 ⟨rfl, b⟩
         have B14 := Lib.hid (B13.out.trans (b.mono B13.out.size)); clear b B13
         go_wp2_with fail
         refine (O.out.2.2.2.2.2.2.2.2.2.2.2.2.2.2 _ B14.out).mono ?_
         rintro e v15 ⟨rfl, b⟩
         have B15 := Lib.hid (B14.out.trans (b.mono B14.out.size)); clear b B14
         go_wp2
         go_ret
         exact ⟨rfl, B15.out⟩
 · have hf' : [a, u].all okS = false := by simpa using hf
   rw [hf'] at oS
   clear hf hf' hS ht ht2 ha hu
   have oT := True.intro
   have O := Lib.hid ((And.intro oS (And.intro oA oT))); clear oS oA oT
   go_enter Tryz.func10, Tryz.ntmps10
   have B0 := Lib.hid (Below.refl w.heap.size w)
   go_wp2_with fail
   have hSl := Sl.new2 w a u 22
   have BB := Lib.hid (B0.out.alloc B0.out.size (.cells #[.string a, .string u] 22))
   generalize w.alloc (.cells #[.string a, .string u] 22) = u0 at *
   generalize w.heap.size = k0 at hSl ⊢
   refine (O.out.1 _ _ hSl BB.out).mono ?_
   rintro e v1 ⟨rfl, b⟩
   have B1 := Lib.hid (BB.out.trans (b.mono BB.out.size)); clear b BB hSl B0
   go_wp2_with fail
   refine (O.out.2.1 _ B1.out).mono ?_
   rintro e v2 ⟨rfl, b⟩
   have B2 := Lib.hid (B1.out.trans (b.mono B1.out.size)); clear b B1
   go_wp2
   go_ret
   exact ⟨rfl, B2.out⟩
end Go.Proofs.YtilggfeodhfjfaaGreatDoor.T
namespace Go.Proofs.YtilggfeodhfjfaaGreatDoor.T
open Go.Proofs.YtilggfeodhfjfaaGreatDoor Go Go.RowKit
theorem pre1 {a : ByteArray} (h : [a].all okS = true) : okS a = true := by simpa using h
theorem rootR_bd {k : Nat} {z : Rat} (hz : Bq k z) (hb : bothS z) : Bq k (rootR z) := by
 have p : rootN z.den ≠ 0 := fun e => by have := hb.2; rw [e] at this; have := z.den_pos; omega
 have e : rootR z = Rat.divInt (rootN z.num.natAbs : Nat) ((rootN z.den : Nat) : Int) := rfl
 rw [e]
 refine Bq.of_int (by omega) ?_ ?_
 · show Int.natAbs _ < _; rw [Int.natAbs_natCast]; exact Nat.lt_of_le_of_lt rootN_pos_le hz.1
 · show Int.natAbs _ < _; rw [Int.natAbs_natCast]; exact Nat.lt_of_le_of_lt rootN_pos_le hz.2
theorem nN_eq1 {q : Rat} (h0 : 0 ≤ q) : nN q = 1 ↔ bothS q := (nN_one h0).trans (bothS_is h0).symm
theorem str_n1 (n : Nat) : ((strB (n : Int)).toList == [49]) = decide (n = 1) := by
 rw [str_is1]
 by_cases h : n = 1
 · subst h; rfl
 · rw [decide_eq_false h, decide_eq_false (by omega)]
theorem RootExact_any (a : ByteArray) (w : World) (ha : a.size ≤ maxLen) (ht : Tab w) (ht2 : Tab64 w) (hS : Sm w) :
   Calls Tryz.prog 6 #[.string a] w fun e W' => e = .returned (.bool true) ∧ Below w.heap.size w W' := by
 have oA := fun W (h : Below w.heap.size w W) => awake3_any W (ht.next h) (TabQ_next ht2 h) (hS.next h)
 have oS := fun (b : Nat) W (hx : Sl W b [a]) (h : Below w.heap.size w W) => sizes_any b [a] W (by simp) (by intro s hs; rw [List.mem_singleton.1 hs]; exact ha) hx (ht.next h) (TabQ_next ht2 h)
 by_cases hf : [a].all okS = true
 · rw [hf] at oS
   obtain ⟨q, rfl, hq⟩ := okS_num (pre1 hf)
   clear hf ha
   have hz : Bq 40 (q * q) := sq_bd hq hq (by decide)
   have bz : bothS (q * q) := bothS_sq ⟨q, rfl⟩
   have z0 : 0 ≤ q * q := sq_nonneg q
   have hX := rootR_bd hz bz
   have xx := rootR_sq z0 bz
   have xg := rootR_nonneg bz
   have o1 := fun (b : Nat) W (hx : Sl W b [strQ q, strQ q]) (h : Below w.heap.size w W) => lt2 q q 20 W hq hq (by decide) (ht.next h) (TabQ_next ht2 h) b hx
   have o2 := fun W (h : Below w.heap.size w W) => Exact_yes (q * q) W z0 (hz.up (by decide)) bz (ht.next h) (TabQ_next ht2 h)
   have o3 := fun W (h : Below w.heap.size w W) => lsign (rootR (q * q)) 40 W hX (by decide) (ht.next h) (TabQ_next ht2 h)
   have o4 := fun (b : Nat) W (hx : Sl W b [strQ (rootR (q * q)), strQ (rootR (q * q))]) (h : Below w.heap.size w W) => lt2 (rootR (q * q)) (rootR (q * q)) 40 W hX hX (by decide) (ht.next h) (TabQ_next ht2 h) b hx
   rw [xx] at o4
   have y1 : ¬ cmpQ (rootR (q * q)) 0 < 0 := fun k => by have := cmp_neg.1 k; grind
   have o5 := fun W (h : Below w.heap.size w W) => lsign q 20 W hq (by decide) (ht.next h) (TabQ_next ht2 h)
   by_cases q0 : q < 0
   · have y2 := cmp_neg.2 q0
     have o6 := fun W (h : Below w.heap.size w W) => Exact_neg q W q0 (hq.up (by decide)) (ht.next h) (TabQ_next ht2 h)
     clear hz bz z0 hX xx xg q0 hq hS ht ht2
     have O := Lib.hid ((And.intro oS (And.intro o1 (And.intro o2 (And.intro o3 (And.intro o4 (And.intro o5 (And.intro o6 oA)))))))); clear oS o1 o2 o3 o4 o5 o6 oA
     generalize cmpQ (rootR (q * q)) 0 = c at *
     generalize cmpQ q 0 = d at *
     generalize strQ (rootR (q * q)) = sx at *
     generalize strQ (q * q) = sz at *
     generalize strQ q = s at *
     go_enter Tryz.func6, Tryz.ntmps6
     have B0 := Lib.hid (Below.refl w.heap.size w)
     go_wp2_with fail
     have hSl := Sl.new1 w s 22
     have BB := Lib.hid (B0.out.alloc B0.out.size (.cells #[.string s] 22))
     generalize w.alloc (.cells #[.string s] 22) = u0 at *
     generalize w.heap.size = k0 at hSl ⊢
     refine (O.out.1 _ _ hSl BB.out).mono ?_
     rintro e v1 ⟨rfl, b⟩
     have B1 := Lib.hid (BB.out.trans (b.mono BB.out.size)); clear b BB hSl B0
     go_wp2_with fail
     have hSl := Sl.new2 v1 s s 22
     have BB := Lib.hid (B1.out.alloc B1.out.size (.cells #[.string s, .string s] 22))
     generalize v1.alloc (.cells #[.string s, .string s] 22) = u1 at *
     generalize v1.heap.size = k1 at hSl ⊢
     refine (O.out.2.1 _ _ hSl BB.out).mono ?_
     rintro e v2 ⟨rfl, b⟩
     have B2 := Lib.hid (BB.out.trans (b.mono BB.out.size)); clear b BB hSl B1
     go_wp2_with fail
     refine (O.out.2.2.1 _ B2.out).mono ?_
     rintro e v3 ⟨rfl, b⟩
     have B3 := Lib.hid (B2.out.trans (b.mono B2.out.size)); clear b B2
     go_wp2_with fail
     refine (O.out.2.2.2.1 _ B3.out).mono ?_
     rintro e v4 ⟨rfl, b⟩
     have B4 := Lib.hid (B3.out.trans (b.mono B3.out.size)); clear b B3
     go_wp2_with fail
     have hSl := Sl.new2 v4 sx sx 22
     have BB := Lib.hid (B4.out.alloc B4.out.size (.cells #[.string sx, .string sx] 22))
     generalize v4.alloc (.cells #[.string sx, .string sx] 22) = u4 at *
     generalize v4.heap.size = k4 at hSl ⊢
     refine (O.out.2.2.2.2.1 _ _ hSl BB.out).mono ?_
     rintro e v5 ⟨rfl, b⟩
     have B5 := Lib.hid (BB.out.trans (b.mono BB.out.size)); clear b BB hSl B4
     go_wp2_with fail
     have hSl := Sl.new2 v5 s s 22
     have BB := Lib.hid (B5.out.alloc B5.out.size (.cells #[.string s, .string s] 22))
     generalize v5.alloc (.cells #[.string s, .string s] 22) = u5 at *
     generalize v5.heap.size = k5 at hSl ⊢
     refine (O.out.2.1 _ _ hSl BB.out).mono ?_
     rintro e v6 ⟨rfl, b⟩
     have B6 := Lib.hid (BB.out.trans (b.mono BB.out.size)); clear b BB hSl B5
     go_wp2_with fail
     refine (O.out.2.2.2.2.2.1 _ B6.out).mono ?_
     rintro e v7 ⟨rfl, b⟩
     have B7 := Lib.hid (B6.out.trans (b.mono B6.out.size)); clear b B6
     go_wp2_with fail
     refine (O.out.2.2.2.2.2.2.1 _ B7.out).mono ?_
     rintro e v8 ⟨rfl, b⟩
     have B8 := Lib.hid (B7.out.trans (b.mono B7.out.size)); clear b B7
     go_wp2_with fail
     refine (O.out.2.2.2.2.2.2.2 _ B8.out).mono ?_
     rintro e v9 ⟨rfl, b⟩
     have B9 := Lib.hid (B8.out.trans (b.mono B8.out.size)); clear b B8
     go_wp2
     go_ret
     exact ⟨rfl, B9.out⟩
   · have y2 : ¬ cmpQ q 0 < 0 := fun k => q0 (cmp_neg.1 k)
     have Q0 : 0 ≤ q := by grind
     have o7 := fun W (h : Below w.heap.size w W) => Normal_q q W Q0 (hq.up (by decide)) (ht.next h) (TabQ_next ht2 h) (hS.next h)
     have hn1 := str_n1 (nN q)
     by_cases hb : bothS q
     · rw [decide_eq_true ((nN_eq1 Q0).2 hb)] at hn1
       have hY := rootR_bd hq hb
       have yy := rootR_sq Q0 hb
       have yg := rootR_nonneg hb
       have o6 := fun W (h : Below w.heap.size w W) => Exact_yes q W Q0 (hq.up (by decide)) hb (ht.next h) (TabQ_next ht2 h)
       have o8 := fun W (h : Below w.heap.size w W) => lsign (rootR q) 20 W hY (by decide) (ht.next h) (TabQ_next ht2 h)
       have o9 := fun (b : Nat) W (hx : Sl W b [strQ (rootR q), strQ (rootR q)]) (h : Below w.heap.size w W) => lt2 (rootR q) (rootR q) 20 W hY hY (by decide) (ht.next h) (TabQ_next ht2 h) b hx
       rw [yy] at o9
       have y3 : 0 ≤ cmpQ (rootR q) 0 := Int.not_lt.1 fun k => by have := cmp_neg.1 k; grind
       have hm := mx2
       clear hz bz z0 hX xx xg q0 hq hS ht ht2 hb hY yy yg Q0
       have O := Lib.hid ((And.intro oS (And.intro o1 (And.intro o2 (And.intro o3 (And.intro o4 (And.intro o5 (And.intro o6 (And.intro o7 (And.intro o8 (And.intro o9 oA))))))))))); clear oS o1 o2 o3 o4 o5 o6 o7 o8 o9 oA
       generalize cmpQ (rootR (q * q)) 0 = c at *
       generalize cmpQ q 0 = d at *
       generalize strQ (rootR (q * q)) = sx at *
       generalize strQ (q * q) = sz at *
       generalize cmpQ (rootR q) 0 = g at *
       generalize strQ (rootR q) = sy at *
       generalize strQ (nC q) = sc at *
       generalize strB (nN q : Nat) = sn at *
       generalize strQ q = s at *
       go_enter Tryz.func6, Tryz.ntmps6
       have B0 := Lib.hid (Below.refl w.heap.size w)
       go_wp2_with fail
       have hSl := Sl.new1 w s 22
       have BB := Lib.hid (B0.out.alloc B0.out.size (.cells #[.string s] 22))
       generalize w.alloc (.cells #[.string s] 22) = u0 at *
       generalize w.heap.size = k0 at hSl ⊢
       refine (O.out.1 _ _ hSl BB.out).mono ?_
       rintro e v1 ⟨rfl, b⟩
       have B1 := Lib.hid (BB.out.trans (b.mono BB.out.size)); clear b BB hSl B0
       go_wp2_with fail
       have hSl := Sl.new2 v1 s s 22
       have BB := Lib.hid (B1.out.alloc B1.out.size (.cells #[.string s, .string s] 22))
       generalize v1.alloc (.cells #[.string s, .string s] 22) = u1 at *
       generalize v1.heap.size = k1 at hSl ⊢
       refine (O.out.2.1 _ _ hSl BB.out).mono ?_
       rintro e v2 ⟨rfl, b⟩
       have B2 := Lib.hid (BB.out.trans (b.mono BB.out.size)); clear b BB hSl B1
       go_wp2_with fail
       refine (O.out.2.2.1 _ B2.out).mono ?_
       rintro e v3 ⟨rfl, b⟩
       have B3 := Lib.hid (B2.out.trans (b.mono B2.out.size)); clear b B2
       go_wp2_with fail
       refine (O.out.2.2.2.1 _ B3.out).mono ?_
       rintro e v4 ⟨rfl, b⟩
       have B4 := Lib.hid (B3.out.trans (b.mono B3.out.size)); clear b B3
       go_wp2_with fail
       have hSl := Sl.new2 v4 sx sx 22
       have BB := Lib.hid (B4.out.alloc B4.out.size (.cells #[.string sx, .string sx] 22))
       generalize v4.alloc (.cells #[.string sx, .string sx] 22) = u4 at *
       generalize v4.heap.size = k4 at hSl ⊢
       refine (O.out.2.2.2.2.1 _ _ hSl BB.out).mono ?_
       rintro e v5 ⟨rfl, b⟩
       have B5 := Lib.hid (BB.out.trans (b.mono BB.out.size)); clear b BB hSl B4
       go_wp2_with fail
       have hSl := Sl.new2 v5 s s 22
       have BB := Lib.hid (B5.out.alloc B5.out.size (.cells #[.string s, .string s] 22))
       generalize v5.alloc (.cells #[.string s, .string s] 22) = u5 at *
       generalize v5.heap.size = k5 at hSl ⊢
       refine (O.out.2.1 _ _ hSl BB.out).mono ?_
       rintro e v6 ⟨rfl, b⟩
       have B6 := Lib.hid (BB.out.trans (b.mono BB.out.size)); clear b BB hSl B5
       go_wp2_with fail
       refine (O.out.2.2.2.2.2.1 _ B6.out).mono ?_
       rintro e v7 ⟨rfl, b⟩
       have B7 := Lib.hid (B6.out.trans (b.mono B6.out.size)); clear b B6
       go_wp2_with fail
       refine (O.out.2.2.2.2.2.2.1 _ B7.out).mono ?_
       rintro e v8 ⟨rfl, b⟩
       have B8 := Lib.hid (B7.out.trans (b.mono B7.out.size)); clear b B7
       go_wp2_with fail
       refine (O.out.2.2.2.2.2.2.2.1 _ B8.out).mono ?_
       rintro e v9 ⟨rfl, b⟩
       have B9 := Lib.hid (B8.out.trans (b.mono B8.out.size)); clear b B8
       go_wp2_with fail
       refine (O.out.2.2.2.2.2.2.2.2.1 _ B9.out).mono ?_
       rintro e v10 ⟨rfl, b⟩
       have B10 := Lib.hid (B9.out.trans (b.mono B9.out.size)); clear b B9
       go_wp2_with fail
       have hSl := Sl.new2 v10 sy sy 22
       have BB := Lib.hid (B10.out.alloc B10.out.size (.cells #[.string sy, .string sy] 22))
       generalize v10.alloc (.cells #[.string sy, .string sy] 22) = u10 at *
       generalize v10.heap.size = k10 at hSl ⊢
       refine (O.out.2.2.2.2.2.2.2.2.2.1 _ _ hSl BB.out).mono ?_
       rintro e v11 ⟨rfl, b⟩
       have B11 := Lib.hid (BB.out.trans (b.mono BB.out.size)); clear b BB hSl B10
       go_wp2_with fail
       refine (O.out.2.2.2.2.2.2.2.2.2.2 _ B11.out).mono ?_
       rintro e v12 ⟨rfl, b⟩
       have B12 := Lib.hid (B11.out.trans (b.mono B11.out.size)); clear b B11
       go_wp2
       go_ret
       exact ⟨rfl, B12.out⟩
     · rw [decide_eq_false (fun k => hb ((nN_eq1 Q0).1 k))] at hn1
       have o6 := fun W (h : Below w.heap.size w W) => Exact_no q W Q0 (hq.up (by decide)) hb (ht.next h) (TabQ_next ht2 h)
       have hm := mx2
       clear hz bz z0 hX xx xg q0 hq hS ht ht2 hb Q0
       have O := Lib.hid ((And.intro oS (And.intro o1 (And.intro o2 (And.intro o3 (And.intro o4 (And.intro o5 (And.intro o6 (And.intro o7 oA))))))))); clear oS o1 o2 o3 o4 o5 o6 o7 oA
       generalize cmpQ (rootR (q * q)) 0 = c at *
       generalize cmpQ q 0 = d at *
       generalize strQ (rootR (q * q)) = sx at *
       generalize strQ (q * q) = sz at *
       generalize strQ (nC q) = sc at *
       generalize strB (nN q : Nat) = sn at *
       generalize strQ q = s at *
       go_enter Tryz.func6, Tryz.ntmps6
       have B0 := Lib.hid (Below.refl w.heap.size w)
       go_wp2_with fail
       have hSl := Sl.new1 w s 22
       have BB := Lib.hid (B0.out.alloc B0.out.size (.cells #[.string s] 22))
       generalize w.alloc (.cells #[.string s] 22) = u0 at *
       generalize w.heap.size = k0 at hSl ⊢
       refine (O.out.1 _ _ hSl BB.out).mono ?_
       rintro e v1 ⟨rfl, b⟩
       have B1 := Lib.hid (BB.out.trans (b.mono BB.out.size)); clear b BB hSl B0
       go_wp2_with fail
       have hSl := Sl.new2 v1 s s 22
       have BB := Lib.hid (B1.out.alloc B1.out.size (.cells #[.string s, .string s] 22))
       generalize v1.alloc (.cells #[.string s, .string s] 22) = u1 at *
       generalize v1.heap.size = k1 at hSl ⊢
       refine (O.out.2.1 _ _ hSl BB.out).mono ?_
       rintro e v2 ⟨rfl, b⟩
       have B2 := Lib.hid (BB.out.trans (b.mono BB.out.size)); clear b BB hSl B1
       go_wp2_with fail
       refine (O.out.2.2.1 _ B2.out).mono ?_
       rintro e v3 ⟨rfl, b⟩
       have B3 := Lib.hid (B2.out.trans (b.mono B2.out.size)); clear b B2
       go_wp2_with fail
       refine (O.out.2.2.2.1 _ B3.out).mono ?_
       rintro e v4 ⟨rfl, b⟩
       have B4 := Lib.hid (B3.out.trans (b.mono B3.out.size)); clear b B3
       go_wp2_with fail
       have hSl := Sl.new2 v4 sx sx 22
       have BB := Lib.hid (B4.out.alloc B4.out.size (.cells #[.string sx, .string sx] 22))
       generalize v4.alloc (.cells #[.string sx, .string sx] 22) = u4 at *
       generalize v4.heap.size = k4 at hSl ⊢
       refine (O.out.2.2.2.2.1 _ _ hSl BB.out).mono ?_
       rintro e v5 ⟨rfl, b⟩
       have B5 := Lib.hid (BB.out.trans (b.mono BB.out.size)); clear b BB hSl B4
       go_wp2_with fail
       have hSl := Sl.new2 v5 s s 22
       have BB := Lib.hid (B5.out.alloc B5.out.size (.cells #[.string s, .string s] 22))
       generalize v5.alloc (.cells #[.string s, .string s] 22) = u5 at *
       generalize v5.heap.size = k5 at hSl ⊢
       refine (O.out.2.1 _ _ hSl BB.out).mono ?_
       rintro e v6 ⟨rfl, b⟩
       have B6 := Lib.hid (BB.out.trans (b.mono BB.out.size)); clear b BB hSl B5
       go_wp2_with fail
       refine (O.out.2.2.2.2.2.1 _ B6.out).mono ?_
       rintro e v7 ⟨rfl, b⟩
       have B7 := Lib.hid (B6.out.trans (b.mono B6.out.size)); clear b B6
       go_wp2_with fail
       refine (O.out.2.2.2.2.2.2.1 _ B7.out).mono ?_
       rintro e v8 ⟨rfl, b⟩
       have B8 := Lib.hid (B7.out.trans (b.mono B7.out.size)); clear b B7
       go_wp2_with fail
       refine (O.out.2.2.2.2.2.2.2.1 _ B8.out).mono ?_
       rintro e v9 ⟨rfl, b⟩
       have B9 := Lib.hid (B8.out.trans (b.mono B8.out.size)); clear b B8
       go_wp2_with fail
       refine (O.out.2.2.2.2.2.2.2.2 _ B9.out).mono ?_
       rintro e v10 ⟨rfl, b⟩
       have B10 := Lib.hid (B9.out.trans (b.mono B9.out.size)); clear b B9
       go_wp2
       go_ret
       exact ⟨rfl, B10.out⟩
 · have hf' : [a].all okS = false := by simpa using hf
   rw [hf'] at oS
   clear hf hf' hS ht ht2 ha
   have oT := True.intro
   have O := Lib.hid ((And.intro oS (And.intro oA oT))); clear oS oA oT
   go_enter Tryz.func6, Tryz.ntmps6
   have B0 := Lib.hid (Below.refl w.heap.size w)
   go_wp2_with fail
   have hSl := Sl.new1 w a 22
   have BB := Lib.hid (B0.out.alloc B0.out.size (.cells #[.string a] 22))
   generalize w.alloc (.cells #[.string a] 22) = u0 at *
   generalize w.heap.size = k0 at hSl ⊢
   refine (O.out.1 _ _ hSl BB.out).mono ?_
   rintro e v1 ⟨rfl, b⟩
   have B1 := Lib.hid (BB.out.trans (b.mono BB.out.size)); clear b BB hSl B0
   go_wp2_with fail
   refine (O.out.2.1 _ B1.out).mono ?_
   rintro e v2 ⟨rfl, b⟩
   have B2 := Lib.hid (B1.out.trans (b.mono B1.out.size)); clear b B1
   go_wp2
   go_ret
   exact ⟨rfl, B2.out⟩
end Go.Proofs.YtilggfeodhfjfaaGreatDoor.T
namespace Go.Proofs.YtilggfeodhfjfaaGreatDoor.T
open Go.Proofs.YtilggfeodhfjfaaGreatDoor Go Go.RowKit
theorem nz48 {u : Rat} (h : u ≠ 0) : ((strQ u).toList == [48]) = false := by
 rw [Bool.eq_false_iff]; intro k
 have h2 := (is0_iff _).1 k
 rw [← strQ_zero] at h2
 exact h (strQ_inj h2)
theorem Ratio_yes (p q : Rat) (w : World) (p0 : 0 ≤ p) (q0 : 0 < q) (z0 : 0 ≤ p / q) (hp : Bq 90 p) (hq : Bq 90 q) (hb : bothS (p / q)) (ht : Tab w) (ht2 : Tab64 w) :
   Calls Tryz.prog 18 #[.string (strQ p), .string (strQ q)] w fun e W' => e = .returned (.tuple #[.string (strQ (rootR (p / q))), .bool true, .int .i64 0]) ∧ Below w.heap.size w W' := by
 have o1 := fun (b : Nat) W (hx : Sl W b [strQ p, strQ q]) (h : Below w.heap.size w W) => check_ok2 b p q W hp hq hx (ht.next h) (TabQ_next ht2 h)
 have o2 := fun (b : Nat) W (hx : Sl W b [strQ p, strQ q]) (_ : Below w.heap.size w W) => croots_any b [strQ p, strQ q] W (by simp) hx
 rw [nn2 p0 (Rat.le_of_lt q0)] at o2
 have qn : q ≠ 0 := by grind
 have hz := nz48 qn
 obtain ⟨d1, d2, hZ⟩ := qdiv_ok hp hq (by decide) qn
 have o3 := fun W (h : Below w.heap.size w W) => Div_q p q W (hp.lim (by decide)) (hq.lim (by decide)) qn (ht.next h) (TabQ_next ht2 h)
 rw [d1, d2] at o3
 have o4 := fun W (_ : Below w.heap.size w W) => oparts_q (p / q) W (hZ.lim (by decide))
 have o5 := fun W (h : Below w.heap.size w W) => oroot (p / q) (.tuple #[.string (strQ (rootR (p / q))), .bool true]) W z0 (hZ.lim (by decide)) (ht.next h) (fun _ => rfl) (fun k => absurd hb k)
 have O := Lib.hid (And.intro o1 (And.intro o2 (And.intro o3 (And.intro o4 o5)))); clear o1 o2 o3 o4 o5 ht ht2 p0 q0 z0 hp hq hb qn d1 d2 hZ
 generalize strB (p / q).num = n at *
 generalize strB ((p / q).den : Int) = d at *
 generalize strQ (rootR (p / q)) = c at *
 generalize strQ (p / q) = z at *
 generalize strQ p = s at *
 generalize strQ q = t at *
 go_enter Tryz.func18, Tryz.ntmps18
 go_wp2_with fail
 have hS1 := Sl.new2 w s t 22
 have BB := Lib.hid ((Below.refl _ w).alloc (Nat.le_refl _) (.cells #[.string s, .string t] 22))
 generalize w.alloc (.cells #[.string s, .string t] 22) = v0 at *
 generalize hk0 : w.heap.size = k0 at hS1
 refine (O.out.1 _ _ hS1 BB.out).mono ?_
 rintro e v1 ⟨rfl, b⟩
 have B1 := Lib.hid (BB.out.trans (b.mono BB.out.size)); clear b BB hS1 hk0
 go_wp2_with fail
 have hS2 := Sl.new2 v1 s t 22
 have BB := Lib.hid (B1.out.alloc B1.out.size (.cells #[.string s, .string t] 22))
 generalize v1.alloc (.cells #[.string s, .string t] 22) = v2 at *
 generalize v1.heap.size = k1 at hS2 ⊢
 refine (O.out.2.1 _ _ hS2 BB.out).mono ?_
 rintro e v3 ⟨rfl, b⟩
 have B3 := Lib.hid (BB.out.trans (b.mono BB.out.size)); clear b BB hS2 B1
 go_wp2_with fail
 have hS3 := Blk.new v3 #[.int .i64 0, .int .i64 0] 26
 have BB := Lib.hid (B3.out.alloc B3.out.size (.cells #[.int .i64 0, .int .i64 0] 26))
 generalize v3.alloc (.cells #[.int .i64 0, .int .i64 0] 26) = v4 at *
 generalize v3.heap.size = k3 at hS3 ⊢
 refine (cmpOr2 _ 0 0 v4 hS3).mono ?_
 rintro e v5 ⟨rfl, b⟩
 rw [if_pos rfl]
 have B5 := Lib.hid (BB.out.trans (b.mono BB.out.size)); clear b BB hS3 B3
 go_wp2_with fail
 refine (O.out.2.2.1 _ B5.out).mono ?_
 rintro e v6 ⟨rfl, b⟩
 have B6 := Lib.hid (B5.out.trans (b.mono B5.out.size)); clear b B5
 go_wp2_with fail
 refine (O.out.2.2.2.1 _ B6.out).mono ?_
 rintro e v7 ⟨rfl, b⟩
 have B7 := Lib.hid (B6.out.trans (b.mono B6.out.size)); clear b B6
 go_wp2_with fail
 refine (O.out.2.2.2.2 _ B7.out).mono ?_
 rintro e v8 ⟨rfl, b⟩
 have B8 := Lib.hid (B7.out.trans (b.mono B7.out.size)); clear b B7
 go_wp2
 go_ret3
 exact ⟨rfl, B8.out⟩
theorem Ratio_no (p q : Rat) (w : World) (p0 : 0 ≤ p) (q0 : 0 < q) (z0 : 0 ≤ p / q) (hp : Bq 90 p) (hq : Bq 90 q) (hb : ¬ bothS (p / q)) (ht : Tab w) (ht2 : Tab64 w) :
   Calls Tryz.prog 18 #[.string (strQ p), .string (strQ q)] w fun e W' => e = .returned (.tuple #[.string ⟨#[]⟩, .bool false, .int .i64 0]) ∧ Below w.heap.size w W' := by
 have o1 := fun (b : Nat) W (hx : Sl W b [strQ p, strQ q]) (h : Below w.heap.size w W) => check_ok2 b p q W hp hq hx (ht.next h) (TabQ_next ht2 h)
 have o2 := fun (b : Nat) W (hx : Sl W b [strQ p, strQ q]) (_ : Below w.heap.size w W) => croots_any b [strQ p, strQ q] W (by simp) hx
 rw [nn2 p0 (Rat.le_of_lt q0)] at o2
 have qn : q ≠ 0 := by grind
 have hz := nz48 qn
 obtain ⟨d1, d2, hZ⟩ := qdiv_ok hp hq (by decide) qn
 have o3 := fun W (h : Below w.heap.size w W) => Div_q p q W (hp.lim (by decide)) (hq.lim (by decide)) qn (ht.next h) (TabQ_next ht2 h)
 rw [d1, d2] at o3
 have o4 := fun W (_ : Below w.heap.size w W) => oparts_q (p / q) W (hZ.lim (by decide))
 have o5 := fun W (h : Below w.heap.size w W) => oroot (p / q) (.tuple #[.string ⟨#[]⟩, .bool false]) W z0 (hZ.lim (by decide)) (ht.next h) (fun k => absurd k hb) (fun _ => rfl)
 have O := Lib.hid (And.intro o1 (And.intro o2 (And.intro o3 (And.intro o4 o5)))); clear o1 o2 o3 o4 o5 ht ht2 p0 q0 z0 hp hq hb qn d1 d2 hZ
 generalize strB (p / q).num = n at *
 generalize strB ((p / q).den : Int) = d at *
 generalize strQ (p / q) = z at *
 generalize strQ p = s at *
 generalize strQ q = t at *
 go_enter Tryz.func18, Tryz.ntmps18
 go_wp2_with fail
 have hS1 := Sl.new2 w s t 22
 have BB := Lib.hid ((Below.refl _ w).alloc (Nat.le_refl _) (.cells #[.string s, .string t] 22))
 generalize w.alloc (.cells #[.string s, .string t] 22) = v0 at *
 generalize hk0 : w.heap.size = k0 at hS1
 refine (O.out.1 _ _ hS1 BB.out).mono ?_
 rintro e v1 ⟨rfl, b⟩
 have B1 := Lib.hid (BB.out.trans (b.mono BB.out.size)); clear b BB hS1 hk0
 go_wp2_with fail
 have hS2 := Sl.new2 v1 s t 22
 have BB := Lib.hid (B1.out.alloc B1.out.size (.cells #[.string s, .string t] 22))
 generalize v1.alloc (.cells #[.string s, .string t] 22) = v2 at *
 generalize v1.heap.size = k1 at hS2 ⊢
 refine (O.out.2.1 _ _ hS2 BB.out).mono ?_
 rintro e v3 ⟨rfl, b⟩
 have B3 := Lib.hid (BB.out.trans (b.mono BB.out.size)); clear b BB hS2 B1
 go_wp2_with fail
 have hS3 := Blk.new v3 #[.int .i64 0, .int .i64 0] 26
 have BB := Lib.hid (B3.out.alloc B3.out.size (.cells #[.int .i64 0, .int .i64 0] 26))
 generalize v3.alloc (.cells #[.int .i64 0, .int .i64 0] 26) = v4 at *
 generalize v3.heap.size = k3 at hS3 ⊢
 refine (cmpOr2 _ 0 0 v4 hS3).mono ?_
 rintro e v5 ⟨rfl, b⟩
 rw [if_pos rfl]
 have B5 := Lib.hid (BB.out.trans (b.mono BB.out.size)); clear b BB hS3 B3
 go_wp2_with fail
 refine (O.out.2.2.1 _ B5.out).mono ?_
 rintro e v6 ⟨rfl, b⟩
 have B6 := Lib.hid (B5.out.trans (b.mono B5.out.size)); clear b B5
 go_wp2_with fail
 refine (O.out.2.2.2.1 _ B6.out).mono ?_
 rintro e v7 ⟨rfl, b⟩
 have B7 := Lib.hid (B6.out.trans (b.mono B6.out.size)); clear b B6
 go_wp2_with fail
 refine (O.out.2.2.2.2 _ B7.out).mono ?_
 rintro e v8 ⟨rfl, b⟩
 have B8 := Lib.hid (B7.out.trans (b.mono B7.out.size)); clear b B7
 go_wp2
 go_ret3
 exact ⟨rfl, B8.out⟩
end Go.Proofs.YtilggfeodhfjfaaGreatDoor.T
