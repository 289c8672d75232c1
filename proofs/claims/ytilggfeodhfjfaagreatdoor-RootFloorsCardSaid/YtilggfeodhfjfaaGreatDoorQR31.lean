/- Parts of the proof of the text YtilggfeodhfjfaaGreatDoorQR31. -/
import Derived.Test.YtilggfeodhfjfaaGreatDoorQR1
import Derived.Test.YtilggfeodhfjfaaGreatDoorQR30
set_option linter.all false
set_option maxRecDepth 100000
set_option maxHeartbeats 8000000
namespace Go.Proofs.YtilggfeodhfjfaaGreatDoor.T
open Go.Proofs.YtilggfeodhfjfaaGreatDoor Go Go.RowKit
theorem RootFloors_any (a u : ByteArray) (w : World) (ha : a.size ≤ maxLen) (hu : u.size ≤ maxLen) (ht : Tab w) (ht2 : Tab64 w) (hS : Sm w) :
   Calls Tryz.prog 9 #[.string a, .string u] w fun e W' => e = .returned (.bool true) ∧ Below w.heap.size w W' := by
 have oA := fun W (h : Below w.heap.size w W) => awake3_any W (ht.next h) (TabQ_next ht2 h) (hS.next h)
 have oS := fun (b : Nat) W (hx : Sl W b [a, u]) (h : Below w.heap.size w W) => sizes_any b [a, u] W (by simp) (two_le ha hu) hx (ht.next h) (TabQ_next ht2 h)
 by_cases hf : [a, u].all okS = true
 · rw [hf] at oS
   obtain ⟨hfa, hfu⟩ := pre2 hf
   obtain ⟨q, rfl, hq⟩ := okS_num hfa
   obtain ⟨v, rfl, hv⟩ := okS_num hfu
   clear hf hfa hfu ha hu
   have oq := fun W (h : Below w.heap.size w W) => lsign q 20 W hq (by decide) (ht.next h) (TabQ_next ht2 h)
   have ov := fun W (h : Below w.heap.size w W) => lsign v 20 W hv (by decide) (ht.next h) (TabQ_next ht2 h)
   have n1 := cmp_neg (x := q)
   have n2 := cmp_le (x := v) (y := 0)
   by_cases q0 : q < 0
   · have n3 := n1.2 q0
     clear n1 n2 q0 hS ht ht2 ov
     have O := Lib.hid ((And.intro oS (And.intro oq oA))); clear oS oq oA
     generalize cmpQ q 0 = c at *
     generalize strQ q = s at *
     generalize strQ v = t at *
     go_enter Tryz.func9, Tryz.ntmps9
     have B0 := Lib.hid (Below.refl w.heap.size w)
     go_wp2_with fail
     have hSl := Sl.new2 w s t 22
     have BB := Lib.hid (B0.out.alloc B0.out.size (.cells #[.string s, .string t] 22))
     generalize w.alloc (.cells #[.string s, .string t] 22) = u0 at *
     generalize w.heap.size = k0 at hSl ⊢
     refine (O.out.1 _ _ hSl BB.out).mono ?_
     rintro e v1 ⟨rfl, b⟩
     have B1 := Lib.hid (BB.out.trans (b.mono BB.out.size)); clear b BB hSl B0
     go_wp2_with fail
     refine (O.out.2.1 _ B1.out).mono ?_
     rintro e v2 ⟨rfl, b⟩
     have B2 := Lib.hid (B1.out.trans (b.mono B1.out.size)); clear b B1
     go_wp2_with fail
     refine (O.out.2.2 _ B2.out).mono ?_
     rintro e v3 ⟨rfl, b⟩
     have B3 := Lib.hid (B2.out.trans (b.mono B2.out.size)); clear b B2
     go_wp2
     go_ret
     exact ⟨rfl, B3.out⟩
   · have n4 : ¬ cmpQ q 0 < 0 := fun k => q0 (n1.1 k)
     by_cases v0 : v ≤ 0
     · have n3 := n2.2 v0
       clear n1 n2 q0 v0 hS ht ht2
       have O := Lib.hid ((And.intro oS (And.intro oq (And.intro ov oA)))); clear oS oq ov oA
       generalize cmpQ q 0 = c at *
       generalize cmpQ v 0 = d at *
       generalize strQ q = s at *
       generalize strQ v = t at *
       go_enter Tryz.func9, Tryz.ntmps9
       have B0 := Lib.hid (Below.refl w.heap.size w)
       go_wp2_with fail
       have hSl := Sl.new2 w s t 22
       have BB := Lib.hid (B0.out.alloc B0.out.size (.cells #[.string s, .string t] 22))
       generalize w.alloc (.cells #[.string s, .string t] 22) = u0 at *
       generalize w.heap.size = k0 at hSl ⊢
       refine (O.out.1 _ _ hSl BB.out).mono ?_
       rintro e v1 ⟨rfl, b⟩
       have B1 := Lib.hid (BB.out.trans (b.mono BB.out.size)); clear b BB hSl B0
       go_wp2_with fail
       refine (O.out.2.1 _ B1.out).mono ?_
       rintro e v2 ⟨rfl, b⟩
       have B2 := Lib.hid (B1.out.trans (b.mono B1.out.size)); clear b B1
       go_wp2_with fail
       refine (O.out.2.2.1 _ B2.out).mono ?_
       rintro e v3 ⟨rfl, b⟩
       have B3 := Lib.hid (B2.out.trans (b.mono B2.out.size)); clear b B2
       go_wp2_with fail
       refine (O.out.2.2.2 _ B3.out).mono ?_
       rintro e v4 ⟨rfl, b⟩
       have B4 := Lib.hid (B3.out.trans (b.mono B3.out.size)); clear b B3
       go_wp2
       go_ret
       exact ⟨rfl, B4.out⟩
     · have n5 : ¬ cmpQ v 0 ≤ 0 := fun k => v0 (n2.1 k)
       have Q0 : 0 ≤ q := by grind
       have V0 : 0 < v := by grind
       clear n1 n2 q0 v0
       obtain ⟨f1, f2⟩ := floor_law Q0 V0
       have hn := T.fl_bd hq hv V0
       have hN := nat_Bq (k := 40) (by decide) hn
       have hX : Bq 60 ((flN q v : Nat) * v) := (qmul_ok hN hv (by decide)).2.2
       have xv : ((flN q v : Nat) : Rat) * v / v = ((flN q v : Nat) : Rat) := nat_mul_div V0
       have x0 : ¬ cmpQ ((flN q v : Nat) * v) 0 < 0 := fun k => by have := cmp_neg.1 k; have := nat_mul_nonneg (r := flN q v) V0; grind
       have o1 := fun W (h : Below w.heap.size w W) => T.Floor_q q v W Q0 V0 (hq.up (by decide)) (hv.up (by decide)) (ht.next h) (TabQ_next ht2 h)
       generalize flN q v = n at *
       generalize hx : ((n : Nat) : Rat) * v = x at *
       clear hx
       obtain ⟨d1, d2, _⟩ := qdiv_ok hX hv (by decide) (by grind)
       have o2 := fun W (h : Below w.heap.size w W) => Div_q x v W (hX.lim (by decide)) (hv.lim (by decide)) (by grind) (ht.next h) (TabQ_next ht2 h)
       rw [d1, d2, xv] at o2
       have o3 := fun W (h : Below w.heap.size w W) => Go.Proofs.YtilggfeodhfjfaaGreatDoor.Floor_q ((n : Nat) : Rat) W (hN.lim (by decide)) (ht.next h) (TabQ_next ht2 h)
       rw [natfl] at o3
       obtain ⟨e1, e2, hNX⟩ := qadd_ok hX hv (by decide)
       have o4 := fun W (h : Below w.heap.size w W) => Add_q x v W (hX.lim (by decide)) (hv.lim (by decide)) (ht.next h) (TabQ_next ht2 h)
       rw [e1, e2] at o4
       have o5 := fun W (h : Below w.heap.size w W) => lsign x 60 W hX (by decide) (ht.next h) (TabQ_next ht2 h)
       have o6 := fun (b : Nat) W (hx : Sl W b [strQ x, strQ x]) (h : Below w.heap.size w W) => lt2 x x 60 W hX hX (by decide) (ht.next h) (TabQ_next ht2 h) b hx
       have o7 := fun W (h : Below w.heap.size w W) => Compare_q (x * x) q W ((sq_bd hX hX (by decide)).lim (by decide)) (hq.lim (by decide)) (ht.next h) (TabQ_next ht2 h)
       rw [(qcmp_ok (sq_bd hX hX (by decide)) hq (by decide)).1, (qcmp_ok (sq_bd hX hX (by decide)) hq (by decide)).2] at o7
       have o8 := fun (b : Nat) W (hx : Sl W b [strQ (x + v), strQ (x + v)]) (h : Below w.heap.size w W) => lt2 (x + v) (x + v) 81 W hNX hNX (by decide) (ht.next h) (TabQ_next ht2 h) b hx
       have o9 := fun W (h : Below w.heap.size w W) => Compare_q ((x + v) * (x + v)) q W ((sq_bd hNX hNX (by decide)).lim (by decide)) (hq.lim (by decide)) (ht.next h) (TabQ_next ht2 h)
       rw [(qcmp_ok (sq_bd hNX hNX (by decide)) hq (by decide)).1, (qcmp_ok (sq_bd hNX hNX (by decide)) hq (by decide)).2] at o9
       have y1 : cmpQ (x * x) q ≤ 0 := cmp_le.2 f1
       have y2 : 0 < cmpQ ((x + v) * (x + v)) q := by
         have := cmpQ_gt f2
         rw [this]; decide
       have hm := mx4
       clear f1 f2 hn hN hX xv d1 d2 e1 e2 hNX Q0 V0 hq hv hS ht ht2
       have O := Lib.hid ((And.intro oS (And.intro oq (And.intro ov (And.intro o1 (And.intro o2 (And.intro o3 (And.intro o4 (And.intro o5 (And.intro o6 (And.intro o7 (And.intro o8 (And.intro o9 oA))))))))))))); clear oS oq ov o1 o2 o3 o4 o5 o6 o7 o8 o9 oA
       generalize cmpQ q 0 = c at *
       generalize cmpQ v 0 = d at *
       generalize cmpQ x 0 = g at *
       generalize cmpQ (x * x) q = g1 at *
       generalize cmpQ ((x + v) * (x + v)) q = g2 at *
       generalize strQ (x * x) = sxx at *
       generalize strQ ((x + v) * (x + v)) = syy at *
       generalize strQ (x + v) = sy at *
       generalize strQ ((n : Nat) : Rat) = sn at *
       generalize strQ x = sx at *
       generalize strQ q = s at *
       generalize strQ v = t at *
       go_enter Tryz.func9, Tryz.ntmps9
       have B0 := Lib.hid (Below.refl w.heap.size w)
       go_wp2_with fail
       have hSl := Sl.new2 w s t 22
       have BB := Lib.hid (B0.out.alloc B0.out.size (.cells #[.string s, .string t] 22))
       generalize w.alloc (.cells #[.string s, .string t] 22) = u0 at *
       generalize w.heap.size = k0 at hSl ⊢
       refine (O.out.1 _ _ hSl BB.out).mono ?_
       rintro e v1 ⟨rfl, b⟩
       have B1 := Lib.hid (BB.out.trans (b.mono BB.out.size)); clear b BB hSl B0
       go_wp2_with fail
       refine (O.out.2.1 _ B1.out).mono ?_
       rintro e v2 ⟨rfl, b⟩
       have B2 := Lib.hid (B1.out.trans (b.mono B1.out.size)); clear b B1
       go_wp2_with fail
       refine (O.out.2.2.1 _ B2.out).mono ?_
       rintro e v3 ⟨rfl, b⟩
       have B3 := Lib.hid (B2.out.trans (b.mono B2.out.size)); clear b B2
       go_wp2_with fail
       refine (O.out.2.2.2.1 _ B3.out).mono ?_
       rintro e v4 ⟨rfl, b⟩
       have B4 := Lib.hid (B3.out.trans (b.mono B3.out.size)); clear b B3
       go_wp2_with fail
       refine (O.out.2.2.2.2.1 _ B4.out).mono ?_
       rintro e v5 ⟨rfl, b⟩
       have B5 := Lib.hid (B4.out.trans (b.mono B4.out.size)); clear b B4
       go_wp2_with fail
       refine (O.out.2.2.2.2.2.1 _ B5.out).mono ?_
       rintro e v6 ⟨rfl, b⟩
       have B6 := Lib.hid (B5.out.trans (b.mono B5.out.size)); clear b B5
       go_wp2_with fail
       refine (O.out.2.2.2.2.2.2.1 _ B6.out).mono ?_
       rintro e v7 ⟨rfl, b⟩
       have B7 := Lib.hid (B6.out.trans (b.mono B6.out.size)); clear b B6
       go_wp2_with fail
       refine (O.out.2.2.2.2.2.2.2.1 _ B7.out).mono ?_
       rintro e v8 ⟨rfl, b⟩
       have B8 := Lib.hid (B7.out.trans (b.mono B7.out.size)); clear b B7
       go_wp2_with fail
       have hSl := Sl.new2 v8 sx sx 22
       have BB := Lib.hid (B8.out.alloc B8.out.size (.cells #[.string sx, .string sx] 22))
       generalize v8.alloc (.cells #[.string sx, .string sx] 22) = u8 at *
       generalize v8.heap.size = k8 at hSl ⊢
       refine (O.out.2.2.2.2.2.2.2.2.1 _ _ hSl BB.out).mono ?_
       rintro e v9 ⟨rfl, b⟩
       have B9 := Lib.hid (BB.out.trans (b.mono BB.out.size)); clear b BB hSl B8
       go_wp2_with fail
       refine (O.out.2.2.2.2.2.2.2.2.2.1 _ B9.out).mono ?_
       rintro e v10 ⟨rfl, b⟩
       have B10 := Lib.hid (B9.out.trans (b.mono B9.out.size)); clear b B9
       go_wp2_with fail
       have hSl := Sl.new2 v10 sy sy 22
       have BB := Lib.hid (B10.out.alloc B10.out.size (.cells #[.string sy, .string sy] 22))
       generalize v10.alloc (.cells #[.string sy, .string sy] 22) = u10 at *
       generalize v10.heap.size = k10 at hSl ⊢
       refine (O.out.2.2.2.2.2.2.2.2.2.2.1 _ _ hSl BB.out).mono ?_
       rintro e v11 ⟨rfl, b⟩
       have B11 := Lib.hid (BB.out.trans (b.mono BB.out.size)); clear b BB hSl B10
       go_wp2_with fail
       refine (O.out.2.2.2.2.2.2.2.2.2.2.2.1 _ B11.out).mono ?_
       rintro e v12 ⟨rfl, b⟩
       have B12 := Lib.hid (B11.out.trans (b.mono B11.out.size)); clear b B11
       go_wp2_with fail
       refine (O.out.2.2.2.2.2.2.2.2.2.2.2.2 _ B12.out).mono ?_
       rintro e v13 ⟨rfl, b⟩
       have B13 := Lib.hid (B12.out.trans (b.mono B12.out.size)); clear b B12
       go_wp2
       go_ret
       exact ⟨rfl, B13.out⟩
 · have hf' : [a, u].all okS = false := by simpa using hf
   rw [hf'] at oS
   clear hf hf' hS ht ht2 ha hu
   have oT := True.intro
   have O := Lib.hid ((And.intro oS (And.intro oA oT))); clear oS oA oT
   go_enter Tryz.func9, Tryz.ntmps9
   have B0 := Lib.hid (Below.refl w.heap.size w)
   go_wp2_with fail
   have hSl := Sl.new2 w a u 22
   have BB := Lib.hid (B0.out.alloc B0.out.size (.cells #[.string a, .string u] 22))
   generalize w.alloc (.cells #[.string a, .string u] 22) = u0 at *
   generalize w.heap.size = k0 at hSl ⊢
   refine (O.out.1 _ _ hSl BB.out).mono ?_
   rintro e v1 ⟨rfl, b⟩
   have B1 := Lib.hid (BB.out.trans (b.mono BB.out.size)); clear b BB hSl B0
   go_wp2_with fail
   refine (O.out.2.1 _ B1.out).mono ?_
   rintro e v2 ⟨rfl, b⟩
   have B2 := Lib.hid (B1.out.trans (b.mono B1.out.size)); clear b B1
   go_wp2
   go_ret
   exact ⟨rfl, B2.out⟩
end Go.Proofs.YtilggfeodhfjfaaGreatDoor.T
