/- Parts of the proof of the text YtmafghdgmdbpnaaGreatDoorQY30. -/
import Derived.Test.YtmafghdgmdbpnaaGreatDoorQY1
import Derived.Test.YtmafghdgmdbpnaaGreatDoorQY15
import Derived.Test.YtmafghdgmdbpnaaGreatDoorQY17
import Derived.Test.YtmafghdgmdbpnaaGreatDoorQY23
import Derived.Test.YtmafghdgmdbpnaaGreatDoorQY8
set_option linter.all false
set_option maxRecDepth 100000
set_option maxHeartbeats 8000000
namespace Go.Proofs.YtmafghdgmdbpnaaGreatDoor.R
open Go.RowKit
theorem Divide_any (a b : ByteArray) (w : World) (ha : a.size ≤ 1000) (hb : b.size ≤ 1000) (ht : Tab w) :
   Calls Tryz.prog 83 #[.string a, .string b] w fun e W' => e = .returned (.tuple #[.string (divQ (chk2 a.data.toList b.data.toList) (valOf a.data.toList) (valOf b.data.toList)), .string (divR (chk2 a.data.toList b.data.toList) (valOf a.data.toList) (valOf b.data.toList)), .int .i64 (divE (chk2 a.data.toList b.data.toList) (valOf b.data.toList))]) ∧ Below w.heap.size w W' := by
 have cb := both_any a b w (by unfold maxLen; omega) (by unfold maxLen; omega)
 by_cases hz : chk2 a.data.toList b.data.toList = 0
 · obtain ⟨k1, k2⟩ := chk2_zero hz
   rw [hz]
   by_cases h0 : valOf b.data.toList = 0
   · rw [h0, (div_zero _).1, (div_zero _).2.1, (div_zero 0).2.2]
     have e48 := chk_48 k2 h0
     have hb48 : (b.toList == [48]) = true := by rw [ByteArray.toList_eq, e48]; rfl
     rw [hz] at cb
     have C := Lib.hid cb
     clear cb e48 h0 k1 k2 hz ht
     go_enter Tryz.func83, Tryz.ntmps83
     go_wp2_with fail
     refine C.out.mono ?_
     rintro e w' ⟨rfl, rfl⟩
     go_wp2
     go_ret3
     exact ⟨rfl, Below.refl _ _⟩
   · rw [(div_ok h0).1, (div_ok h0).2.1, (div_ok (x := 0) h0).2.2]
     by_cases hs : a.size ≤ 17 ∧ b.size ≤ 17
     · exact Divide_short a b w hs.1 hs.2 k1 k2 h0 ht
     · exact Divide_long a b w hs k1 k2 h0
 · rw [(div_bad hz _ _).1, (div_bad hz _ _).2.1, (div_bad hz 0 _).2.2]
   generalize chk2 a.data.toList b.data.toList = e at *
   have C := Lib.hid cb
   have hn : (e != 0) = true := by simpa using hz
   clear cb hz ht
   go_enter Tryz.func83, Tryz.ntmps83
   go_wp2_with fail
   refine C.out.mono ?_
   rintro e w' ⟨rfl, rfl⟩
   go_wp2
   go_ret3
   exact ⟨rfl, Below.refl _ _⟩
def gcdB (e : Int) (x y : Nat) : ByteArray := if e = 0 then strB (Nat.gcd x y : Nat) else ⟨#[]⟩
theorem Gcd_any (a b : ByteArray) (w : World) (ha : a.size ≤ maxLen) (hb : b.size ≤ maxLen) (ht : Tab w) :
   Calls Tryz.prog 74 #[.string a, .string b] w fun e W' => e = .returned (.tuple #[.string (gcdB (chk2 a.data.toList b.data.toList) (natOf (szL a.data.toList)) (natOf (szL b.data.toList))), .int .i64 (chk2 a.data.toList b.data.toList)]) ∧ Below w.heap.size w W' := by
 by_cases hz : chk2 a.data.toList b.data.toList = 0
 · obtain ⟨k1, k2⟩ := chk2_zero hz
   rw [hz]
   exact Gcd_ok a b w k1 k2 ht
 · refine (Gcd_bad a b w ha hb hz).mono ?_
   rintro e w' ⟨rfl, rfl⟩
   refine ⟨?_, Below.refl _ _⟩
   unfold gcdB
   rw [if_neg hz]
end Go.Proofs.YtmafghdgmdbpnaaGreatDoor.R
namespace Go.Proofs.YtmafghdgmdbpnaaGreatDoor
open Go.RowKit
theorem strB_is1 (z : Int) : ((strB z).toList == [49]) = decide (z = 1) := by
 rw [ByteArray.toList_eq, strB_data, ← itoa_one]
 by_cases h : z = 1
 · subst h; rw [beq_self_eq_true]; rfl
 · rw [decide_eq_false h, beq_eq_false_iff_ne]; exact fun e => h (itoa_inj e)
theorem Check2_core (s n d : ByteArray) (m f b1 b2 z0 z1 zn : Bool) (x y g : Nat) (r : Int) (w : World) (hm1 : n.size ≤ maxLen) (hm2 : d.size ≤ maxLen) (hdz : f = false → d.size = 0)
   (hz0 : (d.toList == [48]) = z0) (hz1 : (d.toList == [49]) = z1) (hzn : (n.toList == [48]) = zn)
   (hR : r = if (!b1 || f && (!b2 || z0 || z1) || m && zn) = true then 11 else if 300 < n.size ∨ 300 < d.size then 4 else if f = false then 0 else if g = 1 then 0 else 11)
   (cs : ∀ W, Calls Tryz.prog 70 #[.string s] W fun e W' => e = .returned (.tuple #[.bool m, .string n, .string d, .bool f]) ∧ Below W.heap.size W W')
   (c1 : ∀ W, Calls Tryz.prog 71 #[.string n] W fun e W' => e = .returned (.bool b1) ∧ W = W')
   (c2 : ∀ W, Calls Tryz.prog 71 #[.string d] W fun e W' => e = .returned (.bool b2) ∧ W = W')
   (c3 : b1 = true → n.size ≤ 18 → ∀ W, Calls Tryz.prog 73 #[.string n] W fun e W' => e = .returned (.int .i64 x) ∧ W = W')
   (c4 : b2 = true → d.size ≤ 18 → ∀ W, Calls Tryz.prog 73 #[.string d] W fun e W' => e = .returned (.int .i64 y) ∧ W = W')
   (c5 : b1 = true → b2 = true → n.size ≤ 18 → d.size ≤ 18 → ∀ W, Calls Tryz.prog 72 #[.int .i64 x, .int .i64 y] W fun e W' => e = .returned (.int .i64 g) ∧ Below W.heap.size W W')
   (c6 : b1 = true → b2 = true → n.size ≤ 300 → d.size ≤ 300 → CqB w 74 #[.string n, .string d] (.tuple #[.string (strB g), .int .i64 0])) :
   Calls Tryz.prog 24 #[.string s] w fun e W' => e = .returned (.int .i64 r) ∧ Below w.heap.size w W' := by
 have i1 : (n.size : Int) ≤ 9223372036854775807 := by unfold maxLen at hm1; omega
 have i2 : (d.size : Int) ≤ 9223372036854775807 := by unfold maxLen at hm2; omega
 clear hm1 hm2
 have C := Lib.hid (And.intro cs (And.intro c1 (And.intro c2 c6)))
 clear cs c1 c2 c6
 cases b1
 · clear c3 c4 c5
   have hr := Lib.hid (show r = 11 by rw [hR]; rfl)
   clear hR
   go_enter Tryz.func24, Tryz.ntmps24
   go_wp2_with fail
   refine (C.out.1 _).mono ?_
   rintro e w1 ⟨rfl, b⟩
   have HS := Lib.hid b; clear b
   go_wp2_with fail
   refine (C.out.2.1 _).mono ?_
   rintro e w' ⟨rfl, rfl⟩
   go_wp2
   go_ret
   exact ⟨ret_int hr.out.symm, HS.out⟩
 · cases f
   · cases m
     · clear c3 c4 c5
       by_cases hl : (300 : Int) < n.size
       · have hr := Lib.hid (show r = 4 by rw [hR]; exact (if_neg (by simp)).trans (if_pos (Or.inl (by omega))))
         clear hR
         go_enter Tryz.func24, Tryz.ntmps24
         go_wp2_with fail
         refine (C.out.1 _).mono ?_
         rintro e w1 ⟨rfl, b⟩
         have HS := Lib.hid b; clear b
         go_wp2_with fail
         refine (C.out.2.1 _).mono ?_
         rintro e w' ⟨rfl, rfl⟩
         go_wp2
         go_ret
         exact ⟨ret_int hr.out.symm, HS.out⟩
       · have hd0 : ¬ (300 : Int) < d.size := by have := hdz rfl; omega
         have hr := Lib.hid (show r = 0 by rw [hR]; exact (if_neg (by simp)).trans ((if_neg (by omega)).trans (if_pos rfl)))
         clear hR
         go_enter Tryz.func24, Tryz.ntmps24
         go_wp2_with fail
         refine (C.out.1 _).mono ?_
         rintro e w1 ⟨rfl, b⟩
         have HS := Lib.hid b; clear b
         go_wp2_with fail
         refine (C.out.2.1 _).mono ?_
         rintro e w' ⟨rfl, rfl⟩
         go_wp2
         go_ret
         exact ⟨ret_int hr.out.symm, HS.out⟩
     · cases zn
       · clear c3 c4 c5
         by_cases hl : (300 : Int) < n.size
         · have hr := Lib.hid (show r = 4 by rw [hR]; exact (if_neg (by simp)).trans (if_pos (Or.inl (by omega))))
           clear hR
           go_enter Tryz.func24, Tryz.ntmps24
           go_wp2_with fail
           refine (C.out.1 _).mono ?_
           rintro e w1 ⟨rfl, b⟩
           have HS := Lib.hid b; clear b
           go_wp2_with fail
           refine (C.out.2.1 _).mono ?_
           rintro e w' ⟨rfl, rfl⟩
           go_wp2
           go_ret
           exact ⟨ret_int hr.out.symm, HS.out⟩
         · have hd0 : ¬ (300 : Int) < d.size := by have := hdz rfl; omega
           have hr := Lib.hid (show r = 0 by rw [hR]; exact (if_neg (by simp)).trans ((if_neg (by omega)).trans (if_pos rfl)))
           clear hR
           go_enter Tryz.func24, Tryz.ntmps24
           go_wp2_with fail
           refine (C.out.1 _).mono ?_
           rintro e w1 ⟨rfl, b⟩
           have HS := Lib.hid b; clear b
           go_wp2_with fail
           refine (C.out.2.1 _).mono ?_
           rintro e w' ⟨rfl, rfl⟩
           go_wp2
           go_ret
           exact ⟨ret_int hr.out.symm, HS.out⟩
       · clear c3 c4 c5
         have hr := Lib.hid (show r = 11 by rw [hR]; rfl)
         clear hR
         go_enter Tryz.func24, Tryz.ntmps24
         go_wp2_with fail
         refine (C.out.1 _).mono ?_
         rintro e w1 ⟨rfl, b⟩
         have HS := Lib.hid b; clear b
         go_wp2_with fail
         refine (C.out.2.1 _).mono ?_
         rintro e w' ⟨rfl, rfl⟩
         go_wp2
         go_ret
         exact ⟨ret_int hr.out.symm, HS.out⟩
   · cases b2
     · clear c3 c4 c5
       have hr := Lib.hid (show r = 11 by rw [hR]; rfl)
       clear hR
       go_enter Tryz.func24, Tryz.ntmps24
       go_wp2_with fail
       refine (C.out.1 _).mono ?_
       rintro e w1 ⟨rfl, b⟩
       have HS := Lib.hid b; clear b
       go_wp2_with fail
       refine (C.out.2.1 _).mono ?_
       rintro e w' ⟨rfl, rfl⟩
       go_wp2_with fail
       refine (C.out.2.2.1 _).mono ?_
       rintro e w' ⟨rfl, rfl⟩
       go_wp2
       go_ret
       exact ⟨ret_int hr.out.symm, HS.out⟩
     · cases z0
       · cases z1
         · cases m
           · by_cases hl : (300 : Int) < n.size
             · have hr := Lib.hid (show r = 4 by rw [hR]; exact (if_neg (by simp)).trans (if_pos (Or.inl (by omega))))
               clear hR
               go_enter Tryz.func24, Tryz.ntmps24
               go_wp2_with fail
               refine (C.out.1 _).mono ?_
               rintro e w1 ⟨rfl, b⟩
               have HS := Lib.hid b; clear b
               go_wp2_with fail
               refine (C.out.2.1 _).mono ?_
               rintro e w' ⟨rfl, rfl⟩
               go_wp2_with fail
               refine (C.out.2.2.1 _).mono ?_
               rintro e w' ⟨rfl, rfl⟩
               go_wp2
               go_ret
               exact ⟨ret_int hr.out.symm, HS.out⟩
             · by_cases hl2 : (300 : Int) < d.size
               · have hr := Lib.hid (show r = 4 by rw [hR]; exact (if_neg (by simp)).trans (if_pos (Or.inr (by omega))))
                 clear hR
                 go_enter Tryz.func24, Tryz.ntmps24
                 go_wp2_with fail
                 refine (C.out.1 _).mono ?_
                 rintro e w1 ⟨rfl, b⟩
                 have HS := Lib.hid b; clear b
                 go_wp2_with fail
                 refine (C.out.2.1 _).mono ?_
                 rintro e w' ⟨rfl, rfl⟩
                 go_wp2_with fail
                 refine (C.out.2.2.1 _).mono ?_
                 rintro e w' ⟨rfl, rfl⟩
                 go_wp2
                 go_ret
                 exact ⟨ret_int hr.out.symm, HS.out⟩
               · have hR' : r = if g = 1 then 0 else 11 := by rw [hR]; exact (if_neg (by simp)).trans ((if_neg (by omega)).trans (if_neg (by decide)))
                 clear hR
                 by_cases h9 : (n.size : Int) ≤ 9 ∧ (d.size : Int) ≤ 9
                 · obtain ⟨h9, h9d⟩ := h9
                   have cm := Lib.hid (And.intro (c3 rfl (by omega)) (And.intro (c4 rfl (by omega)) (c5 rfl rfl (by omega) (by omega))))
                   by_cases hg : g = 1
                   · have hgi : ((g : Int) == 1) = true := by rw [hg]; rfl
                     have hr := Lib.hid (show r = 0 by rw [hR', if_pos hg])
                     clear hR' hg
                     go_enter Tryz.func24, Tryz.ntmps24
                     go_wp2_with fail
                     refine (C.out.1 _).mono ?_
                     rintro e w1 ⟨rfl, b⟩
                     have HS := Lib.hid b; clear b
                     go_wp2_with fail
                     refine (C.out.2.1 _).mono ?_
                     rintro e w' ⟨rfl, rfl⟩
                     go_wp2_with fail
                     refine (C.out.2.2.1 _).mono ?_
                     rintro e w' ⟨rfl, rfl⟩
                     go_wp2_with fail
                     refine (cm.out.1 _).mono ?_
                     rintro e w' ⟨rfl, rfl⟩
                     go_wp2_with fail
                     refine (cm.out.2.1 _).mono ?_
                     rintro e w' ⟨rfl, rfl⟩
                     go_wp2_with fail
                     refine (cm.out.2.2 _).mono ?_
                     rintro e w2 ⟨rfl, b⟩
                     have B := Lib.hid (HS.out.trans (b.mono HS.out.size)); clear b
                     go_wp2
                     go_ret
                     exact ⟨ret_int hr.out.symm, B.out⟩
                   · have hgi : ((g : Int) == 1) = false := by rw [beq_eq_false_iff_ne]; omega
                     have hr := Lib.hid (show r = 11 by rw [hR', if_neg hg])
                     clear hR' hg
                     go_enter Tryz.func24, Tryz.ntmps24
                     go_wp2_with fail
                     refine (C.out.1 _).mono ?_
                     rintro e w1 ⟨rfl, b⟩
                     have HS := Lib.hid b; clear b
                     go_wp2_with fail
                     refine (C.out.2.1 _).mono ?_
                     rintro e w' ⟨rfl, rfl⟩
                     go_wp2_with fail
                     refine (C.out.2.2.1 _).mono ?_
                     rintro e w' ⟨rfl, rfl⟩
                     go_wp2_with fail
                     refine (cm.out.1 _).mono ?_
                     rintro e w' ⟨rfl, rfl⟩
                     go_wp2_with fail
                     refine (cm.out.2.1 _).mono ?_
                     rintro e w' ⟨rfl, rfl⟩
                     go_wp2_with fail
                     refine (cm.out.2.2 _).mono ?_
                     rintro e w2 ⟨rfl, b⟩
                     have B := Lib.hid (HS.out.trans (b.mono HS.out.size)); clear b
                     go_wp2
                     go_ret
                     exact ⟨ret_int hr.out.symm, B.out⟩
                 · have cg := Lib.hid (C.out.2.2.2 rfl rfl (by omega) (by omega))
                   have hsg := strB_is1 (g : Int)
                   by_cases h9n : (n.size : Int) ≤ 9
                   · have h9d : ¬ (d.size : Int) ≤ 9 := fun h => h9 ⟨h9n, h⟩
                     clear h9
                     by_cases hg : g = 1
                     · have hr := Lib.hid (show r = 0 by rw [hR', if_pos hg])
                       rw [decide_eq_true (show (g : Int) = 1 by omega)] at hsg
                       clear hR' hg
                       generalize strB (g : Int) = sg at *
                       go_enter Tryz.func24, Tryz.ntmps24
                       go_wp2_with fail
                       refine (C.out.1 _).mono ?_
                       rintro e w1 ⟨rfl, b⟩
                       have HS := Lib.hid b; clear b
                       go_wp2_with fail
                       refine (C.out.2.1 _).mono ?_
                       rintro e w' ⟨rfl, rfl⟩
                       go_wp2_with fail
                       refine (C.out.2.2.1 _).mono ?_
                       rintro e w' ⟨rfl, rfl⟩
                       go_wp2_with fail
                       refine (cg.out _ HS.out).mono ?_
                       rintro e w2 ⟨rfl, b⟩
                       have B := Lib.hid (HS.out.trans (b.mono HS.out.size)); clear b
                       go_wp2
                       go_ret
                       exact ⟨ret_int hr.out.symm, B.out⟩
                     · have hr := Lib.hid (show r = 11 by rw [hR', if_neg hg])
                       rw [decide_eq_false (show ¬ (g : Int) = 1 by omega)] at hsg
                       clear hR' hg
                       generalize strB (g : Int) = sg at *
                       go_enter Tryz.func24, Tryz.ntmps24
                       go_wp2_with fail
                       refine (C.out.1 _).mono ?_
                       rintro e w1 ⟨rfl, b⟩
                       have HS := Lib.hid b; clear b
                       go_wp2_with fail
                       refine (C.out.2.1 _).mono ?_
                       rintro e w' ⟨rfl, rfl⟩
                       go_wp2_with fail
                       refine (C.out.2.2.1 _).mono ?_
                       rintro e w' ⟨rfl, rfl⟩
                       go_wp2_with fail
                       refine (cg.out _ HS.out).mono ?_
                       rintro e w2 ⟨rfl, b⟩
                       have B := Lib.hid (HS.out.trans (b.mono HS.out.size)); clear b
                       go_wp2
                       go_ret
                       exact ⟨ret_int hr.out.symm, B.out⟩
                   · clear h9
                     by_cases hg : g = 1
                     · have hr := Lib.hid (show r = 0 by rw [hR', if_pos hg])
                       rw [decide_eq_true (show (g : Int) = 1 by omega)] at hsg
                       clear hR' hg
                       generalize strB (g : Int) = sg at *
                       go_enter Tryz.func24, Tryz.ntmps24
                       go_wp2_with fail
                       refine (C.out.1 _).mono ?_
                       rintro e w1 ⟨rfl, b⟩
                       have HS := Lib.hid b; clear b
                       go_wp2_with fail
                       refine (C.out.2.1 _).mono ?_
                       rintro e w' ⟨rfl, rfl⟩
                       go_wp2_with fail
                       refine (C.out.2.2.1 _).mono ?_
                       rintro e w' ⟨rfl, rfl⟩
                       go_wp2_with fail
                       refine (cg.out _ HS.out).mono ?_
                       rintro e w2 ⟨rfl, b⟩
                       have B := Lib.hid (HS.out.trans (b.mono HS.out.size)); clear b
                       go_wp2
                       go_ret
                       exact ⟨ret_int hr.out.symm, B.out⟩
                     · have hr := Lib.hid (show r = 11 by rw [hR', if_neg hg])
                       rw [decide_eq_false (show ¬ (g : Int) = 1 by omega)] at hsg
                       clear hR' hg
                       generalize strB (g : Int) = sg at *
                       go_enter Tryz.func24, Tryz.ntmps24
                       go_wp2_with fail
                       refine (C.out.1 _).mono ?_
                       rintro e w1 ⟨rfl, b⟩
                       have HS := Lib.hid b; clear b
                       go_wp2_with fail
                       refine (C.out.2.1 _).mono ?_
                       rintro e w' ⟨rfl, rfl⟩
                       go_wp2_with fail
                       refine (C.out.2.2.1 _).mono ?_
                       rintro e w' ⟨rfl, rfl⟩
                       go_wp2_with fail
                       refine (cg.out _ HS.out).mono ?_
                       rintro e w2 ⟨rfl, b⟩
                       have B := Lib.hid (HS.out.trans (b.mono HS.out.size)); clear b
                       go_wp2
                       go_ret
                       exact ⟨ret_int hr.out.symm, B.out⟩
           · cases zn
             · by_cases hl : (300 : Int) < n.size
               · have hr := Lib.hid (show r = 4 by rw [hR]; exact (if_neg (by simp)).trans (if_pos (Or.inl (by omega))))
                 clear hR
                 go_enter Tryz.func24, Tryz.ntmps24
                 go_wp2_with fail
                 refine (C.out.1 _).mono ?_
                 rintro e w1 ⟨rfl, b⟩
                 have HS := Lib.hid b; clear b
                 go_wp2_with fail
                 refine (C.out.2.1 _).mono ?_
                 rintro e w' ⟨rfl, rfl⟩
                 go_wp2_with fail
                 refine (C.out.2.2.1 _).mono ?_
                 rintro e w' ⟨rfl, rfl⟩
                 go_wp2
                 go_ret
                 exact ⟨ret_int hr.out.symm, HS.out⟩
               · by_cases hl2 : (300 : Int) < d.size
                 · have hr := Lib.hid (show r = 4 by rw [hR]; exact (if_neg (by simp)).trans (if_pos (Or.inr (by omega))))
                   clear hR
                   go_enter Tryz.func24, Tryz.ntmps24
                   go_wp2_with fail
                   refine (C.out.1 _).mono ?_
                   rintro e w1 ⟨rfl, b⟩
                   have HS := Lib.hid b; clear b
                   go_wp2_with fail
                   refine (C.out.2.1 _).mono ?_
                   rintro e w' ⟨rfl, rfl⟩
                   go_wp2_with fail
                   refine (C.out.2.2.1 _).mono ?_
                   rintro e w' ⟨rfl, rfl⟩
                   go_wp2
                   go_ret
                   exact ⟨ret_int hr.out.symm, HS.out⟩
                 · have hR' : r = if g = 1 then 0 else 11 := by rw [hR]; exact (if_neg (by simp)).trans ((if_neg (by omega)).trans (if_neg (by decide)))
                   clear hR
                   by_cases h9 : (n.size : Int) ≤ 9 ∧ (d.size : Int) ≤ 9
                   · obtain ⟨h9, h9d⟩ := h9
                     have cm := Lib.hid (And.intro (c3 rfl (by omega)) (And.intro (c4 rfl (by omega)) (c5 rfl rfl (by omega) (by omega))))
                     by_cases hg : g = 1
                     · have hgi : ((g : Int) == 1) = true := by rw [hg]; rfl
                       have hr := Lib.hid (show r = 0 by rw [hR', if_pos hg])
                       clear hR' hg
                       go_enter Tryz.func24, Tryz.ntmps24
                       go_wp2_with fail
                       refine (C.out.1 _).mono ?_
                       rintro e w1 ⟨rfl, b⟩
                       have HS := Lib.hid b; clear b
                       go_wp2_with fail
                       refine (C.out.2.1 _).mono ?_
                       rintro e w' ⟨rfl, rfl⟩
                       go_wp2_with fail
                       refine (C.out.2.2.1 _).mono ?_
                       rintro e w' ⟨rfl, rfl⟩
                       go_wp2_with fail
                       refine (cm.out.1 _).mono ?_
                       rintro e w' ⟨rfl, rfl⟩
                       go_wp2_with fail
                       refine (cm.out.2.1 _).mono ?_
                       rintro e w' ⟨rfl, rfl⟩
                       go_wp2_with fail
                       refine (cm.out.2.2 _).mono ?_
                       rintro e w2 ⟨rfl, b⟩
                       have B := Lib.hid (HS.out.trans (b.mono HS.out.size)); clear b
                       go_wp2
                       go_ret
                       exact ⟨ret_int hr.out.symm, B.out⟩
                     · have hgi : ((g : Int) == 1) = false := by rw [beq_eq_false_iff_ne]; omega
                       have hr := Lib.hid (show r = 11 by rw [hR', if_neg hg])
                       clear hR' hg
                       go_enter Tryz.func24, Tryz.ntmps24
                       go_wp2_with fail
                       refine (C.out.1 _).mono ?_
                       rintro e w1 ⟨rfl, b⟩
                       have HS := Lib.hid b; clear b
                       go_wp2_with fail
                       refine (C.out.2.1 _).mono ?_
                       rintro e w' ⟨rfl, rfl⟩
                       go_wp2_with fail
                       refine (C.out.2.2.1 _).mono ?_
                       rintro e w' ⟨rfl, rfl⟩
                       go_wp2_with fail
                       refine (cm.out.1 _).mono ?_
                       rintro e w' ⟨rfl, rfl⟩
                       go_wp2_with fail
                       refine (cm.out.2.1 _).mono ?_
                       rintro e w' ⟨rfl, rfl⟩
                       go_wp2_with fail
                       refine (cm.out.2.2 _).mono ?_
                       rintro e w2 ⟨rfl, b⟩
                       have B := Lib.hid (HS.out.trans (b.mono HS.out.size)); clear b
                       go_wp2
                       go_ret
                       exact ⟨ret_int hr.out.symm, B.out⟩
                   · have cg := Lib.hid (C.out.2.2.2 rfl rfl (by omega) (by omega))
                     have hsg := strB_is1 (g : Int)
                     by_cases h9n : (n.size : Int) ≤ 9
                     · have h9d : ¬ (d.size : Int) ≤ 9 := fun h => h9 ⟨h9n, h⟩
                       clear h9
                       by_cases hg : g = 1
                       · have hr := Lib.hid (show r = 0 by rw [hR', if_pos hg])
                         rw [decide_eq_true (show (g : Int) = 1 by omega)] at hsg
                         clear hR' hg
                         generalize strB (g : Int) = sg at *
                         go_enter Tryz.func24, Tryz.ntmps24
                         go_wp2_with fail
                         refine (C.out.1 _).mono ?_
                         rintro e w1 ⟨rfl, b⟩
                         have HS := Lib.hid b; clear b
                         go_wp2_with fail
                         refine (C.out.2.1 _).mono ?_
                         rintro e w' ⟨rfl, rfl⟩
                         go_wp2_with fail
                         refine (C.out.2.2.1 _).mono ?_
                         rintro e w' ⟨rfl, rfl⟩
                         go_wp2_with fail
                         refine (cg.out _ HS.out).mono ?_
                         rintro e w2 ⟨rfl, b⟩
                         have B := Lib.hid (HS.out.trans (b.mono HS.out.size)); clear b
                         go_wp2
                         go_ret
                         exact ⟨ret_int hr.out.symm, B.out⟩
                       · have hr := Lib.hid (show r = 11 by rw [hR', if_neg hg])
                         rw [decide_eq_false (show ¬ (g : Int) = 1 by omega)] at hsg
                         clear hR' hg
                         generalize strB (g : Int) = sg at *
                         go_enter Tryz.func24, Tryz.ntmps24
                         go_wp2_with fail
                         refine (C.out.1 _).mono ?_
                         rintro e w1 ⟨rfl, b⟩
                         have HS := Lib.hid b; clear b
                         go_wp2_with fail
                         refine (C.out.2.1 _).mono ?_
                         rintro e w' ⟨rfl, rfl⟩
                         go_wp2_with fail
                         refine (C.out.2.2.1 _).mono ?_
                         rintro e w' ⟨rfl, rfl⟩
                         go_wp2_with fail
                         refine (cg.out _ HS.out).mono ?_
                         rintro e w2 ⟨rfl, b⟩
                         have B := Lib.hid (HS.out.trans (b.mono HS.out.size)); clear b
                         go_wp2
                         go_ret
                         exact ⟨ret_int hr.out.symm, B.out⟩
                     · clear h9
                       by_cases hg : g = 1
                       · have hr := Lib.hid (show r = 0 by rw [hR', if_pos hg])
                         rw [decide_eq_true (show (g : Int) = 1 by omega)] at hsg
                         clear hR' hg
                         generalize strB (g : Int) = sg at *
                         go_enter Tryz.func24, Tryz.ntmps24
                         go_wp2_with fail
                         refine (C.out.1 _).mono ?_
                         rintro e w1 ⟨rfl, b⟩
                         have HS := Lib.hid b; clear b
                         go_wp2_with fail
                         refine (C.out.2.1 _).mono ?_
                         rintro e w' ⟨rfl, rfl⟩
                         go_wp2_with fail
                         refine (C.out.2.2.1 _).mono ?_
                         rintro e w' ⟨rfl, rfl⟩
                         go_wp2_with fail
                         refine (cg.out _ HS.out).mono ?_
                         rintro e w2 ⟨rfl, b⟩
                         have B := Lib.hid (HS.out.trans (b.mono HS.out.size)); clear b
                         go_wp2
                         go_ret
                         exact ⟨ret_int hr.out.symm, B.out⟩
                       · have hr := Lib.hid (show r = 11 by rw [hR', if_neg hg])
                         rw [decide_eq_false (show ¬ (g : Int) = 1 by omega)] at hsg
                         clear hR' hg
                         generalize strB (g : Int) = sg at *
                         go_enter Tryz.func24, Tryz.ntmps24
                         go_wp2_with fail
                         refine (C.out.1 _).mono ?_
                         rintro e w1 ⟨rfl, b⟩
                         have HS := Lib.hid b; clear b
                         go_wp2_with fail
                         refine (C.out.2.1 _).mono ?_
                         rintro e w' ⟨rfl, rfl⟩
                         go_wp2_with fail
                         refine (C.out.2.2.1 _).mono ?_
                         rintro e w' ⟨rfl, rfl⟩
                         go_wp2_with fail
                         refine (cg.out _ HS.out).mono ?_
                         rintro e w2 ⟨rfl, b⟩
                         have B := Lib.hid (HS.out.trans (b.mono HS.out.size)); clear b
                         go_wp2
                         go_ret
                         exact ⟨ret_int hr.out.symm, B.out⟩
             · clear c3 c4 c5
               have hr := Lib.hid (show r = 11 by rw [hR]; rfl)
               clear hR
               go_enter Tryz.func24, Tryz.ntmps24
               go_wp2_with fail
               refine (C.out.1 _).mono ?_
               rintro e w1 ⟨rfl, b⟩
               have HS := Lib.hid b; clear b
               go_wp2_with fail
               refine (C.out.2.1 _).mono ?_
               rintro e w' ⟨rfl, rfl⟩
               go_wp2_with fail
               refine (C.out.2.2.1 _).mono ?_
               rintro e w' ⟨rfl, rfl⟩
               go_wp2
               go_ret
               exact ⟨ret_int hr.out.symm, HS.out⟩
         · clear c3 c4 c5
           have hr := Lib.hid (show r = 11 by rw [hR]; rfl)
           clear hR
           go_enter Tryz.func24, Tryz.ntmps24
           go_wp2_with fail
           refine (C.out.1 _).mono ?_
           rintro e w1 ⟨rfl, b⟩
           have HS := Lib.hid b; clear b
           go_wp2_with fail
           refine (C.out.2.1 _).mono ?_
           rintro e w' ⟨rfl, rfl⟩
           go_wp2_with fail
           refine (C.out.2.2.1 _).mono ?_
           rintro e w' ⟨rfl, rfl⟩
           go_wp2
           go_ret
           exact ⟨ret_int hr.out.symm, HS.out⟩
       · clear c3 c4 c5
         have hr := Lib.hid (show r = 11 by rw [hR]; rfl)
         clear hR
         go_enter Tryz.func24, Tryz.ntmps24
         go_wp2_with fail
         refine (C.out.1 _).mono ?_
         rintro e w1 ⟨rfl, b⟩
         have HS := Lib.hid b; clear b
         go_wp2_with fail
         refine (C.out.2.1 _).mono ?_
         rintro e w' ⟨rfl, rfl⟩
         go_wp2_with fail
         refine (C.out.2.2.1 _).mono ?_
         rintro e w' ⟨rfl, rfl⟩
         go_wp2
         go_ret
         exact ⟨ret_int hr.out.symm, HS.out⟩
theorem bs_size (s : ByteArray) : (bsN s).size ≤ s.size ∧ (bsD s).size ≤ s.size := by
 have h1 : (szL s.data.toList).length ≤ s.size := by
   unfold szL; split
   · rw [List.length_tail, size_len]; omega
   · rw [size_len]; omega
 obtain ⟨e1, e2⟩ := hasS_sz s.data.toList
 rw [← size_len (bsN s), ← size_len (bsD s), bsN_data, bsD_data]
 rcases cut_eq (szL s.data.toList) with ⟨k1, k2, k3⟩ | ⟨k1, k2⟩
 · rw [k1] at e1
   unfold sD
   rw [e1, sN_cut, ← k2]
   exact ⟨h1, Nat.zero_le _⟩
 · rw [k1] at e1
   have := congrArg List.length k2
   simp only [List.length_append, List.length_cons] at this
   unfold sD
   rw [e1, if_pos rfl, e2 e1, sN_cut]
   omega
theorem digs_all {l : List UInt8} (h : digs l = true) : l.all isDig = true := by
 unfold digs at h
 simp only [Bool.and_eq_true] at h
 exact h.1.1
theorem digs_chk {l : List UInt8} (h : digs l = true) (hl : l.length ≤ 300) : chk l = 0 := by
 have h1 := digs_neg h
 have h2 := chk_long (l := l) (by rw [chk_pos h1, h])
 rw [szL_same h1, if_neg (by omega)] at h2
 exact h2
theorem Check2_any (s : ByteArray) (w : World) (hs : s.size ≤ maxLen) (ht : Tab w) :
   Calls Tryz.prog 24 #[.string s] w fun e W' => e = .returned (.int .i64 (chkQ s.data.toList)) ∧ Below w.heap.size w W' := by
 obtain ⟨b1, b2⟩ := bs_size s
 have hx : ∀ (t : ByteArray), digs t.data.toList = true → t.size ≤ 18 → natOf t.data.toList < 9223372036854775808 := fun t h h' => by
   refine Nat.lt_of_lt_of_le (natOf_lt _ (fun c hc => List.all_eq_true.1 (digs_all h) c hc)) ?_
   exact Nat.le_trans (Nat.pow_le_pow_right (by decide) (show t.data.toList.length ≤ 18 by rw [size_len]; exact h')) (by decide)
 refine Check2_core s (bsN s) (bsD s) (isNeg s.data.toList) (hasS s.data.toList) (digs (bsN s).data.toList) (digs (bsD s).data.toList) ((bsD s).toList == [48]) ((bsD s).toList == [49]) ((bsN s).toList == [48]) (natOf (bsN s).data.toList) (natOf (bsD s).data.toList)
   (Nat.gcd (natOf (bsN s).data.toList) (natOf (bsD s).data.toList)) (chkQ s.data.toList) w (by omega) (by omega) (fun h => by rw [← size_len, bsD_data]; unfold sD; rw [h]; rfl) rfl rfl rfl ?_
   (fun W => split2_any s W hs) (fun W => digits2_any _ W (by omega)) (fun W => digits2_any _ W (by omega)) (fun h h' W => small2_any _ W h' (digs_all h)) (fun h h' W => small2_any _ W h' (digs_all h))
   (fun h h' k k' W => gcd2_any _ _ W (hx _ h k) (hx _ h' k')) ?_
 · rw [← refChk_eq, ByteArray.toList_eq, ByteArray.toList_eq, ← size_len (bsN s), ← size_len (bsD s), bsN_data, bsD_data]
   unfold refChk refBad
   simp only [Bool.or_assoc]
 · intro h h' k k' W hW
   have q1 := digs_chk h (by rw [size_len]; exact k)
   have q2 := digs_chk h' (by rw [size_len]; exact k')
   have c := R.Gcd_any (bsN s) (bsD s) W (by omega) (by omega) (ht.next hW)
   have e2 : chk2 (bsN s).data.toList (bsD s).data.toList = 0 := by unfold chk2; rw [if_pos q1]; exact q2
   rw [e2] at c
   rw [szL_same (digs_neg h), szL_same (digs_neg h')] at c
   exact c
def fineQ (s : ByteArray) : Bool := decide (s.size ≤ 60) && (chkQ s.data.toList == 0)
theorem fineQ_long {s : ByteArray} (h : (60 : Int) < s.size) : fineQ s = false := by
 unfold fineQ; rw [show decide (s.size ≤ 60) = false by rw [decide_eq_false_iff_not]; omega]; rfl
theorem fineQ_short {s : ByteArray} (h : ¬ (60 : Int) < s.size) : fineQ s = (chkQ s.data.toList == 0) := by
 unfold fineQ; rw [show decide (s.size ≤ 60) = true by rw [decide_eq_true_iff]; omega]; rfl
theorem fineQ_str {s : ByteArray} (h : fineQ s = true) : ∃ x : Rat, s = strQ x ∧ Bq 60 x := by
 unfold fineQ at h
 simp only [Bool.and_eq_true, decide_eq_true_eq, beq_iff_eq] at h
 exact short_num h.2 60 h.1 (by decide)
theorem fine1_any (s : ByteArray) (w : World) (hs : s.size ≤ maxLen) (ht : Tab w) :
   Calls Tryz.prog 85 #[.string s] w fun e W' => e = .returned (.bool (!fineQ s)) ∧ Below w.heap.size w W' := by
 have hm : (s.size : Int) ≤ 9223372036854775807 := by unfold maxLen at hs; omega
 by_cases h8 : (60 : Int) < s.size
 · rw [fineQ_long h8]
   clear ht hs
   go_enter Tryz.func85, Tryz.ntmps85
   go_wp2
   go_ret
   exact ⟨rfl, Below.refl _ _⟩
 · rw [fineQ_short h8]
   have C := Lib.hid (Check2_any s w hs ht)
   clear ht hs
   generalize chkQ s.data.toList = c at *
   have hc : (!(c == 0)) = (c != 0) := rfl
   rw [hc]
   clear hc
   go_enter Tryz.func85, Tryz.ntmps85
   go_wp2_with fail
   refine C.out.mono ?_
   rintro e w' ⟨rfl, b⟩
   have B := Lib.hid b; clear b
   go_wp2
   go_ret
   exact ⟨rfl, B.out⟩
def badAt : List ByteArray → Int → Int
 | [], _ => -1
 | s :: t, i => if fineQ s then badAt t (i + 1) else i
theorem badAt_all : ∀ (xs : List ByteArray) (i : Int), 0 ≤ i → decide (0 ≤ badAt xs i) = !xs.all fineQ
 | [], i, _ => by simp [badAt]
 | s :: t, i, h => by
   unfold badAt
   cases hf : fineQ s
   · simp [hf, h]
   · simp only [List.all_cons, hf, Bool.true_and, if_pos rfl]; exact badAt_all t (i + 1) (by omega)
theorem badAt_skip : ∀ (k : Nat) (xs : List ByteArray) (i : Int), (xs.take k).all fineQ = true → badAt xs i = badAt (xs.drop k) (i + (min k xs.length : Nat))
 | 0, xs, i, _ => by simp
 | k + 1, [], i, _ => by simp
 | k + 1, s :: t, i, h => by
   simp only [List.take_succ_cons, List.all_cons, Bool.and_eq_true] at h
   rw [List.drop_succ_cons, ← show badAt t (i + 1) = badAt (s :: t) i by conv => rhs; unfold badAt; rw [if_pos h.1], badAt_skip k t (i + 1) h.2, List.length_cons]
   congr 1; omega
theorem badAt_end {xs : List ByteArray} {k : Nat} (h : (xs.take k).all fineQ = true) (hk : xs.length ≤ k) : badAt xs 0 = -1 := by
 rw [badAt_skip k xs 0 h, List.drop_eq_nil_of_le hk]; rfl
theorem badAt_here {xs : List ByteArray} {k : Nat} (h : (xs.take k).all fineQ = true) (hk : k < xs.length) (hf : fineQ xs[k] = false) : badAt xs 0 = k := by
 rw [badAt_skip k xs 0 h, List.drop_eq_getElem_cons hk]
 unfold badAt
 rw [hf, if_neg (by decide)]
 have : min k xs.length = k := by omega
 rw [this]; omega
theorem allQ_next {xs : List ByteArray} {k : Nat} (h : (xs.take k).all fineQ = true) (hk : k < xs.length) (hs : fineQ xs[k] = true) : (xs.take (k + 1)).all fineQ = true := by
 rw [List.take_succ_eq_append_getElem hk, List.all_append, h]; simp [hs]
theorem index1_any (xs : List ByteArray) (B : Nat) (w : World) (hl : xs.length ≤ 100) (hs : ∀ s ∈ xs, s.size ≤ maxLen) (hB : B < w.heap.size) (hc : ∀ i (h : i < xs.length), w.cell? ⟨B, i, none⟩ = some (.string xs[i])) (ht : Tab w) :
   Calls Tryz.prog 86 #[.slice (some ⟨B, 0, none⟩) xs.length xs.length, .func (.func 85) #[] #[]] w fun e w' => e = .returned (.int .i64 (badAt xs 0)) ∧ Below w.heap.size w w' := by
 have HC := Lib.hid (And.intro hs hc); clear hs hc
 have HT := Lib.hid ht; clear ht
 have en1 : ∀ args W, (callFunc 85 args).run Tryz.prog W = .ok (.enter 85 args) W := enters_of Tryz.func85 (by kernel_rfl) rfl
 go_enter Tryz.func86, Tryz.ntmps86
 go_wp2
 go_loopw [8] (fun i wr => ∃ k : Nat, i = .int .i64 k ∧ k ≤ xs.length ∧ Hid ((xs.take k).all fineQ = true) ∧ Hid (Below w.heap.size w wr)) (fun i _ => xs.length - (intOf i).toNat)
 case atStart => exact ⟨0, rfl, by omega, rfl, Below.refl _ _⟩
 case round =>
   obtain ⟨k, rfl, hk, hd, HBw⟩ := hrel
   by_cases hlt : k < xs.length
   · have hck := (HBw.out.cell (p := ⟨B, k, none⟩) hB).trans (HC.out.2 k hlt)
     have hsz := HC.out.1 xs[k] (List.getElem_mem hlt)
     have hn := Lib.hid (fun h : fineQ xs[k] = true => allQ_next hd.out hlt h)
     have hb := Lib.hid (fun h : fineQ xs[k] = false => badAt_here hd.out hlt h)
     have hr := Lib.hid (fine1_any xs[k] wr hsz (HT.out.next HBw.out))
     clear hsz hd
     generalize xs[k] = s at *
     generalize fineQ s = q at *
     go_wp2_with fail
     refine hr.out.mono ?_
     rintro e w' ⟨rfl, b⟩
     have HB2 := Lib.hid (HBw.out.trans (b.mono HBw.out.size)); clear b HBw
     cases q
     · have hbb := Lib.hid (hb.out rfl)
       clear hn hb
       go_wp2
       go_ret
       exact ⟨ret_int hbb.out.symm, HB2.out⟩
     · have hnn := Lib.hid (hn.out rfl)
       clear hn hb
       go_wp2
       go_roundw
       case rel => exact ⟨k + 1, by go_num, by omega, hnn.out, HB2.out⟩
       case measure => simp [intOf]; omega
   · have hbb := Lib.hid (badAt_end hd.out (by omega))
     clear hd
     go_wp2
     go_ret
     exact ⟨ret_int hbb.out.symm, HBw.out⟩
theorem contains1_any (xs : List ByteArray) (B : Nat) (w : World) (hl : xs.length ≤ 100) (hs : ∀ s ∈ xs, s.size ≤ maxLen) (hB : B < w.heap.size) (hc : ∀ i (h : i < xs.length), w.cell? ⟨B, i, none⟩ = some (.string xs[i])) (ht : Tab w) :
   Calls Tryz.prog 40 #[.slice (some ⟨B, 0, none⟩) xs.length xs.length, .func (.func 85) #[] #[]] w fun e w' => e = .returned (.bool (!xs.all fineQ)) ∧ Below w.heap.size w w' := by
 have C := Lib.hid (index1_any xs B w hl hs hB hc ht)
 rw [← badAt_all xs 0 (by decide)]
 clear hs hc ht
 generalize badAt xs 0 = r at *
 generalize xs.length = n at *
 go_enter Tryz.func40, Tryz.ntmps40
 go_wp2_with fail
 refine C.out.mono ?_
 rintro e w' ⟨rfl, b⟩
 have B := Lib.hid b; clear b
 go_wp2
 go_ret
 exact ⟨rfl, B.out⟩
theorem fineL_any (xs : List ByteArray) (B : Nat) (w : World) (hl : xs.length ≤ 100) (hs : ∀ s ∈ xs, s.size ≤ maxLen) (hB : B < w.heap.size) (hc : ∀ i (h : i < xs.length), w.cell? ⟨B, i, none⟩ = some (.string xs[i])) (ht : Tab w) :
   Calls Tryz.prog 36 #[.slice (some ⟨B, 0, none⟩) xs.length xs.length] w fun e w' => e = .returned (.bool (xs.all fineQ)) ∧ Below w.heap.size w w' := by
 have C := Lib.hid (contains1_any xs B w hl hs hB hc ht)
 clear hs hc ht
 generalize xs.all fineQ = r at *
 generalize xs.length = n at *
 go_enter Tryz.func36, Tryz.ntmps36
 go_wp2_with fail
 refine C.out.mono ?_
 rintro e w' ⟨rfl, b⟩
 have B := Lib.hid b; clear b
 go_wp2
 go_ret
 exact ⟨by simp, B.out⟩
theorem fineQ1 (a : ByteArray) (B : Nat) (W : World) (ha : a.size ≤ maxLen) (hB : B < W.heap.size) (h0 : W.cell? ⟨B, 0, none⟩ = some (.string a)) (ht : Tab W) :
   Calls Tryz.prog 36 #[.slice (some ⟨B, 0, none⟩) 1 1] W fun e w' => e = .returned (.bool (fineQ a)) ∧ Below W.heap.size W w' := by
 have h := fineL_any [a] B W (by show 1 ≤ 100; decide) (by
   intro s hs
   simp only [List.mem_cons, List.not_mem_nil, or_false] at hs
   subst hs; assumption) hB (by
   intro i hi
   match i, hi with
   | 0, _ => exact h0) ht
 have e : [a].all fineQ = fineQ a := by simp
 rwa [e] at h
end Go.Proofs.YtmafghdgmdbpnaaGreatDoor
