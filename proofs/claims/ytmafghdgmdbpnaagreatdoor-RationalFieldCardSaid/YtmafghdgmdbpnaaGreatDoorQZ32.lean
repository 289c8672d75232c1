/- What the laws of layer 2 have in common. -/
import Derived.Test.YtmafghdgmdbpnaaGreatDoorQZ31
/- Of of package rational. -/
-- needs kingpost/rational.readDigits
namespace Go.Proofs.YtmafghdgmdbpnaaGreatDoor
open Go.RowKit

def I64 (z : Int) : Prop := -9223372036854775808 ≤ z ∧ z ≤ 9223372036854775807
theorem I64.short {z : Int} (h : I64 z) : short z :=
  Nat.lt_of_le_of_lt (show z.natAbs ≤ 9223372036854775808 by unfold I64 at h; omega) (Nat.lt_of_lt_of_le (by decide : 9223372036854775808 < tenTo 19) (tenTo_mono (by decide : 19 ≤ 300)))
set_option maxHeartbeats 1000000 in
theorem Of_q (n d : Int) (w : World) (hn : I64 n) (hd : I64 d) (h0 : d ≠ 0) (ht : Tab w) (ht2 : Tab64 w) :
    Calls Tryz.prog 26 #[.int .i64 n, .int .i64 d] w fun e W' => e = .returned (.tuple #[.string (strQ (Rat.divInt n d)), .int .i64 0]) ∧ Below w.heap.size w W' := by
  have c1 := fun W (h : Below w.heap.size w W) => lowestM_any n d W hn.1 hn.2 hd.1 hd.2 h0 (ht.next h) (TabQ_next ht2 h)
  have c2 := fun W (h : Below w.heap.size w W) => Itoa_any n W hn.1 hn.2 (ht.next h)
  have c3 := fun W (h : Below w.heap.size w W) => Itoa_any d W hd.1 hd.2 (ht.next h)
  have c4 : ∀ W, Below w.heap.size w W → Calls Tryz.prog 76 #[.agg #[.string (strB n), .int .i64 0, .string (strB d), .int .i64 0]] W fun e W' => e = .returned (.tuple #[.string (strQ (Rat.divInt n d)), .int .i64 0]) ∧ Below W.heap.size W W' := fun W h =>
    lowestL_any (some n) (some d) W (some_wf hn.short) (some_wf hd.short) (fun e => h0 (Option.some.inj e)) (ht.next h)
  have n0 : (d == 0) = false := by rw [beq_eq_false_iff_ne]; exact h0
  have hR : lowRE n d = 0 → lowR n d = strQ (Rat.divInt n d) := fun h => lowR_ne (lowRE_ne h).1 (lowRE_ne h).2
  by_cases he : lowRE n d = 0
  · rw [he, hR he] at c1
    have C := Lib.hid c1
    clear c1 c2 c3 c4 ht ht2 hn hd h0 hR he
    generalize strQ (Rat.divInt n d) = r at *
    go_enter Tryz.func26, Tryz.ntmps26
    go_wp2_with fail
    refine (C.out _ (Below.refl _ _)).mono ?_
    rintro e w1 ⟨rfl, b⟩
    have H1 := Lib.hid b; clear b
    go_wp2
    go_ret2
    exact ⟨rfl, H1.out⟩
  · obtain ⟨m1, m2⟩ := bool_ne he
    have C := Lib.hid (And.intro c1 (And.intro c2 (And.intro c3 c4)))
    clear c1 c2 c3 c4 ht ht2 hn hd h0 hR he
    generalize lowRE n d = e1 at *
    generalize lowR n d = r1 at *
    generalize strQ (Rat.divInt n d) = r at *
    generalize strB n = sn at *
    generalize strB d = sd at *
    go_enter Tryz.func26, Tryz.ntmps26
    go_wp2_with fail
    refine (C.out.1 _ (Below.refl _ _)).mono ?_
    rintro e w1 ⟨rfl, b⟩
    have H1 := Lib.hid b; clear b
    go_wp2_with fail
    refine (C.out.2.1 _ H1.out).mono ?_
    rintro e w2 ⟨rfl, b⟩
    have H2 := Lib.hid (H1.out.trans (b.mono H1.out.size)); clear b H1
    go_wp2_with fail
    refine (C.out.2.2.1 _ H2.out).mono ?_
    rintro e w3 ⟨rfl, b⟩
    have H3 := Lib.hid (H2.out.trans (b.mono H2.out.size)); clear b H2
    go_wp2_with fail
    refine (C.out.2.2.2 _ H3.out).mono ?_
    rintro e w4 ⟨rfl, b⟩
    have H4 := Lib.hid (H3.out.trans (b.mono H3.out.size)); clear b H3
    go_wp2
    go_ret2
    exact ⟨rfl, H4.out⟩
end Go.Proofs.YtmafghdgmdbpnaaGreatDoor

/- What the laws of layer 2 have in common. -/
-- layer 02
-- needs kingpost/kingpostlaw02.RationalParts
namespace Go.Proofs.YtmafghdgmdbpnaaGreatDoor
end Go.Proofs.YtmafghdgmdbpnaaGreatDoor

