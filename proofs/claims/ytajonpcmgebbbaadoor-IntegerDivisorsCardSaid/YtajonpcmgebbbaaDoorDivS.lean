/- The walk of the division by a single digit. -/
import Derived.Test.YtajonpcmgebbbaaDoorW8
import Derived.Deep.RegionHeld3
namespace Go.Proofs.YtajonpcmgebbbaaDoor
open Go.RowKit

theorem drop_cons {l : List Nat} {j : Nat} (h : j < l.length) : l.drop j = l.getD j 0 :: l.drop (j + 1) := by
  rw [List.drop_eq_getElem_cons h, List.getD_eq_getElem?_getD, List.getElem?_eq_getElem h]; rfl
theorem set_drop {l : List Nat} {j x : Nat} (h : j < l.length) : (l.set j x).drop j = x :: l.drop (j + 1) := by
  rw [drop_cons (by rw [List.length_set]; exact h), List.getD_eq_getElem?_getD, List.getElem?_set_self h, List.drop_set_of_lt (Nat.lt_succ_self j)]; rfl
theorem div_step {la o : List Nat} {b r j : Nat} (hj : j < la.length) (hl : o.length = la.length) (h : toN (la.drop (j + 1)) = b * toN (o.drop (j + 1)) + r) :
    toN (la.drop j) = b * toN ((o.set j ((r * 1000000000 + la.getD j 0) / b)).drop j) + (r * 1000000000 + la.getD j 0) % b := by
  rw [drop_cons hj, set_drop (by omega)]
  show la.getD j 0 + B * toN _ = b * ((r * 1000000000 + la.getD j 0) / b + B * toN _) + _
  rw [h]
  have e := Nat.div_add_mod (r * 1000000000 + la.getD j 0) b
  generalize (r * 1000000000 + la.getD j 0) / b = q at *
  generalize (r * 1000000000 + la.getD j 0) % b = s at *
  generalize toN (o.drop (j + 1)) = T at *
  have hB : B = 1000000000 := rfl
  rw [hB, Nat.mul_add b q, Nat.mul_add 1000000000 (b * T) r]
  have : b * (1000000000 * T) = 1000000000 * (b * T) := Nat.mul_left_comm _ _ _
  omega
theorem div_bd {b r d : Nat} (hb0 : 0 < b) (hb : b < 1000000000) (hr : r < b) (hd : d < 1000000000) :
    (r * 1000000000 + d) / b < 1000000000 ∧ (r * 1000000000 + d) % b < b ∧ r * 1000000000 + d < 1000000000000000000 := by
  refine ⟨?_, Nat.mod_lt _ hb0, by omega⟩
  rw [Nat.div_lt_iff_lt_mul hb0]
  have : (r + 1) * 1000000000 ≤ b * 1000000000 := Nat.mul_le_mul_right _ hr
  omega

set_option maxRecDepth 100000 in
set_option maxHeartbeats 2000000 in
theorem divideShort_any (v : Value) (la : List Nat) (b : Nat) (w : World) (ha : Nats w v la) (da : Dig la) (hla : la.length ≤ 1000000) (hb0 : 0 < b) (hb : b < 1000000000) :
    Calls Tryd.prog 81 #[v, .int .u64 b] w fun e W' => ∃ q, e = .returned (.tuple #[q, .int .u64 (toN la % b : Nat)]) ∧ IsNat W' q (toN la / b) ∧ Fresh w.heap.size q ∧ Below w.heap.size w W' := by
  obtain ⟨pa, capa, rfl, ha1, ha2, ha3⟩ := ha
  have HA := Lib.hid ha3; clear ha3
  obtain ⟨i0, hi, hz0, hz1, hz2⟩ := info_parts info_u64
  have HI := Lib.hid (And.intro hi (And.intro hz0 (And.intro hz1 hz2))); clear hi hz0 hz1 hz2
  have HD := Lib.hid da; clear da
  have hne : ((b : Int) == 0) = false := by rw [beq_eq_false_iff_ne]; omega
  have hne2 : ¬ (b : Int) = 0 := by omega
  go_enter Tryd.func81, Tryd.ntmps81
  go_wp2_with (at_make; refine wpList_make_full _ rfl _ _ 44 rfl w.heap.size 67 i0 (.int .u64 0) 1 Tryd.underlying44 HI.out.1 HI.out.2.1 HI.out.2.2.1 .i64 .i64 _ _ (la.length) rfl rfl (by omega) (by omega) (by rw [HI.out.2.2.2]; omega) (by unfold maxLen; omega) (Nat.le_refl _) ?_; intro w1 hown hgrow)
  have hrow := Row.of_made hown
  have hB1 : Below w.heap.size w w1 := (Below.refl _ w).grown hgrow (Nat.le_refl _) (fun k e => by cases e)
  have hgl := hrow.lt
  clear hown hgrow
  generalize hg : w.heap.size = g at *
  have HG := Lib.hid hg; clear hg
  go_loopw [7, 8] (fun y x wr => ∃ (r j : Nat) (o : List Nat), j ≤ la.length ∧ x = .int .i64 ((j : Int) - 1) ∧ y = .int .u64 r ∧ r < b ∧ Row wr g o ∧ o.length = la.length ∧ Hid (Dig o) ∧ Hid (toN (la.drop j) = b * toN (o.drop j) + r) ∧ Below g w wr)
    (fun _ x _ => (intOf x + 1).toNat)
  case atStart =>
    exact ⟨0, la.length, List.replicate la.length 0, Nat.le_refl _, by go_num, rfl, hb0, hrow, List.length_replicate, Dig.replicate _, by show toN _ = _; rw [List.drop_length, List.drop_eq_nil_of_le (by rw [List.length_replicate]; exact Nat.le_refl _)]; simp [toN], hB1⟩
  case round =>
    clear hrow hB1 hgl
    obtain ⟨r, j, o, hj, rfl, rfl, hr, hrow, hlen, hdig, hval, hbel⟩ := hrel
    cases j with
    | zero =>
      have hv : toN la = b * toN o + r := hval.out
      have hq : toN la / b = toN o := by rw [hv, Nat.mul_add_div hb0, Nat.div_eq_of_lt hr, Nat.add_zero]
      have hm : toN la % b = r := by rw [hv, Nat.mul_add_mod, Nat.mod_eq_of_lt hr]
      have hN0 : Nats wr (.slice (some ⟨g, 0, none⟩) o.length la.length) o := hrow.nats (by omega) (by omega)
      have ct := trimmed_at _ _ o wr hN0 hdig.out
      have hn := hN0.take (dg_prefix hdig.out)
      rw [hlen] at ct
      rw [← hq] at ct hn
      have HM := Lib.hid hm
      have CT := Lib.hid ct
      have HN := Lib.hid hn
      have HBL := Lib.hid hbel
      clear hval ct hn hv hN0 hm hq hbel hrow
      go_wp2_with fail
      refine CT.out.mono ?_
      clear CT
      rintro e w' ⟨rfl, rfl⟩
      go_wp2
      go_ret2
      refine ⟨.slice (some ⟨g, 0, none⟩) (dg (toN la / b)).length la.length, ?_, HN.out, fun k hk => by cases hk; exact Nat.le_of_eq HG.out, by rw [HG.out]; exact HBL.out⟩
      show Ending.returned (.tuple #[.slice (some ⟨g, 0, none⟩) (dg (toN la / b)).length la.length, .int .u64 (r : Nat)]) = _
      rw [HM.out]
    | succ j =>
      obtain ⟨ab, aoff, rfl, hca⟩ := HA.out (by intro e; subst e; simp at hj)
      have ca0 := hca j (by omega)
      have cax : wr.cell? ⟨ab, aoff + j, none⟩ = some (.int .u64 (la.getD j 0 : Nat)) := (hbel.cell (p := ⟨ab, aoff + j, none⟩) (by rw [← HG.out]; exact World.block_lt_of_cell? w _ ca0)).trans ca0
      clear ca0 hca
      have co := hrow.cell (i := j) (by omega)
      have fo := hrow.frozen j
      have hst := div_step (la := la) (o := o) (b := b) (r := r) (j := j) (by omega) hlen hval.out
      have hx := HD.out.getD j
      have hbd := div_bd hb0 hb hr hx
      have R3 := hrow.set j ((r * 1000000000 + la.getD j 0) / b)
      generalize la.getD j 0 = x at *
      have HS := Lib.hid (And.intro hst (And.intro hbd R3))
      clear hst hbd R3 hval
      have hr' : (r : Int) ≤ 999999998 := by omega
      go_wp2
      have ht : (r : Int) * 1000000000 + (x : Int) = ((r * 1000000000 + x : Nat) : Int) := by rw [Int.natCast_add, Int.natCast_mul]; rfl
      rw [ht]
      clear ht
      obtain ⟨t, ht⟩ : ∃ t, r * 1000000000 + x = t := ⟨_, rfl⟩
      rw [ht] at HS
      rw [ht]
      have q1 : ((t / b : Nat) : Int) = (t : Int) / (b : Int) := Int.natCast_ediv _ _
      have q2 : ((t % b : Nat) : Int) = (t : Int) % (b : Int) := Int.natCast_emod _ _
      have hq : t / b < 1000000000 := HS.out.2.1.1
      have hm : t % b < b := HS.out.2.1.2.1
      have ht1 : t < 1000000000000000000 := HS.out.2.1.2.2
      have w1 : 0 ≤ (t : Int) / (b : Int) := Int.ediv_nonneg (by omega) (by omega)
      have w2 : (t : Int) / (b : Int) ≤ 999999999 := by rw [← q1]; clear q1 q2; generalize t / b = qq at hq; omega
      have hb1 : ¬ b = 0 := by omega
      have Q := Lib.hid (And.intro q1 q2)
      clear q1 q2 ht hr' hq hm
      have hjl : (j : Int) < (la.length : Int) := by omega
      go_region_held3 (fun w' => w'.frozen? ⟨g, j, none⟩ = false) (go_keep) (fail)
      rw [← Q.out.1]
      go_wp2
      go_roundw
      case rel =>
        obtain ⟨s1, ⟨s2, s3, _⟩, s4⟩ := HS.out
        refine ⟨t % b, j, o.set j (t / b), by omega, by go_num, by rw [Q.out.2]; first | done | rfl | (rw [Int.tmod_eq_emod_of_nonneg (by omega)]), s3, s4, by rw [List.length_set]; exact hlen, hdig.out.set _ s2, s1, ?_⟩
        exact (hbel.setCell (p := ⟨g, j, none⟩) (Nat.le_refl _) _).drew
      case measure => simp [intOf]
end Go.Proofs.YtajonpcmgebbbaaDoor
