/- The walk of over, the signs different. -/
import Derived.Test.YtajonpcmgebbbaaDoorOver
namespace Go.Proofs.YtajonpcmgebbbaaDoor
open Go.RowKit

set_option maxHeartbeats 2000000 in
theorem over_diff (na nb : Bool) (va vb : Value) (a b : Nat) (w : World) (ha : IsNat w va a) (hb : IsNat w vb b) (h0 : b ≠ 0) (hla : (dg a).length ≤ 900000) (hlb : (dg b).length ≤ 900000) (hn : (na == nb) = false) :
    Calls Tryd.prog 39 #[.agg #[.bool na, va], .agg #[.bool nb, vb]] w fun e W' => ∃ x y q r, e = .returned (.tuple #[.agg #[.bool true, x], .agg #[.bool nb, y]]) ∧ IsNat W' x q ∧ IsNat W' y r ∧ ((a % b = 0 ∧ q = a / b ∧ r = a % b) ∨ (a % b ≠ 0 ∧ q = a / b + 1 ∧ r = b - a % b)) ∧ Below w.heap.size w W' := by
  have cd := fun W (h : Below w.heap.size w W) => divide_any va vb a b W (ha.next h) (hb.next h) h0 hla
  obtain ⟨pa, ca, rfl⟩ := ha.shape
  obtain ⟨pb, cb, rfl⟩ := hb.shape
  have CD := Lib.hid cd
  clear cd
  have HH := Lib.hid (And.intro ha (And.intro hb (And.intro h0 hla)))
  have HLL := Lib.hid (And.intro hla hlb)
  clear ha hb hla hlb h0
  generalize hea : (dg a).length = la at *
  generalize heb : (dg b).length = lb at *
  have HEL := Lib.hid (And.intro hea heb)
  clear hea heb
  go_enter Tryd.func39, Tryd.ntmps39
  go_wp2_with fail
  have hbx := box4_new w (.bool na) (.slice pa la ca) (.bool nb) (.slice pb lb cb) 46
  generalize ((((w.alloc (.cells #[.bool na, .slice pa la ca] 46)).alloc (.cells #[.bool nb, .slice pb lb cb] 46)).alloc (.cells #[.bool false, .slice none 0 0] 46)).alloc (.cells #[.bool false, .slice none 0 0] 46)) = W0 at *
  generalize hk : w.heap.size = k at *
  have HK := Lib.hid hk; clear hk
  have HBX := Lib.hid hbx
  clear hbx
  refine (CD.out W0 HBX.out.below).mono ?_
  rintro e w1 ⟨q, r, rfl, hq, hr, hqf, hrf, hB⟩
  have HB1 := Lib.hid (HBX.out.next hB)
  obtain ⟨pq, cq, rfl⟩ := hq.shape
  obtain ⟨pr, cr, rfl⟩ := hr.shape
  have HV := Lib.hid (And.intro hq (And.intro hr (And.intro hqf (And.intro hrf hB))))
  clear hq hr hqf hrf hB CD
  obtain ⟨c1, c2, c3, c4, c5, c6, c7, c8, f5, f6, f7, f8, hsz, _⟩ := HB1.out
  by_cases hr0 : a % b = 0
  · have HZ := Lib.hid hr0
    have hlr : (dg (a % b)).length = 0 := by rw [hr0, dg_zero]; rfl
    generalize (dg (a / b)).length = lq at *
    generalize (dg (a % b)).length = lr at *
    subst hlr
    clear hr0
    go_wp2
    go_region_held3 (fun w' => w'.cell? ⟨k, 0, none⟩ = some (.bool na) ∧ w'.cell? ⟨k + 1, 0, none⟩ = some (.bool nb) ∧ w'.frozen? ⟨k + 1 + 1, 0, none⟩ = false ∧ w'.frozen? ⟨k + 1 + 1, 1, none⟩ = false ∧ w'.frozen? ⟨k + 1 + 1 + 1, 0, none⟩ = false ∧ w'.frozen? ⟨k + 1 + 1 + 1, 1, none⟩ = false)
      (first | (go_keep; done) | ((try dsimp only); refine ⟨?_, ?_, ?_, ?_, ?_, ?_⟩ <;> (first | (exact far2 (by omega) (by assumption)) | (go_keep; done) | (simp [go_sem, *]; done))))
      (fail)
    have hback := put4_back c5 c6 c7 c8 (.bool true) (.slice pq lq cq) (.bool nb) (.slice pr 0 cr)
    have HP := Lib.hid (And.intro (fun v n h hf => @put4_nats w1 k v n h hf (.bool true) (.slice pq lq cq) (.bool nb) (.slice pr 0 cr)) (put4_below (k := k) HB1.out.below (Nat.le_refl _) (.bool true) (.slice pq lq cq) (.bool nb) (.slice pr 0 cr)))
    unfold put4 at hback HP
    generalize (((w1.setCell ⟨k + 1 + 1, 0, none⟩ (.bool true)).setCell ⟨k + 1 + 1, 1, none⟩ (.slice pq lq cq)).setCell ⟨k + 1 + 1 + 1, 0, none⟩ (.bool nb)).setCell ⟨k + 1 + 1 + 1, 1, none⟩ (.slice pr 0 cr) = W4 at *
    obtain ⟨g5, g6, g7, g8⟩ := hback
    clear c1 c2 c3 c4 c5 c6 c7 c8 f5 f6 f7 f8
    go_wp2
    refine bodyPost_ret (v := .tuple #[.agg #[.bool true, .slice pq lq cq], .agg #[.bool nb, .slice pr 0 cr]]) (by simp [results, Tryd.results39, go_sem, g5, g6, g7, g8]) rfl ?_
    obtain ⟨hq, hr, hqf, hrf, hB⟩ := HV.out
    obtain ⟨ha, hb, h0, hla⟩ := HH.out
    have hs := HBX.out.size
    have hs1 := HB1.out.size
    have fb : ∀ v, Fresh W0.heap.size v → v.ownBlock ≠ some (k + 1 + 1) ∧ v.ownBlock ≠ some (k + 1 + 1 + 1) := fun v hv => ⟨fun e => by have := hv _ e; omega, fun e => by have := hv _ e; omega⟩
    have HR := HZ.out
    refine ⟨_, _, a / b, a % b, rfl, HP.out.1 _ _ hq (.inr (fb _ hqf)), HP.out.1 _ _ hr (.inl (by rw [HR, dg_zero])), .inl ⟨HR, rfl, rfl⟩, by rw [HK.out]; exact HP.out.2.drew⟩
  · have hlr : 0 < (dg (a % b)).length := dg_len_pos hr0
    have c66 : Calls Tryd.prog 66 #[.slice pq (dg (a / b)).length cq, .slice (some ⟨w1.heap.size, 0, none⟩) 1 1] (w1.alloc (.cells #[.int .u64 1] 67)).drew fun e W' => ∃ v, e = .returned v ∧ IsNat W' v (a / b + 1) ∧ Fresh w1.heap.size v ∧ Below w1.heap.size w1 W' := by
      obtain ⟨hq, hr, hqf, hrf, hB⟩ := HV.out
      obtain ⟨ha, hb, h0, _⟩ := HH.out
      obtain ⟨hla, hlb⟩ := HLL.out
      obtain ⟨hea, heb⟩ := HEL.out
      have hb1 : Below w1.heap.size w1 (w1.alloc (.cells #[.int .u64 1] 67)).drew := ((Below.refl _ w1).alloc (Nat.le_refl _) _).drew
      have h1 : IsNat (w1.alloc (.cells #[.int .u64 1] 67)).drew (.slice (some ⟨w1.heap.size, 0, none⟩) 1 1) 1 := by
        show Nats _ _ (dg 1)
        rw [show dg 1 = [1] by decide +kernel]
        exact Nats.of_cells (l := [1]) (Nat.le_refl _) (by decide) (fun i hi => by
          match i, hi with
          | 0, _ => go_cell)
      refine (sum_any _ _ (a / b) 1 _ (hq.next hb1) h1 ?_ (by rw [show dg 1 = [1] by decide +kernel]; decide)).mono ?_
      · have := dg_len_le (Nat.div_le_self a b); omega
      · rintro e W' ⟨v, rfl, hv, hf, hb⟩
        exact ⟨v, rfl, hv, hf.mono hb1.size, hb1.trans (hb.mono hb1.size)⟩
    have c67 : ∀ W, Below w1.heap.size w1 W → Calls Tryd.prog 67 #[.slice pb lb cb, .slice pr (dg (a % b)).length cr] W fun e W' => ∃ v, e = .returned v ∧ IsNat W' v (b - a % b) ∧ Fresh W.heap.size v ∧ Below W.heap.size W W' := fun W hW => by
      obtain ⟨hq, hr, hqf, hrf, hB⟩ := HV.out
      obtain ⟨ha, hb, h0, _⟩ := HH.out
      obtain ⟨hla, hlb⟩ := HLL.out
      obtain ⟨hea, heb⟩ := HEL.out
      have hb : IsNat w (.slice pb (dg b).length cb) b := by rw [heb]; exact hb
      rw [← heb]
      exact difference_any _ _ b (a % b) W (hb.next ((by rw [HK.out]; exact HB1.out.below.trans (hW.mono (by omega))))) (hr.next hW) (by omega) (Nat.le_of_lt (Nat.mod_lt _ (by omega)))
    have C66 := Lib.hid c66
    have C67 := Lib.hid c67
    clear c66 c67
    generalize (dg (a / b)).length = lq at *
    generalize (dg (a % b)).length = lr at *
    have hlr2 : (0 : Int) < (lr : Int) := by omega
    go_wp2
    go_region_held3 (fun w' => w'.cell? ⟨k + 1, 1, none⟩ = some (.slice pb lb cb)) ((go_keep; done))
      (first
        | (go_at_call 66; refine C66.out.mono ?_; rintro e w2 ⟨v2, rfl, hv2, hf2, hb2⟩; obtain ⟨p2, cq2, rfl⟩ := hv2.shape; have e4 : w2.cell? ⟨k + 1, 1, none⟩ = some (.slice pb lb cb) := (hb2.cell (p := ⟨k + 1, 1, none⟩) (by show k + 1 < _; omega)).trans c4; have HS2 := Lib.hid (And.intro hv2 (And.intro hf2 hb2)); clear hv2 hf2 hb2)
        | (go_at_call 67; refine (C67.out _ HS2.out.2.2).mono ?_; rintro e w3 ⟨v3, rfl, hv3, hf3, hb3⟩; obtain ⟨p3, cr3, rfl⟩ := hv3.shape; have e5 : w3.cell? ⟨k + 1, 1, none⟩ = some (.slice pb lb cb) := (hb3.cell (p := ⟨k + 1, 1, none⟩) (by have := HS2.out.2.2.size; show k + 1 < _; omega)).trans e4; have HS3 := Lib.hid (And.intro hv3 (And.intro hf3 hb3)); clear hv3 hf3 hb3))
    have hbw : Below w1.heap.size w1 w3 := HS2.out.2.2.trans (HS3.out.2.2.mono HS2.out.2.2.size)
    have HB3 := Lib.hid (HB1.out.next hbw)
    clear c1 c2 c3 c4 c5 c6 c7 c8 f5 f6 f7 f8 e4 e5 hsz hbw
    obtain ⟨c1, c2, c3, c4, c5, c6, c7, c8, f5, f6, f7, f8, hsz, _⟩ := HB3.out
    generalize (dg (a / b + 1)).length = l2 at *
    generalize (dg (b - a % b)).length = l3 at *
    go_wp2
    go_region_held3 (fun w' => w'.cell? ⟨k, 0, none⟩ = some (.bool na) ∧ w'.cell? ⟨k + 1, 0, none⟩ = some (.bool nb) ∧ w'.frozen? ⟨k + 1 + 1, 0, none⟩ = false ∧ w'.frozen? ⟨k + 1 + 1, 1, none⟩ = false ∧ w'.frozen? ⟨k + 1 + 1 + 1, 0, none⟩ = false ∧ w'.frozen? ⟨k + 1 + 1 + 1, 1, none⟩ = false)
      (first | (go_keep; done) | ((try dsimp only); refine ⟨?_, ?_, ?_, ?_, ?_, ?_⟩ <;> (first | (exact far2 (by omega) (by assumption)) | (go_keep; done) | (simp [go_sem, *]; done))))
      (fail)
    have hback := put4_back c5 c6 c7 c8 (.bool true) (.slice p2 l2 cq2) (.bool nb) (.slice p3 l3 cr3)
    have HP := Lib.hid (And.intro (fun v n h hf => @put4_nats w3 k v n h hf (.bool true) (.slice p2 l2 cq2) (.bool nb) (.slice p3 l3 cr3)) (put4_below (k := k) HB3.out.below (Nat.le_refl _) (.bool true) (.slice p2 l2 cq2) (.bool nb) (.slice p3 l3 cr3)))
    unfold put4 at hback HP
    generalize (((w3.setCell ⟨k + 1 + 1, 0, none⟩ (.bool true)).setCell ⟨k + 1 + 1, 1, none⟩ (.slice p2 l2 cq2)).setCell ⟨k + 1 + 1 + 1, 0, none⟩ (.bool nb)).setCell ⟨k + 1 + 1 + 1, 1, none⟩ (.slice p3 l3 cr3) = W4 at *
    obtain ⟨g5, g6, g7, g8⟩ := hback
    clear c1 c2 c3 c4 c5 c6 c7 c8 f5 f6 f7 f8
    go_wp2
    refine bodyPost_ret (v := .tuple #[.agg #[.bool true, .slice p2 l2 cq2], .agg #[.bool nb, .slice p3 l3 cr3]]) (by simp [results, Tryd.results39, go_sem, g5, g6, g7, g8]) rfl ?_
    obtain ⟨hq, hr, hqf, hrf, hB⟩ := HV.out
    have hs := HBX.out.size
    have hs1 := HB1.out.size
    have fb : ∀ v, Fresh W0.heap.size v → v.ownBlock ≠ some (k + 1 + 1) ∧ v.ownBlock ≠ some (k + 1 + 1 + 1) := fun v hv => ⟨fun e => by have := hv _ e; omega, fun e => by have := hv _ e; omega⟩
    obtain ⟨hq2, hqf2, hb2⟩ := HS2.out
    obtain ⟨hr3, hrf3, hb3⟩ := HS3.out
    have f2 := hqf2.mono hB.size
    have f3 := hrf3.mono (Nat.le_trans hB.size hb2.size)
    refine ⟨_, _, a / b + 1, b - a % b, rfl, HP.out.1 _ _ (hq2.next hb3) (.inr (fb _ f2)), HP.out.1 _ _ hr3 (.inr (fb _ f3)), .inr ⟨hr0, rfl, rfl⟩, by rw [HK.out]; exact HP.out.2.drew⟩
end Go.Proofs.YtajonpcmgebbbaaDoor
