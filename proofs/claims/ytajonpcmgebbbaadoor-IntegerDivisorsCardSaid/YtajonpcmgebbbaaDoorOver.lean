/- The walks of over and of Divide. -/
import Derived.Test.YtajonpcmgebbbaaDoorDivA
import Derived.Test.YtajonpcmgebbbaaDoorPow
namespace Go.Proofs.YtajonpcmgebbbaaDoor
open Go.RowKit

theorem sgn_zero (n : Bool) : sgnZ n 0 = 0 := by unfold sgnZ; cases n <;> rfl
/-- floors, by the sizes -/
theorem floor_sgn (na nb : Bool) (a b : Nat) (h0 : b ≠ 0) :
    ((na = nb ∨ a % b = 0) → (sgnZ na a).fdiv (sgnZ nb b) = sgnZ (na != nb) (a / b) ∧ (sgnZ na a).fmod (sgnZ nb b) = sgnZ nb (a % b)) ∧
    ((na ≠ nb ∧ a % b ≠ 0) → (sgnZ na a).fdiv (sgnZ nb b) = sgnZ (na != nb) (a / b + 1) ∧ (sgnZ na a).fmod (sgnZ nb b) = sgnZ nb (b - a % b)) := by
  have hm := Nat.mod_lt a (show 0 < b by omega)
  have he := Nat.div_add_mod a b
  have he' : ((b : Int) * ((a / b : Nat) : Int)) + ((a % b : Nat) : Int) = (a : Int) := by rw [← Int.natCast_mul, ← Int.natCast_add, he]
  generalize a / b = q at *
  generalize a % b = r at *
  generalize hbq : (b : Int) * (q : Int) = P at *
  have hsub : ((b - r : Nat) : Int) = (b : Int) - r := by omega
  constructor
  · intro h
    cases na <;> cases nb <;> simp only [sgnZ, if_true, if_false, bne_self_eq_false, Bool.false_eq_true, Bool.true_bne, Bool.false_bne, Bool.not_false, Bool.not_true] <;>
      refine fdiv_unique ?_ (by omega) (fun h1 => ?_) (fun h1 => ?_) <;>
      (try simp only [Int.neg_mul, Int.mul_neg, hbq]) <;> (try simp only [reduceCtorEq, false_or] at h) <;> omega
  · rintro ⟨h, hr⟩
    cases na <;> cases nb <;> simp only [ne_eq, not_true_eq_false] at h <;> simp only [sgnZ, if_true, if_false, bne_self_eq_false, Bool.false_eq_true, Bool.true_bne, Bool.false_bne, Bool.not_false, Bool.not_true] <;>
      refine fdiv_unique ?_ (by omega) (fun h1 => ?_) (fun h1 => ?_) <;>
      (try simp only [Int.neg_mul, Int.mul_neg, hbq, Int.natCast_add, Int.mul_add, hsub]) <;> omega

/-- what the four boxes of over hold: x, y and the two results -/
structure Box4 (w : World) (k : Nat) (x0 x1 y0 y1 : Value) (W : World) : Prop where
  c1 : W.cell? ⟨k, 0, none⟩ = some x0
  c2 : W.cell? ⟨k, 1, none⟩ = some x1
  c3 : W.cell? ⟨k + 1, 0, none⟩ = some y0
  c4 : W.cell? ⟨k + 1, 1, none⟩ = some y1
  c5 : W.cell? ⟨k + 1 + 1, 0, none⟩ = some (.bool false)
  c6 : W.cell? ⟨k + 1 + 1, 1, none⟩ = some (.slice none 0 0)
  c7 : W.cell? ⟨k + 1 + 1 + 1, 0, none⟩ = some (.bool false)
  c8 : W.cell? ⟨k + 1 + 1 + 1, 1, none⟩ = some (.slice none 0 0)
  f5 : W.frozen? ⟨k + 1 + 1, 0, none⟩ = false
  f6 : W.frozen? ⟨k + 1 + 1, 1, none⟩ = false
  f7 : W.frozen? ⟨k + 1 + 1 + 1, 0, none⟩ = false
  f8 : W.frozen? ⟨k + 1 + 1 + 1, 1, none⟩ = false
  size : k + 4 ≤ W.heap.size
  below : Below k w W
theorem box4_new (w : World) (x0 x1 y0 y1 : Value) (t : TypeId) :
    Box4 w w.heap.size x0 x1 y0 y1 ((((w.alloc (.cells #[x0, x1] t)).alloc (.cells #[y0, y1] t)).alloc (.cells #[.bool false, .slice none 0 0] t)).alloc (.cells #[.bool false, .slice none 0 0] t)) :=
  ⟨by go_cell, by go_cell, by go_cell, by go_cell, by go_cell, by go_cell, by go_cell, by go_cell, by simp [go_sem], by simp [go_sem], by simp [go_sem], by simp [go_sem], by simp,
    ((((Below.refl _ w).alloc (Nat.le_refl _) _).alloc (by simp) _).alloc (by simp; omega) _).alloc (by simp; omega) _⟩
theorem Box4.next {w : World} {k : Nat} {x0 x1 y0 y1 : Value} {W W' : World} (h : Box4 w k x0 x1 y0 y1 W) (hb : Below W.heap.size W W') : Box4 w k x0 x1 y0 y1 W' := by
  have hs := h.size
  exact ⟨(hb.cell (p := ⟨k, 0, none⟩) (by show k < _; omega)).trans h.c1, (hb.cell (p := ⟨k, 1, none⟩) (by show k < _; omega)).trans h.c2,
    (hb.cell (p := ⟨k + 1, 0, none⟩) (by show k + 1 < _; omega)).trans h.c3, (hb.cell (p := ⟨k + 1, 1, none⟩) (by show k + 1 < _; omega)).trans h.c4,
    (hb.cell (p := ⟨k + 1 + 1, 0, none⟩) (by show k + 1 + 1 < _; omega)).trans h.c5, (hb.cell (p := ⟨k + 1 + 1, 1, none⟩) (by show k + 1 + 1 < _; omega)).trans h.c6,
    (hb.cell (p := ⟨k + 1 + 1 + 1, 0, none⟩) (by show k + 1 + 1 + 1 < _; omega)).trans h.c7, (hb.cell (p := ⟨k + 1 + 1 + 1, 1, none⟩) (by show k + 1 + 1 + 1 < _; omega)).trans h.c8,
    (hb.frozen (p := ⟨k + 1 + 1, 0, none⟩) (by show k + 1 + 1 < _; omega)).trans h.f5, (hb.frozen (p := ⟨k + 1 + 1, 1, none⟩) (by show k + 1 + 1 < _; omega)).trans h.f6,
    (hb.frozen (p := ⟨k + 1 + 1 + 1, 0, none⟩) (by show k + 1 + 1 + 1 < _; omega)).trans h.f7, (hb.frozen (p := ⟨k + 1 + 1 + 1, 1, none⟩) (by show k + 1 + 1 + 1 < _; omega)).trans h.f8,
    Nat.le_trans h.size hb.size, h.below.trans (hb.mono (by omega))⟩

/-- both results stored -/
def put4 (w : World) (k : Nat) (A B C D : Value) : World :=
  (((w.setCell ⟨k + 1 + 1, 0, none⟩ A).setCell ⟨k + 1 + 1, 1, none⟩ B).setCell ⟨k + 1 + 1 + 1, 0, none⟩ C).setCell ⟨k + 1 + 1 + 1, 1, none⟩ D
theorem put4_back {w : World} {k : Nat} {x0 x1 x2 x3 : Value} (c5 : w.cell? ⟨k + 1 + 1, 0, none⟩ = some x0) (c6 : w.cell? ⟨k + 1 + 1, 1, none⟩ = some x1) (c7 : w.cell? ⟨k + 1 + 1 + 1, 0, none⟩ = some x2) (c8 : w.cell? ⟨k + 1 + 1 + 1, 1, none⟩ = some x3)
    (A B C D : Value) : (put4 w k A B C D).cell? ⟨k + 1 + 1, 0, none⟩ = some A ∧ (put4 w k A B C D).cell? ⟨k + 1 + 1, 1, none⟩ = some B ∧ (put4 w k A B C D).cell? ⟨k + 1 + 1 + 1, 0, none⟩ = some C ∧ (put4 w k A B C D).cell? ⟨k + 1 + 1 + 1, 1, none⟩ = some D := by
  unfold put4
  obtain ⟨b1, b2⟩ := two_back c5 c6 A B
  have b3 : ((w.setCell ⟨k + 1 + 1, 0, none⟩ A).setCell ⟨k + 1 + 1, 1, none⟩ B).cell? ⟨k + 1 + 1, 0, none⟩ = some A := by
    refine (?_ : _ = _).trans b1
    go_cell
  obtain ⟨d1, d2⟩ := two_back (far2 (x := A) (y := B) (j := k + 1 + 1) (by omega) c7) (far2 (x := A) (y := B) (j := k + 1 + 1) (by omega) c8) C D
  refine ⟨far2 (by omega) b3, far2 (by omega) b2, ?_, d2⟩
  refine (?_ : _ = _).trans d1
  go_cell
theorem put4_nats {w : World} {k : Nat} {v : Value} {n : Nat} (h : IsNat w v n) (hf : dg n = [] ∨ (v.ownBlock ≠ some (k + 1 + 1) ∧ v.ownBlock ≠ some (k + 1 + 1 + 1))) (A B C D : Value) : IsNat (put4 w k A B C D) v n := by
  have h1 : dg n = [] ∨ v.ownBlock ≠ some (k + 1 + 1) := hf.imp_right And.left
  have h2 : dg n = [] ∨ v.ownBlock ≠ some (k + 1 + 1 + 1) := hf.imp_right And.right
  exact (((h.setCell_ne h1 _).setCell_ne h1 _).setCell_ne h2 _).setCell_ne h2 _
theorem put4_below {w a : World} {k B0 : Nat} (h : Below B0 a w) (hB : B0 ≤ k) (A B C D : Value) : Below B0 a (put4 w k A B C D) :=
  (((h.setCell (p := ⟨k + 1 + 1, 0, none⟩) (by show B0 ≤ k + 1 + 1; omega) _).setCell (p := ⟨k + 1 + 1, 1, none⟩) (by show B0 ≤ k + 1 + 1; omega) _).setCell (p := ⟨k + 1 + 1 + 1, 0, none⟩) (by show B0 ≤ k + 1 + 1 + 1; omega) _).setCell (p := ⟨k + 1 + 1 + 1, 1, none⟩) (by show B0 ≤ k + 1 + 1 + 1; omega) _

set_option maxHeartbeats 2000000 in
theorem over_same (nb : Bool) (va vb : Value) (a b : Nat) (w : World) (ha : IsNat w va a) (hb : IsNat w vb b) (h0 : b ≠ 0) (hla : (dg a).length ≤ 900000) :
    Calls Tryd.prog 39 #[.agg #[.bool nb, va], .agg #[.bool nb, vb]] w fun e W' => ∃ x y, e = .returned (.tuple #[.agg #[.bool false, x], .agg #[.bool nb, y]]) ∧ IsNat W' x (a / b) ∧ IsNat W' y (a % b) ∧ Below w.heap.size w W' := by
  have cd := fun W (h : Below w.heap.size w W) => divide_any va vb a b W (ha.next h) (hb.next h) h0 hla
  obtain ⟨pa, ca, rfl⟩ := ha.shape
  obtain ⟨pb, cb, rfl⟩ := hb.shape
  have CD := Lib.hid cd
  clear cd
  have HH := Lib.hid (And.intro ha (And.intro hb (And.intro h0 hla)))
  clear ha hb hla h0
  generalize (dg a).length = la at *
  generalize (dg b).length = lb at *
  go_enter Tryd.func39, Tryd.ntmps39
  go_wp2_with fail
  have hbx := box4_new w (.bool nb) (.slice pa la ca) (.bool nb) (.slice pb lb cb) 46
  generalize ((((w.alloc (.cells #[.bool nb, .slice pa la ca] 46)).alloc (.cells #[.bool nb, .slice pb lb cb] 46)).alloc (.cells #[.bool false, .slice none 0 0] 46)).alloc (.cells #[.bool false, .slice none 0 0] 46)) = W0 at *
  generalize hk : w.heap.size = k at *
  have HK := Lib.hid hk; clear hk
  have HBX := Lib.hid hbx
  clear hbx
  refine (CD.out W0 HBX.out.below).mono ?_
  rintro e w1 ⟨q, r, rfl, hq, hr, hqf, hrf, hB⟩
  have HB1 := Lib.hid (HBX.out.next hB)
  obtain ⟨pq, cq, rfl⟩ := hq.shape
  obtain ⟨pr, cr, rfl⟩ := hr.shape
  have HV := Lib.hid (And.intro hq (And.intro hr (And.intro hqf (And.intro hrf hB))))
  clear hq hr hqf hrf hB CD
  obtain ⟨c1, c2, c3, c4, c5, c6, c7, c8, f5, f6, f7, f8, hsz, _⟩ := HB1.out
  have hg : (nb == nb) = true := by simp
  generalize (dg (a / b)).length = lq at *
  generalize (dg (a % b)).length = lr at *
  go_wp2
  go_region_held3 (fun w' => w'.cell? ⟨k, 0, none⟩ = some (.bool nb) ∧ w'.cell? ⟨k + 1, 0, none⟩ = some (.bool nb) ∧ w'.frozen? ⟨k + 1 + 1, 0, none⟩ = false ∧ w'.frozen? ⟨k + 1 + 1, 1, none⟩ = false ∧ w'.frozen? ⟨k + 1 + 1 + 1, 0, none⟩ = false ∧ w'.frozen? ⟨k + 1 + 1 + 1, 1, none⟩ = false)
    (first | (go_keep; done) | ((try dsimp only); refine ⟨?_, ?_, ?_, ?_, ?_, ?_⟩ <;> (first | (exact far2 (by omega) (by assumption)) | (go_keep; done) | (simp [go_sem, *]; done))))
    (fail)
  have hback := put4_back c5 c6 c7 c8 (.bool false) (.slice pq lq cq) (.bool nb) (.slice pr lr cr)
  have HP := Lib.hid (And.intro (fun v n h hf => @put4_nats w1 k v n h hf (.bool false) (.slice pq lq cq) (.bool nb) (.slice pr lr cr)) (put4_below (k := k) HB1.out.below (Nat.le_refl _) (.bool false) (.slice pq lq cq) (.bool nb) (.slice pr lr cr)))
  unfold put4 at hback HP
  generalize (((w1.setCell ⟨k + 1 + 1, 0, none⟩ (.bool false)).setCell ⟨k + 1 + 1, 1, none⟩ (.slice pq lq cq)).setCell ⟨k + 1 + 1 + 1, 0, none⟩ (.bool nb)).setCell ⟨k + 1 + 1 + 1, 1, none⟩ (.slice pr lr cr) = W4 at *
  obtain ⟨g5, g6, g7, g8⟩ := hback
  clear c1 c2 c3 c4 c5 c6 c7 c8 f5 f6 f7 f8
  go_wp2
  refine bodyPost_ret (v := .tuple #[.agg #[.bool false, .slice pq lq cq], .agg #[.bool nb, .slice pr lr cr]]) (by simp [results, Tryd.results39, go_sem, g5, g6, g7, g8]) rfl ?_
  obtain ⟨hq, hr, hqf, hrf, hB⟩ := HV.out
  obtain ⟨ha, hb, h0, hla⟩ := HH.out
  have hs := HBX.out.size
  have fb : ∀ v, Fresh W0.heap.size v → v.ownBlock ≠ some (k + 1 + 1) ∧ v.ownBlock ≠ some (k + 1 + 1 + 1) := fun v hv => ⟨fun e => by have := hv _ e; omega, fun e => by have := hv _ e; omega⟩
  refine ⟨_, _, rfl, HP.out.1 _ _ hq (.inr (fb _ hqf)), ?_, by rw [HK.out]; exact HP.out.2.drew⟩
  rcases hrf with hrf | ⟨hlt, e⟩
  · exact HP.out.1 _ _ hr (.inr (fb _ hrf))
  · rw [Nat.mod_eq_of_lt hlt, e]
    exact ha.next (by rw [HK.out]; exact HP.out.2.drew)
end Go.Proofs.YtajonpcmgebbbaaDoor
