/- The walks of shifted and of root. -/
import Derived.Test.YtajonpcmgebbbaaDoorDivide
namespace Go.Proofs.YtajonpcmgebbbaaDoor
open Go.RowKit

theorem dg_drop1 (n : Nat) : (dg n).drop 1 = dg (n / B) := by
  by_cases h : n = 0
  · subst h; rw [dg_zero, Nat.zero_div, dg_zero]; rfl
  · rw [dg_pos h]; rfl
theorem dg_drop (n k : Nat) : (dg n).drop k = dg (n / B ^ k) := by
  induction k with
  | zero => rw [Nat.pow_zero, Nat.div_one]; rfl
  | succ k ih =>
    rw [← List.drop_drop, ih, dg_drop1, Nat.div_div_eq_div_mul, Nat.pow_succ]
theorem Nats.drop {w : World} {b off cap k : Nat} {l : List Nat} (h : Nats w (.slice (some ⟨b, off, none⟩) l.length cap) l) (hk : k < l.length) : Nats w (.slice (some ⟨b, off + k, none⟩) (l.length - k) (cap - k)) (l.drop k) := by
  obtain ⟨p, cap', he, h1, h2, h3⟩ := h
  simp only [Value.slice.injEq, true_and] at he
  obtain ⟨rfl, rfl⟩ := he
  obtain ⟨b', off', e, hc⟩ := h3 (by intro e; subst e; simp at hk)
  simp only [Option.some.injEq, Addr.mk.injEq, and_true] at e
  obtain ⟨rfl, rfl⟩ := e
  refine ⟨_, cap - k, by rw [List.length_drop], by rw [List.length_drop]; omega, by omega, fun _ => ⟨b, off + k, rfl, fun i hi => ?_⟩⟩
  rw [List.length_drop] at hi
  rw [Nat.add_assoc, hc (k + i) (by omega)]
  congr 3
  rw [List.getD_eq_getElem?_getD, List.getD_eq_getElem?_getD, List.getElem?_drop]
theorem IsNat.unique {w : World} {v : Value} {m n : Nat} (h : IsNat w v m) (h' : IsNat w v n) : m = n := by
  obtain ⟨p, cap, rfl, a1, a2, a3⟩ := h
  obtain ⟨p', cap', he, b1, b2, b3⟩ := h'
  simp only [Value.slice.injEq] at he
  obtain ⟨rfl, hl, rfl⟩ := he
  have e : dg m = dg n := by
    refine List.ext_getElem hl (fun i h1 h2 => ?_)
    obtain ⟨b, off, e1, c1⟩ := a3 (by intro e; rw [e] at h1; simp at h1)
    obtain ⟨b', off', e2, c2⟩ := b3 (by intro e; rw [e] at h2; simp at h2)
    rw [e1] at e2
    simp only [Option.some.injEq, Addr.mk.injEq, and_true] at e2
    obtain ⟨rfl, rfl⟩ := e2
    have := (c1 i h1).symm.trans (c2 i h2)
    simp only [Option.some.injEq, Value.int.injEq, true_and] at this
    rw [getD_lt h1, getD_lt h2] at this
    exact Int.ofNat.inj this
  have := congrArg toN e
  rwa [toN_dg, toN_dg] at this
open Classical in
/-- the number in a slot, for a loop's measure -/
noncomputable def natVal (w : World) (v : Value) : Nat := if h : ∃ n, IsNat w v n then Classical.choose h else 0
theorem natVal_eq {w : World} {v : Value} {n : Nat} (h : IsNat w v n) : natVal w v = n := by
  unfold natVal
  have hx : ∃ n, IsNat w v n := ⟨n, h⟩
  rw [dif_pos hx]
  exact (Classical.choose_spec hx).unique h
theorem root_start {a p r : Nat} (hr : IsRoot (a / B ^ (2 * p)) r) : rootN a ≤ (r + 1) * B ^ p := by
  refine Nat.le_of_lt (rootN_le _ _ ?_)
  have hD : 0 < B ^ (2 * p) := Nat.pow_pos B_pos
  have h1 : a < (a / B ^ (2 * p) + 1) * B ^ (2 * p) := by
    have := Nat.lt_mul_div_succ a hD
    rwa [Nat.mul_comm] at this
  have h2 : (a / B ^ (2 * p) + 1) * B ^ (2 * p) ≤ (r + 1) * (r + 1) * B ^ (2 * p) := Nat.mul_le_mul_right _ hr.2
  have h3 : (r + 1) * B ^ p * ((r + 1) * B ^ p) = (r + 1) * (r + 1) * B ^ (2 * p) := by
    rw [Nat.two_mul, Nat.pow_add, Nat.mul_assoc, Nat.mul_left_comm (B ^ p), ← Nat.mul_assoc (r + 1)]
  omega

/-- 'make([]T, m, n)', T of one cell: m zero elements are owned -/
theorem wpList_make_part {P : Program} (w : World) {ops : Array Oper} {rest : List Oper} {o : Oper} {a : Act} {Q : Exit → Act → World → Prop}
    (hg : o.guard = none) (l c : Operand) (t : TypeId) (hop : o.op = Op.makeSlice t l c)
    (base : Nat) (e : TypeId) (i : TypeInfo) (h1 : P.underlying t = some (.slice e)) (h2 : P.info? e = some i) (h3 : i.zero = some (.int .u64 0)) (h4 : i.size = 1) (h5 : i.bytes = 8)
    (kl kc : IntKind) (L C : Int) (m n : Nat) (hl : a.eval l = .int kl L) (hc : a.eval c = .int kc C) (hL : L = (m : Int)) (hC : C = (n : Int)) (hmn : m ≤ n) (b3 : n ≤ 1000000) (b4 : base ≤ w.heap.size)
    (hK : ∀ w', w'.ownsRow base e 1 (.slice (some ⟨w.heap.size, 0, none⟩) m n) m (cells64 (List.replicate m 0)) → w.grownBy w' none → wpList P ops Q rest (a.put o.dst (.slice (some ⟨w.heap.size, 0, none⟩) m n)) w') :
    wpList P ops Q (o :: rest) a w := by
  refine wpList_plain hg fun K hK' => ?_
  have hr := run_make (P := P) w t e i _ h1 h2 h3 kl kc (m : Int) (n : Int) (by omega) (by omega) (by rw [h5]; omega) (by omega)
  simp only [Int.toNat_natCast, h4, Nat.mul_one] at hr
  subst hL
  subst hC
  have hz : (Value.int .u64 0).cells = #[.int .u64 0] := by simp [Value.cells]
  unfold Oper.wp
  simp [execOp, hop, hl, hc, hr, Result.andThen]
  refine hK' _ _ (hK _ ⟨by simp [cells64], .inr ⟨w.heap.size, n, madeCells (Value.int .u64 0).cells n, rfl, b4, heap_alloc_new w _, hmn, by unfold maxLen; omega, ?_, ?_⟩⟩ (World.grownBy_alloc w _ none))
  · rw [Nat.mul_one]; exact size_madeCells _ _
  · rw [Nat.mul_one, hz, toList_madeCells_one]
    simp [cells64, Nat.min_eq_left hmn]

set_option maxRecDepth 100000 in
set_option maxHeartbeats 1000000 in
theorem shifted_any (v : Value) (n p : Nat) (w : World) (h : IsNat w v n) (h0 : n ≠ 0) (hl : (dg n).length ≤ 400000) (hp : p ≤ 400000) :
    Calls Tryd.prog 80 #[v, .int .i64 p] w fun e W' => ∃ u, e = .returned u ∧ IsNat W' u (n * B ^ p) ∧ Fresh w.heap.size u ∧ Below w.heap.size w W' := by
  obtain ⟨i0, hi, hz0, hz1, hz2⟩ := info_parts info_u64
  have HI := Lib.hid (And.intro hi (And.intro hz0 (And.intro hz1 hz2))); clear hi hz0 hz1 hz2
  obtain ⟨pa, ca, rfl, a1, a2, a3⟩ := h
  have hpos := dg_len_pos h0
  obtain ⟨b, off, rfl, hc⟩ := a3 (List.length_pos_iff.1 hpos)
  have HC := Lib.hid hc
  clear a3 hc
  have ev : toN (List.replicate p 0 ++ dg n) = n * B ^ p := by rw [toN_append, toN_replicate, List.length_replicate, toN_dg, Nat.zero_add, Nat.mul_comm]
  have hdd : Dig (List.replicate p 0 ++ dg n) := (Dig.replicate p).append (dg_Dig n)
  have HE := Lib.hid (And.intro ev hdd)
  have HL := Lib.hid (And.intro hl hp)
  clear ev hdd
  go_enter Tryd.func80, Tryd.ntmps80
  have hsrc : ∀ W, Below w.heap.size w W → ∀ j u, (cells64 (dg n))[j]? = some u → W.cell? ((⟨b, off, none⟩ : Addr).add j) = some u := by
    intro W hW j u hu
    have hadd : (⟨b, off, none⟩ : Addr).add j = ⟨b, off + j, none⟩ := by unfold Addr.add; split <;> simp_all
    have hj : j < (dg n).length := by
      have := (List.getElem?_eq_some_iff.1 hu).1
      simpa [cells64] using this
    have hcj := HC.out j hj
    rw [hadd, (hW.cell (p := ⟨b, off + j, none⟩) (World.block_lt_of_cell? w _ hcj)), hcj, ← hu]
    simp [cells64, hj]
  have HS := Lib.hid hsrc
  clear hsrc
  go_wp2_with (first
    | (at_make; refine wpList_make_part _ rfl _ _ 44 rfl w.heap.size 67 i0 Tryd.underlying44 HI.out.1 HI.out.2.1 HI.out.2.2.1 HI.out.2.2.2 .i64 .i64 _ _ p (p + (dg n).length) rfl rfl (by omega) (by omega) (by omega) (by omega) (Nat.le_refl _) ?_; intro w1 hown hgrow; have HO := Lib.hid hown; have HB := Lib.hid ((Below.refl _ w).grown hgrow (Nat.le_refl _) (fun k e => by cases e)); clear hown hgrow)
    | (at_builtin; refine wpList_append_own _ rfl _ _ 44 rfl w.heap.size 67 i0 (.int .u64 0) 1 8 Tryd.underlying44 HI.out.1 HI.out.2.1 HI.out.2.2.1 HI.out.2.2.2 rfl (by decide) _ _ _ rfl HO.out ⟨b, off, none⟩ (dg n).length ca (cells64 (dg n)) rfl (by simp [cells64]) (HS.out w1 HB.out) (by simp [cells64, Value.oneCell']) (by unfold maxLen; omega) (by omega) (by have := HB.out.size; omega) ?_; intro v' w2 hown' hgrow' _; have HO2 := Lib.hid hown'; have HB2 := Lib.hid (HB.out.grown hgrow' HB.out.size (fun k hk => (HO.out.lt k hk).1)); clear hown' hgrow'))
  have h2 := HO2.out
  rw [show cells64 (List.replicate p 0) ++ cells64 (dg n) = cells64 (List.replicate p 0 ++ dg n) by simp [cells64]] at h2
  obtain ⟨g, cap, rfl, hg, hc1, hc2, hr⟩ := rowC_of_owns h2 (fun e => by rw [List.append_eq_nil_iff] at e; rw [e.2] at hpos; simp at hpos)
  have hN := hr.nats hc1 (by unfold maxLen at hc2; omega)
  have ct := trimmed_any _ _ w2 hN HE.out.2
  rw [HE.out.1] at ct
  have CT := Lib.hid ct
  clear ct h2 hr hN
  refine CT.out.mono ?_
  rintro e w' ⟨rfl, u, rfl, hu, hob⟩
  have HU := Lib.hid (And.intro hu hob)
  clear hu hob CT
  go_wp2
  go_ret
  exact ⟨u, rfl, HU.out.1, fun k hk => by rw [HU.out.2] at hk; cases hk; exact hg, HB2.out⟩
end Go.Proofs.YtajonpcmgebbbaaDoor
