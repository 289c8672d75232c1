/- The walks of the naturals: of a machine's number, the machine's number of one, its decimal digits, comparing. -/
import Derived.Test.YtajonpcmgebbbaaDoorW4
namespace Go.Proofs.YtajonpcmgebbbaaDoor
open Go.RowKit

/-- v is the natural n: its digits of the base, none in front -/
def IsNat (w : World) (v : Value) (n : Nat) : Prop := Nats w v (dg n)
theorem IsNat.next {w w' : World} {v : Value} {n : Nat} (h : IsNat w v n) (hb : Below w.heap.size w w') : IsNat w' v n := Nats.next h hb
theorem isNat_zero (w : World) : IsNat w (.slice none 0 0) 0 := by unfold IsNat; rw [dg_zero]; exact Nats.nil w

theorem Nats.of_cells {w : World} {b : Nat} {l : List Nat} {cap : Nat} (h1 : l.length ≤ cap) (h2 : cap ≤ 9223372036854775807)
    (h : ∀ i, i < l.length → w.cell? ⟨b, i, none⟩ = some (.int .u64 (l.getD i 0 : Nat))) : Nats w (.slice (some ⟨b, 0, none⟩) l.length cap) l :=
  ⟨_, cap, rfl, h1, h2, fun _ => ⟨b, 0, rfl, fun i hi => by rw [Nat.zero_add]; exact h i hi⟩⟩

theorem nats_two (w : World) (x y : Nat) (e : TypeId) :
    Nats (w.alloc (.cells #[.int .u64 x, .int .u64 y] e)) (.slice (some ⟨w.heap.size, 0, none⟩) 2 2) [x, y] :=
  Nats.of_cells (l := [x, y]) (Nat.le_refl _) (by decide) (fun i hi => by
    match i, hi with
    | 0, _ => go_cell
    | 1, _ => go_cell)

set_option maxHeartbeats 400000 in
theorem ofValue_any (n : Nat) (w : World) (hn : n < 1000000000000000000) :
    Calls Tryd.prog 75 #[.int .u64 n] w fun e w' => ∃ v, e = .returned v ∧ IsNat w' v n ∧ Fresh w.heap.size v ∧ Below w.heap.size w w' := by
  have hv : toN [n % 1000000000, n / 1000000000] = n := by
    simp only [toN, Nat.mul_zero, Nat.add_zero, B_eq]; omega
  have hd : Dig [n % 1000000000, n / 1000000000] := Dig.cons (by omega) (Dig.one (by omega))
  have c := trimmed_any _ _ _ (nats_two w (n % 1000000000) (n / 1000000000) 67) hd
  rw [Int.natCast_emod, Int.natCast_ediv, hv] at c
  have C := Lib.hid c; clear c hv hd
  go_enter Tryd.func75, Tryd.ntmps75
  go_wp2_with fail
  refine C.out.mono ?_
  rintro e w' ⟨rfl, v, rfl, hv, ho⟩
  have HV := Lib.hid hv; clear hv C
  have HO := Lib.hid ho; clear ho
  go_wp2
  go_ret
  exact ⟨v, rfl, HV.out, fun k hk => by rw [HO.out] at hk; cases hk; exact Nat.le_refl _, (Below.refl _ _).alloc (Nat.le_refl _) _⟩

/-! ### the machine's number of a natural -/
theorem dg_getD (n i : Nat) : (dg n).getD i 0 = n / B ^ i % B := by
  induction i generalizing n with
  | zero =>
    by_cases h : n = 0
    · subst h; rw [dg_zero]; simp
    · rw [dg_pos h]; simp
  | succ i ih =>
    by_cases h : n = 0
    · subst h; rw [dg_zero]; simp
    · rw [dg_pos h, List.getD_cons_succ, ih, Nat.pow_succ, Nat.mul_comm, Nat.div_div_eq_div_mul]

set_option maxHeartbeats 400000 in
theorem natMachine_any (v : Value) (n : Nat) (w : World) (h : IsNat w v n) (hn : n < 1000000000000000000) :
    Calls Tryd.prog 76 #[v] w fun e w' => e = .returned (.int .u64 n) ∧ w = w' := by
  have c1 := at_any v (dg n) 1 w h (by decide) (by decide)
  have c0 := at_any v (dg n) 0 w h (by decide) (by decide)
  have g1 : (dg n).getD 1 0 = n / 1000000000 := by
    rw [dg_getD, Nat.pow_one, B_eq]; omega
  have g0 : (dg n).getD 0 0 = n % 1000000000 := by
    rw [dg_getD, Nat.pow_zero, B_eq]; omega
  rw [show (1 : Int).toNat = 1 from rfl, g1] at c1
  rw [show (0 : Int).toNat = 0 from rfl, g0] at c0
  have C1 := Lib.hid c1; have C0 := Lib.hid c0
  clear c1 c0 g1 g0
  obtain ⟨q, hq⟩ : ∃ q, n / 1000000000 = q := ⟨_, rfl⟩
  obtain ⟨r, hr⟩ : ∃ r, n % 1000000000 = r := ⟨_, rfl⟩
  have hqr : q * 1000000000 + r = n := by omega
  have hq2 : q < 1000000000 := by omega
  have hr2 : r < 1000000000 := by omega
  rw [hq] at C1; rw [hr] at C0
  have HN := Lib.hid hqr; clear hq hr hqr
  go_enter Tryd.func76, Tryd.ntmps76
  go_wp2_with fail
  refine C1.out.mono ?_
  rintro e w' ⟨rfl, rfl⟩
  go_wp2_with fail
  refine C0.out.mono ?_
  rintro e w' ⟨rfl, rfl⟩
  clear C0 C1
  go_wp2
  go_ret
  exact ⟨ret_int (by have := HN.out; omega), rfl⟩

/-! ### how many decimal digits -/
theorem pow_le_nDigits (u : Nat) (h : 0 < u) : 10 ^ (Lib.nDigits u - 1) ≤ u := by
  induction u using Nat.strongRecOn with
  | _ u ih =>
    by_cases hu : u < 10
    · rw [Lib.nDigits_small hu]; simp; omega
    · rw [Lib.nDigits_big hu, Nat.add_sub_cancel]
      have h1 := ih (u / 10) (by omega) (by omega)
      have h2 := Lib.nDigits_pos (u / 10)
      obtain ⟨k, hk⟩ : ∃ k, Lib.nDigits (u / 10) = k + 1 := ⟨Lib.nDigits (u / 10) - 1, by omega⟩
      rw [hk] at h1 ⊢
      rw [Nat.add_sub_cancel] at h1
      rw [Nat.pow_succ]; omega
theorem nDigits_scaled (d k r : Nat) (hd : 0 < d) (hr : r < 10 ^ k) : Lib.nDigits (r + 10 ^ k * d) = k + Lib.nDigits d := by
  have h1 := Lib.nDigits_pos d
  obtain ⟨m, hm⟩ : ∃ m, Lib.nDigits d = m + 1 := ⟨Lib.nDigits d - 1, by omega⟩
  have h2 := pow_le_nDigits d hd
  have h3 := Lib.lt_pow_nDigits d
  rw [hm] at h2 h3 ⊢
  rw [Nat.add_sub_cancel] at h2
  rw [show k + (m + 1) = (k + m) + 1 by omega]
  refine Lib.nDigits_unique (k + m) _ ?_ ?_
  · rw [Nat.pow_add]
    exact Nat.le_trans (Nat.mul_le_mul_left _ h2) (Nat.le_add_left _ _)
  · have h4 : 10 ^ k * (d + 1) ≤ 10 ^ k * 10 ^ (m + 1) := Nat.mul_le_mul_left _ h3
    rw [show k + m + 1 = k + (m + 1) by omega, Nat.pow_add]
    rw [Nat.mul_succ] at h4
    omega
theorem B_pow (k : Nat) : B ^ k = 10 ^ (9 * k) := by rw [Nat.pow_mul]; rfl
theorem dg_split (n : Nat) (h : n ≠ 0) : ∃ r, r < B ^ ((dg n).length - 1) ∧ 0 < (dg n).getD ((dg n).length - 1) 0 ∧ n = r + B ^ ((dg n).length - 1) * (dg n).getD ((dg n).length - 1) 0 := by
  have hne : dg n ≠ [] := fun e => h ((dg_nil_iff n).1 e)
  have hl : 0 < (dg n).length := List.length_pos_iff.2 hne
  have h1 := toN_take_succ (dg n) ((dg n).length - 1) (by omega)
  rw [Nat.sub_add_cancel hl, List.take_length, toN_dg] at h1
  have h2 := toN_lt ((dg_Dig n).take ((dg n).length - 1))
  rw [List.length_take, Nat.min_eq_left (by omega)] at h2
  refine ⟨_, h2, ?_, h1⟩
  apply Nat.pos_of_ne_zero
  intro e
  apply dg_last n
  rw [List.getLast?_eq_getElem?, List.getElem?_eq_getElem (by omega)]
  rw [List.getD_eq_getElem?_getD, List.getElem?_eq_getElem (by omega)] at e
  exact congrArg some e
theorem nDigits_dg (n : Nat) (h : n ≠ 0) : Lib.nDigits n = 9 * ((dg n).length - 1) + Lib.nDigits ((dg n).getD ((dg n).length - 1) 0) := by
  obtain ⟨r, h1, h2, h3⟩ := dg_split n h
  rw [B_pow] at h1 h3
  generalize (dg n).getD ((dg n).length - 1) 0 = d at *
  generalize (dg n).length - 1 = k at *
  subst h3
  exact nDigits_scaled d (9 * k) r h2 h1
/-- the number of decimal digits; that of 0 is 0 -/
def nlen (n : Nat) : Nat := if n = 0 then 0 else Lib.nDigits n
theorem nlen_div (f : Nat) (h : f ≠ 0) : nlen f = nlen (f / 10) + 1 := by
  unfold nlen
  rw [if_neg h]
  by_cases h2 : f < 10
  · rw [Lib.nDigits_small h2, if_pos (by omega)]
  · rw [Lib.nDigits_big h2, if_neg (by omega)]

set_option maxHeartbeats 400000 in
theorem length_any (v : Value) (n : Nat) (w : World) (h : IsNat w v n) (hn : (dg n).length ≤ 1000000) :
    Calls Tryd.prog 55 #[v] w fun e w' => e = .returned (.int .i64 (nlen n : Nat)) ∧ w = w' := by
  obtain ⟨p, cap, rfl, h1, h2, h3⟩ := h
  have H3 := Lib.hid h3; clear h3
  by_cases h0 : n = 0
  · subst h0
    have HL := Lib.hid (show (dg 0).length = 0 by rw [dg_zero]; rfl)
    rw [HL.out]
    rw [HL.out] at h1
    clear hn
    go_enter Tryd.func55, Tryd.ntmps55
    go_wp2
    go_ret
    exact ⟨rfl, rfl⟩
  · have hne : dg n ≠ [] := fun e => h0 ((dg_nil_iff n).1 e)
    have hl : 0 < (dg n).length := List.length_pos_iff.2 hne
    obtain ⟨b, off, rfl, hc⟩ := H3.out hne
    have hc1 := hc ((dg n).length - 1) (by omega)
    have hd := (dg_Dig n).getD ((dg n).length - 1)
    have HN := Lib.hid (nDigits_dg n h0)
    have hdp : 0 < (dg n).getD ((dg n).length - 1) 0 := by
      obtain ⟨r, _, h5, _⟩ := dg_split n h0; exact h5
    clear hc H3
    have HR := Lib.hid (show nlen n = Lib.nDigits n by unfold nlen; rw [if_neg h0])
    generalize (dg n).getD ((dg n).length - 1) 0 = d at *
    generalize Lib.nDigits n = m at *
    obtain ⟨k, hk⟩ : ∃ k, (dg n).length = k + 1 := ⟨(dg n).length - 1, by omega⟩
    rw [hk] at hn h1 hc1 HN ⊢
    clear hk hl
    rw [Nat.add_sub_cancel] at hc1 HN
    have ej : ((k + 1 : Nat) : Int) - 1 = (k : Int) := by omega
    have HD := Lib.hid (show nlen d = Lib.nDigits d by unfold nlen; rw [if_neg (by omega)])
    have hdl : nlen d ≤ 9 := by rw [HD.out]; exact (nDigits_le_iff d 9 (by decide)).2 (by omega)
    go_enter Tryd.func55, Tryd.ntmps55
    go_wp2
    go_loop [3, 4] (fun x y => ∃ c f : Nat, c ≤ 100 ∧ f < 1000000000 ∧ x = .int .i64 ((k : Int) * 9 + c) ∧ y = .int .u64 f ∧ Hid (c + nlen f = nlen d)) (fun _ y => (intOf y).toNat)
    case atStart => exact ⟨0, d, by omega, hd, by go_num, rfl, by show 0 + nlen d = nlen d; omega⟩
    case round =>
      obtain ⟨c, f, hc, hf, rfl, rfl, hh⟩ := hrel
      by_cases hf0 : f = 0
      · subst hf0
        have hz : nlen 0 = 0 := rfl
        have hh2 := hh.out
        rw [hz] at hh2
        have HH := Lib.hid hh2; clear hh2 hz hh hdl
        go_wp2
        go_ret
        exact ⟨ret_int (by have e1 := HH.out; have e2 := HN.out; have e3 := HR.out; have e4 := HD.out; omega), rfl⟩
      · have hs := nlen_div f hf0
        have hc2 : c + 1 ≤ 100 := by have := hh.out; omega
        have hh2 : Hid (c + 1 + nlen (f / 10) = nlen d) := by have := hh.out; show c + 1 + nlen (f / 10) = nlen d; omega
        have HC := Lib.hid (Int.natCast_ediv f 10)
        have hf10 : f / 10 < 1000000000 := by omega
        clear hs hh hdl
        go_wp2
        go_round
        case rel => exact ⟨c + 1, f / 10, hc2, hf10, by go_num, by rw [HC.out]; rfl, hh2⟩
        case measure => simp [intOf]; omega
end Go.Proofs.YtajonpcmgebbbaaDoor
