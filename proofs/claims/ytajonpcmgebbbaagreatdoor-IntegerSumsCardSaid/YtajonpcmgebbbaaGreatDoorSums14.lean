/- Parts of the proof of the text YtajonpcmgebbbaaGreatDoorSums17. -/
import Derived.Test.YtajonpcmgebbbaaGreatDoorSums13
/- The walk of the reference's write: the string of an integer. -/
namespace Go.Proofs.YtajonpcmgebbbaaGreatDoor.R
open Go.RowKit

theorem pad_mod (k : Nat) : ∀ n : Nat, pad k (n % 10 ^ k) = pad k n := by
  induction k with
  | zero => intro n; simp [pad]
  | succ k ih =>
    intro n
    rw [pad_succ, pad_succ]
    have h1 : n % 10 ^ (k + 1) / 10 ^ k = n / 10 ^ k % 10 := by rw [Nat.pow_succ]; exact Nat.mod_mul_right_div_self _ _ _
    rw [h1, Nat.mod_mod]
    congr 1
    rw [← ih (n % 10 ^ (k + 1)), ← ih n, Nat.mod_mod_of_dvd _ (Nat.pow_dvd_pow 10 (Nat.le_succ k))]
theorem dec_one {q : Nat} (h : q < 10) : Lib.decDigits q = [UInt8.ofNat (48 + q)] := by
  rw [Lib.decDigits, dif_pos h]
theorem pad_dec {c n : Nat} (h1 : 10 ^ c ≤ n) (h2 : n < 10 ^ (c + 1)) : pad (c + 1) n = Lib.decDigits n := by
  have hq : 0 < n / 10 ^ c := Nat.div_pos h1 (Nat.pow_pos (by decide))
  have hq2 : n / 10 ^ c < 10 := by rw [Nat.div_lt_iff_lt_mul (Nat.pow_pos (by decide))]; rw [Nat.pow_succ, Nat.mul_comm] at h2; exact h2
  have e : n / 10 ^ c * 10 ^ c + n % 10 ^ c = n := by rw [Nat.mul_comm]; exact Nat.div_add_mod _ _
  conv => rhs; rw [← e]
  rw [dec_scaled c _ _ hq (Nat.mod_lt _ (Nat.pow_pos (by decide))), dec_one hq2, pad_succ, pad_mod, Nat.mod_eq_of_lt hq2]
  rfl
theorem limb_digit (x j : Nat) (hj : j ≤ 5) : x % 1000000 / 10 ^ j % 10 = x / 10 ^ j % 10 := by
  rcases show j = 0 ∨ j = 1 ∨ j = 2 ∨ j = 3 ∨ j = 4 ∨ j = 5 by omega with rfl | rfl | rfl | rfl | rfl | rfl <;> omega
theorem B_pow6 (i : Nat) : B ^ i = 10 ^ (6 * i) := by rw [Nat.pow_mul]; rfl
theorem lim_pow (k : Nat) (h : 300 ≤ k) : lim ≤ 10 ^ k := tenTo_mono h
theorem B_le (i j : Nat) (h : i ≤ j) : B ^ i ≤ B ^ j := Nat.pow_le_pow_right B_pos h
/-- a digit of a limb -/
theorem dg_digit (n i j : Nat) (hj : j ≤ 5) : (dg n).getD i 0 / 10 ^ j % 10 = n / 10 ^ (6 * i + j) % 10 := by
  rw [dg_getD, B_eq, limb_digit _ _ hj, show (1000000 : Nat) ^ i = B ^ i from rfl, B_pow6, Nat.pow_add, Nat.div_div_eq_div_mul]

/-- block g is a row of the call's own of these bytes -/
def RowB (w : World) (g : Nat) (l : List Nat) : Prop := w.heap[g]? = some (.cells (cells8 l).toArray 5 (0, 0))
theorem RowB.cell {w : World} {g : Nat} {l : List Nat} (h : RowB w g l) {i : Nat} (hi : i < l.length) : w.cell? ⟨g, i, none⟩ = some (.int .u8 (l.getD i 0 : Nat)) := by
  rw [cell_of_row w g i _ _ (0, 0) h]
  simp [cells8, hi]
theorem RowB.frozen {w : World} {g : Nat} {l : List Nat} (h : RowB w g l) (i : Nat) : w.frozen? ⟨g, i, none⟩ = false := by
  unfold RowB at h
  simp [World.frozen?, h]
theorem RowB.set {w : World} {g : Nat} {l : List Nat} (h : RowB w g l) (i : Nat) (x : Nat) : RowB (w.setCell ⟨g, i, none⟩ (.int .u8 (x : Nat))) g (l.set i x) := by
  unfold RowB at h ⊢
  simp [World.setCell, Array.getElem?_modify, h, cells8, List.map_set]
theorem RowB.lt {w : World} {g : Nat} {l : List Nat} (h : RowB w g l) : g < w.heap.size := (Array.getElem?_eq_some_iff.1 h).1
theorem made_cells8 (n : Nat) : (madeCells (Value.int .u8 0).cells (n * 1)).toList = cells8 (List.replicate n 0) := by
  rw [Nat.mul_one]
  have h : (Value.int .u8 0).cells = #[.int .u8 0] := by simp [Value.cells]
  rw [h, toList_madeCells_one]
  simp [cells8]
theorem RowB.of_made {w : World} {base g n : Nat} (h : w.ownsRow base 5 1 (.slice (some ⟨g, 0, none⟩) n n) n (madeCells (Value.int .u8 0).cells (n * 1)).toList) : RowB w g (List.replicate n 0) := by
  rcases h.2 with ⟨h1, _⟩ | ⟨g', cap, cur, h1, _, hh, _, _, hsz, htk⟩
  · cases h1
  · simp only [Value.slice.injEq, Option.some.injEq, Addr.mk.injEq, true_and, and_true] at h1
    obtain ⟨rfl, rfl⟩ := h1
    rw [made_cells8, List.take_of_length_le (by simp [hsz])] at htk
    unfold RowB
    rw [hh, ← htk]
theorem padB_step {L : List Nat} {M k n : Nat} (hk : k < M) (hL : L.length = M) (h : L.drop (M - k) = nums (pad k n)) :
    (L.set (M - (k + 1)) (48 + n / 10 ^ k % 10)).drop (M - (k + 1)) = nums (pad (k + 1) n) := by
  rw [drop_set (by omega), show M - (k + 1) + 1 = M - k by omega, h, pad_succ]
  show _ = (UInt8.ofNat (48 + n / 10 ^ k % 10)).toNat :: nums (pad k n)
  rw [toNat_ofNat _ (Nat.mod_lt _ (by decide))]
theorem nums_pad_get {M n t : Nat} (h : t < M) : (nums (pad M n)).getD t 0 = 48 + n / 10 ^ (M - 1 - t) % 10 := by
  have hl : t < (nums (pad M n)).length := by simp [nums, pad_length, h]
  rw [getD_lt hl]
  simp only [nums, pad, List.getElem_map, List.getElem_range]
  exact toNat_ofNat _ (Nat.mod_lt _ (by decide))

/-- the state of write: the box of the integer, its limbs, and the row of the text -/
structure WS (w : World) (k : Nat) (neg : Bool) (sv : Value) (b off m : Nat) (l : List Nat) (L : List Nat) (wr : World) : Prop where
  c0 : wr.cell? ⟨k, 0, none⟩ = some (.bool neg)
  c1 : wr.cell? ⟨k, 1, none⟩ = some sv
  lim : ∀ i, i < m → wr.cell? ⟨b, off + i, none⟩ = some (.int .i64 (l.getD i 0 : Nat))
  row : RowB wr (k + 1) L
  bel : Below k w wr
  kb : b < k
theorem WS.set {w : World} {k : Nat} {neg : Bool} {sv : Value} {b off m : Nat} {l L : List Nat} {wr : World} (h : WS w k neg sv b off m l L wr) (i x : Nat) : WS w k neg sv b off m l (L.set i x) (wr.setCell ⟨k + 1, i, none⟩ (.int .u8 (x : Nat))) := by
  have hk := h.kb
  refine ⟨(World.cell?_of_block (Below.heap_setCell _ _ _ _ (by show k ≠ k + 1; omega))).trans h.c0, (World.cell?_of_block (Below.heap_setCell _ _ _ _ (by show k ≠ k + 1; omega))).trans h.c1, fun j hj => (World.cell?_of_block (Below.heap_setCell _ _ _ _ (by show b ≠ k + 1; omega))).trans (h.lim j hj), h.row.set i x, h.bel.setCell (p := ⟨k + 1, i, none⟩) (by show k ≤ k + 1; omega) _, hk⟩

set_option maxRecDepth 100000 in
set_option maxHeartbeats 4000000 in
theorem write_pos (neg : Bool) (v : Value) (n : Nat) (w : World) (h : IsNat w v n) (hn : (dg n).length ≤ 10000) (h0 : n ≠ 0) :
    Calls Tryz.prog 52 #[.agg #[.bool neg, v]] w fun e W' => e = .returned (.string (strB (sgnZ neg n))) ∧ Below w.heap.size w W' := by
  obtain ⟨i0, hi, hz0, hz1, hz2⟩ := info_parts info_u8
  have HI := Lib.hid (And.intro hi (And.intro hz0 (And.intro hz1 hz2))); clear hi hz0 hz1 hz2
  have hlen := dg_len_pos h0
  have hnB : n < B ^ (dg n).length := (dg_length_le n _).1 (Nat.le_refl _)
  rw [B_pow6] at hnB
  have HDG := Lib.hid (fun i j hj => dg_digit n i j hj)
  have hdl := Lib.hid (fun i => (dg_Dig n).getD i)
  obtain ⟨p, cap, rfl, hcp, hcp2, h3⟩ := h
  obtain ⟨b, off, rfl, hc⟩ := h3 (fun e => h0 ((dg_nil_iff n).1 e))
  have HC := Lib.hid hc
  have HZ := Lib.hid (itoa_sgn neg h0)
  clear h3 hc
  obtain ⟨m, hm⟩ : ∃ m, (dg n).length = m := ⟨_, rfl⟩
  rw [hm] at hlen hnB hn hcp HC ⊢
  obtain ⟨M, hM⟩ : ∃ M, 6 * m = M := ⟨_, rfl⟩
  rw [hM] at hnB
  have eM : (6 : Int) * (m : Int) = (M : Int) := by omega
  have hne : ((m : Int) == 0) = false := by rw [beq_eq_false_iff_ne]; omega
  have HNB := Lib.hid hnB
  clear hm hnB
  have hB0 : Below (w.heap.size + 1) (w.alloc (.cells #[.bool neg, .slice (some ⟨b, off, none⟩) m cap] 53)) (w.alloc (.cells #[.bool neg, .slice (some ⟨b, off, none⟩) m cap] 53)) := Below.refl _ _
  have HB0 := Lib.hid hB0
  clear hB0
  go_enter Tryz.func52, Tryz.ntmps52
  go_wp2_with (at_make; refine wpList_make_full _ rfl _ _ 73 rfl (w.heap.size + 1) 5 i0 (.int .u8 0) 1 Tryz.underlying73 HI.out.1 HI.out.2.1 HI.out.2.2.1 .i64 .i64 _ _ M rfl rfl (by omega) (by omega) (by rw [HI.out.2.2.2]; omega) (by unfold maxLen; omega) (by simp) ?_; intro w1 hown hgrow)
  have hrow := RowB.of_made hown
  have hb1 := HB0.out.grown hgrow (by simp) (fun k e => by cases e)
  obtain ⟨d0, d1⟩ := box_facts hb1
  have hbl : b < w.heap.size := World.block_lt_of_cell? w _ (HC.out 0 hlen)
  simp only [World.size_alloc] at hrow
  have HW := Lib.hid (show WS w w.heap.size neg (.slice (some ⟨b, off, none⟩) m cap) b off m (dg n) (List.replicate M 0) w1 from
    ⟨d0, d1, fun i hi => old_fact hb1 (HC.out i hi), hrow, ((Below.refl _ w).alloc (Nat.le_refl _) _).trans (hb1.mono (by omega)), hbl⟩)
  clear hown hgrow hrow hb1 d0 d1 hbl HB0 HC
  generalize hk : w.heap.size = k at *
  have HK := Lib.hid hk; clear hk
  go_loopw [4] (fun v4 wr => ∃ (i : Nat) (L : List Nat), i ≤ m ∧ v4 = .int .i64 i ∧ L.length = M ∧ Hid (WS w k neg (.slice (some ⟨b, off, none⟩) m cap) b off m (dg n) L wr) ∧ Hid (L.drop (M - 6 * i) = nums (pad (6 * i) n)))
    (fun v4 _ => m - (intOf v4).toNat)
  case atStart => exact ⟨0, List.replicate M 0, Nat.zero_le _, rfl, List.length_replicate, HW.out, by show _ = _; rw [List.drop_eq_nil_of_le (by rw [List.length_replicate]; omega)]; rfl⟩
  case round =>
    clear HW
    obtain ⟨i, L, him, rfl, hL, hS, hpad⟩ := hrel
    by_cases hi : i < m
    · have hdb := hdl.out i
      have hcl := hS.out.lim i hi
      have HDI := Lib.hid (fun j hj => HDG.out i j hj)
      generalize (dg n).getD i 0 = d at *
      have c1 := hS.out.c1
      have hi' : (i : Int) < (m : Int) := by omega
      obtain ⟨wo, hwo⟩ : ∃ wo : World, wo = wr := ⟨_, rfl⟩
      subst hwo
      go_wp2
      clear c1 hcl
      go_loopw [5, 6] (fun v5 v6 wr => ∃ (j : Nat) (L : List Nat), j ≤ 6 ∧ v6 = .int .i64 ((j : Int) + 1) ∧ v5 = .int .i64 (d / 10 ^ j : Nat) ∧ L.length = M ∧ Hid (WS w k neg (.slice (some ⟨b, off, none⟩) m cap) b off m (dg n) L wr) ∧ Hid (L.drop (M - (6 * i + j)) = nums (pad (6 * i + j) n)))
        (fun _ v6 _ => 7 - (intOf v6).toNat)
      case atStart => exact ⟨0, L, Nat.zero_le _, rfl, by rw [Nat.pow_zero, Nat.div_one], hL, hS, hpad⟩
      case round =>
        clear hL hS hpad L
        obtain ⟨j, L, hj6, rfl, rfl, hL, hS, hpad⟩ := hrel
        by_cases hj : j < 6
        · have hq : d / 10 ^ j ≤ d := Nat.div_le_self _ _
          have HQ := Lib.hid (show d / 10 ^ j / 10 = d / 10 ^ (j + 1) by rw [Nat.pow_succ, Nat.div_div_eq_div_mul])
          have HD10 := Lib.hid (HDI.out j (by omega))
          have hst := padB_step (L := L) (M := M) (k := 6 * i + j) (n := n) (by omega) hL hpad.out
          rw [← HD10.out] at hst
          generalize d / 10 ^ j = q at *
          obtain ⟨pp, hpp⟩ : ∃ pp, M - (6 * i + j + 1) = pp := ⟨_, rfl⟩
          have ep : (M : Int) - 6 * (i : Int) - ((j : Int) + 1) = (pp : Int) := by omega
          have epb : (pp : Int) < (M : Int) := by omega
          rw [hpp] at hst
          have ex : (48 : Int) + (q : Int) % 10 = ((48 + q % 10 : Nat) : Int) := by omega
          have hxb : 48 + q % 10 ≤ 57 := by omega
          have hj' : (j : Int) + 1 ≤ 6 := by omega
          have co := hS.out.row.cell (i := pp) (by omega)
          have fo := hS.out.row.frozen pp
          have HS2 := Lib.hid (And.intro (hS.out.set pp (48 + q % 10)) (And.intro hst hpp))
          generalize 48 + q % 10 = x at *
          clear hpad hst hpp HD10
          go_wp2
          go_roundw
          case rel =>
            refine ⟨j + 1, L.set pp x, by omega, by go_num, ?_, by rw [List.length_set]; exact hL, HS2.out.1, ?_⟩
            · rw [← HQ.out]; go_num
            · show _ = _
              have := HS2.out.2.1
              rw [← Nat.add_assoc, HS2.out.2.2]; exact this
          case measure => simp [intOf]; omega
        · obtain rfl : j = 6 := by omega
          go_wp2
          go_roundw
          case rel => exact ⟨i + 1, L, by omega, by go_num, hL, hS.out, by rw [Nat.mul_add]; exact hpad.out⟩
          case measure => simp [intOf]; omega
    · obtain rfl : i = m := by omega
      have hLp : L = nums (pad M n) := by have := hpad.out; rwa [hM, Nat.sub_self, List.drop_zero] at this
      subst hLp
      have c1 := hS.out.c1
      have c0 := hS.out.c0
      clear hpad hi
      go_wp2
      go_loop [3] (fun v3 => ∃ t c : Nat, t + c = M ∧ v3 = .slice (some ⟨k + 1, t, none⟩) c c ∧ Hid (n < 10 ^ c)) (fun v3 => lenOf v3)
      case atStart => exact ⟨0, M, by omega, rfl, HNB.out⟩
      case round =>
        obtain ⟨t, c, htc, rfl, hnc⟩ := hrel
        have hc0 : 0 < c := by
          rcases Nat.eq_zero_or_pos c with h | h
          · exfalso; have := hnc.out; rw [h, Nat.pow_zero] at this; omega
          · exact h
        obtain ⟨c', rfl⟩ : ∃ c', c = c' + 1 := ⟨c - 1, by omega⟩
        have hx := nums_pad_get (M := M) (n := n) (t := t) (by omega)
        rw [show M - 1 - t = c' by omega] at hx
        have hq10 : n / 10 ^ c' < 10 := by rw [Nat.div_lt_iff_lt_mul (Nat.pow_pos (by decide))]; have := hnc.out; rwa [Nat.pow_succ, Nat.mul_comm] at this
        rw [Nat.mod_eq_of_lt hq10] at hx
        have hcell := hS.out.row.cell (i := t) (by rw [show (nums (pad M n)).length = M by simp [nums, pad_length]]; omega)
        rw [hx] at hcell
        have hc1 : (0 : Int) < ((c' + 1 : Nat) : Int) := by omega
        have HC1 := Lib.hid (show ((c' + 1 : Nat) : Int) - 1 = (c' : Int) by omega)
        by_cases hz : n / 10 ^ c' = 0
        · have hlt : n < 10 ^ c' := by
            rcases Nat.lt_or_ge n (10 ^ c') with h | h
            · exact h
            · exfalso; have := Nat.div_pos h (Nat.pow_pos (a := 10) (by decide)); omega
          have hcp : 0 < c' := by
            rcases Nat.eq_zero_or_pos c' with h | h
            · exfalso; rw [h, Nat.pow_zero] at hlt; omega
            · exact h
          rw [hz] at hcell
          have hc2 : (1 : Int) < ((c' + 1 : Nat) : Int) := by omega
          have hcn : ¬ c' + 1 = 1 := by omega
          have HLT := Lib.hid hlt
          clear hx hz hq10 hnc hlt
          clear c0 c1
          go_wp2
          exact ⟨⟨t + 1, c', by omega, rfl, HLT.out⟩, by simp [lenOf]⟩
        · have hge : 10 ^ c' ≤ n := by
            rcases Nat.lt_or_ge n (10 ^ c') with h | h
            · exact absurd (Nat.div_eq_of_lt h) hz
            · exact h
          have HX := Lib.hid (pad_dec hge hnc.out)
          have hconv := run_convert_bytes_back (P := Tryz.prog) wr 73 9 5 ⟨k + 1, t, none⟩ (c' + 1) (pad (c' + 1) n) Tryz.underlying73 Tryz.underlying5 Tryz.underlying9 (fun j hj => by
            rw [pad_length] at hj
            rw [addr_add, hS.out.row.cell (i := t + j) (by rw [show (nums (pad M n)).length = M by simp [nums, pad_length]]; omega), nums_pad_get (by omega)]
            have h2 := nums_pad_get (M := c' + 1) (n := n) (t := j) hj
            rw [getD_lt (by simp [nums, pad_length]; exact hj)] at h2
            simp only [nums, List.getElem_map] at h2
            rw [h2, show M - 1 - (t + j) = c' + 1 - 1 - j by omega])
          rw [pad_length] at hconv
          have hq48 : 48 < 48 + n / 10 ^ c' := by have := Nat.pos_of_ne_zero hz; omega
          have hq57 : 48 + n / 10 ^ c' ≤ 57 := by omega
          have HBEL := Lib.hid (show Below w.heap.size w wr by rw [HK.out]; exact hS.out.bel)
          generalize 48 + n / 10 ^ c' = x at *
          have hx48 : ((x : Int) == 48) = false := by rw [beq_eq_false_iff_ne]; omega
          have hXl : (pad (c' + 1) n).length ≤ 60000 := by rw [pad_length]; omega
          generalize pad (c' + 1) n = X at *
          clear hx hz hq10 hge hnc hq48 hS
          cases neg
          · go_wp2
            go_ret
            refine ⟨?_, HBEL.out⟩
            show Ending.returned (.string ⟨X.toArray⟩) = _
            unfold strB
            rw [HZ.out, HX.out]; rfl
          · go_wp2
            go_ret
            refine ⟨?_, HBEL.out⟩
            show Ending.returned (.string (⟨#[45]⟩ ++ ⟨X.toArray⟩)) = _
            unfold strB
            rw [HZ.out, ← HX.out]
            rfl

set_option maxHeartbeats 1000000 in
theorem write_any (neg : Bool) (v : Value) (n : Nat) (w : World) (h : IsNat w v n) (hn : (dg n).length ≤ 10000) :
    Calls Tryz.prog 52 #[.agg #[.bool neg, v]] w fun e W' => e = .returned (.string (strB (sgnZ neg n))) ∧ Below w.heap.size w W' := by
  by_cases h0 : n = 0
  · subst h0
    obtain ⟨p, cap, rfl⟩ := h.shape
    have hl : (dg 0).length = 0 := by rw [dg_zero]; rfl
    have hz : strB (sgnZ neg 0) = ⟨#[48]⟩ := by
      have : sgnZ neg 0 = 0 := by unfold sgnZ; cases neg <;> rfl
      rw [this]; exact str_zero
    rw [hl, hz]
    clear h hn hl hz
    go_enter Tryz.func52, Tryz.ntmps52
    go_wp2
    go_ret
    exact ⟨rfl, (Below.refl _ _).alloc (Nat.le_refl _) _⟩
  · exact write_pos neg v n w h hn h0
end Go.Proofs.YtajonpcmgebbbaaGreatDoor.R

/- The walks of the reference's short integers: small, two, both. -/
namespace Go.Proofs.YtajonpcmgebbbaaGreatDoor.R
open Go.RowKit

theorem get_list (s : ByteArray) (k : Nat) (h : k < s.size) : s[k] = s.data.toList[k]'(by rw [size_len]; exact h) := rfl
theorem neg_get (s : ByteArray) (hn : isNeg s.data.toList = true) (j : Nat) (hj : j + 1 < s.size) : ∃ h : j < (szL s.data.toList).length, s[j + 1] = (szL s.data.toList)[j] := by
  have h1 : szL s.data.toList = s.data.toList.tail := by unfold szL; rw [if_pos hn]
  have h2 : j < (szL s.data.toList).length := by rw [h1, List.length_tail, size_len]; omega
  refine ⟨h2, ?_⟩
  rw [get_list s (j + 1) hj]
  simp only [h1, List.getElem_tail]
theorem pos_get (s : ByteArray) (hn : isNeg s.data.toList = false) (j : Nat) (hj : j < s.size) : ∃ h : j < (szL s.data.toList).length, s[j] = (szL s.data.toList)[j] := by
  have h1 : szL s.data.toList = s.data.toList := by unfold szL; rw [hn]; rfl
  have h2 : j < (szL s.data.toList).length := by rw [h1, size_len]; omega
  refine ⟨h2, ?_⟩
  rw [get_list s j hj]
  simp only [h1]
theorem natOf_take_next (l : List UInt8) (j : Nat) (h : j < l.length) : natOf (l.take (j + 1)) = natOf (l.take j) * 10 + (l[j].toNat - 48) := by
  rw [List.take_succ_eq_append_getElem h, natOf_snoc]

theorem natOf_take_17 (l : List UInt8) (h : ∀ c ∈ l, isDig c = true) (k : Nat) (hk : k ≤ 17) : natOf (l.take k) < 100000000000000000 :=
  Nat.lt_of_lt_of_le (natOf_take_lt l h k) (Nat.le_trans (Nat.pow_le_pow_right (by decide) hk) (by decide))

set_option maxHeartbeats 1000000 in
theorem small_any (s : ByteArray) (w : World) (hs : s.size ≤ 17) (hc : chk s.data.toList = 0) :
    Calls Tryz.prog 50 #[.string s] w fun e w' => e = .returned (.tuple #[.int .i64 (valOf s.data.toList), .bool true]) ∧ w = w' := by
  have hd := chk_dig hc
  have hpos : 0 < s.size := by
    rcases Nat.eq_zero_or_pos s.size with h | h
    · have : s.data.toList = [] := List.eq_nil_of_length_eq_zero (by rw [size_len]; exact h)
      rw [this] at hc; simp [chk, szL, isNeg] at hc
    · exact h
  have hb := isNeg_pos hpos
  have hv := valOf_szL s.data.toList
  have HD := Lib.hid hd
  have hsl := szL_length s.data.toList
  rw [size_len] at hsl
  clear hc hd
  by_cases hn : isNeg s.data.toList = true
  · rw [hn] at hb
    rw [if_pos hn] at hv
    have HV := Lib.hid hv
    have HG := Lib.hid (neg_get s hn)
    have hl : (szL s.data.toList).length + 1 = s.size := by unfold szL; rw [if_pos hn, List.length_tail, size_len]; omega
    have HL := Lib.hid hl
    clear hv hn hl hsl
    generalize szL s.data.toList = l at *
    go_enter Tryz.func50, Tryz.ntmps50
    go_wp2
    go_loop [4, 5] (fun x y => ∃ i : Nat, i ≤ s.size ∧ y = .int .i64 i ∧ x = .int .i64 (natOf (l.take (i - 1)) : Nat)) (fun _ y => s.size - (intOf y).toNat)
    case atStart => exact ⟨0, Nat.zero_le _, rfl, rfl⟩
    case round =>
      obtain ⟨i, hi, rfl, rfl⟩ := hrel
      by_cases hlt : i < s.size
      · cases i with
        | zero =>
          have h45 : ((s[0].toNat : Int) != 45) = false := by simpa using hb
          go_wp2
          go_round
          case rel => exact ⟨1, by omega, rfl, rfl⟩
          case measure => simp [intOf]; omega
        | succ j =>
          obtain ⟨hjl, hjg⟩ := HG.out j hlt
          have hc := (isDig_iff l[j]).1 (HD.out _ (List.getElem_mem _))
          rw [← hjg] at hc
          have h45 : ((s[j + 1].toNat : Int) != 45) = true := by rw [bne_iff_ne]; omega
          have hn18 := natOf_take_17 l HD.out j (by have := HL.out; omega)
          have HS := Lib.hid (natOf_take_next l j hjl)
          have HJ := Lib.hid hjg
          rw [show j + 1 - 1 = j by omega]
          clear hjg
          obtain ⟨n, hn⟩ : ∃ n, natOf (l.take j) = n := ⟨_, rfl⟩
          rw [hn] at hn18 ⊢
          have HN := Lib.hid hn
          clear hn
          go_wp2
          go_round
          case rel => exact ⟨j + 1 + 1, by omega, by go_num, by rw [show j + 1 + 1 - 1 = j + 1 by omega, HS.out, HN.out, ← HJ.out]; go_num⟩
          case measure => simp [intOf]; omega
      · have hn18 := natOf_take_17 l HD.out (i - 1) (by omega)
        have HE := Lib.hid (show natOf (l.take (i - 1)) = natOf l by rw [List.take_of_length_le (by have := HL.out; omega)])
        generalize natOf (l.take (i - 1)) = n at *
        go_wp2
        go_ret2
        exact ⟨by rw [HV.out, ← HE.out]; rfl, rfl⟩
  · have hn' : isNeg s.data.toList = false := by simpa using hn
    rw [hn'] at hb
    rw [if_neg hn] at hv
    have HV := Lib.hid hv
    have HG := Lib.hid (pos_get s hn')
    have hl : (szL s.data.toList).length = s.size := by unfold szL; rw [hn', if_neg (by simp), size_len]
    have HL := Lib.hid hl
    clear hv hn hn' hl hsl
    generalize szL s.data.toList = l at *
    go_enter Tryz.func50, Tryz.ntmps50
    go_wp2
    go_loop [4, 5] (fun x y => ∃ i : Nat, i ≤ s.size ∧ y = .int .i64 i ∧ x = .int .i64 (natOf (l.take i) : Nat)) (fun _ y => s.size - (intOf y).toNat)
    case atStart => exact ⟨0, Nat.zero_le _, rfl, rfl⟩
    case round =>
      obtain ⟨j, hi, rfl, rfl⟩ := hrel
      by_cases hlt : j < s.size
      · obtain ⟨hjl, hjg⟩ := HG.out j hlt
        have hc := (isDig_iff l[j]).1 (HD.out _ (List.getElem_mem _))
        rw [← hjg] at hc
        have h45 : ((s[j].toNat : Int) != 45) = true := by rw [bne_iff_ne]; omega
        have hn18 := natOf_take_17 l HD.out j (by have := HL.out; omega)
        have HS := Lib.hid (natOf_take_next l j hjl)
        have HJ := Lib.hid hjg
        clear hjg
        obtain ⟨n, hn⟩ : ∃ n, natOf (l.take j) = n := ⟨_, rfl⟩
        rw [hn] at hn18 ⊢
        have HN := Lib.hid hn
        clear hn
        go_wp2
        go_round
        case rel => exact ⟨j + 1, by omega, by go_num, by rw [HS.out, HN.out, ← HJ.out]; go_num⟩
        case measure => simp [intOf]; omega
      · have hn18 := natOf_take_17 l HD.out j (by omega)
        have HE := Lib.hid (show natOf (l.take j) = natOf l by rw [List.take_of_length_le (by have := HL.out; omega)])
        generalize natOf (l.take j) = n at *
        go_wp2
        go_ret2
        exact ⟨by rw [HV.out, ← HE.out]; rfl, rfl⟩

theorem small_no (s : ByteArray) (w : World) (hs : 17 < s.size) (_hm : s.size ≤ maxLen) :
    Calls Tryz.prog 50 #[.string s] w fun e w' => e = .returned (.tuple #[.int .i64 0, .bool false]) ∧ w = w' := by
  go_enter Tryz.func50, Tryz.ntmps50
  go_wp2
  go_ret2
  exact ⟨rfl, rfl⟩

def isSmall (a b : ByteArray) : Bool := decide (a.size ≤ 17 ∧ b.size ≤ 17)
theorem two_yes (a b : ByteArray) (w : World) (ha : a.size ≤ 17) (hb : b.size ≤ 17) (ca : chk a.data.toList = 0) (cb : chk b.data.toList = 0) :
    Calls Tryz.prog 26 #[.string a, .string b] w fun e w' => e = .returned (.tuple #[.int .i64 (valOf a.data.toList), .int .i64 (valOf b.data.toList), .bool true]) ∧ w = w' := by
  have C := Lib.hid (And.intro (small_any a w ha ca) (small_any b w hb cb))
  clear ca cb ha hb
  generalize valOf a.data.toList = x at *
  generalize valOf b.data.toList = y at *
  go_enter Tryz.func26, Tryz.ntmps26
  go_wp2_with fail
  refine C.out.1.mono ?_
  rintro e w' ⟨rfl, rfl⟩
  go_wp2_with fail
  refine C.out.2.mono ?_
  rintro e w' ⟨rfl, rfl⟩
  go_wp2
  go_ret3
  exact ⟨rfl, rfl⟩
theorem two_no (a b : ByteArray) (w : World) (h : ¬ (a.size ≤ 17 ∧ b.size ≤ 17)) (ca : chk a.data.toList = 0) (ma : a.size ≤ maxLen) (mb : b.size ≤ maxLen) :
    Calls Tryz.prog 26 #[.string a, .string b] w fun e w' => ∃ x y : Int, e = .returned (.tuple #[.int .i64 x, .int .i64 y, .bool false]) ∧ w = w' := by
  by_cases ha : a.size ≤ 17
  · have C := Lib.hid (And.intro (small_any a w ha ca) (small_no b w (by omega) mb))
    clear ca ha h
    generalize valOf a.data.toList = x at *
    go_enter Tryz.func26, Tryz.ntmps26
    go_wp2_with fail
    refine C.out.1.mono ?_
    rintro e w' ⟨rfl, rfl⟩
    go_wp2_with fail
    refine C.out.2.mono ?_
    rintro e w' ⟨rfl, rfl⟩
    go_wp2
    go_ret3
    exact ⟨x, 0, rfl, rfl⟩
  · have C := Lib.hid (small_no a w (by omega) ma)
    clear ca h
    go_enter Tryz.func26, Tryz.ntmps26
    go_wp2_with fail
    refine C.out.mono ?_
    rintro e w' ⟨rfl, rfl⟩
    go_wp2
    go_ret3
    exact ⟨0, 0, rfl, rfl⟩

set_option maxHeartbeats 400000 in
theorem both_any (a b : ByteArray) (w : World) (ha : a.size ≤ maxLen) (hb : b.size ≤ maxLen) :
    Calls Tryz.prog 25 #[.string a, .string b] w fun e w' => e = .returned (.int .i64 (chk2 a.data.toList b.data.toList)) ∧ w = w' := by
  have C := Lib.hid (And.intro (fun W => refCheck_any a W ha) (fun W => refCheck_any b W hb))
  generalize hx : chk a.data.toList = x at *
  have HX := Lib.hid hx; clear hx
  by_cases h0 : (x == 0) = true
  · have hn : (x != 0) = false := by simpa using h0
    go_enter Tryz.func25, Tryz.ntmps25
    go_wp2_with fail
    refine (C.out.1 _).mono ?_
    rintro e w' ⟨rfl, rfl⟩
    go_wp2_with fail
    refine (C.out.2 _).mono ?_
    rintro e w' ⟨rfl, rfl⟩
    go_wp2
    go_ret
    exact ⟨ret_int (by unfold chk2; rw [HX.out, if_pos (by simpa using h0)]), rfl⟩
  · have hn : (x != 0) = true := by simpa using h0
    go_enter Tryz.func25, Tryz.ntmps25
    go_wp2_with fail
    refine (C.out.1 _).mono ?_
    rintro e w' ⟨rfl, rfl⟩
    go_wp2
    go_ret
    exact ⟨ret_int (by unfold chk2; rw [HX.out, if_neg (by simpa using h0)]), rfl⟩
end Go.Proofs.YtajonpcmgebbbaaGreatDoor.R

/- The walks of shifted and of root. -/
namespace Go.Proofs.YtajonpcmgebbbaaGreatDoor
open Go.RowKit

theorem dg_drop1 (n : Nat) : (dg n).drop 1 = dg (n / B) := by
  by_cases h : n = 0
  · subst h; rw [dg_zero, Nat.zero_div, dg_zero]; rfl
  · rw [dg_pos h]; rfl
theorem dg_drop (n k : Nat) : (dg n).drop k = dg (n / B ^ k) := by
  induction k with
  | zero => rw [Nat.pow_zero, Nat.div_one]; rfl
  | succ k ih =>
    rw [← List.drop_drop, ih, dg_drop1, Nat.div_div_eq_div_mul, Nat.pow_succ]
theorem Nats.drop {w : World} {b off cap k : Nat} {l : List Nat} (h : Nats w (.slice (some ⟨b, off, none⟩) l.length cap) l) (hk : k < l.length) : Nats w (.slice (some ⟨b, off + k, none⟩) (l.length - k) (cap - k)) (l.drop k) := by
  obtain ⟨p, cap', he, h1, h2, h3⟩ := h
  simp only [Value.slice.injEq, true_and] at he
  obtain ⟨rfl, rfl⟩ := he
  obtain ⟨b', off', e, hc⟩ := h3 (by intro e; subst e; simp at hk)
  simp only [Option.some.injEq, Addr.mk.injEq, and_true] at e
  obtain ⟨rfl, rfl⟩ := e
  refine ⟨_, cap - k, by rw [List.length_drop], by rw [List.length_drop]; omega, by omega, fun _ => ⟨b, off + k, rfl, fun i hi => ?_⟩⟩
  rw [List.length_drop] at hi
  rw [Nat.add_assoc, hc (k + i) (by omega)]
  congr 3
  rw [List.getD_eq_getElem?_getD, List.getD_eq_getElem?_getD, List.getElem?_drop]
theorem IsNat.unique {w : World} {v : Value} {m n : Nat} (h : IsNat w v m) (h' : IsNat w v n) : m = n := by
  obtain ⟨p, cap, rfl, a1, a2, a3⟩ := h
  obtain ⟨p', cap', he, b1, b2, b3⟩ := h'
  simp only [Value.slice.injEq] at he
  obtain ⟨rfl, hl, rfl⟩ := he
  have e : dg m = dg n := by
    refine List.ext_getElem hl (fun i h1 h2 => ?_)
    obtain ⟨b, off, e1, c1⟩ := a3 (by intro e; rw [e] at h1; simp at h1)
    obtain ⟨b', off', e2, c2⟩ := b3 (by intro e; rw [e] at h2; simp at h2)
    rw [e1] at e2
    simp only [Option.some.injEq, Addr.mk.injEq, and_true] at e2
    obtain ⟨rfl, rfl⟩ := e2
    have := (c1 i h1).symm.trans (c2 i h2)
    simp only [Option.some.injEq, Value.int.injEq, true_and] at this
    rw [getD_lt h1, getD_lt h2] at this
    exact Int.ofNat.inj this
  have := congrArg toN e
  rwa [toN_dg, toN_dg] at this
open Classical in
/-- the number in a slot, for a loop's measure -/
noncomputable def natVal (w : World) (v : Value) : Nat := if h : ∃ n, IsNat w v n then Classical.choose h else 0
theorem natVal_eq {w : World} {v : Value} {n : Nat} (h : IsNat w v n) : natVal w v = n := by
  unfold natVal
  have hx : ∃ n, IsNat w v n := ⟨n, h⟩
  rw [dif_pos hx]
  exact (Classical.choose_spec hx).unique h
theorem root_start {a p r : Nat} (hr : IsRoot (a / B ^ (2 * p)) r) : rootN a ≤ (r + 1) * B ^ p := by
  refine Nat.le_of_lt (rootN_le _ _ ?_)
  have hD : 0 < B ^ (2 * p) := Nat.pow_pos B_pos
  have h1 : a < (a / B ^ (2 * p) + 1) * B ^ (2 * p) := by
    have := Nat.lt_mul_div_succ a hD
    rwa [Nat.mul_comm] at this
  have h2 : (a / B ^ (2 * p) + 1) * B ^ (2 * p) ≤ (r + 1) * (r + 1) * B ^ (2 * p) := Nat.mul_le_mul_right _ hr.2
  have h3 : (r + 1) * B ^ p * ((r + 1) * B ^ p) = (r + 1) * (r + 1) * B ^ (2 * p) := by
    rw [Nat.two_mul, Nat.pow_add, Nat.mul_assoc, Nat.mul_left_comm (B ^ p), ← Nat.mul_assoc (r + 1)]
  omega

/-- 'make([]T, m, n)', T of one cell: m zero elements are owned -/
theorem wpList_make_part {P : Program} (w : World) {ops : Array Oper} {rest : List Oper} {o : Oper} {a : Act} {Q : Exit → Act → World → Prop}
    (hg : o.guard = none) (l c : Operand) (t : TypeId) (hop : o.op = Op.makeSlice t l c)
    (base : Nat) (e : TypeId) (i : TypeInfo) (h1 : P.underlying t = some (.slice e)) (h2 : P.info? e = some i) (h3 : i.zero = some (.int .u64 0)) (h4 : i.size = 1) (h5 : i.bytes = 8)
    (kl kc : IntKind) (L C : Int) (m n : Nat) (hl : a.eval l = .int kl L) (hc : a.eval c = .int kc C) (hL : L = (m : Int)) (hC : C = (n : Int)) (hmn : m ≤ n) (b3 : n ≤ 1000000) (b4 : base ≤ w.heap.size)
    (hK : ∀ w', w'.ownsRow base e 1 (.slice (some ⟨w.heap.size, 0, none⟩) m n) m (cells64 (List.replicate m 0)) → w.grownBy w' none → wpList P ops Q rest (a.put o.dst (.slice (some ⟨w.heap.size, 0, none⟩) m n)) w') :
    wpList P ops Q (o :: rest) a w := by
  refine wpList_plain hg fun K hK' => ?_
  have hr := run_make (P := P) w t e i _ h1 h2 h3 kl kc (m : Int) (n : Int) (by omega) (by omega) (by rw [h5]; omega) (by omega)
  simp only [Int.toNat_natCast, h4, Nat.mul_one] at hr
  subst hL
  subst hC
  have hz : (Value.int .u64 0).cells = #[.int .u64 0] := by simp [Value.cells]
  unfold Oper.wp
  simp [execOp, hop, hl, hc, hr, Result.andThen]
  refine hK' _ _ (hK _ ⟨by simp [cells64], .inr ⟨w.heap.size, n, madeCells (Value.int .u64 0).cells n, rfl, b4, heap_alloc_new w _, hmn, by unfold maxLen; omega, ?_, ?_⟩⟩ (World.grownBy_alloc w _ none))
  · rw [Nat.mul_one]; exact size_madeCells _ _
  · rw [Nat.mul_one, hz, toList_madeCells_one]
    simp [cells64, Nat.min_eq_left hmn]

set_option maxRecDepth 100000 in
set_option maxHeartbeats 1000000 in
theorem shifted_any (v : Value) (n p : Nat) (w : World) (h : IsNat w v n) (h0 : n ≠ 0) (hl : (dg n).length ≤ 400000) (hp : p ≤ 400000) :
    Calls Tryz.prog 63 #[v, .int .i64 p] w fun e W' => ∃ u, e = .returned u ∧ IsNat W' u (n * B ^ p) ∧ Fresh w.heap.size u ∧ Below w.heap.size w W' := by
  obtain ⟨i0, hi, hz0, hz1, hz2⟩ := info_parts info_u64
  have HI := Lib.hid (And.intro hi (And.intro hz0 (And.intro hz1 hz2))); clear hi hz0 hz1 hz2
  obtain ⟨pa, ca, rfl, a1, a2, a3⟩ := h
  have hpos := dg_len_pos h0
  obtain ⟨b, off, rfl, hc⟩ := a3 (List.length_pos_iff.1 hpos)
  have HC := Lib.hid hc
  clear a3 hc
  have ev : toN (List.replicate p 0 ++ dg n) = n * B ^ p := by rw [toN_append, toN_replicate, List.length_replicate, toN_dg, Nat.zero_add, Nat.mul_comm]
  have hdd : Dig (List.replicate p 0 ++ dg n) := (Dig.replicate p).append (dg_Dig n)
  have HE := Lib.hid (And.intro ev hdd)
  have HL := Lib.hid (And.intro hl hp)
  clear ev hdd
  go_enter Tryz.func63, Tryz.ntmps63
  have hsrc : ∀ W, Below w.heap.size w W → ∀ j u, (cells64 (dg n))[j]? = some u → W.cell? ((⟨b, off, none⟩ : Addr).add j) = some u := by
    intro W hW j u hu
    have hadd : (⟨b, off, none⟩ : Addr).add j = ⟨b, off + j, none⟩ := by unfold Addr.add; split <;> simp_all
    have hj : j < (dg n).length := by
      have := (List.getElem?_eq_some_iff.1 hu).1
      simpa [cells64] using this
    have hcj := HC.out j hj
    rw [hadd, (hW.cell (p := ⟨b, off + j, none⟩) (World.block_lt_of_cell? w _ hcj)), hcj, ← hu]
    simp [cells64, hj]
  have HS := Lib.hid hsrc
  clear hsrc
  go_wp2_with (first
    | (at_make; refine wpList_make_part _ rfl _ _ 41 rfl w.heap.size 66 i0 Tryz.underlying41 HI.out.1 HI.out.2.1 HI.out.2.2.1 HI.out.2.2.2 .i64 .i64 _ _ p (p + (dg n).length) rfl rfl (by omega) (by omega) (by omega) (by omega) (Nat.le_refl _) ?_; intro w1 hown hgrow; have HO := Lib.hid hown; have HB := Lib.hid ((Below.refl _ w).grown hgrow (Nat.le_refl _) (fun k e => by cases e)); clear hown hgrow)
    | (at_builtin; refine wpList_append_own _ rfl _ _ 41 rfl w.heap.size 66 i0 (.int .u64 0) 1 8 Tryz.underlying41 HI.out.1 HI.out.2.1 HI.out.2.2.1 HI.out.2.2.2 rfl (by decide) _ _ _ rfl HO.out ⟨b, off, none⟩ (dg n).length ca (cells64 (dg n)) rfl (by simp [cells64]) (HS.out w1 HB.out) (by simp [cells64, Value.oneCell']) (by unfold maxLen; omega) (by omega) (by have := HB.out.size; omega) ?_; intro v' w2 hown' hgrow' _; have HO2 := Lib.hid hown'; have HB2 := Lib.hid (HB.out.grown hgrow' HB.out.size (fun k hk => (HO.out.lt k hk).1)); clear hown' hgrow'))
  have h2 := HO2.out
  rw [show cells64 (List.replicate p 0) ++ cells64 (dg n) = cells64 (List.replicate p 0 ++ dg n) by simp [cells64]] at h2
  obtain ⟨g, cap, rfl, hg, hc1, hc2, hr⟩ := rowC_of_owns h2 (fun e => by rw [List.append_eq_nil_iff] at e; rw [e.2] at hpos; simp at hpos)
  have hN := hr.nats hc1 (by unfold maxLen at hc2; omega)
  have ct := trimmed_any _ _ w2 hN HE.out.2
  rw [HE.out.1] at ct
  have CT := Lib.hid ct
  clear ct h2 hr hN
  refine CT.out.mono ?_
  rintro e w' ⟨rfl, u, rfl, hu, hob⟩
  have HU := Lib.hid (And.intro hu hob)
  clear hu hob CT
  go_wp2
  go_ret
  exact ⟨u, rfl, HU.out.1, fun k hk => by rw [HU.out.2] at hk; cases hk; exact hg, HB2.out⟩
end Go.Proofs.YtajonpcmgebbbaaGreatDoor

/- The walk of root, by induction on the number of digits. -/
namespace Go.Proofs.YtajonpcmgebbbaaGreatDoor
open Go.RowKit

theorem rootN_pos_le {a : Nat} : rootN a ≤ a := by
  have := (rootN_is a).1
  by_cases h0 : rootN a = 0
  · omega
  · exact Nat.le_trans (Nat.le_mul_of_pos_left _ (by omega)) this
theorem dg_succ_len (n : Nat) : (dg (n + 1)).length ≤ (dg n).length + 1 := by
  rw [dg_length_le]
  have h := (dg_length_le n _).1 (Nat.le_refl _)
  rw [Nat.pow_succ]
  have : B ^ (dg n).length * 2 ≤ B ^ (dg n).length * B := Nat.mul_le_mul_left _ (by decide)
  omega
theorem dg_mulpow_len (n p : Nat) : (dg (n * B ^ p)).length ≤ (dg n).length + p := by
  rw [dg_length_le, Nat.pow_add]
  exact Nat.mul_lt_mul_of_pos_right ((dg_length_le n _).1 (Nat.le_refl _)) (Nat.pow_pos B_pos)
theorem isNat_one (w : World) : IsNat (w.alloc (.cells #[.int .u64 1] 66)) (.slice (some ⟨w.heap.size, 0, none⟩) 1 1) 1 := by
  show Nats _ _ (dg 1)
  rw [show dg 1 = [1] by decide +kernel]
  exact Nats.of_cells (l := [1]) (Nat.le_refl _) (by decide) (fun i hi => by
    match i, hi with
    | 0, _ => go_cell)

set_option maxRecDepth 100000 in
set_option maxHeartbeats 2000000 in
theorem root_any (L : Nat) : ∀ (va : Value) (a : Nat) (w : World), IsNat w va a → (dg a).length ≤ L → L ≤ 1000 →
    Calls Tryz.prog 38 #[va] w fun e W' => ∃ v, e = .returned v ∧ IsNat W' v (rootN a) ∧ Fresh w.heap.size v ∧ Below w.heap.size w W' := by
  induction L using Nat.strongRecOn with
  | _ L ih =>
  intro va a w ha hl hL
  by_cases h2 : (dg a).length ≤ 2
  · exact root_small va a w ha (by have := (dg_length_le a 2).1 h2; rwa [show B ^ 2 = 1000000000000000000 from rfl] at this)
  · obtain ⟨n, hn⟩ : ∃ n, (dg a).length = n := ⟨_, rfl⟩
    obtain ⟨P, hP⟩ : ∃ P, (n + 1) / 4 = P := ⟨_, rfl⟩
    have hP1 : 1 ≤ P := by omega
    have hP2 : 2 * P < n := by omega
    have hsh : ∃ b off ca, va = .slice (some ⟨b, off, none⟩) n ca ∧ n ≤ ca := by
      obtain ⟨p, cap, rfl, h1, h2, h3⟩ := ha
      obtain ⟨b, off, rfl, _⟩ := h3 (by intro e; rw [e] at hn; simp at hn; omega)
      exact ⟨b, off, cap, by rw [hn], by omega⟩
    obtain ⟨b, off, ca, rfl, hca⟩ := hsh
    have ha' : Nats w (.slice (some ⟨b, off, none⟩) (dg a).length ca) (dg a) := by rw [hn]; exact ha
    have hsub := ha'.drop (k := 2 * P) (by omega)
    rw [dg_drop, hn] at hsub
    have hlen : (dg (a / B ^ (2 * P))).length = n - 2 * P := by rw [← dg_drop, List.length_drop, hn]
    have cr := ih (n - 2 * P) (by omega) _ (a / B ^ (2 * P)) w hsub (Nat.le_of_eq hlen) (by omega)
    obtain ⟨r, hr⟩ : ∃ r, rootN (a / B ^ (2 * P)) = r := ⟨_, rfl⟩
    have hrl : (dg r).length ≤ 1000 := by
      have h1 := dg_len_le (show r ≤ a / B ^ (2 * P) by rw [← hr]; exact rootN_pos_le)
      omega
    have hst : rootN a ≤ (r + 1) * B ^ P := root_start (by rw [← hr]; exact rootN_is _)
    rw [hr] at cr
    have cs := fun v W (h : IsNat W v r) => sum_any v (.slice (some ⟨W.heap.size, 0, none⟩) 1 1) r 1 (W.alloc (.cells #[.int .u64 1] 66)) (h.next ((Below.refl _ W).alloc (Nat.le_refl _) _)) (isNat_one W) (by omega) (by rw [show dg 1 = [1] by decide +kernel]; decide)
    have ch := fun v W (h : IsNat W v (r + 1)) => shifted_any v (r + 1) P W h (by omega) (by have := dg_succ_len r; omega) (by omega)
    have CR := Lib.hid (And.intro cr (And.intro cs ch))
    have HA := Lib.hid (And.intro ha (And.intro hst hrl))
    have eP : ((n : Int) + 1) / 4 = (P : Int) := by omega
    have hn2 : ¬ (n : Int) ≤ 2 := by omega
    have hPn : (2 : Int) * (P : Int) ≤ (n : Int) := by omega
    have HN := Lib.hid (And.intro hn (And.intro hl hL))
    have hnL : n ≤ 1000 := by omega
    clear cr cs ch ih hsub ha' hlen hr hst hrl h2 hn hl hL ha hP
    go_enter Tryz.func38, Tryz.ntmps38
    go_wp2_with fail
    refine CR.out.1.mono ?_
    rintro e w1 ⟨v1, rfl, hv1, _, hb1⟩
    obtain ⟨p1, c1, rfl⟩ := hv1.shape
    have H1 := Lib.hid (And.intro hv1 hb1)
    have CS := Lib.hid (CR.out.2.1 _ w1 hv1)
    clear hv1 hb1
    go_wp2_with fail
    refine CS.out.mono ?_
    rintro e w2 ⟨v2, rfl, hv2, _, hb2⟩
    obtain ⟨p2, c2, rfl⟩ := hv2.shape
    have hB2 : Below w.heap.size w w2 := H1.out.2.trans ((((Below.refl _ w1).alloc (Nat.le_refl _) _).trans (hb2.mono (by simp))).mono H1.out.2.size)
    have CH := Lib.hid (CR.out.2.2 _ w2 hv2)
    have H2 := Lib.hid hB2
    clear hv2 hb2 hB2 CS H1 CR
    go_wp2_with fail
    refine CH.out.mono ?_
    rintro e w3 ⟨v3, rfl, hv3, hf3, hb3⟩
    have H3 := Lib.hid (And.intro hv3 (And.intro (hf3.mono H2.out.size) (H2.out.trans (hb3.mono H2.out.size))))
    clear hv3 hf3 hb3 H2 CH
    go_wp2
    go_loopw [4] (fun x wr => ∃ (g : Nat), Hid (IsNat wr x g) ∧ Hid (rootN a ≤ g ∧ 0 < g ∧ (dg g).length ≤ 400000 ∧ Fresh w.heap.size x) ∧ Hid (Below w.heap.size w wr))
      (fun x wr => natVal wr x)
    case atStart =>
      refine ⟨(r + 1) * B ^ P, H3.out.1, ⟨HA.out.2.1, Nat.mul_pos (Nat.succ_pos r) (Nat.pow_pos B_pos), ?_, H3.out.2.1⟩, H3.out.2.2⟩
      have h1 := dg_mulpow_len (r + 1) P
      have h2 := dg_succ_len r
      have h3 := HA.out.2.2
      omega
    case round =>
      clear H3
      obtain ⟨g, hg, hgb, hbel⟩ := hrel
      have ha3 := HA.out.1.next hbel.out
      have hal : (dg a).length ≤ 900000 := by rw [HN.out.1]; omega
      have cd := divide_any _ _ a g wr ha3 hg.out (by have := hgb.out.2.1; omega) hal
      have hql : (dg (a / g)).length ≤ 1000 := by
        have := dg_len_le (Nat.div_le_self a g)
        rw [HN.out.1] at this; omega
      have CD := Lib.hid cd
      have HQ := Lib.hid hql
      clear cd ha3 hal hql
      go_wp2_with fail
      refine CD.out.mono ?_
      rintro e w4 ⟨q, q0, rfl, hq, _, _, _, hb4⟩
      obtain ⟨pq, cq, rfl⟩ := hq.shape
      have H4 := Lib.hid (And.intro hq (And.intro (hg.out.next hb4) (hbel.out.trans (hb4.mono hbel.out.size))))
      have CS := Lib.hid (sum_any _ _ g (a / g) w4 (hg.out.next hb4) hq (by have := hgb.out.2.2.1; omega) (by have := HQ.out; omega))
      clear hq hb4 CD
      go_wp2_with fail
      refine CS.out.mono ?_
      rintro e w5 ⟨s, rfl, hs, _, hb5⟩
      obtain ⟨ps, cs, rfl⟩ := hs.shape
      have hsl : (dg (g + a / g)).length ≤ 1000000 := by
        have h1 := hgb.out.2.2.1
        have h2 := HQ.out
        rw [dg_length_le] at h1 h2 ⊢
        obtain ⟨k1, e1⟩ : ∃ k, k = 1000 := ⟨_, rfl⟩
        obtain ⟨k2, e2⟩ : ∃ k, k = 400000 := ⟨_, rfl⟩
        obtain ⟨k3, e3⟩ : ∃ k, k = 1000000 := ⟨_, rfl⟩
        rw [← e1] at h2
        rw [← e2] at h1
        rw [← e3]
        have h3 : B ^ k1 ≤ B ^ k2 := Nat.pow_le_pow_right B_pos (by omega)
        have h4 : B ^ k2 * B ≤ B ^ k3 := by rw [← Nat.pow_succ]; exact Nat.pow_le_pow_right B_pos (by omega)
        have h5 : B ^ k2 * 2 ≤ B ^ k2 * B := Nat.mul_le_mul_left _ (by decide)
        clear e1 e2 e3
        generalize B ^ k1 = X at *
        generalize B ^ k2 = Y at *
        generalize B ^ k3 = Z at *
        omega
      have ch := divideShort_any _ (dg (g + a / g)) 2 w5 hs (dg_Dig _) hsl (by decide) (by decide)
      rw [toN_dg] at ch
      have CH := Lib.hid ch
      have H5 := Lib.hid (And.intro (H4.out.2.1.next hb5) (H4.out.2.2.trans (hb5.mono H4.out.2.2.size)))
      clear hs hb5 CS ch H4 hsl
      go_wp2_with fail
      refine CH.out.mono ?_
      rintro e w6 ⟨x, rfl, hx, hxf, hb6⟩
      obtain ⟨px, cx, rfl⟩ := hx.shape
      have H6 := Lib.hid (And.intro hx (And.intro (H5.out.1.next hb6) (And.intro (hxf.mono H5.out.2.size) (H5.out.2.trans (hb6.mono H5.out.2.size)))))
      have CC := Lib.hid (compare_any _ _ _ _ w6 hx (H5.out.1.next hb6))
      clear hx hxf hb6 CH H5
      go_wp2_with fail
      refine CC.out.mono ?_
      rintro e w7 ⟨rfl, k, rfl⟩
      have HGB := Lib.hid (newton_ge a g hgb.out.2.1 (rootN a) (rootN_is a))
      clear CC
      by_cases hc : (g + a / g) / 2 < g
      · rw [cmpN_lt hc]
        have HC := Lib.hid hc
        clear hc
        go_wp2
        go_roundw
        case rel =>
          refine ⟨(g + a / g) / 2, H6.out.1.next (Below.drewK _ _ _), ⟨HGB.out, ?_, ?_, H6.out.2.2.1⟩, H6.out.2.2.2.trans (Below.drewK _ _ _)⟩
          · have h1 := HGB.out
            have h2 : 0 < rootN a := by
              rcases Nat.eq_zero_or_pos (rootN a) with h | h
              · exfalso
                have h3 := (rootN_is a).2
                rw [h] at h3
                have h4 : a = 0 := by omega
                have h5 := HN.out.1
                rw [h4, dg_zero] at h5
                simp at h5
                omega
              · exact h
            omega
          · have := dg_len_le (Nat.le_of_lt HC.out)
            have := hgb.out.2.2.1
            omega
        case measure =>
          have e1 := natVal_eq (H6.out.1.next (Below.drewK w6.heap.size w6 k))
          have e2 := natVal_eq hg.out
          show natVal _ (Value.slice px _ cx) < natVal wr _
          rw [e1]
          refine Nat.lt_of_lt_of_eq HC.out e2.symm
      · have hge : ¬ cmpN ((g + a / g) / 2) g < 0 := by
          unfold cmpN; rw [if_neg hc]; split <;> omega
        have he : g = rootN a := newton_done a g (rootN a) hgb.out.2.1 (rootN_is a) hgb.out.1 (by omega)
        generalize cmpN ((g + a / g) / 2) g = c at *
        have HE := Lib.hid he
        clear he hc
        go_wp2
        go_ret
        exact ⟨_, rfl, by rw [← HE.out]; exact H6.out.2.1.next (Below.drewK _ _ _), hgb.out.2.2.2, H6.out.2.2.2.trans (Below.drewK _ _ _)⟩
end Go.Proofs.YtajonpcmgebbbaaGreatDoor

