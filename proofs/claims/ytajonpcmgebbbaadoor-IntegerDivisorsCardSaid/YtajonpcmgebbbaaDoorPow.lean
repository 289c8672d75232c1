/- The walk of Power. -/
import Derived.Test.YtajonpcmgebbbaaDoorW17
import Derived.Lib.RabinKarpLaws
namespace Go.Proofs.YtajonpcmgebbbaaDoor
open Go.RowKit

theorem lt_bitLen (n : Nat) (h : n < 2 ^ 64) : n < 2 ^ Lib.bitLen n := by
  by_cases h0 : n = 0
  · subst h0; decide
  · exact (Lib.bitLenAux_bounds 64 n h h0).2.2
theorem bits_one (i : Nat) (hi : i < 9223372036854775808) : bits BinOp.and IntKind.i64 (i : Int) 1 = ((i % 2 : Nat) : Int) := Go.Proofs.and_one i hi
theorem bit_true {n k : Nat} (h : n / 2 ^ k % 2 = 1) (hn : n ≤ 4096) : (bits BinOp.and IntKind.i64 ((n : Int) / 2 ^ k) 1 == 1) = true := by
  have e : ((n : Int) / 2 ^ k) = ((n / 2 ^ k : Nat) : Int) := by simp
  have := Nat.div_le_self n (2 ^ k)
  rw [e, bits_one _ (by omega), h]; rfl
theorem bit_false {n k : Nat} (h : n / 2 ^ k % 2 = 0) (hn : n ≤ 4096) : (bits BinOp.and IntKind.i64 ((n : Int) / 2 ^ k) 1 == 1) = false := by
  have e : ((n : Int) / 2 ^ k) = ((n / 2 ^ k : Nat) : Int) := by simp
  have := Nat.div_le_self n (2 ^ k)
  rw [e, bits_one _ (by omega), h]; rfl
theorem half_step (n k : Nat) : n / 2 ^ k = 2 * (n / 2 ^ (k + 1)) + n / 2 ^ k % 2 := by
  rw [Nat.pow_succ, ← Nat.div_div_eq_div_mul]; omega
theorem pow_big {x : Int} {m n : Nat} (hm : m ≤ n) (h : ¬ (x ^ m).natAbs < lim) : ¬ (x ^ n).natAbs < lim := by
  rw [Int.natAbs_pow] at h ⊢
  have hl := lim_big
  by_cases h0 : x.natAbs = 0
  · rw [h0] at h
    exfalso; apply h
    cases m with
    | zero => rw [Nat.pow_zero]; omega
    | succ m => rw [Nat.zero_pow (by omega)]; omega
  · intro h'
    have := Nat.pow_le_pow_right (n := x.natAbs) (by omega) hm
    omega

theorem Nats.setCell_ne {w : World} {v : Value} {l : List Nat} {c : Nat} (h : Nats w v l) (hf : l = [] ∨ v.ownBlock ≠ some c) {o : Nat} (u : Value) : Nats (w.setCell ⟨c, o, none⟩ u) v l := by
  obtain ⟨p, cap, rfl, h1, h2, h3⟩ := h
  refine ⟨p, cap, rfl, h1, h2, fun hne => ?_⟩
  obtain ⟨b, off, e, hc⟩ := h3 hne
  refine ⟨b, off, e, fun i hi => ?_⟩
  have hb : b ≠ c := fun hb => (hf.resolve_left hne) (by rw [e, hb]; rfl)
  exact (World.cell?_of_block (Below.heap_setCell _ _ _ _ (by show b ≠ c; exact hb))).trans (hc i hi)
theorem IsNat.setCell_ne {w : World} {v : Value} {n c : Nat} (h : IsNat w v n) (hf : dg n = [] ∨ v.ownBlock ≠ some c) {o : Nat} (u : Value) : IsNat (w.setCell ⟨c, o, none⟩ u) v n := Nats.setCell_ne h hf u
theorem IsNat.far {w : World} {v : Value} {n c : Nat} (h : IsNat w v n) (hc : w.heap.size ≤ c) : dg n = [] ∨ v.ownBlock ≠ some c := by
  obtain ⟨p, cap, rfl, h1, h2, h3⟩ := h
  by_cases hne : dg n = []
  · exact .inl hne
  · obtain ⟨b, off, e, hcell⟩ := h3 hne
    have hl := World.block_lt_of_cell? w _ (hcell 0 (List.length_pos_iff.2 hne))
    refine .inr fun h => ?_
    rw [e] at h
    have h2 : b = c := by simpa [Value.ownBlock] using h
    have hl2 : b < w.heap.size := hl
    omega
theorem Fresh.far {v : Value} {b c n : Nat} (h : Fresh b v) (hc : c < b) : dg n = [] ∨ v.ownBlock ≠ some c := .inr fun e => by have := h c e; omega

theorem sgn_abs (ng : Bool) (m : Nat) : (sgnZ ng m).natAbs = m := by unfold sgnZ; cases ng <;> simp
theorem dg_mul3 {a b c : Nat} (ha : a < lim) (hb : b < lim) (hc : c < lim) : (dg (a * b * c)).length ≤ 102 := by
  rw [dg_length_le, show B ^ 102 = B ^ 34 * B ^ 34 * B ^ 34 by rw [← Nat.pow_add, ← Nat.pow_add]]
  have h1 := lim_B
  exact Nat.mul_lt_mul'' (Nat.mul_lt_mul'' (Nat.lt_of_lt_of_le ha h1) (Nat.lt_of_lt_of_le hb h1)) (Nat.lt_of_lt_of_le hc h1)
/-- the two boxes of Power: x (never written) and the power -/
structure PS (w : World) (X : Nat) (nx : Bool) (vx : Value) (a : Nat) (ng : Bool) (vp : Value) (m : Nat) (wr : World) : Prop where
  c0 : wr.cell? ⟨X, 0, none⟩ = some (.bool nx)
  c1 : wr.cell? ⟨X, 1, none⟩ = some vx
  d0 : wr.cell? ⟨X + 1, 0, none⟩ = some (.bool ng)
  d1 : wr.cell? ⟨X + 1, 1, none⟩ = some vp
  f0 : wr.frozen? ⟨X + 1, 0, none⟩ = false
  f1 : wr.frozen? ⟨X + 1, 1, none⟩ = false
  size : X + 1 < wr.heap.size
  lo : w.heap.size ≤ X
  bel : Below w.heap.size w wr
  hx : IsNat wr vx a
  nx : dg a = [] ∨ vx.ownBlock ≠ some (X + 1)
  hp : IsNat wr vp m
theorem PS.next {w : World} {X : Nat} {nx : Bool} {vx : Value} {a : Nat} {ng : Bool} {vp : Value} {m : Nat} {wr W : World} (h : PS w X nx vx a ng vp m wr) (b : Below wr.heap.size wr W) : PS w X nx vx a ng vp m W :=
  ⟨(b.cell (p := ⟨X, 0, none⟩) (by have := h.size; show X < _; omega)).trans h.c0, (b.cell (p := ⟨X, 1, none⟩) (by have := h.size; show X < _; omega)).trans h.c1,
    (b.cell (p := ⟨X + 1, 0, none⟩) h.size).trans h.d0, (b.cell (p := ⟨X + 1, 1, none⟩) h.size).trans h.d1,
    (b.frozen (p := ⟨X + 1, 0, none⟩) h.size).trans h.f0, (b.frozen (p := ⟨X + 1, 1, none⟩) h.size).trans h.f1, Nat.lt_of_lt_of_le h.size b.size, h.lo,
    h.bel.trans (b.mono h.bel.size), h.hx.next b, h.nx, h.hp.next b⟩
theorem PS.put {w : World} {X : Nat} {nx : Bool} {vx : Value} {a : Nat} {ng : Bool} {vp : Value} {m : Nat} {wr : World} (h : PS w X nx vx a ng vp m wr) (ng' : Bool) {vq : Value} {m' : Nat} (hq : IsNat wr vq m') (nq : dg m' = [] ∨ vq.ownBlock ≠ some (X + 1)) :
    PS w X nx vx a ng' vq m' ((wr.setCell ⟨X + 1, 0, none⟩ (.bool ng')).setCell ⟨X + 1, 1, none⟩ vq) := by
  obtain ⟨e0, e1⟩ := two_back h.d0 h.d1 (.bool ng') vq
  have hk : ∀ (W : World) (o o' : Nat) (u : Value), (W.setCell ⟨X + 1, o, none⟩ u).cell? ⟨X, o', none⟩ = W.cell? ⟨X, o', none⟩ := fun W o o' u => World.cell?_of_block (Below.heap_setCell _ _ _ _ (by show X ≠ X + 1; omega))
  refine ⟨by rw [hk, hk]; exact h.c0, by rw [hk, hk]; exact h.c1, ?_, e1, ?_, ?_, by have := h.size; simpa [World.setCell] using this, h.lo,
    (h.bel.setCell (p := ⟨X + 1, 0, none⟩) (by have := h.lo; show _ ≤ X + 1; omega) _).setCell (p := ⟨X + 1, 1, none⟩) (by have := h.lo; show _ ≤ X + 1; omega) _, (h.hx.setCell_ne h.nx _).setCell_ne h.nx _, h.nx, (hq.setCell_ne nq _).setCell_ne nq _⟩
  · go_cell
  · simp [go_sem, h.f0]
  · simp [go_sem, h.f1]

theorem lim_one : 1 < lim := by have := lim_big; omega
set_option maxHeartbeats 2000000 in
theorem Power_any (a : ByteArray) (n : Nat) (w : World) (ha : chk a.data.toList = 0) (hn : n ≤ 4096) (ht : Tab w) :
    Calls Tryd.prog 18 #[.string a, .int .i64 n] w fun e W' => e = .returned (.tuple #[.string (resB (valOf a.data.toList ^ n)), .int .i64 (resE (valOf a.data.toList ^ n))]) ∧ Below w.heap.size w W' := by
  have hs := chk_size ha
  have cc := fun W => check_any a W (by unfold maxLen; omega)
  rw [ha] at cc
  have cr := fun W => read_any a W (by omega) ha
  have cb := fun W => Tryd.bits_Len n W (by omega) (by omega)
  have O := Lib.hid (And.intro cc (And.intro cr cb))
  have hbl := Lib.bitLen_le n 13 (by decide) (by omega)
  have HB := Lib.hid (lt_bitLen n (by omega))
  have HX := Lib.hid (And.intro (val_sgn a.data.toList) (nat_lim ha))
  have HT := Lib.hid ht
  clear cc cr cb ha ht hs
  generalize isNeg a.data.toList = nx at *
  generalize natOf (szL a.data.toList) = ax at *
  generalize valOf a.data.toList = x at *
  have n0 : ¬ (n : Int) < 0 := by omega
  have n1 : ¬ (4096 : Int) < n := by omega
  go_enter Tryd.func18, Tryd.ntmps18
  go_wp2_with fail
  refine (O.out.1 _).mono ?_
  rintro e w' ⟨rfl, rfl⟩
  go_wp2_with fail
  refine (O.out.2.1 _).mono ?_
  rintro e w1 ⟨v, rfl, hv, hfr, hb1⟩
  obtain ⟨p, cap, rfl⟩ := hv.shape
  have HV := Lib.hid (And.intro hv (And.intro hfr hb1)); clear hv hfr hb1
  generalize (dg ax).length = len at *
  go_wp2_with fail
  refine (O.out.2.2 _).mono ?_
  rintro e w' ⟨rfl, rfl⟩
  go_wp2_with fail
  have PS0 : Hid (PS w (w1.heap.size + 1) (nx) (.slice p len cap) (ax) false (.slice (some ⟨w1.heap.size, 0, none⟩) 1 1) 1 (((w1.alloc (.cells #[.int .u64 1] 67)).alloc (.cells #[.bool (nx), .slice p len cap] 46)).alloc (.cells #[.bool false, .slice (some ⟨w1.heap.size, 0, none⟩) 1 1] 46))) := by
    obtain ⟨hv, hfr, hb1⟩ := HV.out
    have hsz : (((w1.alloc (.cells #[.int .u64 1] 67)).alloc (.cells #[.bool (nx), .slice p len cap] 46)).alloc (.cells #[.bool false, .slice (some ⟨w1.heap.size, 0, none⟩) 1 1] 46)).heap.size = w1.heap.size + 3 := by simp
    have hbel : Below w1.heap.size w1 (((w1.alloc (.cells #[.int .u64 1] 67)).alloc (.cells #[.bool (nx), .slice p len cap] 46)).alloc (.cells #[.bool false, .slice (some ⟨w1.heap.size, 0, none⟩) 1 1] 46)) :=
      (((Below.refl _ w1).alloc (Nat.le_refl _) _).alloc (by simp) _).alloc (by simp; omega) _
    refine ⟨by go_cell, by go_cell, by go_cell, by go_cell, by simp [go_sem], by simp [go_sem], by rw [hsz]; omega, by have := hb1.size; omega, hb1.trans (hbel.mono hb1.size), hv.next hbel, hv.far (by omega), ?_⟩
    have h1 : dg 1 = [1] := by decide +kernel
    show Nats _ _ (dg 1)
    rw [h1]
    refine Nats.of_cells (l := [1]) (by decide) (by decide) (fun i hi => ?_)
    match i, hi with
    | 0, _ => go_cell
  clear HV
  generalize (((w1.alloc (.cells #[.int .u64 1] 67)).alloc (.cells #[.bool (nx), .slice p len cap] 46)).alloc (.cells #[.bool false, .slice (some ⟨w1.heap.size, 0, none⟩) 1 1] 46)) = w2 at *
  clear O
  generalize w1.heap.size + 1 = X at *
  generalize Lib.bitLen n = bl at *
  go_loopw [9] (fun i wr => ∃ (k : Nat) (ng : Bool) (q : Option Addr) (lq cq m : Nat), k ≤ bl ∧ i = .int .i64 ((k : Int) - 1) ∧ Hid (PS w X nx (.slice p len cap) ax ng (.slice q lq cq) m wr) ∧ Hid (sgnZ ng m = x ^ (n / 2 ^ k) ∧ m < lim)) (fun i _ => (intOf i + 1).toNat)
  case atStart => exact ⟨bl, false, _, _, _, 1, Nat.le_refl _, by go_num, PS0, by rw [Nat.div_eq_of_lt HB.out]; simp [sgnZ], lim_one⟩
  case round =>
    obtain ⟨k, ng, q, lq, cq, m, hk, rfl, HP, HM⟩ := hrel
    cases k with
    | zero =>
      have d0 := HP.out.d0
      have d1 := HP.out.d1
      have ctx := text_any ng _ m wr HP.out.hp (Nat.le_trans (dg_lim HM.out.2) (by decide)) (HT.out.next HP.out.bel)
      rw [HM.out.1, Nat.pow_zero, Nat.div_one] at ctx
      have CT := Lib.hid ctx
      clear ctx
      go_wp2_with fail
      refine CT.out.mono ?_
      rintro e W' ⟨rfl, b⟩
      have HE := Lib.hid (HP.out.bel.trans (b.mono HP.out.bel.size))
      clear b d0 d1
      go_wp2
      go_ret2
      exact ⟨rfl, HE.out⟩
    | succ k =>
      have d0 := HP.out.d0
      have d1 := HP.out.d1
      have tm := times_any ng ng _ _ m m wr HP.out.hp HP.out.hp (Nat.le_trans (dg_lim HM.out.2) (by decide)) (Nat.le_trans (dg_lim HM.out.2) (by decide))
      rw [show (ng != ng) = false by simp] at tm
      have TM := Lib.hid tm
      clear tm
      go_wp2_with fail
      refine TM.out.mono ?_
      rintro e W1 ⟨vq, rfl, hv, hfr, hb⟩
      clear d0 d1
      obtain ⟨q1, cq1, rfl⟩ := hv.shape
      have HP1 := Lib.hid (HP.out.next hb)
      have HV := Lib.hid (And.intro hv (hfr.far (n := m * m) (c := X + 1) HP.out.size))
      have HP2 := Lib.hid (HP1.out.put false HV.out.1 HV.out.2)
      clear hv hfr hb TM
      have c0 := HP1.out.c0
      have c1 := HP1.out.c1
      have d0 := HP1.out.d0
      have d1 := HP1.out.d1
      have f0 := HP1.out.f0
      have f1 := HP1.out.f1
      generalize (dg (m * m)).length = lq1 at *
      have HS := Lib.hid (half_step n k)
      have HM2 : Hid (sgnZ false (m * m) = x ^ (2 * (n / 2 ^ (k + 1)))) := by
        show sgnZ false (m * m) = _
        rw [show false = (ng != ng) by simp, sgn_mul, HM.out.1, ← Int.pow_add, Nat.two_mul]
      by_cases hodd : n / 2 ^ k % 2 = 1
      · have hbit := bit_true hodd hn
        have e0 := HP2.out.c0
        have e1 := HP2.out.c1
        have e2 := HP2.out.d0
        have e3 := HP2.out.d1
        have HM4 : Hid (sgnZ nx (m * m * ax) = x ^ (n / 2 ^ k)) := by
          show sgnZ nx (m * m * ax) = _
          have h1 : sgnZ nx (m * m * ax) = sgnZ (false != nx) (m * m * ax) := by simp
          rw [h1, sgn_mul, HM2.out, HX.out.1, HS.out, hodd, Int.pow_succ]
        clear hodd HM2 HS
        go_wp2_with fail
        clear e0 e1 e2 e3 c0 c1 d0 d1 f0 f1
        generalize (W1.setCell ⟨X + 1, 0, none⟩ (.bool false)).setCell ⟨X + 1, 1, none⟩ (.slice q1 lq1 cq1) = W2 at *
        have tm := times_any false nx _ _ (m * m) ax W2 HP2.out.hp HP2.out.hx (Nat.le_trans (dg_mul HM.out.2 HM.out.2) (by decide)) (Nat.le_trans (dg_lim HX.out.2) (by decide))
        rw [show (false != nx) = nx by simp] at tm
        refine tm.mono ?_
        clear tm
        rintro e W3 ⟨vr, rfl, hv, hfr, hb⟩
        obtain ⟨q3, cq3, rfl⟩ := hv.shape
        have HP3 := Lib.hid (HP2.out.next hb)
        have HP4 := Lib.hid (HP3.out.put nx hv (hfr.far HP2.out.size))
        clear hv hfr hb
        have c0 := HP3.out.c0
        have c1 := HP3.out.c1
        have d0 := HP3.out.d0
        have d1 := HP3.out.d1
        have f0 := HP3.out.f0
        have f1 := HP3.out.f1
        have HD := Lib.hid (fun v W h => length_any v (m * m * ax) W h (Nat.le_trans (dg_mul3 HM.out.2 HM.out.2 HX.out.2) (by decide)))
        generalize (dg (m * m * ax)).length = lq3 at *
        have e2 := HP4.out.d0
        have e3 := HP4.out.d1
        have lc := HD.out _ _ HP4.out.hp
        have LC := Lib.hid lc
        clear lc
        go_wp2_with fail
        refine LC.out.mono ?_
        rintro e w' ⟨rfl, rfl⟩
        clear LC
        have HL := Lib.hid (nlen_lim nx (m * m * ax))
        generalize nlen (m * m * ax) = nl at *
        by_cases hbig : (300 : Int) < nl
        · have HG := Lib.hid (HL.out.1 (by omega))
          go_wp2
          go_ret2
          have hz := pow_big (Nat.div_le_self n (2 ^ k)) (by have := HG.out; rwa [HM4.out] at this)
          refine ⟨ret_res ?_ ?_, HP4.out.bel⟩
          · unfold resB; rw [if_neg hz]; rfl
          · unfold resE; rw [if_neg hz]
        · have hlt : Hid (m * m * ax < lim) := by
            have h := Decidable.not_not.1 (fun h => hbig (by have := HL.out.2 h; omega))
            rwa [sgn_abs] at h
          clear HL
          go_wp2
          go_round
          case rel => exact ⟨k, nx, _, _,  _, m * m * ax, by omega, by go_num, HP4, HM4.out, hlt.out⟩
          case measure => simp [intOf]
      · have hbit := bit_false (show n / 2 ^ k % 2 = 0 by omega) hn
        have HM4 : Hid (sgnZ false (m * m) = x ^ (n / 2 ^ k)) := by
          show sgnZ false (m * m) = _
          have h0 : n / 2 ^ k % 2 = 0 := by omega
          have h2 := HS.out
          rw [h0, Nat.add_zero] at h2
          rw [HM2.out, h2]
        clear hodd HM2 HS
        have e2 := HP2.out.d0
        have e3 := HP2.out.d1
        have HD := Lib.hid (fun v W h => length_any v (m * m) W h (Nat.le_trans (dg_mul HM.out.2 HM.out.2) (by decide)))
        have lc := HD.out _ _ HP2.out.hp
        have LC := Lib.hid lc
        clear lc
        go_wp2_with fail
        refine LC.out.mono ?_
        rintro e w' ⟨rfl, rfl⟩
        clear LC
        have HL := Lib.hid (nlen_lim false (m * m))
        generalize nlen (m * m) = nl at *
        by_cases hbig : (300 : Int) < nl
        · have HG := Lib.hid (HL.out.1 (by omega))
          go_wp2
          go_ret2
          have hz := pow_big (Nat.div_le_self n (2 ^ k)) (by have := HG.out; rwa [HM4.out] at this)
          refine ⟨ret_res ?_ ?_, HP2.out.bel⟩
          · unfold resB; rw [if_neg hz]; rfl
          · unfold resE; rw [if_neg hz]
        · have hlt : Hid (m * m < lim) := by
            have h := Decidable.not_not.1 (fun h => hbig (by have := HL.out.2 h; omega))
            rwa [sgn_abs] at h
          clear HL
          go_wp2
          go_round
          case rel => exact ⟨k, false, _, _,  _, m * m, by omega, by go_num, HP2, HM4.out, hlt.out⟩
          case measure => simp [intOf]
end Go.Proofs.YtajonpcmgebbbaaDoor
