/- Proved here: Root and Power return the results of the reference implementation for any string of the examined lengths and any exponent. The law IntegerRoots returns true for every input, and its arguments read behind the call as before. Conditions: the row's own, the listed tables hold their numbers. -/
import Derived.Test.YtajonpcmgebbbaaDoorProducts22
/- The walk of the reference's Root. -/
-- needs kingpost/kingpostref01.Root
namespace Go.Proofs.YtajonpcmgebbbaaDoor.R
open Go.RowKit

theorem str_of_chk {s : ByteArray} (h : chk s.data.toList = 0) : s = strB (valOf s.data.toList) := by
  unfold strB; rw [itoa_valOf _ h]

/-- the text of a power of ten -/
structure TenT (s : ByteArray) (i : Nat) : Prop where
  len : s.size = i + 1
  dig : ∀ c ∈ s.data.toList, isDig c = true
  head : s.data.toList.head? = some 49
  val : natOf s.data.toList = 10 ^ i
theorem TenT.start : TenT ⟨#[49]⟩ 0 := ⟨rfl, by decide, rfl, by decide⟩
theorem app_data (s t : ByteArray) : (s ++ t).data.toList = s.data.toList ++ t.data.toList := by simp
theorem TenT.step {s : ByteArray} {i : Nat} (h : TenT s i) : TenT (s ++ ⟨#[48]⟩) (i + 1) := by
  have hd : (s ++ ⟨#[48]⟩).data.toList = s.data.toList ++ [48] := by rw [app_data]
  refine ⟨?_, ?_, ?_, ?_⟩
  · rw [← size_len, hd, List.length_append, size_len, h.len]; rfl
  · rw [hd]; intro c hc
    rcases List.mem_append.1 hc with hc | hc
    · exact h.dig c hc
    · rw [List.mem_singleton.1 hc]; decide
  · rw [hd, List.head?_append, h.head]; rfl
  · rw [hd, natOf_snoc, h.val, Nat.pow_succ]; rfl
theorem TenT.neg {s : ByteArray} {i : Nat} (h : TenT s i) : isNeg s.data.toList = false := by unfold isNeg; rw [h.head]; rfl
theorem TenT.szL {s : ByteArray} {i : Nat} (h : TenT s i) : szL s.data.toList = s.data.toList := by
  unfold Go.Proofs.YtajonpcmgebbbaaDoor.szL; rw [h.neg]; rfl
theorem TenT.chk {s : ByteArray} {i : Nat} (h : TenT s i) (hi : i < 300) : chk s.data.toList = 0 := by
  unfold Go.Proofs.YtajonpcmgebbbaaDoor.chk
  rw [h.szL]
  have h1 : s.data.toList.all isDig = true := List.all_eq_true.2 h.dig
  have h2 : s.data.toList ≠ [] := fun e => by have := h.head; rw [e] at this; cases this
  have h3 : ¬ (s.data.toList = [] ∨ (s.data.toList.head? = some 48 ∧ s.data.toList ≠ [48])) := by
    rintro (h | ⟨h4, _⟩)
    · exact h2 h
    · rw [h.head] at h4; cases h4
  rw [h1, if_neg (by simp), if_neg h3, if_neg (by rw [size_len, h.len]; omega)]

theorem two_isnat (w : World) : IsNat (w.alloc (.cells #[.int .i64 2] 3)) (.slice (some ⟨w.heap.size, 0, none⟩) 1 1) 2 := by
  show Nats _ _ (dg 2)
  rw [dg_one (by decide) (by decide)]
  exact one_nats w 2

set_option maxHeartbeats 1000000 in
theorem Root_bad (a : ByteArray) (w : World) (ha : a.size ≤ maxLen) (hc : chk a.data.toList ≠ 0) :
    Calls Tryd.prog 17 #[.string a] w fun e W' => e = .returned (.tuple #[.string ⟨#[]⟩, .int .i64 (chk a.data.toList)]) ∧ Below w.heap.size w W' := by
  have C := Lib.hid (refCheck_any a w ha)
  generalize chk a.data.toList = c at *
  have hn : (c != 0) = true := by rw [bne_iff_ne]; exact hc
  clear hc
  go_enter Tryd.func17, Tryd.ntmps17
  go_wp2_with fail
  refine C.out.mono ?_
  rintro e w' ⟨rfl, rfl⟩
  go_wp2
  go_ret2
  exact ⟨rfl, Below.refl _ _⟩
set_option maxHeartbeats 1000000 in
theorem progRoot_bad (a : ByteArray) (w : World) (ha : a.size ≤ maxLen) (hc : chk a.data.toList ≠ 0) :
    Calls Tryd.prog 16 #[.string a] w fun e W' => e = .returned (.tuple #[.string ⟨#[]⟩, .int .i64 (chk a.data.toList)]) ∧ Below w.heap.size w W' := by
  have C := Lib.hid (check_any a w ha)
  generalize chk a.data.toList = c at *
  have hn : (c != 0) = true := by rw [bne_iff_ne]; exact hc
  clear hc
  go_enter Tryd.func16, Tryd.ntmps16
  go_wp2_with fail
  refine C.out.mono ?_
  rintro e w' ⟨rfl, rfl⟩
  go_wp2
  go_ret2
  exact ⟨rfl, Below.refl _ _⟩
set_option maxHeartbeats 1000000 in
theorem Root_neg (a : ByteArray) (w : World) (k1 : chk a.data.toList = 0) (hn : isNeg a.data.toList = true) :
    Calls Tryd.prog 17 #[.string a] w fun e W' => e = .returned (.tuple #[.string ⟨#[]⟩, .int .i64 2]) ∧ Below w.heap.size w W' := by
  have s1 := chk_size k1
  have c0 := refCheck_any a w (by unfold maxLen; omega)
  rw [k1] at c0
  have r1 := fun W => read_any a W (by omega) k1
  rw [hn] at r1
  have C := Lib.hid (And.intro c0 r1)
  clear c0 r1 k1 hn
  go_enter Tryd.func17, Tryd.ntmps17
  go_wp2_with fail
  refine C.out.1.mono ?_
  rintro e w' ⟨rfl, rfl⟩
  go_wp2_with fail
  refine (C.out.2 _).mono ?_
  rintro e w1 ⟨va, rfl, hva, _, hb1⟩
  obtain ⟨pa, ca, rfl⟩ := hva.shape
  have HB := Lib.hid (hb1.trans (((Below.refl _ w1).alloc (Nat.le_refl _) (.cells #[.bool true, .slice pa (dg (natOf (szL a.data.toList))).length ca] 56)).mono hb1.size))
  clear hva hb1
  generalize (dg (natOf (szL a.data.toList))).length = la at *
  go_wp2
  go_ret2
  exact ⟨rfl, HB.out⟩

theorem ten_lt (i k : Nat) (h : i < k) : 10 ^ i < 10 ^ k := Nat.pow_lt_pow_right (by decide) h
/-- Newton's step from above -/
theorem root_next {x r : Nat} (_hr : rootN x ≤ r) (h : x < r * r) : 0 < r ∧ rootN x ≤ (r + x / r) / 2 ∧ (r + x / r) / 2 < r := by
  have h0 : 0 < r := by
    rcases Nat.eq_zero_or_pos r with h1 | h1
    · rw [h1] at h; omega
    · exact h1
  have h1 : x / r < r := by rw [Nat.div_lt_iff_lt_mul h0]; exact h
  exact ⟨h0, newton_ge x r h0 _ (rootN_is x), by omega⟩
theorem root_end {x r : Nat} (hr : rootN x ≤ r) (h : ¬ x < r * r) : r = rootN x := by
  have h1 := (rootN_is x).2
  rcases Nat.lt_or_ge (rootN x) r with h2 | h2
  · exfalso
    have := Nat.mul_self_le_mul_self (show rootN x + 1 ≤ r from h2)
    omega
  · omega

set_option maxRecDepth 100000 in
set_option maxHeartbeats 4000000 in
theorem Root_ok (a : ByteArray) (w : World) (k1 : chk a.data.toList = 0) (hn : isNeg a.data.toList = false) :
    Calls Tryd.prog 17 #[.string a] w fun e W' => e = .returned (.tuple #[.string (strB (rootN (natOf (szL a.data.toList)) : Nat)), .int .i64 0]) ∧ Below w.heap.size w W' := by
  have s1 := chk_size k1
  have c0 := refCheck_any a w (by unfold maxLen; omega)
  rw [k1] at c0
  have r1 := fun W => read_any a W (by omega) k1
  rw [hn] at r1
  have hx10 : natOf (szL a.data.toList) < 10 ^ a.size := by
    have h1 := natOf_lt _ (chk_dig k1)
    exact Nat.lt_of_lt_of_le h1 (Nat.pow_le_pow_right (by decide) (by have := szL_length a.data.toList; rwa [size_len] at this))
  have n1 := dg_lim' (nat_lim k1)
  have hroot : rootN (natOf (szL a.data.toList)) ≤ 10 ^ ((a.size + 1) / 2) := by
    refine Nat.le_of_lt (rootN_le _ _ (Nat.lt_of_lt_of_le hx10 ?_))
    rw [← Nat.pow_add]
    exact Nat.pow_le_pow_right (by decide) (by omega)
  have C := Lib.hid (And.intro c0 r1)
  clear c0 r1 k1 hn hx10
  generalize natOf (szL a.data.toList) = x at *
  obtain ⟨k, hk⟩ : ∃ k, (a.size + 1) / 2 = k := ⟨_, rfl⟩
  have hk1 : k ≤ 151 := by omega
  rw [hk] at hroot
  have ek : ((a.size : Int) + 1) / 2 = (k : Int) := by omega
  have HR := Lib.hid hroot
  have HX := Lib.hid (fun n (h : n = x) => show (dg n).length ≤ 50 by rw [h]; exact n1)
  clear hk hroot n1
  go_enter Tryd.func17, Tryd.ntmps17
  go_wp2_with fail
  refine C.out.1.mono ?_
  rintro e w' ⟨rfl, rfl⟩
  go_wp2_with fail
  refine (C.out.2 _).mono ?_
  rintro e w1 ⟨va, rfl, hva, _, hb1⟩
  obtain ⟨pa, ca, rfl⟩ := hva.shape
  have hbW : Below w1.heap.size w1 (w1.alloc (.cells #[.bool false, .slice pa (dg x).length ca] 56)) := (Below.refl _ _).alloc (Nat.le_refl _) _
  have H1 := Lib.hid (And.intro (hva.next hbW) (And.intro (hb1.trans (hbW.mono hb1.size)) (C2.new w1 (.bool false) (.slice pa (dg x).length ca) 56)))
  clear hva hb1 hbW C
  generalize hlx : (dg x).length = lx at *
  have HLX := Lib.hid hlx
  clear hlx
  go_wp2
  generalize w1.alloc (.cells #[.bool false, .slice pa lx ca] 56) = W1 at *
  generalize w1.heap.size = o at *
  go_loop [6, 7] (fun u v => ∃ (s : ByteArray) (i : Nat), u = .string s ∧ v = .int .i64 i ∧ i ≤ k ∧ Hid (TenT s i)) (fun _ v => k - (intOf v).toNat)
  case atStart => exact ⟨⟨#[49]⟩, 0, rfl, rfl, Nat.zero_le _, TenT.start⟩
  case round =>
    obtain ⟨s, i, rfl, rfl, hik, hT⟩ := hrel
    have hsz : s.size ≤ 200 := by rw [hT.out.len]; omega
    by_cases hlt : i < k
    · have HT2 := Lib.hid hT.out.step
      go_wp2
      go_round
      case rel => exact ⟨s ++ ⟨#[48]⟩, i + 1, rfl, by go_num, by omega, HT2.out⟩
      case measure => simp [intOf]; omega
    · obtain rfl : i = k := by omega
      have cr := read_any s W1 (by omega) (hT.out.chk (by omega))
      rw [hT.out.neg, hT.out.szL, hT.out.val] at cr
      have CR := Lib.hid cr
      have fd := fun (v : Value) W => field1 (.bool false) v W
      clear cr hlt
      go_wp2_with fail
      refine CR.out.mono ?_
      rintro e w2 ⟨vr, rfl, hvr, _, hb2⟩
      obtain ⟨pr, cr, rfl⟩ := hvr.shape
      have fd2 := fd (.slice pr (dg (10 ^ i)).length cr)
      have H2 := Lib.hid (And.intro (H1.out.1.next hb2) (And.intro hvr (And.intro (H1.out.2.1.trans (hb2.mono H1.out.2.1.size)) (H1.out.2.2.next hb2))))
      clear hvr hb2 CR fd H1
      have HTE := Lib.hid (fun n (h : n = 10 ^ i) => show (dg n).length ≤ 50 by
        rw [h]; refine (dg_length_le _ _).2 ?_
        have q := ten_lt i (6 * 50) (by omega)
        have r := Nat.lt_of_lt_of_eq q (B_pow6 50).symm
        exact r)
      generalize hlr : (dg (10 ^ i)).length = lr at *
      have HLR := Lib.hid hlr
      clear hlr
      generalize hten : 10 ^ i = ten at *
      clear hten
      go_wp2
      clear fd2
      go_loopw [8] (fun u wr => ∃ (r l : Nat) (p : Option Addr) (c : Nat), u = .slice p l c ∧ Hid (l = (dg r).length) ∧ Hid (rootN x ≤ r) ∧ Hid ((dg r).length ≤ 50) ∧ Hid (IsNat wr u r) ∧ Hid (IsNat wr (.slice pa lx ca) x) ∧ Hid (C2 wr o (.bool false) (.slice pa lx ca)) ∧ Hid (Below w.heap.size w wr))
        (fun u wr => natVal wr u)
      case atStart => exact ⟨ten, lr, pr, cr, rfl, HLR.out.symm, HR.out, HTE.out _ rfl, H2.out.2.1, H2.out.1, H2.out.2.2.2, H2.out.2.2.1⟩
      case round =>
        clear H2 HLR
        obtain ⟨r, l, p, c, rfl, hl, hrr, hr50, hN, hNx, hC, hB⟩ := hrel
        have ct : ∀ W, Below wr.heap.size wr W → Calls Tryd.prog 52 #[.slice p l c, .slice p l c] W fun e W' => ∃ v, e = .returned v ∧ IsNat W' v (r * r) ∧ Fresh W.heap.size v ∧ Below W.heap.size W W' := fun W hW => by
          have := times_any _ _ (dg r) (dg r) W (Nats.next hN.out hW) (Nats.next hN.out hW) (dg_Dig r) (dg_Dig r) (by have := hr50.out; omega) (by have := hr50.out; omega)
          rwa [toN_dg] at this
        have CT := Lib.hid ct
        have HBD := Lib.hid (Below.refl wr.heap.size wr).drew
        have c1 : wr.drew.cell? ⟨o, 1, none⟩ = some (.slice pa lx ca) := hC.out.c1
        clear ct
        by_cases hlt : x < r * r
        · obtain ⟨h0, h1, h2⟩ := root_next hrr.out hlt
          have HCM := Lib.hid (cmpN_gt hlt)
          have HNX := Lib.hid (And.intro h0 (And.intro h1 h2))
          clear h0 h1 h2 hlt
          go_wp2
          go_region_held3 (fun w' => w'.cell? ⟨o, 1, none⟩ = some (.slice pa lx ca)) (first | assumption | (go_keep; done))
            (first
              | (go_at_call 52; refine (CT.out _ HBD.out).mono ?_; rintro e w4 ⟨v, rfl, hv, _, hb4⟩; obtain ⟨pv, cv, rfl⟩ := hv.shape; have e1 : w4.cell? ⟨o, 1, none⟩ = some (.slice pa lx ca) := (hC.out.next (HBD.out.trans (hb4.mono HBD.out.size))).c1; have H4 := Lib.hid (And.intro hv (HBD.out.trans (hb4.mono HBD.out.size))); clear hv hb4)
              | (go_at_call 51; refine (size_any _ _ (r * r) x _ H4.out.1 (hNx.out.next H4.out.2)).mono ?_; rw [HCM.out]; rintro e w' ⟨rfl, kk, rfl⟩; have e2 : (w4.drewN kk).cell? ⟨o, 1, none⟩ = some (.slice pa lx ca) := e1))
          have HB5 := Lib.hid (H4.out.2.trans ((Below.drewK w4.heap.size w4 kk).mono H4.out.2.size))
          have HC5 := hC.out.next HB5.out
          have c5 := HC5.c1
          clear HC5 H4 CT e1 e2 c1
          generalize w4.drewN kk = w5 at *
          go_wp2_with fail
          refine (divide_any _ _ x r _ (hNx.out.next HB5.out) (hN.out.next HB5.out) (by have := HNX.out.1; omega) (by have := HX.out _ rfl; omega) (by have := hr50.out; omega)).mono ?_
          rintro e w6 ⟨q, rm, rfl, hq, hrm, _, _, hb6⟩
          obtain ⟨pq, cq, rfl⟩ := hq.shape
          obtain ⟨prm, crm, rfl⟩ := hrm.shape
          have HB6 := Lib.hid (HB5.out.trans (hb6.mono HB5.out.size))
          have HQ := Lib.hid hq
          have HQL := Lib.hid (fun n (h : n = x / r) => show (dg n).length ≤ 50 by rw [h]; exact Nat.le_trans (dg_len_le (Nat.div_le_self _ _)) (HX.out _ rfl))
          clear hq hrm hb6 HB5 c5
          generalize (dg (x / r)).length = lq at *
          generalize (dg (x % r)).length = lrm at *
          go_wp2_with fail
          have cp := plus_any _ _ (dg r) (dg (x / r)) w6 (Nats.next hN.out HB6.out) HQ.out (dg_Dig _) (dg_Dig _) (by have := hr50.out; omega) (by have := HQL.out _ rfl; omega)
          rw [toN_dg, toN_dg] at cp
          refine cp.mono ?_
          clear cp
          rintro e w7 ⟨vs, rfl, hvs, _, hb7⟩
          obtain ⟨ps, cs, rfl⟩ := hvs.shape
          have hb72 : Below w7.heap.size w7 (w7.alloc (.cells #[.int .i64 2] 3)) := (Below.refl _ _).alloc (Nat.le_refl _) _
          have HB7 := Lib.hid (HB6.out.trans ((hb7.trans (hb72.mono hb7.size)).mono HB6.out.size))
          have HVS := Lib.hid (hvs.next hb72)
          have H2N := Lib.hid (two_isnat w7)
          clear hvs hb7 hb72 HB6 HQ
          have HSL := Lib.hid (fun n (h : n = r + x / r) => show (dg n).length ≤ 200 by rw [h]; exact Nat.le_trans (add_len2 _ _) (by have := HQL.out _ rfl; have := hr50.out; omega))
          generalize (dg (r + x / r)).length = ls at *
          go_wp2_with fail
          generalize w7.alloc (.cells #[.int .i64 2] 3) = w8 at *
          refine (divide_any _ _ (r + x / r) 2 w8 HVS.out H2N.out (by decide) (by have := HSL.out _ rfl; omega) (by rw [dg_one (by decide) (by decide)]; simp)).mono ?_
          rintro e w9 ⟨r', rm', rfl, hr', hrm', _, _, hb9⟩
          obtain ⟨pr', cr', rfl⟩ := hr'.shape
          obtain ⟨prm', crm', rfl⟩ := hrm'.shape
          have HB9 := Lib.hid (HB7.out.trans (hb9.mono HB7.out.size))
          have HR' := Lib.hid hr'
          have HVL := Lib.hid (natVal_eq hN.out)
          have HL' := Lib.hid (show (dg ((r + x / r) / 2)).length ≤ 50 from Nat.le_trans (dg_len_le (Nat.le_of_lt HNX.out.2.2)) hr50.out)
          clear hr' hrm' hb9 HB7 HVS H2N
          go_wp2
          go_roundw
          case rel => exact ⟨(r + x / r) / 2, _, _, _, rfl, rfl, HNX.out.2.1, HL'.out, HR'.out, hNx.out.next HB9.out, hC.out.next HB9.out, hB.out.trans (HB9.out.mono hB.out.size)⟩
          case measure =>
            show natVal w9 _ < natVal wr _
            rw [HVL.out, natVal_eq HR'.out]; exact HNX.out.2.2
        · have he := root_end hrr.out hlt
          obtain ⟨cm, hcm⟩ : ∃ cm, cmpN (r * r) x = cm := ⟨_, rfl⟩
          have hc0 : ¬ 0 < cm := by
            rw [← hcm]; unfold cmpN
            by_cases h1 : r * r < x
            · rw [if_pos h1]; decide
            · rw [if_neg h1, if_neg hlt]; decide
          have HCM := Lib.hid hcm
          have HE := Lib.hid he
          clear hlt he hcm
          go_wp2
          go_region_held3 (fun w' => w'.cell? ⟨o, 1, none⟩ = some (.slice pa lx ca)) (first | assumption | (go_keep; done))
            (first
              | (go_at_call 52; refine (CT.out _ HBD.out).mono ?_; rintro e w4 ⟨v, rfl, hv, _, hb4⟩; obtain ⟨pv, cv, rfl⟩ := hv.shape; have e1 : w4.cell? ⟨o, 1, none⟩ = some (.slice pa lx ca) := (hC.out.next (HBD.out.trans (hb4.mono HBD.out.size))).c1; have H4 := Lib.hid (And.intro hv (HBD.out.trans (hb4.mono HBD.out.size))); clear hv hb4)
              | (go_at_call 51; refine (size_any _ _ (r * r) x _ H4.out.1 (hNx.out.next H4.out.2)).mono ?_; rw [HCM.out]; rintro e w' ⟨rfl, kk, rfl⟩; have e2 : (w4.drewN kk).cell? ⟨o, 1, none⟩ = some (.slice pa lx ca) := e1))
          have HB5 := Lib.hid (H4.out.2.trans ((Below.drewK w4.heap.size w4 kk).mono H4.out.2.size))
          clear H4 CT e1 e2 c1
          generalize w4.drewN kk = w5 at *
          go_wp2_with fail
          refine (write_any false _ r w5 (hN.out.next HB5.out) (by have := hr50.out; omega)).mono ?_
          rw [show sgnZ false r = (r : Int) from rfl]
          rintro e w6 ⟨rfl, hb6⟩
          have HB6 := Lib.hid (hB.out.trans ((HB5.out.trans (hb6.mono HB5.out.size)).mono hB.out.size))
          clear hb6 HB5
          go_wp2
          go_ret2
          exact ⟨by rw [HE.out]; rfl, HB6.out⟩
end Go.Proofs.YtajonpcmgebbbaaDoor.R

/- The walks of the reference's Power, and of Root and Power for every string and exponent. -/
-- needs kingpost/kingpostref01.Power
namespace Go.Proofs.YtajonpcmgebbbaaDoor.R
open Go.RowKit

/-- what Root and Power return -/
noncomputable def rtB (l : List UInt8) : ByteArray := if chk l = 0 then (if isNeg l = true then ⟨#[]⟩ else strB (rootN (natOf (szL l)) : Nat)) else ⟨#[]⟩
def rtE (l : List UInt8) : Int := if chk l = 0 then (if isNeg l = true then 2 else 0) else chk l
def pwB (l : List UInt8) (n : Int) : ByteArray := if chk l = 0 then (if n < 0 ∨ 4096 < n then ⟨#[]⟩ else resB (valOf l ^ n.toNat)) else ⟨#[]⟩
def pwE (l : List UInt8) (n : Int) : Int := if chk l = 0 then (if n < 0 ∨ 4096 < n then 2 else resE (valOf l ^ n.toNat)) else chk l

theorem Root_any (a : ByteArray) (w : World) (ha : a.size ≤ maxLen) :
    Calls Tryd.prog 17 #[.string a] w fun e W' => e = .returned (.tuple #[.string (rtB a.data.toList), .int .i64 (rtE a.data.toList)]) ∧ Below w.heap.size w W' := by
  by_cases hc : chk a.data.toList = 0
  · by_cases hn : isNeg a.data.toList = true
    · have e1 : rtB a.data.toList = ⟨#[]⟩ := by unfold rtB; rw [if_pos hc, if_pos hn]
      have e2 : rtE a.data.toList = 2 := by unfold rtE; rw [if_pos hc, if_pos hn]
      rw [e1, e2]; exact Root_neg a w hc hn
    · have e1 : rtB a.data.toList = strB (rootN (natOf (szL a.data.toList)) : Nat) := by unfold rtB; rw [if_pos hc, if_neg hn]
      have e2 : rtE a.data.toList = 0 := by unfold rtE; rw [if_pos hc, if_neg hn]
      rw [e1, e2]; exact Root_ok a w hc (by simpa using hn)
  · have e1 : rtB a.data.toList = ⟨#[]⟩ := by unfold rtB; rw [if_neg hc]
    have e2 : rtE a.data.toList = chk a.data.toList := by unfold rtE; rw [if_neg hc]
    rw [e1, e2]; exact Root_bad a w ha hc
theorem progRoot_any (a : ByteArray) (w : World) (ha : a.size ≤ maxLen) (ht : Tab w) :
    Calls Tryd.prog 16 #[.string a] w fun e W' => e = .returned (.tuple #[.string (rtB a.data.toList), .int .i64 (rtE a.data.toList)]) ∧ Below w.heap.size w W' := by
  by_cases hc : chk a.data.toList = 0
  · have hs := str_of_chk hc
    have hlim : (valOf a.data.toList).natAbs < lim := by rw [szL_valAbs]; exact nat_lim hc
    by_cases hn : isNeg a.data.toList = true
    · have e1 : rtB a.data.toList = ⟨#[]⟩ := by unfold rtB; rw [if_pos hc, if_pos hn]
      have e2 : rtE a.data.toList = 2 := by unfold rtE; rw [if_pos hc, if_pos hn]
      rw [e1, e2]
      have hneg : valOf a.data.toList < 0 := by
        have := strB_neg (valOf a.data.toList)
        rw [← hs, hn] at this
        exact of_decide_eq_true this.symm
      have := Go.Proofs.YtajonpcmgebbbaaDoor.Root_neg (valOf a.data.toList) w hneg hlim
      rwa [← hs] at this
    · have e1 : rtB a.data.toList = strB (rootN (natOf (szL a.data.toList)) : Nat) := by unfold rtB; rw [if_pos hc, if_neg hn]
      have e2 : rtE a.data.toList = 0 := by unfold rtE; rw [if_pos hc, if_neg hn]
      rw [e1, e2]
      have hpos : 0 ≤ valOf a.data.toList := by
        have := strB_neg (valOf a.data.toList)
        rw [← hs, show isNeg a.data.toList = false by simpa using hn] at this
        have := of_decide_eq_false this.symm
        omega
      have := Root_str (valOf a.data.toList) w hpos hlim ht
      rwa [← hs, szL_valAbs] at this
  · have e1 : rtB a.data.toList = ⟨#[]⟩ := by unfold rtB; rw [if_neg hc]
    have e2 : rtE a.data.toList = chk a.data.toList := by unfold rtE; rw [if_neg hc]
    rw [e1, e2]; exact progRoot_bad a w ha hc

set_option maxHeartbeats 1000000 in
theorem Power_bad (a : ByteArray) (n : Int) (w : World) (ha : a.size ≤ maxLen) (hc : chk a.data.toList ≠ 0) :
    Calls Tryd.prog 19 #[.string a, .int .i64 n] w fun e W' => e = .returned (.tuple #[.string ⟨#[]⟩, .int .i64 (chk a.data.toList)]) ∧ Below w.heap.size w W' := by
  have C := Lib.hid (refCheck_any a w ha)
  generalize chk a.data.toList = c at *
  have hn : (c != 0) = true := by rw [bne_iff_ne]; exact hc
  clear hc
  go_enter Tryd.func19, Tryd.ntmps19
  go_wp2_with fail
  refine C.out.mono ?_
  rintro e w' ⟨rfl, rfl⟩
  go_wp2
  go_ret2
  exact ⟨rfl, Below.refl _ _⟩
set_option maxHeartbeats 1000000 in
theorem progPower_bad (a : ByteArray) (n : Int) (w : World) (ha : a.size ≤ maxLen) (hc : chk a.data.toList ≠ 0) :
    Calls Tryd.prog 18 #[.string a, .int .i64 n] w fun e W' => e = .returned (.tuple #[.string ⟨#[]⟩, .int .i64 (chk a.data.toList)]) ∧ Below w.heap.size w W' := by
  have C := Lib.hid (check_any a w ha)
  generalize chk a.data.toList = c at *
  have hn : (c != 0) = true := by rw [bne_iff_ne]; exact hc
  clear hc
  go_enter Tryd.func18, Tryd.ntmps18
  go_wp2_with fail
  refine C.out.mono ?_
  rintro e w' ⟨rfl, rfl⟩
  go_wp2
  go_ret2
  exact ⟨rfl, Below.refl _ _⟩
set_option maxHeartbeats 1000000 in
theorem Power_range (a : ByteArray) (n : Int) (w : World) (ha : a.size ≤ maxLen) (hc : chk a.data.toList = 0) (hn : n < 0 ∨ 4096 < n) :
    Calls Tryd.prog 19 #[.string a, .int .i64 n] w fun e W' => e = .returned (.tuple #[.string ⟨#[]⟩, .int .i64 2]) ∧ Below w.heap.size w W' := by
  have c := refCheck_any a w ha
  rw [hc] at c
  have C := Lib.hid c
  clear c hc
  by_cases h0 : n < 0
  · go_enter Tryd.func19, Tryd.ntmps19
    go_wp2_with fail
    refine C.out.mono ?_
    rintro e w' ⟨rfl, rfl⟩
    go_wp2
    go_ret2
    exact ⟨rfl, Below.refl _ _⟩
  · have h1 : 4096 < n := by omega
    clear hn
    go_enter Tryd.func19, Tryd.ntmps19
    go_wp2_with fail
    refine C.out.mono ?_
    rintro e w' ⟨rfl, rfl⟩
    go_wp2
    go_ret2
    exact ⟨rfl, Below.refl _ _⟩
set_option maxHeartbeats 1000000 in
theorem progPower_range (a : ByteArray) (n : Int) (w : World) (ha : a.size ≤ maxLen) (hc : chk a.data.toList = 0) (hn : n < 0 ∨ 4096 < n) :
    Calls Tryd.prog 18 #[.string a, .int .i64 n] w fun e W' => e = .returned (.tuple #[.string ⟨#[]⟩, .int .i64 2]) ∧ Below w.heap.size w W' := by
  have c := check_any a w ha
  rw [hc] at c
  have C := Lib.hid c
  clear c hc
  by_cases h0 : n < 0
  · go_enter Tryd.func18, Tryd.ntmps18
    go_wp2_with fail
    refine C.out.mono ?_
    rintro e w' ⟨rfl, rfl⟩
    go_wp2
    go_ret2
    exact ⟨rfl, Below.refl _ _⟩
  · have h1 : 4096 < n := by omega
    clear hn
    go_enter Tryd.func18, Tryd.ntmps18
    go_wp2_with fail
    refine C.out.mono ?_
    rintro e w' ⟨rfl, rfl⟩
    go_wp2
    go_ret2
    exact ⟨rfl, Below.refl _ _⟩

theorem pow_big {X : Int} {i n : Nat} (hi : i ≤ n) (h : 52 < (dg (X ^ i).natAbs).length) : resB (X ^ n) = ⟨#[]⟩ ∧ resE (X ^ n) = 4 := by
  have h1 : ¬ (X ^ i).natAbs < B ^ 52 := fun hc => by have := (dg_length_le _ 52).2 hc; omega
  have h2 : lim ≤ B ^ 52 := by
    have q := lim_pow (6 * 52) (by decide)
    have r := Nat.le_trans q (Nat.le_of_eq (B_pow6 52).symm)
    exact r
  have h3 : (X ^ i).natAbs ≤ (X ^ n).natAbs := by
    rw [Int.natAbs_pow, Int.natAbs_pow]
    rcases Nat.eq_zero_or_pos X.natAbs with h0 | h0
    · exfalso
      rw [Int.natAbs_pow, h0] at h1
      rcases Nat.eq_zero_or_pos i with hi0 | hi0
      · rw [hi0, Nat.pow_zero] at h1; exact h1 (Nat.one_lt_pow (by decide) (by decide))
      · rw [Nat.zero_pow hi0] at h1; exact h1 (Nat.pow_pos B_pos)
    · exact Nat.pow_le_pow_right h0 hi
  have h4 : ¬ (X ^ n).natAbs < lim := by omega
  exact ⟨if_neg h4, if_neg h4⟩

set_option maxRecDepth 100000 in
set_option maxHeartbeats 4000000 in
theorem Power_ok (a : ByteArray) (n : Nat) (w : World) (k1 : chk a.data.toList = 0) (hn : n ≤ 4096) :
    Calls Tryd.prog 19 #[.string a, .int .i64 n] w fun e W' => e = .returned (.tuple #[.string (resB (valOf a.data.toList ^ n)), .int .i64 (resE (valOf a.data.toList ^ n))]) ∧ Below w.heap.size w W' := by
  have s1 := chk_size k1
  have c0 := refCheck_any a w (by unfold maxLen; omega)
  rw [k1] at c0
  have r1 := fun W => read_any a W (by omega) k1
  have n1 := dg_lim' (nat_lim k1)
  rw [val_agg]
  have C := Lib.hid (And.intro c0 r1)
  clear c0 r1 k1
  generalize isNeg a.data.toList = na at *
  generalize natOf (szL a.data.toList) = x at *
  obtain ⟨X, hX⟩ : ∃ X, sgnZ na x = X := ⟨_, rfl⟩
  rw [hX]
  have HX := Lib.hid (And.intro hX n1)
  clear hX n1
  have g0 : ¬ (n : Int) < 0 := by omega
  have g1 : ¬ (4096 : Int) < n := by omega
  go_enter Tryd.func19, Tryd.ntmps19
  go_wp2_with fail
  refine C.out.1.mono ?_
  rintro e w' ⟨rfl, rfl⟩
  go_wp2_with fail
  refine (C.out.2 _).mono ?_
  rintro e w1 ⟨vx, rfl, hvx, _, hb1⟩
  obtain ⟨px, cx, rfl⟩ := hvx.shape
  have hb2 : Below w1.heap.size w1 (w1.alloc (.cells #[.int .i64 1] 3)) := (Below.refl _ _).alloc (Nat.le_refl _) _
  have hone := one_isnat w1
  have HXL := Lib.hid (fun (k : Nat) (h : k = x) => show (dg k).length ≤ 50 by rw [h]; exact HX.out.2)
  generalize hlx : (dg x).length = lx at *
  have HVX := Lib.hid (And.intro hvx hb1)
  have K7 := (C2.new (w1.alloc (.cells #[.int .i64 1] 3)) (.bool na) (.slice px lx cx) 56).old (.cells #[.bool false, .slice (some ⟨w1.heap.size, 0, none⟩) 1 1] 56)
  have K8 := C2.new ((w1.alloc (.cells #[.int .i64 1] 3)).alloc (.cells #[.bool na, .slice px lx cx] 56)) (.bool false) (.slice (some ⟨w1.heap.size, 0, none⟩) 1 1) 56
  rw [World.size_alloc] at K7
  rw [World.size_alloc, World.size_alloc] at K8
  have hb3 : Below (w1.alloc (.cells #[.int .i64 1] 3)).heap.size (w1.alloc (.cells #[.int .i64 1] 3)) (((w1.alloc (.cells #[.int .i64 1] 3)).alloc (.cells #[.bool na, .slice px lx cx] 56)).alloc (.cells #[.bool false, .slice (some ⟨w1.heap.size, 0, none⟩) 1 1] 56)) := ((Below.refl _ _).alloc (Nat.le_refl _) _).alloc (by simp) _
  have H0 := Lib.hid (And.intro K7 (And.intro K8 (And.intro (hone.next hb3) (hb2.trans (hb3.mono (by simp))))))
  clear K7 K8 hb2 hb3 hone hvx hb1 C hlx
  go_wp2
  generalize ((w1.alloc (.cells #[.int .i64 1] 3)).alloc (.cells #[.bool na, .slice px lx cx] 56)).alloc (.cells #[.bool false, .slice (some ⟨w1.heap.size, 0, none⟩) 1 1] 56) = W1 at *
  go_loopw [9] (fun u wr => ∃ (i m l : Nat) (neg : Bool) (p : Option Addr) (c : Nat), u = .int .i64 i ∧ i ≤ n ∧ Hid (l = (dg m).length) ∧ l ≤ 52 ∧ Hid (sgnZ neg m = X ^ i) ∧ Hid (C2 wr (w1.heap.size + 1) (.bool na) (.slice px lx cx)) ∧ Hid (C2 wr (w1.heap.size + 1 + 1) (.bool neg) (.slice p l c)) ∧ Hid (IsNat wr (.slice p l c) m) ∧ Hid (Below w1.heap.size w1 wr))
    (fun u _ => n - (intOf u).toNat)
  case atStart => exact ⟨0, 1, 1, false, _, 1, rfl, Nat.zero_le _, by show _ = _; rw [dg_one (by decide) (by decide)]; rfl, by omega, by show _ = _; rw [Int.pow_zero]; rfl, H0.out.1, H0.out.2.1, H0.out.2.2.1, H0.out.2.2.2⟩
  case round =>
    clear H0
    obtain ⟨i, m, l, neg, p, c, rfl, hin, hl, hl52, hz, hK7, hK8, hN, hB⟩ := hrel
    by_cases hlt : i < n
    · have x0 := hK7.out.c0
      have x1 := hK7.out.c1
      have y0 := hK8.out.c0
      have y1 := hK8.out.c1
      go_wp2_with fail
      clear x0 x1 y0 y1
      refine (mul_any neg na _ _ m x wr hN.out (HVX.out.1.next hB.out) (by have := hl.out; omega) (by have := HXL.out _ rfl; omega)).mono ?_
      rintro e w2 ⟨ng, v, rfl, hv, hzz, hf, hb2⟩
      obtain ⟨pv, cv, rfl⟩ := hv.shape
      have hsz : w1.heap.size + 3 ≤ wr.heap.size := by have := hK8.out.lt; omega
      have hf' := hf.mono hsz
      have K8 := hK8.out.next hb2
      have k0 := K8.c0
      have k1 := K8.c1
      have kf0 := K8.f0
      have kf1 := K8.f1
      have HL := Lib.hid (fun (y : Nat) (h : y = m * x) => show (dg y).length = (dg (m * x)).length by rw [h])
      generalize hlv : (dg (m * x)).length = lv at *
      have HP := Lib.hid (And.intro (K8.put (.bool ng) (.slice pv lv cv)) (And.intro ((hK7.out.next hb2).other (k := w1.heap.size + 1 + 1) (by omega) (.bool ng) (.slice pv lv cv)) (And.intro ((hv.setCell hf' (a := ⟨w1.heap.size + 1 + 1, 0, none⟩) (by show w1.heap.size + 1 + 1 < w1.heap.size + 3; omega) (.bool ng)).setCell hf' (a := ⟨w1.heap.size + 1 + 1, 1, none⟩) (by show w1.heap.size + 1 + 1 < w1.heap.size + 3; omega) (.slice pv lv cv))
        (Below.put2 (hB.out.trans (hb2.mono hB.out.size)) (show w1.heap.size ≤ w1.heap.size + 1 + 1 by omega) (.bool ng) (.slice pv lv cv)))))
      have HZ := Lib.hid (show sgnZ ng (m * x) = X ^ (i + 1) by rw [hzz, hz.out, HX.out.1, Int.pow_succ])
      have HLV := Lib.hid hlv
      clear hv hzz hf hf' hb2 K8 hlv
      by_cases hbig : 52 < lv
      · have hbig' : (52 : Int) < (lv : Int) := by omega
        obtain ⟨o1, o2⟩ := pow_big (X := X) (i := i + 1) (n := n) (by omega) (by rw [← HZ.out, sgn_abs, HLV.out]; exact hbig)
        have HO := Lib.hid (And.intro o1 o2)
        clear o1 o2
        go_wp2
        go_ret2
        exact ⟨by rw [HO.out.1, HO.out.2]; rfl, HVX.out.2.trans (HP.out.2.2.2.mono HVX.out.2.size)⟩
      · have hbig' : ¬ (52 : Int) < (lv : Int) := by omega
        go_wp2
        go_roundw
        case rel => exact ⟨i + 1, m * x, lv, ng, pv, cv, by go_num, by omega, HLV.out.symm, by omega, HZ.out, HP.out.2.1, HP.out.1, HP.out.2.2.1, HP.out.2.2.2⟩
        case measure => simp [intOf]; omega
    · obtain rfl : i = n := by omega
      have y0 := hK8.out.c0
      have y1 := hK8.out.c1
      have HL := Lib.hid (fun (y : Nat) (h : y = m) => show (dg y).length ≤ 10000 by rw [h, ← hl.out]; omega)
      go_wp2_with fail
      clear y0 y1
      refine (result_any neg _ m wr hN.out (HL.out _ rfl)).mono ?_
      rw [hz.out]
      rintro e w2 ⟨rfl, hb2⟩
      have HB := Lib.hid (HVX.out.2.trans ((hB.out.trans (hb2.mono hB.out.size)).mono HVX.out.2.size))
      clear hb2
      go_wp2
      go_ret2
      exact ⟨rfl, HB.out⟩

theorem Power_all (a : ByteArray) (n : Int) (w : World) (ha : a.size ≤ 1000) :
    Calls Tryd.prog 19 #[.string a, .int .i64 n] w fun e W' => e = .returned (.tuple #[.string (pwB a.data.toList n), .int .i64 (pwE a.data.toList n)]) ∧ Below w.heap.size w W' := by
  have hm : a.size ≤ maxLen := by unfold maxLen; omega
  by_cases hc : chk a.data.toList = 0
  · by_cases hn : n < 0 ∨ 4096 < n
    · have e1 : pwB a.data.toList n = ⟨#[]⟩ := by unfold pwB; rw [if_pos hc, if_pos hn]
      have e2 : pwE a.data.toList n = 2 := by unfold pwE; rw [if_pos hc, if_pos hn]
      rw [e1, e2]; exact Power_range a n w hm hc hn
    · have e1 : pwB a.data.toList n = resB (valOf a.data.toList ^ n.toNat) := by unfold pwB; rw [if_pos hc, if_neg hn]
      have e2 : pwE a.data.toList n = resE (valOf a.data.toList ^ n.toNat) := by unfold pwE; rw [if_pos hc, if_neg hn]
      rw [e1, e2]
      have := Power_ok a n.toNat w hc (by omega)
      rwa [show ((n.toNat : Nat) : Int) = n by omega] at this
  · have e1 : pwB a.data.toList n = ⟨#[]⟩ := by unfold pwB; rw [if_neg hc]
    have e2 : pwE a.data.toList n = chk a.data.toList := by unfold pwE; rw [if_neg hc]
    rw [e1, e2]; exact Power_bad a n w hm hc
theorem progPower_all (a : ByteArray) (n : Int) (w : World) (ha : a.size ≤ maxLen) (ht : Tab w) :
    Calls Tryd.prog 18 #[.string a, .int .i64 n] w fun e W' => e = .returned (.tuple #[.string (pwB a.data.toList n), .int .i64 (pwE a.data.toList n)]) ∧ Below w.heap.size w W' := by
  by_cases hc : chk a.data.toList = 0
  · by_cases hn : n < 0 ∨ 4096 < n
    · have e1 : pwB a.data.toList n = ⟨#[]⟩ := by unfold pwB; rw [if_pos hc, if_pos hn]
      have e2 : pwE a.data.toList n = 2 := by unfold pwE; rw [if_pos hc, if_pos hn]
      rw [e1, e2]; exact progPower_range a n w ha hc hn
    · have e1 : pwB a.data.toList n = resB (valOf a.data.toList ^ n.toNat) := by unfold pwB; rw [if_pos hc, if_neg hn]
      have e2 : pwE a.data.toList n = resE (valOf a.data.toList ^ n.toNat) := by unfold pwE; rw [if_pos hc, if_neg hn]
      rw [e1, e2]
      have := Go.Proofs.YtajonpcmgebbbaaDoor.Power_any a n.toNat w hc (by omega) ht
      rwa [show ((n.toNat : Nat) : Int) = n by omega] at this
  · have e1 : pwB a.data.toList n = ⟨#[]⟩ := by unfold pwB; rw [if_neg hc]
    have e2 : pwE a.data.toList n = chk a.data.toList := by unfold pwE; rw [if_neg hc]
    rw [e1, e2]; exact progPower_bad a n w ha hc
end Go.Proofs.YtajonpcmgebbbaaDoor.R

/- The walk of the law IntegerRoots: Root and Power return the results of the reference. -/
-- needs kingpost/kingpostlaw01.IntegerRoots
namespace Go.Proofs.YtajonpcmgebbbaaDoor.R
open Go.RowKit

set_option maxRecDepth 100000 in
set_option maxHeartbeats 2000000 in
theorem IntegerRoots_any (a : ByteArray) (n : Int) (w : World) (ha : a.size ≤ maxLen) (_hn : (Lit.int .i64 n).wf = true) (ht : Tab w) :
    Calls Tryd.prog 4 #[.string a, .int .i64 n] w fun e W' => e = .returned (.bool true) ∧ Below w.heap.size w W' := by
  have hg := Lib.hid (fun B W => great1s a B W ha)
  have oA := fun W (h : Below w.heap.size w W) => awake_any W (ht.next h)
  by_cases hf : (greatS a) = true
  · rw [hf] at hg
    have O := Lib.hid oA
    clear oA ht hf
    go_enter Tryd.func4, Tryd.ntmps4
    go_wp2_with fail
    refine (hg.out _ _ (by go_cell)).mono ?_
    rintro e w' ⟨rfl, rfl⟩
    have B0 := Lib.hid ((Below.refl w.heap.size w).alloc (Nat.le_refl _) (.cells #[.string a] 9))
    generalize w.alloc (.cells #[.string a] 9) = v0 at *
    go_wp2_with fail
    refine (O.out _ B0.out).mono ?_
    rintro e v1 ⟨rfl, b1⟩
    have B1 := Lib.hid (B0.out.trans (b1.mono B0.out.size)); clear b1 B0
    go_wp2
    go_ret
    exact ⟨rfl, B1.out⟩
  · have hf' : (greatS a) = false := by simpa using hf
    rw [hf'] at hg
    have la := great_le hf'
    have o1 := fun W (h : Below w.heap.size w W) => progRoot_any a W ha (ht.next h)
    have o2 := fun W (_ : Below w.heap.size w W) => R.Root_any a W ha
    have o3 := fun W (h : Below w.heap.size w W) => progPower_all a n W ha (ht.next h)
    have o4 := fun W (_ : Below w.heap.size w W) => R.Power_all a n W (by omega)
    generalize rtB a.data.toList = s1 at *
    generalize rtE a.data.toList = n1 at *
    generalize pwB a.data.toList n = s2 at *
    generalize pwE a.data.toList n = n2 at *
    have O := Lib.hid (And.intro o1 (And.intro o2 (And.intro o3 (And.intro o4 oA))))
    clear o1 o2 o3 o4 oA ht hf hf'
    go_enter Tryd.func4, Tryd.ntmps4
    go_wp2_with fail
    refine (hg.out _ _ (by go_cell)).mono ?_
    rintro e w' ⟨rfl, rfl⟩
    have B0 := Lib.hid ((Below.refl w.heap.size w).alloc (Nat.le_refl _) (.cells #[.string a] 9))
    generalize w.alloc (.cells #[.string a] 9) = v0 at *
    go_wp2_with fail
    refine (O.out.1 _ B0.out).mono ?_
    rintro e v1 ⟨rfl, b1⟩
    have B1 := Lib.hid (B0.out.trans (b1.mono B0.out.size)); clear b1 B0
    go_wp2_with fail
    refine (O.out.2.1 _ B1.out).mono ?_
    rintro e v2 ⟨rfl, b2⟩
    have B2 := Lib.hid (B1.out.trans (b2.mono B1.out.size)); clear b2 B1
    go_wp2_with fail
    refine (O.out.2.2.1 _ B2.out).mono ?_
    rintro e v3 ⟨rfl, b3⟩
    have B3 := Lib.hid (B2.out.trans (b3.mono B2.out.size)); clear b3 B2
    go_wp2_with fail
    refine (O.out.2.2.2.1 _ B3.out).mono ?_
    rintro e v4 ⟨rfl, b4⟩
    have B4 := Lib.hid (B3.out.trans (b4.mono B3.out.size)); clear b4 B3
    go_wp2_with fail
    refine (O.out.2.2.2.2 _ B4.out).mono ?_
    rintro e v5 ⟨rfl, b5⟩
    have B5 := Lib.hid (B4.out.trans (b5.mono B4.out.size)); clear b5 B4
    go_wp2
    go_ret
    exact ⟨rfl, B5.out⟩
end Go.Proofs.YtajonpcmgebbbaaDoor.R

/- Proved here: Root and Power return the results of the reference implementation for any string of the examined lengths and any exponent. The law IntegerRoots returns true for every input, and its arguments read behind the call as before. Conditions: the row's own, the listed tables hold their numbers. -/
-- needs kingpost/kingpostlaw01.IntegerRoots
namespace Go.Proofs.YtajonpcmgebbbaaDoor
open Go.ChangeShapes Go.WideShapes Go.ChangeAt Go.RowKit
open Go.ChangeMaps (open_string shut_string)

set_option maxRecDepth 100000 in
theorem integerRoots_lifted (os : Os) (started : os.Started) (H : Type) (enc : TypeId × Value → H) :
    ReturnsInHanded {} Tryd.checked os 4 .any (fun w args => (Rows.integerRootsSpec.pre enc Tryd.prog Tryd.f4 [] false w args ∧ laidMetH Tryd.prog laid3 w) ∧ sizedMet enc Tryd.prog Tryd.f4 (OpenSpec.ofChange Rows.integerRootsSpec) false w args)
      (Rows.integerRootsSpec.post enc Tryd.prog Tryd.f4 false true false false) := by
  refine returnsInHanded_of_change_and (C := Tryd.checked) (X := fun w _ => laidMetH Tryd.prog laid3 w) (fun _ _ _ hh h => h.of_heap hh) own started (by kernel_rfl) Tryd.func4
    (ChangeSpec.witness_shaped (enc := enc) (C := Tryd.checked) (os := os) (X := fun w _ => laidMetH Tryd.prog laid3 w) false (World.doorLaid Tryd.prog 400 os) #[.string ⟨#[]⟩, .int .i64 0] 8 rfl (World.shaped_of_RefB (by kernel_rfl) (by kernel_rfl)) (by kernel_rfl) (by kernel_rfl) (by kernel_rfl) (door_met os _)) ?_
  intro W base args ds gs before hval0 hW _ _ hL _
  have hval : ∀ (j : Nat) t v, Tryd.f4.params[j]? = some t → args[j]? = some v → Value.okWide Tryd.prog W .any base t v := hval0
  have hW' := hW
  obtain ⟨p, q, hA0, hV, rfl, hfz, hnd⟩ := hW
  have hA : DataW.TrodAll enc Tryd.prog W 0 (fun _ => true) true Tryd.f4.params.toList args.toList ds p := hA0
  rw [Tryd.params4] at hA hval
  obtain ⟨v0, v1, d0, d1, p0, p1, rfl, rfl, rfl, h0, h1⟩ := trodAll_two hA
  obtain ⟨rfl, rfl⟩ := trodVars_none hV
  obtain ⟨s0, rfl, rfl, rfl, z0⟩ := open_string Tryd.underlying9 (hval 0 9 v0 rfl rfl) h0
  obtain ⟨s1, rfl, rfl, rfl, z1⟩ := open_int Tryd.underlying3 (hval 1 3 v1 rfl rfl) h1
  clear hA0 hval0
  refine (R.IntegerRoots_any s0 s1 W z0 z1 (tab_of_laid hL)).mono fun e W' ⟨he, bel⟩ => ?_
  subst he
  exact ⟨_, rfl, _, _, _, [], _, [], hW', trodAll_mk1 (shut_bool Tryd.underlying4 _), trodAll_mk2 (shut_string Tryd.underlying9 z0) (shut_int Tryd.underlying3 z1), rfl, bel.frame _, fun h => by cases h⟩

theorem integerRoots_over : Rows.IntegerRootsSaid :=
  OpenClaim.holds_of_wide 4 Tryd.f4 rfl rfl rfl rfl rfl rfl rfl ⟨rfl, rfl, rfl, rfl, rfl⟩ rfl rfl rfl rfl rfl (by kernel_rfl) Tryd.func4 (by kernel_rfl)
    (of_decide_eq_true (by kernel_rfl)) (by unfold Func.isWrapper; first | (rw [if_pos (by decide +kernel)]; kernel_rfl) | (rw [if_neg (by decide +kernel)]; exact ⟨rfl, rfl⟩))
    (fun os started H enc _ => integerRoots_lifted os started H enc)

theorem integerRoots_proved : Rows.IntegerRootsCardSaid :=
  Claim7.holds_tied_plain_at .later [] [.data, .data, .data] true (true, "edf4b39706570ff329a7fb3ffaad88fca0e4d3c492194bb58c0bdbcf3d7cf0f6") false
    integerRoots_over (fun _ h => by cases h) (by kernel_rfl) (fun _ h => by cases h) integerRoots_row_tie rfl ⟨rfl, rfl⟩ (by kernel_rfl) rfl
    (fun f fn hf hfn => by
      obtain rfl : f = 4 := Option.some.inj ((show Tryd.prog.funcNamed "kingpost/kingpostlaw01.IntegerRoots" = some 4 by kernel_rfl).symm.trans hf) |>.symm
      obtain rfl : fn = Tryd.f4 := (Option.some.inj (Tryd.func4.symm.trans hfn)).symm
      exact ⟨by kernel_rfl, fun j t ht => by
        rw [Tryd.params4] at ht
        have hm : t ∈ [9, 3] := by simpa using Array.mem_of_getElem? ht
        have hall : ([9, 3].all fun u => !Tryd.prog.wantsStandIn u) = true := by kernel_rfl
        exact (show Tryd.prog.wantsStandIn t = false by simpa using List.all_eq_true.1 hall t hm)⟩)
    (by kernel_rfl)
#print axioms integerRoots_proved
end Go.Proofs.YtajonpcmgebbbaaDoor

