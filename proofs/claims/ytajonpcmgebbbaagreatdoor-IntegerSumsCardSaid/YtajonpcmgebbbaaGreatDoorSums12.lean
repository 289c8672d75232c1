/- Parts of the proof of the text YtajonpcmgebbbaaGreatDoorSums17. -/
import Derived.Laws.AppendOwnNone
import Derived.Lib.RabinKarpLaws
import Derived.Test.YtajonpcmgebbbaaGreatDoorSums11
/- The walk of the reference's long division: divide. -/
namespace Go.Proofs.YtajonpcmgebbbaaGreatDoor.R
open Go.RowKit

theorem est_ok {b R n : Nat} (hlb : (dg b).length = n + 2) (hR : R < B * b) :
    (((dg R).getD (n + 2) 0 * 1000000 + (dg R).getD (n + 1) 0) * 1000000 + (dg R).getD n 0) / ((dg b).getD (n + 1) 0 * 1000000 + (dg b).getD n 0 + 1) * b ≤ R ∧
    (((dg R).getD (n + 2) 0 * 1000000 + (dg R).getD (n + 1) 0) * 1000000 + (dg R).getD n 0) / ((dg b).getD (n + 1) 0 * 1000000 + (dg b).getD n 0 + 1) < 1000000 := by
  have hb : b < B ^ (n + 2) := (dg_length_le b (n + 2)).1 (by omega)
  have hR2 : R < B ^ (n + 3) := by
    have : B * b ≤ B * B ^ (n + 2) := Nat.mul_le_mul_left _ (Nat.le_of_lt hb)
    rw [Nat.mul_comm B (B ^ (n + 2))] at this
    have e : B ^ (n + 3) = B ^ (n + 2) * B := Nat.pow_succ _ _
    omega
  have e2 : (dg R).getD (n + 2) 0 = R / B ^ n / B / B := by
    rw [dg_getD, Nat.pow_succ, Nat.pow_succ, Nat.mul_assoc, ← Nat.div_div_eq_div_mul, ← Nat.div_div_eq_div_mul]
    refine Nat.mod_eq_of_lt ?_
    rw [Nat.div_lt_iff_lt_mul B_pos, Nat.div_lt_iff_lt_mul B_pos, Nat.div_lt_iff_lt_mul (Nat.pow_pos B_pos)]
    have : B * B * B * B ^ n = B ^ (n + 3) := by rw [Nat.pow_succ, Nat.pow_succ, Nat.pow_succ]; grind
    omega
  have e1 : (dg R).getD (n + 1) 0 = R / B ^ n / B % B := by
    rw [dg_getD, Nat.pow_succ, ← Nat.div_div_eq_div_mul]
  have e0 : (dg R).getD n 0 = R / B ^ n % B := dg_getD R n
  have f1 : (dg b).getD (n + 1) 0 = b / B ^ n / B := by
    rw [dg_getD, Nat.pow_succ, ← Nat.div_div_eq_div_mul]
    refine Nat.mod_eq_of_lt ?_
    rw [Nat.div_lt_iff_lt_mul B_pos, Nat.div_lt_iff_lt_mul (Nat.pow_pos B_pos)]
    have : B * B * B ^ n = B ^ (n + 2) := by rw [Nat.pow_succ, Nat.pow_succ]; grind
    omega
  have f0 : (dg b).getD n 0 = b / B ^ n % B := dg_getD b n
  rw [e2, e1, e0, f1, f0]
  have kX : ∀ X : Nat, (X / B / B * 1000000 + X / B % B) * 1000000 + X % B = X := fun X => by
    show (X / 1000000 / 1000000 * 1000000 + X / 1000000 % 1000000) * 1000000 + X % 1000000 = X
    omega
  have kY : ∀ X : Nat, X / B * 1000000 + X % B = X := fun X => by
    show X / 1000000 * 1000000 + X % 1000000 = X
    omega
  have hX := kX (R / B ^ n)
  have hY := kY (b / B ^ n)
  rw [hX, hY]
  have hlow := Nat.mod_lt b (show 0 < B ^ n from Nat.pow_pos B_pos)
  have hbm := Nat.mod_add_div b (B ^ n)
  have hRd : R / B ^ n * B ^ n ≤ R := Nat.div_mul_le_self _ _
  generalize R / B ^ n = X at *
  generalize b / B ^ n = Y at *
  have hb2 : b ≤ (Y + 1) * B ^ n := by rw [Nat.add_mul, Nat.one_mul, Nat.mul_comm Y]; omega
  have hg : X / (Y + 1) * (Y + 1) ≤ X := Nat.div_mul_le_self _ _
  generalize X / (Y + 1) = g at *
  have h1 : g * b ≤ g * ((Y + 1) * B ^ n) := Nat.mul_le_mul_left _ hb2
  have h2 : g * (Y + 1) * B ^ n ≤ X * B ^ n := Nat.mul_le_mul_right _ hg
  rw [← Nat.mul_assoc] at h1
  have h3 : g * b ≤ R := by omega
  refine ⟨h3, ?_⟩
  apply Decidable.byContradiction
  intro hc
  have : B * b ≤ g * b := Nat.mul_le_mul_right _ (by rw [B_eq]; omega)
  omega

theorem meas_lt {g M : Nat} (h : g + 1 ≤ M) : M - (intOf (.int .i64 ((g : Int) + 1))).toNat < M - (intOf (.int .i64 (g : Int))).toNat := by
  simp only [intOf]; omega
/-- the state of the division: the row of the quotient, and the rest -/
structure DS (w : World) (base gq : Nat) (o : List Nat) (v : Value) (r : Nat) (wr : World) : Prop where
  row : Row wr gq o
  nat : IsNat wr v r
  fr : Fresh (gq + 1) v
  bel : Below base w wr
  hb : base ≤ gq
theorem DS.next {w : World} {base gq : Nat} {o : List Nat} {v : Value} {r : Nat} {wr W : World} (h : DS w base gq o v r wr) (hb : Below wr.heap.size wr W) : DS w base gq o v r W := by
  have hl := h.row.lt
  exact ⟨(hb.block gq hl).trans h.row, h.nat.next hb, h.fr, h.bel.trans (hb.mono (by have := h.hb; omega)), h.hb⟩
theorem DS.rest {w : World} {base gq : Nat} {o : List Nat} {v v' : Value} {r r' : Nat} {wr : World} (h : DS w base gq o v r wr) (h1 : IsNat wr v' r') (h2 : Fresh (gq + 1) v') : DS w base gq o v' r' wr :=
  ⟨h.row, h1, h2, h.bel, h.hb⟩
theorem DS.set {w : World} {base gq : Nat} {o : List Nat} {v : Value} {r : Nat} {wr : World} (h : DS w base gq o v r wr) (i x : Nat) : DS w base gq (o.set i x) v r (wr.setCell ⟨gq, i, none⟩ (.int .i64 (x : Nat))) :=
  ⟨h.row.set i x, h.nat.setCell h.fr (by show gq < gq + 1; omega) _, h.fr, h.bel.setCell (p := ⟨gq, i, none⟩) h.hb _, h.hb⟩

theorem cells64_get {l : List Nat} {j : Nat} {u : Value} (h : (cells64 l)[j]? = some u) : j < l.length ∧ some (Value.int .i64 (l.getD j 0 : Nat)) = some u := by
  have hj : j < l.length := by
    have := (List.getElem?_eq_some_iff.1 h).1
    simpa [cells64] using this
  refine ⟨hj, ?_⟩
  rw [← h]
  simp [cells64, hj]
theorem addr_add (b off j : Nat) : (⟨b, off, none⟩ : Addr).add j = ⟨b, off + j, none⟩ := by unfold Addr.add; split <;> simp_all
theorem cells_src {w : World} {b off n cap : Nat} {l : List Nat} (h : Nats w (.slice (some ⟨b, off, none⟩) n cap) l) : ∀ j u, (cells64 l)[j]? = some u → w.cell? ((⟨b, off, none⟩ : Addr).add j) = some u := by
  intro j u hu
  obtain ⟨hj, e⟩ := cells64_get hu
  obtain ⟨p', cap', he, h1, h2, h3⟩ := h
  obtain ⟨b', off', e', hc⟩ := h3 (by intro e; rw [e] at hj; simp at hj)
  simp only [Value.slice.injEq] at he
  have e2 := he.1.trans e'
  simp only [Option.some.injEq, Addr.mk.injEq, and_true] at e2
  obtain ⟨rfl, rfl⟩ := e2
  rw [← e]
  rw [addr_add]
  exact hc j hj
theorem cells_one (l : List Nat) : ∀ u ∈ cells64 l, u.oneCell' = true := by
  intro u hu
  obtain ⟨x, _, rfl⟩ := List.mem_map.1 hu
  rfl

end Go.Proofs.YtajonpcmgebbbaaGreatDoor.R

/- The walk of the reference's read: the integer that a valid text shows. -/
namespace Go.Proofs.YtajonpcmgebbbaaGreatDoor.R
open Go.RowKit

theorem natOf_chunk (l : List UInt8) (e : Nat) (h : 6 ≤ e) (he : e ≤ l.length) : natOf (l.take e) = natOf (l.take (e - 6)) * 1000000 + natOf ((l.take e).drop (e - 6)) := by
  have h1 : l.take e = l.take (e - 6) ++ (l.take e).drop (e - 6) := by
    conv => lhs; rw [← List.take_append_drop (e - 6) (l.take e)]
    rw [List.take_take, Nat.min_eq_left (by omega)]
  conv => lhs; rw [h1]
  rw [natOf_append, List.length_drop, List.length_take, Nat.min_eq_left he, show e - (e - 6) = 6 by omega]
theorem natOf_chunk_lt (l : List UInt8) (hd : ∀ c ∈ l, isDig c = true) (i e : Nat) (he : e ≤ i + 6) : natOf ((l.take e).drop i) < 1000000 := by
  have h1 := natOf_lt ((l.take e).drop i) (fun c hc => hd c (List.mem_of_mem_take (List.mem_of_mem_drop hc)))
  have h2 : ((l.take e).drop i).length ≤ 6 := by rw [List.length_drop, List.length_take]; omega
  exact Nat.lt_of_lt_of_le h1 (Nat.le_trans (Nat.pow_le_pow_right (by decide) h2) (by decide))
theorem natOf_grow (s : ByteArray) (i k : Nat) (hi : i ≤ k) (hk : k < s.size) : natOf ((s.data.toList.take (k + 1)).drop i) = natOf ((s.data.toList.take k).drop i) * 10 + (s[k].toNat - 48) := by
  rw [take_snoc s k hk, List.drop_append_of_le_length (by rw [List.length_take, size_len]; omega), natOf_snoc]

theorem ownsRow_setCell {w : World} {base : Nat} {e : TypeId} {size : Nat} {v : Value} {n : Nat} {xs : List Value} (h : w.ownsRow base e size v n xs) {p : Addr} (hp : p.block < base) (u : Value) : (w.setCell p u).ownsRow base e size v n xs := by
  obtain ⟨h1, h2⟩ := h
  refine ⟨h1, h2.imp id ?_⟩
  rintro ⟨g, cap, cur, rfl, hb, hh, r⟩
  exact ⟨g, cap, cur, rfl, hb, (Below.heap_setCell _ _ _ _ (by show g ≠ p.block; omega)).trans hh, r⟩

/-- the state of read: the box of the result, K, and that of the integer, behind it -/
structure RS (w : World) (K : Nat) (neg : Bool) (v : Value) (o : List Nat) (wr : World) : Prop where
  r0 : ∃ u, wr.cell? ⟨K, 0, none⟩ = some u
  r1 : ∃ u, wr.cell? ⟨K, 1, none⟩ = some u
  rf : ∀ i, wr.frozen? ⟨K, i, none⟩ = false
  c0 : wr.cell? ⟨K + 1, 0, none⟩ = some (.bool neg)
  c1 : wr.cell? ⟨K + 1, 1, none⟩ = some v
  f : ∀ i, wr.frozen? ⟨K + 1, i, none⟩ = false
  own : wr.ownsRow (K + 2) 3 1 v o.length (cells64 o)
  bel : Below K w wr
  sz : K + 2 ≤ wr.heap.size
theorem RS.new (w : World) (neg : Bool) (t : TypeId) : RS w w.heap.size neg (.slice none 0 0) [] ((w.alloc (.cells #[.bool false, .slice none 0 0] t)).alloc (.cells #[.bool neg, .slice none 0 0] t)) :=
  ⟨⟨.bool false, by go_cell⟩, ⟨.slice none 0 0, by go_cell⟩, fun i => by simp [go_sem], by go_cell, by go_cell, fun i => by simp [go_sem], ⟨rfl, .inl ⟨rfl, rfl⟩⟩, ((Below.refl _ w).alloc (Nat.le_refl _) _).alloc (by simp) _, by simp⟩
/-- behind a limb -/
theorem RS.put {w : World} {K : Nat} {neg : Bool} {v v' : Value} {o : List Nat} {wr w2 : World} {x : Nat} {ob : Obj} (h : RS w K neg v o wr) (ho : w2.ownsRow (K + 2) 3 1 v' (o.length + 1) (cells64 o ++ [.int .i64 (x : Nat)])) (hg : (wr.alloc ob).grownBy w2 v.ownBlock) :
    (w2.cell? ⟨K + 1, 1, none⟩ = some v ∧ w2.frozen? ⟨K + 1, 1, none⟩ = false) ∧ RS w K neg v' (o ++ [x]) (w2.setCell ⟨K + 1, 1, none⟩ v') := by
  have hsz := h.sz
  have hs2 := hg.size
  rw [World.size_alloc] at hs2
  have hb : ∀ k, k < K + 2 → w2.heap[k]? = wr.heap[k]? := fun k hk =>
    (hg.block k (by rw [World.size_alloc]; omega) (fun e => by have := (h.own.lt k e.symm).1; omega)).trans (Below.heap_alloc _ _ _ (by omega))
  have hc : ∀ k i, k < K + 2 → w2.cell? ⟨k, i, none⟩ = wr.cell? ⟨k, i, none⟩ := fun k i hk => World.cell?_of_block (hb k hk)
  have hf : ∀ k i, k < K + 2 → w2.frozen? ⟨k, i, none⟩ = wr.frozen? ⟨k, i, none⟩ := fun k i hk => by unfold World.frozen?; rw [show w2.heap[(⟨k, i, none⟩ : Addr).block]? = _ from hb k hk]
  have hn : ∀ i, (w2.setCell ⟨K + 1, 1, none⟩ v').cell? ⟨K, i, none⟩ = w2.cell? ⟨K, i, none⟩ := fun i => World.cell?_of_block (Below.heap_setCell _ _ _ _ (by show K ≠ K + 1; omega))
  have c1 : w2.cell? ⟨K + 1, 1, none⟩ = some v := by rw [hc _ _ (by omega)]; exact h.c1
  have c0 : w2.cell? ⟨K + 1, 0, none⟩ = some (.bool neg) := by rw [hc _ _ (by omega)]; exact h.c0
  refine ⟨⟨c1, by rw [hf _ _ (by omega)]; exact h.f 1⟩, ?_, ?_, ?_, ?_, World.cell?_setCell_same' _ _ _ (by rw [c1]; rfl), ?_, ?_, ?_, ?_⟩
  · rw [hn, hc _ _ (by omega)]; exact h.r0
  · rw [hn, hc _ _ (by omega)]; exact h.r1
  · intro i; rw [show (w2.setCell ⟨K + 1, 1, none⟩ v').frozen? ⟨K, i, none⟩ = w2.frozen? ⟨K, i, none⟩ by simp [go_sem], hf _ _ (by omega)]; exact h.rf i
  · generalize K + 1 = k at *; go_cell
  · intro i; rw [show (w2.setCell ⟨K + 1, 1, none⟩ v').frozen? ⟨K + 1, i, none⟩ = w2.frozen? ⟨K + 1, i, none⟩ by simp [go_sem], hf _ _ (by omega)]; exact h.f i
  · rw [List.length_append, List.length_singleton, ← cells64_snoc]; exact ownsRow_setCell ho (by show K + 1 < K + 2; omega) _
  · exact ((h.bel.alloc (by omega) ob).grown hg (by rw [World.size_alloc]; omega) (fun k e => by have := (h.own.lt k e).1; omega)).setCell (p := ⟨K + 1, 1, none⟩) (by show K ≤ K + 1; omega) _
  · simp [World.setCell]; omega

set_option maxRecDepth 100000 in
set_option maxHeartbeats 4000000 in
theorem read_any (s : ByteArray) (w : World) (hs : s.size ≤ 1000) (hc : chk s.data.toList = 0) :
    Calls Tryz.prog 30 #[.string s] w fun e W' => ∃ v, e = .returned (.agg #[.bool (isNeg s.data.toList), v]) ∧ IsNat W' v (natOf (szL s.data.toList)) ∧ Fresh w.heap.size v ∧ Below w.heap.size w W' := by
  have hd := chk_dig hc
  have hpos : 0 < s.size := by
    rcases Nat.eq_zero_or_pos s.size with h | h
    · have : s.data.toList = [] := List.eq_nil_of_length_eq_zero (by rw [size_len]; exact h)
      rw [this] at hc; simp [chk, szL, isNeg] at hc
    · exact h
  have hb := Lib.hid (isNeg_pos hpos)
  obtain ⟨ii, hi, hz0, hz1, hz2⟩ := info_parts info_int
  have HI := Lib.hid (And.intro hi (And.intro hz0 (And.intro hz1 hz2))); clear hi hz0 hz1 hz2
  clear hc
  rw [← szB_data] at hd ⊢
  have htl := szB_size s
  by_cases hn : isNeg s.data.toList = true
  · have hz : szB s = s.extract 1 s.size := by unfold szB; rw [if_pos hn]
    have h45 : ((s[0].toNat : Int) == 45) = true := by rw [hb.out]; exact hn
    rw [hn]
    obtain ⟨t, ht⟩ : ∃ t, szB s = t := ⟨_, rfl⟩
    rw [ht] at hd htl ⊢
    rw [ht] at hz
    have HD := Lib.hid hd
    have HZ := Lib.hid hz.symm
    have HSZ := Lib.hid (show s.size - 1 = t.size by rw [hz, ByteArray.size_extract]; omega)
    have htl2 : t.size ≤ 1000 := by omega
    clear hd hz ht hn htl
    go_enter Tryz.func30, Tryz.ntmps30
    go_wp2
    rw [HZ.out, HSZ.out]
    have HS0 := Lib.hid (RS.new w true 53)
    generalize (w.alloc (.cells #[.bool false, .slice none 0 0] 53)).alloc (.cells #[.bool true, .slice none 0 0] 53) = W0 at *
    generalize hk : w.heap.size = K at *
    have HK := Lib.hid hk; clear hk
    go_loopw [4] (fun x wr => ∃ (e : Nat) (z : Int) (v : Value) (o : List Nat), x = .int .i64 z ∧ (z = e ∨ (z ≤ 0 ∧ e = 0)) ∧ e ≤ t.size ∧ o.length ≤ t.size ∧ -6 ≤ z ∧ Hid (z = e → e + 6 * o.length = t.size) ∧ Hid (RS w K true v o wr) ∧ Hid (Dig o) ∧ Hid (natOf t.data.toList = natOf (t.data.toList.take e) * B ^ o.length + toN o))
      (fun x _ => (intOf x).toNat)
    case atStart => exact ⟨t.size, t.size, _, [], rfl, .inl rfl, Nat.le_refl _, Nat.zero_le _, by omega, fun _ => rfl, HS0.out, Dig.nil, by show _ = _; rw [List.take_of_length_le (by rw [size_len]; exact Nat.le_refl _)]; simp [toN]⟩
    case round =>
      clear HS0
      obtain ⟨e, z, v, o, rfl, hz, he, hol, hz6, hlen, hS, hdig, hval⟩ := hrel
      by_cases hpos : 0 < z
      · obtain rfl : z = e := by omega
        clear hz
        have he1 : 0 < e := by omega
        have HL := Lib.hid (hlen.out rfl)
        obtain ⟨i0, hi0⟩ : ∃ i0 : Nat, max (0 : Int) ((e : Int) - 6) = i0 := ⟨e - 6, by omega⟩
        have hie : i0 = e - 6 := by omega
        have hi6 : e ≤ i0 + 6 := by omega
        have hi7 : i0 ≤ e := by omega
        have HIE := Lib.hid hie
        have hnew : Hid (natOf t.data.toList = natOf (t.data.toList.take i0) * B ^ (o.length + 1) + (toN o + B ^ o.length * natOf ((t.data.toList.take e).drop i0))) := by
          show _ = _
          rw [hval.out]
          by_cases h6 : 6 ≤ e
          · rw [natOf_chunk _ e h6 (by rw [size_len]; exact he), ← hie, Nat.pow_succ, Nat.add_mul, Nat.mul_comm (B ^ o.length) B, ← Nat.mul_assoc, B_eq, Nat.mul_comm (natOf ((t.data.toList.take e).drop i0))]
            omega
          · obtain rfl : i0 = 0 := by omega
            rw [List.take_zero, List.drop_zero, show natOf [] = 0 from rfl, Nat.zero_mul, Nat.zero_add, Nat.mul_comm]; omega
        clear hie hval hlen
        have c1 := hS.out.c1
        obtain ⟨wo, hwo⟩ : ∃ wo : World, wo = wr := ⟨_, rfl⟩
        subst hwo
        go_wp2
        clear hi0
        go_loop [5, 6] (fun x y => ∃ i : Nat, i0 ≤ i ∧ i ≤ e ∧ y = .int .i64 i ∧ x = .int .i64 (natOf ((t.data.toList.take i).drop i0) : Nat)) (fun _ y => e - (intOf y).toNat)
        case atStart => exact ⟨i0, Nat.le_refl _, hi7, rfl, by rw [List.drop_eq_nil_of_le (by rw [List.length_take]; omega)]; rfl⟩
        case round =>
          obtain ⟨i, hi1, hi2, rfl, rfl⟩ := hrel
          by_cases hlt : i < e
          · have hn := natOf_chunk_lt t.data.toList HD.out i0 i (by omega)
            have hts : i < t.size := by omega
            have hc := (isDig_iff t[i]).1 (HD.out _ (mem_get t i hts))
            have HSt := Lib.hid (natOf_grow t i0 i hi1 hts)
            generalize natOf ((t.data.toList.take i).drop i0) = n at *
            clear c1
            go_wp2
            go_round
            case rel => exact ⟨i + 1, by omega, by omega, by go_num, by rw [HSt.out]; go_num⟩
            case measure => simp [intOf]; omega
          · obtain rfl : i = e := by omega
            have hn := natOf_chunk_lt t.data.toList HD.out i0 i (by omega)
            generalize natOf ((t.data.toList.take i).drop i0) = n at *
            have HO := Lib.hid hS.out.own
            have hsz := hS.out.sz
            clear hlt
            go_wp2_with (at_builtin; refine wpList_append_own _ rfl _ _ 51 rfl (K + 2) 3 ii (.int .i64 0) 1 8 Tryz.underlying51 HI.out.1 HI.out.2.1 HI.out.2.2.1 HI.out.2.2.2 rfl (by decide) _ _ _ rfl (HO.out.alloc _) ⟨wo.heap.size, 0, none⟩ 1 1 [.int .i64 (n : Nat)] rfl rfl (cell_one_new _ _ _) (by simp [Value.oneCell']) (by unfold maxLen; omega) (by omega) (by simp; omega) ?_; intro v' w2 hown' hgrow _; obtain ⟨g', cp', rfl⟩ := ownsRow_succ hown'; obtain ⟨⟨p1, p2⟩, p3⟩ := hS.out.put hown' hgrow; have HP := Lib.hid p3; clear hown' hgrow p3 c1)
            go_roundw
            case rel =>
              have h1 := HL.out
              have h2 := HIE.out
              refine ⟨i0, (i : Int) - 6, _, o ++ [n], rfl, by omega, by omega, by rw [List.length_append, List.length_singleton]; omega, by omega, fun e => by rw [List.length_append, List.length_singleton]; omega, HP.out, hdig.out.append (Dig.one hn), ?_⟩
              rw [List.length_append, List.length_singleton, toN_snoc]; exact hnew
            case measure => simp [intOf]; omega
      · have hz0 : e = 0 := by omega
        have hpos' : ¬ (0 < z) := hpos
        have hv : toN o = natOf t.data.toList := by have := hval.out; rw [hz0, List.take_zero, show natOf [] = 0 from rfl, Nat.zero_mul, Nat.zero_add] at this; exact this.symm
        have hN := nats_of_owns hS.out.own
        have ct := trim_any _ _ _ hN hdig.out
        rw [hv] at ct
        have CT := Lib.hid ct
        have c1 := hS.out.c1
        clear hlen hval hN ct hv hz
        go_wp2_with fail
        refine CT.out.mono ?_
        clear CT c1
        rintro e' w' ⟨rfl, v', rfl, hN', ho'⟩
        obtain ⟨⟨u0, r0⟩, ⟨u1, r1⟩, rf, c0, c1, f, own, bel, sz⟩ := hS.out
        have hf : Fresh (K + 2) v' := fun k hk => by rw [ho'] at hk; exact (own.lt k hk).1
        have rf0 := rf 0
        have rf1 := rf 1
        have f1 := f 1
        have HF := Lib.hid (And.intro hN' (And.intro hf bel))
        obtain ⟨p', cap', rfl⟩ := IsNat.shape hN'
        generalize hlv : (dg (natOf t.data.toList)).length = lv at *
        have HLV := Lib.hid hlv
        clear rf f own hf bel hN' ho' hlv hS
        have d1 : (wr.setCell ⟨K + 1, 1, none⟩ (.slice p' lv cap')).cell? ⟨K + 1, 1, none⟩ = some (.slice p' lv cap') := World.cell?_setCell_same' _ _ _ (by rw [c1]; rfl)
        have d0 : (wr.setCell ⟨K + 1, 1, none⟩ (.slice p' lv cap')).cell? ⟨K + 1, 0, none⟩ = some (.bool true) := by generalize K + 1 = k at *; go_cell
        have s0 : (wr.setCell ⟨K + 1, 1, none⟩ (.slice p' lv cap')).cell? ⟨K, 0, none⟩ = some u0 := (World.cell?_of_block (Below.heap_setCell _ _ _ _ (by show K ≠ K + 1; omega))).trans r0
        have s1 : (wr.setCell ⟨K + 1, 1, none⟩ (.slice p' lv cap')).cell? ⟨K, 1, none⟩ = some u1 := (World.cell?_of_block (Below.heap_setCell _ _ _ _ (by show K ≠ K + 1; omega))).trans r1
        obtain ⟨b0, b1⟩ := two_back s0 s1 (.bool true) (.slice p' lv cap')
        clear r0 r1
        go_wp2
        refine bodyPost_ret (v := .agg #[.bool true, .slice p' lv cap']) (by simp [results, Tryz.results30, go_sem, b0, b1]) rfl ?_
        obtain ⟨hN', hf, bel⟩ := HF.out
        refine ⟨_, rfl, ?_, hf.mono (by have := HK.out; omega), ?_⟩
        · exact ((hN'.setCell hf (by show K + 1 < K + 2; omega) _).setCell hf (by show K < K + 2; omega) _).setCell hf (by show K < K + 2; omega) _
        · rw [HK.out]
          exact ((bel.setCell (p := ⟨K + 1, 1, none⟩) (by show K ≤ K + 1; omega) _).setCell (p := ⟨K, 0, none⟩) (Nat.le_refl _) _).setCell (p := ⟨K, 1, none⟩) (Nat.le_refl _) _
  · have hn' : isNeg s.data.toList = false := by simpa using hn
    have hz : szB s = s := by unfold szB; rw [if_neg hn]
    have h45 : ((s[0].toNat : Int) == 45) = false := by rw [hb.out]; exact hn'
    rw [hn']
    rw [hz] at hd htl ⊢
    have HD := Lib.hid hd
    clear hd hz hn hn' htl
    obtain ⟨t, ht⟩ : ∃ t, t = s := ⟨_, rfl⟩
    subst ht
    have htl2 : t.size ≤ 1000 := hs
    go_enter Tryz.func30, Tryz.ntmps30
    go_wp2
    have HS0 := Lib.hid (RS.new w false 53)
    generalize (w.alloc (.cells #[.bool false, .slice none 0 0] 53)).alloc (.cells #[.bool false, .slice none 0 0] 53) = W0 at *
    generalize hk : w.heap.size = K at *
    have HK := Lib.hid hk; clear hk
    go_loopw [4] (fun x wr => ∃ (e : Nat) (z : Int) (v : Value) (o : List Nat), x = .int .i64 z ∧ (z = e ∨ (z ≤ 0 ∧ e = 0)) ∧ e ≤ t.size ∧ o.length ≤ t.size ∧ -6 ≤ z ∧ Hid (z = e → e + 6 * o.length = t.size) ∧ Hid (RS w K false v o wr) ∧ Hid (Dig o) ∧ Hid (natOf t.data.toList = natOf (t.data.toList.take e) * B ^ o.length + toN o))
      (fun x _ => (intOf x).toNat)
    case atStart => exact ⟨t.size, t.size, _, [], rfl, .inl rfl, Nat.le_refl _, Nat.zero_le _, by omega, fun _ => rfl, HS0.out, Dig.nil, by show _ = _; rw [List.take_of_length_le (by rw [size_len]; exact Nat.le_refl _)]; simp [toN]⟩
    case round =>
      clear HS0
      obtain ⟨e, z, v, o, rfl, hz, he, hol, hz6, hlen, hS, hdig, hval⟩ := hrel
      by_cases hpos : 0 < z
      · obtain rfl : z = e := by omega
        clear hz
        have he1 : 0 < e := by omega
        have HL := Lib.hid (hlen.out rfl)
        obtain ⟨i0, hi0⟩ : ∃ i0 : Nat, max (0 : Int) ((e : Int) - 6) = i0 := ⟨e - 6, by omega⟩
        have hie : i0 = e - 6 := by omega
        have hi6 : e ≤ i0 + 6 := by omega
        have hi7 : i0 ≤ e := by omega
        have HIE := Lib.hid hie
        have hnew : Hid (natOf t.data.toList = natOf (t.data.toList.take i0) * B ^ (o.length + 1) + (toN o + B ^ o.length * natOf ((t.data.toList.take e).drop i0))) := by
          show _ = _
          rw [hval.out]
          by_cases h6 : 6 ≤ e
          · rw [natOf_chunk _ e h6 (by rw [size_len]; exact he), ← hie, Nat.pow_succ, Nat.add_mul, Nat.mul_comm (B ^ o.length) B, ← Nat.mul_assoc, B_eq, Nat.mul_comm (natOf ((t.data.toList.take e).drop i0))]
            omega
          · obtain rfl : i0 = 0 := by omega
            rw [List.take_zero, List.drop_zero, show natOf [] = 0 from rfl, Nat.zero_mul, Nat.zero_add, Nat.mul_comm]; omega
        clear hie hval hlen
        have c1 := hS.out.c1
        obtain ⟨wo, hwo⟩ : ∃ wo : World, wo = wr := ⟨_, rfl⟩
        subst hwo
        go_wp2
        clear hi0
        go_loop [5, 6] (fun x y => ∃ i : Nat, i0 ≤ i ∧ i ≤ e ∧ y = .int .i64 i ∧ x = .int .i64 (natOf ((t.data.toList.take i).drop i0) : Nat)) (fun _ y => e - (intOf y).toNat)
        case atStart => exact ⟨i0, Nat.le_refl _, hi7, rfl, by rw [List.drop_eq_nil_of_le (by rw [List.length_take]; omega)]; rfl⟩
        case round =>
          obtain ⟨i, hi1, hi2, rfl, rfl⟩ := hrel
          by_cases hlt : i < e
          · have hn := natOf_chunk_lt t.data.toList HD.out i0 i (by omega)
            have hts : i < t.size := by omega
            have hc := (isDig_iff t[i]).1 (HD.out _ (mem_get t i hts))
            have HSt := Lib.hid (natOf_grow t i0 i hi1 hts)
            generalize natOf ((t.data.toList.take i).drop i0) = n at *
            clear c1
            go_wp2
            go_round
            case rel => exact ⟨i + 1, by omega, by omega, by go_num, by rw [HSt.out]; go_num⟩
            case measure => simp [intOf]; omega
          · obtain rfl : i = e := by omega
            have hn := natOf_chunk_lt t.data.toList HD.out i0 i (by omega)
            generalize natOf ((t.data.toList.take i).drop i0) = n at *
            have HO := Lib.hid hS.out.own
            have hsz := hS.out.sz
            clear hlt
            go_wp2_with (at_builtin; refine wpList_append_own _ rfl _ _ 51 rfl (K + 2) 3 ii (.int .i64 0) 1 8 Tryz.underlying51 HI.out.1 HI.out.2.1 HI.out.2.2.1 HI.out.2.2.2 rfl (by decide) _ _ _ rfl (HO.out.alloc _) ⟨wo.heap.size, 0, none⟩ 1 1 [.int .i64 (n : Nat)] rfl rfl (cell_one_new _ _ _) (by simp [Value.oneCell']) (by unfold maxLen; omega) (by omega) (by simp; omega) ?_; intro v' w2 hown' hgrow _; obtain ⟨g', cp', rfl⟩ := ownsRow_succ hown'; obtain ⟨⟨p1, p2⟩, p3⟩ := hS.out.put hown' hgrow; have HP := Lib.hid p3; clear hown' hgrow p3 c1)
            go_roundw
            case rel =>
              have h1 := HL.out
              have h2 := HIE.out
              refine ⟨i0, (i : Int) - 6, _, o ++ [n], rfl, by omega, by omega, by rw [List.length_append, List.length_singleton]; omega, by omega, fun e => by rw [List.length_append, List.length_singleton]; omega, HP.out, hdig.out.append (Dig.one hn), ?_⟩
              rw [List.length_append, List.length_singleton, toN_snoc]; exact hnew
            case measure => simp [intOf]; omega
      · have hz0 : e = 0 := by omega
        have hpos' : ¬ (0 < z) := hpos
        have hv : toN o = natOf t.data.toList := by have := hval.out; rw [hz0, List.take_zero, show natOf [] = 0 from rfl, Nat.zero_mul, Nat.zero_add] at this; exact this.symm
        have hN := nats_of_owns hS.out.own
        have ct := trim_any _ _ _ hN hdig.out
        rw [hv] at ct
        have CT := Lib.hid ct
        have c1 := hS.out.c1
        clear hlen hval hN ct hv hz
        go_wp2_with fail
        refine CT.out.mono ?_
        clear CT c1
        rintro e' w' ⟨rfl, v', rfl, hN', ho'⟩
        obtain ⟨⟨u0, r0⟩, ⟨u1, r1⟩, rf, c0, c1, f, own, bel, sz⟩ := hS.out
        have hf : Fresh (K + 2) v' := fun k hk => by rw [ho'] at hk; exact (own.lt k hk).1
        have rf0 := rf 0
        have rf1 := rf 1
        have f1 := f 1
        have HF := Lib.hid (And.intro hN' (And.intro hf bel))
        obtain ⟨p', cap', rfl⟩ := IsNat.shape hN'
        generalize hlv : (dg (natOf t.data.toList)).length = lv at *
        have HLV := Lib.hid hlv
        clear rf f own hf bel hN' ho' hlv hS
        have d1 : (wr.setCell ⟨K + 1, 1, none⟩ (.slice p' lv cap')).cell? ⟨K + 1, 1, none⟩ = some (.slice p' lv cap') := World.cell?_setCell_same' _ _ _ (by rw [c1]; rfl)
        have d0 : (wr.setCell ⟨K + 1, 1, none⟩ (.slice p' lv cap')).cell? ⟨K + 1, 0, none⟩ = some (.bool false) := by generalize K + 1 = k at *; go_cell
        have s0 : (wr.setCell ⟨K + 1, 1, none⟩ (.slice p' lv cap')).cell? ⟨K, 0, none⟩ = some u0 := (World.cell?_of_block (Below.heap_setCell _ _ _ _ (by show K ≠ K + 1; omega))).trans r0
        have s1 : (wr.setCell ⟨K + 1, 1, none⟩ (.slice p' lv cap')).cell? ⟨K, 1, none⟩ = some u1 := (World.cell?_of_block (Below.heap_setCell _ _ _ _ (by show K ≠ K + 1; omega))).trans r1
        obtain ⟨b0, b1⟩ := two_back s0 s1 (.bool false) (.slice p' lv cap')
        clear r0 r1
        go_wp2
        refine bodyPost_ret (v := .agg #[.bool false, .slice p' lv cap']) (by simp [results, Tryz.results30, go_sem, b0, b1]) rfl ?_
        obtain ⟨hN', hf, bel⟩ := HF.out
        refine ⟨_, rfl, ?_, hf.mono (by have := HK.out; omega), ?_⟩
        · exact ((hN'.setCell hf (by show K + 1 < K + 2; omega) _).setCell hf (by show K < K + 2; omega) _).setCell hf (by show K < K + 2; omega) _
        · rw [HK.out]
          exact ((bel.setCell (p := ⟨K + 1, 1, none⟩) (by show K ≤ K + 1; omega) _).setCell (p := ⟨K, 0, none⟩) (Nat.le_refl _) _).setCell (p := ⟨K, 1, none⟩) (Nat.le_refl _) _
end Go.Proofs.YtajonpcmgebbbaaGreatDoor.R

/- The walk of Power. -/
namespace Go.Proofs.YtajonpcmgebbbaaGreatDoor
open Go.RowKit

theorem lt_bitLen (n : Nat) (h : n < 2 ^ 64) : n < 2 ^ Lib.bitLen n := by
  by_cases h0 : n = 0
  · subst h0; decide
  · exact (Lib.bitLenAux_bounds 64 n h h0).2.2
theorem bits_one (i : Nat) (hi : i < 9223372036854775808) : bits BinOp.and IntKind.i64 (i : Int) 1 = ((i % 2 : Nat) : Int) := Go.Proofs.and_one i hi
theorem bit_true {n k : Nat} (h : n / 2 ^ k % 2 = 1) (hn : n ≤ 4096) : (bits BinOp.and IntKind.i64 ((n : Int) / 2 ^ k) 1 == 1) = true := by
  have e : ((n : Int) / 2 ^ k) = ((n / 2 ^ k : Nat) : Int) := by simp
  have := Nat.div_le_self n (2 ^ k)
  rw [e, bits_one _ (by omega), h]; rfl
theorem bit_false {n k : Nat} (h : n / 2 ^ k % 2 = 0) (hn : n ≤ 4096) : (bits BinOp.and IntKind.i64 ((n : Int) / 2 ^ k) 1 == 1) = false := by
  have e : ((n : Int) / 2 ^ k) = ((n / 2 ^ k : Nat) : Int) := by simp
  have := Nat.div_le_self n (2 ^ k)
  rw [e, bits_one _ (by omega), h]; rfl
theorem half_step (n k : Nat) : n / 2 ^ k = 2 * (n / 2 ^ (k + 1)) + n / 2 ^ k % 2 := by
  rw [Nat.pow_succ, ← Nat.div_div_eq_div_mul]; omega
theorem pow_big {x : Int} {m n : Nat} (hm : m ≤ n) (h : ¬ (x ^ m).natAbs < lim) : ¬ (x ^ n).natAbs < lim := by
  rw [Int.natAbs_pow] at h ⊢
  have hl := lim_big
  by_cases h0 : x.natAbs = 0
  · rw [h0] at h
    exfalso; apply h
    cases m with
    | zero => rw [Nat.pow_zero]; omega
    | succ m => rw [Nat.zero_pow (by omega)]; omega
  · intro h'
    have := Nat.pow_le_pow_right (n := x.natAbs) (by omega) hm
    omega

theorem Nats.setCell_ne {w : World} {v : Value} {l : List Nat} {c : Nat} (h : Nats w v l) (hf : l = [] ∨ v.ownBlock ≠ some c) {o : Nat} (u : Value) : Nats (w.setCell ⟨c, o, none⟩ u) v l := by
  obtain ⟨p, cap, rfl, h1, h2, h3⟩ := h
  refine ⟨p, cap, rfl, h1, h2, fun hne => ?_⟩
  obtain ⟨b, off, e, hc⟩ := h3 hne
  refine ⟨b, off, e, fun i hi => ?_⟩
  have hb : b ≠ c := fun hb => (hf.resolve_left hne) (by rw [e, hb]; rfl)
  exact (World.cell?_of_block (Below.heap_setCell _ _ _ _ (by show b ≠ c; exact hb))).trans (hc i hi)
theorem IsNat.setCell_ne {w : World} {v : Value} {n c : Nat} (h : IsNat w v n) (hf : dg n = [] ∨ v.ownBlock ≠ some c) {o : Nat} (u : Value) : IsNat (w.setCell ⟨c, o, none⟩ u) v n := Nats.setCell_ne h hf u
theorem IsNat.far {w : World} {v : Value} {n c : Nat} (h : IsNat w v n) (hc : w.heap.size ≤ c) : dg n = [] ∨ v.ownBlock ≠ some c := by
  obtain ⟨p, cap, rfl, h1, h2, h3⟩ := h
  by_cases hne : dg n = []
  · exact .inl hne
  · obtain ⟨b, off, e, hcell⟩ := h3 hne
    have hl := World.block_lt_of_cell? w _ (hcell 0 (List.length_pos_iff.2 hne))
    refine .inr fun h => ?_
    rw [e] at h
    have h2 : b = c := by simpa [Value.ownBlock] using h
    have hl2 : b < w.heap.size := hl
    omega
theorem Fresh.far {v : Value} {b c n : Nat} (h : Fresh b v) (hc : c < b) : dg n = [] ∨ v.ownBlock ≠ some c := .inr fun e => by have := h c e; omega

theorem sgn_abs (ng : Bool) (m : Nat) : (sgnZ ng m).natAbs = m := by unfold sgnZ; cases ng <;> simp
theorem dg_mul3 {a b c : Nat} (ha : a < lim) (hb : b < lim) (hc : c < lim) : (dg (a * b * c)).length ≤ 102 := by
  rw [dg_length_le, show B ^ 102 = B ^ 34 * B ^ 34 * B ^ 34 by rw [← Nat.pow_add, ← Nat.pow_add]]
  have h1 := lim_B
  exact Nat.mul_lt_mul'' (Nat.mul_lt_mul'' (Nat.lt_of_lt_of_le ha h1) (Nat.lt_of_lt_of_le hb h1)) (Nat.lt_of_lt_of_le hc h1)
/-- the two boxes of Power: x (never written) and the power -/
structure PS (w : World) (X : Nat) (nx : Bool) (vx : Value) (a : Nat) (ng : Bool) (vp : Value) (m : Nat) (wr : World) : Prop where
  c0 : wr.cell? ⟨X, 0, none⟩ = some (.bool nx)
  c1 : wr.cell? ⟨X, 1, none⟩ = some vx
  d0 : wr.cell? ⟨X + 1, 0, none⟩ = some (.bool ng)
  d1 : wr.cell? ⟨X + 1, 1, none⟩ = some vp
  f0 : wr.frozen? ⟨X + 1, 0, none⟩ = false
  f1 : wr.frozen? ⟨X + 1, 1, none⟩ = false
  size : X + 1 < wr.heap.size
  lo : w.heap.size ≤ X
  bel : Below w.heap.size w wr
  hx : IsNat wr vx a
  nx : dg a = [] ∨ vx.ownBlock ≠ some (X + 1)
  hp : IsNat wr vp m
theorem PS.next {w : World} {X : Nat} {nx : Bool} {vx : Value} {a : Nat} {ng : Bool} {vp : Value} {m : Nat} {wr W : World} (h : PS w X nx vx a ng vp m wr) (b : Below wr.heap.size wr W) : PS w X nx vx a ng vp m W :=
  ⟨(b.cell (p := ⟨X, 0, none⟩) (by have := h.size; show X < _; omega)).trans h.c0, (b.cell (p := ⟨X, 1, none⟩) (by have := h.size; show X < _; omega)).trans h.c1,
    (b.cell (p := ⟨X + 1, 0, none⟩) h.size).trans h.d0, (b.cell (p := ⟨X + 1, 1, none⟩) h.size).trans h.d1,
    (b.frozen (p := ⟨X + 1, 0, none⟩) h.size).trans h.f0, (b.frozen (p := ⟨X + 1, 1, none⟩) h.size).trans h.f1, Nat.lt_of_lt_of_le h.size b.size, h.lo,
    h.bel.trans (b.mono h.bel.size), h.hx.next b, h.nx, h.hp.next b⟩
theorem PS.put {w : World} {X : Nat} {nx : Bool} {vx : Value} {a : Nat} {ng : Bool} {vp : Value} {m : Nat} {wr : World} (h : PS w X nx vx a ng vp m wr) (ng' : Bool) {vq : Value} {m' : Nat} (hq : IsNat wr vq m') (nq : dg m' = [] ∨ vq.ownBlock ≠ some (X + 1)) :
    PS w X nx vx a ng' vq m' ((wr.setCell ⟨X + 1, 0, none⟩ (.bool ng')).setCell ⟨X + 1, 1, none⟩ vq) := by
  obtain ⟨e0, e1⟩ := two_back h.d0 h.d1 (.bool ng') vq
  have hk : ∀ (W : World) (o o' : Nat) (u : Value), (W.setCell ⟨X + 1, o, none⟩ u).cell? ⟨X, o', none⟩ = W.cell? ⟨X, o', none⟩ := fun W o o' u => World.cell?_of_block (Below.heap_setCell _ _ _ _ (by show X ≠ X + 1; omega))
  refine ⟨by rw [hk, hk]; exact h.c0, by rw [hk, hk]; exact h.c1, ?_, e1, ?_, ?_, by have := h.size; simpa [World.setCell] using this, h.lo,
    (h.bel.setCell (p := ⟨X + 1, 0, none⟩) (by have := h.lo; show _ ≤ X + 1; omega) _).setCell (p := ⟨X + 1, 1, none⟩) (by have := h.lo; show _ ≤ X + 1; omega) _, (h.hx.setCell_ne h.nx _).setCell_ne h.nx _, h.nx, (hq.setCell_ne nq _).setCell_ne nq _⟩
  · go_cell
  · simp [go_sem, h.f0]
  · simp [go_sem, h.f1]

theorem lim_one : 1 < lim := by have := lim_big; omega
end Go.Proofs.YtajonpcmgebbbaaGreatDoor

/- The walks of over and of Divide. -/
namespace Go.Proofs.YtajonpcmgebbbaaGreatDoor
open Go.RowKit

theorem sgn_zero (n : Bool) : sgnZ n 0 = 0 := by unfold sgnZ; cases n <;> rfl
/-- floors, by the sizes -/
theorem floor_sgn (na nb : Bool) (a b : Nat) (h0 : b ≠ 0) :
    ((na = nb ∨ a % b = 0) → (sgnZ na a).fdiv (sgnZ nb b) = sgnZ (na != nb) (a / b) ∧ (sgnZ na a).fmod (sgnZ nb b) = sgnZ nb (a % b)) ∧
    ((na ≠ nb ∧ a % b ≠ 0) → (sgnZ na a).fdiv (sgnZ nb b) = sgnZ (na != nb) (a / b + 1) ∧ (sgnZ na a).fmod (sgnZ nb b) = sgnZ nb (b - a % b)) := by
  have hm := Nat.mod_lt a (show 0 < b by omega)
  have he := Nat.div_add_mod a b
  have he' : ((b : Int) * ((a / b : Nat) : Int)) + ((a % b : Nat) : Int) = (a : Int) := by rw [← Int.natCast_mul, ← Int.natCast_add, he]
  generalize a / b = q at *
  generalize a % b = r at *
  generalize hbq : (b : Int) * (q : Int) = P at *
  have hsub : ((b - r : Nat) : Int) = (b : Int) - r := by omega
  constructor
  · intro h
    cases na <;> cases nb <;> simp only [sgnZ, if_true, if_false, bne_self_eq_false, Bool.false_eq_true, Bool.true_bne, Bool.false_bne, Bool.not_false, Bool.not_true] <;>
      refine fdiv_unique ?_ (by omega) (fun h1 => ?_) (fun h1 => ?_) <;>
      (try simp only [Int.neg_mul, Int.mul_neg, hbq]) <;> (try simp only [reduceCtorEq, false_or] at h) <;> omega
  · rintro ⟨h, hr⟩
    cases na <;> cases nb <;> simp only [ne_eq, not_true_eq_false] at h <;> simp only [sgnZ, if_true, if_false, bne_self_eq_false, Bool.false_eq_true, Bool.true_bne, Bool.false_bne, Bool.not_false, Bool.not_true] <;>
      refine fdiv_unique ?_ (by omega) (fun h1 => ?_) (fun h1 => ?_) <;>
      (try simp only [Int.neg_mul, Int.mul_neg, hbq, Int.natCast_add, Int.mul_add, hsub]) <;> omega

/-- what the four boxes of over hold: x, y and the two results -/
structure Box4 (w : World) (k : Nat) (x0 x1 y0 y1 : Value) (W : World) : Prop where
  c1 : W.cell? ⟨k, 0, none⟩ = some x0
  c2 : W.cell? ⟨k, 1, none⟩ = some x1
  c3 : W.cell? ⟨k + 1, 0, none⟩ = some y0
  c4 : W.cell? ⟨k + 1, 1, none⟩ = some y1
  c5 : W.cell? ⟨k + 1 + 1, 0, none⟩ = some (.bool false)
  c6 : W.cell? ⟨k + 1 + 1, 1, none⟩ = some (.slice none 0 0)
  c7 : W.cell? ⟨k + 1 + 1 + 1, 0, none⟩ = some (.bool false)
  c8 : W.cell? ⟨k + 1 + 1 + 1, 1, none⟩ = some (.slice none 0 0)
  f5 : W.frozen? ⟨k + 1 + 1, 0, none⟩ = false
  f6 : W.frozen? ⟨k + 1 + 1, 1, none⟩ = false
  f7 : W.frozen? ⟨k + 1 + 1 + 1, 0, none⟩ = false
  f8 : W.frozen? ⟨k + 1 + 1 + 1, 1, none⟩ = false
  size : k + 4 ≤ W.heap.size
  below : Below k w W
theorem box4_new (w : World) (x0 x1 y0 y1 : Value) (t : TypeId) :
    Box4 w w.heap.size x0 x1 y0 y1 ((((w.alloc (.cells #[x0, x1] t)).alloc (.cells #[y0, y1] t)).alloc (.cells #[.bool false, .slice none 0 0] t)).alloc (.cells #[.bool false, .slice none 0 0] t)) :=
  ⟨by go_cell, by go_cell, by go_cell, by go_cell, by go_cell, by go_cell, by go_cell, by go_cell, by simp [go_sem], by simp [go_sem], by simp [go_sem], by simp [go_sem], by simp,
    ((((Below.refl _ w).alloc (Nat.le_refl _) _).alloc (by simp) _).alloc (by simp; omega) _).alloc (by simp; omega) _⟩
theorem Box4.next {w : World} {k : Nat} {x0 x1 y0 y1 : Value} {W W' : World} (h : Box4 w k x0 x1 y0 y1 W) (hb : Below W.heap.size W W') : Box4 w k x0 x1 y0 y1 W' := by
  have hs := h.size
  exact ⟨(hb.cell (p := ⟨k, 0, none⟩) (by show k < _; omega)).trans h.c1, (hb.cell (p := ⟨k, 1, none⟩) (by show k < _; omega)).trans h.c2,
    (hb.cell (p := ⟨k + 1, 0, none⟩) (by show k + 1 < _; omega)).trans h.c3, (hb.cell (p := ⟨k + 1, 1, none⟩) (by show k + 1 < _; omega)).trans h.c4,
    (hb.cell (p := ⟨k + 1 + 1, 0, none⟩) (by show k + 1 + 1 < _; omega)).trans h.c5, (hb.cell (p := ⟨k + 1 + 1, 1, none⟩) (by show k + 1 + 1 < _; omega)).trans h.c6,
    (hb.cell (p := ⟨k + 1 + 1 + 1, 0, none⟩) (by show k + 1 + 1 + 1 < _; omega)).trans h.c7, (hb.cell (p := ⟨k + 1 + 1 + 1, 1, none⟩) (by show k + 1 + 1 + 1 < _; omega)).trans h.c8,
    (hb.frozen (p := ⟨k + 1 + 1, 0, none⟩) (by show k + 1 + 1 < _; omega)).trans h.f5, (hb.frozen (p := ⟨k + 1 + 1, 1, none⟩) (by show k + 1 + 1 < _; omega)).trans h.f6,
    (hb.frozen (p := ⟨k + 1 + 1 + 1, 0, none⟩) (by show k + 1 + 1 + 1 < _; omega)).trans h.f7, (hb.frozen (p := ⟨k + 1 + 1 + 1, 1, none⟩) (by show k + 1 + 1 + 1 < _; omega)).trans h.f8,
    Nat.le_trans h.size hb.size, h.below.trans (hb.mono (by omega))⟩

/-- both results stored -/
def put4 (w : World) (k : Nat) (A B C D : Value) : World :=
  (((w.setCell ⟨k + 1 + 1, 0, none⟩ A).setCell ⟨k + 1 + 1, 1, none⟩ B).setCell ⟨k + 1 + 1 + 1, 0, none⟩ C).setCell ⟨k + 1 + 1 + 1, 1, none⟩ D
theorem put4_back {w : World} {k : Nat} {x0 x1 x2 x3 : Value} (c5 : w.cell? ⟨k + 1 + 1, 0, none⟩ = some x0) (c6 : w.cell? ⟨k + 1 + 1, 1, none⟩ = some x1) (c7 : w.cell? ⟨k + 1 + 1 + 1, 0, none⟩ = some x2) (c8 : w.cell? ⟨k + 1 + 1 + 1, 1, none⟩ = some x3)
    (A B C D : Value) : (put4 w k A B C D).cell? ⟨k + 1 + 1, 0, none⟩ = some A ∧ (put4 w k A B C D).cell? ⟨k + 1 + 1, 1, none⟩ = some B ∧ (put4 w k A B C D).cell? ⟨k + 1 + 1 + 1, 0, none⟩ = some C ∧ (put4 w k A B C D).cell? ⟨k + 1 + 1 + 1, 1, none⟩ = some D := by
  unfold put4
  obtain ⟨b1, b2⟩ := two_back c5 c6 A B
  have b3 : ((w.setCell ⟨k + 1 + 1, 0, none⟩ A).setCell ⟨k + 1 + 1, 1, none⟩ B).cell? ⟨k + 1 + 1, 0, none⟩ = some A := by
    refine (?_ : _ = _).trans b1
    go_cell
  obtain ⟨d1, d2⟩ := two_back (far2 (x := A) (y := B) (j := k + 1 + 1) (by omega) c7) (far2 (x := A) (y := B) (j := k + 1 + 1) (by omega) c8) C D
  refine ⟨far2 (by omega) b3, far2 (by omega) b2, ?_, d2⟩
  refine (?_ : _ = _).trans d1
  go_cell
theorem put4_nats {w : World} {k : Nat} {v : Value} {n : Nat} (h : IsNat w v n) (hf : dg n = [] ∨ (v.ownBlock ≠ some (k + 1 + 1) ∧ v.ownBlock ≠ some (k + 1 + 1 + 1))) (A B C D : Value) : IsNat (put4 w k A B C D) v n := by
  have h1 : dg n = [] ∨ v.ownBlock ≠ some (k + 1 + 1) := hf.imp_right And.left
  have h2 : dg n = [] ∨ v.ownBlock ≠ some (k + 1 + 1 + 1) := hf.imp_right And.right
  exact (((h.setCell_ne h1 _).setCell_ne h1 _).setCell_ne h2 _).setCell_ne h2 _
theorem put4_below {w a : World} {k B0 : Nat} (h : Below B0 a w) (hB : B0 ≤ k) (A B C D : Value) : Below B0 a (put4 w k A B C D) :=
  (((h.setCell (p := ⟨k + 1 + 1, 0, none⟩) (by show B0 ≤ k + 1 + 1; omega) _).setCell (p := ⟨k + 1 + 1, 1, none⟩) (by show B0 ≤ k + 1 + 1; omega) _).setCell (p := ⟨k + 1 + 1 + 1, 0, none⟩) (by show B0 ≤ k + 1 + 1 + 1; omega) _).setCell (p := ⟨k + 1 + 1 + 1, 1, none⟩) (by show B0 ≤ k + 1 + 1 + 1; omega) _

set_option maxHeartbeats 2000000 in
theorem over_same (nb : Bool) (va vb : Value) (a b : Nat) (w : World) (ha : IsNat w va a) (hb : IsNat w vb b) (h0 : b ≠ 0) (hla : (dg a).length ≤ 900000) :
    Calls Tryz.prog 37 #[.agg #[.bool nb, va], .agg #[.bool nb, vb]] w fun e W' => ∃ x y, e = .returned (.tuple #[.agg #[.bool false, x], .agg #[.bool nb, y]]) ∧ IsNat W' x (a / b) ∧ IsNat W' y (a % b) ∧ Below w.heap.size w W' := by
  have cd := fun W (h : Below w.heap.size w W) => divide_any va vb a b W (ha.next h) (hb.next h) h0 hla
  obtain ⟨pa, ca, rfl⟩ := ha.shape
  obtain ⟨pb, cb, rfl⟩ := hb.shape
  have CD := Lib.hid cd
  clear cd
  have HH := Lib.hid (And.intro ha (And.intro hb (And.intro h0 hla)))
  clear ha hb hla h0
  generalize (dg a).length = la at *
  generalize (dg b).length = lb at *
  go_enter Tryz.func37, Tryz.ntmps37
  go_wp2_with fail
  have hbx := box4_new w (.bool nb) (.slice pa la ca) (.bool nb) (.slice pb lb cb) 43
  generalize ((((w.alloc (.cells #[.bool nb, .slice pa la ca] 43)).alloc (.cells #[.bool nb, .slice pb lb cb] 43)).alloc (.cells #[.bool false, .slice none 0 0] 43)).alloc (.cells #[.bool false, .slice none 0 0] 43)) = W0 at *
  generalize hk : w.heap.size = k at *
  have HK := Lib.hid hk; clear hk
  have HBX := Lib.hid hbx
  clear hbx
  refine (CD.out W0 HBX.out.below).mono ?_
  rintro e w1 ⟨q, r, rfl, hq, hr, hqf, hrf, hB⟩
  have HB1 := Lib.hid (HBX.out.next hB)
  obtain ⟨pq, cq, rfl⟩ := hq.shape
  obtain ⟨pr, cr, rfl⟩ := hr.shape
  have HV := Lib.hid (And.intro hq (And.intro hr (And.intro hqf (And.intro hrf hB))))
  clear hq hr hqf hrf hB CD
  obtain ⟨c1, c2, c3, c4, c5, c6, c7, c8, f5, f6, f7, f8, hsz, _⟩ := HB1.out
  have hg : (nb == nb) = true := by simp
  generalize (dg (a / b)).length = lq at *
  generalize (dg (a % b)).length = lr at *
  go_wp2
  go_region_held3 (fun w' => w'.cell? ⟨k, 0, none⟩ = some (.bool nb) ∧ w'.cell? ⟨k + 1, 0, none⟩ = some (.bool nb) ∧ w'.frozen? ⟨k + 1 + 1, 0, none⟩ = false ∧ w'.frozen? ⟨k + 1 + 1, 1, none⟩ = false ∧ w'.frozen? ⟨k + 1 + 1 + 1, 0, none⟩ = false ∧ w'.frozen? ⟨k + 1 + 1 + 1, 1, none⟩ = false)
    (first | (go_keep; done) | ((try dsimp only); refine ⟨?_, ?_, ?_, ?_, ?_, ?_⟩ <;> (first | (exact far2 (by omega) (by assumption)) | (go_keep; done) | (simp [go_sem, *]; done))))
    (fail)
  have hback := put4_back c5 c6 c7 c8 (.bool false) (.slice pq lq cq) (.bool nb) (.slice pr lr cr)
  have HP := Lib.hid (And.intro (fun v n h hf => @put4_nats w1 k v n h hf (.bool false) (.slice pq lq cq) (.bool nb) (.slice pr lr cr)) (put4_below (k := k) HB1.out.below (Nat.le_refl _) (.bool false) (.slice pq lq cq) (.bool nb) (.slice pr lr cr)))
  unfold put4 at hback HP
  generalize (((w1.setCell ⟨k + 1 + 1, 0, none⟩ (.bool false)).setCell ⟨k + 1 + 1, 1, none⟩ (.slice pq lq cq)).setCell ⟨k + 1 + 1 + 1, 0, none⟩ (.bool nb)).setCell ⟨k + 1 + 1 + 1, 1, none⟩ (.slice pr lr cr) = W4 at *
  obtain ⟨g5, g6, g7, g8⟩ := hback
  clear c1 c2 c3 c4 c5 c6 c7 c8 f5 f6 f7 f8
  go_wp2
  refine bodyPost_ret (v := .tuple #[.agg #[.bool false, .slice pq lq cq], .agg #[.bool nb, .slice pr lr cr]]) (by simp [results, Tryz.results37, go_sem, g5, g6, g7, g8]) rfl ?_
  obtain ⟨hq, hr, hqf, hrf, hB⟩ := HV.out
  obtain ⟨ha, hb, h0, hla⟩ := HH.out
  have hs := HBX.out.size
  have fb : ∀ v, Fresh W0.heap.size v → v.ownBlock ≠ some (k + 1 + 1) ∧ v.ownBlock ≠ some (k + 1 + 1 + 1) := fun v hv => ⟨fun e => by have := hv _ e; omega, fun e => by have := hv _ e; omega⟩
  refine ⟨_, _, rfl, HP.out.1 _ _ hq (.inr (fb _ hqf)), ?_, by rw [HK.out]; exact HP.out.2.drew⟩
  rcases hrf with hrf | ⟨hlt, e⟩
  · exact HP.out.1 _ _ hr (.inr (fb _ hrf))
  · rw [Nat.mod_eq_of_lt hlt, e]
    exact ha.next (by rw [HK.out]; exact HP.out.2.drew)
end Go.Proofs.YtajonpcmgebbbaaGreatDoor

