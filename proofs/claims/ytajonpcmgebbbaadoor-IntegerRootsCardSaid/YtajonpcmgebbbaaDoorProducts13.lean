/- Parts of the proof of the text YtajonpcmgebbbaaDoorProducts23. -/
import Derived.Lib.RabinKarpLaws
import Derived.Test.YtajonpcmgebbbaaDoorProducts12
/- The walk of the reference's read: the integer that a valid text shows. -/
namespace Go.Proofs.YtajonpcmgebbbaaDoor.R
open Go.RowKit

theorem natOf_chunk (l : List UInt8) (e : Nat) (h : 6 ≤ e) (he : e ≤ l.length) : natOf (l.take e) = natOf (l.take (e - 6)) * 1000000 + natOf ((l.take e).drop (e - 6)) := by
  have h1 : l.take e = l.take (e - 6) ++ (l.take e).drop (e - 6) := by
    conv => lhs; rw [← List.take_append_drop (e - 6) (l.take e)]
    rw [List.take_take, Nat.min_eq_left (by omega)]
  conv => lhs; rw [h1]
  rw [natOf_append, List.length_drop, List.length_take, Nat.min_eq_left he, show e - (e - 6) = 6 by omega]
theorem natOf_chunk_lt (l : List UInt8) (hd : ∀ c ∈ l, isDig c = true) (i e : Nat) (he : e ≤ i + 6) : natOf ((l.take e).drop i) < 1000000 := by
  have h1 := natOf_lt ((l.take e).drop i) (fun c hc => hd c (List.mem_of_mem_take (List.mem_of_mem_drop hc)))
  have h2 : ((l.take e).drop i).length ≤ 6 := by rw [List.length_drop, List.length_take]; omega
  exact Nat.lt_of_lt_of_le h1 (Nat.le_trans (Nat.pow_le_pow_right (by decide) h2) (by decide))
theorem natOf_grow (s : ByteArray) (i k : Nat) (hi : i ≤ k) (hk : k < s.size) : natOf ((s.data.toList.take (k + 1)).drop i) = natOf ((s.data.toList.take k).drop i) * 10 + (s[k].toNat - 48) := by
  rw [take_snoc s k hk, List.drop_append_of_le_length (by rw [List.length_take, size_len]; omega), natOf_snoc]

theorem ownsRow_setCell {w : World} {base : Nat} {e : TypeId} {size : Nat} {v : Value} {n : Nat} {xs : List Value} (h : w.ownsRow base e size v n xs) {p : Addr} (hp : p.block < base) (u : Value) : (w.setCell p u).ownsRow base e size v n xs := by
  obtain ⟨h1, h2⟩ := h
  refine ⟨h1, h2.imp id ?_⟩
  rintro ⟨g, cap, cur, rfl, hb, hh, r⟩
  exact ⟨g, cap, cur, rfl, hb, (Below.heap_setCell _ _ _ _ (by show g ≠ p.block; omega)).trans hh, r⟩

/-- the state of read: the box of the result, K, and that of the integer, behind it -/
structure RS (w : World) (K : Nat) (neg : Bool) (v : Value) (o : List Nat) (wr : World) : Prop where
  r0 : ∃ u, wr.cell? ⟨K, 0, none⟩ = some u
  r1 : ∃ u, wr.cell? ⟨K, 1, none⟩ = some u
  rf : ∀ i, wr.frozen? ⟨K, i, none⟩ = false
  c0 : wr.cell? ⟨K + 1, 0, none⟩ = some (.bool neg)
  c1 : wr.cell? ⟨K + 1, 1, none⟩ = some v
  f : ∀ i, wr.frozen? ⟨K + 1, i, none⟩ = false
  own : wr.ownsRow (K + 2) 3 1 v o.length (cells64 o)
  bel : Below K w wr
  sz : K + 2 ≤ wr.heap.size
theorem RS.new (w : World) (neg : Bool) (t : TypeId) : RS w w.heap.size neg (.slice none 0 0) [] ((w.alloc (.cells #[.bool false, .slice none 0 0] t)).alloc (.cells #[.bool neg, .slice none 0 0] t)) :=
  ⟨⟨.bool false, by go_cell⟩, ⟨.slice none 0 0, by go_cell⟩, fun i => by simp [go_sem], by go_cell, by go_cell, fun i => by simp [go_sem], ⟨rfl, .inl ⟨rfl, rfl⟩⟩, ((Below.refl _ w).alloc (Nat.le_refl _) _).alloc (by simp) _, by simp⟩
/-- behind a limb -/
theorem RS.put {w : World} {K : Nat} {neg : Bool} {v v' : Value} {o : List Nat} {wr w2 : World} {x : Nat} {ob : Obj} (h : RS w K neg v o wr) (ho : w2.ownsRow (K + 2) 3 1 v' (o.length + 1) (cells64 o ++ [.int .i64 (x : Nat)])) (hg : (wr.alloc ob).grownBy w2 v.ownBlock) :
    (w2.cell? ⟨K + 1, 1, none⟩ = some v ∧ w2.frozen? ⟨K + 1, 1, none⟩ = false) ∧ RS w K neg v' (o ++ [x]) (w2.setCell ⟨K + 1, 1, none⟩ v') := by
  have hsz := h.sz
  have hs2 := hg.size
  rw [World.size_alloc] at hs2
  have hb : ∀ k, k < K + 2 → w2.heap[k]? = wr.heap[k]? := fun k hk =>
    (hg.block k (by rw [World.size_alloc]; omega) (fun e => by have := (h.own.lt k e.symm).1; omega)).trans (Below.heap_alloc _ _ _ (by omega))
  have hc : ∀ k i, k < K + 2 → w2.cell? ⟨k, i, none⟩ = wr.cell? ⟨k, i, none⟩ := fun k i hk => World.cell?_of_block (hb k hk)
  have hf : ∀ k i, k < K + 2 → w2.frozen? ⟨k, i, none⟩ = wr.frozen? ⟨k, i, none⟩ := fun k i hk => by unfold World.frozen?; rw [show w2.heap[(⟨k, i, none⟩ : Addr).block]? = _ from hb k hk]
  have hn : ∀ i, (w2.setCell ⟨K + 1, 1, none⟩ v').cell? ⟨K, i, none⟩ = w2.cell? ⟨K, i, none⟩ := fun i => World.cell?_of_block (Below.heap_setCell _ _ _ _ (by show K ≠ K + 1; omega))
  have c1 : w2.cell? ⟨K + 1, 1, none⟩ = some v := by rw [hc _ _ (by omega)]; exact h.c1
  have c0 : w2.cell? ⟨K + 1, 0, none⟩ = some (.bool neg) := by rw [hc _ _ (by omega)]; exact h.c0
  refine ⟨⟨c1, by rw [hf _ _ (by omega)]; exact h.f 1⟩, ?_, ?_, ?_, ?_, World.cell?_setCell_same' _ _ _ (by rw [c1]; rfl), ?_, ?_, ?_, ?_⟩
  · rw [hn, hc _ _ (by omega)]; exact h.r0
  · rw [hn, hc _ _ (by omega)]; exact h.r1
  · intro i; rw [show (w2.setCell ⟨K + 1, 1, none⟩ v').frozen? ⟨K, i, none⟩ = w2.frozen? ⟨K, i, none⟩ by simp [go_sem], hf _ _ (by omega)]; exact h.rf i
  · generalize K + 1 = k at *; go_cell
  · intro i; rw [show (w2.setCell ⟨K + 1, 1, none⟩ v').frozen? ⟨K + 1, i, none⟩ = w2.frozen? ⟨K + 1, i, none⟩ by simp [go_sem], hf _ _ (by omega)]; exact h.f i
  · rw [List.length_append, List.length_singleton, ← cells64_snoc]; exact ownsRow_setCell ho (by show K + 1 < K + 2; omega) _
  · exact ((h.bel.alloc (by omega) ob).grown hg (by rw [World.size_alloc]; omega) (fun k e => by have := (h.own.lt k e).1; omega)).setCell (p := ⟨K + 1, 1, none⟩) (by show K ≤ K + 1; omega) _
  · simp [World.setCell]; omega

set_option maxRecDepth 100000 in
set_option maxHeartbeats 4000000 in
theorem read_any (s : ByteArray) (w : World) (hs : s.size ≤ 1000) (hc : chk s.data.toList = 0) :
    Calls Tryd.prog 36 #[.string s] w fun e W' => ∃ v, e = .returned (.agg #[.bool (isNeg s.data.toList), v]) ∧ IsNat W' v (natOf (szL s.data.toList)) ∧ Fresh w.heap.size v ∧ Below w.heap.size w W' := by
  have hd := chk_dig hc
  have hpos : 0 < s.size := by
    rcases Nat.eq_zero_or_pos s.size with h | h
    · have : s.data.toList = [] := List.eq_nil_of_length_eq_zero (by rw [size_len]; exact h)
      rw [this] at hc; simp [chk, szL, isNeg] at hc
    · exact h
  have hb := Lib.hid (isNeg_pos hpos)
  obtain ⟨ii, hi, hz0, hz1, hz2⟩ := info_parts info_int
  have HI := Lib.hid (And.intro hi (And.intro hz0 (And.intro hz1 hz2))); clear hi hz0 hz1 hz2
  clear hc
  rw [← szB_data] at hd ⊢
  have htl := szB_size s
  by_cases hn : isNeg s.data.toList = true
  · have hz : szB s = s.extract 1 s.size := by unfold szB; rw [if_pos hn]
    have h45 : ((s[0].toNat : Int) == 45) = true := by rw [hb.out]; exact hn
    rw [hn]
    obtain ⟨t, ht⟩ : ∃ t, szB s = t := ⟨_, rfl⟩
    rw [ht] at hd htl ⊢
    rw [ht] at hz
    have HD := Lib.hid hd
    have HZ := Lib.hid hz.symm
    have HSZ := Lib.hid (show s.size - 1 = t.size by rw [hz, ByteArray.size_extract]; omega)
    have htl2 : t.size ≤ 1000 := by omega
    clear hd hz ht hn htl
    go_enter Tryd.func36, Tryd.ntmps36
    go_wp2
    rw [HZ.out, HSZ.out]
    have HS0 := Lib.hid (RS.new w true 56)
    generalize (w.alloc (.cells #[.bool false, .slice none 0 0] 56)).alloc (.cells #[.bool true, .slice none 0 0] 56) = W0 at *
    generalize hk : w.heap.size = K at *
    have HK := Lib.hid hk; clear hk
    go_loopw [4] (fun x wr => ∃ (e : Nat) (z : Int) (v : Value) (o : List Nat), x = .int .i64 z ∧ (z = e ∨ (z ≤ 0 ∧ e = 0)) ∧ e ≤ t.size ∧ o.length ≤ t.size ∧ -6 ≤ z ∧ Hid (z = e → e + 6 * o.length = t.size) ∧ Hid (RS w K true v o wr) ∧ Hid (Dig o) ∧ Hid (natOf t.data.toList = natOf (t.data.toList.take e) * B ^ o.length + toN o))
      (fun x _ => (intOf x).toNat)
    case atStart => exact ⟨t.size, t.size, _, [], rfl, .inl rfl, Nat.le_refl _, Nat.zero_le _, by omega, fun _ => rfl, HS0.out, Dig.nil, by show _ = _; rw [List.take_of_length_le (by rw [size_len]; exact Nat.le_refl _)]; simp [toN]⟩
    case round =>
      clear HS0
      obtain ⟨e, z, v, o, rfl, hz, he, hol, hz6, hlen, hS, hdig, hval⟩ := hrel
      by_cases hpos : 0 < z
      · obtain rfl : z = e := by omega
        clear hz
        have he1 : 0 < e := by omega
        have HL := Lib.hid (hlen.out rfl)
        obtain ⟨i0, hi0⟩ : ∃ i0 : Nat, max (0 : Int) ((e : Int) - 6) = i0 := ⟨e - 6, by omega⟩
        have hie : i0 = e - 6 := by omega
        have hi6 : e ≤ i0 + 6 := by omega
        have hi7 : i0 ≤ e := by omega
        have HIE := Lib.hid hie
        have hnew : Hid (natOf t.data.toList = natOf (t.data.toList.take i0) * B ^ (o.length + 1) + (toN o + B ^ o.length * natOf ((t.data.toList.take e).drop i0))) := by
          show _ = _
          rw [hval.out]
          by_cases h6 : 6 ≤ e
          · rw [natOf_chunk _ e h6 (by rw [size_len]; exact he), ← hie, Nat.pow_succ, Nat.add_mul, Nat.mul_comm (B ^ o.length) B, ← Nat.mul_assoc, B_eq, Nat.mul_comm (natOf ((t.data.toList.take e).drop i0))]
            omega
          · obtain rfl : i0 = 0 := by omega
            rw [List.take_zero, List.drop_zero, show natOf [] = 0 from rfl, Nat.zero_mul, Nat.zero_add, Nat.mul_comm]; omega
        clear hie hval hlen
        have c1 := hS.out.c1
        obtain ⟨wo, hwo⟩ : ∃ wo : World, wo = wr := ⟨_, rfl⟩
        subst hwo
        go_wp2
        clear hi0
        go_loop [5, 6] (fun x y => ∃ i : Nat, i0 ≤ i ∧ i ≤ e ∧ y = .int .i64 i ∧ x = .int .i64 (natOf ((t.data.toList.take i).drop i0) : Nat)) (fun _ y => e - (intOf y).toNat)
        case atStart => exact ⟨i0, Nat.le_refl _, hi7, rfl, by rw [List.drop_eq_nil_of_le (by rw [List.length_take]; omega)]; rfl⟩
        case round =>
          obtain ⟨i, hi1, hi2, rfl, rfl⟩ := hrel
          by_cases hlt : i < e
          · have hn := natOf_chunk_lt t.data.toList HD.out i0 i (by omega)
            have hts : i < t.size := by omega
            have hc := (isDig_iff t[i]).1 (HD.out _ (mem_get t i hts))
            have HSt := Lib.hid (natOf_grow t i0 i hi1 hts)
            generalize natOf ((t.data.toList.take i).drop i0) = n at *
            clear c1
            go_wp2
            go_round
            case rel => exact ⟨i + 1, by omega, by omega, by go_num, by rw [HSt.out]; go_num⟩
            case measure => simp [intOf]; omega
          · obtain rfl : i = e := by omega
            have hn := natOf_chunk_lt t.data.toList HD.out i0 i (by omega)
            generalize natOf ((t.data.toList.take i).drop i0) = n at *
            have HO := Lib.hid hS.out.own
            have hsz := hS.out.sz
            clear hlt
            go_wp2_with (at_builtin; refine wpList_append_own _ rfl _ _ 54 rfl (K + 2) 3 ii (.int .i64 0) 1 8 Tryd.underlying54 HI.out.1 HI.out.2.1 HI.out.2.2.1 HI.out.2.2.2 rfl (by decide) _ _ _ rfl (HO.out.alloc _) ⟨wo.heap.size, 0, none⟩ 1 1 [.int .i64 (n : Nat)] rfl rfl (cell_one_new _ _ _) (by simp [Value.oneCell']) (by unfold maxLen; omega) (by omega) (by simp; omega) ?_; intro v' w2 hown' hgrow _; obtain ⟨g', cp', rfl⟩ := ownsRow_succ hown'; obtain ⟨⟨p1, p2⟩, p3⟩ := hS.out.put hown' hgrow; have HP := Lib.hid p3; clear hown' hgrow p3 c1)
            go_roundw
            case rel =>
              have h1 := HL.out
              have h2 := HIE.out
              refine ⟨i0, (i : Int) - 6, _, o ++ [n], rfl, by omega, by omega, by rw [List.length_append, List.length_singleton]; omega, by omega, fun e => by rw [List.length_append, List.length_singleton]; omega, HP.out, hdig.out.append (Dig.one hn), ?_⟩
              rw [List.length_append, List.length_singleton, toN_snoc]; exact hnew
            case measure => simp [intOf]; omega
      · have hz0 : e = 0 := by omega
        have hpos' : ¬ (0 < z) := hpos
        have hv : toN o = natOf t.data.toList := by have := hval.out; rw [hz0, List.take_zero, show natOf [] = 0 from rfl, Nat.zero_mul, Nat.zero_add] at this; exact this.symm
        have hN := nats_of_owns hS.out.own
        have ct := trim_any _ _ _ hN hdig.out
        rw [hv] at ct
        have CT := Lib.hid ct
        have c1 := hS.out.c1
        clear hlen hval hN ct hv hz
        go_wp2_with fail
        refine CT.out.mono ?_
        clear CT c1
        rintro e' w' ⟨rfl, v', rfl, hN', ho'⟩
        obtain ⟨⟨u0, r0⟩, ⟨u1, r1⟩, rf, c0, c1, f, own, bel, sz⟩ := hS.out
        have hf : Fresh (K + 2) v' := fun k hk => by rw [ho'] at hk; exact (own.lt k hk).1
        have rf0 := rf 0
        have rf1 := rf 1
        have f1 := f 1
        have HF := Lib.hid (And.intro hN' (And.intro hf bel))
        obtain ⟨p', cap', rfl⟩ := IsNat.shape hN'
        generalize hlv : (dg (natOf t.data.toList)).length = lv at *
        have HLV := Lib.hid hlv
        clear rf f own hf bel hN' ho' hlv hS
        have d1 : (wr.setCell ⟨K + 1, 1, none⟩ (.slice p' lv cap')).cell? ⟨K + 1, 1, none⟩ = some (.slice p' lv cap') := World.cell?_setCell_same' _ _ _ (by rw [c1]; rfl)
        have d0 : (wr.setCell ⟨K + 1, 1, none⟩ (.slice p' lv cap')).cell? ⟨K + 1, 0, none⟩ = some (.bool true) := by generalize K + 1 = k at *; go_cell
        have s0 : (wr.setCell ⟨K + 1, 1, none⟩ (.slice p' lv cap')).cell? ⟨K, 0, none⟩ = some u0 := (World.cell?_of_block (Below.heap_setCell _ _ _ _ (by show K ≠ K + 1; omega))).trans r0
        have s1 : (wr.setCell ⟨K + 1, 1, none⟩ (.slice p' lv cap')).cell? ⟨K, 1, none⟩ = some u1 := (World.cell?_of_block (Below.heap_setCell _ _ _ _ (by show K ≠ K + 1; omega))).trans r1
        obtain ⟨b0, b1⟩ := two_back s0 s1 (.bool true) (.slice p' lv cap')
        clear r0 r1
        go_wp2
        refine bodyPost_ret (v := .agg #[.bool true, .slice p' lv cap']) (by simp [results, Tryd.results36, go_sem, b0, b1]) rfl ?_
        obtain ⟨hN', hf, bel⟩ := HF.out
        refine ⟨_, rfl, ?_, hf.mono (by have := HK.out; omega), ?_⟩
        · exact ((hN'.setCell hf (by show K + 1 < K + 2; omega) _).setCell hf (by show K < K + 2; omega) _).setCell hf (by show K < K + 2; omega) _
        · rw [HK.out]
          exact ((bel.setCell (p := ⟨K + 1, 1, none⟩) (by show K ≤ K + 1; omega) _).setCell (p := ⟨K, 0, none⟩) (Nat.le_refl _) _).setCell (p := ⟨K, 1, none⟩) (Nat.le_refl _) _
  · have hn' : isNeg s.data.toList = false := by simpa using hn
    have hz : szB s = s := by unfold szB; rw [if_neg hn]
    have h45 : ((s[0].toNat : Int) == 45) = false := by rw [hb.out]; exact hn'
    rw [hn']
    rw [hz] at hd htl ⊢
    have HD := Lib.hid hd
    clear hd hz hn hn' htl
    obtain ⟨t, ht⟩ : ∃ t, t = s := ⟨_, rfl⟩
    subst ht
    have htl2 : t.size ≤ 1000 := hs
    go_enter Tryd.func36, Tryd.ntmps36
    go_wp2
    have HS0 := Lib.hid (RS.new w false 56)
    generalize (w.alloc (.cells #[.bool false, .slice none 0 0] 56)).alloc (.cells #[.bool false, .slice none 0 0] 56) = W0 at *
    generalize hk : w.heap.size = K at *
    have HK := Lib.hid hk; clear hk
    go_loopw [4] (fun x wr => ∃ (e : Nat) (z : Int) (v : Value) (o : List Nat), x = .int .i64 z ∧ (z = e ∨ (z ≤ 0 ∧ e = 0)) ∧ e ≤ t.size ∧ o.length ≤ t.size ∧ -6 ≤ z ∧ Hid (z = e → e + 6 * o.length = t.size) ∧ Hid (RS w K false v o wr) ∧ Hid (Dig o) ∧ Hid (natOf t.data.toList = natOf (t.data.toList.take e) * B ^ o.length + toN o))
      (fun x _ => (intOf x).toNat)
    case atStart => exact ⟨t.size, t.size, _, [], rfl, .inl rfl, Nat.le_refl _, Nat.zero_le _, by omega, fun _ => rfl, HS0.out, Dig.nil, by show _ = _; rw [List.take_of_length_le (by rw [size_len]; exact Nat.le_refl _)]; simp [toN]⟩
    case round =>
      clear HS0
      obtain ⟨e, z, v, o, rfl, hz, he, hol, hz6, hlen, hS, hdig, hval⟩ := hrel
      by_cases hpos : 0 < z
      · obtain rfl : z = e := by omega
        clear hz
        have he1 : 0 < e := by omega
        have HL := Lib.hid (hlen.out rfl)
        obtain ⟨i0, hi0⟩ : ∃ i0 : Nat, max (0 : Int) ((e : Int) - 6) = i0 := ⟨e - 6, by omega⟩
        have hie : i0 = e - 6 := by omega
        have hi6 : e ≤ i0 + 6 := by omega
        have hi7 : i0 ≤ e := by omega
        have HIE := Lib.hid hie
        have hnew : Hid (natOf t.data.toList = natOf (t.data.toList.take i0) * B ^ (o.length + 1) + (toN o + B ^ o.length * natOf ((t.data.toList.take e).drop i0))) := by
          show _ = _
          rw [hval.out]
          by_cases h6 : 6 ≤ e
          · rw [natOf_chunk _ e h6 (by rw [size_len]; exact he), ← hie, Nat.pow_succ, Nat.add_mul, Nat.mul_comm (B ^ o.length) B, ← Nat.mul_assoc, B_eq, Nat.mul_comm (natOf ((t.data.toList.take e).drop i0))]
            omega
          · obtain rfl : i0 = 0 := by omega
            rw [List.take_zero, List.drop_zero, show natOf [] = 0 from rfl, Nat.zero_mul, Nat.zero_add, Nat.mul_comm]; omega
        clear hie hval hlen
        have c1 := hS.out.c1
        obtain ⟨wo, hwo⟩ : ∃ wo : World, wo = wr := ⟨_, rfl⟩
        subst hwo
        go_wp2
        clear hi0
        go_loop [5, 6] (fun x y => ∃ i : Nat, i0 ≤ i ∧ i ≤ e ∧ y = .int .i64 i ∧ x = .int .i64 (natOf ((t.data.toList.take i).drop i0) : Nat)) (fun _ y => e - (intOf y).toNat)
        case atStart => exact ⟨i0, Nat.le_refl _, hi7, rfl, by rw [List.drop_eq_nil_of_le (by rw [List.length_take]; omega)]; rfl⟩
        case round =>
          obtain ⟨i, hi1, hi2, rfl, rfl⟩ := hrel
          by_cases hlt : i < e
          · have hn := natOf_chunk_lt t.data.toList HD.out i0 i (by omega)
            have hts : i < t.size := by omega
            have hc := (isDig_iff t[i]).1 (HD.out _ (mem_get t i hts))
            have HSt := Lib.hid (natOf_grow t i0 i hi1 hts)
            generalize natOf ((t.data.toList.take i).drop i0) = n at *
            clear c1
            go_wp2
            go_round
            case rel => exact ⟨i + 1, by omega, by omega, by go_num, by rw [HSt.out]; go_num⟩
            case measure => simp [intOf]; omega
          · obtain rfl : i = e := by omega
            have hn := natOf_chunk_lt t.data.toList HD.out i0 i (by omega)
            generalize natOf ((t.data.toList.take i).drop i0) = n at *
            have HO := Lib.hid hS.out.own
            have hsz := hS.out.sz
            clear hlt
            go_wp2_with (at_builtin; refine wpList_append_own _ rfl _ _ 54 rfl (K + 2) 3 ii (.int .i64 0) 1 8 Tryd.underlying54 HI.out.1 HI.out.2.1 HI.out.2.2.1 HI.out.2.2.2 rfl (by decide) _ _ _ rfl (HO.out.alloc _) ⟨wo.heap.size, 0, none⟩ 1 1 [.int .i64 (n : Nat)] rfl rfl (cell_one_new _ _ _) (by simp [Value.oneCell']) (by unfold maxLen; omega) (by omega) (by simp; omega) ?_; intro v' w2 hown' hgrow _; obtain ⟨g', cp', rfl⟩ := ownsRow_succ hown'; obtain ⟨⟨p1, p2⟩, p3⟩ := hS.out.put hown' hgrow; have HP := Lib.hid p3; clear hown' hgrow p3 c1)
            go_roundw
            case rel =>
              have h1 := HL.out
              have h2 := HIE.out
              refine ⟨i0, (i : Int) - 6, _, o ++ [n], rfl, by omega, by omega, by rw [List.length_append, List.length_singleton]; omega, by omega, fun e => by rw [List.length_append, List.length_singleton]; omega, HP.out, hdig.out.append (Dig.one hn), ?_⟩
              rw [List.length_append, List.length_singleton, toN_snoc]; exact hnew
            case measure => simp [intOf]; omega
      · have hz0 : e = 0 := by omega
        have hpos' : ¬ (0 < z) := hpos
        have hv : toN o = natOf t.data.toList := by have := hval.out; rw [hz0, List.take_zero, show natOf [] = 0 from rfl, Nat.zero_mul, Nat.zero_add] at this; exact this.symm
        have hN := nats_of_owns hS.out.own
        have ct := trim_any _ _ _ hN hdig.out
        rw [hv] at ct
        have CT := Lib.hid ct
        have c1 := hS.out.c1
        clear hlen hval hN ct hv hz
        go_wp2_with fail
        refine CT.out.mono ?_
        clear CT c1
        rintro e' w' ⟨rfl, v', rfl, hN', ho'⟩
        obtain ⟨⟨u0, r0⟩, ⟨u1, r1⟩, rf, c0, c1, f, own, bel, sz⟩ := hS.out
        have hf : Fresh (K + 2) v' := fun k hk => by rw [ho'] at hk; exact (own.lt k hk).1
        have rf0 := rf 0
        have rf1 := rf 1
        have f1 := f 1
        have HF := Lib.hid (And.intro hN' (And.intro hf bel))
        obtain ⟨p', cap', rfl⟩ := IsNat.shape hN'
        generalize hlv : (dg (natOf t.data.toList)).length = lv at *
        have HLV := Lib.hid hlv
        clear rf f own hf bel hN' ho' hlv hS
        have d1 : (wr.setCell ⟨K + 1, 1, none⟩ (.slice p' lv cap')).cell? ⟨K + 1, 1, none⟩ = some (.slice p' lv cap') := World.cell?_setCell_same' _ _ _ (by rw [c1]; rfl)
        have d0 : (wr.setCell ⟨K + 1, 1, none⟩ (.slice p' lv cap')).cell? ⟨K + 1, 0, none⟩ = some (.bool false) := by generalize K + 1 = k at *; go_cell
        have s0 : (wr.setCell ⟨K + 1, 1, none⟩ (.slice p' lv cap')).cell? ⟨K, 0, none⟩ = some u0 := (World.cell?_of_block (Below.heap_setCell _ _ _ _ (by show K ≠ K + 1; omega))).trans r0
        have s1 : (wr.setCell ⟨K + 1, 1, none⟩ (.slice p' lv cap')).cell? ⟨K, 1, none⟩ = some u1 := (World.cell?_of_block (Below.heap_setCell _ _ _ _ (by show K ≠ K + 1; omega))).trans r1
        obtain ⟨b0, b1⟩ := two_back s0 s1 (.bool false) (.slice p' lv cap')
        clear r0 r1
        go_wp2
        refine bodyPost_ret (v := .agg #[.bool false, .slice p' lv cap']) (by simp [results, Tryd.results36, go_sem, b0, b1]) rfl ?_
        obtain ⟨hN', hf, bel⟩ := HF.out
        refine ⟨_, rfl, ?_, hf.mono (by have := HK.out; omega), ?_⟩
        · exact ((hN'.setCell hf (by show K + 1 < K + 2; omega) _).setCell hf (by show K < K + 2; omega) _).setCell hf (by show K < K + 2; omega) _
        · rw [HK.out]
          exact ((bel.setCell (p := ⟨K + 1, 1, none⟩) (by show K ≤ K + 1; omega) _).setCell (p := ⟨K, 0, none⟩) (Nat.le_refl _) _).setCell (p := ⟨K, 1, none⟩) (Nat.le_refl _) _
end Go.Proofs.YtajonpcmgebbbaaDoor.R

/- The walk of Power. -/
namespace Go.Proofs.YtajonpcmgebbbaaDoor
open Go.RowKit

theorem lt_bitLen (n : Nat) (h : n < 2 ^ 64) : n < 2 ^ Lib.bitLen n := by
  by_cases h0 : n = 0
  · subst h0; decide
  · exact (Lib.bitLenAux_bounds 64 n h h0).2.2
theorem bits_one (i : Nat) (hi : i < 9223372036854775808) : bits BinOp.and IntKind.i64 (i : Int) 1 = ((i % 2 : Nat) : Int) := Go.Proofs.and_one i hi
theorem bit_true {n k : Nat} (h : n / 2 ^ k % 2 = 1) (hn : n ≤ 4096) : (bits BinOp.and IntKind.i64 ((n : Int) / 2 ^ k) 1 == 1) = true := by
  have e : ((n : Int) / 2 ^ k) = ((n / 2 ^ k : Nat) : Int) := by simp
  have := Nat.div_le_self n (2 ^ k)
  rw [e, bits_one _ (by omega), h]; rfl
theorem bit_false {n k : Nat} (h : n / 2 ^ k % 2 = 0) (hn : n ≤ 4096) : (bits BinOp.and IntKind.i64 ((n : Int) / 2 ^ k) 1 == 1) = false := by
  have e : ((n : Int) / 2 ^ k) = ((n / 2 ^ k : Nat) : Int) := by simp
  have := Nat.div_le_self n (2 ^ k)
  rw [e, bits_one _ (by omega), h]; rfl
theorem half_step (n k : Nat) : n / 2 ^ k = 2 * (n / 2 ^ (k + 1)) + n / 2 ^ k % 2 := by
  rw [Nat.pow_succ, ← Nat.div_div_eq_div_mul]; omega
theorem pow_big {x : Int} {m n : Nat} (hm : m ≤ n) (h : ¬ (x ^ m).natAbs < lim) : ¬ (x ^ n).natAbs < lim := by
  rw [Int.natAbs_pow] at h ⊢
  have hl := lim_big
  by_cases h0 : x.natAbs = 0
  · rw [h0] at h
    exfalso; apply h
    cases m with
    | zero => rw [Nat.pow_zero]; omega
    | succ m => rw [Nat.zero_pow (by omega)]; omega
  · intro h'
    have := Nat.pow_le_pow_right (n := x.natAbs) (by omega) hm
    omega

theorem Nats.setCell_ne {w : World} {v : Value} {l : List Nat} {c : Nat} (h : Nats w v l) (hf : l = [] ∨ v.ownBlock ≠ some c) {o : Nat} (u : Value) : Nats (w.setCell ⟨c, o, none⟩ u) v l := by
  obtain ⟨p, cap, rfl, h1, h2, h3⟩ := h
  refine ⟨p, cap, rfl, h1, h2, fun hne => ?_⟩
  obtain ⟨b, off, e, hc⟩ := h3 hne
  refine ⟨b, off, e, fun i hi => ?_⟩
  have hb : b ≠ c := fun hb => (hf.resolve_left hne) (by rw [e, hb]; rfl)
  exact (World.cell?_of_block (Below.heap_setCell _ _ _ _ (by show b ≠ c; exact hb))).trans (hc i hi)
theorem IsNat.setCell_ne {w : World} {v : Value} {n c : Nat} (h : IsNat w v n) (hf : dg n = [] ∨ v.ownBlock ≠ some c) {o : Nat} (u : Value) : IsNat (w.setCell ⟨c, o, none⟩ u) v n := Nats.setCell_ne h hf u
theorem IsNat.far {w : World} {v : Value} {n c : Nat} (h : IsNat w v n) (hc : w.heap.size ≤ c) : dg n = [] ∨ v.ownBlock ≠ some c := by
  obtain ⟨p, cap, rfl, h1, h2, h3⟩ := h
  by_cases hne : dg n = []
  · exact .inl hne
  · obtain ⟨b, off, e, hcell⟩ := h3 hne
    have hl := World.block_lt_of_cell? w _ (hcell 0 (List.length_pos_iff.2 hne))
    refine .inr fun h => ?_
    rw [e] at h
    have h2 : b = c := by simpa [Value.ownBlock] using h
    have hl2 : b < w.heap.size := hl
    omega
theorem Fresh.far {v : Value} {b c n : Nat} (h : Fresh b v) (hc : c < b) : dg n = [] ∨ v.ownBlock ≠ some c := .inr fun e => by have := h c e; omega

theorem sgn_abs (ng : Bool) (m : Nat) : (sgnZ ng m).natAbs = m := by unfold sgnZ; cases ng <;> simp
theorem dg_mul3 {a b c : Nat} (ha : a < lim) (hb : b < lim) (hc : c < lim) : (dg (a * b * c)).length ≤ 102 := by
  rw [dg_length_le, show B ^ 102 = B ^ 34 * B ^ 34 * B ^ 34 by rw [← Nat.pow_add, ← Nat.pow_add]]
  have h1 := lim_B
  exact Nat.mul_lt_mul'' (Nat.mul_lt_mul'' (Nat.lt_of_lt_of_le ha h1) (Nat.lt_of_lt_of_le hb h1)) (Nat.lt_of_lt_of_le hc h1)
/-- the two boxes of Power: x (never written) and the power -/
structure PS (w : World) (X : Nat) (nx : Bool) (vx : Value) (a : Nat) (ng : Bool) (vp : Value) (m : Nat) (wr : World) : Prop where
  c0 : wr.cell? ⟨X, 0, none⟩ = some (.bool nx)
  c1 : wr.cell? ⟨X, 1, none⟩ = some vx
  d0 : wr.cell? ⟨X + 1, 0, none⟩ = some (.bool ng)
  d1 : wr.cell? ⟨X + 1, 1, none⟩ = some vp
  f0 : wr.frozen? ⟨X + 1, 0, none⟩ = false
  f1 : wr.frozen? ⟨X + 1, 1, none⟩ = false
  size : X + 1 < wr.heap.size
  lo : w.heap.size ≤ X
  bel : Below w.heap.size w wr
  hx : IsNat wr vx a
  nx : dg a = [] ∨ vx.ownBlock ≠ some (X + 1)
  hp : IsNat wr vp m
theorem PS.next {w : World} {X : Nat} {nx : Bool} {vx : Value} {a : Nat} {ng : Bool} {vp : Value} {m : Nat} {wr W : World} (h : PS w X nx vx a ng vp m wr) (b : Below wr.heap.size wr W) : PS w X nx vx a ng vp m W :=
  ⟨(b.cell (p := ⟨X, 0, none⟩) (by have := h.size; show X < _; omega)).trans h.c0, (b.cell (p := ⟨X, 1, none⟩) (by have := h.size; show X < _; omega)).trans h.c1,
    (b.cell (p := ⟨X + 1, 0, none⟩) h.size).trans h.d0, (b.cell (p := ⟨X + 1, 1, none⟩) h.size).trans h.d1,
    (b.frozen (p := ⟨X + 1, 0, none⟩) h.size).trans h.f0, (b.frozen (p := ⟨X + 1, 1, none⟩) h.size).trans h.f1, Nat.lt_of_lt_of_le h.size b.size, h.lo,
    h.bel.trans (b.mono h.bel.size), h.hx.next b, h.nx, h.hp.next b⟩
theorem PS.put {w : World} {X : Nat} {nx : Bool} {vx : Value} {a : Nat} {ng : Bool} {vp : Value} {m : Nat} {wr : World} (h : PS w X nx vx a ng vp m wr) (ng' : Bool) {vq : Value} {m' : Nat} (hq : IsNat wr vq m') (nq : dg m' = [] ∨ vq.ownBlock ≠ some (X + 1)) :
    PS w X nx vx a ng' vq m' ((wr.setCell ⟨X + 1, 0, none⟩ (.bool ng')).setCell ⟨X + 1, 1, none⟩ vq) := by
  obtain ⟨e0, e1⟩ := two_back h.d0 h.d1 (.bool ng') vq
  have hk : ∀ (W : World) (o o' : Nat) (u : Value), (W.setCell ⟨X + 1, o, none⟩ u).cell? ⟨X, o', none⟩ = W.cell? ⟨X, o', none⟩ := fun W o o' u => World.cell?_of_block (Below.heap_setCell _ _ _ _ (by show X ≠ X + 1; omega))
  refine ⟨by rw [hk, hk]; exact h.c0, by rw [hk, hk]; exact h.c1, ?_, e1, ?_, ?_, by have := h.size; simpa [World.setCell] using this, h.lo,
    (h.bel.setCell (p := ⟨X + 1, 0, none⟩) (by have := h.lo; show _ ≤ X + 1; omega) _).setCell (p := ⟨X + 1, 1, none⟩) (by have := h.lo; show _ ≤ X + 1; omega) _, (h.hx.setCell_ne h.nx _).setCell_ne h.nx _, h.nx, (hq.setCell_ne nq _).setCell_ne nq _⟩
  · go_cell
  · simp [go_sem, h.f0]
  · simp [go_sem, h.f1]

theorem lim_one : 1 < lim := by have := lim_big; omega
set_option maxHeartbeats 2000000 in
theorem Power_any (a : ByteArray) (n : Nat) (w : World) (ha : chk a.data.toList = 0) (hn : n ≤ 4096) (ht : Tab w) :
    Calls Tryd.prog 18 #[.string a, .int .i64 n] w fun e W' => e = .returned (.tuple #[.string (resB (valOf a.data.toList ^ n)), .int .i64 (resE (valOf a.data.toList ^ n))]) ∧ Below w.heap.size w W' := by
  have hs := chk_size ha
  have cc := fun W => check_any a W (by unfold maxLen; omega)
  rw [ha] at cc
  have cr := fun W => read_any a W (by omega) ha
  have cb := fun W => Tryd.bits_Len n W (by omega) (by omega)
  have O := Lib.hid (And.intro cc (And.intro cr cb))
  have hbl := Lib.bitLen_le n 13 (by decide) (by omega)
  have HB := Lib.hid (lt_bitLen n (by omega))
  have HX := Lib.hid (And.intro (val_sgn a.data.toList) (nat_lim ha))
  have HT := Lib.hid ht
  clear cc cr cb ha ht hs
  generalize isNeg a.data.toList = nx at *
  generalize natOf (szL a.data.toList) = ax at *
  generalize valOf a.data.toList = x at *
  have n0 : ¬ (n : Int) < 0 := by omega
  have n1 : ¬ (4096 : Int) < n := by omega
  go_enter Tryd.func18, Tryd.ntmps18
  go_wp2_with fail
  refine (O.out.1 _).mono ?_
  rintro e w' ⟨rfl, rfl⟩
  go_wp2_with fail
  refine (O.out.2.1 _).mono ?_
  rintro e w1 ⟨v, rfl, hv, hfr, hb1⟩
  obtain ⟨p, cap, rfl⟩ := hv.shape
  have HV := Lib.hid (And.intro hv (And.intro hfr hb1)); clear hv hfr hb1
  generalize (dg ax).length = len at *
  go_wp2_with fail
  refine (O.out.2.2 _).mono ?_
  rintro e w' ⟨rfl, rfl⟩
  go_wp2_with fail
  have PS0 : Hid (PS w (w1.heap.size + 1) (nx) (.slice p len cap) (ax) false (.slice (some ⟨w1.heap.size, 0, none⟩) 1 1) 1 (((w1.alloc (.cells #[.int .u64 1] 67)).alloc (.cells #[.bool (nx), .slice p len cap] 46)).alloc (.cells #[.bool false, .slice (some ⟨w1.heap.size, 0, none⟩) 1 1] 46))) := by
    obtain ⟨hv, hfr, hb1⟩ := HV.out
    have hsz : (((w1.alloc (.cells #[.int .u64 1] 67)).alloc (.cells #[.bool (nx), .slice p len cap] 46)).alloc (.cells #[.bool false, .slice (some ⟨w1.heap.size, 0, none⟩) 1 1] 46)).heap.size = w1.heap.size + 3 := by simp
    have hbel : Below w1.heap.size w1 (((w1.alloc (.cells #[.int .u64 1] 67)).alloc (.cells #[.bool (nx), .slice p len cap] 46)).alloc (.cells #[.bool false, .slice (some ⟨w1.heap.size, 0, none⟩) 1 1] 46)) :=
      (((Below.refl _ w1).alloc (Nat.le_refl _) _).alloc (by simp) _).alloc (by simp; omega) _
    refine ⟨by go_cell, by go_cell, by go_cell, by go_cell, by simp [go_sem], by simp [go_sem], by rw [hsz]; omega, by have := hb1.size; omega, hb1.trans (hbel.mono hb1.size), hv.next hbel, hv.far (by omega), ?_⟩
    have h1 : dg 1 = [1] := by decide +kernel
    show Nats _ _ (dg 1)
    rw [h1]
    refine Nats.of_cells (l := [1]) (by decide) (by decide) (fun i hi => ?_)
    match i, hi with
    | 0, _ => go_cell
  clear HV
  generalize (((w1.alloc (.cells #[.int .u64 1] 67)).alloc (.cells #[.bool (nx), .slice p len cap] 46)).alloc (.cells #[.bool false, .slice (some ⟨w1.heap.size, 0, none⟩) 1 1] 46)) = w2 at *
  clear O
  generalize w1.heap.size + 1 = X at *
  generalize Lib.bitLen n = bl at *
  go_loopw [9] (fun i wr => ∃ (k : Nat) (ng : Bool) (q : Option Addr) (lq cq m : Nat), k ≤ bl ∧ i = .int .i64 ((k : Int) - 1) ∧ Hid (PS w X nx (.slice p len cap) ax ng (.slice q lq cq) m wr) ∧ Hid (sgnZ ng m = x ^ (n / 2 ^ k) ∧ m < lim)) (fun i _ => (intOf i + 1).toNat)
  case atStart => exact ⟨bl, false, _, _, _, 1, Nat.le_refl _, by go_num, PS0, by rw [Nat.div_eq_of_lt HB.out]; simp [sgnZ], lim_one⟩
  case round =>
    obtain ⟨k, ng, q, lq, cq, m, hk, rfl, HP, HM⟩ := hrel
    cases k with
    | zero =>
      have d0 := HP.out.d0
      have d1 := HP.out.d1
      have ctx := text_any ng _ m wr HP.out.hp (Nat.le_trans (dg_lim HM.out.2) (by decide)) (HT.out.next HP.out.bel)
      rw [HM.out.1, Nat.pow_zero, Nat.div_one] at ctx
      have CT := Lib.hid ctx
      clear ctx
      go_wp2_with fail
      refine CT.out.mono ?_
      rintro e W' ⟨rfl, b⟩
      have HE := Lib.hid (HP.out.bel.trans (b.mono HP.out.bel.size))
      clear b d0 d1
      go_wp2
      go_ret2
      exact ⟨rfl, HE.out⟩
    | succ k =>
      have d0 := HP.out.d0
      have d1 := HP.out.d1
      have tm := times_any ng ng _ _ m m wr HP.out.hp HP.out.hp (Nat.le_trans (dg_lim HM.out.2) (by decide)) (Nat.le_trans (dg_lim HM.out.2) (by decide))
      rw [show (ng != ng) = false by simp] at tm
      have TM := Lib.hid tm
      clear tm
      go_wp2_with fail
      refine TM.out.mono ?_
      rintro e W1 ⟨vq, rfl, hv, hfr, hb⟩
      clear d0 d1
      obtain ⟨q1, cq1, rfl⟩ := hv.shape
      have HP1 := Lib.hid (HP.out.next hb)
      have HV := Lib.hid (And.intro hv (hfr.far (n := m * m) (c := X + 1) HP.out.size))
      have HP2 := Lib.hid (HP1.out.put false HV.out.1 HV.out.2)
      clear hv hfr hb TM
      have c0 := HP1.out.c0
      have c1 := HP1.out.c1
      have d0 := HP1.out.d0
      have d1 := HP1.out.d1
      have f0 := HP1.out.f0
      have f1 := HP1.out.f1
      generalize (dg (m * m)).length = lq1 at *
      have HS := Lib.hid (half_step n k)
      have HM2 : Hid (sgnZ false (m * m) = x ^ (2 * (n / 2 ^ (k + 1)))) := by
        show sgnZ false (m * m) = _
        rw [show false = (ng != ng) by simp, sgn_mul, HM.out.1, ← Int.pow_add, Nat.two_mul]
      by_cases hodd : n / 2 ^ k % 2 = 1
      · have hbit := bit_true hodd hn
        have e0 := HP2.out.c0
        have e1 := HP2.out.c1
        have e2 := HP2.out.d0
        have e3 := HP2.out.d1
        have HM4 : Hid (sgnZ nx (m * m * ax) = x ^ (n / 2 ^ k)) := by
          show sgnZ nx (m * m * ax) = _
          have h1 : sgnZ nx (m * m * ax) = sgnZ (false != nx) (m * m * ax) := by simp
          rw [h1, sgn_mul, HM2.out, HX.out.1, HS.out, hodd, Int.pow_succ]
        clear hodd HM2 HS
        go_wp2_with fail
        clear e0 e1 e2 e3 c0 c1 d0 d1 f0 f1
        generalize (W1.setCell ⟨X + 1, 0, none⟩ (.bool false)).setCell ⟨X + 1, 1, none⟩ (.slice q1 lq1 cq1) = W2 at *
        have tm := times_any false nx _ _ (m * m) ax W2 HP2.out.hp HP2.out.hx (Nat.le_trans (dg_mul HM.out.2 HM.out.2) (by decide)) (Nat.le_trans (dg_lim HX.out.2) (by decide))
        rw [show (false != nx) = nx by simp] at tm
        refine tm.mono ?_
        clear tm
        rintro e W3 ⟨vr, rfl, hv, hfr, hb⟩
        obtain ⟨q3, cq3, rfl⟩ := hv.shape
        have HP3 := Lib.hid (HP2.out.next hb)
        have HP4 := Lib.hid (HP3.out.put nx hv (hfr.far HP2.out.size))
        clear hv hfr hb
        have c0 := HP3.out.c0
        have c1 := HP3.out.c1
        have d0 := HP3.out.d0
        have d1 := HP3.out.d1
        have f0 := HP3.out.f0
        have f1 := HP3.out.f1
        have HD := Lib.hid (fun v W h => length_any v (m * m * ax) W h (Nat.le_trans (dg_mul3 HM.out.2 HM.out.2 HX.out.2) (by decide)))
        generalize (dg (m * m * ax)).length = lq3 at *
        have e2 := HP4.out.d0
        have e3 := HP4.out.d1
        have lc := HD.out _ _ HP4.out.hp
        have LC := Lib.hid lc
        clear lc
        go_wp2_with fail
        refine LC.out.mono ?_
        rintro e w' ⟨rfl, rfl⟩
        clear LC
        have HL := Lib.hid (nlen_lim nx (m * m * ax))
        generalize nlen (m * m * ax) = nl at *
        by_cases hbig : (300 : Int) < nl
        · have HG := Lib.hid (HL.out.1 (by omega))
          go_wp2
          go_ret2
          have hz := pow_big (Nat.div_le_self n (2 ^ k)) (by have := HG.out; rwa [HM4.out] at this)
          refine ⟨ret_res ?_ ?_, HP4.out.bel⟩
          · unfold resB; rw [if_neg hz]; rfl
          · unfold resE; rw [if_neg hz]
        · have hlt : Hid (m * m * ax < lim) := by
            have h := Decidable.not_not.1 (fun h => hbig (by have := HL.out.2 h; omega))
            rwa [sgn_abs] at h
          clear HL
          go_wp2
          go_round
          case rel => exact ⟨k, nx, _, _,  _, m * m * ax, by omega, by go_num, HP4, HM4.out, hlt.out⟩
          case measure => simp [intOf]
      · have hbit := bit_false (show n / 2 ^ k % 2 = 0 by omega) hn
        have HM4 : Hid (sgnZ false (m * m) = x ^ (n / 2 ^ k)) := by
          show sgnZ false (m * m) = _
          have h0 : n / 2 ^ k % 2 = 0 := by omega
          have h2 := HS.out
          rw [h0, Nat.add_zero] at h2
          rw [HM2.out, h2]
        clear hodd HM2 HS
        have e2 := HP2.out.d0
        have e3 := HP2.out.d1
        have HD := Lib.hid (fun v W h => length_any v (m * m) W h (Nat.le_trans (dg_mul HM.out.2 HM.out.2) (by decide)))
        have lc := HD.out _ _ HP2.out.hp
        have LC := Lib.hid lc
        clear lc
        go_wp2_with fail
        refine LC.out.mono ?_
        rintro e w' ⟨rfl, rfl⟩
        clear LC
        have HL := Lib.hid (nlen_lim false (m * m))
        generalize nlen (m * m) = nl at *
        by_cases hbig : (300 : Int) < nl
        · have HG := Lib.hid (HL.out.1 (by omega))
          go_wp2
          go_ret2
          have hz := pow_big (Nat.div_le_self n (2 ^ k)) (by have := HG.out; rwa [HM4.out] at this)
          refine ⟨ret_res ?_ ?_, HP2.out.bel⟩
          · unfold resB; rw [if_neg hz]; rfl
          · unfold resE; rw [if_neg hz]
        · have hlt : Hid (m * m < lim) := by
            have h := Decidable.not_not.1 (fun h => hbig (by have := HL.out.2 h; omega))
            rwa [sgn_abs] at h
          clear HL
          go_wp2
          go_round
          case rel => exact ⟨k, false, _, _,  _, m * m, by omega, by go_num, HP2, HM4.out, hlt.out⟩
          case measure => simp [intOf]
end Go.Proofs.YtajonpcmgebbbaaDoor

