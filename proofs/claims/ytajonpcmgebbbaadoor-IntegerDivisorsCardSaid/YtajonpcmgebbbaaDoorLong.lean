/- The walks of the long division: multiple, estimate, subtract, restore. -/
import Derived.Test.YtajonpcmgebbbaaDoorW12
import Derived.Test.YtajonpcmgebbbaaDoorDivS
import Derived.Test.YtajonpcmgebbbaaDoorKnuth
namespace Go.Proofs.YtajonpcmgebbbaaDoor
open Go.RowKit

/-- block g begins with these digits -/
def RowC (w : World) (g : Nat) (l : List Nat) : Prop := ∃ cur, w.heap[g]? = some (.cells cur 67 (0, 0)) ∧ cur.toList.take l.length = cells64 l
theorem Row.rowC {w : World} {g : Nat} {l : List Nat} (h : Row w g l) : RowC w g l := ⟨_, h, by rw [List.take_of_length_le (by simp [cells64])]⟩
theorem RowC.cell {w : World} {g : Nat} {l : List Nat} (h : RowC w g l) {i : Nat} (hi : i < l.length) : w.cell? ⟨g, i, none⟩ = some (.int .u64 (l.getD i 0 : Nat)) := by
  obtain ⟨cur, h1, h2⟩ := h
  rw [cell_of_row w g i _ _ (0, 0) h1, ← Array.getElem?_toList]
  have : (cur.toList.take l.length)[i]? = (cells64 l)[i]? := by rw [h2]
  rw [List.getElem?_take_of_lt hi] at this
  rw [this]
  simp [cells64, hi]
theorem RowC.frozen {w : World} {g : Nat} {l : List Nat} (h : RowC w g l) (i : Nat) : w.frozen? ⟨g, i, none⟩ = false := by
  obtain ⟨cur, h1, h2⟩ := h
  simp [World.frozen?, h1]
theorem RowC.set {w : World} {g : Nat} {l : List Nat} (h : RowC w g l) (i : Nat) (x : Nat) : RowC (w.setCell ⟨g, i, none⟩ (.int .u64 (x : Nat))) g (l.set i x) := by
  obtain ⟨cur, h1, h2⟩ := h
  refine ⟨cur.setIfInBounds i (.int .u64 (x : Nat)), ?_, ?_⟩
  · simp [World.setCell, Array.getElem?_modify, h1]
  · rw [List.length_set, Array.toList_setIfInBounds, List.take_set, h2]
    simp [cells64, List.map_set]
theorem RowC.lt {w : World} {g : Nat} {l : List Nat} (h : RowC w g l) : g < w.heap.size := by
  obtain ⟨cur, h1, h2⟩ := h
  exact (Array.getElem?_eq_some_iff.1 h1).1
theorem RowC.nats {w : World} {g : Nat} {l : List Nat} (h : RowC w g l) {cap : Nat} (h1 : l.length ≤ cap) (h2 : cap ≤ 9223372036854775807) : Nats w (.slice (some ⟨g, 0, none⟩) l.length cap) l :=
  Nats.of_cells h1 h2 (fun _ hi => h.cell hi)
theorem RowC.of_block {w w' : World} {g : Nat} {l : List Nat} (h : RowC w g l) (hb : w'.heap[g]? = w.heap[g]?) : RowC w' g l := by
  obtain ⟨cur, h1, h2⟩ := h
  exact ⟨cur, hb.trans h1, h2⟩
theorem RowC.next {w w' : World} {g B : Nat} {l : List Nat} (h : RowC w g l) (hb : Below B w w') (hg : g < B) : RowC w' g l := h.of_block (hb.block g hg)
theorem rowC_of_owns {w : World} {base : Nat} {v : Value} {l : List Nat} {n : Nat} (h : w.ownsRow base 67 1 v n (cells64 l)) (hne : l ≠ []) : ∃ g cap, v = .slice (some ⟨g, 0, none⟩) l.length cap ∧ base ≤ g ∧ l.length ≤ cap ∧ cap ≤ maxLen ∧ RowC w g l := by
  obtain ⟨h1, h2⟩ := h
  have hn : n = l.length := by simpa [cells64] using h1.symm
  subst hn
  rcases h2 with ⟨_, h0⟩ | ⟨g, cap, cur, rfl, hb, hh, hn, hm, hsz, htk⟩
  · exact absurd (List.eq_nil_of_length_eq_zero h0) hne
  · exact ⟨g, cap, rfl, hb, hn, hm, cur, hh, by rw [Nat.mul_one] at htk; exact htk⟩

/-- but for block g nothing has turned of what was there -/
structure Only (g : Nat) (w w' : World) : Prop where
  os : w'.os = w.os
  tape : w'.tape = w.tape
  output : w'.output = w.output
  size : w.heap.size ≤ w'.heap.size
  block : ∀ k, k ≠ g → k < w.heap.size → w'.heap[k]? = w.heap[k]?
theorem Only.refl (g : Nat) (w : World) : Only g w w := ⟨rfl, rfl, rfl, Nat.le_refl _, fun _ _ _ => rfl⟩
theorem Only.trans {g : Nat} {a b c : World} (h : Only g a b) (k : Only g b c) : Only g a c :=
  ⟨k.os.trans h.os, k.tape.trans h.tape, k.output.trans h.output, Nat.le_trans h.size k.size, fun i hi hl => (k.block i hi (Nat.lt_of_lt_of_le hl h.size)).trans (h.block i hi hl)⟩
theorem Only.setCell {g : Nat} {a w : World} (h : Only g a w) (o : Nat) (u : Value) : Only g a (w.setCell ⟨g, o, none⟩ u) :=
  h.trans ⟨rfl, rfl, rfl, by simp [World.setCell], fun k hk _ => Below.heap_setCell _ _ _ _ (by show k ≠ g; exact hk)⟩
theorem Only.drew {g : Nat} {a w : World} (h : Only g a w) : Only g a w.drew := ⟨h.os, h.tape, h.output, h.size, h.block⟩
theorem Only.of_below {g : Nat} {w w' : World} (h : Below w.heap.size w w') : Only g w w' := ⟨h.os, h.tape, h.output, h.size, fun k _ hl => h.block k hl⟩
theorem Only.below {g B : Nat} {a w w' : World} (h : Only g w w') (hb : Below B a w) (hg : B ≤ g) (hB : B ≤ w.heap.size) : Below B a w' :=
  hb.trans ⟨h.os, h.tape, h.output, h.size, fun k hk => h.block k (by omega) (by omega)⟩
theorem Only.cell {g : Nat} {w w' : World} (h : Only g w w') {p : Addr} {v : Value} (hp : p.block ≠ g) (hc : w.cell? p = some v) : w'.cell? p = some v :=
  (World.cell?_of_block (w := w) (h.block p.block hp (World.block_lt_of_cell? w _ hc))).trans hc
theorem Only.rowC {g k : Nat} {w w' : World} {l : List Nat} (h : Only g w w') (hk : k ≠ g) (hr : RowC w k l) : RowC w' k l := hr.of_block (h.block k hk hr.lt)
theorem Only.nats {g : Nat} {w w' : World} {v : Value} {l : List Nat} (h : Only g w w') (hk : v.ownBlock ≠ some g) (hr : Nats w v l) : Nats w' v l := by
  obtain ⟨p, cap, rfl, h1, h2, h3⟩ := hr
  refine ⟨p, cap, rfl, h1, h2, fun hne => ?_⟩
  obtain ⟨b, off, e, hc⟩ := h3 hne
  exact ⟨b, off, e, fun i hi => h.cell (by show b ≠ g; intro hb; exact hk (by rw [e, hb]; rfl)) (hc i hi)⟩

theorem toN_take_step {l : List Nat} {j by' c P : Nat} (hj : j < l.length) (h : P + B ^ j * c = toN (l.take j) * by') :
    P + B ^ j * ((l.getD j 0 * by' + c) % 1000000000) + B ^ (j + 1) * ((l.getD j 0 * by' + c) / 1000000000) = toN (l.take (j + 1)) * by' := by
  rw [toN_take_succ l j hj, Nat.add_mul, ← h]
  generalize l.getD j 0 = x
  have e1 : B ^ j * (x * by' + c) = B ^ j * ((x * by' + c) % 1000000000) + B ^ (j + 1) * ((x * by' + c) / 1000000000) := by
    rw [Nat.pow_succ, Nat.mul_assoc, ← Nat.mul_add]; congr 1; rw [B_eq]; omega
  have e2 : B ^ j * (x * by' + c) = B ^ j * x * by' + B ^ j * c := by rw [Nat.mul_add, Nat.mul_assoc]
  omega
theorem mult_bd {x b c : Nat} (hx : x < 1000000000) (hb : b < 1000000000) (hc : c < 1000000000) : x * b + c < 1000000000000000000 ∧ (x * b + c) / 1000000000 < 1000000000 ∧ (x * b + c) % 1000000000 < 1000000000 := by
  have := mul_bd hx hb; omega

set_option maxRecDepth 100000 in
set_option maxHeartbeats 2000000 in
theorem multiple_any (v : Value) (la : List Nat) (m : Nat) (w : World) (ha : Nats w v la) (da : Dig la) (hla : la.length ≤ 1000000) (hm : m < 1000000000) :
    Calls Tryd.prog 103 #[v, .int .u64 m] w fun e W' => ∃ g cap l, e = .returned (.slice (some ⟨g, 0, none⟩) l.length cap) ∧ l.length ≤ cap ∧ cap ≤ maxLen ∧ w.heap.size ≤ g ∧ RowC W' g l ∧ Dig l ∧ l.length = la.length + 1 ∧ toN l = toN la * m ∧ Below w.heap.size w W' := by
  obtain ⟨pa, capa, rfl, ha1, ha2, ha3⟩ := ha
  have HA := Lib.hid ha3; clear ha3
  obtain ⟨i0, hi, hz0, hz1, hz2⟩ := info_parts info_u64
  have HI := Lib.hid (And.intro hi (And.intro hz0 (And.intro hz1 hz2))); clear hi hz0 hz1 hz2
  have HD := Lib.hid da; clear da
  go_enter Tryd.func103, Tryd.ntmps103
  go_wp2_with (at_make; refine wpList_make_own _ rfl _ _ 44 rfl w.heap.size 67 i0 (.int .u64 0) 1 Tryd.underlying44 HI.out.1 HI.out.2.1 HI.out.2.2.1 .i64 .i64 _ (la.length + 1) rfl rfl (by omega) (by rw [HI.out.2.2.2]; omega) (by unfold maxLen; omega) (Nat.le_refl _) ?_; intro w1 hown hgrow)
  have hB1 : Below w.heap.size w w1 := (Below.refl _ w).grown hgrow (Nat.le_refl _) (fun k e => by cases e)
  go_loopw [5, 6, 16] (fun x y z wr => ∃ (c j : Nat) (o : List Nat), j ≤ la.length ∧ y = .int .u64 c ∧ z = .int .i64 j ∧ c < 1000000000 ∧ o.length = j ∧ wr.ownsRow w.heap.size 67 1 x j (cells64 o) ∧ Hid (Dig o) ∧ Hid (toN o + B ^ j * c = toN (la.take j) * m) ∧ Below w.heap.size w wr)
    (fun _ _ z _ => la.length - (intOf z).toNat)
  case atStart => exact ⟨0, 0, [], Nat.zero_le _, rfl, rfl, by omega, rfl, hown, Dig.nil, by show toN [] + B ^ 0 * 0 = _; simp [toN], hB1⟩
  case round =>
    clear hown hB1 hgrow
    obtain ⟨c, j, o, hj, rfl, rfl, hc, hlen, hown, hdig, hval, hbel⟩ := hrel
    have hsz := hbel.size
    by_cases hjl : j < la.length
    · obtain ⟨ab, aoff, rfl, hca⟩ := HA.out (by intro e; subst e; simp at hjl)
      have hx := HD.out.getD j
      have ca0 := hca j hjl
      have cax : wr.cell? ⟨ab, aoff + j, none⟩ = some (.int .u64 (la.getD j 0 : Nat)) := (hbel.cell (p := ⟨ab, aoff + j, none⟩) (World.block_lt_of_cell? w _ ca0)).trans ca0
      clear ca0 hca
      have HS := Lib.hid (And.intro (toN_take_step hjl hval.out) (mult_bd hx hm hc))
      clear hval
      have hxm := mul_bd hx hm
      generalize la.getD j 0 = x at *
      have hP0 : 0 ≤ (x : Int) * (m : Int) := by rw [← Int.natCast_mul]; omega
      have hP1 : (x : Int) * (m : Int) ≤ 999999998000000001 := by rw [← Int.natCast_mul]; omega
      have hT : (((x * m + c : Nat)) : Int) = (x : Int) * (m : Int) + (c : Int) := by rw [Int.natCast_add, Int.natCast_mul]
      have HT1 := Lib.hid (show ((((x * m + c) / 1000000000 : Nat)) : Int) = ((x : Int) * (m : Int) + (c : Int)) / 1000000000 by rw [Int.natCast_ediv, hT]; rfl)
      have HT2 := Lib.hid (show ((((x * m + c) % 1000000000 : Nat)) : Int) = ((x : Int) * (m : Int) + (c : Int)) % 1000000000 by rw [Int.natCast_emod, hT]; rfl)
      have HO := Lib.hid hown
      have HB := Lib.hid hbel
      clear hT hxm hown hbel
      go_wp2_with (at_builtin; refine wpList_append_own _ rfl _ _ 44 rfl w.heap.size 67 i0 (.int .u64 0) 1 8 Tryd.underlying44 HI.out.1 HI.out.2.1 HI.out.2.2.1 HI.out.2.2.2 rfl (by decide) _ _ _ rfl (HO.out.alloc _) ⟨wr.heap.size, 0, none⟩ 1 1 [.int .u64 (((x : Int) * (m : Int) + (c : Int)) % 1000000000)] rfl rfl (cell_one_new _ _ _) (by simp [Value.oneCell']) (by unfold maxLen; omega) (by omega) (by simp; omega) ?_; intro v' w2 hown' hgrow _; have HO2 := Lib.hid hown'; have HG2 := Lib.hid hgrow; clear hown' hgrow)
      go_roundw
      case rel =>
        obtain ⟨s1, s2, s3, s4⟩ := HS.out
        refine ⟨(x * m + c) / 1000000000, j + 1, o ++ [(x * m + c) % 1000000000], by omega, by rw [HT1.out], by go_num, s3, by simp [hlen], ?_, hdig.out.append (Dig.one s4), ?_, ?_⟩
        · rw [← cells64_snoc, HT2.out]; exact HO2.out
        · show toN _ + _ = _
          rw [toN_snoc, hlen]; exact s1
        · exact (HB.out.alloc hsz _).grown HG2.out (by simp; omega) (fun k hk => (HO.out.lt k hk).1)
      case measure => simp [intOf]; omega
    · have ej : j = la.length := by omega
      subst ej
      have hv : toN (o ++ [c]) = toN la * m := by rw [toN_snoc, hlen, hval.out, List.take_length]
      have hdd : Dig (o ++ [c]) := hdig.out.append (Dig.one hc)
      have HS := Lib.hid (And.intro hv hdd)
      have HO := Lib.hid hown
      have HB := Lib.hid hbel
      clear hv hdd hval hown hbel
      go_wp2_with (at_builtin; refine wpList_append_own _ rfl _ _ 44 rfl w.heap.size 67 i0 (.int .u64 0) 1 8 Tryd.underlying44 HI.out.1 HI.out.2.1 HI.out.2.2.1 HI.out.2.2.2 rfl (by decide) _ _ _ rfl (HO.out.alloc _) ⟨wr.heap.size, 0, none⟩ 1 1 [.int .u64 (c : Nat)] rfl rfl (cell_one_new _ _ _) (by simp [Value.oneCell']) (by unfold maxLen; omega) (by omega) (by simp; omega) ?_; intro v' w2 hown' hgrow _; have HO2 := Lib.hid hown'; have HG2 := Lib.hid hgrow; clear hown' hgrow)
      go_ret
      have h2 := HO2.out
      rw [cells64_snoc] at h2
      obtain ⟨g, cap, rfl, hg, hc1, hc2, hr⟩ := rowC_of_owns h2 (by simp)
      exact ⟨g, cap, _, rfl, hc1, hc2, hg, hr, HS.out.2, by simp [hlen], HS.out.1, (HB.out.alloc hsz _).grown HG2.out (by simp; omega) (fun k hk => (HO.out.lt k hk).1)⟩
end Go.Proofs.YtajonpcmgebbbaaDoor
