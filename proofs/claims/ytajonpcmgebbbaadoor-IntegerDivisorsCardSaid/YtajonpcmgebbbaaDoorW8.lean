/- The walk of the product. -/
import Derived.Test.YtajonpcmgebbbaaDoorW7
import Derived.Test.YtajonpcmgebbbaaDoorMul
namespace Go.Proofs.YtajonpcmgebbbaaDoor
open Go.RowKit

/-- block g is the call's own row of these digits -/
def Row (w : World) (g : Nat) (l : List Nat) : Prop := w.heap[g]? = some (.cells (cells64 l).toArray 67 (0, 0))
theorem Row.cell {w : World} {g : Nat} {l : List Nat} (h : Row w g l) {i : Nat} (hi : i < l.length) : w.cell? ⟨g, i, none⟩ = some (.int .u64 (l.getD i 0 : Nat)) := by
  rw [cell_of_row w g i _ _ (0, 0) h]
  simp [cells64, hi]
theorem Row.frozen {w : World} {g : Nat} {l : List Nat} (h : Row w g l) (i : Nat) : w.frozen? ⟨g, i, none⟩ = false := by
  unfold Row at h
  simp [World.frozen?, h]
theorem Row.set {w : World} {g : Nat} {l : List Nat} (h : Row w g l) (i : Nat) (x : Nat) : Row (w.setCell ⟨g, i, none⟩ (.int .u64 (x : Nat))) g (l.set i x) := by
  unfold Row at h ⊢
  simp [World.setCell, Array.getElem?_modify, h, cells64, List.map_set]
theorem Row.lt {w : World} {g : Nat} {l : List Nat} (h : Row w g l) : g < w.heap.size := (Array.getElem?_eq_some_iff.1 h).1
theorem Row.nats {w : World} {g : Nat} {l : List Nat} (h : Row w g l) {cap : Nat} (h1 : l.length ≤ cap) (h2 : cap ≤ 9223372036854775807) : Nats w (.slice (some ⟨g, 0, none⟩) l.length cap) l :=
  Nats.of_cells h1 h2 (fun _ hi => h.cell hi)

theorem made_cells (n : Nat) : (madeCells (Value.int .u64 0).cells (n * 1)).toList = cells64 (List.replicate n 0) := by
  rw [Nat.mul_one]
  have h : (Value.int .u64 0).cells = #[.int .u64 0] := by simp [Value.cells]
  rw [h, toList_madeCells_one]
  simp [cells64]
theorem Row.of_made {w : World} {base g n : Nat} (h : w.ownsRow base 67 1 (.slice (some ⟨g, 0, none⟩) n n) n (madeCells (Value.int .u64 0).cells (n * 1)).toList) : Row w g (List.replicate n 0) := by
  rcases h.2 with ⟨h1, _⟩ | ⟨g', cap, cur, h1, _, hh, _, _, hsz, htk⟩
  · cases h1
  · simp only [Value.slice.injEq, Option.some.injEq, Addr.mk.injEq, true_and, and_true] at h1
    obtain ⟨rfl, rfl⟩ := h1
    rw [made_cells, List.take_of_length_le (by simp [hsz])] at htk
    unfold Row
    rw [hh, ← htk]

set_option maxRecDepth 100000 in
set_option maxHeartbeats 2000000 in
theorem product_any (va vb : Value) (la lb : List Nat) (w : World) (ha : Nats w va la) (hb : Nats w vb lb) (da : Dig la) (db : Dig lb) (hla : la.length ≤ 1000000) (hlb : lb.length ≤ 1000000) :
    Calls Tryd.prog 59 #[va, vb] w fun e W' => ∃ v, e = .returned v ∧ IsNat W' v (toN la * toN lb) ∧ Fresh w.heap.size v ∧ Below w.heap.size w W' := by
  obtain ⟨pa, capa, rfl, ha1, ha2, ha3⟩ := ha
  obtain ⟨pb, capb, rfl, hb1, hb2, hb3⟩ := hb
  have HA := Lib.hid ha3; clear ha3
  have HB := Lib.hid hb3; clear hb3
  obtain ⟨i0, hi, hz0, hz1, hz2⟩ := info_parts info_u64
  have HI := Lib.hid (And.intro hi (And.intro hz0 (And.intro hz1 hz2))); clear hi hz0 hz1 hz2
  have HD := Lib.hid (And.intro da db); clear da db
  go_enter Tryd.func59, Tryd.ntmps59
  go_wp2_with (at_make; refine wpList_make_full _ rfl _ _ 44 rfl w.heap.size 67 i0 (.int .u64 0) 1 Tryd.underlying44 HI.out.1 HI.out.2.1 HI.out.2.2.1 .i64 .i64 _ _ (la.length + lb.length) rfl rfl (by omega) (by omega) (by rw [HI.out.2.2.2]; omega) (by unfold maxLen; omega) (Nat.le_refl _) ?_; intro w1 hown hgrow)
  have hrow := Row.of_made hown
  have hB1 : Below w.heap.size w w1 := (Below.refl _ w).grown hgrow (Nat.le_refl _) (fun k e => by cases e)
  have hgl := hrow.lt
  clear hown hgrow
  generalize hg : w.heap.size = g at *
  have HG := Lib.hid hg; clear hg
  go_loopw [20] (fun x wr => ∃ (k : Nat) (o : List Nat), k ≤ la.length ∧ x = .int .i64 k ∧ Row wr g o ∧ o.length = la.length + lb.length ∧ Hid (Dig o) ∧ Hid (toN o = toN (la.take k) * toN lb) ∧ Hid (∀ m, k + lb.length ≤ m → o.getD m 0 = 0) ∧ Below g w wr)
    (fun x _ => la.length - (intOf x).toNat)
  case atStart =>
    exact ⟨0, List.replicate (la.length + lb.length) 0, Nat.zero_le _, rfl, hrow, List.length_replicate, Dig.replicate _, by show toN _ = _; rw [toN_replicate]; simp [toN], fun m _ => by rw [List.getD_eq_getElem?_getD, List.getElem?_replicate]; split <;> rfl, hB1⟩
  case round =>
    clear hrow hB1 hgl
    obtain ⟨k, o, hk, rfl, hrow, hlen, hdig, hval, hzero, hbel⟩ := hrel
    by_cases hlt : k < la.length
    · obtain ⟨ab, aoff, rfl, hca⟩ := HA.out (by intro e; subst e; simp at hlt)
      have hx := HD.out.1.getD k
      have ca0 := hca k hlt
      have cax : wr.cell? ⟨ab, aoff + k, none⟩ = some (.int .u64 (la.getD k 0 : Nat)) := (hbel.cell (p := ⟨ab, aoff + k, none⟩) (by rw [← HG.out]; exact World.block_lt_of_cell? w _ ca0)).trans ca0
      clear ca0 hca
      have hstart : Hid (toN o + B ^ (k + 0) * 0 = toN (la.take k) * toN lb + B ^ k * (la.getD k 0 * toN (lb.take 0))) := by
        show toN o + B ^ (k + 0) * 0 = _
        rw [hval.out]; simp [toN]
      clear hval
      have HO := Lib.hid (fun o c => mul_outer (o := o) (c := c) (a := la) (b := lb) (i := k) hlt)
      have HI2 := Lib.hid (fun o j c h1 h2 h3 h4 h => mul_inner (o := o) (i := k) (j := j) (x := la.getD k 0) (c := c) (S := toN (la.take k) * toN lb) (b := lb) h1 h2 h3 HD.out.2 hx h4 h)
      have HS := Lib.hid (fun o j c (h1 : k + j < List.length o) h2 h4 => mul_step (o := o) (k := k + j) (x := la.getD k 0) (y := lb.getD j 0) (c := c) h1 h2 hx (HD.out.2.getD j) h4)
      generalize la.getD k 0 = x at *
      obtain ⟨wo, hwo⟩ : ∃ wo : World, wo = wr := ⟨_, rfl⟩
      subst hwo
      go_wp2
      go_loopw [8, 27] (fun y z wr => ∃ (c j : Nat) (o : List Nat), j ≤ lb.length ∧ y = .int .u64 c ∧ z = .int .i64 j ∧ c < 1000000000 ∧ Row wr g o ∧ o.length = la.length + lb.length ∧ Hid (Dig o) ∧
          Hid (toN o + B ^ (k + j) * c = toN (la.take k) * toN lb + B ^ k * (x * toN (lb.take j))) ∧ Hid (∀ m, k + lb.length ≤ m → o.getD m 0 = 0) ∧ Below g w wr)
        (fun _ z _ => lb.length - (intOf z).toNat)
      case atStart => exact ⟨0, 0, o, Nat.zero_le _, rfl, rfl, by omega, hrow, hlen, hdig, hstart, hzero, hbel⟩
      case round =>
        clear hrow hlen hdig hstart hzero hbel cax o
        obtain ⟨c, j, o, hj, rfl, rfl, hc, hrow, hlen, hdig, hval, hzero, hbel⟩ := hrel
        by_cases hjl : j < lb.length
        · obtain ⟨bb, boff, rfl, hcb⟩ := HB.out (by intro e; subst e; simp at hjl)
          have hy := HD.out.2.getD j
          have cb0 := hcb j hjl
          have cbx : wr.cell? ⟨bb, boff + j, none⟩ = some (.int .u64 (lb.getD j 0 : Nat)) := (hbel.cell (p := ⟨bb, boff + j, none⟩) (by rw [← HG.out]; exact World.block_lt_of_cell? w _ cb0)).trans cb0
          clear cb0 hcb
          have hko : k + j < o.length := by omega
          have co := hrow.cell hko
          have hd := hdig.out.getD (k + j)
          have fo := hrow.frozen (k + j)
          have S1 := HS.out o j c hko hdig.out hc
          have S2 := HI2.out o j c hko hjl hdig.out hc hval.out
          have hxy := mul_bd hx hy
          generalize o.getD (k + j) 0 = d at *
          generalize lb.getD j 0 = y at *
          have hP0 : 0 ≤ (x : Int) * (y : Int) := by rw [← Int.natCast_mul]; omega
          have hP1 : (x : Int) * (y : Int) ≤ 999999998000000001 := by rw [← Int.natCast_mul]; omega
          have hT : (((d + x * y + c : Nat)) : Int) = (d : Int) + (x : Int) * (y : Int) + (c : Int) := by rw [Int.natCast_add, Int.natCast_add, Int.natCast_mul]
          have hT1 : ((((d + x * y + c) / 1000000000 : Nat)) : Int) = ((d : Int) + (x : Int) * (y : Int) + (c : Int)) / 1000000000 := by rw [Int.natCast_ediv, hT]; rfl
          have hT2 : ((((d + x * y + c) % 1000000000 : Nat)) : Int) = ((d : Int) + (x : Int) * (y : Int) + (c : Int)) % 1000000000 := by rw [Int.natCast_emod, hT]; rfl
          have HT1 := Lib.hid hT1
          have HT2 := Lib.hid hT2
          have R1 := Lib.hid S1; have R2 := Lib.hid S2
          clear hT hT1 hT2 S1 S2 hxy
          have R3 := hrow.set (k + j) ((d + x * y + c) % 1000000000)
          rw [HT2.out] at R3
          have RR := Lib.hid R3; clear R3
          go_wp2
          go_roundw
          case rel =>
            obtain ⟨r1, r2, _⟩ := R1.out
            refine ⟨(d + x * y + c) / 1000000000, j + 1, o.set (k + j) ((d + x * y + c) % 1000000000), by omega, by rw [HT1.out], by go_num, r1, RR.out, by rw [List.length_set]; exact hlen, hdig.out.set _ r2, R2.out, ?_, ?_⟩
            · exact fun m hm => by rw [getD_set_ne _ _ _ _ (by omega)]; exact hzero.out m hm
            · exact hbel.setCell (p := ⟨g, k + j, none⟩) (Nat.le_refl _) _
          case measure => simp [intOf]; omega
        · have ej : j = lb.length := by omega
          subst ej
          have hk2 : k + lb.length < o.length := by omega
          have F1 := HO.out o c hk2 hval.out (hzero.out _ (Nat.le_refl _))
          have HF := Lib.hid F1; clear F1
          have co := hrow.cell hk2
          have fo := hrow.frozen (k + lb.length)
          have RR := Lib.hid (hrow.set (k + lb.length) c)
          clear hval
          go_wp2
          go_roundw
          case rel =>
            refine ⟨k + 1, o.set (k + lb.length) c, by omega, by go_num, RR.out, by rw [List.length_set]; exact hlen, hdig.out.set _ hc, HF.out, ?_, ?_⟩
            · exact fun m hm => by rw [getD_set_ne _ _ _ _ (by omega)]; exact hzero.out m (by omega)
            · exact hbel.setCell (p := ⟨g, k + lb.length, none⟩) (Nat.le_refl _) _
          case measure => simp [intOf]; omega
    · have ek : k = la.length := by omega
      have hv : toN o = toN la * toN lb := by have := hval.out; rwa [ek, List.take_length] at this
      have hN0 : Nats wr (.slice (some ⟨g, 0, none⟩) o.length (la.length + lb.length)) o := hrow.nats (by omega) (by omega)
      have ct := trimmed_at _ _ o wr hN0 hdig.out
      have hn := hN0.take (dg_prefix hdig.out)
      clear hN0
      rw [hv] at ct hn
      rw [hlen] at ct
      have CT := Lib.hid ct
      have HN := Lib.hid hn
      clear hval hzero ct hn hv ek
      go_wp2_with fail
      refine CT.out.mono ?_
      clear CT
      rintro e w' ⟨rfl, rfl⟩
      go_wp2
      go_ret
      exact ⟨_, rfl, HN.out, fun k hk => by cases hk; exact Nat.le_of_eq HG.out, by rw [HG.out]; exact hbel⟩
end Go.Proofs.YtajonpcmgebbbaaDoor
