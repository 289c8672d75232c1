/- Parts of the proof of the text YtmafghdgmdbpnaaGreatDoorQZ32. -/
import Derived.Test.YtmafghdgmdbpnaaGreatDoorQZ4
/- The walks of signed integers: reading a text, products. -/
namespace Go.Proofs.YtmafghdgmdbpnaaGreatDoor
open Go.RowKit

theorem szB_len (s : ByteArray) (hs : s.size ≤ 1000000) : (szB s).size ≤ 1000000 := Nat.le_trans (szB_size s) hs

theorem Nats.setCell {w : World} {v : Value} {l : List Nat} {base : Nat} (h : Nats w v l) (hf : Fresh base v) {a : Addr} (ha : a.block < base) (u : Value) : Nats (w.setCell a u) v l := by
  obtain ⟨p, cap, rfl, h1, h2, h3⟩ := h
  refine ⟨p, cap, rfl, h1, h2, fun hne => ?_⟩
  obtain ⟨b, off, e, hc⟩ := h3 hne
  refine ⟨b, off, e, fun i hi => ?_⟩
  have hb : base ≤ b := hf b (by rw [e]; rfl)
  exact (World.cell?_of_block (Below.heap_setCell _ _ _ _ (by show b ≠ a.block; omega))).trans (hc i hi)
theorem IsNat.setCell {w : World} {v : Value} {n base : Nat} (h : IsNat w v n) (hf : Fresh base v) {a : Addr} (ha : a.block < base) (u : Value) : IsNat (w.setCell a u) v n := Nats.setCell h hf ha u

theorem two_back {w : World} {b : Nat} {x0 x1 : Value} (c0 : w.cell? ⟨b, 0, none⟩ = some x0) (c1 : w.cell? ⟨b, 1, none⟩ = some x1) (X Y : Value) :
    (w.setCell ⟨b, 0, none⟩ X).cell? ⟨b, 0, none⟩ = some X ∧ ((w.setCell ⟨b, 0, none⟩ X).setCell ⟨b, 1, none⟩ Y).cell? ⟨b, 1, none⟩ = some Y := by
  have h0 : (w.setCell ⟨b, 0, none⟩ X).cell? ⟨b, 0, none⟩ = some X := World.cell?_setCell_same' _ _ _ (by rw [c0]; rfl)
  refine ⟨h0, World.cell?_setCell_same' _ _ _ ?_⟩
  have : (w.setCell ⟨b, 0, none⟩ X).cell? ⟨b, 1, none⟩ = some x1 := by go_cell
  rw [this]; rfl

set_option maxHeartbeats 400000 in
theorem read_any (s : ByteArray) (w : World) (hs : s.size ≤ 1000000) (hc : chk s.data.toList = 0) :
    Calls Tryz.prog 118 #[.string s] w fun e W' => ∃ v, e = .returned (.agg #[.bool (isNeg s.data.toList), v]) ∧ IsNat W' v (natOf (szL s.data.toList)) ∧ Fresh w.heap.size v ∧ Below w.heap.size w W' := by
  have hd := chk_dig hc
  clear hc
  have c := fun w => readNatural_any (szB s) w (szB_len s hs) (by rw [szB_data]; exact hd)
  rw [szB_data] at c
  have C := Lib.hid c; clear c hd
  generalize natOf (szL s.data.toList) = n at *
  have k0 := cell_two_new w (.bool false) (.slice none 0 0) 148
  go_enter Tryz.func118, Tryz.ntmps118
  go_wp2_with fail
  refine (isNegative_any s _).mono ?_
  rintro e w' ⟨rfl, rfl⟩
  go_wp2_with fail
  refine (sizeText_any s _ (by unfold maxLen; omega)).mono ?_
  rintro e w' ⟨rfl, rfl⟩
  go_wp2_with fail
  refine (C.out _).mono ?_
  rintro e w1 ⟨v, rfl, hv, hf, hb⟩
  clear C
  obtain ⟨p, cap, hv1, _⟩ := id hv
  subst hv1
  have c0 : w1.cell? ⟨w.heap.size, 0, none⟩ = some (.bool false) := (hb.cell (p := ⟨w.heap.size, 0, none⟩) (by simp)).trans (by go_cell)
  have c1 : w1.cell? ⟨w.heap.size, 1, none⟩ = some (.slice none 0 0) := (hb.cell (p := ⟨w.heap.size, 1, none⟩) (by simp)).trans (by go_cell)
  have f0 : w1.frozen? ⟨w.heap.size, 0, none⟩ = false := (hb.frozen (p := ⟨w.heap.size, 0, none⟩) (by simp)).trans (by simp [go_sem])
  have f1 : w1.frozen? ⟨w.heap.size, 1, none⟩ = false := (hb.frozen (p := ⟨w.heap.size, 1, none⟩) (by simp)).trans (by simp [go_sem])
  have HV := Lib.hid (And.intro hv (And.intro hf hb)); clear hv hf hb
  clear k0
  have hback := two_back c0 c1 (.bool (isNeg s.data.toList)) (.slice p (dg n).length cap)
  obtain ⟨b0, b1⟩ := hback
  go_wp2
  refine bodyPost_ret (v := .agg #[.bool (isNeg s.data.toList), .slice p (dg n).length cap]) (by simp [results, Tryz.results118, go_sem, b0, b1]) rfl ?_
  refine ⟨_, rfl, ?_⟩
  obtain ⟨hv, hf, hb⟩ := HV.out
  have hf' : Fresh (w.heap.size + 1) (.slice p (dg n).length cap) := hf.mono (by simp)
  refine ⟨(hv.setCell hf' (Nat.lt_succ_self _) _).setCell hf' (Nat.lt_succ_self _) _, hf'.mono (by omega), ?_⟩
  exact ((((Below.refl _ w).alloc (Nat.le_refl _) _).trans (hb.mono (by simp))).setCell (p := ⟨w.heap.size, 0, none⟩) (Nat.le_refl _) _).setCell (p := ⟨w.heap.size, 1, none⟩) (Nat.le_refl _) _
end Go.Proofs.YtmafghdgmdbpnaaGreatDoor

/- Plain mathematics: products by hand, digit by digit. -/
namespace Go.Proofs.YtmafghdgmdbpnaaGreatDoor

theorem getD_lt {l : List Nat} {k : Nat} (h : k < l.length) : l.getD k 0 = l[k] := by
  rw [List.getD_eq_getElem?_getD, List.getElem?_eq_getElem h]; rfl
theorem toN_set (l : List Nat) (k d : Nat) (h : k < l.length) : toN (l.set k d) + B ^ k * l.getD k 0 = toN l + B ^ k * d := by
  induction l generalizing k with
  | nil => simp at h
  | cons a r ih =>
    cases k with
    | zero => simp [toN]; omega
    | succ k =>
      have h1 := ih k (by simpa using h)
      simp only [List.set_cons_succ, toN, List.getD_cons_succ, Nat.pow_succ]
      have h2 : B * toN (r.set k d) + B * (B ^ k * r.getD k 0) = B * toN r + B * (B ^ k * d) := by rw [← Nat.mul_add, ← Nat.mul_add, h1]
      rw [Nat.mul_comm (B ^ k) B, Nat.mul_assoc, Nat.mul_assoc]
      omega
theorem Dig.set {l : List Nat} (h : Dig l) (k : Nat) {d : Nat} (hd : d < 1000000000) : Dig (l.set k d) := fun x hx => by
  rcases List.mem_or_eq_of_mem_set hx with hx | rfl
  · exact h x hx
  · exact hd
theorem getD_set_ne (l : List Nat) (k m d : Nat) (h : k ≠ m) : (l.set k d).getD m 0 = l.getD m 0 := by
  rw [List.getD_eq_getElem?_getD, List.getD_eq_getElem?_getD, List.getElem?_set_ne h]

theorem mul_bd {x y : Nat} (hx : x < 1000000000) (hy : y < 1000000000) : x * y ≤ 999999998000000001 := by
  have := Nat.mul_le_mul (show x ≤ 999999999 by omega) (show y ≤ 999999999 by omega)
  omega

/-- a step of the inner loop -/
theorem mul_step {o : List Nat} {k x y c : Nat} (hk : k < o.length) (ho : Dig o) (hx : x < 1000000000) (hy : y < 1000000000) (hc : c < 1000000000) :
    let t := o.getD k 0 + x * y + c
    t / 1000000000 < 1000000000 ∧ t % 1000000000 < 1000000000 ∧ toN (o.set k (t % 1000000000)) + B ^ (k + 1) * (t / 1000000000) = toN o + B ^ k * (x * y + c) := by
  intro t
  have h1 := mul_bd hx hy
  have h2 := ho.getD k
  have h3 : t < 1000000000 * 1000000000 := by show o.getD k 0 + x * y + c < _; omega
  refine ⟨by omega, by omega, ?_⟩
  have h4 := toN_set o k (t % 1000000000) hk
  have h5 : B ^ k * t = B ^ k * (t % 1000000000) + B ^ (k + 1) * (t / 1000000000) := by
    rw [Nat.pow_succ, Nat.mul_assoc, ← Nat.mul_add, B_eq]
    congr 1
    omega
  have h6 : B ^ k * t = B ^ k * o.getD k 0 + B ^ k * (x * y + c) := by
    rw [← Nat.mul_add]; congr 1; show o.getD k 0 + x * y + c = _; omega
  omega

/-- the invariant of the inner loop, a step on -/
theorem mul_inner {o : List Nat} {i j x c S : Nat} {b : List Nat} (hk : i + j < o.length) (hj : j < b.length) (ho : Dig o) (hb : Dig b) (hx : x < 1000000000) (hc : c < 1000000000)
    (h : toN o + B ^ (i + j) * c = S + B ^ i * (x * toN (b.take j))) :
    let t := o.getD (i + j) 0 + x * b.getD j 0 + c
    toN (o.set (i + j) (t % 1000000000)) + B ^ (i + (j + 1)) * (t / 1000000000) = S + B ^ i * (x * toN (b.take (j + 1))) := by
  intro t
  obtain ⟨_, _, h3⟩ := mul_step hk ho hx (hb.getD j) hc
  rw [← Nat.add_assoc i j 1]
  refine h3.trans ?_
  rw [toN_take_succ b j hj, Nat.mul_add x, Nat.mul_add (B ^ i), Nat.mul_add (B ^ (i + j))]
  have h4 : B ^ i * (x * (B ^ j * b.getD j 0)) = B ^ (i + j) * (x * b.getD j 0) := by
    rw [Nat.pow_add, Nat.mul_assoc]; congr 1
    rw [← Nat.mul_assoc, ← Nat.mul_assoc, Nat.mul_comm x]
  omega
/-- the invariant of the outer loop, a step on -/
theorem mul_outer {o : List Nat} {i c : Nat} {a b : List Nat} (hi : i < a.length) (hk : i + b.length < o.length)
    (h : toN o + B ^ (i + b.length) * c = toN (a.take i) * toN b + B ^ i * (a.getD i 0 * toN (b.take b.length))) (hz : o.getD (i + b.length) 0 = 0) :
    toN (o.set (i + b.length) c) = toN (a.take (i + 1)) * toN b := by
  have h1 := toN_set o (i + b.length) c hk
  rw [hz, Nat.mul_zero, Nat.add_zero] at h1
  rw [List.take_length] at h
  rw [h1, h, toN_take_succ a i hi, Nat.add_mul, Nat.mul_assoc (B ^ i)]
end Go.Proofs.YtmafghdgmdbpnaaGreatDoor

/- The walk of the product. -/
namespace Go.Proofs.YtmafghdgmdbpnaaGreatDoor
open Go.RowKit

/-- block g is the call's own row of these digits -/
def Row (w : World) (g : Nat) (l : List Nat) : Prop := w.heap[g]? = some (.cells (cells64 l).toArray 162 (0, 0))
theorem Row.cell {w : World} {g : Nat} {l : List Nat} (h : Row w g l) {i : Nat} (hi : i < l.length) : w.cell? ⟨g, i, none⟩ = some (.int .u64 (l.getD i 0 : Nat)) := by
  rw [cell_of_row w g i _ _ (0, 0) h]
  simp [cells64, hi]
theorem Row.frozen {w : World} {g : Nat} {l : List Nat} (h : Row w g l) (i : Nat) : w.frozen? ⟨g, i, none⟩ = false := by
  unfold Row at h
  simp [World.frozen?, h]
theorem Row.set {w : World} {g : Nat} {l : List Nat} (h : Row w g l) (i : Nat) (x : Nat) : Row (w.setCell ⟨g, i, none⟩ (.int .u64 (x : Nat))) g (l.set i x) := by
  unfold Row at h ⊢
  simp [World.setCell, Array.getElem?_modify, h, cells64, List.map_set]
theorem Row.lt {w : World} {g : Nat} {l : List Nat} (h : Row w g l) : g < w.heap.size := (Array.getElem?_eq_some_iff.1 h).1
theorem Row.nats {w : World} {g : Nat} {l : List Nat} (h : Row w g l) {cap : Nat} (h1 : l.length ≤ cap) (h2 : cap ≤ 9223372036854775807) : Nats w (.slice (some ⟨g, 0, none⟩) l.length cap) l :=
  Nats.of_cells h1 h2 (fun _ hi => h.cell hi)

theorem made_cells (n : Nat) : (madeCells (Value.int .u64 0).cells (n * 1)).toList = cells64 (List.replicate n 0) := by
  rw [Nat.mul_one]
  have h : (Value.int .u64 0).cells = #[.int .u64 0] := by simp [Value.cells]
  rw [h, toList_madeCells_one]
  simp [cells64]
theorem Row.of_made {w : World} {base g n : Nat} (h : w.ownsRow base 162 1 (.slice (some ⟨g, 0, none⟩) n n) n (madeCells (Value.int .u64 0).cells (n * 1)).toList) : Row w g (List.replicate n 0) := by
  rcases h.2 with ⟨h1, _⟩ | ⟨g', cap, cur, h1, _, hh, _, _, hsz, htk⟩
  · cases h1
  · simp only [Value.slice.injEq, Option.some.injEq, Addr.mk.injEq, true_and, and_true] at h1
    obtain ⟨rfl, rfl⟩ := h1
    rw [made_cells, List.take_of_length_le (by simp [hsz])] at htk
    unfold Row
    rw [hh, ← htk]

set_option maxRecDepth 100000 in
set_option maxHeartbeats 2000000 in
theorem product_any (va vb : Value) (la lb : List Nat) (w : World) (ha : Nats w va la) (hb : Nats w vb lb) (da : Dig la) (db : Dig lb) (hla : la.length ≤ 1000000) (hlb : lb.length ≤ 1000000) :
    Calls Tryz.prog 260 #[va, vb] w fun e W' => ∃ v, e = .returned v ∧ IsNat W' v (toN la * toN lb) ∧ Fresh w.heap.size v ∧ Below w.heap.size w W' := by
  obtain ⟨pa, capa, rfl, ha1, ha2, ha3⟩ := ha
  obtain ⟨pb, capb, rfl, hb1, hb2, hb3⟩ := hb
  have HA := Lib.hid ha3; clear ha3
  have HB := Lib.hid hb3; clear hb3
  obtain ⟨i0, hi, hz0, hz1, hz2⟩ := info_parts info_u64
  have HI := Lib.hid (And.intro hi (And.intro hz0 (And.intro hz1 hz2))); clear hi hz0 hz1 hz2
  have HD := Lib.hid (And.intro da db); clear da db
  go_enter Tryz.func260, Tryz.ntmps260
  go_wp2_with (at_make; refine wpList_make_full _ rfl _ _ 146 rfl w.heap.size 162 i0 (.int .u64 0) 1 Tryz.underlying146 HI.out.1 HI.out.2.1 HI.out.2.2.1 .i64 .i64 _ _ (la.length + lb.length) rfl rfl (by omega) (by omega) (by rw [HI.out.2.2.2]; omega) (by unfold maxLen; omega) (Nat.le_refl _) ?_; intro w1 hown hgrow)
  have hrow := Row.of_made hown
  have hB1 : Below w.heap.size w w1 := (Below.refl _ w).grown hgrow (Nat.le_refl _) (fun k e => by cases e)
  have hgl := hrow.lt
  clear hown hgrow
  generalize hg : w.heap.size = g at *
  have HG := Lib.hid hg; clear hg
  go_loopw [20] (fun x wr => ∃ (k : Nat) (o : List Nat), k ≤ la.length ∧ x = .int .i64 k ∧ Row wr g o ∧ o.length = la.length + lb.length ∧ Hid (Dig o) ∧ Hid (toN o = toN (la.take k) * toN lb) ∧ Hid (∀ m, k + lb.length ≤ m → o.getD m 0 = 0) ∧ Below g w wr)
    (fun x _ => la.length - (intOf x).toNat)
  case atStart =>
    exact ⟨0, List.replicate (la.length + lb.length) 0, Nat.zero_le _, rfl, hrow, List.length_replicate, Dig.replicate _, by show toN _ = _; rw [toN_replicate]; simp [toN], fun m _ => by rw [List.getD_eq_getElem?_getD, List.getElem?_replicate]; split <;> rfl, hB1⟩
  case round =>
    clear hrow hB1 hgl
    obtain ⟨k, o, hk, rfl, hrow, hlen, hdig, hval, hzero, hbel⟩ := hrel
    by_cases hlt : k < la.length
    · obtain ⟨ab, aoff, rfl, hca⟩ := HA.out (by intro e; subst e; simp at hlt)
      have hx := HD.out.1.getD k
      have ca0 := hca k hlt
      have cax : wr.cell? ⟨ab, aoff + k, none⟩ = some (.int .u64 (la.getD k 0 : Nat)) := (hbel.cell (p := ⟨ab, aoff + k, none⟩) (by rw [← HG.out]; exact World.block_lt_of_cell? w _ ca0)).trans ca0
      clear ca0 hca
      have hstart : Hid (toN o + B ^ (k + 0) * 0 = toN (la.take k) * toN lb + B ^ k * (la.getD k 0 * toN (lb.take 0))) := by
        show toN o + B ^ (k + 0) * 0 = _
        rw [hval.out]; simp [toN]
      clear hval
      have HO := Lib.hid (fun o c => mul_outer (o := o) (c := c) (a := la) (b := lb) (i := k) hlt)
      have HI2 := Lib.hid (fun o j c h1 h2 h3 h4 h => mul_inner (o := o) (i := k) (j := j) (x := la.getD k 0) (c := c) (S := toN (la.take k) * toN lb) (b := lb) h1 h2 h3 HD.out.2 hx h4 h)
      have HS := Lib.hid (fun o j c (h1 : k + j < List.length o) h2 h4 => mul_step (o := o) (k := k + j) (x := la.getD k 0) (y := lb.getD j 0) (c := c) h1 h2 hx (HD.out.2.getD j) h4)
      generalize la.getD k 0 = x at *
      obtain ⟨wo, hwo⟩ : ∃ wo : World, wo = wr := ⟨_, rfl⟩
      subst hwo
      go_wp2
      go_loopw [8, 27] (fun y z wr => ∃ (c j : Nat) (o : List Nat), j ≤ lb.length ∧ y = .int .u64 c ∧ z = .int .i64 j ∧ c < 1000000000 ∧ Row wr g o ∧ o.length = la.length + lb.length ∧ Hid (Dig o) ∧
          Hid (toN o + B ^ (k + j) * c = toN (la.take k) * toN lb + B ^ k * (x * toN (lb.take j))) ∧ Hid (∀ m, k + lb.length ≤ m → o.getD m 0 = 0) ∧ Below g w wr)
        (fun _ z _ => lb.length - (intOf z).toNat)
      case atStart => exact ⟨0, 0, o, Nat.zero_le _, rfl, rfl, by omega, hrow, hlen, hdig, hstart, hzero, hbel⟩
      case round =>
        clear hrow hlen hdig hstart hzero hbel cax o
        obtain ⟨c, j, o, hj, rfl, rfl, hc, hrow, hlen, hdig, hval, hzero, hbel⟩ := hrel
        by_cases hjl : j < lb.length
        · obtain ⟨bb, boff, rfl, hcb⟩ := HB.out (by intro e; subst e; simp at hjl)
          have hy := HD.out.2.getD j
          have cb0 := hcb j hjl
          have cbx : wr.cell? ⟨bb, boff + j, none⟩ = some (.int .u64 (lb.getD j 0 : Nat)) := (hbel.cell (p := ⟨bb, boff + j, none⟩) (by rw [← HG.out]; exact World.block_lt_of_cell? w _ cb0)).trans cb0
          clear cb0 hcb
          have hko : k + j < o.length := by omega
          have co := hrow.cell hko
          have hd := hdig.out.getD (k + j)
          have fo := hrow.frozen (k + j)
          have S1 := HS.out o j c hko hdig.out hc
          have S2 := HI2.out o j c hko hjl hdig.out hc hval.out
          have hxy := mul_bd hx hy
          generalize o.getD (k + j) 0 = d at *
          generalize lb.getD j 0 = y at *
          have hP0 : 0 ≤ (x : Int) * (y : Int) := by rw [← Int.natCast_mul]; omega
          have hP1 : (x : Int) * (y : Int) ≤ 999999998000000001 := by rw [← Int.natCast_mul]; omega
          have hT : (((d + x * y + c : Nat)) : Int) = (d : Int) + (x : Int) * (y : Int) + (c : Int) := by rw [Int.natCast_add, Int.natCast_add, Int.natCast_mul]
          have hT1 : ((((d + x * y + c) / 1000000000 : Nat)) : Int) = ((d : Int) + (x : Int) * (y : Int) + (c : Int)) / 1000000000 := by rw [Int.natCast_ediv, hT]; rfl
          have hT2 : ((((d + x * y + c) % 1000000000 : Nat)) : Int) = ((d : Int) + (x : Int) * (y : Int) + (c : Int)) % 1000000000 := by rw [Int.natCast_emod, hT]; rfl
          have HT1 := Lib.hid hT1
          have HT2 := Lib.hid hT2
          have R1 := Lib.hid S1; have R2 := Lib.hid S2
          clear hT hT1 hT2 S1 S2 hxy
          have R3 := hrow.set (k + j) ((d + x * y + c) % 1000000000)
          rw [HT2.out] at R3
          have RR := Lib.hid R3; clear R3
          go_wp2
          go_roundw
          case rel =>
            obtain ⟨r1, r2, _⟩ := R1.out
            refine ⟨(d + x * y + c) / 1000000000, j + 1, o.set (k + j) ((d + x * y + c) % 1000000000), by omega, by rw [HT1.out], by go_num, r1, RR.out, by rw [List.length_set]; exact hlen, hdig.out.set _ r2, R2.out, ?_, ?_⟩
            · exact fun m hm => by rw [getD_set_ne _ _ _ _ (by omega)]; exact hzero.out m hm
            · exact hbel.setCell (p := ⟨g, k + j, none⟩) (Nat.le_refl _) _
          case measure => simp [intOf]; omega
        · have ej : j = lb.length := by omega
          subst ej
          have hk2 : k + lb.length < o.length := by omega
          have F1 := HO.out o c hk2 hval.out (hzero.out _ (Nat.le_refl _))
          have HF := Lib.hid F1; clear F1
          have co := hrow.cell hk2
          have fo := hrow.frozen (k + lb.length)
          have RR := Lib.hid (hrow.set (k + lb.length) c)
          clear hval
          go_wp2
          go_roundw
          case rel =>
            refine ⟨k + 1, o.set (k + lb.length) c, by omega, by go_num, RR.out, by rw [List.length_set]; exact hlen, hdig.out.set _ hc, HF.out, ?_, ?_⟩
            · exact fun m hm => by rw [getD_set_ne _ _ _ _ (by omega)]; exact hzero.out m (by omega)
            · exact hbel.setCell (p := ⟨g, k + lb.length, none⟩) (Nat.le_refl _) _
          case measure => simp [intOf]; omega
    · have ek : k = la.length := by omega
      have hv : toN o = toN la * toN lb := by have := hval.out; rwa [ek, List.take_length] at this
      have hN0 : Nats wr (.slice (some ⟨g, 0, none⟩) o.length (la.length + lb.length)) o := hrow.nats (by omega) (by omega)
      have ct := trimmed_at _ _ o wr hN0 hdig.out
      have hn := hN0.take (dg_prefix hdig.out)
      clear hN0
      rw [hv] at ct hn
      rw [hlen] at ct
      have CT := Lib.hid ct
      have HN := Lib.hid hn
      clear hval hzero ct hn hv ek
      go_wp2_with fail
      refine CT.out.mono ?_
      clear CT
      rintro e w' ⟨rfl, rfl⟩
      go_wp2
      go_ret
      exact ⟨_, rfl, HN.out, fun k hk => by cases hk; exact Nat.le_of_eq HG.out, by rw [HG.out]; exact hbel⟩
end Go.Proofs.YtmafghdgmdbpnaaGreatDoor

/- Plain mathematics: sums and differences, digit by digit. -/
namespace Go.Proofs.YtmafghdgmdbpnaaGreatDoor

def mkD (n : Nat) : Dg := ⟨n % 1000000000, Nat.mod_lt _ (by decide)⟩
theorem mkD_val {n : Nat} (h : n < 1000000000) : (mkD n).1 = n := Nat.mod_eq_of_lt h
/-- the pairs of digits of a and b, as they come -/
def prs (la lb : List Nat) (k : Nat) : List (Dg × Dg) := (List.range k).map fun i => (mkD (la.getD i 0), mkD (lb.getD i 0))
theorem prs_succ (la lb : List Nat) (k : Nat) : prs la lb (k + 1) = prs la lb k ++ [(mkD (la.getD k 0), mkD (lb.getD k 0))] := by
  unfold prs; rw [List.range_succ, List.map_append]; rfl
theorem prs_length (la lb : List Nat) (k : Nat) : (prs la lb k).length = k := by simp [prs]

/-- what is made of pairs of digits, and what is carried -/
def outOf (st : Nat → Nat → Nat → Nat × Nat) (pre : List (Dg × Dg)) : List Nat × Nat :=
  pre.foldl (fun oc p => (oc.1 ++ [(st p.1.1 p.2.1 oc.2).1], (st p.1.1 p.2.1 oc.2).2)) ([], 0)
theorem outOf_snoc (st : Nat → Nat → Nat → Nat × Nat) (pre : List (Dg × Dg)) (p : Dg × Dg) :
    outOf st (pre ++ [p]) = ((outOf st pre).1 ++ [(st p.1.1 p.2.1 (outOf st pre).2).1], (st p.1.1 p.2.1 (outOf st pre).2).2) := by
  unfold outOf; rw [List.foldl_append]; rfl
theorem outOf_length (st : Nat → Nat → Nat → Nat × Nat) (pre : List (Dg × Dg)) : (outOf st pre).1.length = pre.length := by
  induction pre using snoc_ind with
  | h0 => rfl
  | hs l p ih => rw [outOf_snoc, List.length_append, List.length_append, ih]; rfl
/-- a step keeps to digits and to a carry of at most 1 -/
def Steps1 (st : Nat → Nat → Nat → Nat × Nat) : Prop := ∀ x y c, x < 1000000000 → y < 1000000000 → c ≤ 1 → (st x y c).1 < 1000000000 ∧ (st x y c).2 ≤ 1
theorem outOf_ok {st : Nat → Nat → Nat → Nat × Nat} (h : Steps1 st) (pre : List (Dg × Dg)) : Dig (outOf st pre).1 ∧ (outOf st pre).2 ≤ 1 := by
  induction pre using snoc_ind with
  | h0 => exact ⟨Dig.nil, Nat.zero_le _⟩
  | hs l p ih =>
    rw [outOf_snoc]
    have := h p.1.1 p.2.1 (outOf st l).2 p.1.2 p.2.2 ih.2
    exact ⟨ih.1.append (Dig.one this.1), this.2⟩

def addS (x y c : Nat) : Nat × Nat := if 1000000000 ≤ x + y + c then (x + y + c - 1000000000, 1) else (x + y + c, 0)
def subS (x y c : Nat) : Nat × Nat := if x < y + c then (x + 1000000000 - y - c, 1) else (x - y - c, 0)
theorem addS_ok : Steps1 addS := fun x y c hx hy hc => by unfold addS; split <;> constructor <;> simp <;> omega
theorem subS_ok : Steps1 subS := fun x y c hx hy hc => by unfold subS; split <;> constructor <;> simp <;> omega
theorem addS_eq (x y c : Nat) : (addS x y c).1 + 1000000000 * (addS x y c).2 = x + y + c := by unfold addS; split <;> simp <;> omega
theorem subS_eq (x y c : Nat) (hy : y < 1000000000) (hc : c ≤ 1) : (subS x y c).1 + y + c = x + 1000000000 * (subS x y c).2 := by unfold subS; split <;> simp <;> omega

theorem toN_take_le (l : List Nat) (k : Nat) : toN (l.take (k + 1)) = toN (l.take k) + B ^ k * l.getD k 0 := by
  by_cases h : k < l.length
  · exact toN_take_succ l k h
  · rw [List.take_of_length_le (by omega), List.take_of_length_le (by omega), List.getD_eq_getElem?_getD, List.getElem?_eq_none (by omega)]; simp

theorem add_out {la lb : List Nat} (ha : Dig la) (hb : Dig lb) (k : Nat) :
    toN (outOf addS (prs la lb k)).1 + B ^ k * (outOf addS (prs la lb k)).2 = toN (la.take k) + toN (lb.take k) := by
  induction k with
  | zero => simp [prs, outOf, toN]
  | succ k ih =>
    rw [prs_succ, outOf_snoc, toN_snoc, outOf_length, prs_length, toN_take_le, toN_take_le]
    simp only [mkD_val (ha.getD k), mkD_val (hb.getD k)]
    generalize outOf addS (prs la lb k) = oc at *
    have h1 := addS_eq (la.getD k 0) (lb.getD k 0) oc.2
    generalize addS (la.getD k 0) (lb.getD k 0) oc.2 = r at *
    have h2 : B ^ k * r.1 + B ^ (k + 1) * r.2 = B ^ k * la.getD k 0 + B ^ k * lb.getD k 0 + B ^ k * oc.2 := by
      rw [Nat.pow_succ, Nat.mul_assoc, ← Nat.mul_add, ← Nat.mul_add, ← Nat.mul_add, B_eq, h1]
    omega
theorem sub_out {la lb : List Nat} (ha : Dig la) (hb : Dig lb) (k : Nat) :
    toN (outOf subS (prs la lb k)).1 + toN (lb.take k) = toN (la.take k) + B ^ k * (outOf subS (prs la lb k)).2 := by
  induction k with
  | zero => simp [prs, outOf, toN]
  | succ k ih =>
    have hc := (outOf_ok subS_ok (prs la lb k)).2
    rw [prs_succ, outOf_snoc, toN_snoc, outOf_length, prs_length, toN_take_le, toN_take_le]
    simp only [mkD_val (ha.getD k), mkD_val (hb.getD k)]
    generalize outOf subS (prs la lb k) = oc at *
    have h1 := subS_eq (la.getD k 0) (lb.getD k 0) oc.2 (hb.getD k) hc
    generalize subS (la.getD k 0) (lb.getD k 0) oc.2 = r at *
    have h2 : B ^ k * r.1 + B ^ k * lb.getD k 0 + B ^ k * oc.2 = B ^ k * la.getD k 0 + B ^ (k + 1) * r.2 := by
      rw [Nat.pow_succ, Nat.mul_assoc, ← Nat.mul_add, ← Nat.mul_add, ← Nat.mul_add, B_eq, h1]
    omega
theorem add_total {la lb : List Nat} (ha : Dig la) (hb : Dig lb) (hl : lb.length ≤ la.length) :
    toN ((outOf addS (prs la lb la.length)).1 ++ [(outOf addS (prs la lb la.length)).2]) = toN la + toN lb := by
  have h := add_out ha hb la.length
  rw [List.take_length, List.take_of_length_le hl] at h
  rw [toN_snoc, outOf_length, prs_length]; exact h
theorem sub_total {la lb : List Nat} (ha : Dig la) (hb : Dig lb) (hl : lb.length ≤ la.length) (hle : toN lb ≤ toN la) :
    toN ((outOf subS (prs la lb la.length)).1 ++ [(outOf subS (prs la lb la.length)).2]) = toN la - toN lb := by
  have h := sub_out ha hb la.length
  rw [List.take_length, List.take_of_length_le hl] at h
  have h1 := toN_lt (outOf_ok subS_ok (prs la lb la.length)).1
  rw [outOf_length, prs_length] at h1
  rw [toN_snoc, outOf_length, prs_length]
  have h2 := (outOf_ok subS_ok (prs la lb la.length)).2
  have h3 := toN_lt ha
  generalize (outOf subS (prs la lb la.length)).2 = c at *
  generalize toN (outOf subS (prs la lb la.length)).1 = o at *
  generalize B ^ la.length = P at *
  have hc : c = 0 ∨ c = 1 := by omega
  rcases hc with rfl | rfl <;> omega
end Go.Proofs.YtmafghdgmdbpnaaGreatDoor

