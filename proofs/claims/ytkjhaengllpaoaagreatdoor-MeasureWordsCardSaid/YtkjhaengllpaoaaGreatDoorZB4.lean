/- Parts of the proof of the text YtkjhaengllpaoaaGreatDoorZB27. -/
import Derived.Test.YtkjhaengllpaoaaGreatDoorZB1
import Derived.Test.YtkjhaengllpaoaaGreatDoorZB3
set_option linter.all false
set_option maxRecDepth 100000
set_option maxHeartbeats 8000000
namespace Go.Proofs.YtkjhaengllpaoaaGreatDoor
theorem getD_lt {l : List Nat} {k : Nat} (h : k < l.length) : l.getD k 0 = l[k] := by
 rw [List.getD_eq_getElem?_getD, List.getElem?_eq_getElem h]; rfl
theorem toN_set (l : List Nat) (k d : Nat) (h : k < l.length) : toN (l.set k d) + B ^ k * l.getD k 0 = toN l + B ^ k * d := by
 induction l generalizing k with
 | nil => simp at h
 | cons a r ih =>
   cases k with
   | zero => simp [toN]; omega
   | succ k =>
     have h1 := ih k (by simpa using h)
     simp only [List.set_cons_succ, toN, List.getD_cons_succ, Nat.pow_succ]
     have h2 : B * toN (r.set k d) + B * (B ^ k * r.getD k 0) = B * toN r + B * (B ^ k * d) := by rw [← Nat.mul_add, ← Nat.mul_add, h1]
     rw [Nat.mul_comm (B ^ k) B, Nat.mul_assoc, Nat.mul_assoc]
     omega
theorem Dig.set {l : List Nat} (h : Dig l) (k : Nat) {d : Nat} (hd : d < 1000000000) : Dig (l.set k d) := fun x hx => by
 rcases List.mem_or_eq_of_mem_set hx with hx | rfl
 · exact h x hx
 · exact hd
theorem getD_set_ne (l : List Nat) (k m d : Nat) (h : k ≠ m) : (l.set k d).getD m 0 = l.getD m 0 := by
 rw [List.getD_eq_getElem?_getD, List.getD_eq_getElem?_getD, List.getElem?_set_ne h]
theorem mul_bd {x y : Nat} (hx : x < 1000000000) (hy : y < 1000000000) : x * y ≤ 999999998000000001 := by
 have := Nat.mul_le_mul (show x ≤ 999999999 by omega) (show y ≤ 999999999 by omega)
 omega
theorem mul_step {o : List Nat} {k x y c : Nat} (hk : k < o.length) (ho : Dig o) (hx : x < 1000000000) (hy : y < 1000000000) (hc : c < 1000000000) :
   let t := o.getD k 0 + x * y + c
   t / 1000000000 < 1000000000 ∧ t % 1000000000 < 1000000000 ∧ toN (o.set k (t % 1000000000)) + B ^ (k + 1) * (t / 1000000000) = toN o + B ^ k * (x * y + c) := by
 intro t
 have h1 := mul_bd hx hy
 have h2 := ho.getD k
 have h3 : t < 1000000000 * 1000000000 := by show o.getD k 0 + x * y + c < _; omega
 refine ⟨by omega, by omega, ?_⟩
 have h4 := toN_set o k (t % 1000000000) hk
 have h5 : B ^ k * t = B ^ k * (t % 1000000000) + B ^ (k + 1) * (t / 1000000000) := by
   rw [Nat.pow_succ, Nat.mul_assoc, ← Nat.mul_add, B_eq]
   congr 1
   omega
 have h6 : B ^ k * t = B ^ k * o.getD k 0 + B ^ k * (x * y + c) := by
   rw [← Nat.mul_add]; congr 1; show o.getD k 0 + x * y + c = _; omega
 omega
theorem mul_inner {o : List Nat} {i j x c S : Nat} {b : List Nat} (hk : i + j < o.length) (hj : j < b.length) (ho : Dig o) (hb : Dig b) (hx : x < 1000000000) (hc : c < 1000000000)
   (h : toN o + B ^ (i + j) * c = S + B ^ i * (x * toN (b.take j))) :
   let t := o.getD (i + j) 0 + x * b.getD j 0 + c
   toN (o.set (i + j) (t % 1000000000)) + B ^ (i + (j + 1)) * (t / 1000000000) = S + B ^ i * (x * toN (b.take (j + 1))) := by
 intro t
 obtain ⟨_, _, h3⟩ := mul_step hk ho hx (hb.getD j) hc
 rw [← Nat.add_assoc i j 1]
 refine h3.trans ?_
 rw [toN_take_succ b j hj, Nat.mul_add x, Nat.mul_add (B ^ i), Nat.mul_add (B ^ (i + j))]
 have h4 : B ^ i * (x * (B ^ j * b.getD j 0)) = B ^ (i + j) * (x * b.getD j 0) := by
   rw [Nat.pow_add, Nat.mul_assoc]; congr 1
   rw [← Nat.mul_assoc, ← Nat.mul_assoc, Nat.mul_comm x]
 omega
theorem mul_outer {o : List Nat} {i c : Nat} {a b : List Nat} (hi : i < a.length) (hk : i + b.length < o.length)
   (h : toN o + B ^ (i + b.length) * c = toN (a.take i) * toN b + B ^ i * (a.getD i 0 * toN (b.take b.length))) (hz : o.getD (i + b.length) 0 = 0) :
   toN (o.set (i + b.length) c) = toN (a.take (i + 1)) * toN b := by
 have h1 := toN_set o (i + b.length) c hk
 rw [hz, Nat.mul_zero, Nat.add_zero] at h1
 rw [List.take_length] at h
 rw [h1, h, toN_take_succ a i hi, Nat.add_mul, Nat.mul_assoc (B ^ i)]
end Go.Proofs.YtkjhaengllpaoaaGreatDoor
namespace Go.Proofs.YtkjhaengllpaoaaGreatDoor
open Go.RowKit
def Row (w : World) (g : Nat) (l : List Nat) : Prop := w.heap[g]? = some (.cells (cells64 l).toArray 124 (0, 0))
theorem Row.cell {w : World} {g : Nat} {l : List Nat} (h : Row w g l) {i : Nat} (hi : i < l.length) : w.cell? ⟨g, i, none⟩ = some (.int .u64 (l.getD i 0 : Nat)) := by
 rw [cell_of_row w g i _ _ (0, 0) h]
 simp [cells64, hi]
theorem Row.frozen {w : World} {g : Nat} {l : List Nat} (h : Row w g l) (i : Nat) : w.frozen? ⟨g, i, none⟩ = false := by
 unfold Row at h
 simp [World.frozen?, h]
theorem Row.set {w : World} {g : Nat} {l : List Nat} (h : Row w g l) (i : Nat) (x : Nat) : Row (w.setCell ⟨g, i, none⟩ (.int .u64 (x : Nat))) g (l.set i x) := by
 unfold Row at h ⊢
 simp [World.setCell, Array.getElem?_modify, h, cells64, List.map_set]
theorem Row.lt {w : World} {g : Nat} {l : List Nat} (h : Row w g l) : g < w.heap.size := (Array.getElem?_eq_some_iff.1 h).1
theorem Row.nats {w : World} {g : Nat} {l : List Nat} (h : Row w g l) {cap : Nat} (h1 : l.length ≤ cap) (h2 : cap ≤ 9223372036854775807) : Nats w (.slice (some ⟨g, 0, none⟩) l.length cap) l :=
 Nats.of_cells h1 h2 (fun _ hi => h.cell hi)
theorem made_cells (n : Nat) : (madeCells (Value.int .u64 0).cells (n * 1)).toList = cells64 (List.replicate n 0) := by
 rw [Nat.mul_one]
 have h : (Value.int .u64 0).cells = #[.int .u64 0] := by simp [Value.cells]
 rw [h, toList_madeCells_one]
 simp [cells64]
theorem Row.of_made {w : World} {base g n : Nat} (h : w.ownsRow base 124 1 (.slice (some ⟨g, 0, none⟩) n n) n (madeCells (Value.int .u64 0).cells (n * 1)).toList) : Row w g (List.replicate n 0) := by
 rcases h.2 with ⟨h1, _⟩ | ⟨g', cap, cur, h1, _, hh, _, _, hsz, htk⟩
 · cases h1
 · simp only [Value.slice.injEq, Option.some.injEq, Addr.mk.injEq, true_and, and_true] at h1
   obtain ⟨rfl, rfl⟩ := h1
   rw [made_cells, List.take_of_length_le (by simp [hsz])] at htk
   unfold Row
   rw [hh, ← htk]
theorem product_any (va vb : Value) (la lb : List Nat) (w : World) (ha : Nats w va la) (hb : Nats w vb lb) (da : Dig la) (db : Dig lb) (hla : la.length ≤ 1000000) (hlb : lb.length ≤ 1000000) :
   Calls Tryz.prog 167 #[va, vb] w fun e W' => ∃ v, e = .returned v ∧ IsNat W' v (toN la * toN lb) ∧ Fresh w.heap.size v ∧ Below w.heap.size w W' := by
 obtain ⟨pa, capa, rfl, ha1, ha2, ha3⟩ := ha
 obtain ⟨pb, capb, rfl, hb1, hb2, hb3⟩ := hb
 have HA := Lib.hid ha3; clear ha3
 have HB := Lib.hid hb3; clear hb3
 obtain ⟨i0, hi, hz0, hz1, hz2⟩ := info_parts info_u64
 have HI := Lib.hid (And.intro hi (And.intro hz0 (And.intro hz1 hz2))); clear hi hz0 hz1 hz2
 have HD := Lib.hid (And.intro da db); clear da db
 go_enter Tryz.func167, Tryz.ntmps167
 go_wp2_with (at_make; refine wpList_make_full _ rfl _ _ 145 rfl w.heap.size 124 i0 (.int .u64 0) 1 Tryz.underlying145 HI.out.1 HI.out.2.1 HI.out.2.2.1 .i64 .i64 _ _ (la.length + lb.length) rfl rfl (by omega) (by omega) (by rw [HI.out.2.2.2]; omega) (by unfold maxLen; omega) (Nat.le_refl _) ?_; intro w1 hown hgrow)
 have hrow := Row.of_made hown
 have hB1 : Below w.heap.size w w1 := (Below.refl _ w).grown hgrow (Nat.le_refl _) (fun k e => by cases e)
 have hgl := hrow.lt
 clear hown hgrow
 generalize hg : w.heap.size = g at *
 have HG := Lib.hid hg; clear hg
 go_loopw [20] (fun x wr => ∃ (k : Nat) (o : List Nat), k ≤ la.length ∧ x = .int .i64 k ∧ Row wr g o ∧ o.length = la.length + lb.length ∧ Hid (Dig o) ∧ Hid (toN o = toN (la.take k) * toN lb) ∧ Hid (∀ m, k + lb.length ≤ m → o.getD m 0 = 0) ∧ Below g w wr)
   (fun x _ => la.length - (intOf x).toNat)
 case atStart =>
   exact ⟨0, List.replicate (la.length + lb.length) 0, Nat.zero_le _, rfl, hrow, List.length_replicate, Dig.replicate _, by show toN _ = _; rw [toN_replicate]; simp [toN], fun m _ => by rw [List.getD_eq_getElem?_getD, List.getElem?_replicate]; split <;> rfl, hB1⟩
 case round =>
   clear hrow hB1 hgl
   obtain ⟨k, o, hk, rfl, hrow, hlen, hdig, hval, hzero, hbel⟩ := hrel
   by_cases hlt : k < la.length
   · obtain ⟨ab, aoff, rfl, hca⟩ := HA.out (by intro e; subst e; simp at hlt)
     have hx := HD.out.1.getD k
     have ca0 := hca k hlt
     have cax : wr.cell? ⟨ab, aoff + k, none⟩ = some (.int .u64 (la.getD k 0 : Nat)) := (hbel.cell (p := ⟨ab, aoff + k, none⟩) (by rw [← HG.out]; exact World.block_lt_of_cell? w _ ca0)).trans ca0
     clear ca0 hca
     have hstart : Hid (toN o + B ^ (k + 0) * 0 = toN (la.take k) * toN lb + B ^ k * (la.getD k 0 * toN (lb.take 0))) := by
       show toN o + B ^ (k + 0) * 0 = _
       rw [hval.out]; simp [toN]
     clear hval
     have HO := Lib.hid (fun o c => mul_outer (o := o) (c := c) (a := la) (b := lb) (i := k) hlt)
     have HI2 := Lib.hid (fun o j c h1 h2 h3 h4 h => mul_inner (o := o) (i := k) (j := j) (x := la.getD k 0) (c := c) (S := toN (la.take k) * toN lb) (b := lb) h1 h2 h3 HD.out.2 hx h4 h)
     have HS := Lib.hid (fun o j c (h1 : k + j < List.length o) h2 h4 => mul_step (o := o) (k := k + j) (x := la.getD k 0) (y := lb.getD j 0) (c := c) h1 h2 hx (HD.out.2.getD j) h4)
     generalize la.getD k 0 = x at *
     obtain ⟨wo, hwo⟩ : ∃ wo : World, wo = wr := ⟨_, rfl⟩
     subst hwo
     go_wp2
     go_loopw [8, 27] (fun y z wr => ∃ (c j : Nat) (o : List Nat), j ≤ lb.length ∧ y = .int .u64 c ∧ z = .int .i64 j ∧ c < 1000000000 ∧ Row wr g o ∧ o.length = la.length + lb.length ∧ Hid (Dig o) ∧
         Hid (toN o + B ^ (k + j) * c = toN (la.take k) * toN lb + B ^ k * (x * toN (lb.take j))) ∧ Hid (∀ m, k + lb.length ≤ m → o.getD m 0 = 0) ∧ Below g w wr)
       (fun _ z _ => lb.length - (intOf z).toNat)
     case atStart => exact ⟨0, 0, o, Nat.zero_le _, rfl, rfl, by omega, hrow, hlen, hdig, hstart, hzero, hbel⟩
     case round =>
       clear hrow hlen hdig hstart hzero hbel cax o
       obtain ⟨c, j, o, hj, rfl, rfl, hc, hrow, hlen, hdig, hval, hzero, hbel⟩ := hrel
       by_cases hjl : j < lb.length
       · obtain ⟨bb, boff, rfl, hcb⟩ := HB.out (by intro e; subst e; simp at hjl)
         have hy := HD.out.2.getD j
         have cb0 := hcb j hjl
         have cbx : wr.cell? ⟨bb, boff + j, none⟩ = some (.int .u64 (lb.getD j 0 : Nat)) := (hbel.cell (p := ⟨bb, boff + j, none⟩) (by rw [← HG.out]; exact World.block_lt_of_cell? w _ cb0)).trans cb0
         clear cb0 hcb
         have hko : k + j < o.length := by omega
         have co := hrow.cell hko
         have hd := hdig.out.getD (k + j)
         have fo := hrow.frozen (k + j)
         have S1 := HS.out o j c hko hdig.out hc
         have S2 := HI2.out o j c hko hjl hdig.out hc hval.out
         have hxy := mul_bd hx hy
         generalize o.getD (k + j) 0 = d at *
         generalize lb.getD j 0 = y at *
         have hP0 : 0 ≤ (x : Int) * (y : Int) := by rw [← Int.natCast_mul]; omega
         have hP1 : (x : Int) * (y : Int) ≤ 999999998000000001 := by rw [← Int.natCast_mul]; omega
         have hT : (((d + x * y + c : Nat)) : Int) = (d : Int) + (x : Int) * (y : Int) + (c : Int) := by rw [Int.natCast_add, Int.natCast_add, Int.natCast_mul]
         have hT1 : ((((d + x * y + c) / 1000000000 : Nat)) : Int) = ((d : Int) + (x : Int) * (y : Int) + (c : Int)) / 1000000000 := by rw [Int.natCast_ediv, hT]; rfl
         have hT2 : ((((d + x * y + c) % 1000000000 : Nat)) : Int) = ((d : Int) + (x : Int) * (y : Int) + (c : Int)) % 1000000000 := by rw [Int.natCast_emod, hT]; rfl
         have HT1 := Lib.hid hT1
         have HT2 := Lib.hid hT2
         have R1 := Lib.hid S1; have R2 := Lib.hid S2
         clear hT hT1 hT2 S1 S2 hxy
         have R3 := hrow.set (k + j) ((d + x * y + c) % 1000000000)
         rw [HT2.out] at R3
         have RR := Lib.hid R3; clear R3
         go_wp2
         go_roundw
         case rel =>
           obtain ⟨r1, r2, _⟩ := R1.out
           refine ⟨(d + x * y + c) / 1000000000, j + 1, o.set (k + j) ((d + x * y + c) % 1000000000), by omega, by rw [HT1.out], by go_num, r1, RR.out, by rw [List.length_set]; exact hlen, hdig.out.set _ r2, R2.out, ?_, ?_⟩
           · exact fun m hm => by rw [getD_set_ne _ _ _ _ (by omega)]; exact hzero.out m hm
           · exact hbel.setCell (p := ⟨g, k + j, none⟩) (Nat.le_refl _) _
         case measure => simp [intOf]; omega
       · have ej : j = lb.length := by omega
         subst ej
         have hk2 : k + lb.length < o.length := by omega
         have F1 := HO.out o c hk2 hval.out (hzero.out _ (Nat.le_refl _))
         have HF := Lib.hid F1; clear F1
         have co := hrow.cell hk2
         have fo := hrow.frozen (k + lb.length)
         have RR := Lib.hid (hrow.set (k + lb.length) c)
         clear hval
         go_wp2
         go_roundw
         case rel =>
           refine ⟨k + 1, o.set (k + lb.length) c, by omega, by go_num, RR.out, by rw [List.length_set]; exact hlen, hdig.out.set _ hc, HF.out, ?_, ?_⟩
           · exact fun m hm => by rw [getD_set_ne _ _ _ _ (by omega)]; exact hzero.out m (by omega)
           · exact hbel.setCell (p := ⟨g, k + lb.length, none⟩) (Nat.le_refl _) _
         case measure => simp [intOf]; omega
   · have ek : k = la.length := by omega
     have hv : toN o = toN la * toN lb := by have := hval.out; rwa [ek, List.take_length] at this
     have hN0 : Nats wr (.slice (some ⟨g, 0, none⟩) o.length (la.length + lb.length)) o := hrow.nats (by omega) (by omega)
     have ct := trimmed_at _ _ o wr hN0 hdig.out
     have hn := hN0.take (dg_prefix hdig.out)
     clear hN0
     rw [hv] at ct hn
     rw [hlen] at ct
     have CT := Lib.hid ct
     have HN := Lib.hid hn
     clear hval hzero ct hn hv ek
     go_wp2_with fail
     refine CT.out.mono ?_
     clear CT
     rintro e w' ⟨rfl, rfl⟩
     go_wp2
     go_ret
     exact ⟨_, rfl, HN.out, fun k hk => by cases hk; exact Nat.le_of_eq HG.out, by rw [HG.out]; exact hbel⟩
end Go.Proofs.YtkjhaengllpaoaaGreatDoor
namespace Go.Proofs.YtkjhaengllpaoaaGreatDoor
def mkD (n : Nat) : Dg := ⟨n % 1000000000, Nat.mod_lt _ (by decide)⟩
theorem mkD_val {n : Nat} (h : n < 1000000000) : (mkD n).1 = n := Nat.mod_eq_of_lt h
def prs (la lb : List Nat) (k : Nat) : List (Dg × Dg) := (List.range k).map fun i => (mkD (la.getD i 0), mkD (lb.getD i 0))
theorem prs_succ (la lb : List Nat) (k : Nat) : prs la lb (k + 1) = prs la lb k ++ [(mkD (la.getD k 0), mkD (lb.getD k 0))] := by
 unfold prs; rw [List.range_succ, List.map_append]; rfl
theorem prs_length (la lb : List Nat) (k : Nat) : (prs la lb k).length = k := by simp [prs]
def outOf (st : Nat → Nat → Nat → Nat × Nat) (pre : List (Dg × Dg)) : List Nat × Nat :=
 pre.foldl (fun oc p => (oc.1 ++ [(st p.1.1 p.2.1 oc.2).1], (st p.1.1 p.2.1 oc.2).2)) ([], 0)
theorem outOf_snoc (st : Nat → Nat → Nat → Nat × Nat) (pre : List (Dg × Dg)) (p : Dg × Dg) :
   outOf st (pre ++ [p]) = ((outOf st pre).1 ++ [(st p.1.1 p.2.1 (outOf st pre).2).1], (st p.1.1 p.2.1 (outOf st pre).2).2) := by
 unfold outOf; rw [List.foldl_append]; rfl
theorem outOf_length (st : Nat → Nat → Nat → Nat × Nat) (pre : List (Dg × Dg)) : (outOf st pre).1.length = pre.length := by
 induction pre using snoc_ind with
 | h0 => rfl
 | hs l p ih => rw [outOf_snoc, List.length_append, List.length_append, ih]; rfl
def Steps1 (st : Nat → Nat → Nat → Nat × Nat) : Prop := ∀ x y c, x < 1000000000 → y < 1000000000 → c ≤ 1 → (st x y c).1 < 1000000000 ∧ (st x y c).2 ≤ 1
theorem outOf_ok {st : Nat → Nat → Nat → Nat × Nat} (h : Steps1 st) (pre : List (Dg × Dg)) : Dig (outOf st pre).1 ∧ (outOf st pre).2 ≤ 1 := by
 induction pre using snoc_ind with
 | h0 => exact ⟨Dig.nil, Nat.zero_le _⟩
 | hs l p ih =>
   rw [outOf_snoc]
   have := h p.1.1 p.2.1 (outOf st l).2 p.1.2 p.2.2 ih.2
   exact ⟨ih.1.append (Dig.one this.1), this.2⟩
def addS (x y c : Nat) : Nat × Nat := if 1000000000 ≤ x + y + c then (x + y + c - 1000000000, 1) else (x + y + c, 0)
def subS (x y c : Nat) : Nat × Nat := if x < y + c then (x + 1000000000 - y - c, 1) else (x - y - c, 0)
theorem addS_ok : Steps1 addS := fun x y c hx hy hc => by unfold addS; split <;> constructor <;> simp <;> omega
theorem subS_ok : Steps1 subS := fun x y c hx hy hc => by unfold subS; split <;> constructor <;> simp <;> omega
theorem addS_eq (x y c : Nat) : (addS x y c).1 + 1000000000 * (addS x y c).2 = x + y + c := by unfold addS; split <;> simp <;> omega
theorem subS_eq (x y c : Nat) (hy : y < 1000000000) (hc : c ≤ 1) : (subS x y c).1 + y + c = x + 1000000000 * (subS x y c).2 := by unfold subS; split <;> simp <;> omega
theorem toN_take_le (l : List Nat) (k : Nat) : toN (l.take (k + 1)) = toN (l.take k) + B ^ k * l.getD k 0 := by
 by_cases h : k < l.length
 · exact toN_take_succ l k h
 · rw [List.take_of_length_le (by omega), List.take_of_length_le (by omega), List.getD_eq_getElem?_getD, List.getElem?_eq_none (by omega)]; simp
theorem add_out {la lb : List Nat} (ha : Dig la) (hb : Dig lb) (k : Nat) :
   toN (outOf addS (prs la lb k)).1 + B ^ k * (outOf addS (prs la lb k)).2 = toN (la.take k) + toN (lb.take k) := by
 induction k with
 | zero => simp [prs, outOf, toN]
 | succ k ih =>
   rw [prs_succ, outOf_snoc, toN_snoc, outOf_length, prs_length, toN_take_le, toN_take_le]
   simp only [mkD_val (ha.getD k), mkD_val (hb.getD k)]
   generalize outOf addS (prs la lb k) = oc at *
   have h1 := addS_eq (la.getD k 0) (lb.getD k 0) oc.2
   generalize addS (la.getD k 0) (lb.getD k 0) oc.2 = r at *
   have h2 : B ^ k * r.1 + B ^ (k + 1) * r.2 = B ^ k * la.getD k 0 + B ^ k * lb.getD k 0 + B ^ k * oc.2 := by
     rw [Nat.pow_succ, Nat.mul_assoc, ← Nat.mul_add, ← Nat.mul_add, ← Nat.mul_add, B_eq, h1]
   omega
theorem sub_out {la lb : List Nat} (ha : Dig la) (hb : Dig lb) (k : Nat) :
   toN (outOf subS (prs la lb k)).1 + toN (lb.take k) = toN (la.take k) + B ^ k * (outOf subS (prs la lb k)).2 := by
 induction k with
 | zero => simp [prs, outOf, toN]
 | succ k ih =>
   have hc := (outOf_ok subS_ok (prs la lb k)).2
   rw [prs_succ, outOf_snoc, toN_snoc, outOf_length, prs_length, toN_take_le, toN_take_le]
   simp only [mkD_val (ha.getD k), mkD_val (hb.getD k)]
   generalize outOf subS (prs la lb k) = oc at *
   have h1 := subS_eq (la.getD k 0) (lb.getD k 0) oc.2 (hb.getD k) hc
   generalize subS (la.getD k 0) (lb.getD k 0) oc.2 = r at *
   have h2 : B ^ k * r.1 + B ^ k * lb.getD k 0 + B ^ k * oc.2 = B ^ k * la.getD k 0 + B ^ (k + 1) * r.2 := by
     rw [Nat.pow_succ, Nat.mul_assoc, ← Nat.mul_add, ← Nat.mul_add, ← Nat.mul_add, B_eq, h1]
   omega
theorem add_total {la lb : List Nat} (ha : Dig la) (hb : Dig lb) (hl : lb.length ≤ la.length) :
   toN ((outOf addS (prs la lb la.length)).1 ++ [(outOf addS (prs la lb la.length)).2]) = toN la + toN lb := by
 have h := add_out ha hb la.length
 rw [List.take_length, List.take_of_length_le hl] at h
 rw [toN_snoc, outOf_length, prs_length]; exact h
theorem sub_total {la lb : List Nat} (ha : Dig la) (hb : Dig lb) (hl : lb.length ≤ la.length) (hle : toN lb ≤ toN la) :
   toN ((outOf subS (prs la lb la.length)).1 ++ [(outOf subS (prs la lb la.length)).2]) = toN la - toN lb := by
 have h := sub_out ha hb la.length
 rw [List.take_length, List.take_of_length_le hl] at h
 have h1 := toN_lt (outOf_ok subS_ok (prs la lb la.length)).1
 rw [outOf_length, prs_length] at h1
 rw [toN_snoc, outOf_length, prs_length]
 have h2 := (outOf_ok subS_ok (prs la lb la.length)).2
 have h3 := toN_lt ha
 generalize (outOf subS (prs la lb la.length)).2 = c at *
 generalize toN (outOf subS (prs la lb la.length)).1 = o at *
 generalize B ^ la.length = P at *
 have hc : c = 0 ∨ c = 1 := by omega
 rcases hc with rfl | rfl <;> omega
end Go.Proofs.YtkjhaengllpaoaaGreatDoor
namespace Go.Proofs.YtkjhaengllpaoaaGreatDoor
open Go.RowKit Go.Shelf
theorem addDigits_any (x y c : Nat) (w : World) (hx : x < 1000000000) (hy : y < 1000000000) (hc : c ≤ 1) :
   Calls Tryz.prog 176 #[.int .u64 x, .int .u64 y, .int .u64 c] w fun e w' => e = .returned (.tuple #[.int .u64 ((addS x y c).1 : Nat), .int .u64 ((addS x y c).2 : Nat)]) ∧ w = w' := by
 have e1 := Lib.hid (fun h : 1000000000 ≤ x + y + c => show addS x y c = (x + y + c - 1000000000, 1) by unfold addS; rw [if_pos h])
 have e2 := Lib.hid (fun h : ¬ 1000000000 ≤ x + y + c => show addS x y c = (x + y + c, 0) by unfold addS; rw [if_neg h])
 generalize addS x y c = r at *
 obtain ⟨x', hx'⟩ : ∃ z : Int, (x : Int) = z := ⟨_, rfl⟩
 obtain ⟨y', hy'⟩ : ∃ z : Int, (y : Int) = z := ⟨_, rfl⟩
 obtain ⟨c', hc'⟩ : ∃ z : Int, (c : Int) = z := ⟨_, rfl⟩
 have b1 : 0 ≤ x' := by omega
 have b2 : x' ≤ 999999999 := by omega
 have b3 : 0 ≤ y' := by omega
 have b4 : y' ≤ 999999999 := by omega
 have b5 : 0 ≤ c' := by omega
 have b6 : c' ≤ 1 := by omega
 rw [hx', hy', hc']
 have HX := Lib.hid (And.intro hx' (And.intro hy' hc')); clear hx' hy' hc' hx hy hc
 go_enter Tryz.func176, Tryz.ntmps176
 go_wp2
 · have h : (1000000000 : Int) ≤ x' + y' + c' := by assumption
   obtain ⟨g1, g2, g3⟩ := HX.out
   rw [e1.out (by omega)]
   go_returns
   exact ⟨ret_two (by omega) (by rfl), rfl⟩
 · have h : x' + y' + c' < 1000000000 := by assumption
   obtain ⟨g1, g2, g3⟩ := HX.out
   rw [e2.out (by omega)]
   go_returns
   exact ⟨ret_two (by omega) (by rfl), rfl⟩
theorem subDigits_any (x y c : Nat) (w : World) (hx : x < 1000000000) (hy : y < 1000000000) (hc : c ≤ 1) :
   Calls Tryz.prog 177 #[.int .u64 x, .int .u64 y, .int .u64 c] w fun e w' => e = .returned (.tuple #[.int .u64 ((subS x y c).1 : Nat), .int .u64 ((subS x y c).2 : Nat)]) ∧ w = w' := by
 by_cases h : x < y + c
 · have e : subS x y c = (x + 1000000000 - y - c, 1) := by unfold subS; rw [if_pos h]
   rw [e]
   clear e
   have h' : (x : Int) < (y : Int) + c := by omega
   clear h
   go_enter Tryz.func177, Tryz.ntmps177
   go_wp2
   go_returns
   exact ⟨ret_two (by omega) (by rfl), rfl⟩
 · have e : subS x y c = (x - y - c, 0) := by unfold subS; rw [if_neg h]
   rw [e]
   clear e
   have h' : (y : Int) + c ≤ (x : Int) := by omega
   clear h
   go_enter Tryz.func177, Tryz.ntmps177
   go_wp2
   go_returns
   exact ⟨ret_two (by omega) (by rfl), rfl⟩
attribute [local go_sem] Oper.semAt_some
def KpP (Bb : Nat) (va vb : Value) (la lb : List Nat) (W W' : World) : Prop :=
 (W.cell? ⟨Bb, 0, none⟩ = some vb → W'.cell? ⟨Bb, 0, none⟩ = some vb) ∧ (Nats W va la → Nats W' va la) ∧ (Nats W vb lb → Nats W' vb lb)
theorem KpP.t {Bb : Nat} {va vb : Value} {la lb : List Nat} {A B C : World} (h : KpP Bb va vb la lb A B) (k : KpP Bb va vb la lb B C) : KpP Bb va vb la lb A C :=
 ⟨fun x => k.1 (h.1 x), fun x => k.2.1 (h.2.1 x), fun x => k.2.2 (h.2.2 x)⟩
theorem KpP.b {Bb : Nat} {va vb : Value} {la lb : List Nat} {w : World} (W : World) (l : Nat) (o o' : Obj) (_ : w.heap.size ≤ l) (h : W.heap[l]? = some o) (hc : o.isCells = false) (_ : o.isWalk = false) : KpP Bb va vb la lb W (W.putObj l o') :=
 ⟨fun hx => cell_putObj hx h hc, fun hx => hx.putObj h hc, fun hx => hx.putObj h hc⟩
theorem prs_prefix (la lb : List Nat) {k m : Nat} (h : k < m) : prs la lb (k + 1) <+: prs la lb m := by
 have : prs la lb (k + 1) = (prs la lb m).take (k + 1) := by unfold prs; rw [← List.map_take, List.take_range, Nat.min_eq_left (by omega)]
 rw [this]; exact List.take_prefix _ _
def encP (x : Dg × Dg) : Array Value := #[.int .u64 (x.1.1 : Nat), .int .u64 (x.2.1 : Nat)]
theorem pairs1_in (n : Nat) (hn : 1 ≤ n) (l Ba Bb : Nat) (va vb : Value) (la lb : List Nat) (da : Dig la) (db : Dig lb) (hla : la.length ≤ 1000000) (J Jx : List (Dg × Dg) → World → Prop)
   (hY : ∀ pre x W, J pre W → pre.length < la.length → YieldAt Fence.wide (n - 1) Tryz.prog l (encP x) W fun e W' =>
     (e = .returned (.bool true) ∧ J (pre ++ [x]) W' ∧ KpP Bb va vb la lb W W') ∨ (e = .returned (.bool false) ∧ Jx (pre ++ [x]) W'))
   (W : World) (hBa : W.cell? ⟨Ba, 0, none⟩ = some va) (hBb : W.cell? ⟨Bb, 0, none⟩ = some vb) (ha : Nats W va la) (hb : Nats W vb lb) (h0 : J [] W) :
   CallsIn Fence.wide n Tryz.prog 210 #[.func (.yield l) #[] #[], .pointer (some ⟨Ba, 0, none⟩), .pointer (some ⟨Bb, 0, none⟩)] W fun e W' => (∃ v, e = .returned v) ∧
     ((∃ ys, ys = prs la lb la.length ∧ J ys W') ∨ (∃ pre, pre <+: prs la lb la.length ∧ Jx pre W')) := by
 have HY := Lib.hid hY; clear hY
 have HD := Lib.hid (And.intro da db); clear da db
 have HA := Lib.hid ha
 obtain ⟨pa, ca, rfl, ha1, ha2, ha3⟩ := ha
 clear ha3
 refine callsIn_of_wp Tryz.func210 rfl trivial ?_ rfl
 simp only [Tryz.ntmps210, List.size_toArray, List.length_cons, List.length_nil, Nat.reduceAdd, Nat.reduceSub, Array.replicate_succ, Array.replicate_zero, List.push_toArray, List.append_toArray, List.nil_append, List.cons_append]
 gi_wp2
 gi_loopw [8] (fun p wr => ∃ k : Nat, p = .int .i64 k ∧ k ≤ la.length ∧ Hid (J (prs la lb k) wr) ∧ wr.cell? ⟨Bb, 0, none⟩ = some vb ∧ Hid (Nats wr (.slice pa la.length ca) la) ∧ Hid (Nats wr vb lb))
   (fun p _ => la.length - (intOf p).toNat)
 case atStart => exact ⟨0, rfl, Nat.zero_le _, h0, hBb, HA.out, hb⟩
 case round =>
   clear h0 hBa hBb HA hb
   obtain ⟨k, rfl, hk, hJs, hcb, hna, hnb⟩ := hrel
   by_cases hlt : k < la.length
   · obtain ⟨p', c', e', _, _, h3⟩ := hna.out
     simp only [Value.slice.injEq, true_and] at e'
     obtain ⟨rfl, rfl⟩ := e'
     obtain ⟨b, off, rfl, hc⟩ := h3 (by intro e; subst e; simp at hlt)
     have hca := hc k hlt
     clear hc h3
     have cat := at_any vb lb k wr hnb.out (by omega) (by omega)
     rw [Int.toNat_natCast] at cat
     have hY2 := HY.out (prs la lb k) (mkD (la.getD k 0), mkD (lb.getD k 0)) wr hJs.out (by rw [prs_length]; exact hlt)
     rw [← prs_succ] at hY2
     obtain ⟨fn, tmps, assign, body, hy, hR⟩ := hY2
     simp only [encP, mkD_val (HD.out.1.getD k), mkD_val (HD.out.2.getD k)] at hy
     obtain ⟨x, hx⟩ : ∃ x, la.getD k 0 = x := ⟨_, rfl⟩
     obtain ⟨y, hyy⟩ : ∃ y, lb.getD k 0 = y := ⟨_, rfl⟩
     rw [hx] at hca hy
     rw [hyy] at cat hy
     have C := Lib.hid cat
     have HR := Lib.hid hR
     have HJ := Lib.hid (And.intro hna (And.intro hnb hcb))
     clear cat hR hx hyy hJs
     gi_wp2_with fail
     refine ⟨trivial, ?_⟩
     refine (callsIn_wide.2 C.out).mono ?_
     rintro e' w' ⟨rfl, rfl⟩
     clear C
     gi_wp2
     refine HR.out.mono ?_
     clear HR
     rintro e' W3 (⟨rfl, hJ3, hk3⟩ | ⟨rfl, hJx3⟩)
     · have H3 : Hid (J (prs la lb (k + 1)) W3) := hJ3
       obtain ⟨q1, q2, q3⟩ := hk3
       have hcb3 := q1 hcb
       have hna3 : Hid (Nats W3 (.slice (some ⟨b, off, none⟩) la.length ca) la) := q2 hna.out
       have hnb3 : Hid (Nats W3 vb lb) := q3 hnb.out
       clear q1 q2 q3 hJ3 HJ
       gi_wp2
       go_roundw
       case rel => exact ⟨k + 1, by go_num, by omega, H3, hcb3, hna3, hnb3⟩
       case measure => simp [intOf]; omega
     · have H3 : Hid (Jx (prs la lb (k + 1)) W3) := hJx3
       clear hJx3
       gi_wp2
       refine bodyPost_ret (results_none rfl _ _ _) rfl ?_
       refine ⟨⟨_, rfl⟩, .inr ⟨prs la lb (k + 1), ?_, H3.out⟩⟩
       exact prs_prefix la lb hlt
   · have ek : k = la.length := by omega
     have hJ2 : Hid (J (prs la lb la.length) wr) := by rw [← ek]; exact hJs
     clear ek hJs
     gi_wp2
     go_end0
     exact ⟨⟨_, rfl⟩, .inl ⟨_, rfl, hJ2.out⟩⟩
theorem pairs_stops (n : Nat) (hn : 1 ≤ n) (Ba Bb : Nat) (va vb : Value) (la lb : List Nat) (da : Dig la) (db : Dig lb) (hla : la.length ≤ 1000000) (w : World) (hBa : Ba < w.heap.size) (hBb : Bb < w.heap.size)
   (ca : w.cell? ⟨Ba, 0, none⟩ = some va) (cb : w.cell? ⟨Bb, 0, none⟩ = some vb) (ha : Nats w va la) (hb : Nats w vb lb) :
   SeqStopsK Fence.wide n Tryz.prog 210 #[.pointer (some ⟨Ba, 0, none⟩), .pointer (some ⟨Bb, 0, none⟩)] encP (KpP Bb va vb la lb) (fun ys => ys = prs la lb la.length) (fun pre => pre <+: prs la lb la.length) la.length w := fun l J Jx W hW _ _ hY h0 =>
 pairs1_in n hn l Ba Bb va vb la lb da db hla J Jx hY W ((hW.cell (p := ⟨Ba, 0, none⟩) hBa).trans ca) ((hW.cell (p := ⟨Bb, 0, none⟩) hBb).trans cb) (ha.next hW) (hb.next hW) h0
theorem pairs_any (pa pb : Option Addr) (na ca nb cb : Nat) (w : World) :
   Calls Tryz.prog 195 #[.slice pa na ca, .slice pb nb cb] w fun e w' => e = .returned (.func (.func 210) #[] #[.pointer (some ⟨w.heap.size, 0, none⟩), .pointer (some ⟨w.heap.size + 1, 0, none⟩)]) ∧ w' = (w.alloc (.cells #[.slice pa na ca] 145)).alloc (.cells #[.slice pb nb cb] 145) := by
 go_enter Tryz.func195, Tryz.ntmps195
 go_wp2
 go_ret
 exact ⟨rfl, rfl⟩
def StepIs (f : FuncId) (st : Nat → Nat → Nat → Nat × Nat) : Prop := ∀ (x y c : Nat) (W : World), x < 1000000000 → y < 1000000000 → c ≤ 1 →
 Calls Tryz.prog f #[.int .u64 x, .int .u64 y, .int .u64 c] W fun e w' => e = .returned (.tuple #[.int .u64 ((st x y c).1 : Nat), .int .u64 ((st x y c).2 : Nat)]) ∧ W = w'
theorem ownsRow_own {β : Type} (n₀ : Nat) (e : TypeId) (size : Nat) (v : β → Value) (k : β → Nat) (f : β → List Value) : Own (fun s W => W.ownsRow n₀ e size (v s) (k s) (f s)) := by
 rintro s X Y row hr hg hrow
 refine hr.kept hg ?_
 rcases hr.2 with ⟨h, _⟩ | ⟨g, cap, cur, h, _, hgb, _⟩
 · exact .inl (by rw [h]; rfl)
 · refine .inr fun e' => ?_
   obtain ⟨o, ho, hc⟩ := hrow g (by rw [h] at e'; simpa [Value.ownBlock] using e'.symm)
   rw [hgb] at ho; cases ho; cases hc
structure Comb (w : World) (K M cap : Nat) (fv : Value) (vb : Value) (st : Nat → Nat → Nat → Nat × Nat) (pre : List (Dg × Dg)) (W : World) : Prop where
 step : Boxed W K 205 fv
 out : Boxed W M 145 (.slice (some ⟨K + 1, 0, none⟩) pre.length cap)
 row : W.ownsRow (K + 1) 124 1 (.slice (some ⟨K + 1, 0, none⟩) pre.length cap) pre.length (cells64 (outOf st pre).1)
 carry : Boxed W (M + 1) 124 (.int .u64 ((outOf st pre).2 : Nat))
 box : Boxed W (M + 1 + 1 + 1) 145 vb
 below : Below K w W
theorem comb_own (w : World) (K M cap : Nat) (fv vb : Value) (st : Nat → Nat → Nat → Nat × Nat) (B : Nat) (hK : K ≤ w.heap.size) (hB : K ≤ B) : OwnFrom B (fun pre W => Comb w K M cap fv vb st pre W) := by
 intro pre W W' row h hg hr
 have hr' : ∀ r, row = some r → ∃ o : Obj, W.heap[r]? = some o ∧ o.isCells = false := fun r e => (hr r e).2
 exact ⟨boxed_own K _ (fun _ => fv) pre W W' row h.step hg hr', boxed_own M _ (fun (p : List (Dg × Dg)) => .slice (some ⟨K + 1, 0, none⟩) p.length cap) pre W W' row h.out hg hr',
   ownsRow_own (K + 1) _ 1 (fun (p : List (Dg × Dg)) => .slice (some ⟨K + 1, 0, none⟩) p.length cap) (fun p => p.length) (fun p => cells64 (outOf st p).1) pre W W' row h.row hg hr',
   boxed_own (M + 1) _ (fun p => .int .u64 ((outOf st p).2 : Nat)) pre W W' row h.carry hg hr', boxed_own (M + 1 + 1 + 1) _ (fun _ => vb) pre W W' row h.box hg hr',
   ownFrom_below hK hB pre W W' row h.below hg hr⟩
theorem comb_step {w : World} {K M cap : Nat} {fv vb : Value} {st : Nat → Nat → Nat → Nat × Nat} {pre : List (Dg × Dg)} {W w2 : World} {tmp : Obj} (x : Dg × Dg) (h : Comb w K M cap fv vb st pre W) (hKM : K + 1 < M) (hK : K ≤ w.heap.size)
   (hown : w2.ownsRow (K + 1) 124 1 (.slice (some ⟨K + 1, 0, none⟩) (pre.length + 1) cap) (pre.length + 1) (cells64 (outOf st pre).1 ++ [.int .u64 ((st x.1.1 x.2.1 (outOf st pre).2).1 : Nat)]))
   (hg : (W.alloc tmp).grownBy w2 (some (K + 1))) :
   Boxed w2 M 145 (.slice (some ⟨K + 1, 0, none⟩) pre.length cap) ∧
   Boxed (w2.setCell ⟨M, 0, none⟩ (.slice (some ⟨K + 1, 0, none⟩) (pre.length + 1) cap)) (M + 1) 124 (.int .u64 ((outOf st pre).2 : Nat)) ∧
   KeepsOthers W ((w2.setCell ⟨M, 0, none⟩ (.slice (some ⟨K + 1, 0, none⟩) (pre.length + 1) cap)).setCell ⟨M + 1, 0, none⟩ (.int .u64 ((st x.1.1 x.2.1 (outOf st pre).2).2 : Nat))) ∧
   Comb w K M cap fv vb st (pre ++ [x]) ((w2.setCell ⟨M, 0, none⟩ (.slice (some ⟨K + 1, 0, none⟩) (pre.length + 1) cap)).setCell ⟨M + 1, 0, none⟩ (.int .u64 ((st x.1.1 x.2.1 (outOf st pre).2).2 : Nat))) := by
 have o2 := (h.out.alloc tmp).kept hg (by simp; omega)
 have c2 := (h.carry.alloc tmp).kept hg (by simp; omega)
 have s2 := (h.step.alloc tmp).kept hg (by simp)
 have b2 := (h.box.alloc tmp).kept hg (by simp; omega)
 have hb2 : Below K w w2 := (h.below.alloc (Nat.le_trans hK h.below.size) tmp).grown hg (by have := h.below.size; simp; omega) (fun k e => by cases e; omega)
 have c3 := c2.other (B' := M) (by omega) (.slice (some ⟨K + 1, 0, none⟩) (pre.length + 1) cap)
 refine ⟨o2, c3, ?_, ?_⟩
 · refine (((KeepsOthers.alloc W tmp).trans (KeepsOthers.of_grownBy hg fun j o ej hj => ?_)).trans (KeepsOthers.setCell _ _ _)).trans (KeepsOthers.setCell _ _ _)
   cases ej
   rcases (h.row.alloc tmp).2 with ⟨h1, _⟩ | ⟨g, cap', cur, h1, _, hgb, _⟩
   · cases h1
   · simp only [Value.slice.injEq, Option.some.injEq, Addr.mk.injEq, true_and, and_true] at h1
     obtain ⟨rfl, _⟩ := h1
     rw [hgb] at hj; cases hj; rfl
 · refine ⟨(s2.other (B' := M) (by omega) _).other (B' := M + 1) (by omega) _, ?_, ?_, ?_, (b2.other (B' := M) (by omega) _).other (B' := M + 1) (by omega) _, ?_⟩
   · rw [List.length_append, List.length_singleton]
     exact (o2.set _).other (B' := M + 1) (by omega) _
   · rw [outOf_snoc, List.length_append, List.length_singleton, ← cells64_snoc]
     refine (hown.kept (grownBy_setCell' w2 M _) (.inr ?_)).kept (grownBy_setCell' _ (M + 1) _) (.inr ?_)
     · simp [Value.ownBlock]; omega
     · simp [Value.ownBlock]; omega
   · rw [outOf_snoc]
     exact c3.set _
   · exact (hb2.setCell (p := ⟨M, 0, none⟩) (by show K ≤ M; omega) _).setCell (p := ⟨M + 1, 0, none⟩) (by show K ≤ M + 1; omega) _
theorem combine_any (f : FuncId) (st : Nat → Nat → Nat → Nat × Nat) (hst : StepIs f st) (hok : Steps1 st) (hen : ∀ args W, (callFunc f args).run Tryz.prog W = .ok (.enter f args) W)
   (pa pb : Option Addr) (ca cb : Nat) (la lb : List Nat) (w : World) (ha : Nats w (.slice pa la.length ca) la) (hb : Nats w (.slice pb lb.length cb) lb) (da : Dig la) (db : Dig lb) (hla : la.length ≤ 1000000) :
   Calls Tryz.prog 175 #[.slice pa la.length ca, .slice pb lb.length cb, .func (.func f) #[] #[]] w fun e W' => ∃ v, e = .returned v ∧ IsNat W' v (toN ((outOf st (prs la lb la.length)).1 ++ [(outOf st (prs la lb la.length)).2])) ∧ Fresh w.heap.size v ∧ Below w.heap.size w W' := by
 refine (callsIn_wide (n := 9)).1 ?_
 have HST := Lib.hid (And.intro hst hok); clear hst hok
 have HAB := Lib.hid (And.intro ha (And.intro hb (And.intro da db))); clear ha hb da db
 obtain ⟨i0, hi, hz0, hz1, hz2⟩ := info_parts info_u64
 have HI := Lib.hid (And.intro hi (And.intro hz0 (And.intro hz1 hz2))); clear hi hz0 hz1 hz2
 refine callsIn_of_wp_marks Tryz.func175 rfl trivial ?_ rfl
 simp only [Tryz.ntmps175, List.size_toArray, List.length_cons, List.length_nil, Nat.reduceAdd, Nat.reduceSub, Array.replicate_succ, Array.replicate_zero, List.push_toArray, List.append_toArray, List.nil_append, List.cons_append]
 gi_wp2_with (gi_at_make; refine wpListIn_make_own _ rfl _ _ 145 rfl (w.heap.size + 1) 124 i0 (.int .u64 0) 1 Tryz.underlying145 HI.out.1 HI.out.2.1 HI.out.2.2.1 .i64 .i64 _ (la.length + 1) rfl rfl (by omega) (by rw [HI.out.2.2.2]; omega) (by unfold maxLen; omega) (by simp) ?_; intro w1 hown hgrow; simp only [World.size_alloc] at hown)
 refine ⟨trivial, ?_⟩
 refine (callsIn_wide.2 (pairs_any _ _ _ _ _ _ _)).mono ?_
 rintro e w' ⟨rfl, rfl⟩
 gi_wp2
 have hsz1 : w.heap.size + 1 + 1 ≤ w1.heap.size := by have := (hown.lt (w.heap.size + 1) rfl).2; omega
 have hb1 : Below w.heap.size w w1 := ((Below.refl _ w).alloc (Nat.le_refl _) _).grown hgrow (by simp) (fun k e => by cases e)
 have s1 : Boxed w1 w.heap.size 205 (.func (.func f) #[] #[]) := (Boxed.new w _ _).kept hgrow (by simp)
 generalize hM : w1.heap.size = M at *
 have hcomb : Comb w w.heap.size M (la.length + 1) (.func (.func f) #[] #[]) (.slice pb lb.length cb) st [] ((((w1.alloc (.cells #[.slice (some ⟨w.heap.size + 1, 0, none⟩) 0 (la.length + 1)] 145)).alloc (.cells #[.int .u64 0] 124)).alloc (.cells #[.slice pa la.length ca] 145)).alloc (.cells #[.slice pb lb.length cb] 145)) := by
   have n1 := Boxed.new w1 145 (.slice (some ⟨w.heap.size + 1, 0, none⟩) 0 (la.length + 1))
   have n2 := Boxed.new (w1.alloc (.cells #[.slice (some ⟨w.heap.size + 1, 0, none⟩) 0 (la.length + 1)] 145)) 124 (.int .u64 0)
   have n4 := Boxed.new (((w1.alloc (.cells #[.slice (some ⟨w.heap.size + 1, 0, none⟩) 0 (la.length + 1)] 145)).alloc (.cells #[.int .u64 0] 124)).alloc (.cells #[.slice pa la.length ca] 145)) 145 (.slice pb lb.length cb)
   simp only [World.size_alloc, hM] at n1 n2 n4
   exact ⟨(((s1.alloc _).alloc _).alloc _).alloc _, ((n1.alloc _).alloc _).alloc _, (((hown.alloc _).alloc _).alloc _).alloc _, (n2.alloc _).alloc _, n4,
     (((hb1.alloc (by omega) _).alloc (by simp; omega) _).alloc (by simp; omega) _).alloc (by simp; omega) _⟩
 have hca : ((((w1.alloc (.cells #[.slice (some ⟨w.heap.size + 1, 0, none⟩) 0 (la.length + 1)] 145)).alloc (.cells #[.int .u64 0] 124)).alloc (.cells #[.slice pa la.length ca] 145)).alloc (.cells #[.slice pb lb.length cb] 145)).cell? ⟨M + 1 + 1, 0, none⟩ = some (.slice pa la.length ca) := by
   have n3 := (Boxed.new ((w1.alloc (.cells #[.slice (some ⟨w.heap.size + 1, 0, none⟩) 0 (la.length + 1)] 145)).alloc (.cells #[.int .u64 0] 124)) 145 (.slice pa la.length ca)).alloc (.cells #[.slice pb lb.length cb] 145)
   simp only [World.size_alloc, hM] at n3
   exact n3.cell
 have hszW : ((((w1.alloc (.cells #[.slice (some ⟨w.heap.size + 1, 0, none⟩) 0 (la.length + 1)] 145)).alloc (.cells #[.int .u64 0] 124)).alloc (.cells #[.slice pa la.length ca] 145)).alloc (.cells #[.slice pb lb.length cb] 145)).heap.size = M + 4 := by simp [hM]
 have HM := Lib.hid hM
 clear hown hgrow hb1 s1 hM
 generalize ((((w1.alloc (.cells #[.slice (some ⟨w.heap.size + 1, 0, none⟩) 0 (la.length + 1)] 145)).alloc (.cells #[.int .u64 0] 124)).alloc (.cells #[.slice pa la.length ca] 145)).alloc (.cells #[.slice pb lb.length cb] 145)) = W0 at *
 obtain ⟨ha, hb, da, db⟩ := HAB.out
 refine wpIn_rangeFunc_ownG rfl (by omega) (gf := 210) (lb := #[.pointer (some ⟨M + 1 + 1, 0, none⟩), .pointer (some ⟨M + 1 + 1 + 1, 0, none⟩)]) rfl trivial (enters_of Tryz.func210 (by kernel_rfl) rfl)
   (pairs_stops (9 - 1) (by omega) (M + 1 + 1) (M + 1 + 1 + 1) (.slice pa la.length ca) (.slice pb lb.length cb) la lb da db hla W0 (by omega) (by omega) hca hcomb.box.cell (ha.next hcomb.below) (hb.next hcomb.below)) KpP.t KpP.b (Below.refl _ _) (fun _ => rfl)
   (fun pre W => Comb w w.heap.size M (la.length + 1) (.func (.func f) #[] #[]) (.slice pb lb.length cb) st pre W)
   (fun _ _ _ => False)
   (comb_own w w.heap.size M (la.length + 1) _ _ st _ (Nat.le_refl _) (by omega))
   (fun _ _ _ _ _ hs _ _ => hs)
   hcomb
   (fun x => { tmps := #[.slice pa la.length ca, .slice pb lb.length cb, .func (.func f) #[] #[], undef, undef, .pointer (some ⟨w.heap.size, 0, none⟩), .slice none 0 0, .pointer (some ⟨M, 0, none⟩), .pointer (some ⟨M + 1, 0, none⟩), .int .u64 (x.1.1 : Nat), .int .u64 (x.2.1 : Nat), undef, undef, .slice pa la.length ca, .int .i64 la.length, .int .i64 (la.length + 1), .slice (some ⟨w.heap.size + 1, 0, none⟩) 0 (la.length + 1), .slice pa la.length ca, .slice pb lb.length cb,
     .func (.func 210) #[] #[.pointer (some ⟨M + 1 + 1, 0, none⟩), .pointer (some ⟨M + 1 + 1 + 1, 0, none⟩)], .int .u64 (x.1.1 : Nat), .int .u64 (x.2.1 : Nat), undef, undef, undef, undef, undef, undef, undef, undef, undef, undef, undef, undef, undef, undef, undef, undef, undef, undef], defers := [] }) ?assign ?body ?done ?stop
 case assign =>
   clear hcomb hca hszW ha hb da db
   intro l x W K hK
   simp only [encP]
   gi_wp2
   exact hK
 case body =>
   clear hcomb hca hszW ha hb da db
   rintro l pre x W hI hlt
   have hs := hI.step.cell
   have hc := hI.carry.cell
   have ho := hI.out.cell
   obtain ⟨_, hcar⟩ := outOf_ok HST.out.2 pre
   have cst := HST.out.1 x.1.1 x.2.1 (outOf st pre).2 W x.1.2 x.2.2 hcar
   have CST := Lib.hid cst
   have HI2 := Lib.hid hI
   clear cst hI
   obtain ⟨r, hr⟩ : ∃ r, st x.1.1 x.2.1 (outOf st pre).2 = r := ⟨_, rfl⟩
   have HR := Lib.hid hr
   rw [hr] at CST
   clear hr
   generalize hcc : (outOf st pre).2 = cc at *
   have HCC := Lib.hid hcc; clear hcc
   obtain ⟨⟨x1, hx1⟩, ⟨x2, hx2⟩⟩ := x
   dsimp only at CST ⊢
   gi_wp2_with fail
   refine ⟨trivial, ?_⟩
   refine (CallsIn.inRound l (callsIn_wide.2 CST.out)).mono ?_
   rintro e w' ⟨rfl, rfl⟩
   clear CST
   obtain ⟨hi, hz0, hz1, hz2⟩ := HI.out
   gi_wp2_with (gi_at_builtin; refine wpListIn_append_fits _ rfl _ _ 145 rfl (w.heap.size + 1) 124 i0 1 Tryz.underlying145 hi hz1 (w.heap.size + 1) pre.length (la.length + 1) (cells64 (outOf st pre).1) rfl (HI2.out.row.alloc _) ⟨W.heap.size, 0, none⟩ 1 1 [.int .u64 (r.1 : Nat)] rfl rfl (cell_one_new _ _ _) (by simp [Value.oneCell']) (by omega) ?_; intro w2 hown' hgrow; rw [← HR.out] at hown'; rw [← HCC.out] at hown'; obtain ⟨k1, k2, k3, k4⟩ := comb_step (⟨x1, hx1⟩, ⟨x2, hx2⟩) HI2.out (by omega) (Nat.le_refl _) hown' hgrow; have hc1 := k1.cell; have hf1 := k1.frozen; have hc2 := k2.cell; have hf2 := k2.frozen; have KK := Lib.hid (And.intro k3 k4); clear k1 k2 k3 k4 hown' hgrow)
   have KO := KK.out
   have HR2 := HR.out
   (try dsimp only at KO)
   (try dsimp only at HR2)
   rw [HCC.out, HR2] at KO
   exact ⟨KO.1.from _, ⟨fun _ => KO.2.box.cell, fun _ => HAB.out.1.next KO.2.below, fun _ => HAB.out.2.1.next KO.2.below⟩, KO.2⟩
 case done =>
   clear hcomb hca ha hb da db
   rintro D ys W hD rfl hI hK
   have ho := hI.out.cell
   have hc := hI.carry.cell
   have hpl := prs_length la lb la.length
   obtain ⟨hdig, hcar⟩ := outOf_ok HST.out.2 (prs la lb la.length)
   have hol := outOf_length st (prs la lb la.length)
   rw [hpl] at hol ho
   have hrow := hI.row
   rw [hpl] at hrow
   have hbel := hI.below
   have HX := Lib.hid (And.intro hrow (And.intro hdig (And.intro hol hbel)))
   clear hI hpl hrow hdig hol hbel
   generalize hoc : outOf st (prs la lb la.length) = oc at *
   have HOC := Lib.hid hoc; clear hoc
   obtain ⟨hi, hz0, hz1, hz2⟩ := HI.out
   have HKD := Lib.hid hK
   gi_wp2_with (gi_at_builtin; refine wpListIn_append_fits _ rfl _ _ 145 rfl (w.heap.size + 1) 124 i0 1 Tryz.underlying145 hi hz1 (w.heap.size + 1) la.length (la.length + 1) (cells64 oc.1) rfl (HX.out.1.alloc _) ⟨W.heap.size, 0, none⟩ 1 1 [.int .u64 (oc.2 : Nat)] rfl rfl (cell_one_new _ _ _) (by simp [Value.oneCell']) (by omega) ?_; intro w2 hown' hgrow; have HG := Lib.hid (And.intro hown' hgrow); clear hown' hgrow)
   obtain ⟨hown', hgrow⟩ := HG.out
   obtain ⟨hrow, hdig, hol, hbel⟩ := HX.out
   rw [cells64_snoc] at hown'
   have hl1 : la.length + 1 = (oc.1 ++ [oc.2]).length := by rw [List.length_append, hol]; rfl
   have hdig2 : Dig (oc.1 ++ [oc.2]) := hdig.append (Dig.one (by omega))
   have hown2 : w2.ownsRow (w.heap.size + 1) 124 1 (.slice (some ⟨w.heap.size + 1, 0, none⟩) (oc.1 ++ [oc.2]).length (la.length + 1)) (oc.1 ++ [oc.2]).length (cells64 (oc.1 ++ [oc.2])) := by
     rw [← hl1]; exact hown'
   have hN := nats_of_owns hown2
   have ct := trimmed_any _ _ w2 hN hdig2
   rw [← hl1] at ct
   have CT := Lib.hid ct
   have hb2 : Below w.heap.size w w2 := (hbel.alloc hbel.size _).grown hgrow (by have := hbel.size; simp; omega) (fun k e => by cases e; omega)
   have hK2 : w2.heap[D]? = some (.deferred (some [])) := by
     have hDlt := (Array.getElem?_eq_some_iff.1 hK).1
     exact (hgrow.block D (by simp; omega) (by intro e; cases e; omega)).trans ((Below.heap_alloc W _ D hDlt).trans hK)
   have HB2 := Lib.hid (And.intro hb2 hK2)
   clear ct hN hown2 hown' hgrow hrow hdig hol hbel hl1 hdig2 hb2 hK2 HX HG hK
   refine ⟨trivial, ?_⟩
   refine (callsIn_wide.2 CT.out).mono ?_
   clear CT
   rintro e w' ⟨rfl, v', rfl, hN', hob⟩
   have HN := Lib.hid (And.intro hN' hob); clear hN' hob
   gi_wp2
   refine ⟨by simp, .inl ⟨_, _, rfl, run_takeDeferred HB2.out.2, ?_⟩⟩
   exact ⟨_, results_tmp rfl _ _ _, v', rfl, by rw [HOC.out]; exact HN.out.1.putObj HB2.out.2 rfl, fun k hk => by rw [HN.out.2] at hk; cases hk; exact Nat.le_succ _, HB2.out.1.trans (belowK_b (w := w) (Nat.le_refl _) w2 D _ _ (by omega) HB2.out.2 rfl rfl)⟩
 case stop =>
   rintro D c pre W _ _ h _
   exact h.elim
end Go.Proofs.YtkjhaengllpaoaaGreatDoor
