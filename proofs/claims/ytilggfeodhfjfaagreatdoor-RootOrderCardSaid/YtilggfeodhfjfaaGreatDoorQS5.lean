/- Parts of the proofs of the texts YtilggfeodhfjfaaGreatDoorQS. -/
import Derived.Test.YtilggfeodhfjfaaGreatDoorQR1
import Derived.Test.YtilggfeodhfjfaaGreatDoorQR10
import Derived.Test.YtilggfeodhfjfaaGreatDoorQR11
import Derived.Test.YtilggfeodhfjfaaGreatDoorQR12
import Derived.Test.YtilggfeodhfjfaaGreatDoorQR13
import Derived.Test.YtilggfeodhfjfaaGreatDoorQR14
import Derived.Test.YtilggfeodhfjfaaGreatDoorQR15
import Derived.Test.YtilggfeodhfjfaaGreatDoorQR16
import Derived.Test.YtilggfeodhfjfaaGreatDoorQR17
import Derived.Test.YtilggfeodhfjfaaGreatDoorQR18
import Derived.Test.YtilggfeodhfjfaaGreatDoorQR19
import Derived.Test.YtilggfeodhfjfaaGreatDoorQR2
import Derived.Test.YtilggfeodhfjfaaGreatDoorQR20
import Derived.Test.YtilggfeodhfjfaaGreatDoorQR21
import Derived.Test.YtilggfeodhfjfaaGreatDoorQR22
import Derived.Test.YtilggfeodhfjfaaGreatDoorQR23
import Derived.Test.YtilggfeodhfjfaaGreatDoorQR24
import Derived.Test.YtilggfeodhfjfaaGreatDoorQR25
import Derived.Test.YtilggfeodhfjfaaGreatDoorQR26
import Derived.Test.YtilggfeodhfjfaaGreatDoorQR27
import Derived.Test.YtilggfeodhfjfaaGreatDoorQR28
import Derived.Test.YtilggfeodhfjfaaGreatDoorQR29
import Derived.Test.YtilggfeodhfjfaaGreatDoorQR3
import Derived.Test.YtilggfeodhfjfaaGreatDoorQR30
import Derived.Test.YtilggfeodhfjfaaGreatDoorQR4
import Derived.Test.YtilggfeodhfjfaaGreatDoorQR5
import Derived.Test.YtilggfeodhfjfaaGreatDoorQR6
import Derived.Test.YtilggfeodhfjfaaGreatDoorQR7
import Derived.Test.YtilggfeodhfjfaaGreatDoorQR8
import Derived.Test.YtilggfeodhfjfaaGreatDoorQR9
import Derived.Test.YtilggfeodhfjfaaGreatDoorQS1
import Derived.Test.YtilggfeodhfjfaaGreatDoorQS2
import Derived.Test.YtilggfeodhfjfaaGreatDoorQS3
set_option linter.all false
set_option maxRecDepth 100000
set_option maxHeartbeats 8000000
namespace Go.Proofs.YtilggfeodhfjfaaGreatDoor.T
open Go.Proofs.YtilggfeodhfjfaaGreatDoor Go Go.RowKit
theorem strips_le {m : Nat} (h : 0 < m) : (strips primes m).1 ≤ m ∧ (strips primes m).2 ≤ m ∧ (strips primes m).1 * (strips primes m).2 ≤ m := by
 obtain ⟨a1, a2, a3, a4, _⟩ := strips_spec primes primes_2 h
 refine ⟨?_, Nat.le_of_dvd h a4, ?_⟩
 · conv => rhs; rw [a1, Nat.mul_assoc]
   exact Nat.le_mul_of_pos_right _ (Nat.mul_pos a2 a3)
 · conv => rhs; rw [a1, Nat.mul_assoc]
   exact Nat.le_mul_of_pos_left _ a2
theorem nN_bd {k : Nat} {q : Rat} (hq : Bq k q) : nN q < tenTo (k + k) := by
 have hd := q.den_pos
 have h1 := hq.2
 rw [tenTo_add]
 unfold nN
 split
 · exact Nat.lt_of_lt_of_le (by omega : 1 < tenTo k) (Nat.le_mul_of_pos_left _ (by omega))
 · rename_i h
   exact Nat.lt_of_le_of_lt (Nat.mul_le_mul (strips_le (num_pos_of h)).2.1 (strips_le hd).2.1) (Nat.mul_lt_mul'' hq.1 hq.2)
theorem nC_Bq {k : Nat} {q : Rat} (hq : Bq k q) : Bq k (nC q) := by
 have e : nC q = Rat.divInt (cN q : Nat) ((cD q : Nat) : Int) := rfl
 have p := cD_pos q
 rw [e]
 refine Bq.of_int (by omega) ?_ ?_
 · show Int.natAbs _ < _
   rw [Int.natAbs_natCast]
   refine Nat.lt_of_le_of_lt ?_ hq.1
   unfold cN
   split
   · exact rootN_pos_le
   · rename_i h; exact (strips_le (num_pos_of h)).1
 · show Int.natAbs _ < _
   rw [Int.natAbs_natCast]
   refine Nat.lt_of_le_of_lt ?_ hq.2
   unfold cD
   split
   · exact rootN_pos_le
   · exact (strips_le q.den_pos).2.2
theorem nC_sign {q : Rat} (h0 : 0 ≤ q) : cmpQ (nC q) 0 = cmpQ q 0 := by
 have h := nC_sq h0
 have c := nC_nonneg q
 rcases tri q 0 with k | k | k
 · grind
 · subst k
   have n : (0 : Rat) < ((nN 0 : Nat) : Rat) := by have := nN_pos 0; exact_mod_cast this
   have z : nC 0 = 0 := by
     apply Decidable.byContradiction; intro ne
     have p : 0 < nC 0 := by grind
     have := Rat.mul_pos (Rat.mul_pos p p) n
     grind
   rw [z]
 · have p : 0 < nC q := by
     rcases tri (nC q) 0 with m | m | m
     · grind
     · rw [m, Rat.zero_mul, Rat.zero_mul] at h; grind
     · exact m
   rw [cmpQ_gt k, cmpQ_gt p]
theorem nN_sign (q : Rat) : cmpQ ((nN q : Nat) : Rat) 0 = 1 := by
 refine cmpQ_gt ?_
 have := nN_pos q
 exact_mod_cast this
theorem nN_times {q v : Rat} (h0 : 0 ≤ q) (v0 : 0 < v) : nN (q * v * v) = 1 ↔ nN q = 1 := by
 have p : 0 ≤ q * v * v := Rat.mul_nonneg (Rat.mul_nonneg h0 (Rat.le_of_lt v0)) (Rat.le_of_lt v0)
 rw [nN_one p, nN_one h0, Rat.mul_assoc]
 exact isSq_times (z := q) (r := v) (by grind)
def sqs : List Nat := primes.map fun p => p * p
def sqAt (j : Nat) : Nat := sqs[j]?.getD 0
theorem sqAt_is {j : Nat} (h : j < 25) : ∃ p, p ∈ primes ∧ sqAt j = p * p := by
 have hl : sqs.length = 25 := rfl
 have e : sqAt j = sqs[j] := by unfold sqAt; rw [List.getElem?_eq_getElem (by omega)]; rfl
 have m : sqs[j] ∈ sqs := List.getElem_mem (by omega)
 rw [← e] at m
 obtain ⟨p, hp, h⟩ := List.mem_map.1 m
 exact ⟨p, hp, h.symm⟩
theorem sqAt_lt {j : Nat} : sqAt j < 10000 := by
 have h : ∀ s ∈ sqs, s < 10000 := by decide
 unfold sqAt
 by_cases k : j < sqs.length
 · rw [List.getElem?_eq_getElem k]; exact h _ (List.getElem_mem k)
 · rw [List.getElem?_eq_none (by omega)]; decide
theorem sqAt_pos {j : Nat} (h : j < 25) : 0 < sqAt j := by
 obtain ⟨p, hp, e⟩ := sqAt_is h
 have := pp_pos (primes_2 p hp)
 omega
theorem strs_ne {x : Rat} {z : Int} (h : x ≠ (z : Rat)) : ((strQ x).toList == (strB z).toList) = false := by
 rw [← strQ_int, strQ_toList]; exact decide_eq_false h
theorem not_whole {n s : Nat} (hs : 0 < s) (h : ¬ s ∣ n) (z : Int) : ((n : Nat) : Rat) / ((s : Nat) : Rat) ≠ (z : Rat) := by
 intro e
 have s0 : ((s : Nat) : Rat) ≠ 0 := by
   intro k
   have : (s : Rat) = ((0 : Nat) : Rat) := k
   have := Rat.natCast_inj.1 this
   omega
 have m : ((n : Nat) : Rat) = (z : Rat) * ((s : Nat) : Rat) := by rw [← e, Rat.div_mul_cancel s0]
 have i : ((n : Int) : Rat) = ((z * (s : Int) : Int) : Rat) := by rw [Rat.intCast_mul]; exact m
 have j := Rat.intCast_inj.1 i
 exact h (Int.natCast_dvd_natCast.1 ⟨z, by rw [j, Int.mul_comm]⟩)
theorem squares_any (w : World) :
   Calls Tryz.prog 32 #[] w fun e W' => ∃ b, e = .returned (.slice (some ⟨b, 0, none⟩) 25 25) ∧ b < W'.heap.size ∧ (∀ j, j < 25 → W'.cell? ⟨b, j, none⟩ = some (.int .i64 (sqAt j : Nat))) ∧ Below w.heap.size w W' := by
 have key : ∀ (vs : Array Value), vs = (sqs.map fun n => Value.int .i64 (n : Nat)).toArray → ∀ j, j < 25 → (w.alloc (.cells vs 3)).cell? ⟨w.heap.size, j, none⟩ = some (.int .i64 (sqAt j : Nat)) := by
   rintro _ rfl j h
   refine (Blk.new w _ 3).cell j _ ?_
   have hl : sqs.length = 25 := rfl
   rw [List.getElem?_toArray, List.getElem?_map, List.getElem?_eq_getElem (by omega)]
   unfold sqAt
   rw [List.getElem?_eq_getElem (by omega)]; rfl
 have key2 := fun vs => (Below.refl w.heap.size w).alloc (Nat.le_refl _) (.cells vs 3)
 have K := Lib.hid (And.intro key key2); clear key key2
 go_enter Tryz.func32, Tryz.ntmps32
 go_wp2
 go_ret
 exact ⟨_, rfl, by simp, K.out.1 _ rfl, K.out.2 _⟩
theorem ltimes3 (b : Nat) (qs : List Rat) (w : World) (hl : qs.length ≤ 100) (hq : ∀ j (h : j < qs.length), ∃ k l, Bq k (prodR (qs.take j)) ∧ Bq l qs[j] ∧ k + l ≤ 300) (hx : Sl w b (qs.map strQ)) (ht : Tab w) (ht2 : Tab64 w) :
   Calls Tryz.prog 30 #[.slice (some ⟨b, 0, none⟩) qs.length qs.length] w fun e W' => e = .returned (.string (strQ (prodR qs))) ∧ Below w.heap.size w W' := by
 have hb := hx.lt
 have HC : Hid (∀ j (h : j < qs.length), w.cell? ⟨b, j, none⟩ = some (.string (strQ qs[j]))) := Lib.hid (fun j h => by
   have c := hx.cell j (by rw [List.length_map]; exact h)
   rw [atS_get (by rw [List.length_map]; exact h), List.getElem_map] at c
   exact c)
 have HT : Hid (∀ j (h : j < qs.length) W, Below w.heap.size w W → Calls Tryz.prog 69 #[.string (strQ (prodR (qs.take j))), .string (strQ qs[j])] W fun e W' => e = .returned (.tuple #[.string (strQ (prodR (qs.take (j + 1)))), .int .i64 0]) ∧ Below W.heap.size W W') := Lib.hid (fun j h W hW => by
   obtain ⟨k, l, h1, h2, hk⟩ := hq j h
   obtain ⟨a1, a2, _⟩ := qmul_ok h1 h2 (by omega)
   have c := Mul_q (prodR (qs.take j)) qs[j] W (h1.lim (by omega)) (h2.lim (by omega)) (ht.next hW) (TabQ_next ht2 hW)
   rwa [a1, a2, ← prodR_snoc, ← take_map qs j h] at c)
 clear hx ht ht2 hq
 have e1 : (⟨#[49]⟩ : ByteArray) = strQ (prodR (qs.take 0)) := strQ_one.symm
 go_enter Tryz.func30, Tryz.ntmps30
 go_wp2
 go_loopw [3, 9] (fun o i wr => ∃ j : Nat, i = .int .i64 j ∧ j ≤ qs.length ∧ o = .string (strQ (prodR (qs.take j))) ∧ Hid (Below w.heap.size w wr)) (fun _ i _ => qs.length - (intOf i).toNat)
 case atStart => exact ⟨0, rfl, by omega, by rw [e1], Below.refl _ _⟩
 case round =>
   clear e1
   obtain ⟨j, rfl, hj, rfl, HBw⟩ := hrel
   by_cases hlt : j < qs.length
   · have hck := (HBw.out.cell (p := ⟨b, j, none⟩) hb).trans (HC.out j hlt)
     have hr := Lib.hid (HT.out j hlt wr HBw.out)
     generalize h2 : strQ (prodR (qs.take (j + 1))) = s2 at *
     have H2 := Lib.hid h2; clear h2
     generalize strQ qs[j] = s at *
     generalize strQ (prodR (qs.take j)) = s1 at *
     go_wp2_with fail
     refine hr.out.mono ?_
     rintro e w' ⟨rfl, b⟩
     have HB2 := Lib.hid (HBw.out.trans (b.mono HBw.out.size)); clear b HBw
     go_wp2
     go_roundw
     case rel => exact ⟨j + 1, by go_num, by omega, by rw [H2.out], HB2.out⟩
     case measure => simp [intOf]; omega
   · have he : qs.take j = qs := List.take_of_length_le (by omega)
     rw [he]
     go_wp2
     go_ret
     exact ⟨rfl, HBw.out⟩
theorem lt3w (x y z : Rat) (j k l : Nat) (w : World) (hx : Bq j x) (hy : Bq k y) (hz : Bq l z) (hk : 1 + j + k + l ≤ 300) (ht : Tab w) (ht2 : Tab64 w) (b : Nat) (hs : Sl w b [strQ x, strQ y, strQ z]) :
   Calls Tryz.prog 30 #[.slice (some ⟨b, 0, none⟩) 3 3] w fun e W' => e = .returned (.string (strQ (x * y * z))) ∧ Below w.heap.size w W' := by
 have c := ltimes3 b [x, y, z] w (by simp) (fun i h => by
   have h2 : i = 0 ∨ i = 1 ∨ i = 2 := by simp at h; omega
   rcases h2 with rfl | rfl | rfl
   · exact ⟨1, j, Bq_one, hx, by omega⟩
   · refine ⟨j, k, ?_, hy, by omega⟩
     show Bq j (1 * x); rw [Rat.one_mul]; exact hx
   · refine ⟨j + k, l, ?_, hz, by omega⟩
     show Bq (j + k) (1 * x * y); rw [Rat.one_mul]; exact (qmul_ok hx hy (by omega)).2.2) hs ht ht2
 rwa [prod3] at c
end Go.Proofs.YtilggfeodhfjfaaGreatDoor.T
namespace Go.Proofs.YtilggfeodhfjfaaGreatDoor.T
open Go.Proofs.YtilggfeodhfjfaaGreatDoor Go Go.RowKit
def quo (n s : Nat) : ByteArray := strQ ((n : Rat) / (s : Rat))
def flo (n s : Nat) : ByteArray := strB (((n : Rat) / (s : Rat)).num.fdiv ((n : Rat) / (s : Rat)).den)
theorem sq_Bq (j : Nat) : Bq 4 ((sqAt j : Nat) : Rat) := nat_Bq (by decide) (Nat.lt_of_lt_of_le sqAt_lt (by decide))
theorem nat_ne {s : Nat} (h : 0 < s) : ((s : Nat) : Rat) ≠ 0 := by
 intro k
 have : (s : Rat) = ((0 : Nat) : Rat) := k
 have := Rat.natCast_inj.1 this
 omega
theorem Of_sq {j : Nat} (w : World) (ht : Tab w) (ht2 : Tab64 w) :
   Calls Tryz.prog 33 #[.int .i64 (sqAt j : Nat), .int .i64 1] w fun e W' => e = .returned (.tuple #[.string (strB (sqAt j : Nat)), .int .i64 0]) ∧ Below w.heap.size w W' := by
 have l := @sqAt_lt j
 have c := Of_q (sqAt j : Nat) 1 w ⟨by omega, by omega⟩ ⟨by decide, by decide⟩ (by decide) ht ht2
 rwa [show Rat.divInt ((sqAt j : Nat) : Int) 1 = ((sqAt j : Nat) : Rat) from Rat.num_divInt_den ((sqAt j : Nat) : Rat), strQ_nat] at c
theorem Div_sq {n j : Nat} (h : j < 25) (w : World) (hN : Bq 40 ((n : Nat) : Rat)) (ht : Tab w) (ht2 : Tab64 w) :
   Calls Tryz.prog 34 #[.string (strB (n : Nat)), .string (strB (sqAt j : Nat))] w fun e W' => e = .returned (.tuple #[.string (quo n (sqAt j)), .int .i64 0]) ∧ Below w.heap.size w W' := by
 have s0 := nat_ne (sqAt_pos h)
 have b := sq_Bq j
 obtain ⟨d1, d2, _⟩ := qdiv_ok hN b (by decide) s0
 have c := Div_q ((n : Nat) : Rat) ((sqAt j : Nat) : Rat) w (hN.lim (by decide)) (b.lim (by decide)) s0 ht ht2
 rwa [d1, d2, strQ_nat, strQ_nat] at c
theorem Floor_sq {n j : Nat} (h : j < 25) (w : World) (hN : Bq 40 ((n : Nat) : Rat)) (ht : Tab w) (ht2 : Tab64 w) :
   Calls Tryz.prog 31 #[.string (quo n (sqAt j))] w fun e W' => e = .returned (.tuple #[.string (flo n (sqAt j)), .int .i64 0]) ∧ Below w.heap.size w W' :=
 Go.Proofs.YtilggfeodhfjfaaGreatDoor.Floor_q ((n : Rat) / (sqAt j : Rat)) w ((qdiv_ok hN (sq_Bq j) (by decide) (nat_ne (sqAt_pos h))).2.2.lim (by decide)) ht ht2
theorem ne_sq {n j : Nat} (h : j < 25) (hf : ∀ p ∈ primes, ¬ p * p ∣ n) : ((quo n (sqAt j)).toList == (flo n (sqAt j)).toList) = false :=
 strs_ne (not_whole (sqAt_pos h) (by obtain ⟨p, hp, e⟩ := sqAt_is h; rw [e]; exact hf p hp) _)
end Go.Proofs.YtilggfeodhfjfaaGreatDoor.T
namespace Go.Proofs.YtilggfeodhfjfaaGreatDoor.T
open Go.Proofs.YtilggfeodhfjfaaGreatDoor Go Go.RowKit
theorem RootNormal_any (a u : ByteArray) (w : World) (ha : a.size ≤ maxLen) (hu : u.size ≤ maxLen) (ht : Tab w) (ht2 : Tab64 w) (hS : Sm w) :
   Calls Tryz.prog 5 #[.string a, .string u] w fun e W' => e = .returned (.bool true) ∧ Below w.heap.size w W' := by
 have oA := fun W (h : Below w.heap.size w W) => awake3_any W (ht.next h) (TabQ_next ht2 h) (hS.next h)
 have oS := fun (b : Nat) W (hx : Sl W b [a, u]) (h : Below w.heap.size w W) => sizes_any b [a, u] W (by simp) (two_le ha hu) hx (ht.next h) (TabQ_next ht2 h)
 by_cases hf : [a, u].all okS = true
 · rw [hf] at oS
   obtain ⟨hfa, hfu⟩ := pre2 hf
   obtain ⟨q, rfl, hq⟩ := okS_num hfa
   obtain ⟨v, rfl, hv⟩ := okS_num hfu
   clear hf hfa hfu ha hu
   have oq := fun W (h : Below w.heap.size w W) => lsign q 20 W hq (by decide) (ht.next h) (TabQ_next ht2 h)
   have ov := fun W (h : Below w.heap.size w W) => lsign v 20 W hv (by decide) (ht.next h) (TabQ_next ht2 h)
   have n1 := cmp_neg (x := q)
   have n2 := cmp_le (x := v) (y := 0)
   by_cases q0 : q < 0
   · have n3 := n1.2 q0
     clear n1 n2 q0 hS ht ht2 ov
     have O := Lib.hid ((And.intro oS (And.intro oq oA))); clear oS oq oA
     generalize cmpQ q 0 = c at *
     generalize strQ q = s at *
     generalize strQ v = t at *
     go_enter Tryz.func5, Tryz.ntmps5
     have B0 := Lib.hid (Below.refl w.heap.size w)
     go_wp2_with fail
     have hSl := Sl.new2 w s t 22
     have BB := Lib.hid (B0.out.alloc B0.out.size (.cells #[.string s, .string t] 22))
     generalize w.alloc (.cells #[.string s, .string t] 22) = u0 at *
     generalize w.heap.size = k0 at hSl ⊢
     refine (O.out.1 _ _ hSl BB.out).mono ?_
     rintro e v1 ⟨rfl, b⟩
     have B1 := Lib.hid (BB.out.trans (b.mono BB.out.size)); clear b BB hSl B0
     go_wp2_with fail
     refine (O.out.2.1 _ B1.out).mono ?_
     rintro e v2 ⟨rfl, b⟩
     have B2 := Lib.hid (B1.out.trans (b.mono B1.out.size)); clear b B1
     go_wp2_with fail
     refine (O.out.2.2 _ B2.out).mono ?_
     rintro e v3 ⟨rfl, b⟩
     have B3 := Lib.hid (B2.out.trans (b.mono B2.out.size)); clear b B2
     go_wp2
     go_ret
     exact ⟨rfl, B3.out⟩
   · have n4 : ¬ cmpQ q 0 < 0 := fun k => q0 (n1.1 k)
     by_cases v0 : v ≤ 0
     · have n3 := n2.2 v0
       clear n1 n2 q0 v0 hS ht ht2
       have O := Lib.hid ((And.intro oS (And.intro oq (And.intro ov oA)))); clear oS oq ov oA
       generalize cmpQ q 0 = c at *
       generalize cmpQ v 0 = d at *
       generalize strQ q = s at *
       generalize strQ v = t at *
       go_enter Tryz.func5, Tryz.ntmps5
       have B0 := Lib.hid (Below.refl w.heap.size w)
       go_wp2_with fail
       have hSl := Sl.new2 w s t 22
       have BB := Lib.hid (B0.out.alloc B0.out.size (.cells #[.string s, .string t] 22))
       generalize w.alloc (.cells #[.string s, .string t] 22) = u0 at *
       generalize w.heap.size = k0 at hSl ⊢
       refine (O.out.1 _ _ hSl BB.out).mono ?_
       rintro e v1 ⟨rfl, b⟩
       have B1 := Lib.hid (BB.out.trans (b.mono BB.out.size)); clear b BB hSl B0
       go_wp2_with fail
       refine (O.out.2.1 _ B1.out).mono ?_
       rintro e v2 ⟨rfl, b⟩
       have B2 := Lib.hid (B1.out.trans (b.mono B1.out.size)); clear b B1
       go_wp2_with fail
       refine (O.out.2.2.1 _ B2.out).mono ?_
       rintro e v3 ⟨rfl, b⟩
       have B3 := Lib.hid (B2.out.trans (b.mono B2.out.size)); clear b B2
       go_wp2_with fail
       refine (O.out.2.2.2 _ B3.out).mono ?_
       rintro e v4 ⟨rfl, b⟩
       have B4 := Lib.hid (B3.out.trans (b.mono B3.out.size)); clear b B3
       go_wp2
       go_ret
       exact ⟨rfl, B4.out⟩
     · have n5 : ¬ cmpQ v 0 ≤ 0 := fun k => v0 (n2.1 k)
       have Q0 : 0 ≤ q := by grind
       have V0 : 0 < v := by grind
       clear n1 n2 q0 v0
       have hN := nat_Bq (k := 40) (by decide) (nN_bd hq)
       have hC := nC_Bq hq
       have cc := nC_sq Q0
       have cs := nC_sign Q0
       have ns := nN_sign q
       have nf := nN_free q
       have hV : Bq 60 (q * v * v) := (qmul_ok (qmul_ok hq hv (by decide)).2.2 hv (by decide)).2.2
       have z0 : 0 ≤ q * v * v := Rat.mul_nonneg (Rat.mul_nonneg Q0 (Rat.le_of_lt V0)) (Rat.le_of_lt V0)
       have hM := nat_Bq (k := 120) (by decide) (nN_bd hV)
       have hD := nC_Bq hV
       have dd := nC_sq z0
       have hm1 : ((strB (nN (q * v * v) : Nat)).toList == [49]) = decide (nN q = 1) := (str_n1 _).trans (decide_eq_decide.2 (nN_times Q0 V0))
       have hn1 := str_n1 (nN q)
       have o1 := fun W (h : Below w.heap.size w W) => Normal_q q W Q0 (hq.up (by decide)) (ht.next h) (TabQ_next ht2 h) (hS.next h)
       have o2 := fun (b : Nat) W (hx : Sl W b [strQ (nC q), strQ (nC q), strQ ((nN q : Nat) : Rat)]) (h : Below w.heap.size w W) => lt3w (nC q) (nC q) ((nN q : Nat) : Rat) 20 20 40 W hC hC hN (by decide) (ht.next h) (TabQ_next ht2 h) b hx
       rw [cc, strQ_nat] at o2
       have o3 := fun W (h : Below w.heap.size w W) => lsign (nC q) 20 W hC (by decide) (ht.next h) (TabQ_next ht2 h)
       rw [cs] at o3
       have o4 := fun W (h : Below w.heap.size w W) => lsign ((nN q : Nat) : Rat) 40 W hN (by decide) (ht.next h) (TabQ_next ht2 h)
       rw [ns, strQ_nat] at o4
       have o5 := fun W (h : Below w.heap.size w W) => Go.Proofs.YtilggfeodhfjfaaGreatDoor.Floor_q ((nN q : Nat) : Rat) W (hN.lim (by decide)) (ht.next h) (TabQ_next ht2 h)
       rw [natfl, strQ_nat] at o5
       have o6 := fun W (h : Below w.heap.size w W) => squares_any W
       have o7 := fun (j : Nat) (hj : j < 25) W (h : Below w.heap.size w W) => Of_sq (j := j) W (ht.next h) (TabQ_next ht2 h)
       have o8 := fun (j : Nat) (hj : j < 25) W (h : Below w.heap.size w W) => Div_sq hj W hN (ht.next h) (TabQ_next ht2 h)
       have o9 := fun (j : Nat) (hj : j < 25) W (h : Below w.heap.size w W) => Floor_sq hj W hN (ht.next h) (TabQ_next ht2 h)
       have o10 := fun (j : Nat) (hj : j < 25) => ne_sq hj nf
       have o11 := fun (b : Nat) W (hx : Sl W b [strQ q, strQ v, strQ v]) (h : Below w.heap.size w W) => lt3w q v v 20 20 20 W hq hv hv (by decide) (ht.next h) (TabQ_next ht2 h) b hx
       have o12 := fun W (h : Below w.heap.size w W) => Normal_q (q * v * v) W z0 (hV.up (by decide)) (ht.next h) (TabQ_next ht2 h) (hS.next h)
       have o13 := fun (b : Nat) W (hx : Sl W b [strQ (nC (q * v * v)), strQ (nC (q * v * v)), strQ ((nN (q * v * v) : Nat) : Rat)]) (h : Below w.heap.size w W) => lt3w (nC (q * v * v)) (nC (q * v * v)) ((nN (q * v * v) : Nat) : Rat) 60 60 120 W hD hD hM (by decide) (ht.next h) (TabQ_next ht2 h) b hx
       rw [dd, strQ_nat] at o13
       have hm := mx3
       clear hN hC cc cs ns nf hV z0 hM hD dd Q0 V0 hq hv hS ht ht2
       generalize decide (nN q = 1) = bb at *
       have O := Lib.hid ((And.intro oS (And.intro oq (And.intro ov (And.intro o1 (And.intro o2 (And.intro o3 (And.intro o4 (And.intro o5 (And.intro o6 (And.intro o7 (And.intro o8 (And.intro o9 (And.intro o10 (And.intro o11 (And.intro o12 (And.intro o13 oA))))))))))))))))); clear oS oq ov o1 o2 o3 o4 o5 o6 o7 o8 o9 o10 o11 o12 o13 oA
       generalize cmpQ q 0 = c at *
       generalize cmpQ v 0 = d at *
       generalize strQ (q * v * v) = sz at *
       generalize strQ (nC (q * v * v)) = sd at *
       generalize strB (nN (q * v * v) : Nat) = sm at *
       generalize strQ (nC q) = sc at *
       generalize nN q = n at *
       generalize hsn : strB (n : Nat) = sn at *
       clear hsn
       generalize strQ q = s at *
       generalize strQ v = t at *
       go_enter Tryz.func5, Tryz.ntmps5
       have B0 := Lib.hid (Below.refl w.heap.size w)
       go_wp2_with fail
       have hSl := Sl.new2 w s t 22
       have BB := Lib.hid (B0.out.alloc B0.out.size (.cells #[.string s, .string t] 22))
       generalize w.alloc (.cells #[.string s, .string t] 22) = u0 at *
       generalize w.heap.size = k0 at hSl ⊢
       refine (O.out.1 _ _ hSl BB.out).mono ?_
       rintro e v1 ⟨rfl, b⟩
       have B1 := Lib.hid (BB.out.trans (b.mono BB.out.size)); clear b BB hSl B0
       go_wp2_with fail
       refine (O.out.2.1 _ B1.out).mono ?_
       rintro e v2 ⟨rfl, b⟩
       have B2 := Lib.hid (B1.out.trans (b.mono B1.out.size)); clear b B1
       go_wp2_with fail
       refine (O.out.2.2.1 _ B2.out).mono ?_
       rintro e v3 ⟨rfl, b⟩
       have B3 := Lib.hid (B2.out.trans (b.mono B2.out.size)); clear b B2
       go_wp2_with fail
       refine (O.out.2.2.2.1 _ B3.out).mono ?_
       rintro e v4 ⟨rfl, b⟩
       have B4 := Lib.hid (B3.out.trans (b.mono B3.out.size)); clear b B3
       go_wp2_with fail
       have hSl := Sl.new3 v4 sc sc sn 22
       have BB := Lib.hid (B4.out.alloc B4.out.size (.cells #[.string sc, .string sc, .string sn] 22))
       generalize v4.alloc (.cells #[.string sc, .string sc, .string sn] 22) = u4 at *
       generalize v4.heap.size = k4 at hSl ⊢
       refine (O.out.2.2.2.2.1 _ _ hSl BB.out).mono ?_
       rintro e v5 ⟨rfl, b⟩
       have B5 := Lib.hid (BB.out.trans (b.mono BB.out.size)); clear b BB hSl B4
       go_wp2_with fail
       refine (O.out.2.2.2.2.2.1 _ B5.out).mono ?_
       rintro e v6 ⟨rfl, b⟩
       have B6 := Lib.hid (B5.out.trans (b.mono B5.out.size)); clear b B5
       go_wp2_with fail
       refine (O.out.2.1 _ B6.out).mono ?_
       rintro e v7 ⟨rfl, b⟩
       have B7 := Lib.hid (B6.out.trans (b.mono B6.out.size)); clear b B6
       go_wp2_with fail
       refine (O.out.2.2.2.2.2.2.1 _ B7.out).mono ?_
       rintro e v8 ⟨rfl, b⟩
       have B8 := Lib.hid (B7.out.trans (b.mono B7.out.size)); clear b B7
       go_wp2_with fail
       refine (O.out.2.2.2.2.2.2.2.1 _ B8.out).mono ?_
       rintro e v9 ⟨rfl, b⟩
       have B9 := Lib.hid (B8.out.trans (b.mono B8.out.size)); clear b B8
       go_wp2_with fail
       refine (O.out.2.2.2.2.2.2.2.2.1 _ B9.out).mono ?_
       rintro e v10 ⟨sb, rfl, hbl, hcell, b⟩
       have B10 := Lib.hid (B9.out.trans (b.mono B9.out.size)); clear b B9
       have HC := Lib.hid (And.intro hbl hcell); clear hbl hcell
       go_wp2
       go_loopw [80] (fun i wr => ∃ j : Nat, i = .int .i64 j ∧ j ≤ 25 ∧ Hid (Below v10.heap.size v10 wr)) (fun i _ => 25 - (intOf i).toNat)
       case atStart => exact ⟨0, rfl, by omega, Below.refl _ _⟩
       case round =>
         obtain ⟨j, rfl, hj, HBw⟩ := hrel
         have B30 := Lib.hid (B10.out.trans (HBw.out.mono B10.out.size))
         by_cases hlt : j < 25
         · have hck := (HBw.out.cell (p := ⟨sb, j, none⟩) HC.out.1).trans (HC.out.2 j hlt)
           have hne := O.out.2.2.2.2.2.2.2.2.2.2.2.2.1 j hlt
           have R := Lib.hid (And.intro (O.out.2.2.2.2.2.2.2.2.2.1 j hlt) (And.intro (O.out.2.2.2.2.2.2.2.2.2.2.1 j hlt) (O.out.2.2.2.2.2.2.2.2.2.2.2.1 j hlt)))
           clear hm1 hn1 O
           generalize strB ((sqAt j : Nat) : Int) = ss at *
           generalize quo n (sqAt j) = sx at *
           generalize flo n (sqAt j) = sf at *
           go_wp2_with fail
           refine (R.out.1 _ B30.out).mono ?_
           rintro e v31 ⟨rfl, b⟩
           have B31 := Lib.hid (B30.out.trans (b.mono B30.out.size))
           have E1 := Lib.hid (HBw.out.trans (b.mono HBw.out.size)); clear b B30 HBw
           go_wp2_with fail
           refine (R.out.2.1 _ B31.out).mono ?_
           rintro e v32 ⟨rfl, b⟩
           have B32 := Lib.hid (B31.out.trans (b.mono B31.out.size))
           have E2 := Lib.hid (E1.out.trans (b.mono E1.out.size)); clear b B31 E1
           go_wp2_with fail
           refine (R.out.2.2 _ B32.out).mono ?_
           rintro e v33 ⟨rfl, b⟩
           have E3 := Lib.hid (E2.out.trans (b.mono E2.out.size)); clear b B32 E2
           go_wp2
           go_roundw
           case rel => exact ⟨j + 1, by go_num, by omega, E3.out⟩
           case measure => simp [intOf]; omega
         · clear HC HBw B10
           go_wp2_with fail
           have hSl := Sl.new3 wr s t t 22
           have BB := Lib.hid (B30.out.alloc B30.out.size (.cells #[.string s, .string t, .string t] 22))
           generalize wr.alloc (.cells #[.string s, .string t, .string t] 22) = u30 at *
           generalize wr.heap.size = k30 at hSl ⊢
           refine (O.out.2.2.2.2.2.2.2.2.2.2.2.2.2.1 _ _ hSl BB.out).mono ?_
           rintro e v31 ⟨rfl, b⟩
           have B31 := Lib.hid (BB.out.trans (b.mono BB.out.size)); clear b BB hSl B30
           go_wp2_with fail
           refine (O.out.2.2.2.2.2.2.2.2.2.2.2.2.2.2.1 _ B31.out).mono ?_
           rintro e v32 ⟨rfl, b⟩
           have B32 := Lib.hid (B31.out.trans (b.mono B31.out.size)); clear b B31
           go_wp2_with fail
           have hSl := Sl.new3 v32 sd sd sm 22
           have BB := Lib.hid (B32.out.alloc B32.out.size (.cells #[.string sd, .string sd, .string sm] 22))
           generalize v32.alloc (.cells #[.string sd, .string sd, .string sm] 22) = u32 at *
           generalize v32.heap.size = k32 at hSl ⊢
           refine (O.out.2.2.2.2.2.2.2.2.2.2.2.2.2.2.2.1 _ _ hSl BB.out).mono ?_
           rintro e v33 ⟨rfl, b⟩
           have B33 := Lib.hid (BB.out.trans (b.mono BB.out.size)); clear b BB hSl B32
           go_wp2_with fail
           have hSl := Sl.new3 v33 s t t 22
           have BB := Lib.hid (B33.out.alloc B33.out.size (.cells #[.string s, .string t, .string t] 22))
           generalize v33.alloc (.cells #[.string s, .string t, .string t] 22) = u33 at *
           generalize v33.heap.size = k33 at hSl ⊢
           refine (O.out.2.2.2.2.2.2.2.2.2.2.2.2.2.1 _ _ hSl BB.out).mono ?_
           rintro e v34 ⟨rfl, b⟩
           have B34 := Lib.hid (BB.out.trans (b.mono BB.out.size)); clear b BB hSl B33
           cases bb
           · go_wp2_with fail
             refine (O.out.2.2.2.2.2.2.2.2.2.2.2.2.2.2.2.2 _ B34.out).mono ?_
             rintro e v35 ⟨rfl, b⟩
             have B35 := Lib.hid (B34.out.trans (b.mono B34.out.size)); clear b B34
             go_wp2
             go_ret
             exact ⟨rfl, B35.out⟩
           · go_wp2_with fail
             refine (O.out.2.2.2.2.2.2.2.2.2.2.2.2.2.2.2.2 _ B34.out).mono ?_
             rintro e v35 ⟨rfl, b⟩
             have B35 := Lib.hid (B34.out.trans (b.mono B34.out.size)); clear b B34
             go_wp2
             go_ret
             exact ⟨rfl, B35.out⟩
 · have hf' : [a, u].all okS = false := by simpa using hf
   rw [hf'] at oS
   clear hf hf' hS ht ht2 ha hu
   have oT := True.intro
   have O := Lib.hid ((And.intro oS (And.intro oA oT))); clear oS oA oT
   go_enter Tryz.func5, Tryz.ntmps5
   have B0 := Lib.hid (Below.refl w.heap.size w)
   go_wp2_with fail
   have hSl := Sl.new2 w a u 22
   have BB := Lib.hid (B0.out.alloc B0.out.size (.cells #[.string a, .string u] 22))
   generalize w.alloc (.cells #[.string a, .string u] 22) = u0 at *
   generalize w.heap.size = k0 at hSl ⊢
   refine (O.out.1 _ _ hSl BB.out).mono ?_
   rintro e v1 ⟨rfl, b⟩
   have B1 := Lib.hid (BB.out.trans (b.mono BB.out.size)); clear b BB hSl B0
   go_wp2_with fail
   refine (O.out.2.1 _ B1.out).mono ?_
   rintro e v2 ⟨rfl, b⟩
   have B2 := Lib.hid (B1.out.trans (b.mono B1.out.size)); clear b B1
   go_wp2
   go_ret
   exact ⟨rfl, B2.out⟩
end Go.Proofs.YtilggfeodhfjfaaGreatDoor.T
namespace Go.Proofs.YtilggfeodhfjfaaGreatDoor
open Go.ChangeShapes Go.WideShapes Go.ChangeAt Go.RowKit
section
variable {H : Type} {enc : TypeId × Value → H} {P : Program} {w : World} {base : Nat} {spare : Nat → Bool} {held : Bool}
theorem trodAll_five {t0 t1 t2 t3 t4 : TypeId} {args : Array Value} {ds : List (DataW H)} {ps : List MemPlace} (h : DataW.TrodAll enc P w base spare held [t0, t1, t2, t3, t4] args.toList ds ps) :
   ∃ v0 v1 v2 v3 v4 d0 d1 d2 d3 d4 p0 p1 p2 p3 p4, args = #[v0, v1, v2, v3, v4] ∧ ds = [d0, d1, d2, d3, d4] ∧ ps = p0 ++ p1 ++ p2 ++ p3 ++ p4 ∧ DataW.Trod enc P w base spare held t0 v0 d0 p0 ∧ DataW.Trod enc P w base spare held t1 v1 d1 p1 ∧ DataW.Trod enc P w base spare held t2 v2 d2 p2 ∧ DataW.Trod enc P w base spare held t3 v3 d3 p3 ∧ DataW.Trod enc P w base spare held t4 v4 d4 p4 := by
 obtain ⟨v0, r0, d0, e0, p0, q0, ha, rfl, rfl, h0, k0⟩ := trodAll_cons h
 obtain ⟨v1, r1, d1, e1, p1, q1, rfl, rfl, rfl, h1, k1⟩ := trodAll_cons k0
 obtain ⟨v2, r2, d2, e2, p2, q2, rfl, rfl, rfl, h2, k2⟩ := trodAll_cons k1
 obtain ⟨v3, r3, d3, e3, p3, q3, rfl, rfl, rfl, h3, k3⟩ := trodAll_cons k2
 obtain ⟨v4, r4, d4, e4, p4, q4, rfl, rfl, rfl, h4, k4⟩ := trodAll_cons k3
 obtain ⟨rfl, rfl, rfl⟩ := trodAll_nil k4
 exact ⟨v0, v1, v2, v3, v4, d0, d1, d2, d3, d4, p0, p1, p2, p3, p4, by cases args; simp_all, rfl, by simp, h0, h1, h2, h3, h4⟩
theorem trodAll_mk5 {t0 t1 t2 t3 t4 : TypeId} {v0 v1 v2 v3 v4 : Value} {d0 d1 d2 d3 d4 : DataW H} {p0 p1 p2 p3 p4 : List MemPlace} (h0 : DataW.Trod enc P w base spare held t0 v0 d0 p0) (h1 : DataW.Trod enc P w base spare held t1 v1 d1 p1) (h2 : DataW.Trod enc P w base spare held t2 v2 d2 p2) (h3 : DataW.Trod enc P w base spare held t3 v3 d3 p3) (h4 : DataW.Trod enc P w base spare held t4 v4 d4 p4) :
   DataW.TrodAll enc P w base spare held [t0, t1, t2, t3, t4] [v0, v1, v2, v3, v4] [d0, d1, d2, d3, d4] (p0 ++ (p1 ++ (p2 ++ (p3 ++ p4)))) := ⟨p0, p1 ++ (p2 ++ (p3 ++ p4)), h0, trodAll_mk4 h1 h2 h3 h4, rfl⟩
end
end Go.Proofs.YtilggfeodhfjfaaGreatDoor
