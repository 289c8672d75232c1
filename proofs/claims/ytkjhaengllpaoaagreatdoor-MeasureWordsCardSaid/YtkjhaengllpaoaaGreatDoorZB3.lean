/- Parts of the proof of the text YtkjhaengllpaoaaGreatDoorZB27. -/
import Derived.RangeFuncNested
import Derived.RangeFuncBound
import Derived.RangeFuncCalls
import Derived.RangeFuncLeaves
import Derived.RangeFuncBox
import Derived.Shelf.Abstract
import Derived.OwnWalkIn
import Derived.TacticsInMore
import Derived.LoopNIn
import Derived.LoopIn
import Derived.Maps.AppendAt
import Derived.Test.YtkjhaengllpaoaaGreatDoorZB1
import Derived.Test.YtkjhaengllpaoaaGreatDoorZB2
set_option linter.all false
set_option maxRecDepth 100000
set_option maxHeartbeats 8000000
namespace Go.Proofs.YtkjhaengllpaoaaGreatDoor
def B : Nat := 1000000000
theorem B_eq : B = 1000000000 := rfl
theorem B_pos : 0 < B := by decide
def toN : List Nat → Nat
 | [] => 0
 | d :: r => d + B * toN r
def Dig (l : List Nat) : Prop := ∀ x ∈ l, x < 1000000000
theorem Dig.nil : Dig [] := fun _ h => by cases h
theorem Dig.cons {d : Nat} {l : List Nat} (h : d < 1000000000) (hl : Dig l) : Dig (d :: l) := fun x hx => by
 rcases List.mem_cons.1 hx with rfl | hx
 · exact h
 · exact hl x hx
theorem Dig.head {d : Nat} {l : List Nat} (h : Dig (d :: l)) : d < 1000000000 := h d (by simp)
theorem Dig.tail {d : Nat} {l : List Nat} (h : Dig (d :: l)) : Dig l := fun x hx => h x (by simp [hx])
theorem Dig.take {l : List Nat} (h : Dig l) (k : Nat) : Dig (l.take k) := fun x hx => h x (List.mem_of_mem_take hx)
theorem Dig.drop {l : List Nat} (h : Dig l) (k : Nat) : Dig (l.drop k) := fun x hx => h x (List.mem_of_mem_drop hx)
theorem Dig.append {l m : List Nat} (h : Dig l) (h' : Dig m) : Dig (l ++ m) := fun x hx => by
 rcases List.mem_append.1 hx with hx | hx
 · exact h x hx
 · exact h' x hx
theorem Dig.one {d : Nat} (h : d < 1000000000) : Dig [d] := Dig.cons h Dig.nil
theorem Dig.getD {l : List Nat} (h : Dig l) (i : Nat) : l.getD i 0 < 1000000000 := by
 by_cases hi : i < l.length
 · rw [List.getD_eq_getElem?_getD, List.getElem?_eq_getElem hi]; exact h _ (List.getElem_mem _)
 · rw [List.getD_eq_getElem?_getD, List.getElem?_eq_none (by omega)]; simp
theorem Dig.replicate (k : Nat) : Dig (List.replicate k 0) := fun x hx => by
 rw [(List.mem_replicate.1 hx).2]; decide
theorem toN_append (l m : List Nat) : toN (l ++ m) = toN l + B ^ l.length * toN m := by
 induction l with
 | nil => simp [toN]
 | cons d r ih =>
   simp only [List.cons_append, toN, ih, List.length_cons, Nat.pow_succ]
   rw [Nat.mul_add, Nat.add_assoc, ← Nat.mul_assoc, Nat.mul_comm B (B ^ r.length)]
theorem toN_snoc (l : List Nat) (d : Nat) : toN (l ++ [d]) = toN l + B ^ l.length * d := by
 rw [toN_append]; simp [toN]
theorem toN_replicate (k : Nat) : toN (List.replicate k 0) = 0 := by
 induction k with
 | zero => rfl
 | succ k ih => rw [List.replicate_succ]; simp [toN, ih]
theorem toN_lt {l : List Nat} (h : Dig l) : toN l < B ^ l.length := by
 induction l with
 | nil => simp [toN]
 | cons d r ih =>
   have h1 := ih h.tail
   have h2 := h.head
   rw [toN, List.length_cons, Nat.pow_succ, Nat.mul_comm (B ^ r.length) B]
   have h3 : B * toN r + B ≤ B * B ^ r.length := by
     rw [← Nat.mul_succ]; exact Nat.mul_le_mul_left B h1
   rw [B_eq] at *
   omega
theorem take_succ_getD (l : List Nat) (k : Nat) (h : k < l.length) : l.take (k + 1) = l.take k ++ [l.getD k 0] := by
 rw [List.take_succ_eq_append_getElem h, List.getD_eq_getElem?_getD, List.getElem?_eq_getElem h]; rfl
theorem toN_take_succ (l : List Nat) (k : Nat) (h : k < l.length) : toN (l.take (k + 1)) = toN (l.take k) + B ^ k * l.getD k 0 := by
 rw [take_succ_getD l k h, toN_snoc, List.length_take, Nat.min_eq_left (by omega)]
def dg (n : Nat) : List Nat := if _h : n = 0 then [] else n % B :: dg (n / B)
termination_by n
decreasing_by exact Nat.div_lt_self (by omega) (by decide)
theorem dg_zero : dg 0 = [] := by rw [dg]; rfl
theorem dg_pos {n : Nat} (h : n ≠ 0) : dg n = n % B :: dg (n / B) := by rw [dg, dif_neg h]
theorem toN_dg (n : Nat) : toN (dg n) = n := by
 induction n using Nat.strongRecOn with
 | _ n ih =>
   by_cases h : n = 0
   · subst h; rw [dg_zero]; rfl
   · rw [dg_pos h, toN, ih (n / B) (Nat.div_lt_self (by omega) (by decide))]
     exact Nat.mod_add_div n B
theorem dg_Dig (n : Nat) : Dig (dg n) := by
 induction n using Nat.strongRecOn with
 | _ n ih =>
   by_cases h : n = 0
   · subst h; rw [dg_zero]; exact Dig.nil
   · rw [dg_pos h]
     exact Dig.cons (Nat.mod_lt _ (by decide)) (ih (n / B) (Nat.div_lt_self (by omega) (by decide)))
theorem toN_pos_of_last {l : List Nat} (hne : l ≠ []) (hl : l.getLast? ≠ some 0) : 0 < toN l := by
 induction l with
 | nil => exact absurd rfl hne
 | cons d r ih =>
   rw [toN]
   by_cases hr : r = []
   · subst hr
     have : d ≠ 0 := fun e => hl (by rw [e]; rfl)
     omega
   · have h1 := ih hr (by rwa [List.getLast?_cons_of_ne_nil hr] at hl)
     have := Nat.mul_pos B_pos h1
     omega
theorem dg_toN {l : List Nat} (h : Dig l) (hl : l.getLast? ≠ some 0) : dg (toN l) = l := by
 induction l with
 | nil => exact dg_zero
 | cons d r ih =>
   have h0 := toN_pos_of_last (l := d :: r) (by simp) hl
   have hd : d < B := h.head
   rw [dg_pos (by omega)]
   simp only [toN]
   have e1 : (d + B * toN r) % B = d := by rw [Nat.add_mul_mod_self_left]; exact Nat.mod_eq_of_lt hd
   have e2 : (d + B * toN r) / B = toN r := by
     rw [Nat.add_mul_div_left _ _ B_pos, Nat.div_eq_of_lt hd]; omega
   rw [e1, e2]
   by_cases hr : r = []
   · subst hr; rw [show toN [] = 0 from rfl, dg_zero]
   · rw [ih h.tail (by rwa [List.getLast?_cons_of_ne_nil hr] at hl)]
theorem dg_last (n : Nat) : (dg n).getLast? ≠ some 0 := by
 induction n using Nat.strongRecOn with
 | _ n ih =>
   by_cases h : n = 0
   · subst h; rw [dg_zero]; simp
   · rw [dg_pos h]
     have h1 := ih (n / B) (Nat.div_lt_self (by omega) (by decide))
     by_cases hr : dg (n / B) = []
     · rw [hr]
       intro e
       have e : n % B = 0 := by simpa using e
       have e2 : n / B = 0 := by have := toN_dg (n / B); rw [hr] at this; exact this.symm
       have := Nat.mod_add_div n B
       rw [e, e2] at this; omega
     · rwa [List.getLast?_cons_of_ne_nil hr]
theorem dg_nil_iff (n : Nat) : dg n = [] ↔ n = 0 := by
 constructor
 · intro h; have := toN_dg n; rw [h] at this; exact this.symm
 · rintro rfl; exact dg_zero
theorem dg_length_le (n k : Nat) : (dg n).length ≤ k ↔ n < B ^ k := by
 constructor
 · intro h
   have h1 := toN_lt (dg_Dig n)
   rw [toN_dg] at h1
   exact Nat.lt_of_lt_of_le h1 (Nat.pow_le_pow_right B_pos h)
 · induction k generalizing n with
   | zero => intro h; have : n = 0 := by simpa using h
             subst this; rw [dg_zero]; exact Nat.le_refl _
   | succ k ih =>
     intro h
     by_cases h0 : n = 0
     · subst h0; rw [dg_zero]; simp
     · rw [dg_pos h0, List.length_cons]
       have := ih (n / B) (by rw [Nat.div_lt_iff_lt_mul B_pos]; rwa [Nat.pow_succ] at h)
       omega
theorem dg_of_take {l : List Nat} (h : Dig l) (k : Nat) (hk : k ≤ l.length) (hv : toN (l.take k) = toN l) (hl : k = 0 ∨ l.getD (k - 1) 0 ≠ 0) : dg (toN l) = l.take k := by
 rw [← hv]
 refine dg_toN (h.take k) ?_
 rcases hl with rfl | hl
 · simp
 · intro e
   by_cases h0 : k = 0
   · subst h0; simp at e
   · apply hl
     have h1 : k - 1 < l.length := by omega
     have h2 := take_succ_getD l (k - 1) h1
     rw [Nat.sub_add_cancel (by omega)] at h2
     rw [h2, List.getLast?_concat] at e
     exact Option.some.inj e
theorem dg_one {n : Nat} (h0 : n ≠ 0) (h : n < B) : dg n = [n] := by
 rw [dg_pos h0, Nat.mod_eq_of_lt h, Nat.div_eq_of_lt h, dg_zero]
end Go.Proofs.YtkjhaengllpaoaaGreatDoor
namespace Go.Proofs.YtkjhaengllpaoaaGreatDoor
open Go.RowKit
def Nats (w : World) (v : Value) (l : List Nat) : Prop :=
 ∃ p cap, v = .slice p l.length cap ∧ l.length ≤ cap ∧ cap ≤ 9223372036854775807 ∧
   (l ≠ [] → ∃ b off, p = some ⟨b, off, none⟩ ∧ ∀ i, i < l.length → w.cell? ⟨b, off + i, none⟩ = some (.int .u64 (l.getD i 0 : Nat)))
theorem Nats.next {w w' : World} {v : Value} {l : List Nat} (h : Nats w v l) (hb : Below w.heap.size w w') : Nats w' v l := by
 obtain ⟨p, cap, rfl, h1, h2, h3⟩ := h
 refine ⟨p, cap, rfl, h1, h2, fun hne => ?_⟩
 obtain ⟨b, off, e, hc⟩ := h3 hne
 exact ⟨b, off, e, fun i hi => (hb.cell (World.block_lt_of_cell? w _ (hc i hi))).trans (hc i hi)⟩
theorem Nats.nil (w : World) : Nats w (.slice none 0 0) [] := ⟨none, 0, rfl, Nat.le_refl _, by decide, fun h => absurd rfl h⟩
theorem at_any (v : Value) (l : List Nat) (i : Int) (w : World) (h : Nats w v l) (hi : 0 ≤ i) (hi' : i ≤ 4611686018427387904) :
   Calls Tryz.prog 211 #[v, .int .i64 i] w fun e w' => e = .returned (.int .u64 (l.getD i.toNat 0 : Nat)) ∧ w = w' := by
 obtain ⟨p, cap, rfl, h1, h2, h3⟩ := h
 by_cases hlt : i < (l.length : Int)
 · obtain ⟨b, off, rfl, hc⟩ := h3 (by intro e; subst e; simp at hlt; omega)
   have hc' := hc i.toNat (by omega)
   clear hc
   have e1 : ((i.toNat : Nat) : Int) = i := by omega
   generalize l.length = n at *
   generalize l.getD i.toNat 0 = d at *
   obtain ⟨k, rfl⟩ : ∃ k : Nat, i = k := ⟨i.toNat, by omega⟩
   rw [Int.toNat_natCast] at hc'
   clear e1
   go_enter Tryz.func211, Tryz.ntmps211
   go_wp2
   go_ret
   exact ⟨rfl, rfl⟩
 · have e : l.getD i.toNat 0 = 0 := by rw [List.getD_eq_getElem?_getD, List.getElem?_eq_none (by omega)]; rfl
   rw [e]
   generalize l.length = n at *
   clear h3 e
   go_enter Tryz.func211, Tryz.ntmps211
   go_wp2
   go_ret
   exact ⟨rfl, rfl⟩
def lenOf : Value → Nat | .slice _ n _ => n | _ => 0
theorem trimmed_at (p : Option Addr) (cap : Nat) (l : List Nat) (w : World) (h : Nats w (.slice p l.length cap) l) (hd : Dig l) :
   Calls Tryz.prog 171 #[.slice p l.length cap] w fun e w' => e = .returned (.slice p (dg (toN l)).length cap) ∧ w = w' := by
 obtain ⟨p', cap', he, h1, h2, h3⟩ := h
 simp only [Value.slice.injEq, true_and] at he
 obtain ⟨rfl, rfl⟩ := he
 have H3 := Lib.hid h3; clear h3
 have HD := Lib.hid hd; clear hd
 go_enter Tryz.func171, Tryz.ntmps171
 go_wp2
 go_loop [0] (fun x => ∃ k : Nat, k ≤ l.length ∧ x = .slice p k cap ∧ Hid (toN (l.take k) = toN l)) (fun x => lenOf x)
 case atStart => exact ⟨l.length, Nat.le_refl _, rfl, by show toN _ = _; rw [List.take_length]⟩
 case round =>
   obtain ⟨k, hk, rfl, hv⟩ := hrel
   by_cases h0 : k = 0
   · subst h0
     have he := dg_of_take HD.out 0 hk hv.out (.inl rfl)
     have HE := Lib.hid (show (dg (toN l)).length = 0 by rw [he]; simp); clear he
     go_wp2
     go_ret
     exact ⟨by rw [HE.out]; rfl, rfl⟩
   · obtain ⟨b, off, rfl, hc⟩ := H3.out (by intro e; subst e; simp at hk; omega)
     have hc1 := hc (k - 1) (by omega)
     have HC := Lib.hid hc; clear hc
     obtain ⟨j, rfl⟩ : ∃ j, k = j + 1 := ⟨k - 1, by omega⟩
     rw [Nat.add_sub_cancel] at hc1
     have ej : ((j + 1 : Nat) : Int) - 1 = (j : Int) := by omega
     have HJ := Lib.hid ej; clear ej
     have hs := toN_take_succ l j (by omega)
     have HS := Lib.hid hs; clear hs
     have hl := Lib.hid (dg_of_take HD.out (j + 1) hk hv.out)
     have hdd := Lib.hid (show l.getD j 0 = l.getD j 0 from rfl)
     by_cases hz : l.getD j 0 = 0
     · have hv2 : Hid (toN (l.take j) = toN l) := by
         show toN (l.take j) = toN l
         rw [← hv.out, HS.out, hz]; simp
       rw [hz] at hc1
       have HZ := Lib.hid hz; clear hz hl hv HS hdd
       generalize l.length = n at *
       go_wp2
       go_round
       case rel => exact ⟨j, by omega, rfl, hv2⟩
       case measure => simp [lenOf]
     · have hz' : (((l.getD j 0 : Nat) : Int) == 0) = false := by rw [beq_eq_false_iff_ne]; omega
       have hr : (dg (toN l)).length = j + 1 := by
         rw [hl.out (.inr (by rw [Nat.add_sub_cancel]; exact hz)), List.length_take]; omega
       have HR := Lib.hid hr; clear hr hz hl hv HS hdd
       generalize l.getD j 0 = d at *
       generalize l.length = n at *
       go_wp2
       go_ret
       exact ⟨by rw [HR.out]; rfl, rfl⟩
theorem dg_prefix {l : List Nat} (h : Dig l) : dg (toN l) <+: l := by
 induction l using snoc_ind with
 | h0 => rw [show toN [] = 0 from rfl, dg_zero]; exact List.prefix_refl _
 | hs m d ih =>
   by_cases hd : d = 0
   · subst hd
     rw [toN_snoc, Nat.mul_zero, Nat.add_zero]
     exact (ih (fun x hx => h x (by simp [hx]))).trans (List.prefix_append _ _)
   · rw [dg_toN h (by rw [List.getLast?_concat]; intro e; exact hd (Option.some.inj e))]
     exact List.prefix_refl _
theorem Nats.take {w : World} {p : Option Addr} {cap : Nat} {l m : List Nat} (h : Nats w (.slice p l.length cap) l) (hm : m <+: l) : Nats w (.slice p m.length cap) m := by
 obtain ⟨p', cap', he, h1, h2, h3⟩ := h
 simp only [Value.slice.injEq, true_and] at he
 obtain ⟨rfl, rfl⟩ := he
 refine ⟨p, cap, rfl, Nat.le_trans hm.length_le h1, h2, fun hne => ?_⟩
 obtain ⟨r, rfl⟩ := hm
 obtain ⟨b, off, e, hc⟩ := h3 (by simp [hne])
 refine ⟨b, off, e, fun i hi => ?_⟩
 rw [hc i (by rw [List.length_append]; omega)]
 rw [List.getD_eq_getElem?_getD, List.getD_eq_getElem?_getD, List.getElem?_append_left hi]
def Fresh (base : Nat) (v : Value) : Prop := ∀ k, v.ownBlock = some k → base ≤ k
theorem Fresh.mono {a b : Nat} {v : Value} (h : Fresh b v) (hab : a ≤ b) : Fresh a v := fun k hk => Nat.le_trans hab (h k hk)
theorem Fresh.nil (b : Nat) : Fresh b (.slice none 0 0) := fun k hk => by cases hk
theorem trimmed_any (v : Value) (l : List Nat) (w : World) (h : Nats w v l) (hd : Dig l) :
   Calls Tryz.prog 171 #[v] w fun e w' => w = w' ∧ ∃ v', e = .returned v' ∧ Nats w v' (dg (toN l)) ∧ v'.ownBlock = v.ownBlock := by
 have h' := h
 obtain ⟨p, cap, rfl, h1, h2, h3⟩ := h
 refine (trimmed_at p cap l w h' hd).mono fun e w' ⟨he, hw⟩ => ⟨hw, _, he, h'.take (dg_prefix hd), ?_⟩
 cases p <;> rfl
def IsNat (w : World) (v : Value) (n : Nat) : Prop := Nats w v (dg n)
theorem IsNat.next {w w' : World} {v : Value} {n : Nat} (h : IsNat w v n) (hb : Below w.heap.size w w') : IsNat w' v n := Nats.next h hb
theorem isNat_zero (w : World) : IsNat w (.slice none 0 0) 0 := by unfold IsNat; rw [dg_zero]; exact Nats.nil w
theorem Nats.of_cells {w : World} {b : Nat} {l : List Nat} {cap : Nat} (h1 : l.length ≤ cap) (h2 : cap ≤ 9223372036854775807)
   (h : ∀ i, i < l.length → w.cell? ⟨b, i, none⟩ = some (.int .u64 (l.getD i 0 : Nat))) : Nats w (.slice (some ⟨b, 0, none⟩) l.length cap) l :=
 ⟨_, cap, rfl, h1, h2, fun _ => ⟨b, 0, rfl, fun i hi => by rw [Nat.zero_add]; exact h i hi⟩⟩
theorem nats_two (w : World) (x y : Nat) (e : TypeId) :
   Nats (w.alloc (.cells #[.int .u64 x, .int .u64 y] e)) (.slice (some ⟨w.heap.size, 0, none⟩) 2 2) [x, y] :=
 Nats.of_cells (l := [x, y]) (Nat.le_refl _) (by decide) (fun i hi => by
   match i, hi with
   | 0, _ => go_cell
   | 1, _ => go_cell)
theorem ofValue_any (n : Nat) (w : World) (hn : n < 1000000000000000000) :
   Calls Tryz.prog 173 #[.int .u64 n] w fun e w' => ∃ v, e = .returned v ∧ IsNat w' v n ∧ Fresh w.heap.size v ∧ Below w.heap.size w w' := by
 have hv : toN [n % 1000000000, n / 1000000000] = n := by
   simp only [toN, Nat.mul_zero, Nat.add_zero, B_eq]; omega
 have hd : Dig [n % 1000000000, n / 1000000000] := Dig.cons (by omega) (Dig.one (by omega))
 have c := trimmed_any _ _ _ (nats_two w (n % 1000000000) (n / 1000000000) 124) hd
 rw [Int.natCast_emod, Int.natCast_ediv, hv] at c
 have C := Lib.hid c; clear c hv hd
 go_enter Tryz.func173, Tryz.ntmps173
 go_wp2_with fail
 refine C.out.mono ?_
 rintro e w' ⟨rfl, v, rfl, hv, ho⟩
 have HV := Lib.hid hv; clear hv C
 have HO := Lib.hid ho; clear ho
 go_wp2
 go_ret
 exact ⟨v, rfl, HV.out, fun k hk => by rw [HO.out] at hk; cases hk; exact Nat.le_refl _, (Below.refl _ _).alloc (Nat.le_refl _) _⟩
theorem dg_getD (n i : Nat) : (dg n).getD i 0 = n / B ^ i % B := by
 induction i generalizing n with
 | zero =>
   by_cases h : n = 0
   · subst h; rw [dg_zero]; simp
   · rw [dg_pos h]; simp
 | succ i ih =>
   by_cases h : n = 0
   · subst h; rw [dg_zero]; simp
   · rw [dg_pos h, List.getD_cons_succ, ih, Nat.pow_succ, Nat.mul_comm, Nat.div_div_eq_div_mul]
theorem natMachine_any (v : Value) (n : Nat) (w : World) (h : IsNat w v n) (hn : n < 1000000000000000000) :
   Calls Tryz.prog 199 #[v] w fun e w' => e = .returned (.int .u64 n) ∧ w = w' := by
 have c1 := at_any v (dg n) 1 w h (by decide) (by decide)
 have c0 := at_any v (dg n) 0 w h (by decide) (by decide)
 have g1 : (dg n).getD 1 0 = n / 1000000000 := by
   rw [dg_getD, Nat.pow_one, B_eq]; omega
 have g0 : (dg n).getD 0 0 = n % 1000000000 := by
   rw [dg_getD, Nat.pow_zero, B_eq]; omega
 rw [show (1 : Int).toNat = 1 from rfl, g1] at c1
 rw [show (0 : Int).toNat = 0 from rfl, g0] at c0
 have C1 := Lib.hid c1; have C0 := Lib.hid c0
 clear c1 c0 g1 g0
 obtain ⟨q, hq⟩ : ∃ q, n / 1000000000 = q := ⟨_, rfl⟩
 obtain ⟨r, hr⟩ : ∃ r, n % 1000000000 = r := ⟨_, rfl⟩
 have hqr : q * 1000000000 + r = n := by omega
 have hq2 : q < 1000000000 := by omega
 have hr2 : r < 1000000000 := by omega
 rw [hq] at C1; rw [hr] at C0
 have HN := Lib.hid hqr; clear hq hr hqr
 go_enter Tryz.func199, Tryz.ntmps199
 go_wp2_with fail
 refine C1.out.mono ?_
 rintro e w' ⟨rfl, rfl⟩
 go_wp2_with fail
 refine C0.out.mono ?_
 rintro e w' ⟨rfl, rfl⟩
 clear C0 C1
 go_wp2
 go_ret
 exact ⟨ret_int (by have := HN.out; omega), rfl⟩
theorem pow_le_nDigits (u : Nat) (h : 0 < u) : 10 ^ (Lib.nDigits u - 1) ≤ u := by
 induction u using Nat.strongRecOn with
 | _ u ih =>
   by_cases hu : u < 10
   · rw [Lib.nDigits_small hu]; simp; omega
   · rw [Lib.nDigits_big hu, Nat.add_sub_cancel]
     have h1 := ih (u / 10) (by omega) (by omega)
     have h2 := Lib.nDigits_pos (u / 10)
     obtain ⟨k, hk⟩ : ∃ k, Lib.nDigits (u / 10) = k + 1 := ⟨Lib.nDigits (u / 10) - 1, by omega⟩
     rw [hk] at h1 ⊢
     rw [Nat.add_sub_cancel] at h1
     rw [Nat.pow_succ]; omega
theorem nDigits_scaled (d k r : Nat) (hd : 0 < d) (hr : r < 10 ^ k) : Lib.nDigits (r + 10 ^ k * d) = k + Lib.nDigits d := by
 have h1 := Lib.nDigits_pos d
 obtain ⟨m, hm⟩ : ∃ m, Lib.nDigits d = m + 1 := ⟨Lib.nDigits d - 1, by omega⟩
 have h2 := pow_le_nDigits d hd
 have h3 := Lib.lt_pow_nDigits d
 rw [hm] at h2 h3 ⊢
 rw [Nat.add_sub_cancel] at h2
 rw [show k + (m + 1) = (k + m) + 1 by omega]
 refine Lib.nDigits_unique (k + m) _ ?_ ?_
 · rw [Nat.pow_add]
   exact Nat.le_trans (Nat.mul_le_mul_left _ h2) (Nat.le_add_left _ _)
 · have h4 : 10 ^ k * (d + 1) ≤ 10 ^ k * 10 ^ (m + 1) := Nat.mul_le_mul_left _ h3
   rw [show k + m + 1 = k + (m + 1) by omega, Nat.pow_add]
   rw [Nat.mul_succ] at h4
   omega
theorem B_pow (k : Nat) : B ^ k = 10 ^ (9 * k) := by rw [Nat.pow_mul]; rfl
theorem dg_split (n : Nat) (h : n ≠ 0) : ∃ r, r < B ^ ((dg n).length - 1) ∧ 0 < (dg n).getD ((dg n).length - 1) 0 ∧ n = r + B ^ ((dg n).length - 1) * (dg n).getD ((dg n).length - 1) 0 := by
 have hne : dg n ≠ [] := fun e => h ((dg_nil_iff n).1 e)
 have hl : 0 < (dg n).length := List.length_pos_iff.2 hne
 have h1 := toN_take_succ (dg n) ((dg n).length - 1) (by omega)
 rw [Nat.sub_add_cancel hl, List.take_length, toN_dg] at h1
 have h2 := toN_lt ((dg_Dig n).take ((dg n).length - 1))
 rw [List.length_take, Nat.min_eq_left (by omega)] at h2
 refine ⟨_, h2, ?_, h1⟩
 apply Nat.pos_of_ne_zero
 intro e
 apply dg_last n
 rw [List.getLast?_eq_getElem?, List.getElem?_eq_getElem (by omega)]
 rw [List.getD_eq_getElem?_getD, List.getElem?_eq_getElem (by omega)] at e
 exact congrArg some e
theorem nDigits_dg (n : Nat) (h : n ≠ 0) : Lib.nDigits n = 9 * ((dg n).length - 1) + Lib.nDigits ((dg n).getD ((dg n).length - 1) 0) := by
 obtain ⟨r, h1, h2, h3⟩ := dg_split n h
 rw [B_pow] at h1 h3
 generalize (dg n).getD ((dg n).length - 1) 0 = d at *
 generalize (dg n).length - 1 = k at *
 subst h3
 exact nDigits_scaled d (9 * k) r h2 h1
def nlen (n : Nat) : Nat := if n = 0 then 0 else Lib.nDigits n
theorem nlen_div (f : Nat) (h : f ≠ 0) : nlen f = nlen (f / 10) + 1 := by
 unfold nlen
 rw [if_neg h]
 by_cases h2 : f < 10
 · rw [Lib.nDigits_small h2, if_pos (by omega)]
 · rw [Lib.nDigits_big h2, if_neg (by omega)]
theorem length_any (v : Value) (n : Nat) (w : World) (h : IsNat w v n) (hn : (dg n).length ≤ 1000000) :
   Calls Tryz.prog 153 #[v] w fun e w' => e = .returned (.int .i64 (nlen n : Nat)) ∧ w = w' := by
 obtain ⟨p, cap, rfl, h1, h2, h3⟩ := h
 have H3 := Lib.hid h3; clear h3
 by_cases h0 : n = 0
 · subst h0
   have HL := Lib.hid (show (dg 0).length = 0 by rw [dg_zero]; rfl)
   rw [HL.out]
   rw [HL.out] at h1
   clear hn
   go_enter Tryz.func153, Tryz.ntmps153
   go_wp2
   go_ret
   exact ⟨rfl, rfl⟩
 · have hne : dg n ≠ [] := fun e => h0 ((dg_nil_iff n).1 e)
   have hl : 0 < (dg n).length := List.length_pos_iff.2 hne
   obtain ⟨b, off, rfl, hc⟩ := H3.out hne
   have hc1 := hc ((dg n).length - 1) (by omega)
   have hd := (dg_Dig n).getD ((dg n).length - 1)
   have HN := Lib.hid (nDigits_dg n h0)
   have hdp : 0 < (dg n).getD ((dg n).length - 1) 0 := by
     obtain ⟨r, _, h5, _⟩ := dg_split n h0; exact h5
   clear hc H3
   have HR := Lib.hid (show nlen n = Lib.nDigits n by unfold nlen; rw [if_neg h0])
   generalize (dg n).getD ((dg n).length - 1) 0 = d at *
   generalize Lib.nDigits n = m at *
   obtain ⟨k, hk⟩ : ∃ k, (dg n).length = k + 1 := ⟨(dg n).length - 1, by omega⟩
   rw [hk] at hn h1 hc1 HN ⊢
   clear hk hl
   rw [Nat.add_sub_cancel] at hc1 HN
   have ej : ((k + 1 : Nat) : Int) - 1 = (k : Int) := by omega
   have HD := Lib.hid (show nlen d = Lib.nDigits d by unfold nlen; rw [if_neg (by omega)])
   have hdl : nlen d ≤ 9 := by rw [HD.out]; exact (nDigits_le_iff d 9 (by decide)).2 (by omega)
   go_enter Tryz.func153, Tryz.ntmps153
   go_wp2
   go_loop [3, 4] (fun x y => ∃ c f : Nat, c ≤ 100 ∧ f < 1000000000 ∧ x = .int .i64 ((k : Int) * 9 + c) ∧ y = .int .u64 f ∧ Hid (c + nlen f = nlen d)) (fun _ y => (intOf y).toNat)
   case atStart => exact ⟨0, d, by omega, hd, by go_num, rfl, by show 0 + nlen d = nlen d; omega⟩
   case round =>
     obtain ⟨c, f, hc, hf, rfl, rfl, hh⟩ := hrel
     by_cases hf0 : f = 0
     · subst hf0
       have hz : nlen 0 = 0 := rfl
       have hh2 := hh.out
       rw [hz] at hh2
       have HH := Lib.hid hh2; clear hh2 hz hh hdl
       go_wp2
       go_ret
       exact ⟨ret_int (by have e1 := HH.out; have e2 := HN.out; have e3 := HR.out; have e4 := HD.out; omega), rfl⟩
     · have hs := nlen_div f hf0
       have hc2 : c + 1 ≤ 100 := by have := hh.out; omega
       have hh2 : Hid (c + 1 + nlen (f / 10) = nlen d) := by have := hh.out; show c + 1 + nlen (f / 10) = nlen d; omega
       have HC := Lib.hid (Int.natCast_ediv f 10)
       have hf10 : f / 10 < 1000000000 := by omega
       clear hs hh hdl
       go_wp2
       go_round
       case rel => exact ⟨c + 1, f / 10, hc2, hf10, by go_num, by rw [HC.out]; rfl, hh2⟩
       case measure => simp [intOf]; omega
end Go.Proofs.YtkjhaengllpaoaaGreatDoor
namespace Go.Proofs.YtkjhaengllpaoaaGreatDoor
open Go.RowKit Go.Shelf
attribute [local go_sem] Oper.semAt_some
abbrev Dg := { x : Nat // x < 1000000000 }
def rd (l : List UInt8) : List Dg :=
 if _h : l = [] then [] else ⟨natOf (l.drop (l.length - 9)) % 1000000000, Nat.mod_lt _ (by decide)⟩ :: rd (l.take (l.length - 9))
termination_by l.length
decreasing_by
 have := List.length_pos_iff.2 _h
 rw [List.length_take]; omega
theorem rd_nil : rd [] = [] := by rw [rd]; rfl
theorem rd_pos {l : List UInt8} (h : l ≠ []) : rd l = ⟨natOf (l.drop (l.length - 9)) % 1000000000, Nat.mod_lt _ (by decide)⟩ :: rd (l.take (l.length - 9)) := by
 rw [rd, dif_neg h]
def vals (l : List Dg) : List Nat := l.map (·.1)
theorem vals_Dig (l : List Dg) : Dig (vals l) := fun x hx => by
 obtain ⟨y, _, rfl⟩ := List.mem_map.1 hx
 exact y.2
theorem rd_length (n : Nat) : ∀ l : List UInt8, l.length ≤ n → (rd l).length ≤ l.length := by
 induction n with
 | zero => intro l h; have : l = [] := List.eq_nil_of_length_eq_zero (by omega); subst this; rw [rd_nil]; simp
 | succ n ih =>
   intro l h
   by_cases h0 : l = []
   · subst h0; rw [rd_nil]; simp
   · have hp := List.length_pos_iff.2 h0
     rw [rd_pos h0, List.length_cons]
     have := ih (l.take (l.length - 9)) (by rw [List.length_take]; omega)
     rw [List.length_take] at this
     omega
theorem toN_rd (n : Nat) : ∀ l : List UInt8, l.length ≤ n → (∀ c ∈ l, isDig c = true) → toN (vals (rd l)) = natOf l := by
 induction n with
 | zero => intro l h _; have : l = [] := List.eq_nil_of_length_eq_zero (by omega); subst this; rw [rd_nil]; rfl
 | succ n ih =>
   intro l h hd
   by_cases h0 : l = []
   · subst h0; rw [rd_nil]; rfl
   · have hp := List.length_pos_iff.2 h0
     rw [rd_pos h0]
     have h1 := ih (l.take (l.length - 9)) (by rw [List.length_take]; omega) (fun c hc => hd c (List.mem_of_mem_take hc))
     simp only [vals, List.map_cons, toN]
     rw [show toN (List.map (fun x => x.1) (rd (l.take (l.length - 9)))) = natOf (l.take (l.length - 9)) from h1]
     have h2 : natOf (l.drop (l.length - 9)) < 10 ^ 9 := Nat.lt_of_lt_of_le (natOf_lt _ (fun c hc => hd c (List.mem_of_mem_drop hc))) (Nat.pow_le_pow_right (by decide) (by rw [List.length_drop]; omega))
     rw [Nat.mod_eq_of_lt h2]
     conv => rhs; rw [← List.take_append_drop (l.length - 9) l, natOf_append]
     by_cases h9 : l.length ≤ 9
     · rw [show l.length - 9 = 0 by omega]; simp [natOf]
     · rw [List.length_drop, show l.length - (l.length - 9) = 9 by omega, B_eq, Nat.mul_comm, Nat.add_comm]
def KpS (Bn : Nat) (s : ByteArray) (W W' : World) : Prop := W.cell? ⟨Bn, 0, none⟩ = some (.string s) → W'.cell? ⟨Bn, 0, none⟩ = some (.string s)
theorem KpS.t {Bn : Nat} {s : ByteArray} {A B C : World} (h : KpS Bn s A B) (k : KpS Bn s B C) : KpS Bn s A C := fun x => k (h x)
theorem cell_putObj {W : World} {l : Nat} {o o' : Obj} {a : Addr} {v : Value} (h : W.cell? a = some v) (hl : W.heap[l]? = some o) (ho : o.isCells = false) : (W.putObj l o').cell? a = some v := by
 have hne : a.block ≠ l := by
   intro e
   unfold World.cell? at h
   rw [e, hl] at h
   cases o <;> simp_all [Obj.isCells]
 exact (World.cell?_of_block (World.putObj_heap_other hne)).trans h
theorem KpS.b {Bn : Nat} {s : ByteArray} {w : World} (W : World) (l : Nat) (o o' : Obj) (_ : w.heap.size ≤ l) (h : W.heap[l]? = some o) (hc : o.isCells = false) (_ : o.isWalk = false) : KpS Bn s W (W.putObj l o') := fun hx => cell_putObj hx h hc
theorem rd_take (s : ByteArray) (e : Nat) (he : e ≤ s.size) (h0 : e ≠ 0) (hd : ∀ c ∈ s.data.toList, isDig c = true) :
   ∃ x : Dg, x.1 = natOf (s.extract (e - 9) e).data.toList ∧ rd (s.data.toList.take e) = x :: rd (s.data.toList.take (e - 9)) := by
 have hl : (s.data.toList.take e).length = e := by rw [List.length_take, size_len]; omega
 have hne : s.data.toList.take e ≠ [] := by intro h; rw [h] at hl; simp at hl; omega
 have e1 : (s.data.toList.take e).drop (e - 9) = (s.extract (e - 9) e).data.toList := by
   rw [Lib.extract_data, List.drop_take]
 refine ⟨⟨natOf ((s.data.toList.take e).drop (e - 9)) % 1000000000, Nat.mod_lt _ (by decide)⟩, ?_, ?_⟩
 · show natOf ((s.data.toList.take e).drop (e - 9)) % 1000000000 = _
   rw [← e1]
   refine Nat.mod_eq_of_lt ?_
   refine Nat.lt_of_lt_of_le (natOf_lt _ (fun c hc => hd c (List.mem_of_mem_take (List.mem_of_mem_drop hc)))) ?_
   exact Nat.le_trans (Nat.pow_le_pow_right (by decide) (by rw [List.length_drop, hl]; omega)) (show 10 ^ 9 ≤ 1000000000 by decide)
 · rw [rd_pos hne, hl, List.take_take, Nat.min_eq_left (by omega)]
theorem digits1_in (n : Nat) (hn : 1 ≤ n) (l Bn : Nat) (s : ByteArray) (hs : s.size ≤ 1000000) (hd : ∀ c ∈ s.data.toList, isDig c = true) (J Jx : List Dg → World → Prop)
   (hY : ∀ pre x W, J pre W → pre.length < (rd s.data.toList).length → YieldAt Fence.wide (n - 1) Tryz.prog l #[.int .u64 (x.1 : Nat)] W fun e W' =>
     (e = .returned (.bool true) ∧ J (pre ++ [x]) W' ∧ KpS Bn s W W') ∨ (e = .returned (.bool false) ∧ Jx (pre ++ [x]) W'))
   (W : World) (hBn : W.cell? ⟨Bn, 0, none⟩ = some (.string s)) (h0 : J [] W) :
   CallsIn Fence.wide n Tryz.prog 192 #[.func (.yield l) #[] #[], .pointer (some ⟨Bn, 0, none⟩)] W fun e W' => (∃ v, e = .returned v) ∧
     ((∃ ys, ys = rd s.data.toList ∧ J ys W') ∨ (∃ pre, pre <+: rd s.data.toList ∧ Jx pre W')) := by
 have HY := Lib.hid hY; clear hY
 have HD := Lib.hid hd; clear hd
 refine callsIn_of_wp Tryz.func192 rfl trivial ?_ rfl
 simp only [Tryz.ntmps192, List.size_toArray, List.length_cons, List.length_nil, Nat.reduceAdd, Nat.reduceSub, Array.replicate_succ, Array.replicate_zero, List.push_toArray, List.append_toArray, List.nil_append, List.cons_append]
 gi_wp2
 gi_loopw [3] (fun p wr => ∃ (pre : List Dg) (z : Int), p = .int .i64 z ∧ -9 ≤ z ∧ z ≤ s.size ∧ Hid (rd s.data.toList = pre ++ rd (s.data.toList.take z.toNat)) ∧ J pre wr ∧ wr.cell? ⟨Bn, 0, none⟩ = some (.string s))
   (fun p wr => (intOf p).toNat)
 case atStart =>
   exact ⟨[], s.size, rfl, by omega, by omega, by show rd _ = _; rw [Int.toNat_natCast, List.take_of_length_le (by rw [size_len]; omega)]; rfl, h0, hBn⟩
 case round =>
   clear h0 hBn
   obtain ⟨pre, z, rfl, hz9, he, hx, hJs, hc⟩ := hrel
   by_cases h0 : z ≤ 0
   · have hx2 : Hid (rd s.data.toList = pre) := by
       show rd s.data.toList = pre
       rw [hx.out, show z.toNat = 0 by omega]; simp [rd_nil]
     clear hx
     gi_wp2
     go_end0
     exact ⟨⟨_, rfl⟩, .inl ⟨pre, hx2.out.symm, hJs⟩⟩
   · obtain ⟨e, rfl⟩ : ∃ e : Nat, z = e := ⟨z.toNat, by omega⟩
     rw [Int.toNat_natCast] at hx
     have he : e ≤ s.size := by omega
     have h0 : e ≠ 0 := by omega
     obtain ⟨x, hxv, hrd⟩ := rd_take s e he h0 HD.out
     have hsz : (s.extract (e - 9) e).size ≤ 18 := by rw [ByteArray.size_extract]; omega
     have hdd : ∀ c ∈ (s.extract (e - 9) e).data.toList, isDig c = true := fun c hc => by
       rw [Lib.extract_data] at hc; exact HD.out c (List.mem_of_mem_drop (List.mem_of_mem_take hc))
     have c := value_any (s.extract (e - 9) e) wr hsz hdd
     rw [← hxv] at c
     have C := Lib.hid c; clear c hdd hsz
     have hx2 : Hid (rd s.data.toList = (pre ++ [x]) ++ rd (s.data.toList.take (e - 9))) := by
       show rd s.data.toList = _
       rw [hx.out, hrd]; simp
     have hlen : pre.length < (rd s.data.toList).length := by rw [hx2.out]; simp
     obtain ⟨fn, tmps, assign, body, hy, hR⟩ := HY.out pre x wr hJs hlen
     obtain ⟨xv, hxb⟩ := x
     dsimp only at hy
     have HR := Lib.hid hR
     clear hxv hrd hx hlen hR
     have em : (max 0 ((e : Int) - 9)).toNat = e - 9 := by omega
     have EM := Lib.hid em; clear em
     gi_wp2_with fail
     rw [EM.out]
     refine ⟨trivial, ?_⟩
     refine (callsIn_wide.2 C.out).mono ?_
     rintro e' w' ⟨rfl, rfl⟩
     clear C
     gi_wp2
     refine HR.out.mono ?_
     clear HR
     rintro e' W3 (⟨rfl, hJ3, hk3⟩ | ⟨rfl, hJx3⟩)
     · have hc3 : W3.cell? ⟨Bn, 0, none⟩ = some (.string s) := hk3 hc
       gi_wp2
       go_roundw
       case rel => exact ⟨pre ++ [⟨xv, hxb⟩], (e : Int) - 9, rfl, by omega, by omega, by rw [show ((e : Int) - 9).toNat = e - 9 by omega]; exact hx2, hJ3, hc3⟩
       case measure => simp [intOf]; omega
     · gi_wp2
       refine bodyPost_ret (results_none rfl _ _ _) rfl ?_
       exact ⟨⟨_, rfl⟩, .inr ⟨pre ++ [⟨xv, hxb⟩], ⟨_, hx2.out.symm⟩, hJx3⟩⟩
theorem digits_stops (n : Nat) (hn : 1 ≤ n) (Bn : Nat) (s : ByteArray) (hs : s.size ≤ 1000000) (hd : ∀ c ∈ s.data.toList, isDig c = true) (w : World) (hBn : Bn < w.heap.size)
   (hc : w.cell? ⟨Bn, 0, none⟩ = some (.string s)) :
   SeqStopsK Fence.wide n Tryz.prog 192 #[.pointer (some ⟨Bn, 0, none⟩)] (fun x : Dg => #[Value.int .u64 (x.1 : Nat)]) (KpS Bn s) (fun ys => ys = rd s.data.toList) (fun pre => pre <+: rd s.data.toList) (rd s.data.toList).length w := fun l J Jx W hW _ _ hY h0 =>
 digits1_in n hn l Bn s hs hd J Jx hY W ((hW.cell (p := ⟨Bn, 0, none⟩) hBn).trans hc) h0
theorem digits_any (s : ByteArray) (w : World) :
   Calls Tryz.prog 170 #[.string s] w fun e w' => e = .returned (.func (.func 192) #[] #[.pointer (some ⟨w.heap.size, 0, none⟩)]) ∧ w' = w.alloc (.cells #[.string s] 9) := by
 go_enter Tryz.func170, Tryz.ntmps170
 go_wp2
 go_ret
 exact ⟨rfl, rfl⟩
theorem info_u64 : (Tryz.prog.info? 124).map (fun i => (i.zero, i.size, i.bytes)) = some (some (.int .u64 0), 1, 8) := by kernel_rfl
theorem nats_of_owns {w : World} {base : Nat} {v : Value} {l : List Nat} {e : TypeId} (h : w.ownsRow base e 1 v l.length (l.map fun x => Value.int .u64 (x : Nat))) : Nats w v l := by
 have h' := h
 obtain ⟨h1, h2⟩ := h
 rcases h2 with ⟨rfl, h3⟩ | ⟨g, cap, cur, rfl, hb, hh, hn, hcap, hsz, htk⟩
 · have : l = [] := List.eq_nil_of_length_eq_zero h3
   subst this; exact Nats.nil w
 · refine ⟨_, cap, rfl, hn, by unfold maxLen at hcap; omega, fun _ => ⟨g, 0, rfl, fun i hi => ?_⟩⟩
   have h3 := h'.cells (g := g) rfl i (.int .u64 (l.getD i 0 : Nat)) (by
     rw [List.getElem?_map, List.getElem?_eq_getElem hi, List.getD_eq_getElem?_getD, List.getElem?_eq_getElem hi]; rfl)
   have hadd : (⟨g, 0, none⟩ : Addr).add i = ⟨g, 0 + i, none⟩ := by unfold Addr.add; split <;> simp_all
   rwa [hadd] at h3
def cells64 (l : List Nat) : List Value := l.map fun x => Value.int .u64 (x : Nat)
theorem cells64_snoc (l : List Nat) (x : Nat) : cells64 l ++ [Value.int .u64 (x : Nat)] = cells64 (l ++ [x]) := by simp [cells64]
theorem vals_snoc (l : List Dg) (x : Dg) : vals (l ++ [x]) = vals l ++ [x.1] := by simp [vals]
theorem vals_length (l : List Dg) : (vals l).length = l.length := by simp [vals]
theorem Nats.putObj {W : World} {l : Nat} {o o' : Obj} {v : Value} {m : List Nat} (h : Nats W v m) (hl : W.heap[l]? = some o) (ho : o.isCells = false) : Nats (W.putObj l o') v m := by
 obtain ⟨p, cap, rfl, h1, h2, h3⟩ := h
 refine ⟨p, cap, rfl, h1, h2, fun hne => ?_⟩
 obtain ⟨b, off, e, hc⟩ := h3 hne
 exact ⟨b, off, e, fun i hi => cell_putObj (hc i hi) hl ho⟩
theorem readNatural_any (s : ByteArray) (w : World) (hs : s.size ≤ 1000000) (hd : ∀ c ∈ s.data.toList, isDig c = true) :
   Calls Tryz.prog 148 #[.string s] w fun e W' => ∃ v, e = .returned v ∧ IsNat W' v (natOf s.data.toList) ∧ Fresh w.heap.size v ∧ Below w.heap.size w W' := by
 refine (callsIn_wide (n := 9)).1 ?_
 have hlen : (rd s.data.toList).length ≤ 1000000 := Nat.le_trans (rd_length _ _ (Nat.le_refl _)) (by rw [size_len]; exact hs)
 have hval := toN_rd _ s.data.toList (Nat.le_refl _) hd
 have HV := Lib.hid hval; clear hval
 have HD := Lib.hid hd; clear hd
 obtain ⟨i0, hi, hz0, hz1, hz2⟩ := info_parts info_u64
 have HI := Lib.hid (And.intro hi (And.intro hz0 (And.intro hz1 hz2))); clear hi hz0 hz1 hz2
 obtain ⟨m, hm⟩ : ∃ m : Nat, (s.size : Int) / 9 + 1 = m := ⟨s.size / 9 + 1, by omega⟩
 have hm2 : m ≤ 1000000 := by omega
 have HM := Lib.hid hm; clear hm
 refine callsIn_of_wp_marks Tryz.func148 rfl trivial ?_ rfl
 simp only [Tryz.ntmps148, List.size_toArray, List.length_cons, List.length_nil, Nat.reduceAdd, Nat.reduceSub, Array.replicate_succ, Array.replicate_zero, List.push_toArray, List.append_toArray, List.nil_append, List.cons_append]
 gi_wp2_with (gi_at_make; refine wpListIn_make_own _ rfl _ _ 145 rfl w.heap.size 124 i0 (.int .u64 0) 1 Tryz.underlying145 HI.out.1 HI.out.2.1 HI.out.2.2.1 .i64 .i64 _ m rfl rfl HM.out (by rw [HI.out.2.2.2]; omega) (by unfold maxLen; omega) (Nat.le_refl _) ?_; intro w1 hown hgrow)
 refine ⟨trivial, ?_⟩
 refine (callsIn_wide.2 (digits_any s _)).mono ?_
 rintro e w' ⟨rfl, rfl⟩
 gi_wp2
 have bO := Boxed.new w1 145 (.slice (some ⟨w.heap.size, 0, none⟩) 0 m)
 have bS := Boxed.new (w1.alloc (.cells #[.slice (some ⟨w.heap.size, 0, none⟩) 0 m] 145)) 9 (.string s)
 rw [World.size_alloc] at bS
 have hsz1 : w.heap.size ≤ w1.heap.size := hgrow.size
 have hB0 : Below w.heap.size w ((w1.alloc (.cells #[.slice (some ⟨w.heap.size, 0, none⟩) 0 m] 145)).alloc (.cells #[.string s] 9)) :=
   (((Below.refl _ w).grown hgrow (Nat.le_refl _) (fun k e => by cases e)).alloc hsz1 _).alloc (by simp; omega) _
 refine wpIn_rangeFunc_ownG rfl (by omega) (gf := 192) (lb := #[.pointer (some ⟨w1.heap.size + 1, 0, none⟩)]) rfl trivial (enters_of Tryz.func192 (by kernel_rfl) rfl)
   (digits_stops (9 - 1) (by omega) (w1.heap.size + 1) s hs HD.out _ (by simp) bS.cell) KpS.t KpS.b (Below.refl _ _) (fun _ => rfl)
   (fun pre W => ((∃ v, Boxed W w1.heap.size 145 v ∧ W.ownsRow w.heap.size 124 1 v (vals pre).length (cells64 (vals pre)) ∧ True) ∧ Boxed W (w1.heap.size + 1) 9 (.string s)) ∧ Below w.heap.size w W)
   (fun _ _ _ => False)
   (OwnFrom.and (OwnFrom.and (Own.from (holdsRow_own w.heap.size w1.heap.size 145 124 1 (fun pre => (vals pre).length) (fun pre => cells64 (vals pre)) (fun _ _ => True)) _) (Own.from (boxed_own (w1.heap.size + 1) 9 (fun _ => .string s)) _)) (ownFrom_below (Nat.le_refl _) (by simp; omega)))
   (fun _ _ _ _ _ hs _ _ => hs)
   ⟨⟨⟨_, bO.alloc _, (hown.alloc _).alloc _, trivial⟩, bS⟩, hB0⟩
   (fun x => { tmps := #[.string s, undef, .slice none 0 0, .pointer (some ⟨w1.heap.size, 0, none⟩), .int .u64 (x.1 : Nat), .string s, .int .i64 s.size, .int .i64 ((s.size : Int) / 9), .int .i64 ((s.size : Int) / 9 + 1), .slice (some ⟨w.heap.size, 0, none⟩) 0 m, .string s, .func (.func 192) #[] #[.pointer (some ⟨w1.heap.size + 1, 0, none⟩)], .int .u64 (x.1 : Nat), undef, undef, undef, undef, undef, undef], defers := [] }) ?assign ?body ?done ?stop
 case assign =>
   clear hown bO bS hB0 hgrow
   intro l x W K hK
   gi_wp2
   exact hK
 case body =>
   clear hown bO bS hB0 hgrow
   rintro l pre x W ⟨⟨⟨v, hv, hrow, _⟩, hS⟩, hB⟩ hlt
   have hc := hv.cell
   have hp := vals_length pre
   have HP := Lib.hid hp; clear hp
   have hpl : (vals pre).length ≤ 1000000 := by rw [HP.out]; omega
   obtain ⟨hi, hz0, hz1, hz2⟩ := HI.out
   gi_wp2_with (gi_at_builtin; refine wpListIn_append_own _ rfl _ _ 145 rfl w.heap.size 124 i0 (.int .u64 0) 1 8 Tryz.underlying145 hi hz0 hz1 hz2 rfl (by decide) _ _ _ rfl (hrow.alloc _) ⟨W.heap.size, 0, none⟩ 1 1 [.int .u64 (x.1 : Nat)] rfl rfl (cell_one_new _ _ _) (by simp [Value.oneCell']) (by unfold maxLen; omega) (by omega) (by have := hB.size; simp; omega) ?_; intro v' w2 hown' hgrow _; obtain ⟨g', cap', rfl⟩ := ownsRow_succ hown'; obtain ⟨hv1, hv2, hr2, hk2, hb2⟩ := hv.appended (by decide) hrow hB.size hsz1 hown' hgrow; have hS2 := (hS.alloc _).kept hgrow (hS.not_row (by decide) hrow); have hc1 := hv1.cell; have hf1 := hv1.frozen)
   have hS3 := hS2.other (B' := w1.heap.size) (by omega) (.slice (some ⟨g', 0, none⟩) ((vals pre).length + 1) cap')
   refine ⟨hk2.from _, fun _ => hS3.cell, ⟨⟨_, hv2, ?_, trivial⟩, hS3⟩, hB.trans hb2⟩
   rw [vals_snoc, ← cells64_snoc, List.length_append, List.length_singleton]
   exact hr2
 case done =>
   clear hown bO bS hB0 hgrow
   rintro D ys W hD rfl ⟨⟨⟨v, hv, hrow, _⟩, hS⟩, hB⟩ hK
   have hc := hv.cell
   have hN := nats_of_owns hrow
   have ct := trimmed_any v _ W hN (vals_Dig _)
   rw [HV.out] at ct
   have CT := Lib.hid ct; clear ct hN
   gi_wp2_with fail
   refine ⟨trivial, ?_⟩
   refine (callsIn_wide.2 CT.out).mono ?_
   clear CT
   rintro e w' ⟨rfl, v', rfl, hN', ho⟩
   have HN := Lib.hid hN'; clear hN'
   have HO := Lib.hid ho; clear ho
   gi_wp2
   refine ⟨by simp, .inl ⟨_, _, rfl, run_takeDeferred hK, ?_⟩⟩
   exact ⟨_, results_tmp rfl _ _ _, v', rfl, HN.out.putObj hK rfl, fun k hk => by rw [HO.out] at hk; exact (hrow.lt k hk).1, hB.trans (belowK_b (w := w) (Nat.le_refl _) W D _ _ (by simp at hD; omega) hK rfl rfl)⟩
 case stop =>
   rintro D c pre W _ _ h _
   exact h.elim
end Go.Proofs.YtkjhaengllpaoaaGreatDoor
namespace Go.Proofs.YtkjhaengllpaoaaGreatDoor
open Go.RowKit
theorem szB_len (s : ByteArray) (hs : s.size ≤ 1000000) : (szB s).size ≤ 1000000 := Nat.le_trans (szB_size s) hs
theorem Nats.setCell {w : World} {v : Value} {l : List Nat} {base : Nat} (h : Nats w v l) (hf : Fresh base v) {a : Addr} (ha : a.block < base) (u : Value) : Nats (w.setCell a u) v l := by
 obtain ⟨p, cap, rfl, h1, h2, h3⟩ := h
 refine ⟨p, cap, rfl, h1, h2, fun hne => ?_⟩
 obtain ⟨b, off, e, hc⟩ := h3 hne
 refine ⟨b, off, e, fun i hi => ?_⟩
 have hb : base ≤ b := hf b (by rw [e]; rfl)
 exact (World.cell?_of_block (Below.heap_setCell _ _ _ _ (by show b ≠ a.block; omega))).trans (hc i hi)
theorem IsNat.setCell {w : World} {v : Value} {n base : Nat} (h : IsNat w v n) (hf : Fresh base v) {a : Addr} (ha : a.block < base) (u : Value) : IsNat (w.setCell a u) v n := Nats.setCell h hf ha u
theorem two_back {w : World} {b : Nat} {x0 x1 : Value} (c0 : w.cell? ⟨b, 0, none⟩ = some x0) (c1 : w.cell? ⟨b, 1, none⟩ = some x1) (X Y : Value) :
   (w.setCell ⟨b, 0, none⟩ X).cell? ⟨b, 0, none⟩ = some X ∧ ((w.setCell ⟨b, 0, none⟩ X).setCell ⟨b, 1, none⟩ Y).cell? ⟨b, 1, none⟩ = some Y := by
 have h0 : (w.setCell ⟨b, 0, none⟩ X).cell? ⟨b, 0, none⟩ = some X := World.cell?_setCell_same' _ _ _ (by rw [c0]; rfl)
 refine ⟨h0, World.cell?_setCell_same' _ _ _ ?_⟩
 have : (w.setCell ⟨b, 0, none⟩ X).cell? ⟨b, 1, none⟩ = some x1 := by go_cell
 rw [this]; rfl
theorem read_any (s : ByteArray) (w : World) (hs : s.size ≤ 1000000) (hc : chk s.data.toList = 0) :
   Calls Tryz.prog 112 #[.string s] w fun e W' => ∃ v, e = .returned (.agg #[.bool (isNeg s.data.toList), v]) ∧ IsNat W' v (natOf (szL s.data.toList)) ∧ Fresh w.heap.size v ∧ Below w.heap.size w W' := by
 have hd := chk_dig hc
 clear hc
 have c := fun w => readNatural_any (szB s) w (szB_len s hs) (by rw [szB_data]; exact hd)
 rw [szB_data] at c
 have C := Lib.hid c; clear c hd
 generalize natOf (szL s.data.toList) = n at *
 have k0 := cell_two_new w (.bool false) (.slice none 0 0) 147
 go_enter Tryz.func112, Tryz.ntmps112
 go_wp2_with fail
 refine (isNegative_any s _).mono ?_
 rintro e w' ⟨rfl, rfl⟩
 go_wp2_with fail
 refine (sizeText_any s _ (by unfold maxLen; omega)).mono ?_
 rintro e w' ⟨rfl, rfl⟩
 go_wp2_with fail
 refine (C.out _).mono ?_
 rintro e w1 ⟨v, rfl, hv, hf, hb⟩
 clear C
 obtain ⟨p, cap, hv1, _⟩ := id hv
 subst hv1
 have c0 : w1.cell? ⟨w.heap.size, 0, none⟩ = some (.bool false) := (hb.cell (p := ⟨w.heap.size, 0, none⟩) (by simp)).trans (by go_cell)
 have c1 : w1.cell? ⟨w.heap.size, 1, none⟩ = some (.slice none 0 0) := (hb.cell (p := ⟨w.heap.size, 1, none⟩) (by simp)).trans (by go_cell)
 have f0 : w1.frozen? ⟨w.heap.size, 0, none⟩ = false := (hb.frozen (p := ⟨w.heap.size, 0, none⟩) (by simp)).trans (by simp [go_sem])
 have f1 : w1.frozen? ⟨w.heap.size, 1, none⟩ = false := (hb.frozen (p := ⟨w.heap.size, 1, none⟩) (by simp)).trans (by simp [go_sem])
 have HV := Lib.hid (And.intro hv (And.intro hf hb)); clear hv hf hb
 clear k0
 have hback := two_back c0 c1 (.bool (isNeg s.data.toList)) (.slice p (dg n).length cap)
 obtain ⟨b0, b1⟩ := hback
 go_wp2
 refine bodyPost_ret (v := .agg #[.bool (isNeg s.data.toList), .slice p (dg n).length cap]) (by simp [results, Tryz.results112, go_sem, b0, b1]) rfl ?_
 refine ⟨_, rfl, ?_⟩
 obtain ⟨hv, hf, hb⟩ := HV.out
 have hf' : Fresh (w.heap.size + 1) (.slice p (dg n).length cap) := hf.mono (by simp)
 refine ⟨(hv.setCell hf' (Nat.lt_succ_self _) _).setCell hf' (Nat.lt_succ_self _) _, hf'.mono (by omega), ?_⟩
 exact ((((Below.refl _ w).alloc (Nat.le_refl _) _).trans (hb.mono (by simp))).setCell (p := ⟨w.heap.size, 0, none⟩) (Nat.le_refl _) _).setCell (p := ⟨w.heap.size, 1, none⟩) (Nat.le_refl _) _
end Go.Proofs.YtkjhaengllpaoaaGreatDoor
