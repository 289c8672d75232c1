/- The walks of the naturals: reading a digit, the number without zeros in front, how many digits it has. -/
import Derived.Test.YtajonpcmgebbbaaDoorW3
import Derived.Test.YtajonpcmgebbbaaDoorNat
namespace Go.Proofs.YtajonpcmgebbbaaDoor
open Go.RowKit

/-- the slice v reads as these digits -/
def Nats (w : World) (v : Value) (l : List Nat) : Prop :=
  ∃ p cap, v = .slice p l.length cap ∧ l.length ≤ cap ∧ cap ≤ 9223372036854775807 ∧
    (l ≠ [] → ∃ b off, p = some ⟨b, off, none⟩ ∧ ∀ i, i < l.length → w.cell? ⟨b, off + i, none⟩ = some (.int .u64 (l.getD i 0 : Nat)))

theorem Nats.next {w w' : World} {v : Value} {l : List Nat} (h : Nats w v l) (hb : Below w.heap.size w w') : Nats w' v l := by
  obtain ⟨p, cap, rfl, h1, h2, h3⟩ := h
  refine ⟨p, cap, rfl, h1, h2, fun hne => ?_⟩
  obtain ⟨b, off, e, hc⟩ := h3 hne
  exact ⟨b, off, e, fun i hi => (hb.cell (World.block_lt_of_cell? w _ (hc i hi))).trans (hc i hi)⟩
theorem Nats.nil (w : World) : Nats w (.slice none 0 0) [] := ⟨none, 0, rfl, Nat.le_refl _, by decide, fun h => absurd rfl h⟩

set_option maxHeartbeats 400000 in
theorem at_any (v : Value) (l : List Nat) (i : Int) (w : World) (h : Nats w v l) (hi : 0 ≤ i) (hi' : i ≤ 4611686018427387904) :
    Calls Tryd.prog 95 #[v, .int .i64 i] w fun e w' => e = .returned (.int .u64 (l.getD i.toNat 0 : Nat)) ∧ w = w' := by
  obtain ⟨p, cap, rfl, h1, h2, h3⟩ := h
  by_cases hlt : i < (l.length : Int)
  · obtain ⟨b, off, rfl, hc⟩ := h3 (by intro e; subst e; simp at hlt; omega)
    have hc' := hc i.toNat (by omega)
    clear hc
    have e1 : ((i.toNat : Nat) : Int) = i := by omega
    generalize l.length = n at *
    generalize l.getD i.toNat 0 = d at *
    obtain ⟨k, rfl⟩ : ∃ k : Nat, i = k := ⟨i.toNat, by omega⟩
    rw [Int.toNat_natCast] at hc'
    clear e1
    go_enter Tryd.func95, Tryd.ntmps95
    go_wp2
    go_ret
    exact ⟨rfl, rfl⟩
  · have e : l.getD i.toNat 0 = 0 := by rw [List.getD_eq_getElem?_getD, List.getElem?_eq_none (by omega)]; rfl
    rw [e]
    generalize l.length = n at *
    clear h3 e
    go_enter Tryd.func95, Tryd.ntmps95
    go_wp2
    go_ret
    exact ⟨rfl, rfl⟩

/-- a length in a slot -/
def lenOf : Value → Nat | .slice _ n _ => n | _ => 0

set_option maxHeartbeats 400000 in
theorem trimmed_at (p : Option Addr) (cap : Nat) (l : List Nat) (w : World) (h : Nats w (.slice p l.length cap) l) (hd : Dig l) :
    Calls Tryd.prog 78 #[.slice p l.length cap] w fun e w' => e = .returned (.slice p (dg (toN l)).length cap) ∧ w = w' := by
  obtain ⟨p', cap', he, h1, h2, h3⟩ := h
  simp only [Value.slice.injEq, true_and] at he
  obtain ⟨rfl, rfl⟩ := he
  have H3 := Lib.hid h3; clear h3
  have HD := Lib.hid hd; clear hd
  go_enter Tryd.func78, Tryd.ntmps78
  go_wp2
  go_loop [0] (fun x => ∃ k : Nat, k ≤ l.length ∧ x = .slice p k cap ∧ Hid (toN (l.take k) = toN l)) (fun x => lenOf x)
  case atStart => exact ⟨l.length, Nat.le_refl _, rfl, by show toN _ = _; rw [List.take_length]⟩
  case round =>
    obtain ⟨k, hk, rfl, hv⟩ := hrel
    by_cases h0 : k = 0
    · subst h0
      have he := dg_of_take HD.out 0 hk hv.out (.inl rfl)
      have HE := Lib.hid (show (dg (toN l)).length = 0 by rw [he]; simp); clear he
      go_wp2
      go_ret
      exact ⟨by rw [HE.out]; rfl, rfl⟩
    · obtain ⟨b, off, rfl, hc⟩ := H3.out (by intro e; subst e; simp at hk; omega)
      have hc1 := hc (k - 1) (by omega)
      have HC := Lib.hid hc; clear hc
      obtain ⟨j, rfl⟩ : ∃ j, k = j + 1 := ⟨k - 1, by omega⟩
      rw [Nat.add_sub_cancel] at hc1
      have ej : ((j + 1 : Nat) : Int) - 1 = (j : Int) := by omega
      have HJ := Lib.hid ej; clear ej
      have hs := toN_take_succ l j (by omega)
      have HS := Lib.hid hs; clear hs
      have hl := Lib.hid (dg_of_take HD.out (j + 1) hk hv.out)
      have hdd := Lib.hid (show l.getD j 0 = l.getD j 0 from rfl)
      by_cases hz : l.getD j 0 = 0
      · have hv2 : Hid (toN (l.take j) = toN l) := by
          show toN (l.take j) = toN l
          rw [← hv.out, HS.out, hz]; simp
        rw [hz] at hc1
        have HZ := Lib.hid hz; clear hz hl hv HS hdd
        generalize l.length = n at *
        go_wp2
        go_round
        case rel => exact ⟨j, by omega, rfl, hv2⟩
        case measure => simp [lenOf]
      · have hz' : (((l.getD j 0 : Nat) : Int) == 0) = false := by rw [beq_eq_false_iff_ne]; omega
        have hr : (dg (toN l)).length = j + 1 := by
          rw [hl.out (.inr (by rw [Nat.add_sub_cancel]; exact hz)), List.length_take]; omega
        have HR := Lib.hid hr; clear hr hz hl hv HS hdd
        generalize l.getD j 0 = d at *
        generalize l.length = n at *
        go_wp2
        go_ret
        exact ⟨by rw [HR.out]; rfl, rfl⟩

theorem dg_prefix {l : List Nat} (h : Dig l) : dg (toN l) <+: l := by
  induction l using snoc_ind with
  | h0 => rw [show toN [] = 0 from rfl, dg_zero]; exact List.prefix_refl _
  | hs m d ih =>
    by_cases hd : d = 0
    · subst hd
      rw [toN_snoc, Nat.mul_zero, Nat.add_zero]
      exact (ih (fun x hx => h x (by simp [hx]))).trans (List.prefix_append _ _)
    · rw [dg_toN h (by rw [List.getLast?_concat]; intro e; exact hd (Option.some.inj e))]
      exact List.prefix_refl _
theorem Nats.take {w : World} {p : Option Addr} {cap : Nat} {l m : List Nat} (h : Nats w (.slice p l.length cap) l) (hm : m <+: l) : Nats w (.slice p m.length cap) m := by
  obtain ⟨p', cap', he, h1, h2, h3⟩ := h
  simp only [Value.slice.injEq, true_and] at he
  obtain ⟨rfl, rfl⟩ := he
  refine ⟨p, cap, rfl, Nat.le_trans hm.length_le h1, h2, fun hne => ?_⟩
  obtain ⟨r, rfl⟩ := hm
  obtain ⟨b, off, e, hc⟩ := h3 (by simp [hne])
  refine ⟨b, off, e, fun i hi => ?_⟩
  rw [hc i (by rw [List.length_append]; omega)]
  rw [List.getD_eq_getElem?_getD, List.getD_eq_getElem?_getD, List.getElem?_append_left hi]
/-- what a value leads to was made by the call -/
def Fresh (base : Nat) (v : Value) : Prop := ∀ k, v.ownBlock = some k → base ≤ k
theorem Fresh.mono {a b : Nat} {v : Value} (h : Fresh b v) (hab : a ≤ b) : Fresh a v := fun k hk => Nat.le_trans hab (h k hk)
theorem Fresh.nil (b : Nat) : Fresh b (.slice none 0 0) := fun k hk => by cases hk

theorem trimmed_any (v : Value) (l : List Nat) (w : World) (h : Nats w v l) (hd : Dig l) :
    Calls Tryd.prog 78 #[v] w fun e w' => w = w' ∧ ∃ v', e = .returned v' ∧ Nats w v' (dg (toN l)) ∧ v'.ownBlock = v.ownBlock := by
  have h' := h
  obtain ⟨p, cap, rfl, h1, h2, h3⟩ := h
  refine (trimmed_at p cap l w h' hd).mono fun e w' ⟨he, hw⟩ => ⟨hw, _, he, h'.take (dg_prefix hd), ?_⟩
  cases p <;> rfl
end Go.Proofs.YtajonpcmgebbbaaDoor
