/- The walk of the law IntegerOrder: comparing agrees with the sign of the difference, and with sums. -/
import Derived.Test.YtmaeijendkfliaaDoorLFin2
namespace Go.Proofs.YtmaeijendkfliaaDoor
open Go.RowKit

theorem max7 (W : World) : (Builtin.max_ #[24, 24, 24, 24, 24, 24, 24] 24 #[.int .i64 0, .int .i64 0, .int .i64 0, .int .i64 0, .int .i64 0, .int .i64 0, .int .i64 0]).run Tryd.prog W = .ok (.int .i64 0) W := by kernel_rfl
theorem fine3 (a b c : ByteArray) (B : Nat) (W : World) (ha : a.size ≤ maxLen) (hb : b.size ≤ maxLen) (hc : c.size ≤ maxLen) (h0 : W.cell? ⟨B, 0, none⟩ = some (.string a)) (h1 : W.cell? ⟨B, 1, none⟩ = some (.string b)) (h2 : W.cell? ⟨B, 2, none⟩ = some (.string c)) :
    Calls Tryd.prog 24 #[.slice (some ⟨B, 0, none⟩) 3 3] W fun e w' => e = .returned (.bool (fineS a && fineS b && fineS c)) ∧ W = w' := by
  have h := fine_any [a, b, c] B W (by show 3 ≤ 100; decide) (by
    intro s hs
    simp only [List.mem_cons, List.not_mem_nil, or_false] at hs
    rcases hs with rfl | rfl | rfl <;> assumption) (by
    intro i hi
    match i, hi with
    | 0, _ => exact h0
    | 1, _ => exact h1
    | 2, _ => exact h2)
  have e : [a, b, c].all fineS = (fineS a && fineS b && fineS c) := by simp [List.all_cons, Bool.and_assoc]
  rwa [e] at h

theorem cmpZ_swap (x y : Int) : cmpZ y x = -cmpZ x y := by
  unfold cmpZ
  rcases Int.lt_trichotomy x y with h | h | h
  · rw [if_neg (by omega), if_pos h, if_pos h]; rfl
  · subst h; simp
  · rw [if_pos h, if_neg (by omega), if_pos h]
theorem cmpZ_same {x y u v : Int} (h1 : x < y ↔ u < v) (h2 : y < x ↔ v < u) : cmpZ u v = cmpZ x y := by
  unfold cmpZ
  by_cases h : x < y
  · rw [if_pos h, if_pos (h1.1 h)]
  · rw [if_neg h, if_neg (fun h' => h (h1.2 h'))]
    by_cases h3 : y < x
    · rw [if_pos h3, if_pos (h2.1 h3)]
    · rw [if_neg h3, if_neg (fun h' => h3 (h2.2 h'))]
theorem cmpZ_eq (x y : Int) : ((strB x).toList == (strB y).toList) = (cmpZ x y == 0) := by
  rw [ByteArray.toList_eq, ByteArray.toList_eq, strB_data, strB_data]
  unfold cmpZ
  rcases Int.lt_trichotomy x y with h | h | h
  · rw [if_pos h, show (Lib.itoa x == Lib.itoa y) = false by rw [beq_eq_false_iff_ne]; intro e; have := itoa_inj e; omega]; rfl
  · subst h; rw [if_neg (by omega)]; simp
  · rw [if_neg (by omega), if_pos h, show (Lib.itoa x == Lib.itoa y) = false by rw [beq_eq_false_iff_ne]; intro e; have := itoa_inj e; omega]; rfl
theorem cmpZ_three (x y : Int) : cmpZ x y = -1 ∨ cmpZ x y = 0 ∨ cmpZ x y = 1 := by
  unfold cmpZ; split
  · exact .inl rfl
  · split
    · exact .inr (.inr rfl)
    · exact .inr (.inl rfl)

set_option maxRecDepth 100000 in
set_option maxHeartbeats 4000000 in
theorem IntegerOrder_any (a b c : ByteArray) (w : World) (ha : a.size ≤ maxLen) (hb : b.size ≤ maxLen) (hc : c.size ≤ maxLen) (ht : Tab w) :
    Calls Tryd.prog 9 #[.string a, .string b, .string c] w fun e W' => e = .returned (.bool true) ∧ Below w.heap.size w W' := by
  have hfin := Lib.hid (fun B W => fine3 a b c B W ha hb hc)
  clear ha hb hc
  by_cases hf : (fineS a && fineS b && fineS c) = true
  · rw [hf] at hfin
    obtain ⟨⟨fa, fb⟩, fc⟩ : (fineS a = true ∧ fineS b = true) ∧ fineS c = true := by simpa using hf
    obtain ⟨x, rfl, hx⟩ := fine_str fa
    obtain ⟨y, rfl, hy⟩ := fine_str fb
    obtain ⟨z, rfl, hz⟩ := fine_str fc
    clear hf fa fb fc
    have hmax := max7
    have o1 := fun W => Compare_str x y W (hx.lt (by decide)) (hy.lt (by decide))
    have o2 := fun W => Compare_str y x W (hy.lt (by decide)) (hx.lt (by decide))
    have o3 := fun W (h : Below w.heap.size w W) => Sub_str x y W (hx.lt (by decide)) (hy.lt (by decide)) ((hx.sub hy).lt (by decide)) (ht.next h)
    have o4 := fun W => Compare_str (x - y) 0 W ((hx.sub hy).lt (by decide)) (small_lim (by decide))
    have o5 := fun W (h : Below w.heap.size w W) => Add_str x z W (hx.lt (by decide)) (hz.lt (by decide)) ((hx.add hz).lt (by decide)) (ht.next h)
    have o6 := fun W (h : Below w.heap.size w W) => Add_str y z W (hy.lt (by decide)) (hz.lt (by decide)) ((hy.add hz).lt (by decide)) (ht.next h)
    have o7 := fun W => Compare_str (x + z) (y + z) W ((hx.add hz).lt (by decide)) ((hy.add hz).lt (by decide))
    have o8 := fun W (h : Below w.heap.size w W) => awake_any W (ht.next h)
    rw [cmpZ_swap x y] at o2
    rw [cmpZ_same (x := x) (y := y) (by omega) (by omega), str_of 0 [48] (by decide +kernel)] at o4
    rw [cmpZ_same (x := x) (y := y) (by omega) (by omega)] at o7
    have heq := cmpZ_eq x y
    have h3 := Lib.hid (cmpZ_three x y)
    generalize cmpZ x y = k at *
    have O := Lib.hid (And.intro o1 (And.intro o2 (And.intro o3 (And.intro o4 (And.intro o5 (And.intro o6 (And.intro o7 o8)))))))
    clear o1 o2 o3 o4 o5 o6 o7 o8 ht hx hy hz
    go_enter Tryd.func9, Tryd.ntmps9
    go_wp2_with fail
    refine (hfin.out _ _ (by go_cell) (by go_cell) (by go_cell)).mono ?_
    rintro e w' ⟨rfl, rfl⟩
    have B0 := Lib.hid ((Below.refl w.heap.size w).alloc (Nat.le_refl _) (.cells #[.string (strB x), .string (strB y), .string (strB z)] 9))
    generalize w.alloc (.cells #[.string (strB x), .string (strB y), .string (strB z)] 9) = v0 at *
    go_wp2_with fail
    refine (O.out.1 _).mono ?_
    rintro e w' ⟨rfl, rfl⟩
    go_wp2_with fail
    refine (O.out.2.1 _).mono ?_
    rintro e w' ⟨rfl, rfl⟩
    go_wp2_with fail
    refine (O.out.2.2.1 _ B0.out).mono ?_
    rintro e v3 ⟨rfl, b3⟩
    have B3 := Lib.hid (B0.out.trans (b3.mono B0.out.size)); clear b3 B0
    go_wp2_with fail
    refine (O.out.2.2.2.1 _).mono ?_
    rintro e w' ⟨rfl, rfl⟩
    go_wp2_with fail
    refine (O.out.2.2.2.2.1 _ B3.out).mono ?_
    rintro e v5 ⟨rfl, b5⟩
    have B5 := Lib.hid (B3.out.trans (b5.mono B3.out.size)); clear b5 B3
    go_wp2_with fail
    refine (O.out.2.2.2.2.2.1 _ B5.out).mono ?_
    rintro e v6 ⟨rfl, b6⟩
    have B6 := Lib.hid (B5.out.trans (b6.mono B5.out.size)); clear b6 B5
    go_wp2_with fail
    refine (O.out.2.2.2.2.2.2.1 _).mono ?_
    rintro e w' ⟨rfl, rfl⟩
    rcases h3.out with rfl | rfl | rfl
    · go_wp2_with fail
      refine (O.out.2.2.2.2.2.2.2 _ B6.out).mono ?_
      rintro e v9 ⟨rfl, b9⟩
      have B9 := Lib.hid (B6.out.trans (b9.mono B6.out.size)); clear b9 B6
      go_wp2
      go_ret
      exact ⟨rfl, B9.out⟩
    · go_wp2_with fail
      refine (O.out.2.2.2.2.2.2.2 _ B6.out).mono ?_
      rintro e v9 ⟨rfl, b9⟩
      have B9 := Lib.hid (B6.out.trans (b9.mono B6.out.size)); clear b9 B6
      go_wp2
      go_ret
      exact ⟨rfl, B9.out⟩
    · go_wp2_with fail
      refine (O.out.2.2.2.2.2.2.2 _ B6.out).mono ?_
      rintro e v9 ⟨rfl, b9⟩
      have B9 := Lib.hid (B6.out.trans (b9.mono B6.out.size)); clear b9 B6
      go_wp2
      go_ret
      exact ⟨rfl, B9.out⟩
  · have hf' : (fineS a && fineS b && fineS c) = false := by simpa using hf
    rw [hf'] at hfin
    clear hf hf'
    have O := Lib.hid (fun W (h : Below w.heap.size w W) => awake_any W (ht.next h))
    clear ht
    go_enter Tryd.func9, Tryd.ntmps9
    go_wp2_with fail
    refine (hfin.out _ _ (by go_cell) (by go_cell) (by go_cell)).mono ?_
    rintro e w' ⟨rfl, rfl⟩
    have B0 := Lib.hid ((Below.refl w.heap.size w).alloc (Nat.le_refl _) (.cells #[.string a, .string b, .string c] 9))
    generalize w.alloc (.cells #[.string a, .string b, .string c] 9) = v0 at *
    go_wp2_with fail
    refine (O.out _ B0.out).mono ?_
    rintro e v1 ⟨rfl, b1⟩
    have B1 := Lib.hid (B0.out.trans (b1.mono B0.out.size)); clear b1 B0
    go_wp2
    go_ret
    exact ⟨rfl, B1.out⟩
end Go.Proofs.YtmaeijendkfliaaDoor
