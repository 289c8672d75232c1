/- Parts of the proofs of the texts YtkjhaengllpaoaaGreatDoorZN. -/
import Derived.Lib.Index
import Derived.Lib.IndexMore
import Derived.Lib.Join
import Derived.Shelf.GgClosure.StringsIndexFunc
import Derived.Test.YtkjhaengllpaoaaGreatDoorZB1
import Derived.Test.YtkjhaengllpaoaaGreatDoorZB10
import Derived.Test.YtkjhaengllpaoaaGreatDoorZB11
import Derived.Test.YtkjhaengllpaoaaGreatDoorZB12
import Derived.Test.YtkjhaengllpaoaaGreatDoorZB13
import Derived.Test.YtkjhaengllpaoaaGreatDoorZB14
import Derived.Test.YtkjhaengllpaoaaGreatDoorZB15
import Derived.Test.YtkjhaengllpaoaaGreatDoorZB16
import Derived.Test.YtkjhaengllpaoaaGreatDoorZB17
import Derived.Test.YtkjhaengllpaoaaGreatDoorZB18
import Derived.Test.YtkjhaengllpaoaaGreatDoorZB19
import Derived.Test.YtkjhaengllpaoaaGreatDoorZB2
import Derived.Test.YtkjhaengllpaoaaGreatDoorZB20
import Derived.Test.YtkjhaengllpaoaaGreatDoorZB21
import Derived.Test.YtkjhaengllpaoaaGreatDoorZB22
import Derived.Test.YtkjhaengllpaoaaGreatDoorZB23
import Derived.Test.YtkjhaengllpaoaaGreatDoorZB24
import Derived.Test.YtkjhaengllpaoaaGreatDoorZB25
import Derived.Test.YtkjhaengllpaoaaGreatDoorZB26
import Derived.Test.YtkjhaengllpaoaaGreatDoorZB3
import Derived.Test.YtkjhaengllpaoaaGreatDoorZB4
import Derived.Test.YtkjhaengllpaoaaGreatDoorZB5
import Derived.Test.YtkjhaengllpaoaaGreatDoorZB6
import Derived.Test.YtkjhaengllpaoaaGreatDoorZB7
import Derived.Test.YtkjhaengllpaoaaGreatDoorZB8
import Derived.Test.YtkjhaengllpaoaaGreatDoorZB9
import Derived.Test.YtkjhaengllpaoaaGreatDoorZN1
set_option linter.all false
set_option maxRecDepth 100000
set_option maxHeartbeats 8000000
namespace Go.Proofs.YtkjhaengllpaoaaGreatDoor.T
open Go.Proofs.YtkjhaengllpaoaaGreatDoor Go Go.RowKit Go.Shelf
theorem row_cells {w : World} {base : Nat} {e : TypeId} {v : Value} {xs : List ByteArray} (h : w.ownsRow base e 1 v xs.length (xs.map Value.string)) (hne : xs ≠ []) :
   ∃ g cap, v = .slice (some ⟨g, 0, none⟩) xs.length cap ∧ g < w.heap.size ∧ xs.length ≤ cap ∧ ∀ j x, xs[j]? = some x → w.cell? ⟨g, j, none⟩ = some (.string x) := by
 rcases h.2 with ⟨_, h0⟩ | ⟨g, cap, cur, rfl, hb, hg, hc, _, _, ht⟩
 · exact absurd (List.eq_nil_of_length_eq_zero h0) hne
 · refine ⟨g, cap, rfl, (Array.getElem?_eq_some_iff.1 hg).1, hc, fun j x hj => ?_⟩
   have h1 : (xs.map Value.string)[j]? = some (.string x) := by rw [List.getElem?_map, hj]; rfl
   rw [← ht, List.getElem?_take] at h1
   have h2 : cur.toList[j]? = some (.string x) := by
     split at h1
     · exact h1
     · cases h1
   unfold World.cell?
   rw [hg]
   simpa using h2
def isLD (c : UInt8) : Bool := isDig c || (97 ≤ c && c ≤ 122) || (65 ≤ c && c ≤ 90)
theorem isLD_iff (c : UInt8) : isLD c = true ↔ isDig c = true ∨ (97 ≤ c.toNat ∧ c.toNat ≤ 122) ∨ (65 ≤ c.toNat ∧ c.toNat ≤ 90) := by
 unfold isLD
 simp only [Bool.or_eq_true, Bool.and_eq_true, decide_eq_true_eq, UInt8.le_iff_toNat_le, or_assoc]
 rfl
theorem mld (c : UInt8) (w : World) : Calls Tryz.prog 70 #[.int .u8 c.toNat] w fun e W' => e = .returned (.bool (isLD c)) ∧ w = W' := by
 have D := Lib.hid (mdig c w)
 cases hd : isDig c
 · rw [hd] at D
   by_cases h1 : (97 : Int) ≤ c.toNat
   · by_cases h2 : (c.toNat : Int) ≤ 122
     · rw [show isLD c = true by rw [isLD_iff]; omega]
       clear hd
       go_enter Tryz.func70, Tryz.ntmps70
       go_wp2_with fail
       refine D.out.mono ?_
       rintro e w1 ⟨rfl, rfl⟩
       go_wp2
       go_ret
       exact ⟨rfl, rfl⟩
     · have h3 : (65 : Int) ≤ c.toNat := by omega
       have h4 : ¬ (c.toNat : Int) ≤ 90 := by omega
       rw [show isLD c = false by rw [← Bool.not_eq_true, isLD_iff, hd]; simp; omega]
       clear hd
       go_enter Tryz.func70, Tryz.ntmps70
       go_wp2_with fail
       refine D.out.mono ?_
       rintro e w1 ⟨rfl, rfl⟩
       go_wp2
       go_ret
       exact ⟨(show Ending.returned (.bool (decide ((c.toNat : Int) ≤ 122) || decide ((c.toNat : Int) ≤ 90))) = _ from by rw [decide_eq_false (Int.not_le.2 h2), decide_eq_false (Int.not_le.2 h4)]; rfl), rfl⟩
   · by_cases h3 : (65 : Int) ≤ c.toNat
     · by_cases h4 : (c.toNat : Int) ≤ 90
       · rw [show isLD c = true by rw [isLD_iff]; omega]
         clear hd
         go_enter Tryz.func70, Tryz.ntmps70
         go_wp2_with fail
         refine D.out.mono ?_
         rintro e w1 ⟨rfl, rfl⟩
         go_wp2
         go_ret
         exact ⟨rfl, rfl⟩
       · rw [show isLD c = false by rw [← Bool.not_eq_true, isLD_iff, hd]; simp; omega]
         clear hd
         go_enter Tryz.func70, Tryz.ntmps70
         go_wp2_with fail
         refine D.out.mono ?_
         rintro e w1 ⟨rfl, rfl⟩
         go_wp2
         go_ret
         exact ⟨(show Ending.returned (.bool (decide ((c.toNat : Int) ≤ 90))) = _ from by rw [decide_eq_false (Int.not_le.2 h4)]), rfl⟩
     · rw [show isLD c = false by rw [← Bool.not_eq_true, isLD_iff, hd]; simp; omega]
       clear hd
       go_enter Tryz.func70, Tryz.ntmps70
       go_wp2_with fail
       refine D.out.mono ?_
       rintro e w1 ⟨rfl, rfl⟩
       go_wp2
       go_ret
       exact ⟨rfl, rfl⟩
 · rw [hd] at D
   rw [show isLD c = true by rw [isLD_iff, hd]; exact .inl rfl]
   clear hd
   go_enter Tryz.func70, Tryz.ntmps70
   go_wp2_with fail
   refine D.out.mono ?_
   rintro e w1 ⟨rfl, rfl⟩
   go_wp2
   go_ret
   exact ⟨rfl, rfl⟩
theorem mcld (s : ByteArray) (w : World) (hs : s.size ≤ 100000) :
   Calls Tryz.prog 64 #[.string s, .func (.func 70) #[] #[]] w fun e W' => e = .returned (.bool (allB isLD s.data.toList)) ∧ Below w.heap.size w W' :=
 (mcons_core 70 isLD s w hs (enters_of Tryz.func70 (by kernel_rfl) rfl) (fun c => mld c w)).mono fun e W' h => ⟨h.1, by rw [← h.2]; exact Below.refl _ _⟩
theorem name_yes (s : ByteArray) (g : Bool) (w : World) (s1 : (s.size : Int) ≤ 16)
   (h1 : ∀ W, Below w.heap.size w W → Calls Tryz.prog 64 #[.string s, .func (.func 70) #[] #[]] W fun e W' => e = .returned (.bool g) ∧ Below W.heap.size W W')
   : Calls Tryz.prog 33 #[.string s] w fun e W' => e = .returned (.bool g) ∧ Below w.heap.size w W' := by
 have O := Lib.hid (h1); clear h1
 go_enter Tryz.func33, Tryz.ntmps33
 have HB := Lib.hid (Below.refl w.heap.size w)
 go_wp2_with fail
 refine (O.out _ HB.out).mono ?_
 rintro e w1 ⟨rfl, b⟩
 have HN := Lib.hid (HB.out.trans (b.mono HB.out.size)); clear HB b; have HB := HN; clear HN
 go_wp2
 go_ret
 exact ⟨rfl, HB.out⟩
theorem name_no (s : ByteArray) (w : World) (s1 : ¬ (s.size : Int) ≤ 16) :
   Calls Tryz.prog 33 #[.string s] w fun e W' => e = .returned (.bool false) ∧ Below w.heap.size w W' := by
 go_enter Tryz.func33, Tryz.ntmps33
 go_wp2
 go_ret
 exact ⟨rfl, Below.refl _ _⟩
def nm (s : ByteArray) : Bool := decide (s.size ≤ 16) && allB isLD s.data.toList
theorem mname (s : ByteArray) (w : World) :
   Calls Tryz.prog 33 #[.string s] w fun e W' => e = .returned (.bool (nm s)) ∧ Below w.heap.size w W' := by
 unfold nm
 by_cases h : s.size ≤ 16
 · rw [decide_eq_true h, Bool.true_and]
   exact name_yes s _ w (by omega) (fun W _ => mcld s W (by omega))
 · rw [decide_eq_false h, Bool.false_and]
   exact name_no s w (by omega)
theorem ld_pr {c : UInt8} (h : isLD c = true) : isPr c = true ∧ c ≠ 32 ∧ c.toNat < 128 := by
 rw [isLD_iff, isDig_iff] at h
 refine ⟨(isPr_iff c).2 (by omega), fun e => ?_, by omega⟩
 subst e
 revert h; decide
theorem allB_all {p : UInt8 → Bool} {l : List UInt8} (h : allB p l = true) : l ≠ [] ∧ ∀ c ∈ l, p c = true := by
 unfold allB at h
 rw [Bool.and_eq_true] at h
 exact ⟨(by rintro rfl; exact absurd h.1 (by decide)), List.all_eq_true.1 h.2⟩
theorem allB_of {p : UInt8 → Bool} {l : List UInt8} (h : l ≠ []) (h2 : ∀ c ∈ l, p c = true) : allB p l = true := by
 unfold allB
 rw [List.all_eq_true.2 h2]
 cases l with
 | nil => exact absurd rfl h
 | cons a t => rfl
theorem name_words {s : ByteArray} (h : allB isLD s.data.toList = true) : wl s.data.toList = [s] ∧ allB isPr s.data.toList = true := by
 obtain ⟨h1, h2⟩ := allB_all h
 have hn : (32 : UInt8) ∉ s.data.toList := fun hm => (ld_pr (h2 _ hm)).2.1 rfl
 refine ⟨?_, allB_of h1 (fun c hc => (ld_pr (h2 c hc)).1)⟩
 unfold wl
 rw [if_neg h1, wsp_eq, kH_no hn, (k_no hn).1, bO_of]
 rfl
theorem name_Words (s : ByteArray) (w : World) (hs : s.size ≤ 1000) (h : allB isLD s.data.toList = true) :
   Calls Tryz.prog 25 #[.string s] w fun e W' => ∃ g cap, e = .returned (.tuple #[.slice (some ⟨g, 0, none⟩) 1 cap, .int .i64 0]) ∧ W'.cell? ⟨g, 0, none⟩ = some (.string s) ∧ Below w.heap.size w W' := by
 obtain ⟨e1, e2⟩ := name_words h
 refine (Words_in s w hs).mono ?_
 rintro e W' ⟨hB, (⟨_, x, hx, hbad⟩ | ⟨v, rfl, _, hr⟩)⟩
 · rw [e1] at hx
   rw [List.mem_singleton.1 hx, e2] at hbad; cases hbad
 · rw [e1] at hr
   obtain ⟨g, cap, rfl, _, _, hc⟩ := row_cells hr (by simp)
   exact ⟨g, cap, rfl, hc 0 s rfl, hB⟩
def cset : ByteArray := ⟨#[97, 98, 99, 100, 101, 102, 103, 104, 105, 106, 107, 108, 109, 110, 111, 112, 113, 114, 115, 116, 117, 118, 119, 120, 121, 122, 48, 49, 50, 51, 52, 53, 54, 55, 56, 57]⟩
theorem low_in {c : UInt8} (h : isLD c = true) : cset.data.toList.contains (Lib.lowerB c) = true := by
 have : ∀ n : Fin 256, isLD (UInt8.ofNat n.1) = true → cset.data.toList.contains (Lib.lowerB (UInt8.ofNat n.1)) = true := by decide +kernel
 have h2 := this ⟨c.toNat, c.toNat_lt⟩
 simp only [UInt8.ofNat_toNat] at h2
 exact h2 h
theorem trim_low {s : ByteArray} (h : ∀ c ∈ s.data.toList, isLD c = true) : Lib.trimS (Lib.toLowerA s.data.toList) cset.data.toList = [] := by
 have ha : ∀ c ∈ Lib.toLowerA s.data.toList, cset.data.toList.contains c = true := fun c hc => by
   obtain ⟨b, hb, rfl⟩ := List.mem_map.1 hc
   exact low_in (h b hb)
 have hall : ∀ l : List UInt8, (∀ c ∈ l, cset.data.toList.contains c = true) → l.dropWhile (cset.data.toList.contains ·) = [] := fun l hl => by
   induction l with
   | nil => rfl
   | cons a t ih => rw [List.dropWhile_cons_of_pos (hl a (by simp))]; exact ih (fun c hc => hl c (by simp [hc]))
 unfold Lib.trimS Lib.trimLeftS Lib.trimRightS
 rw [hall (Lib.toLowerA s.data.toList).reverse (fun c hc => ha c (List.mem_reverse.1 hc))]
 rfl
theorem name_trim (s : ByteArray) (w : World) (hs : s.size ≤ 1000) (h : allB isLD s.data.toList = true) :
   ∃ lo, (∀ W, Below w.heap.size w W → Calls Tryz.prog 35 #[.string s] W fun e W' => e = .returned (.string lo) ∧ Below W.heap.size W W') ∧
     ∀ W, Below w.heap.size w W → Calls Tryz.prog 34 #[.string lo, .string cset] W fun e W' => e = .returned (.string ⟨#[]⟩) ∧ Below W.heap.size W W' := by
 obtain ⟨_, h2⟩ := allB_all h
 refine ⟨bO (Lib.toLowerA s.data.toList), fun W _ => Tryz.strings_ToLower_ascii s W (by omega) (fun j b hj => (ld_pr (h2 b (List.mem_of_getElem? hj))).2.2), fun W _ => ?_⟩
 have c := Any.strings_Trim_ascii Tryz.lays160 (fun w => by kernel_rfl) (by kernel_rfl) (bO (Lib.toLowerA s.data.toList)) cset W (by
   rw [bO_size]; unfold Lib.toLowerA; rw [List.length_map]; have : s.data.toList.length = s.size := rfl; omega) (by decide) (fun j b hj => by
   have := List.mem_of_getElem? hj
   revert this
   have : ∀ b ∈ cset.data.toList, b.toNat < 128 := by decide
   exact this b)
 rw [bO_data, trim_low h2] at c
 exact c
theorem MeasureNames_long1 (s t : ByteArray) (w : World) (s1 : (40 : Int) < s.size)
   (h1 : ∀ W, Below w.heap.size w W → Calls Tryz.prog 11 #[] W fun e W' => e = .returned (.bool true) ∧ Below W.heap.size W W')
   : Calls Tryz.prog 8 #[.string s, .string t] w fun e W' => e = .returned (.bool true) ∧ Below w.heap.size w W' := by
 have O := Lib.hid (h1); clear h1
 go_enter Tryz.func8, Tryz.ntmps8
 have HB := Lib.hid (Below.refl w.heap.size w)
 go_wp2_with fail
 refine (O.out _ HB.out).mono ?_
 rintro e w1 ⟨rfl, b⟩
 have HN := Lib.hid (HB.out.trans (b.mono HB.out.size)); clear HB b; have HB := HN; clear HN
 go_wp2
 go_ret
 exact ⟨rfl, HB.out⟩
theorem MeasureNames_long2 (s t : ByteArray) (w : World) (s1 : ¬ (40 : Int) < s.size) (s2 : (40 : Int) < t.size)
   (h1 : ∀ W, Below w.heap.size w W → Calls Tryz.prog 11 #[] W fun e W' => e = .returned (.bool true) ∧ Below W.heap.size W W')
   : Calls Tryz.prog 8 #[.string s, .string t] w fun e W' => e = .returned (.bool true) ∧ Below w.heap.size w W' := by
 have O := Lib.hid (h1); clear h1
 go_enter Tryz.func8, Tryz.ntmps8
 have HB := Lib.hid (Below.refl w.heap.size w)
 go_wp2_with fail
 refine (O.out _ HB.out).mono ?_
 rintro e w1 ⟨rfl, b⟩
 have HN := Lib.hid (HB.out.trans (b.mono HB.out.size)); clear HB b; have HB := HN; clear HN
 go_wp2
 go_ret
 exact ⟨rfl, HB.out⟩
theorem MeasureNames_no (s t : ByteArray) (w : World) (s1 : ¬ (40 : Int) < s.size) (s2 : ¬ (40 : Int) < t.size)
   (h1 : ∀ W, Below w.heap.size w W → Calls Tryz.prog 33 #[.string s] W fun e W' => e = .returned (.bool false) ∧ Below W.heap.size W W')
   (h2 : ∀ W, Below w.heap.size w W → Calls Tryz.prog 11 #[] W fun e W' => e = .returned (.bool true) ∧ Below W.heap.size W W')
   : Calls Tryz.prog 8 #[.string s, .string t] w fun e W' => e = .returned (.bool true) ∧ Below w.heap.size w W' := by
 have O := Lib.hid (And.intro h1 (h2)); clear h1 h2
 go_enter Tryz.func8, Tryz.ntmps8
 have HB := Lib.hid (Below.refl w.heap.size w)
 go_wp2_with fail
 refine (O.out.1 _ HB.out).mono ?_
 rintro e w1 ⟨rfl, b⟩
 have HN := Lib.hid (HB.out.trans (b.mono HB.out.size)); clear HB b; have HB := HN; clear HN
 go_wp2_with fail
 refine (O.out.2 _ HB.out).mono ?_
 rintro e w2 ⟨rfl, b⟩
 have HN := Lib.hid (HB.out.trans (b.mono HB.out.size)); clear HB b; have HB := HN; clear HN
 go_wp2
 go_ret
 exact ⟨rfl, HB.out⟩
theorem MeasureNames_yn (s t lo : ByteArray) (w : World) (s1 : (s.size : Int) ≤ 16) (s2 : ¬ (40 : Int) < t.size)
   (h1 : ∀ W, Below w.heap.size w W → Calls Tryz.prog 33 #[.string s] W fun e W' => e = .returned (.bool true) ∧ Below W.heap.size W W')
   (h2 : ∀ W, Below w.heap.size w W → Calls Tryz.prog 25 #[.string s] W fun e W' => ∃ g cap, e = .returned (.tuple #[.slice (some ⟨g, 0, none⟩) 1 cap, .int .i64 0]) ∧ W'.cell? ⟨g, 0, none⟩ = some (.string s) ∧ Below W.heap.size W W')
   (h3 : ∀ W, Below w.heap.size w W → Calls Tryz.prog 35 #[.string s] W fun e W' => e = .returned (.string lo) ∧ Below W.heap.size W W')
   (h4 : ∀ W, Below w.heap.size w W → Calls Tryz.prog 34 #[.string lo, .string cset] W fun e W' => e = .returned (.string ⟨#[]⟩) ∧ Below W.heap.size W W')
   (h5 : ∀ W, Below w.heap.size w W → Calls Tryz.prog 33 #[.string t] W fun e W' => e = .returned (.bool false) ∧ Below W.heap.size W W')
   (h6 : ∀ W, Below w.heap.size w W → Calls Tryz.prog 11 #[] W fun e W' => e = .returned (.bool true) ∧ Below W.heap.size W W')
   : Calls Tryz.prog 8 #[.string s, .string t] w fun e W' => e = .returned (.bool true) ∧ Below w.heap.size w W' := by
 have O := Lib.hid (And.intro h1 (And.intro h2 (And.intro h3 (And.intro h4 (And.intro h5 (h6)))))); clear h1 h2 h3 h4 h5 h6
 have s3 : ¬ (40 : Int) < s.size := by omega
 have s4 : ¬ (16 : Int) < s.size := by omega
 go_enter Tryz.func8, Tryz.ntmps8
 have HB := Lib.hid (Below.refl w.heap.size w)
 go_wp2_with fail
 refine (O.out.1 _ HB.out).mono ?_
 rintro e w1 ⟨rfl, b⟩
 have HN := Lib.hid (HB.out.trans (b.mono HB.out.size)); clear HB b; have HB := HN; clear HN
 go_wp2_with fail
 refine (O.out.2.1 _ HB.out).mono ?_
 rintro e w2 ⟨g, cap, rfl, hc, b⟩
 have HN := Lib.hid (HB.out.trans (b.mono HB.out.size)); clear HB b; have HB := HN; clear HN
 go_wp2_with fail
 refine (O.out.2.2.1 _ HB.out).mono ?_
 rintro e w3 ⟨rfl, b⟩
 clear hc
 have HN := Lib.hid (HB.out.trans (b.mono HB.out.size)); clear HB b; have HB := HN; clear HN
 go_wp2_with fail
 refine (O.out.2.2.2.1 _ HB.out).mono ?_
 rintro e w4 ⟨rfl, b⟩
 have HN := Lib.hid (HB.out.trans (b.mono HB.out.size)); clear HB b; have HB := HN; clear HN
 go_wp2_with fail
 refine (O.out.2.2.2.2.1 _ HB.out).mono ?_
 rintro e w5 ⟨rfl, b⟩
 have HN := Lib.hid (HB.out.trans (b.mono HB.out.size)); clear HB b; have HB := HN; clear HN
 go_wp2_with fail
 refine (O.out.2.2.2.2.2 _ HB.out).mono ?_
 rintro e w6 ⟨rfl, b⟩
 have HN := Lib.hid (HB.out.trans (b.mono HB.out.size)); clear HB b; have HB := HN; clear HN
 go_wp2
 go_ret
 exact ⟨rfl, HB.out⟩
theorem MeasureNames_yy (s t lo : ByteArray) (w : World) (s1 : (s.size : Int) ≤ 16) (s2 : ¬ (40 : Int) < t.size) (s5 : ¬ (9223372036854775807 : Int) < (s.size : Int) + t.size) (q : Bool) (hq : decide ((s.size : Int) + t.size ≤ 16) = q)
   (h1 : ∀ W, Below w.heap.size w W → Calls Tryz.prog 33 #[.string s] W fun e W' => e = .returned (.bool true) ∧ Below W.heap.size W W')
   (h2 : ∀ W, Below w.heap.size w W → Calls Tryz.prog 25 #[.string s] W fun e W' => ∃ g cap, e = .returned (.tuple #[.slice (some ⟨g, 0, none⟩) 1 cap, .int .i64 0]) ∧ W'.cell? ⟨g, 0, none⟩ = some (.string s) ∧ Below W.heap.size W W')
   (h3 : ∀ W, Below w.heap.size w W → Calls Tryz.prog 35 #[.string s] W fun e W' => e = .returned (.string lo) ∧ Below W.heap.size W W')
   (h4 : ∀ W, Below w.heap.size w W → Calls Tryz.prog 34 #[.string lo, .string cset] W fun e W' => e = .returned (.string ⟨#[]⟩) ∧ Below W.heap.size W W')
   (h5 : ∀ W, Below w.heap.size w W → Calls Tryz.prog 33 #[.string t] W fun e W' => e = .returned (.bool true) ∧ Below W.heap.size W W')
   (h6 : ∀ W, Below w.heap.size w W → Calls Tryz.prog 33 #[.string (s ++ t)] W fun e W' => e = .returned (.bool q) ∧ Below W.heap.size W W')
   (h7 : ∀ W, Below w.heap.size w W → Calls Tryz.prog 11 #[] W fun e W' => e = .returned (.bool true) ∧ Below W.heap.size W W')
   : Calls Tryz.prog 8 #[.string s, .string t] w fun e W' => e = .returned (.bool true) ∧ Below w.heap.size w W' := by
 have O := Lib.hid (And.intro h1 (And.intro h2 (And.intro h3 (And.intro h4 (And.intro h5 (And.intro h6 (h7))))))); clear h1 h2 h3 h4 h5 h6 h7
 have s3 : ¬ (40 : Int) < s.size := by omega
 have s4 : ¬ (16 : Int) < s.size := by omega
 go_enter Tryz.func8, Tryz.ntmps8
 have HB := Lib.hid (Below.refl w.heap.size w)
 go_wp2_with fail
 refine (O.out.1 _ HB.out).mono ?_
 rintro e w1 ⟨rfl, b⟩
 have HN := Lib.hid (HB.out.trans (b.mono HB.out.size)); clear HB b; have HB := HN; clear HN
 go_wp2_with fail
 refine (O.out.2.1 _ HB.out).mono ?_
 rintro e w2 ⟨g, cap, rfl, hc, b⟩
 have HN := Lib.hid (HB.out.trans (b.mono HB.out.size)); clear HB b; have HB := HN; clear HN
 go_wp2_with fail
 refine (O.out.2.2.1 _ HB.out).mono ?_
 rintro e w3 ⟨rfl, b⟩
 clear hc
 have HN := Lib.hid (HB.out.trans (b.mono HB.out.size)); clear HB b; have HB := HN; clear HN
 go_wp2_with fail
 refine (O.out.2.2.2.1 _ HB.out).mono ?_
 rintro e w4 ⟨rfl, b⟩
 have HN := Lib.hid (HB.out.trans (b.mono HB.out.size)); clear HB b; have HB := HN; clear HN
 go_wp2_with fail
 refine (O.out.2.2.2.2.1 _ HB.out).mono ?_
 rintro e w5 ⟨rfl, b⟩
 have HN := Lib.hid (HB.out.trans (b.mono HB.out.size)); clear HB b; have HB := HN; clear HN
 go_wp2_with fail
 refine (O.out.2.2.2.2.2.1 _ HB.out).mono ?_
 rintro e w6 ⟨rfl, b⟩
 have HN := Lib.hid (HB.out.trans (b.mono HB.out.size)); clear HB b; have HB := HN; clear HN
 go_wp2_with fail
 refine (O.out.2.2.2.2.2.2 _ HB.out).mono ?_
 rintro e w7 ⟨rfl, b⟩
 have HN := Lib.hid (HB.out.trans (b.mono HB.out.size)); clear HB b; have HB := HN; clear HN
 go_wp2
 go_ret
 exact ⟨rfl, HB.out⟩
theorem MeasureNames_any (s t : ByteArray) (w : World) (_hs : s.size ≤ maxLen) (_ht : t.size ≤ maxLen) (T : TabM w) :
   Calls Tryz.prog 8 #[.string s, .string t] w fun e W' => e = .returned (.bool true) ∧ Below w.heap.size w W' := by
 have hA := fun W (hW : Below w.heap.size w W) => awake7_any W (T.next hW)
 by_cases a1 : 40 < s.size
 · exact MeasureNames_long1 s t w (by omega) hA
 by_cases a2 : 40 < t.size
 · exact MeasureNames_long2 s t w (by omega) (by omega) hA
 have hN := fun W (_ : Below w.heap.size w W) => mname s W
 have hT := fun W (_ : Below w.heap.size w W) => mname t W
 have hST := fun W (_ : Below w.heap.size w W) => mname (s ++ t) W
 cases hn : nm s
 · rw [hn] at hN
   exact MeasureNames_no s t w (by omega) (by omega) hN hA
 · rw [hn] at hN
   unfold nm at hn
   rw [Bool.and_eq_true, decide_eq_true_eq] at hn
   obtain ⟨lo, l1, l2⟩ := name_trim s w (by omega) hn.2
   have hW := fun W (_ : Below w.heap.size w W) => name_Words s W (by omega) hn.2
   cases hm : nm t
   · rw [hm] at hT
     exact MeasureNames_yn s t lo w (by omega) (by omega) hN hW l1 l2 hT hA
   · rw [hm] at hT
     unfold nm at hm
     rw [Bool.and_eq_true, decide_eq_true_eq] at hm
     obtain ⟨x1, x2⟩ := allB_all hn.2
     obtain ⟨_, y2⟩ := allB_all hm.2
     refine MeasureNames_yy s t lo w (by omega) (by omega) (by omega) (nm (s ++ t)) ?_ hN hW l1 l2 hT hST hA
     unfold nm
     rw [allB_of (l := (s ++ t).data.toList) (by
       rw [ByteArray.data_append, Array.toList_append]
       exact fun e => x1 (List.append_eq_nil_iff.1 e).1) (fun c hc => by
       rw [ByteArray.data_append, Array.toList_append] at hc
       rcases List.mem_append.1 hc with h | h
       · exact x2 c h
       · exact y2 c h), Bool.and_true, ByteArray.size_append]
     by_cases h : s.size + t.size ≤ 16
     · rw [decide_eq_true h, decide_eq_true (show (s.size : Int) + t.size ≤ 16 by omega)]
     · rw [decide_eq_false h, decide_eq_false (show ¬ (s.size : Int) + t.size ≤ 16 by omega)]
end Go.Proofs.YtkjhaengllpaoaaGreatDoor.T
namespace Go.Proofs.YtkjhaengllpaoaaGreatDoor.T
open Go.Proofs.YtkjhaengllpaoaaGreatDoor Go Go.Lib
theorem dec_lo (s : ByteArray) (i : Nat) (h : (s.get! i).toNat < 128) : Utf8.decode s i = ((s.get! i).toNat, 1) := by
 unfold Utf8.decode
 simp only [Nat.add_zero]
 rw [if_pos h]
theorem dec_hi (s : ByteArray) (i : Nat) (h : ¬ (s.get! i).toNat < 128) : 128 ≤ (Utf8.decode s i).1 := by
 have hr : 128 ≤ Utf8.runeError := by decide
 unfold Utf8.decode
 simp only [Nat.add_zero]
 rw [if_neg h]
 split
 · split
   · rename_i h1; exact h1
   · exact hr
 · split
   · split
     · rename_i h1
       simp only [ge_iff_le, Bool.and_eq_true, decide_eq_true_eq] at h1
       have := h1.1
       show 128 ≤ _
       omega
     · exact hr
   · split
     · split
       · rename_i h1
         simp only [ge_iff_le, Bool.and_eq_true, decide_eq_true_eq] at h1
         have := h1.1
         show 128 ≤ _
         omega
       · exact hr
     · exact hr
def bdR (r : Nat) : Bool := decide (r < 32) || decide (126 < r)
theorem idx_from (s : ByteArray) : ∀ (f pos k : Nat), s.size ≤ pos + f → pos ≤ k → k < s.size → bdR (s.get! k).toNat = true → 0 ≤ idxFuncFrom bdR true s f pos
 | 0, pos, k, h1, h2, h3, _ => by omega
 | f + 1, pos, k, h1, h2, h3, hb => by
   unfold idxFuncFrom
   rw [if_pos (by omega)]
   by_cases hp : bdR (Utf8.decode s pos).1 = true
   · rw [if_pos hp]; omega
   · rw [if_neg hp]
     have hlo : (s.get! pos).toNat < 128 := by
       rcases Nat.lt_or_ge (s.get! pos).toNat 128 with q | q
       · exact q
       · exfalso; apply hp
         have := dec_hi s pos (by omega)
         unfold bdR
         rw [decide_eq_true (show 126 < (Utf8.decode s pos).1 by omega), Bool.or_true]
     rw [dec_lo s pos hlo] at hp ⊢
     have hne : k ≠ pos := fun e => hp (by rw [← e]; exact hb)
     exact idx_from s f (pos + 1) k (by omega) (by omega) h3 hb
theorem get_at {s : ByteArray} {k : Nat} (h : k < s.size) : s.get! k = s.data.toList[k]'h := by
 cases s with
 | mk d => show d[k]! = _; rw [getElem!_pos d k h]; rfl
theorem idx_bad {s : ByteArray} {c : UInt8} (h : c ∈ s.data.toList) (hc : bdR c.toNat = true) : 0 ≤ idxFunc bdR true s := by
 obtain ⟨k, hk, e⟩ := List.getElem_of_mem h
 have hk' : k < s.size := hk
 exact idx_from s s.size 0 k (by omega) (Nat.zero_le _) hk' (by rw [get_at hk', e]; exact hc)
theorem word_mem {c : UInt8} : ∀ (n : Nat) (l : List UInt8) (x : ByteArray), x ∈ spB n l → c ∈ x.data.toList → c ∈ l ∧ c ≠ 32
 | 0, _, _, h, _ => by cases h
 | n + 1, l, x, h, hc => by
   unfold spB at h
   rcases List.mem_cons.1 h with rfl | h
   · rw [show (bO (kA 32 l)).data.toList = kA 32 l from bO_data _] at hc
     exact ⟨(List.takeWhile_prefix _).subset hc, fun e => kA_ns 32 l (e ▸ hc)⟩
   · cases hk : kH 32 l
     · rw [hk] at h; cases h
     · rw [hk, if_pos rfl] at h
       obtain ⟨m1, m2⟩ := word_mem n (kB 32 l) x h hc
       refine ⟨?_, m2⟩
       rw [k_split (kH_iff.1 hk)]
       exact List.mem_append_right _ (List.mem_cons_of_mem _ m1)
theorem gap_word : ∀ (n : Nat) (l : List UInt8), (∃ x ∈ spB n l, x.data.toList = []) → l.length < n → l = [] ∨ (∃ t, l = 32 :: t) ∨ (∃ t, l = t ++ [32]) ∨ ∃ a b, l = a ++ 32 :: 32 :: b
 | 0, _, ⟨_, h, _⟩, _ => by cases h
 | n + 1, l, ⟨x, h, hx⟩, hl => by
   unfold spB at h
   rcases List.mem_cons.1 h with rfl | h
   · rw [bO_data] at hx
     by_cases hm : (32 : UInt8) ∈ l
     · have := k_split hm
       rw [hx] at this
       exact .inr (.inl ⟨_, this⟩)
     · rw [(k_no hm).1] at hx; exact .inl hx
   · cases hk : kH 32 l
     · rw [hk] at h; cases h
     · rw [hk, if_pos rfl] at h
       have hs := k_split (kH_iff.1 hk)
       have hlt := kB_lt hk
       rcases gap_word n (kB 32 l) ⟨x, h, hx⟩ (by omega) with e | ⟨t, e⟩ | ⟨t, e⟩ | ⟨a, b, e⟩
       · rw [e] at hs; exact .inr (.inr (.inl ⟨_, hs⟩))
       · rw [e] at hs; exact .inr (.inr (.inr ⟨_, _, hs⟩))
       · rw [e] at hs; exact .inr (.inr (.inl ⟨kA 32 l ++ 32 :: t, hs.trans (by simp)⟩))
       · rw [e] at hs; exact .inr (.inr (.inr ⟨kA 32 l ++ 32 :: a, b, hs.trans (by simp)⟩))
theorem idx_sub (a b : List UInt8) : ∀ sub, sub = [32, 32] → 0 ≤ index (a ++ 32 :: 32 :: b) sub := by
 rintro sub rfl
 induction a with
 | nil => rw [List.nil_append, index, if_pos (by simp [List.isPrefixOf])]; exact Int.le_refl _
 | cons c a ih =>
   rw [List.cons_append, index]
   split
   · exact Int.le_refl _
   · split
     · rename_i h1; rw [beq_iff_eq] at h1; omega
     · omega
theorem why_none {s : ByteArray} {p : UInt8 → Bool} (hp : ∀ c : UInt8, p c = false → c ≠ 32 → bdR c.toNat = true) (h : ∃ x ∈ wl s.data.toList, (x.data.toList = [] ∨ ∃ c ∈ x.data.toList, p c = false)) :
   hasPrefix s.data.toList [32] = true ∨ hasSuffix s.data.toList [32] = true ∨ contains s.data.toList [32, 32] = true ∨ 0 ≤ idxFunc bdR true s := by
 obtain ⟨x, hx, hb⟩ := h
 have hne : s.data.toList ≠ [] := fun e => by rw [e] at hx; cases hx
 unfold wl at hx
 rw [if_neg hne] at hx
 rcases hb with he | ⟨c, hc, hpc⟩
 · rcases gap_word _ _ ⟨x, hx, he⟩ (Nat.lt_succ_self _) with e | ⟨t, e⟩ | ⟨t, e⟩ | ⟨a, b, e⟩
   · exact absurd e hne
   · left; rw [e]; unfold hasPrefix; simp [List.isPrefixOf]
   · right; left; rw [e]; unfold hasSuffix; rw [List.isSuffixOf_iff_suffix]; exact ⟨t, rfl⟩
   · right; right; left; rw [e]; exact decide_eq_true (idx_sub a b _ rfl)
 · obtain ⟨m1, m2⟩ := word_mem _ _ x hx hc
   exact .inr (.inr (.inr (idx_bad m1 (hp c hpc m2))))
theorem wsp_join : ∀ (n : Nat) (l : List UInt8), l.length < n → join ((spB n l).map (·.data.toList)) [32] = l
 | 0, _, h => by omega
 | n + 1, l, h => by
   unfold spB
   rw [List.map_cons, show (bO (kA 32 l)).data.toList = kA 32 l from bO_data _]
   cases hk : kH 32 l
   · rw [if_neg (by decide), List.map_nil, join_one]
     exact (k_no (fun hm => by rw [kH_iff.2 hm] at hk; cases hk)).1
   · rw [if_pos rfl]
     have hlt := kB_lt hk
     have ih := wsp_join n (kB 32 l) (by omega)
     rw [join_cons]
     have e : joinTail [32] ((spB n (kB 32 l)).map (·.data.toList)) = 32 :: join ((spB n (kB 32 l)).map (·.data.toList)) [32] := by
       cases hsp : spB n (kB 32 l) with
       | nil =>
         exfalso
         cases n with
         | zero => omega
         | succ m => unfold spB at hsp; cases hsp
       | cons y t => rw [List.map_cons, join_cons]; rfl
     rw [e, ih, ← k_split (kH_iff.1 hk)]
theorem wl_join {l : List UInt8} (h : l ≠ []) : join ((wl l).map (·.data.toList)) [32] = l := by
 unfold wl
 rw [if_neg h]
 exact wsp_join _ l (Nat.lt_succ_self _)
theorem wl_good {l : List UInt8} {x : ByteArray} (h : x ∈ wl l) : (32 : UInt8) ∉ x.data.toList := fun hm => by
 unfold wl at h
 split at h
 · cases h
 · exact (word_mem _ _ x h hm).2 rfl
end Go.Proofs.YtkjhaengllpaoaaGreatDoor.T
