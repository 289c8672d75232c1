/- Parts of the proofs of the texts YtkjhaengllpaoaaGreatDoorZN. -/
import Derived.Test.YtkjhaengllpaoaaGreatDoorRows
import Derived.Test.YtkjhaengllpaoaaGreatDoorCards
import Derived.Test.YtkjhaengllpaoaaGreatDoorTie
import Derived.ProofKit
import Derived.LaidMore
import Derived.OpenShut
import Derived.Stop.Joined
import Derived.Stop.LaidErr
import Derived.SevenTiedAt
import Derived.Below
import Derived.Lay
import Derived.Handed
import Derived.Shelf.Vars
import Derived.Test.YtkjhaengllpaoaaGreatDoorZB1
import Derived.Test.YtkjhaengllpaoaaGreatDoorZB10
import Derived.Test.YtkjhaengllpaoaaGreatDoorZB11
import Derived.Test.YtkjhaengllpaoaaGreatDoorZB12
import Derived.Test.YtkjhaengllpaoaaGreatDoorZB13
import Derived.Test.YtkjhaengllpaoaaGreatDoorZB14
import Derived.Test.YtkjhaengllpaoaaGreatDoorZB15
import Derived.Test.YtkjhaengllpaoaaGreatDoorZB16
import Derived.Test.YtkjhaengllpaoaaGreatDoorZB17
import Derived.Test.YtkjhaengllpaoaaGreatDoorZB18
import Derived.Test.YtkjhaengllpaoaaGreatDoorZB19
import Derived.Test.YtkjhaengllpaoaaGreatDoorZB2
import Derived.Test.YtkjhaengllpaoaaGreatDoorZB20
import Derived.Test.YtkjhaengllpaoaaGreatDoorZB21
import Derived.Test.YtkjhaengllpaoaaGreatDoorZB22
import Derived.Test.YtkjhaengllpaoaaGreatDoorZB23
import Derived.Test.YtkjhaengllpaoaaGreatDoorZB24
import Derived.Test.YtkjhaengllpaoaaGreatDoorZB25
import Derived.Test.YtkjhaengllpaoaaGreatDoorZB26
import Derived.Test.YtkjhaengllpaoaaGreatDoorZB3
import Derived.Test.YtkjhaengllpaoaaGreatDoorZB4
import Derived.Test.YtkjhaengllpaoaaGreatDoorZB5
import Derived.Test.YtkjhaengllpaoaaGreatDoorZB6
import Derived.Test.YtkjhaengllpaoaaGreatDoorZB7
import Derived.Test.YtkjhaengllpaoaaGreatDoorZB8
import Derived.Test.YtkjhaengllpaoaaGreatDoorZB9
import Derived.Test.YtkjhaengllpaoaaGreatDoorZN1
import Derived.Test.YtkjhaengllpaoaaGreatDoorZN2
set_option linter.all false
set_option maxRecDepth 100000
set_option maxHeartbeats 8000000
namespace Go.Proofs.YtkjhaengllpaoaaGreatDoor.T
open Go.Proofs.YtkjhaengllpaoaaGreatDoor Go Go.RowKit Go.Shelf
theorem idxF_at (g : FuncId) (en1 : ∀ args W, (callFunc g args).run Tryz.prog W = .ok (.enter g args) W) (b cap : Nat) (xs : List ByteArray) (w : World) (hl : xs.length ≤ 2000) (hb : b < w.heap.size) (hcl : xs.length ≤ cap)
   (hc : ∀ j x, xs[j]? = some x → w.cell? ⟨b, j, none⟩ = some (.string x))
   (hg : ∀ x ∈ xs, ∀ W, Below w.heap.size w W → Calls Tryz.prog g #[.string x] W fun e W' => e = .returned (.bool false) ∧ Below W.heap.size W W') :
   Calls Tryz.prog 69 #[.slice (some ⟨b, 0, none⟩) xs.length cap, .func (.func g) #[] #[]] w fun e w' => e = .returned (.int .i64 (-1)) ∧ Below w.heap.size w w' := by
 have HC := Lib.hid (And.intro hc hg); clear hc hg
 go_enter Tryz.func69, Tryz.ntmps69
 go_wp2
 go_loopw [8] (fun i wr => ∃ k : Nat, i = .int .i64 k ∧ k ≤ xs.length ∧ Hid (Below w.heap.size w wr)) (fun i _ => xs.length - (intOf i).toNat)
 case atStart => exact ⟨0, rfl, by omega, Below.refl _ _⟩
 case round =>
   obtain ⟨k, rfl, hk, HBw⟩ := hrel
   by_cases hlt : k < xs.length
   · have hck := (HBw.out.cell (p := ⟨b, k, none⟩) hb).trans (HC.out.1 k xs[k] (List.getElem?_eq_getElem hlt))
     have hr := Lib.hid (HC.out.2 xs[k] (List.getElem_mem hlt) wr HBw.out)
     generalize xs[k] = s at *
     go_wp2_with fail
     refine hr.out.mono ?_
     rintro e w' ⟨rfl, b⟩
     have HB2 := Lib.hid (HBw.out.trans (b.mono HBw.out.size)); clear b HBw
     go_wp2
     go_roundw
     case rel => exact ⟨k + 1, by go_num, by omega, HB2.out⟩
     case measure => simp [intOf]; omega
   · go_wp2
     go_ret
     exact ⟨rfl, HBw.out⟩
theorem idxF_nil (g : FuncId) (p : Option Addr) (cap : Nat) (w : World) :
   Calls Tryz.prog 69 #[.slice p 0 cap, .func (.func g) #[] #[]] w fun e w' => e = .returned (.int .i64 (-1)) ∧ Below w.heap.size w w' := by
 go_enter Tryz.func69, Tryz.ntmps69
 go_wp2
 go_loopw [8] (fun i wr => i = .int .i64 0 ∧ Hid (Below w.heap.size w wr)) (fun _ _ => 0)
 case atStart => exact ⟨rfl, Below.refl _ _⟩
 case round =>
   obtain ⟨rfl, hB⟩ := hrel
   go_wp2
   go_ret
   exact ⟨rfl, hB.out⟩
def QW (s : ByteArray) (v : Value) (W : World) : Prop := (∃ a c, v = .slice a 0 c ∧ wl s.data.toList = []) ∨
 ∃ g cap, v = .slice (some ⟨g, 0, none⟩) (wl s.data.toList).length cap ∧ g < W.heap.size ∧ (wl s.data.toList).length ≤ cap ∧ ∀ j x, (wl s.data.toList)[j]? = some x → W.cell? ⟨g, j, none⟩ = some (.string x)
theorem QW.next {s : ByteArray} {v : Value} {W W' : World} (h : QW s v W) (b : Below W.heap.size W W') : QW s v W' := by
 rcases h with h | ⟨g, cap, e, h1, h2, h3⟩
 · exact .inl h
 · exact .inr ⟨g, cap, e, Nat.lt_of_lt_of_le h1 b.size, h2, fun j x hj => (b.cell (p := ⟨g, j, none⟩) h1).trans (h3 j x hj)⟩
theorem QW_of {s : ByteArray} {v : Value} {W : World} {base : Nat} (h : W.ownsRow base 9 1 v (wl s.data.toList).length ((wl s.data.toList).map Value.string)) : QW s v W := by
 by_cases hn : wl s.data.toList = []
 · left
   rcases h.2 with ⟨rfl, _⟩ | ⟨g, cap, cur, rfl, _⟩
   · exact ⟨_, _, rfl, hn⟩
   · rw [hn]; exact ⟨_, _, rfl, rfl⟩
 · obtain ⟨g, cap, e, h1, h2, h3⟩ := row_cells h hn
   exact .inr ⟨g, cap, e, h1, h2, h3⟩
theorem slices_shape {s : ByteArray} {v : Value} {W : World} (h : QW s v W) : ∃ a n c, v = .slice a n c := by
 rcases h with ⟨a, c, e, _⟩ | ⟨g, cap, e, _⟩
 · exact ⟨_, _, _, e⟩
 · exact ⟨_, _, _, e⟩
def bd2 (x : ByteArray) : Prop := x.data.toList ≠ [] ∧ (32 : UInt8) ∉ x.data.toList
theorem cbad (x : ByteArray) (w : World) (h : bd2 x) :
   Calls Tryz.prog 30 #[.string x] w fun e W' => e = .returned (.bool false) ∧ Below w.heap.size w W' := by
 have c := fun W => Tryz.strings_Contains_one x 32 W
 rw [indexByte_no h.2] at c
 have C := Lib.hid c; clear c
 have hE' : (x.toList == []) = false := by
   rw [ByteArray.toList_eq, beq_eq_false_iff_ne]; exact h.1
 have hE : x.toList.isEmpty = false := by
   rw [ByteArray.toList_eq]
   cases hx : x.data.toList with
   | nil => exact absurd hx h.1
   | cons a t => rfl
 clear h
 go_enter Tryz.func30, Tryz.ntmps30
 go_wp2_with fail
 refine (C.out _).mono ?_
 rintro e w1 ⟨rfl, rfl⟩
 go_wp2
 go_ret
 exact ⟨rfl, Below.refl _ _⟩
theorem crune (r : Nat) (w : World) :
   Calls Tryz.prog 29 #[.int .i32 (r : Int)] w fun e W' => e = .returned (.bool (bdR r)) ∧ Below w.heap.size w W' := by
 unfold bdR
 by_cases h1 : (r : Int) < 32
 · rw [decide_eq_true (show r < 32 by omega), Bool.true_or]
   go_enter Tryz.func29, Tryz.ntmps29
   go_wp2
   go_ret
   exact ⟨rfl, Below.refl _ _⟩
 · rw [decide_eq_false (show ¬ r < 32 by omega), Bool.false_or]
   by_cases h2 : (126 : Int) < r
   · rw [decide_eq_true (show 126 < r by omega)]
     go_enter Tryz.func29, Tryz.ntmps29
     go_wp2
     go_ret
     exact ⟨rfl, Below.refl _ _⟩
   · rw [decide_eq_false (show ¬ 126 < r by omega)]
     go_enter Tryz.func29, Tryz.ntmps29
     go_wp2
     go_ret
     exact ⟨rfl, Below.refl _ _⟩
theorem crunes (s : ByteArray) (w : World) :
   Calls Tryz.prog 28 #[.string s, .func (.func 29) #[] #[]] w fun e W' => e = .returned (.bool (decide (0 ≤ Lib.idxFunc bdR true s))) ∧ Below w.heap.size w W' :=
 Tryz.strings_ContainsFunc_grows 29 #[] (enters_of Tryz.func29 (by kernel_rfl) rfl) bdR s w (fun W x _ _ => crune x W)
theorem cF_core (v : Value) (g : FuncId) (w : World)
   (h1 : ∀ W, Below w.heap.size w W → Calls Tryz.prog 69 #[v, .func (.func g) #[] #[]] W fun e W' => e = .returned (.int .i64 (-1)) ∧ Below W.heap.size W W')
   : Calls Tryz.prog 32 #[v, .func (.func g) #[] #[]] w fun e W' => e = .returned (.bool false) ∧ Below w.heap.size w W' := by
 have O := Lib.hid (h1); clear h1
 go_enter Tryz.func32, Tryz.ntmps32
 have HB := Lib.hid (Below.refl w.heap.size w)
 go_wp2_with fail
 refine (O.out _ HB.out).mono ?_
 rintro e w1 ⟨rfl, b⟩
 have HN := Lib.hid (HB.out.trans (b.mono HB.out.size)); clear HB b; have HB := HN; clear HN
 go_wp2
 go_ret
 exact ⟨rfl, HB.out⟩
theorem cF_any (s : ByteArray) (v : Value) (w : World) (hs : s.size ≤ 1000) (h : QW s v w) (hg : ∀ x ∈ wl s.data.toList, bd2 x) :
   Calls Tryz.prog 32 #[v, .func (.func 30) #[] #[]] w fun e W' => e = .returned (.bool false) ∧ Below w.heap.size w W' := by
 refine cF_core v _ w (fun W hW => ?_)
 have hl : (wl s.data.toList).length ≤ 2000 := by have := wl_len s.data.toList; have : s.data.toList.length = s.size := rfl; omega
 rcases h.next hW with ⟨a, c, rfl, _⟩ | ⟨g, cap, rfl, h1, h2, h3⟩
 · exact idxF_nil _ a c W
 · exact idxF_at _ (enters_of Tryz.func30 (by kernel_rfl) rfl) g cap _ W hl h1 h2 h3 (fun x hx W' _ => cbad x W' (hg x hx))
theorem join_any (s : ByteArray) (v : Value) (w : World) (hs : s.size ≤ 1000) (h : QW s v w) :
   Calls Tryz.prog 31 #[v, .string ⟨#[32]⟩] w fun e W' => e = .returned (.string s) ∧ QW s v W' ∧ Below w.heap.size w W' := by
 have hl : (wl s.data.toList).length ≤ 2000 := by have := wl_len s.data.toList; have : s.data.toList.length = s.size := rfl; omega
 have hq := h
 rcases h with ⟨a, c, rfl, hn⟩ | ⟨g, cap, rfl, h1, h2, h3⟩
 · have he : s.data.toList = [] := by
     cases hd : s.data.toList with
     | nil => rfl
     | cons y t => rw [hd] at hn; unfold wl at hn; rw [if_neg (by simp), wsp_eq] at hn; cases hn
   refine (Tryz.strings_Join_none a c ⟨#[32]⟩ w).mono ?_
   rintro e W' ⟨rfl, rfl⟩
   exact ⟨by rw [← bO_of s, he]; rfl, hq, Below.refl _ _⟩
 · by_cases hn : s.data.toList = []
   · have e0 : wl s.data.toList = [] := by rw [hn]; rfl
     rw [e0] at hq ⊢
     refine (Tryz.strings_Join_none (some ⟨g, 0, none⟩) cap ⟨#[32]⟩ w).mono ?_
     rintro e W' ⟨rfl, rfl⟩
     exact ⟨by rw [← bO_of s, hn]; rfl, .inl ⟨_, _, rfl, e0⟩, Below.refl _ _⟩
   · have hj := wl_join hn
     have c := Tryz.strings_Join g 0 cap (wl s.data.toList) ⟨#[32]⟩ w (fun j x hjx => by rw [Nat.zero_add]; exact h3 j x hjx) h1 (by omega) h2 (by
       show (Lib.join _ [32]).length ≤ _
       rw [hj]; have : s.data.toList.length = s.size := rfl; omega)
     have e2 : (⟨(Lib.join ((wl s.data.toList).map (·.data.toList)) (⟨#[32]⟩ : ByteArray).data.toList).toArray⟩ : ByteArray) = s := by
       show bO (Lib.join _ [32]) = s
       rw [hj]; exact bO_of s
     rw [e2] at c
     exact c.mono fun e W' ⟨he, hb⟩ => ⟨he, hq.next hb, hb⟩
theorem Words_bad (s : ByteArray) (w : World) (hs : s.size ≤ 1000) (h : ∃ x ∈ wl s.data.toList, allB isPr x.data.toList = false) :
   Calls Tryz.prog 25 #[.string s] w fun e W' => e = .returned (.tuple #[.slice none 0 0, .int .i64 3]) ∧ Below w.heap.size w W' := by
 refine (Words_in s w hs).mono ?_
 rintro e W' ⟨hB, (⟨rfl, _⟩ | ⟨v, _, hg, _⟩)⟩
 · exact ⟨rfl, hB⟩
 · obtain ⟨x, hx, hb⟩ := h
   rw [hg x hx] at hb; cases hb
theorem Words_good (s : ByteArray) (w : World) (hs : s.size ≤ 1000) (h : ∀ x ∈ wl s.data.toList, allB isPr x.data.toList = true) :
   Calls Tryz.prog 25 #[.string s] w fun e W' => ∃ v, e = .returned (.tuple #[v, .int .i64 0]) ∧ QW s v W' ∧ Below w.heap.size w W' := by
 refine (Words_in s w hs).mono ?_
 rintro e W' ⟨hB, (⟨_, x, hx, hb⟩ | ⟨v, rfl, _, hr⟩)⟩
 · rw [h x hx] at hb; cases hb
 · exact ⟨v, rfl, QW_of hr, hB⟩
def ML (w : World) : Prop := ∃ m, w.cell? ⟨0, 0, none⟩ = some (.int .i64 m)
theorem ML.next {w W : World} (h : ML w) (b : Below w.heap.size w W) : ML W := by
 obtain ⟨m, hm⟩ := h
 refine ⟨m, (b.cell (p := ⟨0, 0, none⟩) ?_).trans hm⟩
 unfold World.cell? at hm
 show 0 < w.heap.size
 rcases Nat.lt_or_ge 0 w.heap.size with q | q
 · exact q
 · exfalso
   rw [Array.getElem?_eq_none q] at hm
   cases hm
theorem MeasureWords_long (s : ByteArray) (w : World) (s1 : (120 : Int) < s.size)
   (h1 : ∀ W, Below w.heap.size w W → Calls Tryz.prog 11 #[] W fun e W' => e = .returned (.bool true) ∧ Below W.heap.size W W')
   : Calls Tryz.prog 7 #[.string s] w fun e W' => e = .returned (.bool true) ∧ Below w.heap.size w W' := by
 have O := Lib.hid (h1); clear h1
 go_enter Tryz.func7, Tryz.ntmps7
 have HB := Lib.hid (Below.refl w.heap.size w)
 go_wp2_with fail
 refine (O.out _ HB.out).mono ?_
 rintro e w1 ⟨rfl, b⟩
 have HN := Lib.hid (HB.out.trans (b.mono HB.out.size)); clear HB b; have HB := HN; clear HN
 go_wp2
 go_ret
 exact ⟨rfl, HB.out⟩
theorem MeasureWords_p (s : ByteArray) (w : World) (s1 : ¬ (120 : Int) < s.size)
   (h1 : ∀ W, Below w.heap.size w W → Calls Tryz.prog 25 #[.string s] W fun e W' => e = .returned (.tuple #[.slice none 0 0, .int .i64 3]) ∧ Below W.heap.size W W')
   (h2 : ∀ W, Below w.heap.size w W → Calls Tryz.prog 26 #[.string s, .string ⟨#[32]⟩] W fun e W' => e = .returned (.bool true) ∧ Below W.heap.size W W')
   (h3 : ∀ W, Below w.heap.size w W → Calls Tryz.prog 11 #[] W fun e W' => e = .returned (.bool true) ∧ Below W.heap.size W W')
   : Calls Tryz.prog 7 #[.string s] w fun e W' => e = .returned (.bool true) ∧ Below w.heap.size w W' := by
 have O := Lib.hid (And.intro h1 (And.intro h2 (h3))); clear h1 h2 h3
 go_enter Tryz.func7, Tryz.ntmps7
 have HB := Lib.hid (Below.refl w.heap.size w)
 go_wp2_with fail
 refine (O.out.1 _ HB.out).mono ?_
 rintro e w1 ⟨rfl, b⟩
 have HN := Lib.hid (HB.out.trans (b.mono HB.out.size)); clear HB b; have HB := HN; clear HN
 go_wp2_with fail
 refine (O.out.2.1 _ HB.out).mono ?_
 rintro e w2 ⟨rfl, b⟩
 have HN := Lib.hid (HB.out.trans (b.mono HB.out.size)); clear HB b; have HB := HN; clear HN
 go_wp2_with fail
 refine (O.out.2.2 _ HB.out).mono ?_
 rintro e w3 ⟨rfl, b⟩
 have HN := Lib.hid (HB.out.trans (b.mono HB.out.size)); clear HB b; have HB := HN; clear HN
 go_wp2
 go_ret
 exact ⟨rfl, HB.out⟩
theorem MeasureWords_s (s : ByteArray) (w : World) (s1 : ¬ (120 : Int) < s.size)
   (h1 : ∀ W, Below w.heap.size w W → Calls Tryz.prog 25 #[.string s] W fun e W' => e = .returned (.tuple #[.slice none 0 0, .int .i64 3]) ∧ Below W.heap.size W W')
   (h2 : ∀ W, Below w.heap.size w W → Calls Tryz.prog 26 #[.string s, .string ⟨#[32]⟩] W fun e W' => e = .returned (.bool false) ∧ Below W.heap.size W W')
   (h3 : ∀ W, Below w.heap.size w W → Calls Tryz.prog 27 #[.string s, .string ⟨#[32]⟩] W fun e W' => e = .returned (.bool true) ∧ Below W.heap.size W W')
   (h4 : ∀ W, Below w.heap.size w W → Calls Tryz.prog 11 #[] W fun e W' => e = .returned (.bool true) ∧ Below W.heap.size W W')
   : Calls Tryz.prog 7 #[.string s] w fun e W' => e = .returned (.bool true) ∧ Below w.heap.size w W' := by
 have O := Lib.hid (And.intro h1 (And.intro h2 (And.intro h3 (h4)))); clear h1 h2 h3 h4
 go_enter Tryz.func7, Tryz.ntmps7
 have HB := Lib.hid (Below.refl w.heap.size w)
 go_wp2_with fail
 refine (O.out.1 _ HB.out).mono ?_
 rintro e w1 ⟨rfl, b⟩
 have HN := Lib.hid (HB.out.trans (b.mono HB.out.size)); clear HB b; have HB := HN; clear HN
 go_wp2_with fail
 refine (O.out.2.1 _ HB.out).mono ?_
 rintro e w2 ⟨rfl, b⟩
 have HN := Lib.hid (HB.out.trans (b.mono HB.out.size)); clear HB b; have HB := HN; clear HN
 go_wp2_with fail
 refine (O.out.2.2.1 _ HB.out).mono ?_
 rintro e w3 ⟨rfl, b⟩
 have HN := Lib.hid (HB.out.trans (b.mono HB.out.size)); clear HB b; have HB := HN; clear HN
 go_wp2_with fail
 refine (O.out.2.2.2 _ HB.out).mono ?_
 rintro e w4 ⟨rfl, b⟩
 have HN := Lib.hid (HB.out.trans (b.mono HB.out.size)); clear HB b; have HB := HN; clear HN
 go_wp2
 go_ret
 exact ⟨rfl, HB.out⟩
theorem MeasureWords_c (s : ByteArray) (w : World) (s1 : ¬ (120 : Int) < s.size)
   (h1 : ∀ W, Below w.heap.size w W → Calls Tryz.prog 25 #[.string s] W fun e W' => e = .returned (.tuple #[.slice none 0 0, .int .i64 3]) ∧ Below W.heap.size W W')
   (h2 : ∀ W, Below w.heap.size w W → Calls Tryz.prog 26 #[.string s, .string ⟨#[32]⟩] W fun e W' => e = .returned (.bool false) ∧ Below W.heap.size W W')
   (h3 : ∀ W, Below w.heap.size w W → Calls Tryz.prog 27 #[.string s, .string ⟨#[32]⟩] W fun e W' => e = .returned (.bool false) ∧ Below W.heap.size W W')
   (h4 : ∀ W, Below w.heap.size w W → Calls Tryz.prog 20 #[.string s, .string ⟨#[32, 32]⟩] W fun e W' => e = .returned (.bool true) ∧ Below W.heap.size W W')
   (h5 : ∀ W, Below w.heap.size w W → Calls Tryz.prog 11 #[] W fun e W' => e = .returned (.bool true) ∧ Below W.heap.size W W')
   : Calls Tryz.prog 7 #[.string s] w fun e W' => e = .returned (.bool true) ∧ Below w.heap.size w W' := by
 have O := Lib.hid (And.intro h1 (And.intro h2 (And.intro h3 (And.intro h4 (h5))))); clear h1 h2 h3 h4 h5
 go_enter Tryz.func7, Tryz.ntmps7
 have HB := Lib.hid (Below.refl w.heap.size w)
 go_wp2_with fail
 refine (O.out.1 _ HB.out).mono ?_
 rintro e w1 ⟨rfl, b⟩
 have HN := Lib.hid (HB.out.trans (b.mono HB.out.size)); clear HB b; have HB := HN; clear HN
 go_wp2_with fail
 refine (O.out.2.1 _ HB.out).mono ?_
 rintro e w2 ⟨rfl, b⟩
 have HN := Lib.hid (HB.out.trans (b.mono HB.out.size)); clear HB b; have HB := HN; clear HN
 go_wp2_with fail
 refine (O.out.2.2.1 _ HB.out).mono ?_
 rintro e w3 ⟨rfl, b⟩
 have HN := Lib.hid (HB.out.trans (b.mono HB.out.size)); clear HB b; have HB := HN; clear HN
 go_wp2_with fail
 refine (O.out.2.2.2.1 _ HB.out).mono ?_
 rintro e w4 ⟨rfl, b⟩
 have HN := Lib.hid (HB.out.trans (b.mono HB.out.size)); clear HB b; have HB := HN; clear HN
 go_wp2_with fail
 refine (O.out.2.2.2.2 _ HB.out).mono ?_
 rintro e w5 ⟨rfl, b⟩
 have HN := Lib.hid (HB.out.trans (b.mono HB.out.size)); clear HB b; have HB := HN; clear HN
 go_wp2
 go_ret
 exact ⟨rfl, HB.out⟩
theorem MeasureWords_f (s : ByteArray) (w : World) (s1 : ¬ (120 : Int) < s.size)
   (h1 : ∀ W, Below w.heap.size w W → Calls Tryz.prog 25 #[.string s] W fun e W' => e = .returned (.tuple #[.slice none 0 0, .int .i64 3]) ∧ Below W.heap.size W W')
   (h2 : ∀ W, Below w.heap.size w W → Calls Tryz.prog 26 #[.string s, .string ⟨#[32]⟩] W fun e W' => e = .returned (.bool false) ∧ Below W.heap.size W W')
   (h3 : ∀ W, Below w.heap.size w W → Calls Tryz.prog 27 #[.string s, .string ⟨#[32]⟩] W fun e W' => e = .returned (.bool false) ∧ Below W.heap.size W W')
   (h4 : ∀ W, Below w.heap.size w W → Calls Tryz.prog 20 #[.string s, .string ⟨#[32, 32]⟩] W fun e W' => e = .returned (.bool false) ∧ Below W.heap.size W W')
   (h5 : ∀ W, Below w.heap.size w W → Calls Tryz.prog 28 #[.string s, .func (.func 29) #[] #[]] W fun e W' => e = .returned (.bool true) ∧ Below W.heap.size W W')
   (h6 : ∀ W, Below w.heap.size w W → Calls Tryz.prog 11 #[] W fun e W' => e = .returned (.bool true) ∧ Below W.heap.size W W')
   : Calls Tryz.prog 7 #[.string s] w fun e W' => e = .returned (.bool true) ∧ Below w.heap.size w W' := by
 have O := Lib.hid (And.intro h1 (And.intro h2 (And.intro h3 (And.intro h4 (And.intro h5 (h6)))))); clear h1 h2 h3 h4 h5 h6
 go_enter Tryz.func7, Tryz.ntmps7
 have HB := Lib.hid (Below.refl w.heap.size w)
 go_wp2_with fail
 refine (O.out.1 _ HB.out).mono ?_
 rintro e w1 ⟨rfl, b⟩
 have HN := Lib.hid (HB.out.trans (b.mono HB.out.size)); clear HB b; have HB := HN; clear HN
 go_wp2_with fail
 refine (O.out.2.1 _ HB.out).mono ?_
 rintro e w2 ⟨rfl, b⟩
 have HN := Lib.hid (HB.out.trans (b.mono HB.out.size)); clear HB b; have HB := HN; clear HN
 go_wp2_with fail
 refine (O.out.2.2.1 _ HB.out).mono ?_
 rintro e w3 ⟨rfl, b⟩
 have HN := Lib.hid (HB.out.trans (b.mono HB.out.size)); clear HB b; have HB := HN; clear HN
 go_wp2_with fail
 refine (O.out.2.2.2.1 _ HB.out).mono ?_
 rintro e w4 ⟨rfl, b⟩
 have HN := Lib.hid (HB.out.trans (b.mono HB.out.size)); clear HB b; have HB := HN; clear HN
 go_wp2_with fail
 refine (O.out.2.2.2.2.1 _ HB.out).mono ?_
 rintro e w5 ⟨rfl, b⟩
 have HN := Lib.hid (HB.out.trans (b.mono HB.out.size)); clear HB b; have HB := HN; clear HN
 go_wp2_with fail
 refine (O.out.2.2.2.2.2 _ HB.out).mono ?_
 rintro e w6 ⟨rfl, b⟩
 have HN := Lib.hid (HB.out.trans (b.mono HB.out.size)); clear HB b; have HB := HN; clear HN
 go_wp2
 go_ret
 exact ⟨rfl, HB.out⟩
theorem MeasureWords_ok (s : ByteArray) (w : World) (s1 : ¬ (120 : Int) < s.size)
   (h1 : ∀ W, Below w.heap.size w W → Calls Tryz.prog 25 #[.string s] W fun e W' => ∃ v, e = .returned (.tuple #[v, .int .i64 0]) ∧ QW s v W' ∧ Below W.heap.size W W')
   (h2 : ∀ v W, QW s v W → Calls Tryz.prog 31 #[v, .string ⟨#[32]⟩] W fun e W' => e = .returned (.string s) ∧ QW s v W' ∧ Below W.heap.size W W')
   (h3 : ∀ v W, QW s v W → Calls Tryz.prog 32 #[v, .func (.func 30) #[] #[]] W fun e W' => e = .returned (.bool false) ∧ Below W.heap.size W W')
   (h4 : ∀ W, Below w.heap.size w W → Calls Tryz.prog 11 #[] W fun e W' => e = .returned (.bool true) ∧ Below W.heap.size W W')
   : Calls Tryz.prog 7 #[.string s] w fun e W' => e = .returned (.bool true) ∧ Below w.heap.size w W' := by
 have O := Lib.hid (And.intro h1 (And.intro h2 (And.intro h3 h4))); clear h1 h2 h3 h4
 go_enter Tryz.func7, Tryz.ntmps7
 have HB := Lib.hid (Below.refl w.heap.size w)
 go_wp2_with fail
 refine (O.out.1 _ HB.out).mono ?_
 rintro e w1 ⟨v, rfl, hq, b⟩
 obtain ⟨va, vn, vc, rfl⟩ := slices_shape hq
 have HQ := Lib.hid hq; clear hq
 have HN := Lib.hid (HB.out.trans (b.mono HB.out.size)); clear HB b; have HB := HN; clear HN
 go_wp2_with fail
 refine (O.out.2.1 _ _ HQ.out).mono ?_
 rintro e w2 ⟨rfl, hq, b⟩
 clear HQ
 have HQ := Lib.hid hq; clear hq
 have HN := Lib.hid (HB.out.trans (b.mono HB.out.size)); clear HB b; have HB := HN; clear HN
 go_wp2_with fail
 refine (O.out.2.2.1 _ _ HQ.out).mono ?_
 rintro e w3 ⟨rfl, b⟩
 have HN := Lib.hid (HB.out.trans (b.mono HB.out.size)); clear HB b; have HB := HN; clear HN
 go_wp2_with fail
 refine (O.out.2.2.2 _ HB.out).mono ?_
 rintro e w4 ⟨rfl, b⟩
 have HN := Lib.hid (HB.out.trans (b.mono HB.out.size)); clear HB b; have HB := HN; clear HN
 go_wp2
 go_ret
 exact ⟨rfl, HB.out⟩
theorem pr_bad (c : UInt8) (h : isPr c = false) (h2 : c ≠ 32) : bdR c.toNat = true := by
 have h3 : ¬ (33 ≤ c.toNat ∧ c.toNat ≤ 126) := fun q => by rw [(isPr_iff c).2 q] at h; cases h
 have h4 : c.toNat ≠ 32 := fun e => h2 (UInt8.toNat_inj.1 (by rw [e]; rfl))
 unfold bdR
 rw [Bool.or_eq_true, decide_eq_true_eq, decide_eq_true_eq]
 omega
theorem MeasureWords_any (s : ByteArray) (w : World) (_hs : s.size ≤ maxLen) (T : TabM w) (M : ML w) :
   Calls Tryz.prog 7 #[.string s] w fun e W' => e = .returned (.bool true) ∧ Below w.heap.size w W' := by
 have hA := fun W (hW : Below w.heap.size w W) => awake7_any W (T.next hW)
 by_cases h : 120 < s.size
 · exact MeasureWords_long s w (by omega) hA
 have s1 : ¬ (120 : Int) < s.size := by omega
 have s2 : s.size ≤ 1000 := by omega
 by_cases hg : ∀ x ∈ wl s.data.toList, allB isPr x.data.toList = true
 · exact MeasureWords_ok s w s1 (fun W _ => Words_good s W s2 hg) (fun v W hq => join_any s v W s2 hq) (fun v W hq => cF_any s v W s2 hq (fun x hx => ⟨(allB_all (hg x hx)).1, wl_good hx⟩)) hA
 · have hb : ∃ x ∈ wl s.data.toList, allB isPr x.data.toList = false := by
     obtain ⟨x, hx⟩ := Classical.not_forall.1 hg
     obtain ⟨hx1, hx2⟩ := Classical.not_imp.1 hx
     exact ⟨x, hx1, by simpa using hx2⟩
   have hw := fun W (_ : Below w.heap.size w W) => Words_bad s W s2 hb
   have hy := why_none (s := s) (p := isPr) pr_bad (by
     obtain ⟨x, hx, hb⟩ := hb
     refine ⟨x, hx, ?_⟩
     by_cases he : x.data.toList = []
     · exact .inl he
     · right
       apply Classical.byContradiction
       intro hn
       rw [allB_of he (fun c hc => by
         cases hp : isPr c
         · exact absurd ⟨c, hc, hp⟩ hn
         · rfl)] at hb
       cases hb)
   have k1 : ∀ W, Below w.heap.size w W → Calls Tryz.prog 26 #[.string s, .string ⟨#[32]⟩] W fun e W' => e = .returned (.bool (Lib.hasPrefix s.data.toList [32])) ∧ Below W.heap.size W W' := fun W _ => (Tryz.strings_HasPrefix s ⟨#[32]⟩ W).mono fun e W' ⟨a, c⟩ => ⟨a, by rw [c]; exact Below.refl _ _⟩
   have k2 : ∀ W, Below w.heap.size w W → Calls Tryz.prog 27 #[.string s, .string ⟨#[32]⟩] W fun e W' => e = .returned (.bool (Lib.hasSuffix s.data.toList [32])) ∧ Below W.heap.size W W' := fun W _ => (Tryz.strings_HasSuffix s ⟨#[32]⟩ W (by omega)).mono fun e W' ⟨a, c⟩ => ⟨a, by rw [c]; exact Below.refl _ _⟩
   have k3 : ∀ W, Below w.heap.size w W → Calls Tryz.prog 20 #[.string s, .string ⟨#[32, 32]⟩] W fun e W' => e = .returned (.bool (Lib.contains s.data.toList [32, 32])) ∧ Below W.heap.size W W' := fun W hW => by
     obtain ⟨m, hm⟩ := M.next hW
     exact (Tryz.strings_Contains s ⟨#[32, 32]⟩ m W (by omega) hm).mono fun e W' ⟨a, c⟩ => ⟨a, by rw [c]; exact Below.refl _ _⟩
   have k4 := fun W (_ : Below w.heap.size w W) => crunes s W
   cases e1 : Lib.hasPrefix s.data.toList [32]
   · rw [e1] at k1
     cases e2 : Lib.hasSuffix s.data.toList [32]
     · rw [e2] at k2
       cases e3 : Lib.contains s.data.toList [32, 32]
       · rw [e3] at k3
         have e4 : 0 ≤ Lib.idxFunc bdR true s := by
           rcases hy with q | q | q | q
           · rw [e1] at q; cases q
           · rw [e2] at q; cases q
           · rw [e3] at q; cases q
           · exact q
         rw [decide_eq_true e4] at k4
         exact MeasureWords_f s w s1 hw k1 k2 k3 k4 hA
       · rw [e3] at k3
         exact MeasureWords_c s w s1 hw k1 k2 k3 hA
     · rw [e2] at k2
       exact MeasureWords_s s w s1 hw k1 k2 hA
   · rw [e1] at k1
     exact MeasureWords_p s w s1 hw k1 hA
end Go.Proofs.YtkjhaengllpaoaaGreatDoor.T
namespace Go.Proofs.YtkjhaengllpaoaaGreatDoor
open Go.ChangeShapes Go.WideShapes Go.ChangeAt Go.RowKit
def laid3 : List (String × DataW Unit) := [("math/bits.deBruijn32tab", Rows.laid_math_bits_deBruijn32tab), ("math/bits.deBruijn64tab", Rows.laid_math_bits_deBruijn64tab), ("internal/strconv.uint64pow10", Rows.laid_internal_strconv_uint64pow10)]
theorem door_met (os : Os) (args : Array Value) : laidMetH Tryz.prog laid3 ((World.doorLaid Tryz.prog 400 os).forCall (fun _ _ => 0) ⟨#[], args, []⟩).memory :=
 laidMetH_of_parts3 (fuel := 8) (laidMet_of_run' 8 (by kernel_rfl) (by kernel_rfl)) (by kernel_rfl) (by kernel_rfl)
theorem tab_of_laid {W : World} (h : laidMetH Tryz.prog laid3 W) : Tab W := by
 rw [MakeChecks.laidMetH_plain _ _ _ (by kernel_rfl)] at h
 have h2 : laidMet Tryz.prog [("internal/strconv.uint64pow10", Lib.tabData .u64 Lib.pow10Tab)] W := laidMet.tail (laidMet.tail h)
 exact Lib.tabIs_of_head gTab (t := 237) (e := 124) (n := 20) (by kernel_rfl) (by kernel_rfl) (by kernel_rfl) (by kernel_rfl) (by kernel_rfl) h2
end Go.Proofs.YtkjhaengllpaoaaGreatDoor
namespace Go.Proofs.YtkjhaengllpaoaaGreatDoor
open Go.ChangeShapes Go.WideShapes Go.ChangeAt Go.RowKit
theorem tab64_of_laid {W : World} (h : laidMetH Tryz.prog laid3 W) : Tab64 W := by
 rw [MakeChecks.laidMetH_plain _ _ _ (by kernel_rfl)] at h
 have h2 := laidMet.tail h
 rw [laid64_tab] at h2
 exact tab64_of (Lib.tabIs_of_head gTab64 (t := 214) (e := 5) (n := 64) (by kernel_rfl) (by kernel_rfl) (by kernel_rfl) (by kernel_rfl) (by kernel_rfl) h2)
section
variable {H : Type} {enc : TypeId × Value → H} {P : Program} {w : World} {base : Nat} {spare : Nat → Bool} {held : Bool}
end
end Go.Proofs.YtkjhaengllpaoaaGreatDoor
namespace Go.Proofs.YtkjhaengllpaoaaGreatDoor.T
open Go.Proofs.YtkjhaengllpaoaaGreatDoor Go.ChangeShapes Go.WideShapes Go.ChangeAt Go.RowKit
def laid8 : List (String × DataW Unit) := [("math/bits.deBruijn32tab", Rows.laid_math_bits_deBruijn32tab), ("math/bits.deBruijn64tab", Rows.laid_math_bits_deBruijn64tab), ("internal/strconv.uint64pow10", Rows.laid_internal_strconv_uint64pow10), ("unicode/utf8.acceptRanges", Rows.laid_unicode_utf8_acceptRanges), ("unicode.CaseRanges", Rows.laid_unicode_CaseRanges), ("unicode/utf8.first", Rows.laid_unicode_utf8_first)]
theorem plain8 {W : World} (h : laidMetH Tryz.prog laid8 W) : laidMet Tryz.prog laid8 W := by
 rwa [MakeChecks.laidMetH_plain _ _ _ (by kernel_rfl)] at h
theorem tabM_of8 {W : World} (h : laidMetH Tryz.prog laid8 W) : TabM W := by
 have h1 := laidMet.tail (plain8 h)
 have h2 : laidMet Tryz.prog (("internal/strconv.uint64pow10", Lib.tabData .u64 Lib.pow10Tab) :: [("unicode/utf8.acceptRanges", Rows.laid_unicode_utf8_acceptRanges), ("unicode.CaseRanges", Rows.laid_unicode_CaseRanges), ("unicode/utf8.first", Rows.laid_unicode_utf8_first)]) W := laidMet.tail h1
 rw [laid64_tab] at h1
 exact ⟨Lib.tabIs_of_head gTab (t := 237) (e := 124) (n := 20) (by kernel_rfl) (by kernel_rfl) (by kernel_rfl) (by kernel_rfl) (by kernel_rfl) h2,
   tab64_of (Lib.tabIs_of_head gTab64 (t := 214) (e := 5) (n := 64) (by kernel_rfl) (by kernel_rfl) (by kernel_rfl) (by kernel_rfl) (by kernel_rfl) h1)⟩
theorem door_met8 (os : Os) (args : Array Value) : laidMetH Tryz.prog laid8 ((World.laidAll Tryz.prog os laid8).forCall (fun _ _ => 0) ⟨#[], args, []⟩).memory := by
 rw [MakeChecks.laidMetH_plain _ _ _ (by kernel_rfl)]
 exact laidMet_laidAll _ (by kernel_rfl) (by kernel_rfl)
end Go.Proofs.YtkjhaengllpaoaaGreatDoor.T
namespace Go.Proofs.YtkjhaengllpaoaaGreatDoor.T
open Go.Proofs.YtkjhaengllpaoaaGreatDoor Go Go.ChangeShapes Go.WideShapes Go.ChangeAt Go.RowKit
theorem handed_shape {H : Type} {enc : TypeId × Value → H} {a : Assume} {C : Checked} {os : Os} {f : FuncId} {fn : Func} {s : ChangeSpec} {conds : List PathCond} {apart fresh handsOn again : Bool} {X : World → Array Value → Prop}
   (hX : ∀ (w w' : World) (args : Array Value), w.heap = w'.heap → X w args → X w' args)
   (own : ownKnob C.prog.godebug = none) (started : os.Started) (noInit : C.prog.inits.idxOf? f = none) (hfn : C.prog.funcs[f]? = some fn)
   (witness : ∃ (w : World) (tape : Tape) (i : Input), w.os = os ∧ (w.forCall tape i).Shaped C.prog ∧ i.vars = [] ∧ Input.okWide C.prog (w.forCall tape i) .any w.heap.size f i ∧
     ((s.pre enc C.prog fn conds apart (w.forCall tape i).memory i.args ∧ X (w.forCall tape i).memory i.args) ∧ sizedMet enc C.prog fn (OpenSpec.ofChange s) apart (w.forCall tape i).memory i.args) ∧ a.holds C.prog (lone (Frame.enter C.prog f i.args .normal) [] (w.forCall tape i)))
   (contract : ∀ (W : World) (base : Nat) (args : Array Value) (ds gs : List (DataW H)) (before : List MemPlace),
     (∀ (j : Nat) t v, fn.params[j]? = some t → args[j]? = some v → Value.okWide C.prog W .any base t v) →
     DataW.Whole enc C.prog fn.params.toList s.vars apart W args.toList ds gs before →
     X W args → W.ShapedOpen C.prog →
     Calls C.prog f args W fun e W' => ∃ v, e = .returned v ∧ s.post enc C.prog fn apart fresh handsOn again W args v W') :
   ReturnsInHanded a C os f .any (fun w args => (s.pre enc C.prog fn conds apart w args ∧ X w args) ∧ sizedMet enc C.prog fn (OpenSpec.ofChange s) apart w args) (s.post enc C.prog fn apart fresh handsOn again) := by
 refine returnsInHanded_of_calls own started noInit witness ?_
 intro w tape i _ hsh _ hok hpre _
 obtain ⟨_, _, _, fn', hfn', _, _, _, _, hval⟩ := hok
 obtain rfl : fn' = fn := Option.some.inj (hfn'.symm.trans hfn)
 obtain ⟨⟨⟨ds, gs, before, hw, _⟩, hx⟩, _⟩ := hpre
 refine (contract (w.forCall tape i) w.heap.size i.args ds gs before hval (DataW.Whole.of_heap (w' := w.forCall tape i) (by rfl) hw) (hX _ _ _ (by rfl) hx) hsh).mono fun e W' ⟨v, he, hp⟩ => ?_
 subst he
 exact ChangeSpec.post_blind hp
theorem ml_of {W : World} (h : W.ShapedOpen Tryz.prog) : ML W :=
 cell_of_shapedOpen_int (P := Tryz.prog) (g := 0) (t := 3) (zero := #[.int .i64 0]) h (of_decide_eq_true (by kernel_rfl)) (by kernel_rfl) rfl (by kernel_rfl) (by kernel_rfl) Tryz.underlying3
end Go.Proofs.YtkjhaengllpaoaaGreatDoor.T
