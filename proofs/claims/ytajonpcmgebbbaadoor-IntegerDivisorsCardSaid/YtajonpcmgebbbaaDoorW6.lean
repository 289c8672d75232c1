/- The walks of what reads a text: its digits of the base from the last one on, by an iterator, and the natural that they make. -/
import Derived.Test.YtajonpcmgebbbaaDoorW5
import Derived.RangeFuncNested
import Derived.RangeFuncBound
import Derived.RangeFuncCalls
import Derived.RangeFuncLeaves
import Derived.RangeFuncBox
import Derived.Shelf.Abstract
import Derived.OwnWalkIn
import Derived.TacticsInMore
import Derived.LoopNIn
import Derived.LoopIn
import Derived.Maps.AppendAt
namespace Go.Proofs.YtajonpcmgebbbaaDoor
open Go.RowKit Go.Shelf

attribute [local go_sem] Oper.semAt_some

/-- a digit of the base -/
abbrev Dg := { x : Nat // x < 1000000000 }

/-- the digits of the base of a text, the last one first -/
def rd (l : List UInt8) : List Dg :=
  if _h : l = [] then [] else ⟨natOf (l.drop (l.length - 9)) % 1000000000, Nat.mod_lt _ (by decide)⟩ :: rd (l.take (l.length - 9))
termination_by l.length
decreasing_by
  have := List.length_pos_iff.2 _h
  rw [List.length_take]; omega
theorem rd_nil : rd [] = [] := by rw [rd]; rfl
theorem rd_pos {l : List UInt8} (h : l ≠ []) : rd l = ⟨natOf (l.drop (l.length - 9)) % 1000000000, Nat.mod_lt _ (by decide)⟩ :: rd (l.take (l.length - 9)) := by
  rw [rd, dif_neg h]
def vals (l : List Dg) : List Nat := l.map (·.1)
theorem vals_Dig (l : List Dg) : Dig (vals l) := fun x hx => by
  obtain ⟨y, _, rfl⟩ := List.mem_map.1 hx
  exact y.2
theorem rd_length (n : Nat) : ∀ l : List UInt8, l.length ≤ n → (rd l).length ≤ l.length := by
  induction n with
  | zero => intro l h; have : l = [] := List.eq_nil_of_length_eq_zero (by omega); subst this; rw [rd_nil]; simp
  | succ n ih =>
    intro l h
    by_cases h0 : l = []
    · subst h0; rw [rd_nil]; simp
    · have hp := List.length_pos_iff.2 h0
      rw [rd_pos h0, List.length_cons]
      have := ih (l.take (l.length - 9)) (by rw [List.length_take]; omega)
      rw [List.length_take] at this
      omega
theorem toN_rd (n : Nat) : ∀ l : List UInt8, l.length ≤ n → (∀ c ∈ l, isDig c = true) → toN (vals (rd l)) = natOf l := by
  induction n with
  | zero => intro l h _; have : l = [] := List.eq_nil_of_length_eq_zero (by omega); subst this; rw [rd_nil]; rfl
  | succ n ih =>
    intro l h hd
    by_cases h0 : l = []
    · subst h0; rw [rd_nil]; rfl
    · have hp := List.length_pos_iff.2 h0
      rw [rd_pos h0]
      have h1 := ih (l.take (l.length - 9)) (by rw [List.length_take]; omega) (fun c hc => hd c (List.mem_of_mem_take hc))
      simp only [vals, List.map_cons, toN]
      rw [show toN (List.map (fun x => x.1) (rd (l.take (l.length - 9)))) = natOf (l.take (l.length - 9)) from h1]
      have h2 : natOf (l.drop (l.length - 9)) < 10 ^ 9 := Nat.lt_of_lt_of_le (natOf_lt _ (fun c hc => hd c (List.mem_of_mem_drop hc))) (Nat.pow_le_pow_right (by decide) (by rw [List.length_drop]; omega))
      rw [Nat.mod_eq_of_lt h2]
      conv => rhs; rw [← List.take_append_drop (l.length - 9) l, natOf_append]
      by_cases h9 : l.length ≤ 9
      · rw [show l.length - 9 = 0 by omega]; simp [natOf]
      · rw [List.length_drop, show l.length - (l.length - 9) = 9 by omega, B_eq, Nat.mul_comm, Nat.add_comm]

/-- what a round must keep: the box of the text -/
def KpS (Bn : Nat) (s : ByteArray) (W W' : World) : Prop := W.cell? ⟨Bn, 0, none⟩ = some (.string s) → W'.cell? ⟨Bn, 0, none⟩ = some (.string s)
theorem KpS.t {Bn : Nat} {s : ByteArray} {A B C : World} (h : KpS Bn s A B) (k : KpS Bn s B C) : KpS Bn s A C := fun x => k (h x)
theorem cell_putObj {W : World} {l : Nat} {o o' : Obj} {a : Addr} {v : Value} (h : W.cell? a = some v) (hl : W.heap[l]? = some o) (ho : o.isCells = false) : (W.putObj l o').cell? a = some v := by
  have hne : a.block ≠ l := by
    intro e
    unfold World.cell? at h
    rw [e, hl] at h
    cases o <;> simp_all [Obj.isCells]
  exact (World.cell?_of_block (World.putObj_heap_other hne)).trans h
theorem KpS.b {Bn : Nat} {s : ByteArray} {w : World} (W : World) (l : Nat) (o o' : Obj) (_ : w.heap.size ≤ l) (h : W.heap[l]? = some o) (hc : o.isCells = false) (_ : o.isWalk = false) : KpS Bn s W (W.putObj l o') := fun hx => cell_putObj hx h hc

theorem rd_take (s : ByteArray) (e : Nat) (he : e ≤ s.size) (h0 : e ≠ 0) (hd : ∀ c ∈ s.data.toList, isDig c = true) :
    ∃ x : Dg, x.1 = natOf (s.extract (e - 9) e).data.toList ∧ rd (s.data.toList.take e) = x :: rd (s.data.toList.take (e - 9)) := by
  have hl : (s.data.toList.take e).length = e := by rw [List.length_take, size_len]; omega
  have hne : s.data.toList.take e ≠ [] := by intro h; rw [h] at hl; simp at hl; omega
  have e1 : (s.data.toList.take e).drop (e - 9) = (s.extract (e - 9) e).data.toList := by
    rw [Lib.extract_data, List.drop_take]
  refine ⟨⟨natOf ((s.data.toList.take e).drop (e - 9)) % 1000000000, Nat.mod_lt _ (by decide)⟩, ?_, ?_⟩
  · show natOf ((s.data.toList.take e).drop (e - 9)) % 1000000000 = _
    rw [← e1]
    refine Nat.mod_eq_of_lt ?_
    refine Nat.lt_of_lt_of_le (natOf_lt _ (fun c hc => hd c (List.mem_of_mem_take (List.mem_of_mem_drop hc)))) ?_
    exact Nat.le_trans (Nat.pow_le_pow_right (by decide) (by rw [List.length_drop, hl]; omega)) (show 10 ^ 9 ≤ 1000000000 by decide)
  · rw [rd_pos hne, hl, List.take_take, Nat.min_eq_left (by omega)]

set_option maxRecDepth 100000 in
set_option maxHeartbeats 1000000 in
theorem digits1_in (n : Nat) (hn : 1 ≤ n) (l Bn : Nat) (s : ByteArray) (hs : s.size ≤ 1000000) (hd : ∀ c ∈ s.data.toList, isDig c = true) (J Jx : List Dg → World → Prop)
    (hY : ∀ pre x W, J pre W → pre.length < (rd s.data.toList).length → YieldAt Fence.wide (n - 1) Tryd.prog l #[.int .u64 (x.1 : Nat)] W fun e W' =>
      (e = .returned (.bool true) ∧ J (pre ++ [x]) W' ∧ KpS Bn s W W') ∨ (e = .returned (.bool false) ∧ Jx (pre ++ [x]) W'))
    (W : World) (hBn : W.cell? ⟨Bn, 0, none⟩ = some (.string s)) (h0 : J [] W) :
    CallsIn Fence.wide n Tryd.prog 96 #[.func (.yield l) #[] #[], .pointer (some ⟨Bn, 0, none⟩)] W fun e W' => (∃ v, e = .returned v) ∧
      ((∃ ys, ys = rd s.data.toList ∧ J ys W') ∨ (∃ pre, pre <+: rd s.data.toList ∧ Jx pre W')) := by
  have HY := Lib.hid hY; clear hY
  have HD := Lib.hid hd; clear hd
  refine callsIn_of_wp Tryd.func96 rfl trivial ?_ rfl
  simp only [Tryd.ntmps96, List.size_toArray, List.length_cons, List.length_nil, Nat.reduceAdd, Nat.reduceSub, Array.replicate_succ, Array.replicate_zero, List.push_toArray, List.append_toArray, List.nil_append, List.cons_append]
  gi_wp2
  gi_loopw [3] (fun p wr => ∃ (pre : List Dg) (z : Int), p = .int .i64 z ∧ -9 ≤ z ∧ z ≤ s.size ∧ Hid (rd s.data.toList = pre ++ rd (s.data.toList.take z.toNat)) ∧ J pre wr ∧ wr.cell? ⟨Bn, 0, none⟩ = some (.string s))
    (fun p wr => (intOf p).toNat)
  case atStart =>
    exact ⟨[], s.size, rfl, by omega, by omega, by show rd _ = _; rw [Int.toNat_natCast, List.take_of_length_le (by rw [size_len]; omega)]; rfl, h0, hBn⟩
  case round =>
    clear h0 hBn
    obtain ⟨pre, z, rfl, hz9, he, hx, hJs, hc⟩ := hrel
    by_cases h0 : z ≤ 0
    · have hx2 : Hid (rd s.data.toList = pre) := by
        show rd s.data.toList = pre
        rw [hx.out, show z.toNat = 0 by omega]; simp [rd_nil]
      clear hx
      gi_wp2
      go_end0
      exact ⟨⟨_, rfl⟩, .inl ⟨pre, hx2.out.symm, hJs⟩⟩
    · obtain ⟨e, rfl⟩ : ∃ e : Nat, z = e := ⟨z.toNat, by omega⟩
      rw [Int.toNat_natCast] at hx
      have he : e ≤ s.size := by omega
      have h0 : e ≠ 0 := by omega
      obtain ⟨x, hxv, hrd⟩ := rd_take s e he h0 HD.out
      have hsz : (s.extract (e - 9) e).size ≤ 18 := by rw [ByteArray.size_extract]; omega
      have hdd : ∀ c ∈ (s.extract (e - 9) e).data.toList, isDig c = true := fun c hc => by
        rw [Lib.extract_data] at hc; exact HD.out c (List.mem_of_mem_drop (List.mem_of_mem_take hc))
      have c := value_any (s.extract (e - 9) e) wr hsz hdd
      rw [← hxv] at c
      have C := Lib.hid c; clear c hdd hsz
      have hx2 : Hid (rd s.data.toList = (pre ++ [x]) ++ rd (s.data.toList.take (e - 9))) := by
        show rd s.data.toList = _
        rw [hx.out, hrd]; simp
      have hlen : pre.length < (rd s.data.toList).length := by rw [hx2.out]; simp
      obtain ⟨fn, tmps, assign, body, hy, hR⟩ := HY.out pre x wr hJs hlen
      obtain ⟨xv, hxb⟩ := x
      dsimp only at hy
      have HR := Lib.hid hR
      clear hxv hrd hx hlen hR
      have em : (max 0 ((e : Int) - 9)).toNat = e - 9 := by omega
      have EM := Lib.hid em; clear em
      gi_wp2_with fail
      rw [EM.out]
      refine ⟨trivial, ?_⟩
      refine (callsIn_wide.2 C.out).mono ?_
      rintro e' w' ⟨rfl, rfl⟩
      clear C
      gi_wp2
      refine HR.out.mono ?_
      clear HR
      rintro e' W3 (⟨rfl, hJ3, hk3⟩ | ⟨rfl, hJx3⟩)
      · have hc3 : W3.cell? ⟨Bn, 0, none⟩ = some (.string s) := hk3 hc
        gi_wp2
        go_roundw
        case rel => exact ⟨pre ++ [⟨xv, hxb⟩], (e : Int) - 9, rfl, by omega, by omega, by rw [show ((e : Int) - 9).toNat = e - 9 by omega]; exact hx2, hJ3, hc3⟩
        case measure => simp [intOf]; omega
      · gi_wp2
        refine bodyPost_ret (results_none rfl _ _ _) rfl ?_
        exact ⟨⟨_, rfl⟩, .inr ⟨pre ++ [⟨xv, hxb⟩], ⟨_, hx2.out.symm⟩, hJx3⟩⟩

theorem digits_stops (n : Nat) (hn : 1 ≤ n) (Bn : Nat) (s : ByteArray) (hs : s.size ≤ 1000000) (hd : ∀ c ∈ s.data.toList, isDig c = true) (w : World) (hBn : Bn < w.heap.size)
    (hc : w.cell? ⟨Bn, 0, none⟩ = some (.string s)) :
    SeqStopsK Fence.wide n Tryd.prog 96 #[.pointer (some ⟨Bn, 0, none⟩)] (fun x : Dg => #[Value.int .u64 (x.1 : Nat)]) (KpS Bn s) (fun ys => ys = rd s.data.toList) (fun pre => pre <+: rd s.data.toList) (rd s.data.toList).length w := fun l J Jx W hW _ _ hY h0 =>
  digits1_in n hn l Bn s hs hd J Jx hY W ((hW.cell (p := ⟨Bn, 0, none⟩) hBn).trans hc) h0

set_option maxHeartbeats 1000000 in
theorem digits_any (s : ByteArray) (w : World) :
    Calls Tryd.prog 77 #[.string s] w fun e w' => e = .returned (.func (.func 96) #[] #[.pointer (some ⟨w.heap.size, 0, none⟩)]) ∧ w' = w.alloc (.cells #[.string s] 9) := by
  go_enter Tryd.func77, Tryd.ntmps77
  go_wp2
  go_ret
  exact ⟨rfl, rfl⟩

theorem info_u64 : (Tryd.prog.info? 67).map (fun i => (i.zero, i.size, i.bytes)) = some (some (.int .u64 0), 1, 8) := by kernel_rfl

/-- what a slice of the call's own owns, read as digits -/
theorem nats_of_owns {w : World} {base : Nat} {v : Value} {l : List Nat} {e : TypeId} (h : w.ownsRow base e 1 v l.length (l.map fun x => Value.int .u64 (x : Nat))) : Nats w v l := by
  have h' := h
  obtain ⟨h1, h2⟩ := h
  rcases h2 with ⟨rfl, h3⟩ | ⟨g, cap, cur, rfl, hb, hh, hn, hcap, hsz, htk⟩
  · have : l = [] := List.eq_nil_of_length_eq_zero h3
    subst this; exact Nats.nil w
  · refine ⟨_, cap, rfl, hn, by unfold maxLen at hcap; omega, fun _ => ⟨g, 0, rfl, fun i hi => ?_⟩⟩
    have h3 := h'.cells (g := g) rfl i (.int .u64 (l.getD i 0 : Nat)) (by
      rw [List.getElem?_map, List.getElem?_eq_getElem hi, List.getD_eq_getElem?_getD, List.getElem?_eq_getElem hi]; rfl)
    have hadd : (⟨g, 0, none⟩ : Addr).add i = ⟨g, 0 + i, none⟩ := by unfold Addr.add; split <;> simp_all
    rwa [hadd] at h3

def cells64 (l : List Nat) : List Value := l.map fun x => Value.int .u64 (x : Nat)
theorem cells64_snoc (l : List Nat) (x : Nat) : cells64 l ++ [Value.int .u64 (x : Nat)] = cells64 (l ++ [x]) := by simp [cells64]
theorem vals_snoc (l : List Dg) (x : Dg) : vals (l ++ [x]) = vals l ++ [x.1] := by simp [vals]
theorem vals_length (l : List Dg) : (vals l).length = l.length := by simp [vals]

theorem Nats.putObj {W : World} {l : Nat} {o o' : Obj} {v : Value} {m : List Nat} (h : Nats W v m) (hl : W.heap[l]? = some o) (ho : o.isCells = false) : Nats (W.putObj l o') v m := by
  obtain ⟨p, cap, rfl, h1, h2, h3⟩ := h
  refine ⟨p, cap, rfl, h1, h2, fun hne => ?_⟩
  obtain ⟨b, off, e, hc⟩ := h3 hne
  exact ⟨b, off, e, fun i hi => cell_putObj (hc i hi) hl ho⟩

set_option maxRecDepth 100000 in
set_option maxHeartbeats 2000000 in
theorem readNatural_any (s : ByteArray) (w : World) (hs : s.size ≤ 1000000) (hd : ∀ c ∈ s.data.toList, isDig c = true) :
    Calls Tryd.prog 47 #[.string s] w fun e W' => ∃ v, e = .returned v ∧ IsNat W' v (natOf s.data.toList) ∧ Fresh w.heap.size v ∧ Below w.heap.size w W' := by
  refine (callsIn_wide (n := 9)).1 ?_
  have hlen : (rd s.data.toList).length ≤ 1000000 := Nat.le_trans (rd_length _ _ (Nat.le_refl _)) (by rw [size_len]; exact hs)
  have hval := toN_rd _ s.data.toList (Nat.le_refl _) hd
  have HV := Lib.hid hval; clear hval
  have HD := Lib.hid hd; clear hd
  obtain ⟨i0, hi, hz0, hz1, hz2⟩ := info_parts info_u64
  have HI := Lib.hid (And.intro hi (And.intro hz0 (And.intro hz1 hz2))); clear hi hz0 hz1 hz2
  obtain ⟨m, hm⟩ : ∃ m : Nat, (s.size : Int) / 9 + 1 = m := ⟨s.size / 9 + 1, by omega⟩
  have hm2 : m ≤ 1000000 := by omega
  have HM := Lib.hid hm; clear hm
  refine callsIn_of_wp_marks Tryd.func47 rfl trivial ?_ rfl
  simp only [Tryd.ntmps47, List.size_toArray, List.length_cons, List.length_nil, Nat.reduceAdd, Nat.reduceSub, Array.replicate_succ, Array.replicate_zero, List.push_toArray, List.append_toArray, List.nil_append, List.cons_append]
  gi_wp2_with (gi_at_make; refine wpListIn_make_own _ rfl _ _ 44 rfl w.heap.size 67 i0 (.int .u64 0) 1 Tryd.underlying44 HI.out.1 HI.out.2.1 HI.out.2.2.1 .i64 .i64 _ m rfl rfl HM.out (by rw [HI.out.2.2.2]; omega) (by unfold maxLen; omega) (Nat.le_refl _) ?_; intro w1 hown hgrow)
  refine ⟨trivial, ?_⟩
  refine (callsIn_wide.2 (digits_any s _)).mono ?_
  rintro e w' ⟨rfl, rfl⟩
  gi_wp2
  have bO := Boxed.new w1 44 (.slice (some ⟨w.heap.size, 0, none⟩) 0 m)
  have bS := Boxed.new (w1.alloc (.cells #[.slice (some ⟨w.heap.size, 0, none⟩) 0 m] 44)) 9 (.string s)
  rw [World.size_alloc] at bS
  have hsz1 : w.heap.size ≤ w1.heap.size := hgrow.size
  have hB0 : Below w.heap.size w ((w1.alloc (.cells #[.slice (some ⟨w.heap.size, 0, none⟩) 0 m] 44)).alloc (.cells #[.string s] 9)) :=
    (((Below.refl _ w).grown hgrow (Nat.le_refl _) (fun k e => by cases e)).alloc hsz1 _).alloc (by simp; omega) _
  refine wpIn_rangeFunc_ownG rfl (by omega) (gf := 96) (lb := #[.pointer (some ⟨w1.heap.size + 1, 0, none⟩)]) rfl trivial (enters_of Tryd.func96 (by kernel_rfl) rfl)
    (digits_stops (9 - 1) (by omega) (w1.heap.size + 1) s hs HD.out _ (by simp) bS.cell) KpS.t KpS.b (Below.refl _ _) (fun _ => rfl)
    (fun pre W => ((∃ v, Boxed W w1.heap.size 44 v ∧ W.ownsRow w.heap.size 67 1 v (vals pre).length (cells64 (vals pre)) ∧ True) ∧ Boxed W (w1.heap.size + 1) 9 (.string s)) ∧ Below w.heap.size w W)
    (fun _ _ _ => False)
    (OwnFrom.and (OwnFrom.and (Own.from (holdsRow_own w.heap.size w1.heap.size 44 67 1 (fun pre => (vals pre).length) (fun pre => cells64 (vals pre)) (fun _ _ => True)) _) (Own.from (boxed_own (w1.heap.size + 1) 9 (fun _ => .string s)) _)) (ownFrom_below (Nat.le_refl _) (by simp; omega)))
    (fun _ _ _ _ _ hs _ _ => hs)
    ⟨⟨⟨_, bO.alloc _, (hown.alloc _).alloc _, trivial⟩, bS⟩, hB0⟩
    (fun x => { tmps := #[.string s, undef, .slice none 0 0, .pointer (some ⟨w1.heap.size, 0, none⟩), .int .u64 (x.1 : Nat), .string s, .int .i64 s.size, .int .i64 ((s.size : Int) / 9), .int .i64 ((s.size : Int) / 9 + 1), .slice (some ⟨w.heap.size, 0, none⟩) 0 m, .string s, .func (.func 96) #[] #[.pointer (some ⟨w1.heap.size + 1, 0, none⟩)], .int .u64 (x.1 : Nat), undef, undef, undef, undef, undef, undef], defers := [] }) ?assign ?body ?done ?stop
  case assign =>
    clear hown bO bS hB0 hgrow
    intro l x W K hK
    gi_wp2
    exact hK
  case body =>
    clear hown bO bS hB0 hgrow
    rintro l pre x W ⟨⟨⟨v, hv, hrow, _⟩, hS⟩, hB⟩ hlt
    have hc := hv.cell
    have hp := vals_length pre
    have HP := Lib.hid hp; clear hp
    have hpl : (vals pre).length ≤ 1000000 := by rw [HP.out]; omega
    obtain ⟨hi, hz0, hz1, hz2⟩ := HI.out
    gi_wp2_with (gi_at_builtin; refine wpListIn_append_own _ rfl _ _ 44 rfl w.heap.size 67 i0 (.int .u64 0) 1 8 Tryd.underlying44 hi hz0 hz1 hz2 rfl (by decide) _ _ _ rfl (hrow.alloc _) ⟨W.heap.size, 0, none⟩ 1 1 [.int .u64 (x.1 : Nat)] rfl rfl (cell_one_new _ _ _) (by simp [Value.oneCell']) (by unfold maxLen; omega) (by omega) (by have := hB.size; simp; omega) ?_; intro v' w2 hown' hgrow _; obtain ⟨g', cap', rfl⟩ := ownsRow_succ hown'; obtain ⟨hv1, hv2, hr2, hk2, hb2⟩ := hv.appended (by decide) hrow hB.size hsz1 hown' hgrow; have hS2 := (hS.alloc _).kept hgrow (hS.not_row (by decide) hrow); have hc1 := hv1.cell; have hf1 := hv1.frozen)
    have hS3 := hS2.other (B' := w1.heap.size) (by omega) (.slice (some ⟨g', 0, none⟩) ((vals pre).length + 1) cap')
    refine ⟨hk2.from _, fun _ => hS3.cell, ⟨⟨_, hv2, ?_, trivial⟩, hS3⟩, hB.trans hb2⟩
    rw [vals_snoc, ← cells64_snoc, List.length_append, List.length_singleton]
    exact hr2
  case done =>
    clear hown bO bS hB0 hgrow
    rintro D ys W hD rfl ⟨⟨⟨v, hv, hrow, _⟩, hS⟩, hB⟩ hK
    have hc := hv.cell
    have hN := nats_of_owns hrow
    have ct := trimmed_any v _ W hN (vals_Dig _)
    rw [HV.out] at ct
    have CT := Lib.hid ct; clear ct hN
    gi_wp2_with fail
    refine ⟨trivial, ?_⟩
    refine (callsIn_wide.2 CT.out).mono ?_
    clear CT
    rintro e w' ⟨rfl, v', rfl, hN', ho⟩
    have HN := Lib.hid hN'; clear hN'
    have HO := Lib.hid ho; clear ho
    gi_wp2
    refine ⟨by simp, .inl ⟨_, _, rfl, run_takeDeferred hK, ?_⟩⟩
    exact ⟨_, results_tmp rfl _ _ _, v', rfl, HN.out.putObj hK rfl, fun k hk => by rw [HO.out] at hk; exact (hrow.lt k hk).1, hB.trans (belowK_b (w := w) (Nat.le_refl _) W D _ _ (by simp at hD; omega) hK rfl rfl)⟩
  case stop =>
    rintro D c pre W _ _ h _
    exact h.elim
end Go.Proofs.YtajonpcmgebbbaaDoor
