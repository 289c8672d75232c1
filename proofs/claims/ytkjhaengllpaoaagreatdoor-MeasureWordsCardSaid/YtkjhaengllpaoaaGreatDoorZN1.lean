/- Parts of the proofs of the texts YtkjhaengllpaoaaGreatDoorZN. -/
import Derived.Shelf.Strings.Builder1
import Derived.Shelf.Strings.Builder2
import Derived.Shelf.Strings.Trim
import Derived.Shelf.Small.Utf8
import Derived.Shelf.Small.Strs
import Derived.Shelf.Small.Wraps
import Derived.Shelf.Strings.BuilderF
import Derived.Shelf.Strconv.Itoa0
import Derived.Shelf.Strconv.Itoa1
import Derived.Shelf.LaysM
import Derived.Shelf.Strconv.Itoa2
import Derived.Shelf.Strconv.Itoa3
import Derived.Shelf.Strconv.Itoa4
import Derived.Shelf.Strings.Search1
import Derived.Shelf.Strings.Search2
import Derived.Shelf.Strings.Cut
import Derived.Shelf.Strconv.AppendUint10
import Derived.Shelf.Strconv.AppendInt10
import Derived.Shelf.Strconv.AppendIntPublic10
import Derived.Shelf.Strings.Prefix
import Derived.Shelf.Bits.Mul64
import Derived.Shelf.Strings.Repeat
import Derived.Test.YtkjhaengllpaoaaGreatDoorProg
import Derived.RangeFuncNested
import Derived.RangeFuncBound
import Derived.RangeFuncCalls
import Derived.RangeFuncLeaves
import Derived.RangeFuncBox
import Derived.Shelf.Abstract
import Derived.OwnWalkIn
import Derived.TacticsInMore
import Derived.LoopNIn
import Derived.LoopIn
import Derived.Maps.AppendAt
import Derived.RegionIn
import Derived.Shelf.RegionOpen
import Derived.Shelf.Strings.OnBuilder
import Derived.Shelf.Strings.Search3
import Derived.Shelf.Strings.Shaped
import Derived.Shelf.GgClosure.StringsIndexFunc
import Derived.Ground.GgwProg
import Derived.Shelf.GgClosure.StringsIndexFuncTop
import Derived.Shelf.GgClosure.StringsRunes
import Derived.Shelf.Unicode.Latin
import Derived.Shelf.Strings.Runes
import Derived.Shelf.Strings.AsciiSet
import Derived.Shelf.Unicode.DecodeSlow
import Derived.Shelf.Unicode.DecodeAny
import Derived.Shelf.Unicode.DecodeLast
import Derived.Shelf.Strings.FuncGrows
import Derived.Shelf.Strings.SlTrimAscii
import Derived.Test.YtkjhaengllpaoaaGreatDoorZB1
import Derived.Test.YtkjhaengllpaoaaGreatDoorZB10
import Derived.Test.YtkjhaengllpaoaaGreatDoorZB11
import Derived.Test.YtkjhaengllpaoaaGreatDoorZB12
import Derived.Test.YtkjhaengllpaoaaGreatDoorZB13
import Derived.Test.YtkjhaengllpaoaaGreatDoorZB14
import Derived.Test.YtkjhaengllpaoaaGreatDoorZB15
import Derived.Test.YtkjhaengllpaoaaGreatDoorZB16
import Derived.Test.YtkjhaengllpaoaaGreatDoorZB17
import Derived.Test.YtkjhaengllpaoaaGreatDoorZB18
import Derived.Test.YtkjhaengllpaoaaGreatDoorZB19
import Derived.Test.YtkjhaengllpaoaaGreatDoorZB2
import Derived.Test.YtkjhaengllpaoaaGreatDoorZB20
import Derived.Test.YtkjhaengllpaoaaGreatDoorZB21
import Derived.Test.YtkjhaengllpaoaaGreatDoorZB22
import Derived.Test.YtkjhaengllpaoaaGreatDoorZB23
import Derived.Test.YtkjhaengllpaoaaGreatDoorZB24
import Derived.Test.YtkjhaengllpaoaaGreatDoorZB3
import Derived.Test.YtkjhaengllpaoaaGreatDoorZB4
import Derived.Test.YtkjhaengllpaoaaGreatDoorZB5
import Derived.Test.YtkjhaengllpaoaaGreatDoorZB6
import Derived.Test.YtkjhaengllpaoaaGreatDoorZB7
import Derived.Test.YtkjhaengllpaoaaGreatDoorZB8
import Derived.Test.YtkjhaengllpaoaaGreatDoorZB9
set_option linter.all false
set_option maxRecDepth 100000
set_option maxHeartbeats 8000000
namespace Go.Proofs
open Go.Shelf
def Tryz.lays160_ren : Go.Shelf.Ren := ⟨fun | 160 => 34 | 232 => 72 | 231 => 71 | 227 => 73 | 234 => 75 | 233 => 74 | 236 => 77 | 235 => 76 | 228 => 117 | 271 => 120 | 151 => 119 | 197 => 118 | 120 => 158 | 152 => 157 | 260 => 156 | 137 => 179 | 119 => 180 | 224 => 137 | 225 => 136 | 217 => 135 | 266 => 165 | n => n, fun | 9 => 9 | 4 => 4 | 3 => 3 | 5 => 5 | 117 => 102 | 116 => 101 | 0 => 0 | 124 => 105 | 21 => 21 | 105 => 153 | 46 => 62 | 119 => 207 | 139 => 210 | 138 => 209 | n => n, fun | 3 => 2 | 4 => 3 | n => n⟩
theorem Tryz.lays160 : Go.Proofs.Lays.n160 Tryz.prog Tryz.lays160_ren := {
 mixed := by kernel_rfl
 f119 := Tryz.func180.trans (congrArg some (by kernel_rfl))
 f120 := Tryz.func158.trans (congrArg some (by kernel_rfl))
 f137 := Tryz.func179.trans (congrArg some (by kernel_rfl))
 f151 := Tryz.func119.trans (congrArg some (by kernel_rfl))
 f152 := Tryz.func157.trans (congrArg some (by kernel_rfl))
 f160 := Tryz.func34.trans (congrArg some (by kernel_rfl))
 f197 := Tryz.func118.trans (congrArg some (by kernel_rfl))
 f217 := Tryz.func135.trans (congrArg some (by kernel_rfl))
 f224 := Tryz.func137.trans (congrArg some (by kernel_rfl))
 f225 := Tryz.func136.trans (congrArg some (by kernel_rfl))
 f227 := Tryz.func73.trans (congrArg some (by kernel_rfl))
 f228 := Tryz.func117.trans (congrArg some (by kernel_rfl))
 f231 := Tryz.func71.trans (congrArg some (by kernel_rfl))
 f232 := Tryz.func72.trans (congrArg some (by kernel_rfl))
 f233 := Tryz.func74.trans (congrArg some (by kernel_rfl))
 f234 := Tryz.func75.trans (congrArg some (by kernel_rfl))
 f235 := Tryz.func76.trans (congrArg some (by kernel_rfl))
 f236 := Tryz.func77.trans (congrArg some (by kernel_rfl))
 f260 := Tryz.func156.trans (congrArg some (by kernel_rfl))
 f266 := Tryz.func165.trans (congrArg some (by kernel_rfl))
 f271 := Tryz.func120.trans (congrArg some (by kernel_rfl))
 t0 := Tryz.underlying0
 a0 := Tryz.isAgg0
 z0 := Tryz.sizeOf0
 v0 := Tryz.zeroValue0
 t3 := Tryz.underlying3
 a3 := Tryz.isAgg3
 z3 := Tryz.sizeOf3
 v3 := Tryz.zeroValue3
 t4 := Tryz.underlying4
 a4 := Tryz.isAgg4
 z4 := Tryz.sizeOf4
 v4 := Tryz.zeroValue4
 t5 := Tryz.underlying5
 a5 := Tryz.isAgg5
 z5 := Tryz.sizeOf5
 v5 := Tryz.zeroValue5
 t9 := Tryz.underlying9
 a9 := Tryz.isAgg9
 z9 := Tryz.sizeOf9
 v9 := Tryz.zeroValue9
 t21 := Tryz.underlying21
 a21 := Tryz.isAgg21
 z21 := Tryz.sizeOf21
 v21 := Tryz.zeroValue21
 t46 := Tryz.underlying62
 a46 := Tryz.isAgg62
 z46 := Tryz.sizeOf62
 v46 := Tryz.zeroValue62
 t105 := Tryz.underlying153
 a105 := Tryz.isAgg153
 z105 := Tryz.sizeOf153
 v105 := Tryz.zeroValue153
 t116 := Tryz.underlying101
 a116 := Tryz.isAgg101
 z116 := Tryz.sizeOf101
 t117 := Tryz.underlying102
 a117 := Tryz.isAgg102
 z117 := Tryz.sizeOf102
 v117 := Tryz.zeroValue102
 t119 := Tryz.underlying207
 a119 := Tryz.isAgg207
 z119 := Tryz.sizeOf207
 t124 := Tryz.underlying105
 a124 := Tryz.isAgg105
 z124 := Tryz.sizeOf105
 v124 := Tryz.zeroValue105
 t138 := Tryz.underlying209
 a138 := Tryz.isAgg209
 z138 := Tryz.sizeOf209
 v138 := Tryz.zeroValue209
 t139 := Tryz.underlying210
 a139 := Tryz.isAgg210
 z139 := Tryz.sizeOf210
 v139 := Tryz.zeroValue210
 g3 := by kernel_rfl
 g4 := by kernel_rfl }
def Tryz.lays100_ren : Go.Shelf.Ren := ⟨fun | 100 => 27 | 207 => 67 | n => n, fun | 9 => 9 | 4 => 4 | 3 => 3 | n => n, fun | n => n⟩
theorem Tryz.lays100 : Go.Proofs.Lays.n100 Tryz.prog Tryz.lays100_ren := {
 mixed := by kernel_rfl
 f100 := Tryz.func27.trans (congrArg some (by kernel_rfl))
 f207 := Tryz.func67.trans (congrArg some (by kernel_rfl))
 t3 := Tryz.underlying3
 a3 := Tryz.isAgg3
 z3 := Tryz.sizeOf3
 v3 := Tryz.zeroValue3
 t4 := Tryz.underlying4
 a4 := Tryz.isAgg4
 z4 := Tryz.sizeOf4
 v4 := Tryz.zeroValue4
 t9 := Tryz.underlying9
 a9 := Tryz.isAgg9
 z9 := Tryz.sizeOf9
 v9 := Tryz.zeroValue9 }
open Go.RowKit Go.Lib in
theorem Tryz.strings_HasSuffix (s p : ByteArray) (w : World) (hs : s.size ≤ 9223372036854775807) :
   Calls Tryz.prog 27 #[.string s, .string p] w fun e w' => e = .returned (.bool (Lib.hasSuffix s.data.toList p.data.toList)) ∧ w' = w := Any.strings_HasSuffix Tryz.lays100 s p w hs
end Go.Proofs
namespace Go.Proofs.YtkjhaengllpaoaaGreatDoor.T
open Go.Proofs.YtkjhaengllpaoaaGreatDoor Go Go.Lib
def spB : Nat → List UInt8 → List ByteArray
 | 0, _ => []
 | n + 1, l => bO (kA 32 l) :: (if kH 32 l then spB n (kB 32 l) else [])
theorem kB_lt {c : UInt8} {l : List UInt8} (h : kH c l = true) : (kB c l).length < l.length := by
 have := congrArg List.length (k_split (kH_iff.1 h))
 rw [List.length_append, List.length_cons] at this
 omega
theorem spB_fuel : ∀ (n m : Nat) (l : List UInt8), l.length < n → l.length < m → spB n l = spB m l
 | 0, _, _, h, _ => by omega
 | _ + 1, 0, _, _, h => by omega
 | n + 1, m + 1, l, h1, h2 => by
   unfold spB
   cases h : kH 32 l
   · rfl
   · have := kB_lt h
     rw [if_pos rfl, if_pos rfl, spB_fuel n m (kB 32 l) (by omega) (by omega)]
def wsp (l : List UInt8) : List ByteArray := spB (l.length + 1) l
theorem wsp_eq (l : List UInt8) : wsp l = bO (kA 32 l) :: (if kH 32 l then wsp (kB 32 l) else []) := by
 unfold wsp
 rw [spB]
 cases h : kH 32 l
 · rfl
 · have := kB_lt h
   rw [if_pos rfl, if_pos rfl, spB_fuel l.length ((kB 32 l).length + 1) (kB 32 l) (by omega) (by omega)]
def wl (l : List UInt8) : List ByteArray := if l = [] then [] else wsp l
def rem (b : Bool) (l : List UInt8) : List ByteArray := if b then wsp l else []
theorem wl_rem (l : List UInt8) : wl l = rem (!l.isEmpty) l := by
 unfold wl rem
 cases l with
 | nil => rfl
 | cons a t => rfl
theorem spB_len : ∀ (n : Nat) (l : List UInt8), (spB n l).length ≤ n
 | 0, _ => Nat.le_refl _
 | n + 1, l => by
   unfold spB
   rw [List.length_cons]
   cases kH 32 l
   · rw [if_neg (by decide)]; simp
   · rw [if_pos rfl]; have := spB_len n (kB 32 l); omega
theorem wl_len (l : List UInt8) : (wl l).length ≤ l.length + 1 := by
 unfold wl
 split
 · simp
 · exact spB_len _ _
end Go.Proofs.YtkjhaengllpaoaaGreatDoor.T
namespace Go.Proofs.YtkjhaengllpaoaaGreatDoor.T
open Go.Proofs.YtkjhaengllpaoaaGreatDoor Go Go.RowKit Go.Shelf
theorem mgrown {a b : World} (h : Below a.heap.size a b) : a.grownBy b none := ⟨h.os, h.tape, h.output, h.size, fun k hk _ => h.block k hk⟩
theorem words_fn (s : ByteArray) (w : World) :
   Calls Tryz.prog 63 #[.string s] w fun e w' => e = .returned (.func (.func 115) #[] #[.pointer (some ⟨w.heap.size, 0, none⟩)]) ∧ w' = w.alloc (.cells #[.string s] 9) := by
 go_enter Tryz.func63, Tryz.ntmps63
 go_wp2
 go_ret
 exact ⟨rfl, rfl⟩
abbrev WS := {x : ByteArray // x.size ≤ 1000}
def wleft (r m : Value) : Nat := match r, m with
 | .string t, .bool true => t.size + 1
 | _, _ => 0
section
attribute [local go_sem] Oper.semAt_some
theorem words1_in (n : Nat) (hn : 1 ≤ n) (l Bs N0 : Nat) (s : ByteArray) (hs : s.size ≤ 1000) (J Jx : List WS → World → Prop)
   (hY : ∀ pre x W1, J pre W1 → pre.length < (wl s.data.toList).length → YieldAt Fence.wide (n - 1) Tryz.prog l #[.string x.1] W1 fun e W' =>
     (e = .returned (.bool true) ∧ J (pre ++ [x]) W' ∧ Below N0 W1 W') ∨ (e = .returned (.bool false) ∧ Jx (pre ++ [x]) W'))
   (W : World) (hJ : AbidesFrom W.heap.size J) (hBs : W.cell? ⟨Bs, 0, none⟩ = some (.string s)) (h0 : J [] W) :
   CallsIn Fence.wide n Tryz.prog 115 #[.func (.yield l) #[] #[], .pointer (some ⟨Bs, 0, none⟩)] W fun e W' => (∃ v, e = .returned v) ∧
     ((∃ ys : List WS, ys.map (·.1) = wl s.data.toList ∧ J ys W') ∨ (∃ pre : List WS, (∃ rest, wl s.data.toList = pre.map (·.1) ++ rest) ∧ Jx pre W')) := by
 have HY := Lib.hid hY; clear hY
 have HJ := Lib.hid hJ; clear hJ
 have H0 := Lib.hid h0; clear h0
 refine callsIn_of_wp Tryz.func115 rfl trivial ?_ rfl
 simp only [Tryz.ntmps115, List.size_toArray, List.length_cons, List.length_nil, Nat.reduceAdd, Nat.reduceSub, Array.replicate_succ, Array.replicate_zero, List.push_toArray, List.append_toArray, List.nil_append, List.cons_append]
 have hmx : Tryz.prog.follows .mixedOrders = true := by kernel_rfl
 gi_wp2
 gi_region_with_o (fail)
 all_goals
   change Exit.then _ _ Exit.normal { tmps := #[.func (.yield l) #[] #[], .pointer (some ⟨Bs, 0, none⟩), undef, .string s, .bool (!s.toList.isEmpty), undef, .string s, .string s, .bool (!s.toList.isEmpty), undef, undef, undef, undef, undef, undef, undef, undef, undef, undef, undef], defers := [] } _
   gi_wp2
   have HJ0 := Lib.hid (HJ.out [] W W.drew none H0.out (mgrown (Below.refl _ W).drew) (fun r e => by cases e))
   generalize W.drew = Wd at *
   gi_loopw [3, 4] (fun r m wr => ∃ (pre : List WS) (t : ByteArray) (b : Bool), r = .string t ∧ m = .bool b ∧ Hid (wl s.data.toList = pre.map (·.1) ++ rem b t.data.toList) ∧ t.size ≤ 1000 ∧ Hid (J pre wr))
     (fun r m _ => wleft r m)
   case atStart => exact ⟨[], s, !s.toList.isEmpty, rfl, rfl, by show _ = _; rw [List.map_nil, List.nil_append, wl_rem, ByteArray.toList_eq], hs, HJ0⟩
   case round =>
     clear HJ0 H0
     obtain ⟨pre, t, b, rfl, rfl, hx, ht, hJs⟩ := hrel
     cases b
     · gi_wp2
       go_end0
       exact ⟨⟨_, rfl⟩, .inl ⟨_, by have := hx.out; unfold rem at this; rw [if_neg (by decide), List.append_nil] at this; exact this.symm, hJs.out⟩⟩
     · have C := Lib.hid (mcut 32 t wr (by omega))
       have h2 := kcut_yes (c := 32) (s := t)
       have hk1 : (k1 32 t).size ≤ 1000 := by
         show (bO _).size ≤ 1000
         rw [bO_size]
         exact Nat.le_trans (k_len 32 t.data.toList).1 ht
       obtain ⟨y, hy⟩ : ∃ y : WS, y.1 = k1 32 t := ⟨⟨_, hk1⟩, rfl⟩
       clear hk1
       have hx2 : Hid (wl s.data.toList = (pre ++ [y]).map (·.1) ++ rem (kH 32 t.data.toList) (k2 32 t).data.toList) := by
         show _ = _
         have := hx.out
         unfold rem at this ⊢
         rw [if_pos rfl, wsp_eq] at this
         rw [this, List.map_append, List.map_singleton, hy, List.append_assoc, List.singleton_append, show (k2 32 t).data.toList = kB 32 t.data.toList from bO_data _]
         rfl
       have hlen := Lib.hid (show pre.length < (wl s.data.toList).length by rw [hx2.out, List.length_append, List.length_map, List.length_append, List.length_singleton]; omega)
       have HYk := Lib.hid (fun W1 (h : J pre W1) => HY.out pre y W1 h hlen.out)
       have hk2 : (k2 32 t).size ≤ 1000 := by
         show (bO _).size ≤ 1000
         rw [bO_size]
         exact Nat.le_trans (k_len 32 t.data.toList).2 ht
       have HM : Hid (wleft (.string (k2 32 t)) (.bool (kH 32 t.data.toList)) < wleft (.string t) (.bool true)) := by
         show _ < t.size + 1
         cases hh : kH 32 t.data.toList
         · exact Nat.succ_pos _
         · show (k2 32 t).size + 1 < t.size + 1
           have := kB_lt hh
           show (bO _).size + 1 < _
           rw [bO_size]
           have e : t.data.toList.length = t.size := rfl
           omega
       clear hx h2
       rw [← hy] at C
       clear hy
       generalize k2 32 t = x2 at *
       generalize kH 32 t.data.toList = b2 at *
       gi_wp2_with fail
       refine ⟨trivial, ?_⟩
       refine (callsIn_wide.2 C.out).mono ?_
       rintro e w' ⟨rfl, b1⟩
       have hJ2 := Lib.hid (HJ.out pre wr w' none hJs.out (mgrown b1) (fun r e => by cases e))
       clear b1 C hJs
       obtain ⟨fn, tmps, assign, body, hy2, hR⟩ := HYk.out w' hJ2.out
       have HR := Lib.hid hR; clear hR
       gi_wp2
       refine HR.out.mono ?_
       clear HR
       rintro e W3 (⟨rfl, hJ3, hk3⟩ | ⟨rfl, hJx3⟩)
       · gi_wp2
         go_roundw
         case rel => exact ⟨_, x2, b2, rfl, rfl, hx2, hk2, hJ3⟩
         case measure => exact HM.out
       · gi_wp2
         refine bodyPost_ret (results_none rfl _ _ _) rfl ?_
         exact ⟨⟨_, rfl⟩, .inr ⟨_, ⟨_, hx2.out⟩, hJx3⟩⟩
theorem words_stops (n : Nat) (hn : 1 ≤ n) (s : ByteArray) (hs : s.size ≤ 1000) (Bs N0 : Nat) (w : World) (hBs : Bs < w.heap.size) (hc : w.cell? ⟨Bs, 0, none⟩ = some (.string s)) :
   SeqStopsK Fence.wide n Tryz.prog 115 #[.pointer (some ⟨Bs, 0, none⟩)] (fun x : WS => #[Value.string x.1]) (Below N0) (fun ys => ys.map (·.1) = wl s.data.toList) (fun pre => ∃ rest, wl s.data.toList = pre.map (·.1) ++ rest) (wl s.data.toList).length w := fun l J Jx W hW hJ _ hY h0 =>
 words1_in n hn l Bs N0 s hs J Jx hY W hJ ((hW.cell (p := ⟨Bs, 0, none⟩) hBs).trans hc) h0
end
end Go.Proofs.YtkjhaengllpaoaaGreatDoor.T
namespace Go.Proofs.YtkjhaengllpaoaaGreatDoor.T
open Go.Proofs.YtkjhaengllpaoaaGreatDoor Go Go.RowKit Go.Shelf
def isPr (c : UInt8) : Bool := 33 ≤ c && c ≤ 126
theorem isPr_iff (c : UInt8) : isPr c = true ↔ 33 ≤ c.toNat ∧ c.toNat ≤ 126 := by
 simp [isPr, UInt8.le_iff_toNat_le]
theorem mprt (c : UInt8) (w : World) : Calls Tryz.prog 65 #[.int .u8 c.toNat] w fun e W' => e = .returned (.bool (isPr c)) ∧ w = W' := by
 by_cases h1 : (33 : Int) ≤ c.toNat
 · by_cases h2 : (c.toNat : Int) ≤ 126
   · rw [show isPr c = true by rw [isPr_iff]; omega]
     go_enter Tryz.func65, Tryz.ntmps65
     go_wp2
     go_ret
     exact ⟨rfl, rfl⟩
   · rw [show isPr c = false by rw [← Bool.not_eq_true, isPr_iff]; omega]
     go_enter Tryz.func65, Tryz.ntmps65
     go_wp2
     go_ret
     exact ⟨rfl, rfl⟩
 · rw [show isPr c = false by rw [← Bool.not_eq_true, isPr_iff]; omega]
   go_enter Tryz.func65, Tryz.ntmps65
   go_wp2
   go_ret
   exact ⟨rfl, rfl⟩
theorem mcprt (s : ByteArray) (w : World) (hs : s.size ≤ 100000) :
   Calls Tryz.prog 64 #[.string s, .func (.func 65) #[] #[]] w fun e W' => e = .returned (.bool (allB isPr s.data.toList)) ∧ Below w.heap.size w W' :=
 (mcons_core 65 isPr s w hs (enters_of Tryz.func65 (by kernel_rfl) rfl) (fun c => mprt c w)).mono fun e W' h => ⟨h.1, by rw [← h.2]; exact Below.refl _ _⟩
theorem infoS : (Tryz.prog.info? 9).map (fun i => (i.zero, i.size, i.bytes)) = some (some (.string ⟨#[]⟩), 1, 16) := by kernel_rfl
section
attribute [local go_sem] Oper.semAt_some
theorem Words_in (s : ByteArray) (w : World) (hs : s.size ≤ 1000) :
   Calls Tryz.prog 25 #[.string s] w fun e W' => Below w.heap.size w W' ∧ ((e = .returned (.tuple #[.slice none 0 0, .int .i64 3]) ∧ ∃ x ∈ wl s.data.toList, allB isPr x.data.toList = false) ∨
     ∃ v, e = .returned (.tuple #[v, .int .i64 0]) ∧ (∀ x ∈ wl s.data.toList, allB isPr x.data.toList = true) ∧ W'.ownsRow w.heap.size 9 1 v (wl s.data.toList).length ((wl s.data.toList).map Value.string)) := by
 refine (callsIn_wide (n := 9)).1 ?_
 obtain ⟨i0, hi, hz0, hz1, hz2⟩ := info_parts infoS
 have s1 : ¬ (65536 : Int) < s.size := by omega
 refine callsIn_of_wp_marks Tryz.func25 rfl trivial ?_ rfl
 simp only [Tryz.ntmps25, List.size_toArray, List.length_cons, List.length_nil, Nat.reduceAdd, Nat.reduceSub, Array.replicate_succ, Array.replicate_zero, List.push_toArray, List.append_toArray, List.nil_append, List.cons_append]
 gi_wp2_with fail
 refine ⟨trivial, ?_⟩
 refine (callsIn_wide.2 (words_fn _ _)).mono ?_
 rintro e W1 ⟨rfl, rfl⟩
 gi_wp2
 have b0 := (((Boxed.new w 45 (.slice none 0 0)).alloc (.cells #[.int .i64 0] 25)).alloc (.cells #[.slice none 0 0] 45)).alloc (.cells #[.string s] 9)
 have b1 := ((Boxed.new (w.alloc (.cells #[.slice none 0 0] 45)) 25 (.int .i64 0)).alloc (.cells #[.slice none 0 0] 45)).alloc (.cells #[.string s] 9)
 have b2 := (Boxed.new ((w.alloc (.cells #[.slice none 0 0] 45)).alloc (.cells #[.int .i64 0] 25)) 45 (.slice none 0 0)).alloc (.cells #[.string s] 9)
 have b3 := Boxed.new (((w.alloc (.cells #[.slice none 0 0] 45)).alloc (.cells #[.int .i64 0] 25)).alloc (.cells #[.slice none 0 0] 45)) 9 (.string s)
 simp only [World.size_alloc] at b1 b2 b3
 have hB0 : Below w.heap.size w ((((w.alloc (.cells #[.slice none 0 0] 45)).alloc (.cells #[.int .i64 0] 25)).alloc (.cells #[.slice none 0 0] 45)).alloc (.cells #[.string s] 9)) := ((((Below.refl _ w).alloc (Nat.le_refl _) _).alloc (by simp) _).alloc (by simp; omega) _).alloc (by simp; omega) _
 have hsz : ((((w.alloc (.cells #[.slice none 0 0] 45)).alloc (.cells #[.int .i64 0] 25)).alloc (.cells #[.slice none 0 0] 45)).alloc (.cells #[.string s] 9)).heap.size = w.heap.size + 1 + 1 + 1 + 1 := by simp
 generalize ((((w.alloc (.cells #[.slice none 0 0] 45)).alloc (.cells #[.int .i64 0] 25)).alloc (.cells #[.slice none 0 0] 45)).alloc (.cells #[.string s] 9)) = W5 at *
 have HB := Lib.hid (And.intro hB0 (And.intro hsz (And.intro b0 (And.intro b1 (And.intro b2 b3))))); clear b0 b1 b2 b3 hB0 hsz
 refine wpIn_rangeFunc_ownG rfl (by omega) (gf := 115) (lb := #[.pointer (some ⟨w.heap.size + 1 + 1 + 1, 0, none⟩)]) rfl trivial (enters_of Tryz.func115 (by kernel_rfl) rfl)
   (words_stops (9 - 1) (by omega) s hs (w.heap.size + 1 + 1 + 1) w.heap.size W5 (by rw [HB.out.2.1]; omega) HB.out.2.2.2.2.2.cell) belowK_t (belowK_b (by rw [HB.out.2.1]; omega)) (Below.refl _ _) (fun _ => rfl)
   (fun pre W => (((Boxed W w.heap.size 45 (.slice none 0 0) ∧ Boxed W (w.heap.size + 1) 25 (.int .i64 0)) ∧ ∃ v, Boxed W (w.heap.size + 1 + 1) 45 v ∧ W.ownsRow w.heap.size 9 1 v pre.length (pre.map fun x : WS => Value.string x.1) ∧ True) ∧ ∀ x ∈ pre, allB isPr x.1.data.toList = true) ∧ Below w.heap.size w W)
   (fun c pre W => ((c = .ret ∧ ∃ x ∈ pre, allB isPr x.1.data.toList = false) ∧ (Boxed W w.heap.size 45 (.slice none 0 0) ∧ Boxed W (w.heap.size + 1) 25 (.int .i64 3))) ∧ Below w.heap.size w W)
   (OwnFrom.and (OwnFrom.and (OwnFrom.and (OwnFrom.and (Own.from (boxed_own _ _ (fun _ => .slice none 0 0)) _) (Own.from (boxed_own _ _ (fun _ => .int .i64 0)) _)) (Own.from (holdsRow_own w.heap.size (w.heap.size + 1 + 1) 45 9 1 (fun pre : List WS => pre.length) (fun pre => pre.map fun x : WS => Value.string x.1) (fun _ _ => True)) _)) (ownFrom_pure _ _)) (ownFrom_below (Nat.le_refl _) (by rw [HB.out.2.1]; omega)))
   (fun c => OwnFrom.and (OwnFrom.and (ownFrom_pure _ _) (OwnFrom.and (Own.from (boxed_own _ _ (fun _ => .slice none 0 0)) _) (Own.from (boxed_own _ _ (fun _ => .int .i64 3)) _))) (ownFrom_below (Nat.le_refl _) (by rw [HB.out.2.1]; omega)))
   ⟨⟨⟨⟨HB.out.2.2.1, HB.out.2.2.2.1⟩, _, HB.out.2.2.2.2.1, World.ownsRow_nil _ _ _ _, trivial⟩, fun _ h => by cases h⟩, HB.out.1⟩
   (fun x => { tmps := #[.string s, undef, .pointer (some ⟨w.heap.size, 0, none⟩), .pointer (some ⟨w.heap.size + 1, 0, none⟩), .pointer (some ⟨w.heap.size + 1 + 1, 0, none⟩), .string x.1, .string s, .int .i64 s.size, .bool false, .string s, .func (.func 115) #[] #[.pointer (some ⟨w.heap.size + 1 + 1 + 1, 0, none⟩)], .string x.1, undef, undef, undef, undef, undef, undef, undef, undef], defers := [] }) ?assign ?body ?done ?stop
 case assign =>
   intro l x W K hK
   gi_wp2
   exact hK
 case body =>
   rintro l pre ⟨x, hx⟩ W ⟨⟨⟨⟨h0, h1⟩, ⟨v, hv, hrow, _⟩⟩, hp⟩, hB⟩ hlt
   have C := mcprt x W (by omega)
   have HP := Lib.hid (show ∀ c, allB isPr x.data.toList = c → allB isPr x.data.toList = c from fun _ h => h)
   cases hc : allB isPr x.data.toList
   · rw [hc] at C
     have HC := Lib.hid (And.intro C hc); clear C hc
     have HH := Lib.hid (And.intro h0 (And.intro h1 hB)); clear h0 h1 hB hv hrow hp
     gi_wp2_with fail
     refine ⟨trivial, ?_⟩
     refine (CallsIn.inRound l (callsIn_wide.2 HC.out.1)).mono ?_
     rintro e w' ⟨rfl, b⟩
     have g := mgrown b
     have HG := Lib.hid (And.intro (HH.out.1.kept g (by simp)) (And.intro (HH.out.2.1.kept g (by simp)) (And.intro (KeepsFrom.of_grownBy (B := W5.heap.size) g (fun j e => by cases e)) b)))
     clear g b
     have hc0 := HG.out.1.cell
     have hc1 := HG.out.2.1.cell
     have hf0 := HG.out.1.frozen
     have hf1 := HG.out.2.1.frozen
     gi_wp2
     refine ⟨HG.out.2.2.1.trans (((KeepsOthers.setCell _ _ _).from _).trans ((KeepsOthers.setCell _ _ _).from _)), ⟨⟨⟨rfl, ⟨x, hx⟩, List.mem_append_right _ (List.mem_singleton.2 rfl), HC.out.2⟩, ⟨(HG.out.1.set _).other (by omega) _, (HG.out.2.1.other (by omega) _).set _⟩⟩, ((HH.out.2.2.trans (HG.out.2.2.2.mono HH.out.2.2.size)).setCell (p := ⟨w.heap.size, 0, none⟩) (Nat.le_refl _) _).setCell (p := ⟨w.heap.size + 1, 0, none⟩) (by show w.heap.size ≤ w.heap.size + 1; omega) _⟩⟩
   · rw [hc] at C
     have HC := Lib.hid (And.intro C hc); clear C hc
     have hpl : pre.length ≤ 1001 := by have := wl_len s.data.toList; have e : s.data.toList.length = s.size := rfl; omega
     have HX := Lib.hid (And.intro hp hlt); clear hp hlt
     have HH := Lib.hid (And.intro h0 (And.intro h1 (And.intro hB (And.intro hv hrow)))); clear h0 h1 hB hv hrow
     gi_wp2_with fail
     refine ⟨trivial, ?_⟩
     refine (CallsIn.inRound l (callsIn_wide.2 HC.out.1)).mono ?_
     rintro e w' ⟨rfl, b⟩
     have g := mgrown b
     have h0 := HH.out.1.kept g (by simp)
     have h1 := HH.out.2.1.kept g (by simp)
     have hv := HH.out.2.2.2.1.kept g (by simp)
     have hrow := HH.out.2.2.2.2.kept g (by
       rcases HH.out.2.2.2.2.2 with ⟨rfl, _⟩ | ⟨g', cap, cur, rfl, _⟩
       · exact .inl rfl
       · exact .inr (by simp [Value.ownBlock]))
     have KP := Lib.hid (KeepsFrom.of_grownBy (B := W5.heap.size) g (fun j e => by cases e))
     have hB := HH.out.2.2.1.trans (b.mono HH.out.2.2.1.size)
     have HBW := Lib.hid (b.mono HH.out.2.2.1.size)
     clear g b
     have hcv := hv.cell
     gi_wp2_with (gi_at_builtin; refine wpListIn_append_own _ rfl _ _ 45 rfl w.heap.size 9 i0 (.string ⟨#[]⟩) 1 16 Tryz.underlying45 hi hz0 hz1 hz2 rfl (by decide) _ _ _ rfl (hrow.alloc _) ⟨w'.heap.size, 0, none⟩ 1 1 [.string x] rfl rfl (cell_one_new _ _ _) (by simp [Value.oneCell']) (by unfold maxLen; omega) (by omega) (by have := hB.size; simp; omega) ?_; intro v' w1 hown' hgrow _; have k0 := ((h0.alloc _).kept hgrow (h0.not_row (by decide) hrow)).other (B' := w.heap.size + 1 + 1) (by omega) v'; have k1 := ((h1.alloc _).kept hgrow (h1.not_row (by decide) hrow)).other (B' := w.heap.size + 1 + 1) (by omega) v'; obtain ⟨g', cap', rfl⟩ := ownsRow_succ hown'; obtain ⟨hv1, hv2, hr2, hk2, hb2⟩ := hv.appended (by decide) hrow hB.size (by omega) hown' hgrow; have hc1 := hv1.cell; have hf1 := hv1.frozen)
     refine ⟨KP.out.trans (hk2.from _), HBW.out.trans hb2, ⟨⟨⟨⟨k0, k1⟩, _, hv2, by simpa using hr2, trivial⟩, fun y hy => (List.mem_append.1 hy).elim (HX.out.1 y) (fun e => by rw [List.mem_singleton.1 e]; exact HC.out.2)⟩, hB.trans hb2⟩⟩
 case done =>
   rintro D ys W hD hys ⟨⟨⟨⟨h0, h1⟩, ⟨v, hv, hrow, _⟩⟩, hp⟩, hB⟩ hK
   have hmx : Tryz.prog.follows .mixedOrders = true := by kernel_rfl
   have HYS := Lib.hid (And.intro hys hp); clear hys hp
   have HD := Lib.hid hD; clear hD
   have hvs : ∃ q m c, v = .slice q m c := by
     rcases hrow.2 with ⟨rfl, _⟩ | ⟨g', cap, cur, rfl, _⟩
     · exact ⟨_, _, _, rfl⟩
     · exact ⟨_, _, _, rfl⟩
   obtain ⟨q, m, c, rfl⟩ := hvs
   have HH := Lib.hid (And.intro h0 (And.intro h1 (And.intro hB (And.intro hv (And.intro hrow hK))))); clear hB hrow hK
   have hc0 := h0.cell
   have hc1 := h1.cell
   have hcv := hv.cell
   have hf0 := h0.frozen
   have hf1 := h1.frozen
   clear h0 h1 hv
   gi_wp2
   have g0 := (HH.out.1.set (.slice q m c)).other (B' := w.heap.size + 1) (by omega) (.int .i64 0)
   have g1 := (HH.out.2.1.other (B' := w.heap.size) (by omega) (.slice q m c)).set (.int .i64 0)
   have hr := (HH.out.2.2.2.2.1.kept (grownBy_setCell' W w.heap.size (.slice q m c)) (.inr (HH.out.1.not_row (by decide) HH.out.2.2.2.2.1).symm)).kept (grownBy_setCell' _ (w.heap.size + 1) (.int .i64 0)) (.inr (HH.out.2.1.not_row (by decide) HH.out.2.2.2.2.1).symm)
   have hK' := ((KeepsOthers.setCell W ⟨w.heap.size, 0, none⟩ (.slice q m c)).trans (KeepsOthers.setCell _ ⟨w.heap.size + 1, 0, none⟩ (.int .i64 0))).same D _ HH.out.2.2.2.2.2 rfl
   have hBB := (HH.out.2.2.1.setCell (p := ⟨w.heap.size, 0, none⟩) (Nat.le_refl _) (.slice q m c)).setCell (p := ⟨w.heap.size + 1, 0, none⟩) (by show w.heap.size ≤ w.heap.size + 1; omega) (.int .i64 0)
   have k0 := g0.cell
   have k1 := g1.cell
   refine ⟨by simp, .inl ⟨_, _, rfl, run_takeDeferred hK', ?_⟩⟩
   have hc5 := cell_kept k0 (grownBy_putObj' _ D (.deferred none)) (fun r e => by cases e; exact ⟨_, hK', rfl⟩)
   have hc6 := cell_kept k1 (grownBy_putObj' _ D (.deferred none)) (fun r e => by cases e; exact ⟨_, hK', rfl⟩)
   have hr2 := ownsRow_putObj hr (.deferred none) hK' rfl
   have hyl : ys.length = (wl s.data.toList).length := by rw [← HYS.out.1, List.length_map]
   have hym : (ys.map fun x : WS => Value.string x.1) = (wl s.data.toList).map Value.string := by rw [← HYS.out.1, List.map_map]; rfl
   rw [hyl, hym] at hr2
   refine ⟨.tuple #[.slice q m c, .int .i64 0], ?_, hBB.trans (belowK_b (w := w) (Nat.le_refl _) _ D _ _ (by have := HD.out; rw [HB.out.2.1] at this; omega) hK' rfl rfl), .inr ⟨_, rfl, fun x hx => ?_, hr2⟩⟩
   · simp [results, Tryz.f25, go_sem, hc5, hc6]
   · rw [← HYS.out.1] at hx
     obtain ⟨y, hy, rfl⟩ := List.mem_map.1 hx
     exact HYS.out.2 y hy
 case stop =>
   rintro D c pre W hD ⟨rest, hpre⟩ ⟨⟨⟨rfl, x, hx, hbad⟩, ⟨h0, h1⟩⟩, hB⟩ hK
   have hc0 := h0.cell
   have hc1 := h1.cell
   have HS := Lib.hid (show ∃ x ∈ wl s.data.toList, allB isPr x.data.toList = false from ⟨x.1, by rw [hpre]; exact List.mem_append_left _ (List.mem_map.2 ⟨x, hx, rfl⟩), hbad⟩)
   have HH := Lib.hid (And.intro hB (And.intro hK hD))
   clear hpre hx hbad hB hD
   gi_wp2
   refine ⟨by simp, .inl ⟨_, _, rfl, run_takeDeferred hK, ?_⟩⟩
   have hc5 := cell_kept hc0 (grownBy_putObj' _ D (.deferred none)) (fun r e => by cases e; exact ⟨_, hK, rfl⟩)
   have hc6 := cell_kept hc1 (grownBy_putObj' _ D (.deferred none)) (fun r e => by cases e; exact ⟨_, hK, rfl⟩)
   refine ⟨.tuple #[.slice none 0 0, .int .i64 3], ?_, HH.out.1.trans (belowK_b (w := w) (Nat.le_refl _) W D _ _ (by have := HH.out.2.2; rw [HB.out.2.1] at this; omega) hK rfl rfl), .inl ⟨rfl, HS.out⟩⟩
   simp [results, Tryz.f25, go_sem, hc5, hc6]
end
end Go.Proofs.YtkjhaengllpaoaaGreatDoor.T
namespace Go.Proofs
open Go.Shelf
def Tryz.lays159_ren : Go.Shelf.Ren := ⟨fun | 159 => 35 | 165 => 47 | 166 => 48 | 167 => 78 | 169 => 50 | 230 => 79 | 204 => 80 | 240 => 95 | 241 => 96 | 197 => 118 | 118 => 121 | 168 => 122 | 270 => 123 | 262 => 124 | 276 => 139 | 277 => 140 | 260 => 156 | 242 => 159 | 313 => 160 | 278 => 181 | 274 => 182 | 275 => 183 | n => n, fun | 9 => 9 | 4 => 4 | 3 => 3 | 5 => 5 | 72 => 68 | 0 => 0 | 76 => 72 | 75 => 71 | 107 => 108 | 70 => 65 | 20 => 20 | 37 => 66 | 127 => 127 | 21 => 21 | 105 => 153 | 164 => 168 | 162 => 188 | 203 => 186 | 119 => 207 | 46 => 62 | 139 => 210 | 138 => 209 | 51 => 121 | 160 => 211 | 208 => 231 | 206 => 229 | 80 => 75 | n => n, fun | 13 => 1 | 3 => 2 | 4 => 3 | n => n⟩
theorem Tryz.lays159 : Go.Proofs.Lays.n159 Tryz.prog Tryz.lays159_ren := {
 mixed := by kernel_rfl
 f118 := Tryz.func121.trans (congrArg some (by kernel_rfl))
 f159 := Tryz.func35.trans (congrArg some (by kernel_rfl))
 f165 := Tryz.func47.trans (congrArg some (by kernel_rfl))
 f166 := Tryz.func48.trans (congrArg some (by kernel_rfl))
 f167 := Tryz.func78.trans (congrArg some (by kernel_rfl))
 f168 := Tryz.func122.trans (congrArg some (by kernel_rfl))
 f169 := Tryz.func50.trans (congrArg some (by kernel_rfl))
 f197 := Tryz.func118.trans (congrArg some (by kernel_rfl))
 f204 := Tryz.func80.trans (congrArg some (by kernel_rfl))
 f230 := Tryz.func79.trans (congrArg some (by kernel_rfl))
 f240 := Tryz.func95.trans (congrArg some (by kernel_rfl))
 f241 := Tryz.func96.trans (congrArg some (by kernel_rfl))
 f242 := Tryz.func159.trans (congrArg some (by kernel_rfl))
 f260 := Tryz.func156.trans (congrArg some (by kernel_rfl))
 f262 := Tryz.func124.trans (congrArg some (by kernel_rfl))
 f270 := Tryz.func123.trans (congrArg some (by kernel_rfl))
 f274 := Tryz.func182.trans (congrArg some (by kernel_rfl))
 f275 := Tryz.func183.trans (congrArg some (by kernel_rfl))
 f276 := Tryz.func139.trans (congrArg some (by kernel_rfl))
 f277 := Tryz.func140.trans (congrArg some (by kernel_rfl))
 f278 := Tryz.func181.trans (congrArg some (by kernel_rfl))
 f313 := Tryz.func160.trans (congrArg some (by kernel_rfl))
 t0 := Tryz.underlying0
 a0 := Tryz.isAgg0
 z0 := Tryz.sizeOf0
 v0 := Tryz.zeroValue0
 t3 := Tryz.underlying3
 a3 := Tryz.isAgg3
 z3 := Tryz.sizeOf3
 v3 := Tryz.zeroValue3
 t4 := Tryz.underlying4
 a4 := Tryz.isAgg4
 z4 := Tryz.sizeOf4
 v4 := Tryz.zeroValue4
 t5 := Tryz.underlying5
 a5 := Tryz.isAgg5
 z5 := Tryz.sizeOf5
 v5 := Tryz.zeroValue5
 t9 := Tryz.underlying9
 a9 := Tryz.isAgg9
 z9 := Tryz.sizeOf9
 v9 := Tryz.zeroValue9
 t20 := Tryz.underlying20
 a20 := Tryz.isAgg20
 z20 := Tryz.sizeOf20
 v20 := Tryz.zeroValue20
 t21 := Tryz.underlying21
 a21 := Tryz.isAgg21
 z21 := Tryz.sizeOf21
 v21 := Tryz.zeroValue21
 t37 := Tryz.underlying66
 a37 := Tryz.isAgg66
 z37 := Tryz.sizeOf66
 v37 := Tryz.zeroValue66
 t46 := Tryz.underlying62
 a46 := Tryz.isAgg62
 z46 := Tryz.sizeOf62
 v46 := Tryz.zeroValue62
 t51 := Tryz.underlying121
 a51 := Tryz.isAgg121
 z51 := Tryz.sizeOf121
 v51 := Tryz.zeroValue121
 t70 := Tryz.underlying65
 a70 := Tryz.isAgg65
 z70 := Tryz.sizeOf65
 v70 := Tryz.zeroValue65
 t72 := Tryz.underlying68
 a72 := Tryz.isAgg68
 z72 := Tryz.sizeOf68
 v72 := Tryz.zeroValue68
 t75 := Tryz.underlying71
 a75 := Tryz.isAgg71
 z75 := Tryz.sizeOf71
 v75 := Tryz.zeroValue71
 t76 := Tryz.underlying72
 a76 := Tryz.isAgg72
 z76 := Tryz.sizeOf72
 v76 := Tryz.zeroValue72
 t105 := Tryz.underlying153
 a105 := Tryz.isAgg153
 z105 := Tryz.sizeOf153
 v105 := Tryz.zeroValue153
 t107 := Tryz.underlying108
 a107 := Tryz.isAgg108
 z107 := Tryz.sizeOf108
 v107 := Tryz.zeroValue108
 t119 := Tryz.underlying207
 a119 := Tryz.isAgg207
 z119 := Tryz.sizeOf207
 t127 := Tryz.underlying127
 a127 := Tryz.isAgg127
 z127 := Tryz.sizeOf127
 v127 := Tryz.zeroValue127
 t138 := Tryz.underlying209
 a138 := Tryz.isAgg209
 z138 := Tryz.sizeOf209
 v138 := Tryz.zeroValue209
 t139 := Tryz.underlying210
 a139 := Tryz.isAgg210
 z139 := Tryz.sizeOf210
 v139 := Tryz.zeroValue210
 t160 := Tryz.underlying211
 a160 := Tryz.isAgg211
 z160 := Tryz.sizeOf211
 v160 := Tryz.zeroValue211
 t162 := Tryz.underlying188
 a162 := Tryz.isAgg188
 z162 := Tryz.sizeOf188
 v162 := Tryz.zeroValue188
 t164 := Tryz.underlying168
 a164 := Tryz.isAgg168
 z164 := Tryz.sizeOf168
 v164 := Tryz.zeroValue168
 t203 := Tryz.underlying186
 a203 := Tryz.isAgg186
 z203 := Tryz.sizeOf186
 v203 := Tryz.zeroValue186
 t206 := Tryz.underlying229
 a206 := Tryz.isAgg229
 z206 := Tryz.sizeOf229
 v206 := Tryz.zeroValue229
 t208 := Tryz.underlying231
 a208 := Tryz.isAgg231
 z208 := Tryz.sizeOf231
 v208 := Tryz.zeroValue231
 g3 := by kernel_rfl
 g4 := by kernel_rfl
 g13 := by kernel_rfl }
theorem Tryz.Builder_Extra_159 : Builder.Extra Tryz.prog Tryz.lays159_ren := {
 sizeBuilder := by kernel_rfl
 liesBuilder := by kernel_rfl
 t5 := Tryz.underlying5
 a5 := Tryz.isAgg5
 z5 := Tryz.sizeOf5
 v5 := Tryz.zeroValue5
 infoByte := by kernel_rfl
 cellsByte := by kernel_rfl
 sizeByte := by kernel_rfl
 neB5 := by decide }
open Go.RowKit in
theorem Tryz.strings_ToLower_ascii (s : ByteArray) (w : World) (hs : s.size ≤ 140737488355328) (hascii : ∀ (j : Nat) (b : UInt8), s.data.toList[j]? = some b → b.toNat < 128) :
   Calls Tryz.prog 35 #[.string s] w fun e w' => e = .returned (.string ⟨(Lib.toLowerA s.data.toList).toArray⟩) ∧ Below w.heap.size w w' := Any.strings_ToLower_ascii Tryz.lays159 Tryz.Builder_Extra_159 s w hs hascii
def Tryz.lays156_ren : Go.Shelf.Ren := ⟨fun | 156 => 31 | 165 => 47 | 166 => 48 | 169 => 50 | 240 => 95 | 241 => 96 | 276 => 139 | 277 => 140 | n => n, fun | 31 => 45 | 9 => 9 | 3 => 3 | 4 => 4 | 0 => 0 | 20 => 20 | 72 => 68 | 76 => 72 | 70 => 65 | 37 => 66 | 75 => 71 | 127 => 127 | 164 => 168 | 5 => 5 | 80 => 75 | n => n, fun | n => n⟩
theorem Tryz.lays156 : Go.Proofs.Lays.n156 Tryz.prog Tryz.lays156_ren := {
 mixed := by kernel_rfl
 f156 := Tryz.func31.trans (congrArg some (by kernel_rfl))
 f165 := Tryz.func47.trans (congrArg some (by kernel_rfl))
 f166 := Tryz.func48.trans (congrArg some (by kernel_rfl))
 f169 := Tryz.func50.trans (congrArg some (by kernel_rfl))
 f240 := Tryz.func95.trans (congrArg some (by kernel_rfl))
 f241 := Tryz.func96.trans (congrArg some (by kernel_rfl))
 f276 := Tryz.func139.trans (congrArg some (by kernel_rfl))
 f277 := Tryz.func140.trans (congrArg some (by kernel_rfl))
 t0 := Tryz.underlying0
 a0 := Tryz.isAgg0
 z0 := Tryz.sizeOf0
 v0 := Tryz.zeroValue0
 t3 := Tryz.underlying3
 a3 := Tryz.isAgg3
 z3 := Tryz.sizeOf3
 v3 := Tryz.zeroValue3
 t4 := Tryz.underlying4
 a4 := Tryz.isAgg4
 z4 := Tryz.sizeOf4
 v4 := Tryz.zeroValue4
 t9 := Tryz.underlying9
 a9 := Tryz.isAgg9
 z9 := Tryz.sizeOf9
 v9 := Tryz.zeroValue9
 t20 := Tryz.underlying20
 a20 := Tryz.isAgg20
 z20 := Tryz.sizeOf20
 v20 := Tryz.zeroValue20
 t31 := Tryz.underlying45
 a31 := Tryz.isAgg45
 z31 := Tryz.sizeOf45
 v31 := Tryz.zeroValue45
 t37 := Tryz.underlying66
 a37 := Tryz.isAgg66
 z37 := Tryz.sizeOf66
 v37 := Tryz.zeroValue66
 t70 := Tryz.underlying65
 a70 := Tryz.isAgg65
 z70 := Tryz.sizeOf65
 v70 := Tryz.zeroValue65
 t72 := Tryz.underlying68
 a72 := Tryz.isAgg68
 z72 := Tryz.sizeOf68
 v72 := Tryz.zeroValue68
 t75 := Tryz.underlying71
 a75 := Tryz.isAgg71
 z75 := Tryz.sizeOf71
 v75 := Tryz.zeroValue71
 t76 := Tryz.underlying72
 a76 := Tryz.isAgg72
 z76 := Tryz.sizeOf72
 v76 := Tryz.zeroValue72
 t127 := Tryz.underlying127
 a127 := Tryz.isAgg127
 z127 := Tryz.sizeOf127
 v127 := Tryz.zeroValue127
 t164 := Tryz.underlying168
 a164 := Tryz.isAgg168
 z164 := Tryz.sizeOf168
 v164 := Tryz.zeroValue168 }
theorem Tryz.Builder_Extra_156 : Builder.Extra Tryz.prog Tryz.lays156_ren := {
 sizeBuilder := by kernel_rfl
 liesBuilder := by kernel_rfl
 t5 := Tryz.underlying5
 a5 := Tryz.isAgg5
 z5 := Tryz.sizeOf5
 v5 := Tryz.zeroValue5
 infoByte := by kernel_rfl
 cellsByte := by kernel_rfl
 sizeByte := by kernel_rfl
 neB5 := by decide }
open Go.RowKit in
theorem Tryz.strings_Join_none (a : Option Addr) (c : Nat) (sep : ByteArray) (w : World) :
   Calls Tryz.prog 31 #[.slice a 0 c, .string sep] w fun e w' => e = .returned (.string ⟨#[]⟩) ∧ w' = w := Any.strings_Join_none Tryz.lays156 Tryz.Builder_Extra_156 a c sep w
open Go.RowKit in
theorem Tryz.strings_Join (bk o c : Nat) (xs : List ByteArray) (sep : ByteArray) (w : World) (hcells : ∀ (j : Nat) x, xs[j]? = some x → w.cell? ⟨bk, o + j, none⟩ = some (.string x)) (hbk : bk < w.heap.size) (hN : xs.length ≤ 140737488355328) (hcap : xs.length ≤ c) (hlen : (Lib.join (xs.map (·.data.toList)) sep.data.toList).length ≤ 140737488355328) :
   Calls Tryz.prog 31 #[.slice (some ⟨bk, o, none⟩) xs.length c, .string sep] w fun e w' => e = .returned (.string ⟨(Lib.join (xs.map (·.data.toList)) sep.data.toList).toArray⟩) ∧ Below w.heap.size w w' := Any.strings_Join Tryz.lays156 Tryz.Builder_Extra_156 bk o c xs sep w hcells hbk hN hcap hlen
def Tryz.lays144_ren : Go.Shelf.Ren := ⟨fun | 144 => 20 | 143 => 51 | 219 => 92 | 217 => 135 | 225 => 136 | 224 => 137 | 267 => 138 | 266 => 165 | 314 => 166 | n => n, fun | 9 => 9 | 4 => 4 | 3 => 3 | 5 => 5 | 46 => 62 | 146 => 122 | 51 => 121 | n => n, fun | 1 => 0 | n => n⟩
theorem Tryz.lays144 : Go.Proofs.Lays.n144 Tryz.prog Tryz.lays144_ren := {
 mixed := by kernel_rfl
 f143 := Tryz.func51.trans (congrArg some (by kernel_rfl))
 f144 := Tryz.func20.trans (congrArg some (by kernel_rfl))
 f217 := Tryz.func135.trans (congrArg some (by kernel_rfl))
 f219 := Tryz.func92.trans (congrArg some (by kernel_rfl))
 f224 := Tryz.func137.trans (congrArg some (by kernel_rfl))
 f225 := Tryz.func136.trans (congrArg some (by kernel_rfl))
 f266 := Tryz.func165.trans (congrArg some (by kernel_rfl))
 f267 := Tryz.func138.trans (congrArg some (by kernel_rfl))
 f314 := Tryz.func166.trans (congrArg some (by kernel_rfl))
 t3 := Tryz.underlying3
 a3 := Tryz.isAgg3
 z3 := Tryz.sizeOf3
 v3 := Tryz.zeroValue3
 t4 := Tryz.underlying4
 a4 := Tryz.isAgg4
 z4 := Tryz.sizeOf4
 v4 := Tryz.zeroValue4
 t5 := Tryz.underlying5
 a5 := Tryz.isAgg5
 z5 := Tryz.sizeOf5
 v5 := Tryz.zeroValue5
 t9 := Tryz.underlying9
 a9 := Tryz.isAgg9
 z9 := Tryz.sizeOf9
 v9 := Tryz.zeroValue9
 t46 := Tryz.underlying62
 a46 := Tryz.isAgg62
 z46 := Tryz.sizeOf62
 v46 := Tryz.zeroValue62
 t51 := Tryz.underlying121
 a51 := Tryz.isAgg121
 z51 := Tryz.sizeOf121
 v51 := Tryz.zeroValue121
 t146 := Tryz.underlying122
 a146 := Tryz.isAgg122
 z146 := Tryz.sizeOf122
 v146 := Tryz.zeroValue122
 g1 := by kernel_rfl }
open Go.RowKit Go.Lib in
theorem Tryz.strings_Contains_one (s : ByteArray) (c : UInt8) (w : World) :
   Calls Tryz.prog 20 #[.string s, .string ⟨#[c]⟩] w fun e w' => e = .returned (.bool (decide (0 ≤ Lib.indexByte s.data.toList c))) ∧ w' = w := Any.strings_Contains_one Tryz.lays144 s c w
open Go.RowKit Go.Lib in
theorem Tryz.strings_Contains (s sub : ByteArray) (m : Int) (w : World) (hs : s.size < 4294967281) (hm : w.cell? ⟨0, 0, none⟩ = some (.int .i64 m)) :
   Calls Tryz.prog 20 #[.string s, .string sub] w fun e w' => e = .returned (.bool (Lib.contains s.data.toList sub.data.toList)) ∧ w' = w := Any.strings_Contains Tryz.lays144 s sub m w hs hm
def Tryz.laysGw17_ren : Go.Shelf.Ren := ⟨fun | 17 => 28 | 15 => 68 | 20 => 116 | n => n, fun | 9 => 9 | 23 => 49 | 4 => 4 | 3 => 3 | 0 => 0 | 21 => 21 | n => n, fun | n => n⟩
theorem Tryz.laysGw17 : Go.Proofs.LaysGw.n17 Tryz.prog Tryz.laysGw17_ren := {
 mixed := by kernel_rfl
 f15 := Tryz.func68.trans (congrArg some (by kernel_rfl))
 f17 := Tryz.func28.trans (congrArg some (by kernel_rfl))
 f20 := Tryz.func116.trans (congrArg some (by kernel_rfl))
 t0 := Tryz.underlying0
 a0 := Tryz.isAgg0
 z0 := Tryz.sizeOf0
 v0 := Tryz.zeroValue0
 i0 := by kernel_rfl
 t3 := Tryz.underlying3
 a3 := Tryz.isAgg3
 z3 := Tryz.sizeOf3
 v3 := Tryz.zeroValue3
 i3 := by kernel_rfl
 t4 := Tryz.underlying4
 a4 := Tryz.isAgg4
 z4 := Tryz.sizeOf4
 v4 := Tryz.zeroValue4
 i4 := by kernel_rfl
 t9 := Tryz.underlying9
 a9 := Tryz.isAgg9
 z9 := Tryz.sizeOf9
 v9 := Tryz.zeroValue9
 i9 := by kernel_rfl
 t21 := Tryz.underlying21
 a21 := Tryz.isAgg21
 z21 := Tryz.sizeOf21
 v21 := Tryz.zeroValue21
 i21 := by kernel_rfl
 t23 := Tryz.underlying49
 a23 := Tryz.isAgg49
 z23 := Tryz.sizeOf49
 v23 := Tryz.zeroValue49
 i23 := by kernel_rfl }
open Go.RowKit Go.Lib in
theorem Tryz.strings_ContainsFunc_grows (g : Nat) (lb : Array Value) (eg : ∀ args w, (callFunc g args).run Tryz.prog w = .ok (.enter g args) w) (p : Nat → Bool) (s : ByteArray) (w : World) (hp : PredGrows Tryz.prog g lb p w) :
   Calls Tryz.prog 28 #[.string s, .func (.func g) #[] lb] w fun e w' => e = .returned (.bool (decide (0 ≤ Lib.idxFunc p true s))) ∧ Below w.heap.size w w' := Any.strings_ContainsFunc_grows Tryz.laysGw17 g lb eg p s w hp
end Go.Proofs
