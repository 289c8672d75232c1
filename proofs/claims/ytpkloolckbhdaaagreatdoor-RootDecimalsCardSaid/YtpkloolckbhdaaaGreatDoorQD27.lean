/- Parts of the proof of the text YtpkloolckbhdaaaGreatDoorQD31. -/
import Derived.Lib.SmallJoins
import Derived.Deep.LoopGhost
import Derived.Test.YtpkloolckbhdaaaGreatDoorQD1
import Derived.Test.YtpkloolckbhdaaaGreatDoorQD18
import Derived.Test.YtpkloolckbhdaaaGreatDoorQD19
import Derived.Test.YtpkloolckbhdaaaGreatDoorQD2
import Derived.Test.YtpkloolckbhdaaaGreatDoorQD21
import Derived.Test.YtpkloolckbhdaaaGreatDoorQD23
import Derived.Test.YtpkloolckbhdaaaGreatDoorQD25
import Derived.Test.YtpkloolckbhdaaaGreatDoorQD26
set_option linter.all false
set_option maxRecDepth 100000
set_option maxHeartbeats 8000000
namespace Go.Proofs.YtpkloolckbhdaaaGreatDoor
open Go.RowKit
theorem differenceL_any (a b c d : Option Int) (w : World) (ha : Lwf a) (hb : Lwf b) (hc : Lwf c) (hd : Lwf d) (ht : Tab w) :
   Calls Tryz.prog 52 #[.agg #[.string (LB a), .int .i64 (LE a), .string (LB b), .int .i64 (LE b)], .agg #[.string (LB c), .int .i64 (LE c), .string (LB d), .int .i64 (LE d)]] w fun e W' => e = .returned (.agg #[.string (LB (opL (· - ·) (opL (· * ·) a d) (opL (· * ·) c b))), .int .i64 (LE (opL (· - ·) (opL (· * ·) a d) (opL (· * ·) c b))), .string (LB (opL (· * ·) b d)), .int .i64 (LE (opL (· * ·) b d))]) ∧ Below w.heap.size w W' := by
 have ct := fun o p W (ho : Lwf o) (hp : Lwf p) (hW : Below w.heap.size w W) => long_times o p W ho hp (ht.next hW)
 have cp := fun o p W (ho : Lwf o) (hp : Lwf p) (hW : Below w.heap.size w W) => long_plus o p W ho hp (ht.next hW)
 have cm := fun o p W (ho : Lwf o) (hp : Lwf p) (hW : Below w.heap.size w W) => long_minus o p W ho hp (ht.next hW)
 have C := Lib.hid (And.intro ct (And.intro cp cm))
 clear ct cp cm ht
 go_enter Tryz.func52, Tryz.ntmps52
 go_wp2
 have hbx : Bxs w w.heap.size [[.string (LB a), .int .i64 (LE a), .string (LB b), .int .i64 (LE b)], [.string (LB c), .int .i64 (LE c), .string (LB d), .int .i64 (LE d)], [.string ⟨#[]⟩, .int .i64 0, .string ⟨#[]⟩, .int .i64 0]] (((w.alloc (.cells #[.string (LB a), .int .i64 (LE a), .string (LB b), .int .i64 (LE b)] 109)).alloc (.cells #[.string (LB c), .int .i64 (LE c), .string (LB d), .int .i64 (LE d)] 109)).alloc (.cells #[.string ⟨#[]⟩, .int .i64 0, .string ⟨#[]⟩, .int .i64 0] 109)) := (((Bxs.nil w w (Below.refl _ _)).push rfl [.string (LB a), .int .i64 (LE a), .string (LB b), .int .i64 (LE b)] 109).push (by simp) [.string (LB c), .int .i64 (LE c), .string (LB d), .int .i64 (LE d)] 109).push (by simp) [.string ⟨#[]⟩, .int .i64 0, .string ⟨#[]⟩, .int .i64 0] 109
 generalize ((w.alloc (.cells #[.string (LB a), .int .i64 (LE a), .string (LB b), .int .i64 (LE b)] 109)).alloc (.cells #[.string (LB c), .int .i64 (LE c), .string (LB d), .int .i64 (LE d)] 109)).alloc (.cells #[.string ⟨#[]⟩, .int .i64 0, .string ⟨#[]⟩, .int .i64 0] 109) = W0 at *
 generalize hk : w.heap.size = k at *
 have HK := Lib.hid hk; clear hk
 have HB := Lib.hid (hbx.next (Below.refl _ _).drew)
 clear hbx
 have e0 := (show _ = some (.string (LB a)) from HB.out.cells 0 _ rfl 0 _ rfl); have e1 := (show _ = some (.int .i64 (LE a)) from HB.out.cells 0 _ rfl 1 _ rfl); have e2 := (show _ = some (.string (LB b)) from HB.out.cells 0 _ rfl 2 _ rfl); have e3 := (show _ = some (.int .i64 (LE b)) from HB.out.cells 0 _ rfl 3 _ rfl); have e4 := (show _ = some (.string (LB c)) from HB.out.cells 1 _ rfl 0 _ rfl); have e5 := (show _ = some (.int .i64 (LE c)) from HB.out.cells 1 _ rfl 1 _ rfl); have e6 := (show _ = some (.string (LB d)) from HB.out.cells 1 _ rfl 2 _ rfl); have e7 := (show _ = some (.int .i64 (LE d)) from HB.out.cells 1 _ rfl 3 _ rfl); have z0 := (show World.cell? _ ⟨k + 1 + 1, 0, none⟩ = some (.string ⟨#[]⟩) from HB.out.cells 2 _ rfl 0 _ rfl); have f0 := (show World.frozen? _ ⟨k + 1 + 1, 0, none⟩ = false from HB.out.frozen 2 (by simp) 0); have z1 := (show World.cell? _ ⟨k + 1 + 1, 1, none⟩ = some (.int .i64 0) from HB.out.cells 2 _ rfl 1 _ rfl); have f1 := (show World.frozen? _ ⟨k + 1 + 1, 1, none⟩ = false from HB.out.frozen 2 (by simp) 1); have z2 := (show World.cell? _ ⟨k + 1 + 1, 2, none⟩ = some (.string ⟨#[]⟩) from HB.out.cells 2 _ rfl 2 _ rfl); have f2 := (show World.frozen? _ ⟨k + 1 + 1, 2, none⟩ = false from HB.out.frozen 2 (by simp) 2); have z3 := (show World.cell? _ ⟨k + 1 + 1, 3, none⟩ = some (.int .i64 0) from HB.out.cells 2 _ rfl 3 _ rfl); have f3 := (show World.frozen? _ ⟨k + 1 + 1, 3, none⟩ = false from HB.out.frozen 2 (by simp) 3)
 go_region_held3 (fun w' => w'.cell? ⟨k, 0, none⟩ = some (.string (LB a)) ∧ w'.cell? ⟨k, 1, none⟩ = some (.int .i64 (LE a)) ∧ w'.cell? ⟨k, 2, none⟩ = some (.string (LB b)) ∧ w'.cell? ⟨k, 3, none⟩ = some (.int .i64 (LE b)) ∧ w'.cell? ⟨k + 1, 0, none⟩ = some (.string (LB c)) ∧ w'.cell? ⟨k + 1, 1, none⟩ = some (.int .i64 (LE c)) ∧ w'.cell? ⟨k + 1, 2, none⟩ = some (.string (LB d)) ∧ w'.cell? ⟨k + 1, 3, none⟩ = some (.int .i64 (LE d))) (first | exact ⟨e0, e1, e2, e3, e4, e5, e6, e7⟩ | (go_keep; done) | ((try dsimp only); refine ⟨?_, ?_, ?_, ?_, ?_, ?_, ?_, ?_⟩ <;> (exact far4 (by omega) (by assumption))))
   (first | (go_at_call 307; refine (C.out.1 _ _ _ (by first | assumption | exact opL_wf _ _ _) (by first | assumption | exact opL_wf _ _ _) (by have := HB.out.below; rwa [HK.out] at this)).mono ?_; rintro e w1 ⟨rfl, hbw⟩; have HN := Lib.hid (HB.out.next hbw); clear HB hbw; have HB := HN; clear HN; have e0 := (show _ = some (.string (LB a)) from HB.out.cells 0 _ rfl 0 _ rfl); have e1 := (show _ = some (.int .i64 (LE a)) from HB.out.cells 0 _ rfl 1 _ rfl); have e2 := (show _ = some (.string (LB b)) from HB.out.cells 0 _ rfl 2 _ rfl); have e3 := (show _ = some (.int .i64 (LE b)) from HB.out.cells 0 _ rfl 3 _ rfl); have e4 := (show _ = some (.string (LB c)) from HB.out.cells 1 _ rfl 0 _ rfl); have e5 := (show _ = some (.int .i64 (LE c)) from HB.out.cells 1 _ rfl 1 _ rfl); have e6 := (show _ = some (.string (LB d)) from HB.out.cells 1 _ rfl 2 _ rfl); have e7 := (show _ = some (.int .i64 (LE d)) from HB.out.cells 1 _ rfl 3 _ rfl); have z0 := (show World.cell? _ ⟨k + 1 + 1, 0, none⟩ = some (.string ⟨#[]⟩) from HB.out.cells 2 _ rfl 0 _ rfl); have f0 := (show World.frozen? _ ⟨k + 1 + 1, 0, none⟩ = false from HB.out.frozen 2 (by simp) 0); have z1 := (show World.cell? _ ⟨k + 1 + 1, 1, none⟩ = some (.int .i64 0) from HB.out.cells 2 _ rfl 1 _ rfl); have f1 := (show World.frozen? _ ⟨k + 1 + 1, 1, none⟩ = false from HB.out.frozen 2 (by simp) 1); have z2 := (show World.cell? _ ⟨k + 1 + 1, 2, none⟩ = some (.string ⟨#[]⟩) from HB.out.cells 2 _ rfl 2 _ rfl); have f2 := (show World.frozen? _ ⟨k + 1 + 1, 2, none⟩ = false from HB.out.frozen 2 (by simp) 2); have z3 := (show World.cell? _ ⟨k + 1 + 1, 3, none⟩ = some (.int .i64 0) from HB.out.cells 2 _ rfl 3 _ rfl); have f3 := (show World.frozen? _ ⟨k + 1 + 1, 3, none⟩ = false from HB.out.frozen 2 (by simp) 3)) | (go_at_call 303; refine (C.out.2.2 _ _ _ (by first | assumption | exact opL_wf _ _ _) (by first | assumption | exact opL_wf _ _ _) (by have := HB.out.below; rwa [HK.out] at this)).mono ?_; rintro e w1 ⟨rfl, hbw⟩; have HN := Lib.hid (HB.out.next hbw); clear HB hbw; have HB := HN; clear HN; have e0 := (show _ = some (.string (LB a)) from HB.out.cells 0 _ rfl 0 _ rfl); have e1 := (show _ = some (.int .i64 (LE a)) from HB.out.cells 0 _ rfl 1 _ rfl); have e2 := (show _ = some (.string (LB b)) from HB.out.cells 0 _ rfl 2 _ rfl); have e3 := (show _ = some (.int .i64 (LE b)) from HB.out.cells 0 _ rfl 3 _ rfl); have e4 := (show _ = some (.string (LB c)) from HB.out.cells 1 _ rfl 0 _ rfl); have e5 := (show _ = some (.int .i64 (LE c)) from HB.out.cells 1 _ rfl 1 _ rfl); have e6 := (show _ = some (.string (LB d)) from HB.out.cells 1 _ rfl 2 _ rfl); have e7 := (show _ = some (.int .i64 (LE d)) from HB.out.cells 1 _ rfl 3 _ rfl); have z0 := (show World.cell? _ ⟨k + 1 + 1, 0, none⟩ = some (.string ⟨#[]⟩) from HB.out.cells 2 _ rfl 0 _ rfl); have f0 := (show World.frozen? _ ⟨k + 1 + 1, 0, none⟩ = false from HB.out.frozen 2 (by simp) 0); have z1 := (show World.cell? _ ⟨k + 1 + 1, 1, none⟩ = some (.int .i64 0) from HB.out.cells 2 _ rfl 1 _ rfl); have f1 := (show World.frozen? _ ⟨k + 1 + 1, 1, none⟩ = false from HB.out.frozen 2 (by simp) 1); have z2 := (show World.cell? _ ⟨k + 1 + 1, 2, none⟩ = some (.string ⟨#[]⟩) from HB.out.cells 2 _ rfl 2 _ rfl); have f2 := (show World.frozen? _ ⟨k + 1 + 1, 2, none⟩ = false from HB.out.frozen 2 (by simp) 2); have z3 := (show World.cell? _ ⟨k + 1 + 1, 3, none⟩ = some (.int .i64 0) from HB.out.cells 2 _ rfl 3 _ rfl); have f3 := (show World.frozen? _ ⟨k + 1 + 1, 3, none⟩ = false from HB.out.frozen 2 (by simp) 3)))
 have e0 := (show _ = some (.string (LB a)) from HB.out.cells 0 _ rfl 0 _ rfl); have e1 := (show _ = some (.int .i64 (LE a)) from HB.out.cells 0 _ rfl 1 _ rfl); have e2 := (show _ = some (.string (LB b)) from HB.out.cells 0 _ rfl 2 _ rfl); have e3 := (show _ = some (.int .i64 (LE b)) from HB.out.cells 0 _ rfl 3 _ rfl); have e4 := (show _ = some (.string (LB c)) from HB.out.cells 1 _ rfl 0 _ rfl); have e5 := (show _ = some (.int .i64 (LE c)) from HB.out.cells 1 _ rfl 1 _ rfl); have e6 := (show _ = some (.string (LB d)) from HB.out.cells 1 _ rfl 2 _ rfl); have e7 := (show _ = some (.int .i64 (LE d)) from HB.out.cells 1 _ rfl 3 _ rfl); have z0 := (show World.cell? _ ⟨k + 1 + 1, 0, none⟩ = some (.string ⟨#[]⟩) from HB.out.cells 2 _ rfl 0 _ rfl); have f0 := (show World.frozen? _ ⟨k + 1 + 1, 0, none⟩ = false from HB.out.frozen 2 (by simp) 0); have z1 := (show World.cell? _ ⟨k + 1 + 1, 1, none⟩ = some (.int .i64 0) from HB.out.cells 2 _ rfl 1 _ rfl); have f1 := (show World.frozen? _ ⟨k + 1 + 1, 1, none⟩ = false from HB.out.frozen 2 (by simp) 1); have z2 := (show World.cell? _ ⟨k + 1 + 1, 2, none⟩ = some (.string ⟨#[]⟩) from HB.out.cells 2 _ rfl 2 _ rfl); have f2 := (show World.frozen? _ ⟨k + 1 + 1, 2, none⟩ = false from HB.out.frozen 2 (by simp) 2); have z3 := (show World.cell? _ ⟨k + 1 + 1, 3, none⟩ = some (.int .i64 0) from HB.out.cells 2 _ rfl 3 _ rfl); have f3 := (show World.frozen? _ ⟨k + 1 + 1, 3, none⟩ = false from HB.out.frozen 2 (by simp) 3)
 obtain ⟨g0, g1, g2, g3⟩ := fourB_back z0 z1 z2 z3 (.string (LB (opL (· - ·) (opL (· * ·) a d) (opL (· * ·) c b)))) (.int .i64 (LE (opL (· - ·) (opL (· * ·) a d) (opL (· * ·) c b)))) (.string (LB (opL (· * ·) b d))) (.int .i64 (LE (opL (· * ·) b d)))
 go_wp2
 refine bodyPost_ret (v := .agg #[.string (LB (opL (· - ·) (opL (· * ·) a d) (opL (· * ·) c b))), .int .i64 (LE (opL (· - ·) (opL (· * ·) a d) (opL (· * ·) c b))), .string (LB (opL (· * ·) b d)), .int .i64 (LE (opL (· * ·) b d))]) (by simp [results, Tryz.results52, go_sem, g0, g1, g2, g3]) rfl ?_
 refine ⟨rfl, ?_⟩
 have hbl := HB.out.below
 rw [HK.out] at hbl ⊢
 exact (((hbl.setCell (p := ⟨k + 1 + 1, 0, none⟩) (by show k ≤ k + 1 + 1; omega) _).setCell (p := ⟨k + 1 + 1, 1, none⟩) (by show k ≤ k + 1 + 1; omega) _).setCell (p := ⟨k + 1 + 1, 2, none⟩) (by show k ≤ k + 1 + 1; omega) _).setCell (p := ⟨k + 1 + 1, 3, none⟩) (by show k ≤ k + 1 + 1; omega) _
def Sq (x : Rat) : Prop := x.num.natAbs < lim ∧ x.den < lim
theorem Sq.n {x : Rat} (h : Sq x) : short x.num := h.1
theorem Sq.d {x : Rat} (h : Sq x) : short (x.den : Int) := by show Int.natAbs _ < lim; rw [Int.natAbs_natCast]; exact h.2
theorem bN_strQ (x : Rat) : bN (strQ x) = strB x.num := bytes_ext (by rw [bN_data, strQ_data, strB_data, (itoaQ_cut x).1])
theorem bD_strQ (x : Rat) : bD (strQ x) = strB (x.den : Int) := bytes_ext (by rw [bD_data, strQ_data, strB_data, (itoaQ_cut x).2.1])
theorem val_strQ (x : Rat) : valOf (cutN (strQ x).data.toList) = x.num ∧ valOf (cutD (strQ x).data.toList) = x.den := by
 rw [strQ_data, (itoaQ_cut x).1, (itoaQ_cut x).2.1, valOf_itoa, valOf_itoa]; exact ⟨rfl, rfl⟩
theorem Sq.chk {x : Rat} (h : Sq x) : chkQ (strQ x).data.toList = 0 := strQ_chk h.1 h.2
theorem Sq.size {x : Rat} (h : Sq x) : (strQ x).size ≤ maxLen := by
 have h1 := strB_size h.n
 have h2 := strB_size h.d
 rw [← size_len, strB_data] at h1 h2
 rw [← size_len, strQ_data]
 unfold itoaQ maxLen
 split
 · omega
 · rw [List.length_append, List.length_cons]; omega
theorem readLong_q (x : Rat) (w : World) (hx : Sq x) (ht : Tab w) :
   Calls Tryz.prog 70 #[.string (strQ x)] w fun e W' => e = .returned (.tuple #[.agg #[.string (strB x.num), .int .i64 0, .string (strB (x.den : Int)), .int .i64 0], .int .i64 0]) ∧ Below w.heap.size w W' := by
 have c := readLong_any (strQ x) w hx.size ht
 obtain ⟨q1, q2⟩ := rl_good hx.chk
 rwa [q1, q2, bN_strQ, bD_strQ, hx.chk] at c
theorem mOK_b {x : Rat} (h : mOK (strQ x).data.toList = true) : B18 x.num ∧ B18 (x.den : Int) := by
 have := (mOK_chk h).2
 rwa [(val_strQ x).1, (val_strQ x).2] at this
theorem computeN_q (x y : Rat) (p q : Nat) (rM : ByteArray) (eM : Int) (B : ByteArray) (E : Int) (w : World) (hx : Sq x) (hy : Sq y) (ht : Tab w) (ht2 : Tab64 w)
   (hs : B18 x.num → B18 (x.den : Int) → B18 y.num → B18 (y.den : Int) → CqB w 91 #[.agg #[.int .i64 x.num, .int .i64 (x.den : Int)], .agg #[.int .i64 y.num, .int .i64 (y.den : Int)], .pointer (some ⟨p, 0, none⟩)] (.tuple #[.string rM, .int .i64 eM]))
   (hok : eM = 0 → rM = B ∧ E = 0)
   (hl : CqB w 93 #[.agg #[.string (strB x.num), .int .i64 0, .string (strB (x.den : Int)), .int .i64 0], .agg #[.string (strB y.num), .int .i64 0, .string (strB (y.den : Int)), .int .i64 0], .pointer (some ⟨q, 0, none⟩)] (.tuple #[.string B, .int .i64 E])) :
   Calls Tryz.prog 46 #[.string (strQ x), .string (strQ y), .func (.func 91) #[] #[.pointer (some ⟨p, 0, none⟩)], .func (.func 93) #[] #[.pointer (some ⟨q, 0, none⟩)]] w fun e W' => e = .returned (.tuple #[.string B, .int .i64 E]) ∧ Below w.heap.size w W' := by
 have el : ∀ args W, (callFunc 93 args).run Tryz.prog W = .ok (.enter 93 args) W := enters_of Tryz.func93 (by kernel_rfl) rfl
 have es : ∀ args W, (callFunc 91 args).run Tryz.prog W = .ok (.enter 91 args) W := enters_of Tryz.func91 (by kernel_rfl) rfl
 have ra := fun W (hW : Below w.heap.size w W) => readLong_q x W hx (ht.next hW)
 have rb := fun W (hW : Below w.heap.size w W) => readLong_q y W hy (ht.next hW)
 by_cases o : mOK (strQ x).data.toList = true ∧ mOK (strQ y).data.toList = true
 · have hm := fun W (hW : Below w.heap.size w W) => readMachines_yes (strQ x) (strQ y) W hx.size hy.size o.1 o.2 (TabQ_next ht2 hW)
   simp only [(val_strQ x).1, (val_strQ x).2, (val_strQ y).1, (val_strQ y).2] at hm
   have hs := hs (mOK_b o.1).1 (mOK_b o.1).2 (mOK_b o.2).1 (mOK_b o.2).2
   by_cases he : eM = 0
   · obtain ⟨h1, h2⟩ := hok he
     subst h1; subst h2; subst he
     exact computeN_short _ _ p q _ _ _ _ _ _ _ w hm es hs
   · exact computeN_both _ _ p q _ _ _ _ _ _ _ _ _ _ _ _ _ _ w (bool_ne he).1 (bool_ne he).2 hm es hs ra rb el hl
 · have hm := fun W (hW : Below w.heap.size w W) => readMachines_no (strQ x) (strQ y) W hx.size hy.size o (TabQ_next ht2 hW)
   exact computeN_long _ _ p q _ _ _ _ _ _ _ _ w hm ra rb el hl
theorem computeI_q (x y : Rat) (ks kl : FuncId) (es : ∀ args W, (callFunc ks args).run Tryz.prog W = .ok (.enter ks args) W) (el : ∀ args W, (callFunc kl args).run Tryz.prog W = .ok (.enter kl args) W) (rM eM B E : Int) (w : World) (hx : Sq x) (hy : Sq y) (ht : Tab w) (ht2 : Tab64 w)
   (hs : B18 x.num → B18 (x.den : Int) → B18 y.num → B18 (y.den : Int) → CqB w ks #[.agg #[.int .i64 x.num, .int .i64 (x.den : Int)], .agg #[.int .i64 y.num, .int .i64 (y.den : Int)]] (.tuple #[.int .i64 rM, .int .i64 eM]))
   (hok : eM = 0 → rM = B ∧ E = 0)
   (hl : CqB w kl #[.agg #[.string (strB x.num), .int .i64 0, .string (strB (x.den : Int)), .int .i64 0], .agg #[.string (strB y.num), .int .i64 0, .string (strB (y.den : Int)), .int .i64 0]] (.tuple #[.int .i64 B, .int .i64 E])) :
   Calls Tryz.prog 53 #[.string (strQ x), .string (strQ y), .func (.func ks) #[] #[], .func (.func kl) #[] #[]] w fun e W' => e = .returned (.tuple #[.int .i64 B, .int .i64 E]) ∧ Below w.heap.size w W' := by
 have ra := fun W (hW : Below w.heap.size w W) => readLong_q x W hx (ht.next hW)
 have rb := fun W (hW : Below w.heap.size w W) => readLong_q y W hy (ht.next hW)
 by_cases o : mOK (strQ x).data.toList = true ∧ mOK (strQ y).data.toList = true
 · have hm := fun W (hW : Below w.heap.size w W) => readMachines_yes (strQ x) (strQ y) W hx.size hy.size o.1 o.2 (TabQ_next ht2 hW)
   simp only [(val_strQ x).1, (val_strQ x).2, (val_strQ y).1, (val_strQ y).2] at hm
   have hs := hs (mOK_b o.1).1 (mOK_b o.1).2 (mOK_b o.2).1 (mOK_b o.2).2
   by_cases he : eM = 0
   · obtain ⟨h1, h2⟩ := hok he
     subst h1; subst h2; subst he
     exact computeI_short _ _ _ _ _ _ _ _ _ w hm es hs
   · exact computeI_both _ _ _ _ _ _ _ _ _ _ _ _ _ _ _ _ w (bool_ne he).1 (bool_ne he).2 hm es hs ra rb el hl
 · have hm := fun W (hW : Below w.heap.size w W) => readMachines_no (strQ x) (strQ y) W hx.size hy.size o (TabQ_next ht2 hW)
   exact computeI_long _ _ _ _ _ _ _ _ _ _ w hm ra rb el hl
theorem B18.ok {z : Int} (h : B18 z) : z.natAbs < 4611686018427387904 := by unfold B18 at h; omega
theorem den_wf {x : Rat} (h : Sq x) : Lwf (some (x.den : Int)) := some_wf h.d
theorem num_wf {x : Rat} (h : Sq x) : Lwf (some x.num) := some_wf h.n
theorem mk_den0 (x y : Rat) : opL (· * ·) (some (x.den : Int)) (some (y.den : Int)) ≠ some 0 := by
 rw [opL_some]
 unfold mkL
 intro h
 split at h
 · have h1 := Option.some.inj h
   rcases Int.mul_eq_zero.1 h1 with q | q
   · exact den_0 x q
   · exact den_0 y q
 · cases h
theorem mk_num0 {x y : Rat} (hy : y ≠ 0) : opL (· * ·) (some y.num) (some (x.den : Int)) ≠ some 0 := by
 rw [opL_some]
 unfold mkL
 intro h
 split at h
 · have h1 := Option.some.inj h
   rcases Int.mul_eq_zero.1 h1 with q | q
   · exact hy (Rat.num_eq_zero.1 q)
   · exact den_0 x q
 · cases h
theorem subM_rule (x y : Rat) (p : Nat) (w : World) (bx : B18 x.num) (cx : B18 (x.den : Int)) (by_ : B18 y.num) (cy : B18 (y.den : Int)) (hb : Blk w p #[.func (.func 51) #[] #[]]) (ht : Tab w) (ht2 : Tab64 w) :
   Calls Tryz.prog 91 #[.agg #[.int .i64 x.num, .int .i64 (x.den : Int)], .agg #[.int .i64 y.num, .int .i64 (y.den : Int)], .pointer (some ⟨p, 0, none⟩)] w fun e W' => e = .returned (.tuple #[.string (lowR (minusM (timesM x.num y.den) (timesM y.num x.den)) (timesM x.den y.den)), .int .i64 (lowRE (minusM (timesM x.num y.den) (timesM y.num x.den)) (timesM x.den y.den))]) ∧ Below w.heap.size w W' :=
 ruleM_any 51 p _ _ _ _ _ _ _ _ w (enters_of Tryz.func51 (by kernel_rfl) rfl) hb (fun W _ => differenceM_any _ _ _ _ W bx cx by_ cy)
   (fun W hW => lowestM_any _ _ W (plusM_lo (timesM_ok _ _) (negM_ok (timesM_ok _ _))).1 (plusM_lo (timesM_ok _ _) (negM_ok (timesM_ok _ _))).2 (timesM_ok _ _).lo (timesM_ok _ _).hi (timesM_0 (den_0 x) (den_0 y)) (ht.next hW) (TabQ_next ht2 hW))
theorem subL_rule (x y : Rat) (q : Nat) (w : World) (hx : Sq x) (hy : Sq y) (hb : Blk w q #[.func (.func 52) #[] #[]]) (ht : Tab w) :
   Calls Tryz.prog 93 #[.agg #[.string (strB x.num), .int .i64 0, .string (strB (x.den : Int)), .int .i64 0], .agg #[.string (strB y.num), .int .i64 0, .string (strB (y.den : Int)), .int .i64 0], .pointer (some ⟨q, 0, none⟩)] w fun e W' => e = .returned (.tuple #[.string (qsubB x y), .int .i64 (qsubE x y)]) ∧ Below w.heap.size w W' := by
 have c := ruleL_any 52 q (strB x.num) (strB (x.den : Int)) (strB y.num) (strB (y.den : Int)) _ _ 0 0 0 0 _ _ _ _ w (enters_of Tryz.func52 (by kernel_rfl) rfl) hb
   (fun W hW => differenceL_any (some x.num) (some (x.den : Int)) (some y.num) (some (y.den : Int)) W (num_wf hx) (den_wf hx) (num_wf hy) (den_wf hy) (ht.next hW))
   (fun W hW => lowestL_any (opL (· - ·) (opL (· * ·) (some x.num) (some (y.den : Int))) (opL (· * ·) (some y.num) (some (x.den : Int)))) (opL (· * ·) (some (x.den : Int)) (some (y.den : Int))) W (opL_wf _ _ _) (opL_wf _ _ _) (mk_den0 x y) (ht.next hW))
 rwa [(subL_ok x y).1, (subL_ok x y).2] at c
theorem SubQ_core (a b r : ByteArray) (e0 : Int) (w : World)
   (h : ∀ W p q, Below w.heap.size w W → Blk W p #[.func (.func 51) #[] #[]] → Blk W q #[.func (.func 52) #[] #[]] → Calls Tryz.prog 46 #[.string a, .string b, .func (.func 91) #[] #[.pointer (some ⟨p, 0, none⟩)], .func (.func 93) #[] #[.pointer (some ⟨q, 0, none⟩)]] W fun e W' => e = .returned (.tuple #[.string r, .int .i64 e0]) ∧ Below W.heap.size W W') :
   Calls Tryz.prog 15 #[.string a, .string b] w fun e W' => e = .returned (.tuple #[.string r, .int .i64 e0]) ∧ Below w.heap.size w W' := by
 have C := Lib.hid (And.intro h (And.intro (fun W => reducedM_mk 51 W) (fun W => reducedL_mk 52 W))); clear h
 go_enter Tryz.func15, Tryz.ntmps15
 go_wp2_with fail
 refine (C.out.2.1 _).mono ?_
 rintro e w1 ⟨rfl, k0, b⟩
 have H1 := Lib.hid (And.intro k0 b); clear k0 b
 go_wp2_with fail
 refine (C.out.2.2 _).mono ?_
 rintro e w2 ⟨rfl, k1, b⟩
 have H2 := Lib.hid (And.intro (H1.out.1.next b) (And.intro k1 (H1.out.2.trans (b.mono H1.out.2.size)))); clear k1 b H1
 go_wp2_with fail
 refine (C.out.1 _ _ _ H2.out.2.2 H2.out.1 H2.out.2.1).mono ?_
 rintro e w3 ⟨rfl, b⟩
 have H3 := Lib.hid (H2.out.2.2.trans (b.mono H2.out.2.2.size)); clear b
 go_wp2
 go_ret2
 exact ⟨rfl, H3.out⟩
theorem Sub_q (x y : Rat) (w : World) (hx : Sq x) (hy : Sq y) (ht : Tab w) (ht2 : Tab64 w) :
   Calls Tryz.prog 15 #[.string (strQ x), .string (strQ y)] w fun e W' => e = .returned (.tuple #[.string (qsubB x y), .int .i64 (qsubE x y)]) ∧ Below w.heap.size w W' := by
 refine SubQ_core _ _ _ _ w (fun W p q hW k0 k1 => ?_)
 exact computeN_q x y p q _ _ _ _ W hx hy (ht.next hW) (TabQ_next ht2 hW)
   (fun b1 c1 b2 c2 W' hW' => subM_rule x y p W' b1 c1 b2 c2 (k0.next hW') ((ht.next hW).next hW') (TabQ_next (TabQ_next ht2 hW) hW'))
   (fun he => subM_ok x y he)
   (fun W' hW' => subL_rule x y q W' hx hy (k1.next hW') ((ht.next hW).next hW'))
theorem mulM_rule (x y : Rat) (p : Nat) (w : World) (bx : B18 x.num) (cx : B18 (x.den : Int)) (by_ : B18 y.num) (cy : B18 (y.den : Int)) (hb : Blk w p #[.func (.func 97) #[] #[]]) (ht : Tab w) (ht2 : Tab64 w) :
   Calls Tryz.prog 91 #[.agg #[.int .i64 x.num, .int .i64 (x.den : Int)], .agg #[.int .i64 y.num, .int .i64 (y.den : Int)], .pointer (some ⟨p, 0, none⟩)] w fun e W' => e = .returned (.tuple #[.string (lowR (timesM x.num y.num) (timesM x.den y.den)), .int .i64 (lowRE (timesM x.num y.num) (timesM x.den y.den))]) ∧ Below w.heap.size w W' :=
 ruleM_any 97 p _ _ _ _ _ _ _ _ w (enters_of Tryz.func97 (by kernel_rfl) rfl) hb (fun W _ => productM_any _ _ _ _ W bx cx by_ cy)
   (fun W hW => lowestM_any _ _ W (timesM_ok _ _).lo (timesM_ok _ _).hi (timesM_ok _ _).lo (timesM_ok _ _).hi (timesM_0 (den_0 x) (den_0 y)) (ht.next hW) (TabQ_next ht2 hW))
theorem mulL_rule (x y : Rat) (q : Nat) (w : World) (hx : Sq x) (hy : Sq y) (hb : Blk w q #[.func (.func 98) #[] #[]]) (ht : Tab w) :
   Calls Tryz.prog 93 #[.agg #[.string (strB x.num), .int .i64 0, .string (strB (x.den : Int)), .int .i64 0], .agg #[.string (strB y.num), .int .i64 0, .string (strB (y.den : Int)), .int .i64 0], .pointer (some ⟨q, 0, none⟩)] w fun e W' => e = .returned (.tuple #[.string (qmulB x y), .int .i64 (qmulE x y)]) ∧ Below w.heap.size w W' := by
 have c := ruleL_any 98 q (strB x.num) (strB (x.den : Int)) (strB y.num) (strB (y.den : Int)) _ _ 0 0 0 0 _ _ _ _ w (enters_of Tryz.func98 (by kernel_rfl) rfl) hb
   (fun W hW => productL_any (some x.num) (some (x.den : Int)) (some y.num) (some (y.den : Int)) W (num_wf hx) (den_wf hx) (num_wf hy) (den_wf hy) (ht.next hW))
   (fun W hW => lowestL_any (opL (· * ·) (some x.num) (some y.num)) (opL (· * ·) (some (x.den : Int)) (some (y.den : Int))) W (opL_wf _ _ _) (opL_wf _ _ _) (mk_den0 x y) (ht.next hW))
 rwa [(mulL_ok x y).1, (mulL_ok x y).2] at c
theorem MulQ_core (a b r : ByteArray) (e0 : Int) (w : World)
   (h : ∀ W p q, Below w.heap.size w W → Blk W p #[.func (.func 97) #[] #[]] → Blk W q #[.func (.func 98) #[] #[]] → Calls Tryz.prog 46 #[.string a, .string b, .func (.func 91) #[] #[.pointer (some ⟨p, 0, none⟩)], .func (.func 93) #[] #[.pointer (some ⟨q, 0, none⟩)]] W fun e W' => e = .returned (.tuple #[.string r, .int .i64 e0]) ∧ Below W.heap.size W W') :
   Calls Tryz.prog 56 #[.string a, .string b] w fun e W' => e = .returned (.tuple #[.string r, .int .i64 e0]) ∧ Below w.heap.size w W' := by
 have C := Lib.hid (And.intro h (And.intro (fun W => reducedM_mk 97 W) (fun W => reducedL_mk 98 W))); clear h
 go_enter Tryz.func56, Tryz.ntmps56
 go_wp2_with fail
 refine (C.out.2.1 _).mono ?_
 rintro e w1 ⟨rfl, k0, b⟩
 have H1 := Lib.hid (And.intro k0 b); clear k0 b
 go_wp2_with fail
 refine (C.out.2.2 _).mono ?_
 rintro e w2 ⟨rfl, k1, b⟩
 have H2 := Lib.hid (And.intro (H1.out.1.next b) (And.intro k1 (H1.out.2.trans (b.mono H1.out.2.size)))); clear k1 b H1
 go_wp2_with fail
 refine (C.out.1 _ _ _ H2.out.2.2 H2.out.1 H2.out.2.1).mono ?_
 rintro e w3 ⟨rfl, b⟩
 have H3 := Lib.hid (H2.out.2.2.trans (b.mono H2.out.2.2.size)); clear b
 go_wp2
 go_ret2
 exact ⟨rfl, H3.out⟩
theorem Mul_q (x y : Rat) (w : World) (hx : Sq x) (hy : Sq y) (ht : Tab w) (ht2 : Tab64 w) :
   Calls Tryz.prog 56 #[.string (strQ x), .string (strQ y)] w fun e W' => e = .returned (.tuple #[.string (qmulB x y), .int .i64 (qmulE x y)]) ∧ Below w.heap.size w W' := by
 refine MulQ_core _ _ _ _ w (fun W p q hW k0 k1 => ?_)
 exact computeN_q x y p q _ _ _ _ W hx hy (ht.next hW) (TabQ_next ht2 hW)
   (fun b1 c1 b2 c2 W' hW' => mulM_rule x y p W' b1 c1 b2 c2 (k0.next hW') ((ht.next hW).next hW') (TabQ_next (TabQ_next ht2 hW) hW'))
   (fun he => mulM_ok x y he)
   (fun W' hW' => mulL_rule x y q W' hx hy (k1.next hW') ((ht.next hW).next hW'))
theorem divM_rule (x y : Rat) (p : Nat) (w : World) (bx : B18 x.num) (cx : B18 (x.den : Int)) (by_ : B18 y.num) (cy : B18 (y.den : Int)) (h0 : y ≠ 0) (hb : Blk w p #[.func (.func 48) #[] #[]]) (ht : Tab w) (ht2 : Tab64 w) :
   Calls Tryz.prog 91 #[.agg #[.int .i64 x.num, .int .i64 (x.den : Int)], .agg #[.int .i64 y.num, .int .i64 (y.den : Int)], .pointer (some ⟨p, 0, none⟩)] w fun e W' => e = .returned (.tuple #[.string (lowR (timesM x.num y.den) (timesM y.num x.den)), .int .i64 (lowRE (timesM x.num y.den) (timesM y.num x.den))]) ∧ Below w.heap.size w W' :=
 ruleM_any 48 p _ _ _ _ _ _ _ _ w (enters_of Tryz.func48 (by kernel_rfl) rfl) hb (fun W _ => ratioM_any _ _ _ _ W bx cx by_ cy)
   (fun W hW => lowestM_any _ _ W (timesM_ok _ _).lo (timesM_ok _ _).hi (timesM_ok _ _).lo (timesM_ok _ _).hi (timesM_0 (fun e => h0 (Rat.num_eq_zero.1 e)) (den_0 x)) (ht.next hW) (TabQ_next ht2 hW))
theorem divL_rule (x y : Rat) (q : Nat) (w : World) (hx : Sq x) (hy : Sq y) (h0 : y ≠ 0) (hb : Blk w q #[.func (.func 50) #[] #[]]) (ht : Tab w) :
   Calls Tryz.prog 93 #[.agg #[.string (strB x.num), .int .i64 0, .string (strB (x.den : Int)), .int .i64 0], .agg #[.string (strB y.num), .int .i64 0, .string (strB (y.den : Int)), .int .i64 0], .pointer (some ⟨q, 0, none⟩)] w fun e W' => e = .returned (.tuple #[.string (qdivB x y), .int .i64 (qdivE x y)]) ∧ Below w.heap.size w W' := by
 have c := ruleL_any 50 q (strB x.num) (strB (x.den : Int)) (strB y.num) (strB (y.den : Int)) _ _ 0 0 0 0 _ _ _ _ w (enters_of Tryz.func50 (by kernel_rfl) rfl) hb
   (fun W hW => ratioL_any (some x.num) (some (x.den : Int)) (some y.num) (some (y.den : Int)) W (num_wf hx) (den_wf hx) (num_wf hy) (den_wf hy) (ht.next hW))
   (fun W hW => lowestL_any (opL (· * ·) (some x.num) (some (y.den : Int))) (opL (· * ·) (some y.num) (some (x.den : Int))) W (opL_wf _ _ _) (opL_wf _ _ _) (mk_num0 h0) (ht.next hW))
 rwa [(divL_ok x y).1, (divL_ok x y).2] at c
theorem DivQ_core (a b r : ByteArray) (e0 : Int) (hz : (b.toList == [48]) = false) (hz' : (b.toList != [48]) = true) (w : World)
   (h : ∀ W p q, Below w.heap.size w W → Blk W p #[.func (.func 48) #[] #[]] → Blk W q #[.func (.func 50) #[] #[]] → Calls Tryz.prog 46 #[.string a, .string b, .func (.func 91) #[] #[.pointer (some ⟨p, 0, none⟩)], .func (.func 93) #[] #[.pointer (some ⟨q, 0, none⟩)]] W fun e W' => e = .returned (.tuple #[.string r, .int .i64 e0]) ∧ Below W.heap.size W W') :
   Calls Tryz.prog 14 #[.string a, .string b] w fun e W' => e = .returned (.tuple #[.string r, .int .i64 e0]) ∧ Below w.heap.size w W' := by
 have C := Lib.hid (And.intro h (And.intro (fun W => reducedM_mk 48 W) (fun W => reducedL_mk 50 W))); clear h
 go_enter Tryz.func14, Tryz.ntmps14
 go_wp2_with fail
 refine (C.out.2.1 _).mono ?_
 rintro e w1 ⟨rfl, k0, b⟩
 have H1 := Lib.hid (And.intro k0 b); clear k0 b
 go_wp2_with fail
 refine (C.out.2.2 _).mono ?_
 rintro e w2 ⟨rfl, k1, b⟩
 have H2 := Lib.hid (And.intro (H1.out.1.next b) (And.intro k1 (H1.out.2.trans (b.mono H1.out.2.size)))); clear k1 b H1
 go_wp2_with fail
 refine (C.out.1 _ _ _ H2.out.2.2 H2.out.1 H2.out.2.1).mono ?_
 rintro e w3 ⟨rfl, b⟩
 have H3 := Lib.hid (H2.out.2.2.trans (b.mono H2.out.2.2.size)); clear b
 go_wp2
 go_ret2
 exact ⟨rfl, H3.out⟩
theorem Div_q (x y : Rat) (w : World) (hx : Sq x) (hy : Sq y) (h0 : y ≠ 0) (ht : Tab w) (ht2 : Tab64 w) :
   Calls Tryz.prog 14 #[.string (strQ x), .string (strQ y)] w fun e W' => e = .returned (.tuple #[.string (qdivB x y), .int .i64 (qdivE x y)]) ∧ Below w.heap.size w W' := by
 have hz : ((strQ y).toList == [48]) = false := by rw [strQ_is0]; exact decide_eq_false h0
 refine DivQ_core _ _ _ _ hz (by rw [bne, hz]; rfl) w (fun W p q hW k0 k1 => ?_)
 exact computeN_q x y p q _ _ _ _ W hx hy (ht.next hW) (TabQ_next ht2 hW)
   (fun b1 c1 b2 c2 W' hW' => divM_rule x y p W' b1 c1 b2 c2 h0 (k0.next hW') ((ht.next hW).next hW') (TabQ_next (TabQ_next ht2 hW) hW'))
   (fun he => divM_ok x y he)
   (fun W' hW' => divL_rule x y q W' hx hy h0 (k1.next hW') ((ht.next hW).next hW'))
theorem ordM_any (x y : Rat) (w : World) (bx : B18 x.num) (cx : B18 (x.den : Int)) (by_ : B18 y.num) (cy : B18 (y.den : Int)) :
   Calls Tryz.prog 54 #[.agg #[.int .i64 x.num, .int .i64 (x.den : Int)], .agg #[.int .i64 y.num, .int .i64 (y.den : Int)]] w fun e W' => e = .returned (.tuple #[.int .i64 (ordR (timesM x.num y.den) (timesM y.num x.den)), .int .i64 (lowRE (timesM x.num y.den) (timesM y.num x.den))]) ∧ Below w.heap.size w W' := by
 have hr := fun W (_ : Below w.heap.size w W) => ratioM_any x.num x.den y.num y.den W bx cx by_ cy
 have hf := fun W (_ : Below w.heap.size w W) => fitM_any (timesM x.num y.den) (timesM y.num x.den) W
 by_cases h : timesM x.num y.den = tooL ∨ timesM y.num x.den = tooL
 · unfold ordR lowRE
   rw [if_pos h, if_pos h]
   rw [if_pos h] at hf
   exact orderM_bad _ _ _ _ _ _ 4 (by decide) (by decide) w hr hf
 · unfold ordR lowRE
   rw [if_neg h, if_neg h]
   rw [if_neg h] at hf
   exact orderM_ok _ _ _ _ _ _ _ w hr hf (fun W _ => (mach_cmp _ _ W).mono fun e W' h => ⟨h.1, by rw [← h.2]; exact Below.refl _ _⟩)
theorem ordL_any (x y : Rat) (w : World) (hx : Sq x) (hy : Sq y) (ht : Tab w) :
   Calls Tryz.prog 55 #[.agg #[.string (strB x.num), .int .i64 0, .string (strB (x.den : Int)), .int .i64 0], .agg #[.string (strB y.num), .int .i64 0, .string (strB (y.den : Int)), .int .i64 0]] w fun e W' => e = .returned (.tuple #[.int .i64 (qcmpR x y), .int .i64 (qcmpE x y)]) ∧ Below w.heap.size w W' := by
 rw [← (ordL_ok x y).1, ← (ordL_ok x y).2]
 have hr := fun W (hW : Below w.heap.size w W) => ratioL_any (some x.num) (some (x.den : Int)) (some y.num) (some (y.den : Int)) W (num_wf hx) (den_wf hx) (num_wf hy) (den_wf hy) (ht.next hW)
 have w1 := opL_wf (· * ·) (some x.num) (some (y.den : Int))
 have w2 := opL_wf (· * ·) (some y.num) (some (x.den : Int))
 generalize opL (· * ·) (some x.num) (some (y.den : Int)) = o at *
 generalize opL (· * ·) (some y.num) (some (x.den : Int)) = p at *
 cases o with
 | none =>
   have hf := fun W (_ : Below w.heap.size w W) => fitL_none p W
   have c := orderL_bad (strB x.num) (strB (x.den : Int)) (strB y.num) (strB (y.den : Int)) _ _ 0 0 0 0 _ _ 4 (by decide) (by decide) w hr hf
   rw [(lowO_none p).2]
   exact c
 | some n =>
   have hf := fun W (_ : Below w.heap.size w W) => fitL_some n p W
   cases p with
   | none => exact orderL_bad (strB x.num) (strB (x.den : Int)) (strB y.num) (strB (y.den : Int)) _ _ 0 0 0 0 _ _ 4 (by decide) (by decide) w hr hf
   | some d => exact orderL_ok (strB x.num) (strB (x.den : Int)) (strB y.num) (strB (y.den : Int)) _ _ 0 0 0 0 _ _ _ w hr hf (fun W _ => long_cmp n d W (w1 n rfl) (w2 d rfl))
theorem CompareQ_core (a b : ByteArray) (r e0 : Int) (w : World)
   (h : CqB w 53 #[.string a, .string b, .func (.func 54) #[] #[], .func (.func 55) #[] #[]] (.tuple #[.int .i64 r, .int .i64 e0])) :
   Calls Tryz.prog 16 #[.string a, .string b] w fun e W' => e = .returned (.tuple #[.int .i64 r, .int .i64 e0]) ∧ Below w.heap.size w W' := by
 have C := Lib.hid h; clear h
 go_enter Tryz.func16, Tryz.ntmps16
 go_wp2_with fail
 refine (C.out _ (Below.refl _ _)).mono ?_
 rintro e w1 ⟨rfl, b⟩
 have H1 := Lib.hid b; clear b
 go_wp2
 go_ret2
 exact ⟨rfl, H1.out⟩
theorem Compare_q (x y : Rat) (w : World) (hx : Sq x) (hy : Sq y) (ht : Tab w) (ht2 : Tab64 w) :
   Calls Tryz.prog 16 #[.string (strQ x), .string (strQ y)] w fun e W' => e = .returned (.tuple #[.int .i64 (qcmpR x y), .int .i64 (qcmpE x y)]) ∧ Below w.heap.size w W' := by
 refine CompareQ_core _ _ _ _ w (fun W hW => ?_)
 exact computeI_q x y _ _ (enters_of Tryz.func54 (by kernel_rfl) rfl) (enters_of Tryz.func55 (by kernel_rfl) rfl) _ _ _ _ W hx hy (ht.next hW) (TabQ_next ht2 hW)
   (fun b1 c1 b2 c2 W' _ => ordM_any x y W' b1 c1 b2 c2) (fun he => ordM_ok x y he) (fun W' hW' => ordL_any x y W' hx hy ((ht.next hW).next hW'))
theorem Check_q (x : Rat) (w : World) (hx : Sq x) (ht : Tab w) (ht2 : Tab64 w) :
   Calls Tryz.prog 33 #[.string (strQ x)] w fun e W' => e = .returned (.int .i64 0) ∧ Below w.heap.size w W' := by
 have c := checkQ_any (strQ x) w hx.size ht ht2
 rwa [hx.chk] at c
def I64 (z : Int) : Prop := -9223372036854775808 ≤ z ∧ z ≤ 9223372036854775807
theorem I64.short {z : Int} (h : I64 z) : short z :=
 Nat.lt_of_le_of_lt (show z.natAbs ≤ 9223372036854775808 by unfold I64 at h; omega) (Nat.lt_of_lt_of_le (by decide : 9223372036854775808 < tenTo 19) (tenTo_mono (by decide : 19 ≤ 300)))
end Go.Proofs.YtpkloolckbhdaaaGreatDoor

namespace Go.Proofs.YtpkloolckbhdaaaGreatDoor
open Go.RowKit
theorem is0_iff (b : ByteArray) : ((b.toList == [48]) = true) ↔ b = ⟨#[48]⟩ := by
 rw [ByteArray.toList_eq, beq_iff_eq]
 constructor
 · intro h; exact bytes_ext h
 · intro h; rw [h]
end Go.Proofs.YtpkloolckbhdaaaGreatDoor
namespace Go.Proofs.YtpkloolckbhdaaaGreatDoor.T
open Go.Proofs.YtpkloolckbhdaaaGreatDoor Go.Lib
def neg3 (s : ByteArray) : Bool := isNeg s.data.toList
def neg3L (l : List ByteArray) : Int := if l.any neg3 then 2 else 0
theorem neg3_str (q : Rat) : neg3 (strQ q) = decide (q < 0) := by
 unfold neg3
 rw [strQ_data]
 have e : isNeg (itoaQ q) = isNeg (itoa q.num) := by
   unfold itoaQ
   split
   · rfl
   · have := itoa_ne q.num
     unfold isNeg; cases h : itoa q.num with
     | nil => exact absurd h this
     | cons a l => rfl
 rw [e, ← strB_data, strB_neg]
 congr 1
 exact propext ⟨fun h => Rat.not_le.1 fun k => absurd (Rat.num_nonneg.2 k) (by omega), fun h => by
   apply Int.not_le.1; intro k; exact absurd (Rat.num_nonneg.1 k) (Rat.not_le.2 h)⟩
end Go.Proofs.YtpkloolckbhdaaaGreatDoor.T
namespace Go.Proofs.YtpkloolckbhdaaaGreatDoor.T
open Go.Proofs.YtpkloolckbhdaaaGreatDoor Go.RowKit
def atS (xs : List ByteArray) (j : Nat) : ByteArray := xs[j]?.getD ⟨#[]⟩
theorem atS_get {xs : List ByteArray} {j : Nat} (h : j < xs.length) : atS xs j = xs[j] := by unfold atS; rw [List.getElem?_eq_getElem h]; rfl
theorem atS_mem {xs : List ByteArray} {j : Nat} (h : j < xs.length) : atS xs j ∈ xs := by rw [atS_get h]; exact List.getElem_mem h
theorem take_at {xs : List ByteArray} {j : Nat} (h : j < xs.length) : xs.take (j + 1) = xs.take j ++ [atS xs j] := by rw [atS_get h, List.take_succ_eq_append_getElem h]
structure Sl (W : World) (b : Nat) (xs : List ByteArray) : Prop where
 lt : b < W.heap.size
 cell : ∀ j, j < xs.length → W.cell? ⟨b, j, none⟩ = some (.string (atS xs j))
theorem Sl.next {W W' : World} {b : Nat} {xs : List ByteArray} (h : Sl W b xs) (g : Below W.heap.size W W') : Sl W' b xs :=
 ⟨Nat.lt_of_lt_of_le h.lt g.size, fun j hj => (g.cell (p := ⟨b, j, none⟩) h.lt).trans (h.cell j hj)⟩
theorem Sl.new1 (W : World) (s : ByteArray) (t : TypeId) : Sl (W.alloc (.cells #[.string s] t)) W.heap.size [s] :=
 ⟨by simp, fun j hj => by
   obtain rfl : j = 0 := by simp at hj; omega
   exact (Blk.new W #[.string s] t).cell 0 _ rfl⟩
theorem Sl.new2 (W : World) (s u : ByteArray) (t : TypeId) : Sl (W.alloc (.cells #[.string s, .string u] t)) W.heap.size [s, u] :=
 ⟨by simp, fun j hj => by
   have h2 : j = 0 ∨ j = 1 := by simp at hj; omega
   rcases h2 with rfl | rfl
   · exact (Blk.new W #[.string s, .string u] t).cell 0 _ rfl
   · exact (Blk.new W #[.string s, .string u] t).cell 1 _ rfl⟩
theorem all_next {q : ByteArray → Bool} {xs : List ByteArray} {k : Nat} (h : (xs.take k).all q = true) (hk : k < xs.length) (hs : q (atS xs k) = true) : (xs.take (k + 1)).all q = true := by
 rw [take_at hk, List.all_append, h]; simp [hs]
theorem all_no {q : ByteArray → Bool} {xs : List ByteArray} {k : Nat} (hk : k < xs.length) (hs : q (atS xs k) = false) : xs.all q = false := by
 rw [List.all_eq_false]; exact ⟨_, atS_mem hk, by rw [hs]; decide⟩
theorem all_end {q : ByteArray → Bool} {xs : List ByteArray} {k : Nat} (h : (xs.take k).all q = true) (hk : xs.length ≤ k) : xs.all q = true := by
 rwa [List.take_of_length_le hk] at h
theorem ret_bool {a b : Bool} (h : a = b) : Ending.returned (.bool a) = .returned (.bool b) := by rw [h]
theorem ret_i64 {a b : Int} (h : a = b) : Ending.returned (.int .i64 a) = .returned (.int .i64 b) := by rw [h]
theorem croots_any (b : Nat) (xs : List ByteArray) (w : World) (hl : xs.length ≤ 100) (hx : Sl w b xs) :
   Calls Tryz.prog 39 #[.slice (some ⟨b, 0, none⟩) xs.length xs.length] w fun e W' => e = .returned (.int .i64 (neg3L xs)) ∧ Below w.heap.size w W' := by
 have hb := hx.lt
 have HC := Lib.hid hx.cell
 have HR : Hid (∀ q : Bool, xs.any neg3 = q → neg3L xs = if q then 2 else 0) := Lib.hid (fun q h => by unfold neg3L; rw [h])
 clear hx
 go_enter Tryz.func39, Tryz.ntmps39
 go_wp2
 go_loopw [7] (fun i wr => ∃ k : Nat, i = .int .i64 k ∧ k ≤ xs.length ∧ Hid ((xs.take k).any neg3 = false) ∧ Hid (Below w.heap.size w wr)) (fun i _ => xs.length - (intOf i).toNat)
 case atStart => exact ⟨0, rfl, by omega, by show _ = false; simp, Below.refl _ _⟩
 case round =>
   obtain ⟨k, rfl, hk, hd, HBw⟩ := hrel
   by_cases hlt : k < xs.length
   · have hck := (HBw.out.cell (p := ⟨b, k, none⟩) hb).trans (HC.out k hlt)
     have hn : Hid (neg3 (atS xs k) = false → (xs.take (k + 1)).any neg3 = false) := Lib.hid (fun h => by rw [take_at hlt, List.any_append, hd.out]; simp [h])
     have hy : Hid (neg3 (atS xs k) = true → xs.any neg3 = true) := Lib.hid (fun h => List.any_eq_true.2 ⟨_, atS_mem hlt, h⟩)
     have hr := Lib.hid (oneg_any (atS xs k) wr)
     change Hid (Calls _ _ _ _ fun e W' => e = .returned (.bool (neg3 (atS xs k))) ∧ _) at hr
     clear hd
     generalize neg3 (atS xs k) = r at *
     generalize atS xs k = s at *
     go_wp2_with fail
     refine hr.out.mono ?_
     rintro e w' ⟨rfl, b⟩
     have HB2 := Lib.hid (HBw.out.trans (b.mono HBw.out.size)); clear b HBw
     cases r
     · have hnn := Lib.hid (hn.out rfl)
       clear hn hy
       go_wp2
       go_roundw
       case rel => exact ⟨k + 1, by go_num, by omega, hnn.out, HB2.out⟩
       case measure => simp [intOf]; omega
     · have hbb := Lib.hid (HR.out true (hy.out rfl))
       clear hn hy
       go_wp2
       go_ret
       exact ⟨ret_i64 hbb.out.symm, HB2.out⟩
   · have hbb := Lib.hid (HR.out false (by have := hd.out; rwa [List.take_of_length_le (by omega)] at this))
     clear hd
     go_wp2
     go_ret
     exact ⟨ret_i64 hbb.out.symm, HBw.out⟩
def okS (s : ByteArray) : Bool := decide (s.size ≤ 20) && decide (chkQ s.data.toList = 0)
theorem sizes_any (b : Nat) (xs : List ByteArray) (w : World) (hl : xs.length ≤ 100) (hs : ∀ s ∈ xs, s.size ≤ maxLen) (hx : Sl w b xs) (ht : Tab w) (ht2 : Tab64 w) :
   Calls Tryz.prog 10 #[.slice (some ⟨b, 0, none⟩) xs.length xs.length] w fun e W' => e = .returned (.bool (xs.all okS)) ∧ Below w.heap.size w W' := by
 have hb := hx.lt
 have HC := Lib.hid (And.intro hx.cell hs)
 have HT := Lib.hid (And.intro ht ht2); clear ht ht2 hx hs
 go_enter Tryz.func10, Tryz.ntmps10
 go_wp2
 go_loopw [7] (fun i wr => ∃ k : Nat, i = .int .i64 k ∧ k ≤ xs.length ∧ Hid ((xs.take k).all okS = true) ∧ Hid (Below w.heap.size w wr)) (fun i _ => xs.length - (intOf i).toNat)
 case atStart => exact ⟨0, rfl, by omega, by show _ = true; simp, Below.refl _ _⟩
 case round =>
   obtain ⟨k, rfl, hk, hd, HBw⟩ := hrel
   by_cases hlt : k < xs.length
   · have hck := (HBw.out.cell (p := ⟨b, k, none⟩) hb).trans (HC.out.1 k hlt)
     have hn : Hid (okS (atS xs k) = true → (xs.take (k + 1)).all okS = true) := Lib.hid (fun h => all_next hd.out hlt h)
     have hy : Hid (okS (atS xs k) = false → xs.all okS = false) := Lib.hid (fun h => all_no hlt h)
     have hsz := HC.out.2 _ (atS_mem hlt)
     have hr := Lib.hid (checkQ_any (atS xs k) wr hsz (HT.out.1.next HBw.out) (TabQ_next HT.out.2 HBw.out))
     clear hd
     have ho : Hid (∀ p q : Bool, decide ((atS xs k).size ≤ 20) = p → decide (chkQ (atS xs k).data.toList = 0) = q → okS (atS xs k) = (p && q)) := Lib.hid (fun p q h1 h2 => by unfold okS; rw [h1, h2])
     generalize okS (atS xs k) = r at *
     generalize atS xs k = s at *
     generalize hc : chkQ s.data.toList = c at *
     have hc := Lib.hid hc
     have hsz2 : (s.size : Int) ≤ 9223372036854775807 := by unfold maxLen at hsz; omega
     by_cases h1 : s.size ≤ 20
     · have h1' : ¬ (20 : Int) < s.size := by omega
       by_cases h2 : c = 0
       · have hnn := Lib.hid (hn.out (by rw [ho.out true true (decide_eq_true h1) (decide_eq_true h2)]; rfl))
         subst h2
         clear hn hy ho hc hsz
         go_wp2_with fail
         refine hr.out.mono ?_
         rintro e w' ⟨rfl, b⟩
         have HB2 := Lib.hid (HBw.out.trans (b.mono HBw.out.size)); clear b HBw
         go_wp2
         go_roundw
         case rel => exact ⟨k + 1, by go_num, by omega, hnn.out, HB2.out⟩
         case measure => simp [intOf]; omega
       · have hbb := Lib.hid (hy.out (by rw [ho.out true false (decide_eq_true h1) (decide_eq_false h2)]; rfl))
         obtain ⟨n1, n2⟩ := bool_ne h2
         clear hn hy ho hc hsz h2
         go_wp2_with fail
         refine hr.out.mono ?_
         rintro e w' ⟨rfl, b⟩
         have HB2 := Lib.hid (HBw.out.trans (b.mono HBw.out.size)); clear b HBw
         go_wp2
         go_ret
         exact ⟨ret_bool hbb.out.symm, HB2.out⟩
     · have h1' : (20 : Int) < s.size := by omega
       have hbb := Lib.hid (hy.out (by rw [ho.out false (decide (c = 0)) (decide_eq_false h1) rfl]; rfl))
       clear hn hy ho hc hr hsz
       go_wp2
       go_ret
       exact ⟨ret_bool hbb.out.symm, HBw.out⟩
   · have hbb := Lib.hid (all_end hd.out (by omega))
     clear hd
     go_wp2
     go_ret
     exact ⟨ret_bool hbb.out.symm, HBw.out⟩
theorem cmpOr2 (b : Nat) (x y : Int) (w : World) (hb : Blk w b #[.int .i64 x, .int .i64 y]) :
   Calls Tryz.prog 37 #[.slice (some ⟨b, 0, none⟩) 2 2] w fun e W' => e = .returned (.int .i64 (if x = 0 then y else x)) ∧ Below w.heap.size w W' := by
 have c0 := hb.cell 0 _ rfl
 have c1 := hb.cell 1 _ rfl
 clear hb
 by_cases h : x = 0
 · rw [if_pos h]
   subst h
   by_cases h2 : y = 0
   · subst h2
     go_enter Tryz.func37, Tryz.ntmps37
     go_wp2
     go_rounds 3
     all_goals go_ret
     all_goals exact ⟨rfl, Below.refl _ _⟩
   · obtain ⟨n1, n2⟩ := bool_ne h2
     go_enter Tryz.func37, Tryz.ntmps37
     go_wp2
     go_rounds 3
     all_goals go_ret
     all_goals exact ⟨rfl, Below.refl _ _⟩
 · rw [if_neg h]
   obtain ⟨n1, n2⟩ := bool_ne h
   go_enter Tryz.func37, Tryz.ntmps37
   go_wp2
   go_rounds 3
   all_goals go_ret
   all_goals exact ⟨rfl, Below.refl _ _⟩
end Go.Proofs.YtpkloolckbhdaaaGreatDoor.T
namespace Go.Proofs.YtpkloolckbhdaaaGreatDoor.T
open Go.Proofs.YtpkloolckbhdaaaGreatDoor Go.RowKit Go.Lib
end Go.Proofs.YtpkloolckbhdaaaGreatDoor.T
