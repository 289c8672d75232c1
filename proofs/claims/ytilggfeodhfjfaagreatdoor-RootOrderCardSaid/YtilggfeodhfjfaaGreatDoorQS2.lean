/- Parts of the proofs of the texts YtilggfeodhfjfaaGreatDoorQS. -/
import Derived.Deep.LoopGhost
import Derived.Test.YtilggfeodhfjfaaGreatDoorQR1
import Derived.Test.YtilggfeodhfjfaaGreatDoorQR10
import Derived.Test.YtilggfeodhfjfaaGreatDoorQR11
import Derived.Test.YtilggfeodhfjfaaGreatDoorQR12
import Derived.Test.YtilggfeodhfjfaaGreatDoorQR13
import Derived.Test.YtilggfeodhfjfaaGreatDoorQR14
import Derived.Test.YtilggfeodhfjfaaGreatDoorQR15
import Derived.Test.YtilggfeodhfjfaaGreatDoorQR16
import Derived.Test.YtilggfeodhfjfaaGreatDoorQR17
import Derived.Test.YtilggfeodhfjfaaGreatDoorQR18
import Derived.Test.YtilggfeodhfjfaaGreatDoorQR19
import Derived.Test.YtilggfeodhfjfaaGreatDoorQR2
import Derived.Test.YtilggfeodhfjfaaGreatDoorQR20
import Derived.Test.YtilggfeodhfjfaaGreatDoorQR21
import Derived.Test.YtilggfeodhfjfaaGreatDoorQR22
import Derived.Test.YtilggfeodhfjfaaGreatDoorQR23
import Derived.Test.YtilggfeodhfjfaaGreatDoorQR24
import Derived.Test.YtilggfeodhfjfaaGreatDoorQR25
import Derived.Test.YtilggfeodhfjfaaGreatDoorQR26
import Derived.Test.YtilggfeodhfjfaaGreatDoorQR27
import Derived.Test.YtilggfeodhfjfaaGreatDoorQR28
import Derived.Test.YtilggfeodhfjfaaGreatDoorQR29
import Derived.Test.YtilggfeodhfjfaaGreatDoorQR3
import Derived.Test.YtilggfeodhfjfaaGreatDoorQR30
import Derived.Test.YtilggfeodhfjfaaGreatDoorQR4
import Derived.Test.YtilggfeodhfjfaaGreatDoorQR5
import Derived.Test.YtilggfeodhfjfaaGreatDoorQR6
import Derived.Test.YtilggfeodhfjfaaGreatDoorQR7
import Derived.Test.YtilggfeodhfjfaaGreatDoorQR8
import Derived.Test.YtilggfeodhfjfaaGreatDoorQR9
import Derived.Test.YtilggfeodhfjfaaGreatDoorQS1
set_option linter.all false
set_option maxRecDepth 100000
set_option maxHeartbeats 8000000
namespace Go.Proofs.YtilggfeodhfjfaaGreatDoor.T
open Go.Proofs.YtilggfeodhfjfaaGreatDoor Go.RowKit Go.Lib
theorem ret_i {a b : Int} (h : a = b) : Ending.returned (.int .i64 a) = .returned (.int .i64 b) := by rw [h]
theorem fl_facts (n : Int) {d : Int} (h : 0 < d) : n = n.fdiv d * d + n.fmod d ∧ 0 ≤ n.fmod d ∧ n.fmod d < d := by
 rw [Int.fdiv_eq_ediv_of_nonneg _ (Int.le_of_lt h), Int.fmod_eq_emod_of_nonneg _ (Int.le_of_lt h)]
 refine ⟨?_, Int.emod_nonneg _ (by omega), Int.emod_lt_of_pos _ h⟩
 rw [Int.mul_comm]; exact (Int.mul_ediv_add_emod n d).symm
theorem str_beq (a b : Int) : ((strB a).toList == (strB b).toList) = decide (a = b) := by
 rw [ByteArray.toList_eq, ByteArray.toList_eq, strB_data, strB_data]
 by_cases h : a = b
 · subst h; simp
 · rw [decide_eq_false h, beq_eq_false_iff_ne]; intro e; exact h (itoa_inj e)
theorem itoa_zero : Lib.itoa 0 = [48] := by decide +kernel
theorem str_is0 (a : Int) : ((strB a).toList == [48]) = decide (a = 0) := by
 rw [ByteArray.toList_eq, strB_data]
 by_cases h : a = 0
 · subst h; rw [itoa_zero]; rfl
 · rw [decide_eq_false h, beq_eq_false_iff_ne]; intro e; exact h (itoa_inj (e.trans itoa_zero.symm))
theorem str_bne (a b : Int) : ((strB a).toList != (strB b).toList) = !decide (a = b) := by rw [bne, str_beq]
theorem fdiv_short {n d : Int} (hd : 0 < d) (h : short n) : short (n.fdiv d) := Nat.lt_of_le_of_lt (fdiv_abs (x := n) (by omega)).1 h
theorem fmod_short {n d : Int} (hd : 0 < d) (h : short d) : short (n.fmod d) := Nat.lt_of_le_of_lt (fdiv_abs (x := n) (by omega)).2 h
def CmpAt (r n d n' d' : Int) : Prop := (0 < d ∧ 0 < d') ∧ (short n ∧ short d ∧ short n' ∧ short d') ∧ cmpZ (n * d') (n' * d) = r
theorem ocompare_z (n0 d0 n0' d0' r : Int) (w : World) (h0 : CmpAt r n0 d0 n0' d0') (ht : Tab w) :
   Calls Tryz.prog 52 #[.agg #[.string (strB n0), .string (strB d0)], .agg #[.string (strB n0'), .string (strB d0')]] w fun e W' => e = .returned (.int .i64 r) ∧ Below w.heap.size w W' := by
 have cd := fun x y W (hx : short x) (hy : short y) (h0 : 0 < y) (hW : Below w.heap.size w W) => odivide x y W hx hy (by omega) (ht.next hW)
 have co := fun x y W (hx : short x) (hy : short y) => oorder x y W hx hy
 have C := Lib.hid (And.intro cd co); clear cd co ht
 have H0 := Lib.hid h0; clear h0
 go_enter Tryz.func52, Tryz.ntmps52
 go_wp2
 have HB := Lib.hid (And.intro ((Blk.new w #[.string (strB n0), .string (strB d0)] 59).alloc (.cells #[.string (strB n0'), .string (strB d0')] 59)) (And.intro (Blk.new (w.alloc (.cells #[.string (strB n0), .string (strB d0)] 59)) #[.string (strB n0'), .string (strB d0')] 59) (((Below.refl _ w).alloc (Nat.le_refl _) (.cells #[.string (strB n0), .string (strB d0)] 59)).alloc (by simp) (.cells #[.string (strB n0'), .string (strB d0')] 59))))
 simp only [World.size_alloc] at HB
 generalize (w.alloc (.cells #[.string (strB n0), .string (strB d0)] 59)).alloc (.cells #[.string (strB n0'), .string (strB d0')] 59) = W0 at *
 generalize hk : w.heap.size = k at *
 have HK := Lib.hid hk; clear hk
 go_loopg [] (d0 + d0').toNat (fun g wx => ∃ n d n' d' : Int, g = (d + d').toNat ∧ Hid (CmpAt r n d n' d') ∧ Hid (Blk wx k #[.string (strB n), .string (strB d)] ∧ Blk wx (k + 1) #[.string (strB n'), .string (strB d')] ∧ Below k w wx))
 case atStart => exact ⟨n0, d0, n0', d0', rfl, H0, HB⟩
 case round =>
   clear HB H0
   obtain ⟨n, d, n', d', rfl, HA, HB⟩ := hrel
   obtain ⟨a1, a2, a3⟩ := fl_facts n HA.out.1.1
   obtain ⟨b1, b2, b3⟩ := fl_facts n' HA.out.1.2
   have sq := Lib.hid (fdiv_short HA.out.1.1 HA.out.2.1.1)
   have sq' := Lib.hid (fdiv_short HA.out.1.2 HA.out.2.1.2.2.1)
   have sr := Lib.hid (fmod_short (n := n) HA.out.1.1 HA.out.2.1.2.1)
   have sr' := Lib.hid (fmod_short (n := n') HA.out.1.2 HA.out.2.1.2.2.2)
   have c1 := fun W (hW : Below k w W) => C.out.1 n d W HA.out.2.1.1 HA.out.2.1.2.1 HA.out.1.1 hW
   have c2 := fun W (hW : Below k w W) => C.out.1 n' d' W HA.out.2.1.2.2.1 HA.out.2.1.2.2.2 HA.out.1.2 hW
   have e1 : Hid (n.fdiv d ≠ n'.fdiv d' → cmpZ (n.fdiv d) (n'.fdiv d') = r) := Lib.hid (fun h => by rw [← HA.out.2.2]; exact (cmp_whole HA.out.1.1 HA.out.1.2 a1 b1 a2 a3 b2 b3 h).symm)
   have e2 : Hid (n.fdiv d = n'.fdiv d' → (n.fmod d = 0 ∨ n'.fmod d' = 0) → cmpZ (n.fmod d) (n'.fmod d') = r) := Lib.hid (fun h h2 => by
     rw [← HA.out.2.2, cmp_rest a1 (h ▸ b1)]; exact (cmp_end HA.out.1.1 HA.out.1.2 a2 b2 h2).symm)
   have e3 : Hid (n.fdiv d = n'.fdiv d' → n.fmod d ≠ 0 → n'.fmod d' ≠ 0 → CmpAt r d' (n'.fmod d') d (n.fmod d)) := Lib.hid (fun h h2 h3 => by
     refine ⟨⟨by omega, by omega⟩, ⟨HA.out.2.1.2.2.2, sr'.out, HA.out.2.1.2.1, sr.out⟩, ?_⟩
     rw [← HA.out.2.2, cmp_rest a1 (h ▸ b1), cmp_turn])
   have e4 : Hid ((n'.fmod d' + n.fmod d).toNat < (d + d').toNat) := Lib.hid (by omega)
   clear a1 a2 a3 b1 b2 b3 HA
   generalize n.fdiv d = q at *
   generalize n'.fdiv d' = q' at *
   generalize n.fmod d = s at *
   generalize n'.fmod d' = s' at *
   have C2 := Lib.hid (And.intro c1 c2); clear c1 c2
   have e00 := (show World.cell? _ ⟨k, 0, none⟩ = some (.string (strB n)) from HB.out.1.cell 0 _ rfl); have f00 := (show World.frozen? _ ⟨k, 0, none⟩ = false from HB.out.1.free 0); have e01 := (show World.cell? _ ⟨k, 1, none⟩ = some (.string (strB d)) from HB.out.1.cell 1 _ rfl); have f01 := (show World.frozen? _ ⟨k, 1, none⟩ = false from HB.out.1.free 1); have e10 := (show World.cell? _ ⟨k + 1, 0, none⟩ = some (.string (strB n')) from HB.out.2.1.cell 0 _ rfl); have f10 := (show World.frozen? _ ⟨k + 1, 0, none⟩ = false from HB.out.2.1.free 0); have e11 := (show World.cell? _ ⟨k + 1, 1, none⟩ = some (.string (strB d')) from HB.out.2.1.cell 1 _ rfl); have f11 := (show World.frozen? _ ⟨k + 1, 1, none⟩ = false from HB.out.2.1.free 1)
   go_wp2_with fail
   refine (C2.out.1 _ HB.out.2.2).mono ?_
   rintro e w1 ⟨rfl, b⟩
   have HN := Lib.hid (And.intro (HB.out.1.next b) (And.intro (HB.out.2.1.next b) (HB.out.2.2.trans (b.mono (by have h1 := HB.out.2.2.size; have h2 := HK.out; omega))))); clear HB b; have HB := HN; clear HN; have e00 := (show World.cell? _ ⟨k, 0, none⟩ = some (.string (strB n)) from HB.out.1.cell 0 _ rfl); have f00 := (show World.frozen? _ ⟨k, 0, none⟩ = false from HB.out.1.free 0); have e01 := (show World.cell? _ ⟨k, 1, none⟩ = some (.string (strB d)) from HB.out.1.cell 1 _ rfl); have f01 := (show World.frozen? _ ⟨k, 1, none⟩ = false from HB.out.1.free 1); have e10 := (show World.cell? _ ⟨k + 1, 0, none⟩ = some (.string (strB n')) from HB.out.2.1.cell 0 _ rfl); have f10 := (show World.frozen? _ ⟨k + 1, 0, none⟩ = false from HB.out.2.1.free 0); have e11 := (show World.cell? _ ⟨k + 1, 1, none⟩ = some (.string (strB d')) from HB.out.2.1.cell 1 _ rfl); have f11 := (show World.frozen? _ ⟨k + 1, 1, none⟩ = false from HB.out.2.1.free 1)
   go_wp2_with fail
   refine (C2.out.2 _ HB.out.2.2).mono ?_
   rintro e w2 ⟨rfl, b⟩
   have HN := Lib.hid (And.intro (HB.out.1.next b) (And.intro (HB.out.2.1.next b) (HB.out.2.2.trans (b.mono (by have h1 := HB.out.2.2.size; have h2 := HK.out; omega))))); clear HB b; have HB := HN; clear HN; have e00 := (show World.cell? _ ⟨k, 0, none⟩ = some (.string (strB n)) from HB.out.1.cell 0 _ rfl); have f00 := (show World.frozen? _ ⟨k, 0, none⟩ = false from HB.out.1.free 0); have e01 := (show World.cell? _ ⟨k, 1, none⟩ = some (.string (strB d)) from HB.out.1.cell 1 _ rfl); have f01 := (show World.frozen? _ ⟨k, 1, none⟩ = false from HB.out.1.free 1); have e10 := (show World.cell? _ ⟨k + 1, 0, none⟩ = some (.string (strB n')) from HB.out.2.1.cell 0 _ rfl); have f10 := (show World.frozen? _ ⟨k + 1, 0, none⟩ = false from HB.out.2.1.free 0); have e11 := (show World.cell? _ ⟨k + 1, 1, none⟩ = some (.string (strB d')) from HB.out.2.1.cell 1 _ rfl); have f11 := (show World.frozen? _ ⟨k + 1, 1, none⟩ = false from HB.out.2.1.free 1)
   by_cases hq : q = q'
   · have z0 := str_beq q q'
     have z0' := str_bne q q'
     rw [decide_eq_true hq] at z0 z0'
     change _ = false at z0'
     by_cases hz : s = 0 ∨ s' = 0
     · have E := Lib.hid (e2.out hq hz)
       clear e1 e2 e3 e4
       have z1 := str_is0 s
       have z2 := str_is0 s'
       by_cases hs : s = 0
       · rw [decide_eq_true hs] at z1
         clear hz hs hq z2
         go_wp2_with fail
         refine (C.out.2 _ _ _ sr.out sr'.out).mono ?_
         rintro e w3 ⟨rfl, b⟩
         have HN := Lib.hid (And.intro (HB.out.1.next b) (And.intro (HB.out.2.1.next b) (HB.out.2.2.trans (b.mono (by have h1 := HB.out.2.2.size; have h2 := HK.out; omega))))); clear HB b; have HB := HN; clear HN; have e00 := (show World.cell? _ ⟨k, 0, none⟩ = some (.string (strB n)) from HB.out.1.cell 0 _ rfl); have f00 := (show World.frozen? _ ⟨k, 0, none⟩ = false from HB.out.1.free 0); have e01 := (show World.cell? _ ⟨k, 1, none⟩ = some (.string (strB d)) from HB.out.1.cell 1 _ rfl); have f01 := (show World.frozen? _ ⟨k, 1, none⟩ = false from HB.out.1.free 1); have e10 := (show World.cell? _ ⟨k + 1, 0, none⟩ = some (.string (strB n')) from HB.out.2.1.cell 0 _ rfl); have f10 := (show World.frozen? _ ⟨k + 1, 0, none⟩ = false from HB.out.2.1.free 0); have e11 := (show World.cell? _ ⟨k + 1, 1, none⟩ = some (.string (strB d')) from HB.out.2.1.cell 1 _ rfl); have f11 := (show World.frozen? _ ⟨k + 1, 1, none⟩ = false from HB.out.2.1.free 1)
         go_wp2
         go_ret
         refine ⟨ret_i E.out, ?_⟩
         rw [HK.out]; exact HB.out.2.2
       · rw [decide_eq_false hs] at z1
         rw [decide_eq_true (hz.resolve_left hs)] at z2
         clear hz hs hq
         go_wp2_with fail
         refine (C.out.2 _ _ _ sr.out sr'.out).mono ?_
         rintro e w3 ⟨rfl, b⟩
         have HN := Lib.hid (And.intro (HB.out.1.next b) (And.intro (HB.out.2.1.next b) (HB.out.2.2.trans (b.mono (by have h1 := HB.out.2.2.size; have h2 := HK.out; omega))))); clear HB b; have HB := HN; clear HN; have e00 := (show World.cell? _ ⟨k, 0, none⟩ = some (.string (strB n)) from HB.out.1.cell 0 _ rfl); have f00 := (show World.frozen? _ ⟨k, 0, none⟩ = false from HB.out.1.free 0); have e01 := (show World.cell? _ ⟨k, 1, none⟩ = some (.string (strB d)) from HB.out.1.cell 1 _ rfl); have f01 := (show World.frozen? _ ⟨k, 1, none⟩ = false from HB.out.1.free 1); have e10 := (show World.cell? _ ⟨k + 1, 0, none⟩ = some (.string (strB n')) from HB.out.2.1.cell 0 _ rfl); have f10 := (show World.frozen? _ ⟨k + 1, 0, none⟩ = false from HB.out.2.1.free 0); have e11 := (show World.cell? _ ⟨k + 1, 1, none⟩ = some (.string (strB d')) from HB.out.2.1.cell 1 _ rfl); have f11 := (show World.frozen? _ ⟨k + 1, 1, none⟩ = false from HB.out.2.1.free 1)
         go_wp2
         go_ret
         refine ⟨ret_i E.out, ?_⟩
         rw [HK.out]; exact HB.out.2.2
     · have hs : s ≠ 0 := fun h => hz (.inl h)
       have hs' : s' ≠ 0 := fun h => hz (.inr h)
       have E := Lib.hid (e3.out hq hs hs')
       have z1 := str_is0 s
       have z2 := str_is0 s'
       rw [decide_eq_false hs] at z1
       rw [decide_eq_false hs'] at z2
       clear e1 e2 e3 hz hs hs' hq
       go_wp2
       go_roundg (s' + s).toNat
       case rel =>
         refine ⟨d', s', d, s, rfl, E, Lib.hid ⟨?_, ?_, ?_⟩⟩
         · exact (HB.out.1.put2 _ _).other2 (by omega) _ _
         · exact (HB.out.2.1.other2 (by omega) _ _).put2 _ _
         · exact below_put2 (below_put2 HB.out.2.2 (Nat.le_refl _) _ _) (by omega) _ _
       case measure => exact e4.out
   · have z0 := str_beq q q'
     have z0' := str_bne q q'
     rw [decide_eq_false hq] at z0 z0'
     change _ = true at z0'
     have E := Lib.hid (e1.out hq)
     clear e1 e2 e3 e4 hq
     go_wp2_with fail
     refine (C.out.2 _ _ _ sq.out sq'.out).mono ?_
     rintro e w3 ⟨rfl, b⟩
     have HN := Lib.hid (And.intro (HB.out.1.next b) (And.intro (HB.out.2.1.next b) (HB.out.2.2.trans (b.mono (by have h1 := HB.out.2.2.size; have h2 := HK.out; omega))))); clear HB b; have HB := HN; clear HN; have e00 := (show World.cell? _ ⟨k, 0, none⟩ = some (.string (strB n)) from HB.out.1.cell 0 _ rfl); have f00 := (show World.frozen? _ ⟨k, 0, none⟩ = false from HB.out.1.free 0); have e01 := (show World.cell? _ ⟨k, 1, none⟩ = some (.string (strB d)) from HB.out.1.cell 1 _ rfl); have f01 := (show World.frozen? _ ⟨k, 1, none⟩ = false from HB.out.1.free 1); have e10 := (show World.cell? _ ⟨k + 1, 0, none⟩ = some (.string (strB n')) from HB.out.2.1.cell 0 _ rfl); have f10 := (show World.frozen? _ ⟨k + 1, 0, none⟩ = false from HB.out.2.1.free 0); have e11 := (show World.cell? _ ⟨k + 1, 1, none⟩ = some (.string (strB d')) from HB.out.2.1.cell 1 _ rfl); have f11 := (show World.frozen? _ ⟨k + 1, 1, none⟩ = false from HB.out.2.1.free 1)
     go_wp2
     go_ret
     refine ⟨ret_i E.out, ?_⟩
     rw [HK.out]; exact HB.out.2.2
end Go.Proofs.YtilggfeodhfjfaaGreatDoor.T
namespace Go.Proofs.YtilggfeodhfjfaaGreatDoor.T
open Go.Proofs.YtilggfeodhfjfaaGreatDoor Go.RowKit Go.Lib
theorem osigsq (a p : Rat) (j k : Nat) (w : World) (ha : Bq j a) (hp : Bq k p) (hj : j + j + k ≤ 300) (ht : Tab w) :
   Calls Tryz.prog 51 #[.string (strQ a), .string (strQ p)] w fun e W' => e = .returned (.agg #[.string (strB (a.num * (a.num.natAbs : Nat) * p.num)), .string (strB ((a.den : Int) * a.den * p.den))]) ∧ Below w.heap.size w W' := by
 have na : Bd j ((a.num.natAbs : Nat) : Int) := by have := ha.num; unfold Bd at this ⊢; rwa [Int.natAbs_natCast]
 have n1 := ha.num.mul na
 have d1 := ha.den.mul ha.den
 have n2 := n1.mul hp.num
 have d2 := d1.mul hp.den
 have sa : Sq a := ha.lim (by omega)
 have sp : Sq p := hp.lim (by omega)
 exact sigsq_z (strQ a) (strQ p) a.num (a.den : Int) p.num (p.den : Int) (a.num.natAbs : Nat) w sa.n sa.d sp.n sp.d (short_le (by omega) na) (short_le (by omega) n1) (short_le (by omega) d1) (short_le (by omega) n2) (short_le (by omega) d2) ht (szB_str _)
   (fun W _ => oparts_q a W sa) (fun W _ => oparts_q p W sp)
end Go.Proofs.YtilggfeodhfjfaaGreatDoor.T
namespace Go.Proofs.YtilggfeodhfjfaaGreatDoor.T
open Go.Proofs.YtilggfeodhfjfaaGreatDoor Go Go.RowKit Go.Shelf
section
attribute [local go_sem] Oper.semAt_some
theorem check_ok4 (b : Nat) (q0 q1 q2 q3 : Rat) (w : World) (h0 : Bq 90 q0) (h1 : Bq 90 q1) (h2 : Bq 90 q2) (h3 : Bq 90 q3) (hx : Sl w b [strQ q0, strQ q1, strQ q2, strQ q3]) (ht : Tab w) (ht2 : Tab64 w) :
   Calls Tryz.prog 40 #[.slice (some ⟨b, 0, none⟩) 4 4] w fun e W' => e = .returned (.int .i64 0) ∧ Below w.heap.size w W' := by
 refine (callsIn_wide (n := 9)).1 ?_
 have K0 := Lib.hid (fun W (h : Below w.heap.size w W) => Check_q q0 W (h0.lim (by decide)) (ht.next h) (TabQ_next ht2 h))
 have P0 := Lib.hid (fun W => oparts_q q0 W (h0.lim (by decide)))
 have X0 : Hid (w.cell? ⟨b, 0, none⟩ = some (.string (strQ q0))) := Lib.hid (hx.cell 0 (by simp))
 have B0 : Hid (∀ z ∈ [q0.num, (q0.den : Int)], Bd 90 z) := Lib.hid (by
   intro z hz
   have h : z = q0.num ∨ z = (q0.den : Int) := by simpa using hz
   rcases h with e | e
   · rw [e]; exact h0.num
   · rw [e]; exact h0.den)
 have K1 := Lib.hid (fun W (h : Below w.heap.size w W) => Check_q q1 W (h1.lim (by decide)) (ht.next h) (TabQ_next ht2 h))
 have P1 := Lib.hid (fun W => oparts_q q1 W (h1.lim (by decide)))
 have X1 : Hid (w.cell? ⟨b, 1, none⟩ = some (.string (strQ q1))) := Lib.hid (hx.cell 1 (by simp))
 have B1 : Hid (∀ z ∈ [q1.num, (q1.den : Int)], Bd 90 z) := Lib.hid (by
   intro z hz
   have h : z = q1.num ∨ z = (q1.den : Int) := by simpa using hz
   rcases h with e | e
   · rw [e]; exact h1.num
   · rw [e]; exact h1.den)
 have K2 := Lib.hid (fun W (h : Below w.heap.size w W) => Check_q q2 W (h2.lim (by decide)) (ht.next h) (TabQ_next ht2 h))
 have P2 := Lib.hid (fun W => oparts_q q2 W (h2.lim (by decide)))
 have X2 : Hid (w.cell? ⟨b, 2, none⟩ = some (.string (strQ q2))) := Lib.hid (hx.cell 2 (by simp))
 have B2 : Hid (∀ z ∈ [q2.num, (q2.den : Int)], Bd 90 z) := Lib.hid (by
   intro z hz
   have h : z = q2.num ∨ z = (q2.den : Int) := by simpa using hz
   rcases h with e | e
   · rw [e]; exact h2.num
   · rw [e]; exact h2.den)
 have K3 := Lib.hid (fun W (h : Below w.heap.size w W) => Check_q q3 W (h3.lim (by decide)) (ht.next h) (TabQ_next ht2 h))
 have P3 := Lib.hid (fun W => oparts_q q3 W (h3.lim (by decide)))
 have X3 : Hid (w.cell? ⟨b, 3, none⟩ = some (.string (strQ q3))) := Lib.hid (hx.cell 3 (by simp))
 have B3 : Hid (∀ z ∈ [q3.num, (q3.den : Int)], Bd 90 z) := Lib.hid (by
   intro z hz
   have h : z = q3.num ∨ z = (q3.den : Int) := by simpa using hz
   rcases h with e | e
   · rw [e]; exact h3.num
   · rw [e]; exact h3.den)
 have hbl := hx.lt
 clear h0 h1 h2 h3 hx ht ht2
 generalize strQ q0 = s0 at *
 generalize q0.num = n0 at *
 generalize (q0.den : Int) = d0 at *
 generalize strQ q1 = s1 at *
 generalize q1.num = n1 at *
 generalize (q1.den : Int) = d1 at *
 generalize strQ q2 = s2 at *
 generalize q2.num = n2 at *
 generalize (q2.den : Int) = d2 at *
 generalize strQ q3 = s3 at *
 generalize q3.num = n3 at *
 generalize (q3.den : Int) = d3 at *
 refine callsIn_of_wp_marks Tryz.func40 rfl trivial ?_ rfl
 simp only [Tryz.ntmps40, List.size_toArray, List.length_cons, List.length_nil, Nat.reduceAdd, Nat.reduceSub, Array.replicate_succ, Array.replicate_zero, List.push_toArray, List.append_toArray, List.nil_append, List.cons_append]
 gi_wp2
 have HB := Lib.hid (And.intro (Boxed.new w 26 (.int .i64 0)) ((Below.refl _ w).alloc (Nat.le_refl _) (.cells #[.int .i64 0] 26)))
 generalize w.alloc (.cells #[.int .i64 0] 26) = V0 at *
 refine wpIn_loop_rounds 5 ?_
 rw [Code.roundsIn]
 have hc := (HB.out.2.cell (p := ⟨b, 0, none⟩) hbl).trans X0.out
 gi_wp2_with fail
 refine ⟨trivial, ?_⟩
 refine (callsIn_wide.2 (K0.out _ HB.out.2)).mono ?_
 rintro e w1 ⟨rfl, bb⟩
 clear hc
 have HN := Lib.hid (And.intro (HB.out.1.kept (grownB bb) (by simp)) (HB.out.2.trans (bb.mono HB.out.2.size)))
 clear HB bb; have HB := HN; clear HN
 gi_wp2_with fail
 refine ⟨trivial, ?_⟩
 refine (callsIn_wide.2 (P0.out _)).mono ?_
 rintro e w2 ⟨rfl, bb⟩
 have HN := Lib.hid (And.intro (HB.out.1.kept (grownB bb) (by simp)) (HB.out.2.trans (bb.mono HB.out.2.size)))
 clear HB bb; have HB := HN; clear HN
 have LS0 := Lib.hid HB.out.2.size
 gi_wp2
 refine range_mv rfl (by omega) (gf := 89) (fs := #[.agg #[.string (strB n0), .string (strB d0)]]) rfl trivial (enters_of Tryz.func89 (by kernel_rfl) rfl)
   (each_hands strB n0 d0 (9 - 1) w2 (by omega)) (fun _ => rfl) .ret (.inl rfl)
   (fun _ W => Boxed W w.heap.size 26 (.int .i64 0) ∧ Below w.heap.size w W)
   (fun _ _ => False)
   (OwnFrom.and (Own.from (boxed_own _ _ (fun _ => .int .i64 0)) _) (ownFrom_below (Nat.le_refl _) HB.out.2.size))
   (fun _ _ _ _ h _ _ => h)
   (fun s A h => ⟨h.1, h.2.drew⟩)
   (HB.out)
   (fun z => { tmps := #[.slice (some ⟨b, 0, none⟩) 4 4, undef, .pointer (some ⟨w.heap.size, 0, none⟩), undef, .string s0, .int .i64 0, .string (strB z), .slice (some ⟨b, 0, none⟩) 4 4, .int .i64 4, .int .i64 0, .bool true, .pointer (some ⟨b, 0, none⟩), .string s0, .string s0, .int .i64 0, .int .i64 0, .bool false, undef, .string s0, .agg #[.string (strB n0), .string (strB d0)], .func (.func 89) #[.agg #[.string (strB n0), .string (strB d0)]] #[], .string (strB z), undef, undef, undef, undef, undef], defers := [] }) ?assign0 ?body0 ?done0 ?stop0
 case assign0 =>
   intro l x W K hK
   gi_wp2
   exact hK
 case body0 =>
   rintro l pre z r' W hle hx hI
   have hz := sz90 (B0.out z (by rw [hx]; simp))
   have HI := Lib.hid hI; clear hI hx
   have ct := Lib.hid (fun W => trim_any z W)
   generalize szB (strB z) = u at *
   have hz1 : ¬ (90 : Int) < u.size := by omega
   have hz2 : (u.size : Int) ≤ 9223372036854775807 := by omega
   gi_wp2_with fail
   refine ⟨trivial, ?_⟩
   refine (CallsIn.inRound l (callsIn_wide.2 (ct.out _))).mono ?_
   rintro e w3 ⟨rfl, rfl⟩
   gi_wp2
   exact ⟨KeepsFrom.refl _ _, fun _ => Kb.refl _ _, HI.out⟩
 case stop0 =>
   rintro D pre r' W hD hx h hK
   exact h.elim
 case done0 =>
 rintro D0 V1 hD0 hBx hM0
 have HN := Lib.hid hBx
 have HE0 := Lib.hid hD0
 have LO0 : Hid (w.heap.size ≤ D0) := Lib.hid (Nat.le_trans LS0.out HE0.out)
 clear HB hBx hD0; have HB := HN; clear HN
 have HM0 := Lib.hid hM0; clear hM0
 gi_wp2
 rw [Code.roundsIn]
 have hc := (HB.out.2.cell (p := ⟨b, 1, none⟩) hbl).trans X1.out
 gi_wp2_with fail
 refine ⟨trivial, ?_⟩
 refine (callsIn_wide.2 (K1.out _ HB.out.2)).mono ?_
 rintro e w1 ⟨rfl, bb⟩
 clear hc
 have HN := Lib.hid (And.intro (HB.out.1.kept (grownB bb) (by simp)) (HB.out.2.trans (bb.mono HB.out.2.size)))
 have HN0 := Lib.hid ((bb.block D0 (Array.getElem?_eq_some_iff.1 HM0.out).1).trans HM0.out); clear HM0; have HM0 := HN0; clear HN0
 clear HB bb; have HB := HN; clear HN
 gi_wp2_with fail
 refine ⟨trivial, ?_⟩
 refine (callsIn_wide.2 (P1.out _)).mono ?_
 rintro e w2 ⟨rfl, bb⟩
 have HN := Lib.hid (And.intro (HB.out.1.kept (grownB bb) (by simp)) (HB.out.2.trans (bb.mono HB.out.2.size)))
 have HN0 := Lib.hid ((bb.block D0 (Array.getElem?_eq_some_iff.1 HM0.out).1).trans HM0.out); clear HM0; have HM0 := HN0; clear HN0
 clear HB bb; have HB := HN; clear HN
 have LT01 := Lib.hid (Array.getElem?_eq_some_iff.1 HM0.out).1
 have LS1 := Lib.hid HB.out.2.size
 gi_wp2
 refine range_mv rfl (by omega) (gf := 89) (fs := #[.agg #[.string (strB n1), .string (strB d1)]]) rfl trivial (enters_of Tryz.func89 (by kernel_rfl) rfl)
   (each_hands strB n1 d1 (9 - 1) w2 (by omega)) (fun _ => rfl) .ret (.inl rfl)
   (fun _ W => W.heap[D0]? = some (.deferred (some [])) ∧ (Boxed W w.heap.size 26 (.int .i64 0) ∧ Below w.heap.size w W))
   (fun _ _ => False)
   (OwnFrom.and (ownFrom_at (Array.getElem?_eq_some_iff.1 HM0.out).1) (OwnFrom.and (Own.from (boxed_own _ _ (fun _ => .int .i64 0)) _) (ownFrom_below (Nat.le_refl _) HB.out.2.size)))
   (fun _ _ _ _ h _ _ => h)
   (fun s A h => ⟨h.1, ⟨h.2.1, h.2.2.drew⟩⟩)
   (⟨HM0.out, HB.out⟩)
   (fun z => { tmps := #[.slice (some ⟨b, 0, none⟩) 4 4, undef, .pointer (some ⟨w.heap.size, 0, none⟩), undef, .string s1, .int .i64 0, .string (strB z), .slice (some ⟨b, 0, none⟩) 4 4, .int .i64 4, .int .i64 1, .bool true, .pointer (some ⟨b, 1, none⟩), .string s1, .string s1, .int .i64 0, .int .i64 0, .bool false, undef, .string s1, .agg #[.string (strB n1), .string (strB d1)], .func (.func 89) #[.agg #[.string (strB n1), .string (strB d1)]] #[], .string (strB z), undef, undef, undef, undef, .int .i64 1], defers := [] }) ?assign1 ?body1 ?done1 ?stop1
 case assign1 =>
   intro l x W K hK
   gi_wp2
   exact hK
 case body1 =>
   rintro l pre z r' W hle hx hI
   have hz := sz90 (B1.out z (by rw [hx]; simp))
   have HI := Lib.hid hI; clear hI hx
   have ct := Lib.hid (fun W => trim_any z W)
   generalize szB (strB z) = u at *
   have hz1 : ¬ (90 : Int) < u.size := by omega
   have hz2 : (u.size : Int) ≤ 9223372036854775807 := by omega
   gi_wp2_with fail
   refine ⟨trivial, ?_⟩
   refine (CallsIn.inRound l (callsIn_wide.2 (ct.out _))).mono ?_
   rintro e w3 ⟨rfl, rfl⟩
   gi_wp2
   exact ⟨KeepsFrom.refl _ _, fun _ => Kb.refl _ _, HI.out⟩
 case stop1 =>
   rintro D pre r' W hD hx h hK
   exact h.elim
 case done1 =>
 rintro D1 V2 hD1 ⟨hM0, hBx⟩ hM1
 have HN := Lib.hid hBx
 have HE1 := Lib.hid hD1
 have LO1 : Hid (w.heap.size ≤ D1) := Lib.hid (Nat.le_trans LS1.out HE1.out)
 clear HB hBx hD1; have HB := HN; clear HN
 have NE01 : Hid (D0 ≠ D1) := Lib.hid (by have h1 := LT01.out; have h2 := HE1.out; have h3 := h1; omega)
 clear HM0
 have HM0 := Lib.hid hM0; clear hM0
 have HM1 := Lib.hid hM1; clear hM1
 gi_wp2
 rw [Code.roundsIn]
 have hc := (HB.out.2.cell (p := ⟨b, 2, none⟩) hbl).trans X2.out
 gi_wp2_with fail
 refine ⟨trivial, ?_⟩
 refine (callsIn_wide.2 (K2.out _ HB.out.2)).mono ?_
 rintro e w1 ⟨rfl, bb⟩
 clear hc
 have HN := Lib.hid (And.intro (HB.out.1.kept (grownB bb) (by simp)) (HB.out.2.trans (bb.mono HB.out.2.size)))
 have HN0 := Lib.hid ((bb.block D0 (Array.getElem?_eq_some_iff.1 HM0.out).1).trans HM0.out); clear HM0; have HM0 := HN0; clear HN0
 have HN1 := Lib.hid ((bb.block D1 (Array.getElem?_eq_some_iff.1 HM1.out).1).trans HM1.out); clear HM1; have HM1 := HN1; clear HN1
 clear HB bb; have HB := HN; clear HN
 gi_wp2_with fail
 refine ⟨trivial, ?_⟩
 refine (callsIn_wide.2 (P2.out _)).mono ?_
 rintro e w2 ⟨rfl, bb⟩
 have HN := Lib.hid (And.intro (HB.out.1.kept (grownB bb) (by simp)) (HB.out.2.trans (bb.mono HB.out.2.size)))
 have HN0 := Lib.hid ((bb.block D0 (Array.getElem?_eq_some_iff.1 HM0.out).1).trans HM0.out); clear HM0; have HM0 := HN0; clear HN0
 have HN1 := Lib.hid ((bb.block D1 (Array.getElem?_eq_some_iff.1 HM1.out).1).trans HM1.out); clear HM1; have HM1 := HN1; clear HN1
 clear HB bb; have HB := HN; clear HN
 have LT02 := Lib.hid (Array.getElem?_eq_some_iff.1 HM0.out).1
 have LT12 := Lib.hid (Array.getElem?_eq_some_iff.1 HM1.out).1
 have LS2 := Lib.hid HB.out.2.size
 gi_wp2
 refine range_mv rfl (by omega) (gf := 89) (fs := #[.agg #[.string (strB n2), .string (strB d2)]]) rfl trivial (enters_of Tryz.func89 (by kernel_rfl) rfl)
   (each_hands strB n2 d2 (9 - 1) w2 (by omega)) (fun _ => rfl) .ret (.inl rfl)
   (fun _ W => W.heap[D1]? = some (.deferred (some [])) ∧ (W.heap[D0]? = some (.deferred (some [])) ∧ (Boxed W w.heap.size 26 (.int .i64 0) ∧ Below w.heap.size w W)))
   (fun _ _ => False)
   (OwnFrom.and (ownFrom_at (Array.getElem?_eq_some_iff.1 HM1.out).1) (OwnFrom.and (ownFrom_at (Array.getElem?_eq_some_iff.1 HM0.out).1) (OwnFrom.and (Own.from (boxed_own _ _ (fun _ => .int .i64 0)) _) (ownFrom_below (Nat.le_refl _) HB.out.2.size))))
   (fun _ _ _ _ h _ _ => h)
   (fun s A h => ⟨h.1, ⟨h.2.1, ⟨h.2.2.1, h.2.2.2.drew⟩⟩⟩)
   (⟨HM1.out, ⟨HM0.out, HB.out⟩⟩)
   (fun z => { tmps := #[.slice (some ⟨b, 0, none⟩) 4 4, undef, .pointer (some ⟨w.heap.size, 0, none⟩), undef, .string s2, .int .i64 0, .string (strB z), .slice (some ⟨b, 0, none⟩) 4 4, .int .i64 4, .int .i64 2, .bool true, .pointer (some ⟨b, 2, none⟩), .string s2, .string s2, .int .i64 0, .int .i64 0, .bool false, undef, .string s2, .agg #[.string (strB n2), .string (strB d2)], .func (.func 89) #[.agg #[.string (strB n2), .string (strB d2)]] #[], .string (strB z), undef, undef, undef, undef, .int .i64 2], defers := [] }) ?assign2 ?body2 ?done2 ?stop2
 case assign2 =>
   intro l x W K hK
   gi_wp2
   exact hK
 case body2 =>
   rintro l pre z r' W hle hx hI
   have hz := sz90 (B2.out z (by rw [hx]; simp))
   have HI := Lib.hid hI; clear hI hx
   have ct := Lib.hid (fun W => trim_any z W)
   generalize szB (strB z) = u at *
   have hz1 : ¬ (90 : Int) < u.size := by omega
   have hz2 : (u.size : Int) ≤ 9223372036854775807 := by omega
   gi_wp2_with fail
   refine ⟨trivial, ?_⟩
   refine (CallsIn.inRound l (callsIn_wide.2 (ct.out _))).mono ?_
   rintro e w3 ⟨rfl, rfl⟩
   gi_wp2
   exact ⟨KeepsFrom.refl _ _, fun _ => Kb.refl _ _, HI.out⟩
 case stop2 =>
   rintro D pre r' W hD hx h hK
   exact h.elim
 case done2 =>
 rintro D2 V3 hD2 ⟨hM1, ⟨hM0, hBx⟩⟩ hM2
 have HN := Lib.hid hBx
 have HE2 := Lib.hid hD2
 have LO2 : Hid (w.heap.size ≤ D2) := Lib.hid (Nat.le_trans LS2.out HE2.out)
 clear HB hBx hD2; have HB := HN; clear HN
 have NE02 : Hid (D0 ≠ D2) := Lib.hid (by have h1 := LT02.out; have h2 := HE2.out; have h3 := h1; omega)
 have NE12 : Hid (D1 ≠ D2) := Lib.hid (by have h1 := LT12.out; have h2 := HE2.out; have h3 := h1; omega)
 clear HM0 HM1
 have HM0 := Lib.hid hM0; clear hM0
 have HM1 := Lib.hid hM1; clear hM1
 have HM2 := Lib.hid hM2; clear hM2
 gi_wp2
 rw [Code.roundsIn]
 have hc := (HB.out.2.cell (p := ⟨b, 3, none⟩) hbl).trans X3.out
 gi_wp2_with fail
 refine ⟨trivial, ?_⟩
 refine (callsIn_wide.2 (K3.out _ HB.out.2)).mono ?_
 rintro e w1 ⟨rfl, bb⟩
 clear hc
 have HN := Lib.hid (And.intro (HB.out.1.kept (grownB bb) (by simp)) (HB.out.2.trans (bb.mono HB.out.2.size)))
 have HN0 := Lib.hid ((bb.block D0 (Array.getElem?_eq_some_iff.1 HM0.out).1).trans HM0.out); clear HM0; have HM0 := HN0; clear HN0
 have HN1 := Lib.hid ((bb.block D1 (Array.getElem?_eq_some_iff.1 HM1.out).1).trans HM1.out); clear HM1; have HM1 := HN1; clear HN1
 have HN2 := Lib.hid ((bb.block D2 (Array.getElem?_eq_some_iff.1 HM2.out).1).trans HM2.out); clear HM2; have HM2 := HN2; clear HN2
 clear HB bb; have HB := HN; clear HN
 gi_wp2_with fail
 refine ⟨trivial, ?_⟩
 refine (callsIn_wide.2 (P3.out _)).mono ?_
 rintro e w2 ⟨rfl, bb⟩
 have HN := Lib.hid (And.intro (HB.out.1.kept (grownB bb) (by simp)) (HB.out.2.trans (bb.mono HB.out.2.size)))
 have HN0 := Lib.hid ((bb.block D0 (Array.getElem?_eq_some_iff.1 HM0.out).1).trans HM0.out); clear HM0; have HM0 := HN0; clear HN0
 have HN1 := Lib.hid ((bb.block D1 (Array.getElem?_eq_some_iff.1 HM1.out).1).trans HM1.out); clear HM1; have HM1 := HN1; clear HN1
 have HN2 := Lib.hid ((bb.block D2 (Array.getElem?_eq_some_iff.1 HM2.out).1).trans HM2.out); clear HM2; have HM2 := HN2; clear HN2
 clear HB bb; have HB := HN; clear HN
 have LT03 := Lib.hid (Array.getElem?_eq_some_iff.1 HM0.out).1
 have LT13 := Lib.hid (Array.getElem?_eq_some_iff.1 HM1.out).1
 have LT23 := Lib.hid (Array.getElem?_eq_some_iff.1 HM2.out).1
 have LS3 := Lib.hid HB.out.2.size
 gi_wp2
 refine range_mv rfl (by omega) (gf := 89) (fs := #[.agg #[.string (strB n3), .string (strB d3)]]) rfl trivial (enters_of Tryz.func89 (by kernel_rfl) rfl)
   (each_hands strB n3 d3 (9 - 1) w2 (by omega)) (fun _ => rfl) .ret (.inl rfl)
   (fun _ W => W.heap[D2]? = some (.deferred (some [])) ∧ (W.heap[D1]? = some (.deferred (some [])) ∧ (W.heap[D0]? = some (.deferred (some [])) ∧ (Boxed W w.heap.size 26 (.int .i64 0) ∧ Below w.heap.size w W))))
   (fun _ _ => False)
   (OwnFrom.and (ownFrom_at (Array.getElem?_eq_some_iff.1 HM2.out).1) (OwnFrom.and (ownFrom_at (Array.getElem?_eq_some_iff.1 HM1.out).1) (OwnFrom.and (ownFrom_at (Array.getElem?_eq_some_iff.1 HM0.out).1) (OwnFrom.and (Own.from (boxed_own _ _ (fun _ => .int .i64 0)) _) (ownFrom_below (Nat.le_refl _) HB.out.2.size)))))
   (fun _ _ _ _ h _ _ => h)
   (fun s A h => ⟨h.1, ⟨h.2.1, ⟨h.2.2.1, ⟨h.2.2.2.1, h.2.2.2.2.drew⟩⟩⟩⟩)
   (⟨HM2.out, ⟨HM1.out, ⟨HM0.out, HB.out⟩⟩⟩)
   (fun z => { tmps := #[.slice (some ⟨b, 0, none⟩) 4 4, undef, .pointer (some ⟨w.heap.size, 0, none⟩), undef, .string s3, .int .i64 0, .string (strB z), .slice (some ⟨b, 0, none⟩) 4 4, .int .i64 4, .int .i64 3, .bool true, .pointer (some ⟨b, 3, none⟩), .string s3, .string s3, .int .i64 0, .int .i64 0, .bool false, undef, .string s3, .agg #[.string (strB n3), .string (strB d3)], .func (.func 89) #[.agg #[.string (strB n3), .string (strB d3)]] #[], .string (strB z), undef, undef, undef, undef, .int .i64 3], defers := [] }) ?assign3 ?body3 ?done3 ?stop3
 case assign3 =>
   intro l x W K hK
   gi_wp2
   exact hK
 case body3 =>
   rintro l pre z r' W hle hx hI
   have hz := sz90 (B3.out z (by rw [hx]; simp))
   have HI := Lib.hid hI; clear hI hx
   have ct := Lib.hid (fun W => trim_any z W)
   generalize szB (strB z) = u at *
   have hz1 : ¬ (90 : Int) < u.size := by omega
   have hz2 : (u.size : Int) ≤ 9223372036854775807 := by omega
   gi_wp2_with fail
   refine ⟨trivial, ?_⟩
   refine (CallsIn.inRound l (callsIn_wide.2 (ct.out _))).mono ?_
   rintro e w3 ⟨rfl, rfl⟩
   gi_wp2
   exact ⟨KeepsFrom.refl _ _, fun _ => Kb.refl _ _, HI.out⟩
 case stop3 =>
   rintro D pre r' W hD hx h hK
   exact h.elim
 case done3 =>
 rintro D3 V4 hD3 ⟨hM2, ⟨hM1, ⟨hM0, hBx⟩⟩⟩ hM3
 have HN := Lib.hid hBx
 have HE3 := Lib.hid hD3
 have LO3 : Hid (w.heap.size ≤ D3) := Lib.hid (Nat.le_trans LS3.out HE3.out)
 clear HB hBx hD3; have HB := HN; clear HN
 have NE03 : Hid (D0 ≠ D3) := Lib.hid (by have h1 := LT03.out; have h2 := HE3.out; have h3 := h1; omega)
 have NE13 : Hid (D1 ≠ D3) := Lib.hid (by have h1 := LT13.out; have h2 := HE3.out; have h3 := h1; omega)
 have NE23 : Hid (D2 ≠ D3) := Lib.hid (by have h1 := LT23.out; have h2 := HE3.out; have h3 := h1; omega)
 clear HM0 HM1 HM2
 have HM0 := Lib.hid hM0; clear hM0
 have HM1 := Lib.hid hM1; clear hM1
 have HM2 := Lib.hid hM2; clear hM2
 have HM3 := Lib.hid hM3; clear hM3
 gi_wp2
 rw [Code.roundsIn]
 have hc := HB.out.1.cell
 have hf := HB.out.1.frozen
 gi_wp2
 have g := HB.out.1.set (.int .i64 0)
 have hBB := HB.out.2.setCell (p := ⟨w.heap.size, 0, none⟩) (Nat.le_refl _) (.int .i64 0)
 have k3 : (V4.setCell ⟨w.heap.size, 0, none⟩ (.int .i64 0)).heap[D3]? = some (.deferred (some [])) := (KeepsOthers.setCell V4 ⟨w.heap.size, 0, none⟩ (.int .i64 0)).same D3 _ HM3.out rfl
 have k2 : (V4.setCell ⟨w.heap.size, 0, none⟩ (.int .i64 0)).heap[D2]? = some (.deferred (some [])) := (KeepsOthers.setCell V4 ⟨w.heap.size, 0, none⟩ (.int .i64 0)).same D2 _ HM2.out rfl
 have k1 : (V4.setCell ⟨w.heap.size, 0, none⟩ (.int .i64 0)).heap[D1]? = some (.deferred (some [])) := (KeepsOthers.setCell V4 ⟨w.heap.size, 0, none⟩ (.int .i64 0)).same D1 _ HM1.out rfl
 have k0 : (V4.setCell ⟨w.heap.size, 0, none⟩ (.int .i64 0)).heap[D0]? = some (.deferred (some [])) := (KeepsOthers.setCell V4 ⟨w.heap.size, 0, none⟩ (.int .i64 0)).same D0 _ HM0.out rfl
 refine ⟨by simp, .inl ⟨_, _, rfl, run_takeDeferred k3, ?_⟩⟩
 have g := g.kept (grownBy_putObj' _ D3 (.deferred none)) (fun e => by cases e; have h1 := g; have h2 := k3; unfold Boxed at h1; rw [h1] at h2; cases h2)
 have hBB := hBB.trans (belowK_b (w := w) (Nat.le_refl _) _ D3 _ (.deferred none) (LO3.out) k3 rfl rfl)
 have k0 := (World.putObj_heap_other (o := .deferred none) (NE03.out)).trans k0
 have k1 := (World.putObj_heap_other (o := .deferred none) (NE13.out)).trans k1
 have k2 := (World.putObj_heap_other (o := .deferred none) (NE23.out)).trans k2
 refine ⟨by simp, .inl ⟨_, _, rfl, run_takeDeferred k2, ?_⟩⟩
 have g := g.kept (grownBy_putObj' _ D2 (.deferred none)) (fun e => by cases e; have h1 := g; have h2 := k2; unfold Boxed at h1; rw [h1] at h2; cases h2)
 have hBB := hBB.trans (belowK_b (w := w) (Nat.le_refl _) _ D2 _ (.deferred none) (LO2.out) k2 rfl rfl)
 have k0 := (World.putObj_heap_other (o := .deferred none) (NE02.out)).trans k0
 have k1 := (World.putObj_heap_other (o := .deferred none) (NE12.out)).trans k1
 refine ⟨by simp, .inl ⟨_, _, rfl, run_takeDeferred k1, ?_⟩⟩
 have g := g.kept (grownBy_putObj' _ D1 (.deferred none)) (fun e => by cases e; have h1 := g; have h2 := k1; unfold Boxed at h1; rw [h1] at h2; cases h2)
 have hBB := hBB.trans (belowK_b (w := w) (Nat.le_refl _) _ D1 _ (.deferred none) (LO1.out) k1 rfl rfl)
 have k0 := (World.putObj_heap_other (o := .deferred none) (NE01.out)).trans k0
 refine ⟨by simp, .inl ⟨_, _, rfl, run_takeDeferred k0, ?_⟩⟩
 have g := g.kept (grownBy_putObj' _ D0 (.deferred none)) (fun e => by cases e; have h1 := g; have h2 := k0; unfold Boxed at h1; rw [h1] at h2; cases h2)
 have hBB := hBB.trans (belowK_b (w := w) (Nat.le_refl _) _ D0 _ (.deferred none) (LO0.out) k0 rfl rfl)
 have hc9 := g.cell
 refine ⟨.int .i64 0, ?_, rfl, hBB⟩
 simp [results, Tryz.f40, go_sem, hc9]
end
end Go.Proofs.YtilggfeodhfjfaaGreatDoor.T
namespace Go.Proofs.YtilggfeodhfjfaaGreatDoor.T
open Go.Proofs.YtilggfeodhfjfaaGreatDoor Go Go.RowKit
theorem nn2 {p q : Rat} (h : 0 ≤ p) (h' : 0 ≤ q) : neg3L [strQ p, strQ q] = 0 := by
 unfold neg3L; simp only [List.any_cons, List.any_nil, neg3_str, Bool.or_false]; rw [decide_eq_false (by grind), decide_eq_false (by grind)]; rfl
theorem nn_neg {q : Rat} (h : q < 0) : neg3L [strQ q] = 2 := by
 unfold neg3L; simp only [List.any_cons, List.any_nil, neg3_str, Bool.or_false]; rw [decide_eq_true h]; rfl
theorem Exact_no (q : Rat) (w : World) (h0 : 0 ≤ q) (hq : Bq 90 q) (hb : ¬ bothS q) (ht : Tab w) (ht2 : Tab64 w) :
   Calls Tryz.prog 16 #[.string (strQ q)] w fun e W' => e = .returned (.tuple #[.string ⟨#[]⟩, .bool false, .int .i64 0]) ∧ Below w.heap.size w W' := by
 have o1 := fun (b : Nat) W (hx : Sl W b [strQ q]) (h : Below w.heap.size w W) => check_ok1 b q W hq hx (ht.next h) (TabQ_next ht2 h)
 have o2 := fun (b : Nat) W (hx : Sl W b [strQ q]) (h : Below w.heap.size w W) => croots_any b [strQ q] W (by simp) hx
 rw [nn1 h0] at o2
 have o3 := fun W (_ : Below w.heap.size w W) => oparts_q q W (hq.lim (by decide))
 have o4 := fun W (h : Below w.heap.size w W) => oroot q (.tuple #[.string ⟨#[]⟩, .bool false]) W h0 (hq.lim (by decide)) (ht.next h) (fun k => absurd k hb) (fun _ => rfl)
 have O := Lib.hid (And.intro o1 (And.intro o2 (And.intro o3 o4))); clear o1 o2 o3 o4 ht ht2 h0 hq hb
 generalize strB q.num = n at *
 generalize strB (q.den : Int) = d at *
 generalize strQ q = s at *
 go_enter Tryz.func16, Tryz.ntmps16
 go_wp2_with fail
 have hS1 := Sl.new1 w s 22
 have BB := Lib.hid ((Below.refl _ w).alloc (Nat.le_refl _) (.cells #[.string s] 22))
 generalize w.alloc (.cells #[.string s] 22) = v0 at *
 generalize hk0 : w.heap.size = k0 at hS1
 refine (O.out.1 _ _ hS1 BB.out).mono ?_
 rintro e v1 ⟨rfl, b⟩
 have B1 := Lib.hid (BB.out.trans (b.mono BB.out.size)); clear b BB hS1 hk0
 go_wp2_with fail
 have hS2 := Sl.new1 v1 s 22
 have BB := Lib.hid (B1.out.alloc B1.out.size (.cells #[.string s] 22))
 generalize v1.alloc (.cells #[.string s] 22) = v2 at *
 generalize v1.heap.size = k1 at hS2 ⊢
 refine (O.out.2.1 _ _ hS2 BB.out).mono ?_
 rintro e v3 ⟨rfl, b⟩
 have B3 := Lib.hid (BB.out.trans (b.mono BB.out.size)); clear b BB hS2 B1
 go_wp2_with fail
 have hS3 := Blk.new v3 #[.int .i64 0, .int .i64 0] 26
 have BB := Lib.hid (B3.out.alloc B3.out.size (.cells #[.int .i64 0, .int .i64 0] 26))
 generalize v3.alloc (.cells #[.int .i64 0, .int .i64 0] 26) = v4 at *
 generalize v3.heap.size = k3 at hS3 ⊢
 refine (cmpOr2 _ 0 0 v4 hS3).mono ?_
 rintro e v5 ⟨rfl, b⟩
 rw [if_pos rfl]
 have B5 := Lib.hid (BB.out.trans (b.mono BB.out.size)); clear b BB hS3 B3
 go_wp2_with fail
 refine (O.out.2.2.1 _ B5.out).mono ?_
 rintro e v6 ⟨rfl, b⟩
 have B6 := Lib.hid (B5.out.trans (b.mono B5.out.size)); clear b B5
 go_wp2_with fail
 refine (O.out.2.2.2 _ B6.out).mono ?_
 rintro e v7 ⟨rfl, b⟩
 have B7 := Lib.hid (B6.out.trans (b.mono B6.out.size)); clear b B6
 go_wp2
 go_ret3
 exact ⟨rfl, B7.out⟩
theorem Exact_neg (q : Rat) (w : World) (h0 : q < 0) (hq : Bq 90 q) (ht : Tab w) (ht2 : Tab64 w) :
   Calls Tryz.prog 16 #[.string (strQ q)] w fun e W' => e = .returned (.tuple #[.string ⟨#[]⟩, .bool false, .int .i64 2]) ∧ Below w.heap.size w W' := by
 have o1 := fun (b : Nat) W (hx : Sl W b [strQ q]) (h : Below w.heap.size w W) => check_ok1 b q W hq hx (ht.next h) (TabQ_next ht2 h)
 have o2 := fun (b : Nat) W (hx : Sl W b [strQ q]) (h : Below w.heap.size w W) => croots_any b [strQ q] W (by simp) hx
 rw [nn_neg h0] at o2
 have O := Lib.hid (And.intro o1 (And.intro o2 True.intro)); clear o1 o2 ht ht2 h0 hq
 generalize strQ q = s at *
 go_enter Tryz.func16, Tryz.ntmps16
 go_wp2_with fail
 have hS1 := Sl.new1 w s 22
 have BB := Lib.hid ((Below.refl _ w).alloc (Nat.le_refl _) (.cells #[.string s] 22))
 generalize w.alloc (.cells #[.string s] 22) = v0 at *
 generalize hk0 : w.heap.size = k0 at hS1
 refine (O.out.1 _ _ hS1 BB.out).mono ?_
 rintro e v1 ⟨rfl, b⟩
 have B1 := Lib.hid (BB.out.trans (b.mono BB.out.size)); clear b BB hS1 hk0
 go_wp2_with fail
 have hS2 := Sl.new1 v1 s 22
 have BB := Lib.hid (B1.out.alloc B1.out.size (.cells #[.string s] 22))
 generalize v1.alloc (.cells #[.string s] 22) = v2 at *
 generalize v1.heap.size = k1 at hS2 ⊢
 refine (O.out.2.1 _ _ hS2 BB.out).mono ?_
 rintro e v3 ⟨rfl, b⟩
 have B3 := Lib.hid (BB.out.trans (b.mono BB.out.size)); clear b BB hS2 B1
 go_wp2_with fail
 have hS3 := Blk.new v3 #[.int .i64 0, .int .i64 2] 26
 have BB := Lib.hid (B3.out.alloc B3.out.size (.cells #[.int .i64 0, .int .i64 2] 26))
 generalize v3.alloc (.cells #[.int .i64 0, .int .i64 2] 26) = v4 at *
 generalize v3.heap.size = k3 at hS3 ⊢
 refine (cmpOr2 _ 0 2 v4 hS3).mono ?_
 rintro e v5 ⟨rfl, b⟩
 rw [if_pos rfl]
 have B5 := Lib.hid (BB.out.trans (b.mono BB.out.size)); clear b BB hS3 B3
 go_wp2
 go_ret3
 exact ⟨rfl, B5.out⟩
end Go.Proofs.YtilggfeodhfjfaaGreatDoor.T
namespace Go.Proofs.YtilggfeodhfjfaaGreatDoor.T
open Go.Proofs.YtilggfeodhfjfaaGreatDoor Go Go.RowKit
theorem prod3 (x y z : Rat) : prodR [x, y, z] = x * y * z := by show 1 * x * y * z = _; rw [Rat.one_mul]
theorem lt3 (x y z : Rat) (k : Nat) (w : World) (hx : Bq k x) (hy : Bq k y) (hz : Bq k z) (hk : 1 + 3 * k ≤ 300) (ht : Tab w) (ht2 : Tab64 w) (b : Nat) (hs : Sl w b [strQ x, strQ y, strQ z]) :
   Calls Tryz.prog 30 #[.slice (some ⟨b, 0, none⟩) 3 3] w fun e W' => e = .returned (.string (strQ (x * y * z))) ∧ Below w.heap.size w W' := by
 have c := ltimes b [x, y, z] k w (by simp) (fun q hq => by
   have h : q = x ∨ q = y ∨ q = z := by simpa using hq
   rcases h with rfl | rfl | rfl <;> assumption) hk hs ht ht2
 rwa [prod3] at c
theorem mx3 (W : World) : (Builtin.max_ #[26, 26, 26] 26 #[.int .i64 0, .int .i64 0, .int .i64 0]).run Tryz.prog W = .ok (.int .i64 0) W := by kernel_rfl
end Go.Proofs.YtilggfeodhfjfaaGreatDoor.T
