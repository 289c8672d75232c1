/- Parts of the proof of the text YtjdomibbaemdnaaGreatDoorZK42. -/
import Derived.Test.YtjdomibbaemdnaaGreatDoorZK1
import Derived.Test.YtjdomibbaemdnaaGreatDoorZK23
import Derived.Test.YtjdomibbaemdnaaGreatDoorZK40
set_option linter.all false
set_option maxRecDepth 100000
set_option maxHeartbeats 8000000
namespace Go.Proofs.YtjdomibbaemdnaaGreatDoor.T
open Go.Proofs.YtjdomibbaemdnaaGreatDoor Go Go.RowKit Go.Shelf
theorem ze {z:Int} (h:¬ Bd 90 z):90<(szB (aa z)).size:=by
 rw [tR,fQ,Lib.itoa_nonneg,Lib.decDigits_length]
 have:=mt (aJ z.natAbs 90 (by decide)).1 h
 omega
section
attribute [local go_sem] Oper.semAt_some
theorem ud (b:Nat) (n:Nat) (s0:ByteArray) (w:World) (h0:s0.size≤maxLen) (g0:aM s0.data.toList≠0) (n0:0<n) (n1:n≤100) (hbl:b<w.heap.size) (x0:w.cell? ⟨b,0,none⟩=some (.string s0)) (ht:Tab w) (ht2:aW w) :
  Calls Tryz.prog 23 #[.slice (some ⟨b,0,none⟩) n n] w fun e W'=>e = .returned (.int .i64 (aM s0.data.toList))∧Below w.heap.size w W':=by
 refine (callsIn_wide (n:=9)).1 ?_
 have K0:=Ha (fun W (h:Below w.heap.size w W)=>jD s0 W h0 (ht.next h) (ai ht2 h))
 have X0:Hid (w.cell? ⟨b,0,none⟩=some (.string s0)):=Ha x0
 obtain ⟨e0,e1⟩:=bc g0
 clear h0 g0 x0
 generalize aM s0.data.toList=E at *
 clear ht ht2
 refine callsIn_of_wp_marks Tryz.func23 rfl trivial ?_ rfl
 simp only [Tryz.ntmps23,List.size_toArray,List.length_cons,List.length_nil,Nat.reduceAdd,Nat.reduceSub,Array.replicate_succ,Array.replicate_zero,List.push_toArray,List.append_toArray,List.nil_append,List.cons_append]
 gi_wp2
 have HB:=Ha (Hb (Boxed.new w 26 (.int .i64 0)) ((Below.refl _ w).alloc (Nat.le_refl _) (.cells #[.int .i64 0] 26)))
 generalize w.alloc (.cells #[.int .i64 0] 26)=V0 at *
 refine wpIn_loop_rounds 1 ?_
 rw [Code.roundsIn]
 have hc:=(HB.out.2.cell (p:=⟨b,0,none⟩) hbl).trans X0.out
 gi_wp2_with fail
 refine ⟨trivial,?_⟩
 refine (callsIn_wide.2 (K0.out _ HB.out.2)).mono ?_
 rintro e w1 ⟨rfl,bb⟩
 clear hc
 have HN:=Ha (Hb (HB.out.1.kept (be bb) (by simp)) (HB.out.2.trans (bb.mono HB.out.2.size)))
 clear HB bb;have HB:=HN;clear HN
 have hc:=HB.out.1.cell
 have hf:=HB.out.1.frozen
 gi_wp2
 have g:=HB.out.1.set (.int .i64 E)
 have hBB:=HB.out.2.setCell (p:=⟨w.heap.size,0,none⟩) (Nat.le_refl _) (.int .i64 E)
 have hc9:=g.cell
 refine ⟨.int .i64 E,?_,rfl,hBB⟩
 simp [results,Tryz.f23,go_sem,hc9]
theorem ue (b:Nat) (n:Nat) (q0:Rat) (w:World) (h0:Sq q0) (g0:¬ Bq 90 q0) (n0:0<n) (n1:n≤100) (hbl:b<w.heap.size) (x0:w.cell? ⟨b,0,none⟩=some (.string (ah q0))) (ht:Tab w) (ht2:aW w) :
  Calls Tryz.prog 23 #[.slice (some ⟨b,0,none⟩) n n] w fun e W'=>e = .returned (.int .i64 4)∧Below w.heap.size w W':=by
 refine (callsIn_wide (n:=9)).1 ?_
 have K0:=Ha (fun W (h:Below w.heap.size w W)=>ig q0 W h0 (ht.next h) (ai ht2 h))
 have P0:=Ha (fun W=>cE q0 W h0)
 have X0:Hid (w.cell? ⟨b,0,none⟩=some (.string (ah q0))):=Ha x0
 have B0:Hid (¬ ∀ z ∈ [q0.num,(q0.den:Int)],(szB (aa z)).size≤90):=Ha (fun h=>g0 (by
  refine ⟨Decidable.byContradiction fun c => ?_,Decidable.byContradiction fun c => ?_⟩
  ·have h1:=ze (z:=q0.num) c
   have h2:=h q0.num (by simp)
   omega
  ·have h1:=ze (z:=(q0.den:Int)) c
   have h2:=h (q0.den:Int) (by simp)
   omega))
 clear h0 g0 x0
 clear ht ht2
 generalize ah q0=s0 at *
 generalize q0.num=n0 at *
 generalize (q0.den:Int)=d0 at *
 refine callsIn_of_wp_marks Tryz.func23 rfl trivial ?_ rfl
 simp only [Tryz.ntmps23,List.size_toArray,List.length_cons,List.length_nil,Nat.reduceAdd,Nat.reduceSub,Array.replicate_succ,Array.replicate_zero,List.push_toArray,List.append_toArray,List.nil_append,List.cons_append]
 gi_wp2
 have HB:=Ha (Hb (Boxed.new w 26 (.int .i64 0)) ((Below.refl _ w).alloc (Nat.le_refl _) (.cells #[.int .i64 0] 26)))
 generalize w.alloc (.cells #[.int .i64 0] 26)=V0 at *
 refine wpIn_loop_rounds 1 ?_
 rw [Code.roundsIn]
 have hc:=(HB.out.2.cell (p:=⟨b,0,none⟩) hbl).trans X0.out
 gi_wp2_with fail
 refine ⟨trivial,?_⟩
 refine (callsIn_wide.2 (K0.out _ HB.out.2)).mono ?_
 rintro e w1 ⟨rfl,bb⟩
 clear hc
 have HN:=Ha (Hb (HB.out.1.kept (be bb) (by simp)) (HB.out.2.trans (bb.mono HB.out.2.size)))
 clear HB bb;have HB:=HN;clear HN
 gi_wp2_with fail
 refine ⟨trivial,?_⟩
 refine (callsIn_wide.2 (P0.out _)).mono ?_
 rintro e w2 ⟨rfl,bb⟩
 have HN:=Ha (Hb (HB.out.1.kept (be bb) (by simp)) (HB.out.2.trans (bb.mono HB.out.2.size)))
 clear HB bb;have HB:=HN;clear HN
 have LS0:=Ha HB.out.2.size
 gi_wp2
 refine dv rfl (by omega) (gf:=55) (fs := #[.agg #[.string (aa n0),.string (aa d0)]]) rfl trivial (enters_of Tryz.func55 (by kernel_rfl) rfl)
  (dd aa n0 d0 (9 - 1) w2 (by omega)) (fun _=>rfl) .ret (.inl rfl)
  (fun pre W=>(∀ z∈pre,(szB (aa z)).size≤90)∧(Boxed W w.heap.size 26 (.int .i64 0)∧Below w.heap.size w W))
  (fun _ W=>Boxed W w.heap.size 26 (.int .i64 4)∧Below w.heap.size w W)
  (OwnFrom.and (ownFrom_pure _ _) (OwnFrom.and (Own.from (boxed_own _ _ (fun _ => .int .i64 0)) _) (ownFrom_below (Nat.le_refl _) HB.out.2.size)))
  (OwnFrom.and (Own.from (boxed_own _ _ (fun _ => .int .i64 4)) _) (ownFrom_below (Nat.le_refl _) HB.out.2.size))
  (fun s A h=>⟨h.1,⟨h.2.1,h.2.2.drew⟩⟩)
  (⟨(fun _ h=>by cases h),HB.out⟩)
  (fun z=>{ tmps := #[.slice (some ⟨b,0,none⟩) n n,undef,.pointer (some ⟨w.heap.size,0,none⟩),undef,.string s0,.int .i64 0,.string (aa z),.slice (some ⟨b,0,none⟩) n n,.int .i64 n,.int .i64 0,.bool true,.pointer (some ⟨b,0,none⟩),.string s0,.string s0,.int .i64 0,.int .i64 0,.bool false,undef,.string s0,.agg #[.string (aa n0),.string (aa d0)],.func (.func 55) #[.agg #[.string (aa n0),.string (aa d0)]] #[],.string (aa z),undef,undef,undef,undef,undef],defers := [] }) ?assign0 ?body0 ?done0 ?stop0
 case assign0 =>
  intro l x W K hK
  gi_wp2
  exact hK
 case body0 =>
  rintro l pre z r' W hle hx hI
  have HX:=Ha hx;clear hx
  have ct:=Ha (fun W=>cV z W)
  have hc0:=hI.2.1.cell
  have hf0:=hI.2.1.frozen
  have HI:=Ha hI;clear hI
  by_cases hz:(90:Int)<(szB (aa z)).size
  ·generalize szB (aa z)=u at *
   gi_wp2_with fail
   refine ⟨trivial,?_⟩
   refine (CallsIn.inRound l (callsIn_wide.2 (ct.out _))).mono ?_
   rintro e w3 ⟨rfl,rfl⟩
   gi_wp2
   have hI:=HI.out
   refine ⟨(KeepsOthers.setCell _ _ _).from _,rfl,?_⟩
   exact ⟨hI.2.1.set (.int .i64 4),hI.2.2.setCell (p:=⟨w.heap.size,0,none⟩) (Nat.le_refl _) (.int .i64 4)⟩
  ·have hsz:(szB (aa z)).size≤90:=by omega
   have HZ:=Ha hsz;clear hsz
   generalize hu:szB (aa z)=u at *
   have hz2:(u.size:Int)≤9223372036854775807:=by omega
   gi_wp2_with fail
   refine ⟨trivial,?_⟩
   refine (CallsIn.inRound l (callsIn_wide.2 (ct.out _))).mono ?_
   rintro e w3 ⟨rfl,rfl⟩
   gi_wp2
   have hI:=HI.out
   refine ⟨KeepsFrom.refl _ _,fun _=>Kb.refl _ _,fun y hy => ?_,hI.2⟩
   rcases List.mem_append.1 hy with h | h
   ·exact hI.1 y h
   ·rw [List.mem_singleton.1 h,hu];exact HZ.out
 case done0 =>
  rintro D V hD hI hM
  exact absurd hI.1 B0.out
 case stop0 =>
  rintro D0 pre r' V hD0 hx hBx hM0
  clear hx
  have LO0:w.heap.size≤D0:=Nat.le_trans LS0.out hD0
  have g:=hBx.1
  have hBB:=hBx.2
  clear HB
  gi_wp2
  refine ⟨by simp,.inl ⟨_,_,rfl,run_takeDeferred hM0,?_⟩⟩
  have g:=g.kept (grownBy_putObj' _ D0 (.deferred none)) (fun e=>by cases e;have h1:=g;have h2:=hM0;unfold Boxed at h1;rw [h1] at h2;cases h2)
  have hBB:=hBB.trans (belowK_b (w:=w) (Nat.le_refl _) _ D0 _ (.deferred none) (LO0) hM0 rfl rfl)
  have hc9:=g.cell
  refine ⟨.int .i64 4,?_,rfl,hBB⟩
  simp [results,Tryz.f23,go_sem,hc9]
theorem xp (b:Nat) (q0:Rat) (s1:ByteArray) (w:World) (h0:Bq 90 q0) (h1:s1.size≤maxLen) (g1:aM s1.data.toList≠0) (hbl:b<w.heap.size) (x0:w.cell? ⟨b,0,none⟩=some (.string (ah q0))) (x1:w.cell? ⟨b,1,none⟩=some (.string s1)) (ht:Tab w) (ht2:aW w) :
  Calls Tryz.prog 23 #[.slice (some ⟨b,0,none⟩) 2 2] w fun e W'=>e = .returned (.int .i64 (aM s1.data.toList))∧Below w.heap.size w W':=by
 refine (callsIn_wide (n:=9)).1 ?_
 have K0:=Ha (fun W (h:Below w.heap.size w W)=>ig q0 W (h0.lim (by decide)) (ht.next h) (ai ht2 h))
 have P0:=Ha (fun W=>cE q0 W (h0.lim (by decide)))
 have X0:Hid (w.cell? ⟨b,0,none⟩=some (.string (ah q0))):=Ha x0
 have B0:Hid (∀ z ∈ [q0.num,(q0.den:Int)],Bd 90 z):=Ha (by
  intro z hz
  have h:z=q0.num∨z=(q0.den:Int):=by simpa using hz
  rcases h with e | e
  ·rw [e];exact h0.num
  ·rw [e];exact h0.den)
 clear h0 x0
 have K1:=Ha (fun W (h:Below w.heap.size w W)=>jD s1 W h1 (ht.next h) (ai ht2 h))
 have X1:Hid (w.cell? ⟨b,1,none⟩=some (.string s1)):=Ha x1
 obtain ⟨e0,e1⟩:=bc g1
 clear h1 g1 x1
 generalize aM s1.data.toList=E at *
 clear ht ht2
 generalize ah q0=s0 at *
 generalize q0.num=n0 at *
 generalize (q0.den:Int)=d0 at *
 refine callsIn_of_wp_marks Tryz.func23 rfl trivial ?_ rfl
 simp only [Tryz.ntmps23,List.size_toArray,List.length_cons,List.length_nil,Nat.reduceAdd,Nat.reduceSub,Array.replicate_succ,Array.replicate_zero,List.push_toArray,List.append_toArray,List.nil_append,List.cons_append]
 gi_wp2
 have HB:=Ha (Hb (Boxed.new w 26 (.int .i64 0)) ((Below.refl _ w).alloc (Nat.le_refl _) (.cells #[.int .i64 0] 26)))
 generalize w.alloc (.cells #[.int .i64 0] 26)=V0 at *
 refine wpIn_loop_rounds 2 ?_
 rw [Code.roundsIn]
 have hc:=(HB.out.2.cell (p:=⟨b,0,none⟩) hbl).trans X0.out
 gi_wp2_with fail
 refine ⟨trivial,?_⟩
 refine (callsIn_wide.2 (K0.out _ HB.out.2)).mono ?_
 rintro e w1 ⟨rfl,bb⟩
 clear hc
 have HN:=Ha (Hb (HB.out.1.kept (be bb) (by simp)) (HB.out.2.trans (bb.mono HB.out.2.size)))
 clear HB bb;have HB:=HN;clear HN
 gi_wp2_with fail
 refine ⟨trivial,?_⟩
 refine (callsIn_wide.2 (P0.out _)).mono ?_
 rintro e w2 ⟨rfl,bb⟩
 have HN:=Ha (Hb (HB.out.1.kept (be bb) (by simp)) (HB.out.2.trans (bb.mono HB.out.2.size)))
 clear HB bb;have HB:=HN;clear HN
 have LS0:=Ha HB.out.2.size
 gi_wp2
 refine dv rfl (by omega) (gf:=55) (fs := #[.agg #[.string (aa n0),.string (aa d0)]]) rfl trivial (enters_of Tryz.func55 (by kernel_rfl) rfl)
  (dd aa n0 d0 (9 - 1) w2 (by omega)) (fun _=>rfl) .ret (.inl rfl)
  (fun _ W=>Boxed W w.heap.size 26 (.int .i64 0)∧Below w.heap.size w W)
  (fun _ _=>False)
  (OwnFrom.and (Own.from (boxed_own _ _ (fun _ => .int .i64 0)) _) (ownFrom_below (Nat.le_refl _) HB.out.2.size))
  (fun _ _ _ _ h _ _=>h)
  (fun s A h=>⟨h.1,h.2.drew⟩)
  (HB.out)
  (fun z=>{ tmps := #[.slice (some ⟨b,0,none⟩) 2 2,undef,.pointer (some ⟨w.heap.size,0,none⟩),undef,.string s0,.int .i64 0,.string (aa z),.slice (some ⟨b,0,none⟩) 2 2,.int .i64 2,.int .i64 0,.bool true,.pointer (some ⟨b,0,none⟩),.string s0,.string s0,.int .i64 0,.int .i64 0,.bool false,undef,.string s0,.agg #[.string (aa n0),.string (aa d0)],.func (.func 55) #[.agg #[.string (aa n0),.string (aa d0)]] #[],.string (aa z),undef,undef,undef,undef,undef],defers := [] }) ?assign0 ?body0 ?done0 ?stop0
 case assign0 =>
  intro l x W K hK
  gi_wp2
  exact hK
 case body0 =>
  rintro l pre z r' W hle hx hI
  have hz:=xo (B0.out z (by rw [hx];simp))
  have HI:=Ha hI;clear hI hx
  have ct:=Ha (fun W=>cV z W)
  generalize szB (aa z)=u at *
  have hz1:¬ (90:Int)<u.size:=by omega
  have hz2:(u.size:Int)≤9223372036854775807:=by omega
  gi_wp2_with fail
  refine ⟨trivial,?_⟩
  refine (CallsIn.inRound l (callsIn_wide.2 (ct.out _))).mono ?_
  rintro e w3 ⟨rfl,rfl⟩
  gi_wp2
  exact ⟨KeepsFrom.refl _ _,fun _=>Kb.refl _ _,HI.out⟩
 case stop0 =>
  rintro D pre r' W hD hx h hK
  exact h.elim
 case done0 =>
 rintro D0 V1 hD0 hBx hM0
 have HN:=Ha hBx
 have HE0:=Ha hD0
 have LO0:Hid (w.heap.size≤D0):=Ha (Nat.le_trans LS0.out HE0.out)
 clear HB hBx hD0;have HB:=HN;clear HN
 have HM0:=Ha hM0;clear hM0
 gi_wp2
 rw [Code.roundsIn]
 have hc:=(HB.out.2.cell (p:=⟨b,1,none⟩) hbl).trans X1.out
 gi_wp2_with fail
 refine ⟨trivial,?_⟩
 refine (callsIn_wide.2 (K1.out _ HB.out.2)).mono ?_
 rintro e w1 ⟨rfl,bb⟩
 clear hc
 have HN:=Ha (Hb (HB.out.1.kept (be bb) (by simp)) (HB.out.2.trans (bb.mono HB.out.2.size)))
 have HN0:=Ha ((bb.block D0 (Array.getElem?_eq_some_iff.1 HM0.out).1).trans HM0.out);clear HM0;have HM0:=HN0;clear HN0
 clear HB bb;have HB:=HN;clear HN
 have hc:=HB.out.1.cell
 have hf:=HB.out.1.frozen
 gi_wp2
 have g:=HB.out.1.set (.int .i64 E)
 have hBB:=HB.out.2.setCell (p:=⟨w.heap.size,0,none⟩) (Nat.le_refl _) (.int .i64 E)
 have k0:(w1.setCell ⟨w.heap.size,0,none⟩ (.int .i64 E)).heap[D0]? = some (.deferred (some [])):=(KeepsOthers.setCell w1 ⟨w.heap.size,0,none⟩ (.int .i64 E)).same D0 _ HM0.out rfl
 refine ⟨by simp,.inl ⟨_,_,rfl,run_takeDeferred k0,?_⟩⟩
 have g:=g.kept (grownBy_putObj' _ D0 (.deferred none)) (fun e=>by cases e;have h1:=g;have h2:=k0;unfold Boxed at h1;rw [h1] at h2;cases h2)
 have hBB:=hBB.trans (belowK_b (w:=w) (Nat.le_refl _) _ D0 _ (.deferred none) (LO0.out) k0 rfl rfl)
 have hc9:=g.cell
 refine ⟨.int .i64 E,?_,rfl,hBB⟩
 simp [results,Tryz.f23,go_sem,hc9]
theorem xq (b:Nat) (q0:Rat) (q1:Rat) (w:World) (h0:Bq 90 q0) (h1:Sq q1) (g1:¬ Bq 90 q1) (hbl:b<w.heap.size) (x0:w.cell? ⟨b,0,none⟩=some (.string (ah q0))) (x1:w.cell? ⟨b,1,none⟩=some (.string (ah q1))) (ht:Tab w) (ht2:aW w) :
  Calls Tryz.prog 23 #[.slice (some ⟨b,0,none⟩) 2 2] w fun e W'=>e = .returned (.int .i64 4)∧Below w.heap.size w W':=by
 refine (callsIn_wide (n:=9)).1 ?_
 have K0:=Ha (fun W (h:Below w.heap.size w W)=>ig q0 W (h0.lim (by decide)) (ht.next h) (ai ht2 h))
 have P0:=Ha (fun W=>cE q0 W (h0.lim (by decide)))
 have X0:Hid (w.cell? ⟨b,0,none⟩=some (.string (ah q0))):=Ha x0
 have B0:Hid (∀ z ∈ [q0.num,(q0.den:Int)],Bd 90 z):=Ha (by
  intro z hz
  have h:z=q0.num∨z=(q0.den:Int):=by simpa using hz
  rcases h with e | e
  ·rw [e];exact h0.num
  ·rw [e];exact h0.den)
 clear h0 x0
 have K1:=Ha (fun W (h:Below w.heap.size w W)=>ig q1 W h1 (ht.next h) (ai ht2 h))
 have P1:=Ha (fun W=>cE q1 W h1)
 have X1:Hid (w.cell? ⟨b,1,none⟩=some (.string (ah q1))):=Ha x1
 have B1:Hid (¬ ∀ z ∈ [q1.num,(q1.den:Int)],(szB (aa z)).size≤90):=Ha (fun h=>g1 (by
  refine ⟨Decidable.byContradiction fun c => ?_,Decidable.byContradiction fun c => ?_⟩
  ·have h1:=ze (z:=q1.num) c
   have h2:=h q1.num (by simp)
   omega
  ·have h1:=ze (z:=(q1.den:Int)) c
   have h2:=h (q1.den:Int) (by simp)
   omega))
 clear h1 g1 x1
 clear ht ht2
 generalize ah q0=s0 at *
 generalize q0.num=n0 at *
 generalize (q0.den:Int)=d0 at *
 generalize ah q1=s1 at *
 generalize q1.num=n1 at *
 generalize (q1.den:Int)=d1 at *
 refine callsIn_of_wp_marks Tryz.func23 rfl trivial ?_ rfl
 simp only [Tryz.ntmps23,List.size_toArray,List.length_cons,List.length_nil,Nat.reduceAdd,Nat.reduceSub,Array.replicate_succ,Array.replicate_zero,List.push_toArray,List.append_toArray,List.nil_append,List.cons_append]
 gi_wp2
 have HB:=Ha (Hb (Boxed.new w 26 (.int .i64 0)) ((Below.refl _ w).alloc (Nat.le_refl _) (.cells #[.int .i64 0] 26)))
 generalize w.alloc (.cells #[.int .i64 0] 26)=V0 at *
 refine wpIn_loop_rounds 2 ?_
 rw [Code.roundsIn]
 have hc:=(HB.out.2.cell (p:=⟨b,0,none⟩) hbl).trans X0.out
 gi_wp2_with fail
 refine ⟨trivial,?_⟩
 refine (callsIn_wide.2 (K0.out _ HB.out.2)).mono ?_
 rintro e w1 ⟨rfl,bb⟩
 clear hc
 have HN:=Ha (Hb (HB.out.1.kept (be bb) (by simp)) (HB.out.2.trans (bb.mono HB.out.2.size)))
 clear HB bb;have HB:=HN;clear HN
 gi_wp2_with fail
 refine ⟨trivial,?_⟩
 refine (callsIn_wide.2 (P0.out _)).mono ?_
 rintro e w2 ⟨rfl,bb⟩
 have HN:=Ha (Hb (HB.out.1.kept (be bb) (by simp)) (HB.out.2.trans (bb.mono HB.out.2.size)))
 clear HB bb;have HB:=HN;clear HN
 have LS0:=Ha HB.out.2.size
 gi_wp2
 refine dv rfl (by omega) (gf:=55) (fs := #[.agg #[.string (aa n0),.string (aa d0)]]) rfl trivial (enters_of Tryz.func55 (by kernel_rfl) rfl)
  (dd aa n0 d0 (9 - 1) w2 (by omega)) (fun _=>rfl) .ret (.inl rfl)
  (fun _ W=>Boxed W w.heap.size 26 (.int .i64 0)∧Below w.heap.size w W)
  (fun _ _=>False)
  (OwnFrom.and (Own.from (boxed_own _ _ (fun _ => .int .i64 0)) _) (ownFrom_below (Nat.le_refl _) HB.out.2.size))
  (fun _ _ _ _ h _ _=>h)
  (fun s A h=>⟨h.1,h.2.drew⟩)
  (HB.out)
  (fun z=>{ tmps := #[.slice (some ⟨b,0,none⟩) 2 2,undef,.pointer (some ⟨w.heap.size,0,none⟩),undef,.string s0,.int .i64 0,.string (aa z),.slice (some ⟨b,0,none⟩) 2 2,.int .i64 2,.int .i64 0,.bool true,.pointer (some ⟨b,0,none⟩),.string s0,.string s0,.int .i64 0,.int .i64 0,.bool false,undef,.string s0,.agg #[.string (aa n0),.string (aa d0)],.func (.func 55) #[.agg #[.string (aa n0),.string (aa d0)]] #[],.string (aa z),undef,undef,undef,undef,undef],defers := [] }) ?assign0 ?body0 ?done0 ?stop0
 case assign0 =>
  intro l x W K hK
  gi_wp2
  exact hK
 case body0 =>
  rintro l pre z r' W hle hx hI
  have hz:=xo (B0.out z (by rw [hx];simp))
  have HI:=Ha hI;clear hI hx
  have ct:=Ha (fun W=>cV z W)
  generalize szB (aa z)=u at *
  have hz1:¬ (90:Int)<u.size:=by omega
  have hz2:(u.size:Int)≤9223372036854775807:=by omega
  gi_wp2_with fail
  refine ⟨trivial,?_⟩
  refine (CallsIn.inRound l (callsIn_wide.2 (ct.out _))).mono ?_
  rintro e w3 ⟨rfl,rfl⟩
  gi_wp2
  exact ⟨KeepsFrom.refl _ _,fun _=>Kb.refl _ _,HI.out⟩
 case stop0 =>
  rintro D pre r' W hD hx h hK
  exact h.elim
 case done0 =>
 rintro D0 V1 hD0 hBx hM0
 have HN:=Ha hBx
 have HE0:=Ha hD0
 have LO0:Hid (w.heap.size≤D0):=Ha (Nat.le_trans LS0.out HE0.out)
 clear HB hBx hD0;have HB:=HN;clear HN
 have HM0:=Ha hM0;clear hM0
 gi_wp2
 rw [Code.roundsIn]
 have hc:=(HB.out.2.cell (p:=⟨b,1,none⟩) hbl).trans X1.out
 gi_wp2_with fail
 refine ⟨trivial,?_⟩
 refine (callsIn_wide.2 (K1.out _ HB.out.2)).mono ?_
 rintro e w1 ⟨rfl,bb⟩
 clear hc
 have HN:=Ha (Hb (HB.out.1.kept (be bb) (by simp)) (HB.out.2.trans (bb.mono HB.out.2.size)))
 have HN0:=Ha ((bb.block D0 (Array.getElem?_eq_some_iff.1 HM0.out).1).trans HM0.out);clear HM0;have HM0:=HN0;clear HN0
 clear HB bb;have HB:=HN;clear HN
 gi_wp2_with fail
 refine ⟨trivial,?_⟩
 refine (callsIn_wide.2 (P1.out _)).mono ?_
 rintro e w2 ⟨rfl,bb⟩
 have HN:=Ha (Hb (HB.out.1.kept (be bb) (by simp)) (HB.out.2.trans (bb.mono HB.out.2.size)))
 have HN0:=Ha ((bb.block D0 (Array.getElem?_eq_some_iff.1 HM0.out).1).trans HM0.out);clear HM0;have HM0:=HN0;clear HN0
 clear HB bb;have HB:=HN;clear HN
 have LT01:=Ha (Array.getElem?_eq_some_iff.1 HM0.out).1
 have LS1:=Ha HB.out.2.size
 gi_wp2
 refine dv rfl (by omega) (gf:=55) (fs := #[.agg #[.string (aa n1),.string (aa d1)]]) rfl trivial (enters_of Tryz.func55 (by kernel_rfl) rfl)
  (dd aa n1 d1 (9 - 1) w2 (by omega)) (fun _=>rfl) .ret (.inl rfl)
  (fun pre W=>(∀ z∈pre,(szB (aa z)).size≤90)∧(W.heap[D0]? = some (.deferred (some []))∧(Boxed W w.heap.size 26 (.int .i64 0)∧Below w.heap.size w W)))
  (fun _ W=>W.heap[D0]? = some (.deferred (some []))∧(Boxed W w.heap.size 26 (.int .i64 4)∧Below w.heap.size w W))
  (OwnFrom.and (ownFrom_pure _ _) (OwnFrom.and (jG (Array.getElem?_eq_some_iff.1 HM0.out).1) (OwnFrom.and (Own.from (boxed_own _ _ (fun _ => .int .i64 0)) _) (ownFrom_below (Nat.le_refl _) HB.out.2.size))))
  (OwnFrom.and (jG (Array.getElem?_eq_some_iff.1 HM0.out).1) (OwnFrom.and (Own.from (boxed_own _ _ (fun _ => .int .i64 4)) _) (ownFrom_below (Nat.le_refl _) HB.out.2.size)))
  (fun s A h=>⟨h.1,⟨h.2.1,⟨h.2.2.1,h.2.2.2.drew⟩⟩⟩)
  (⟨(fun _ h=>by cases h),⟨HM0.out,HB.out⟩⟩)
  (fun z=>{ tmps := #[.slice (some ⟨b,0,none⟩) 2 2,undef,.pointer (some ⟨w.heap.size,0,none⟩),undef,.string s1,.int .i64 0,.string (aa z),.slice (some ⟨b,0,none⟩) 2 2,.int .i64 2,.int .i64 1,.bool true,.pointer (some ⟨b,1,none⟩),.string s1,.string s1,.int .i64 0,.int .i64 0,.bool false,undef,.string s1,.agg #[.string (aa n1),.string (aa d1)],.func (.func 55) #[.agg #[.string (aa n1),.string (aa d1)]] #[],.string (aa z),undef,undef,undef,undef,.int .i64 1],defers := [] }) ?assign1 ?body1 ?done1 ?stop1
 case assign1 =>
  intro l x W K hK
  gi_wp2
  exact hK
 case body1 =>
  rintro l pre z r' W hle hx hI
  have HX:=Ha hx;clear hx
  have ct:=Ha (fun W=>cV z W)
  have hc0:=hI.2.2.1.cell
  have hf0:=hI.2.2.1.frozen
  have HI:=Ha hI;clear hI
  by_cases hz:(90:Int)<(szB (aa z)).size
  ·generalize szB (aa z)=u at *
   gi_wp2_with fail
   refine ⟨trivial,?_⟩
   refine (CallsIn.inRound l (callsIn_wide.2 (ct.out _))).mono ?_
   rintro e w3 ⟨rfl,rfl⟩
   gi_wp2
   have hI:=HI.out
   refine ⟨(KeepsOthers.setCell _ _ _).from _,rfl,?_⟩
   exact ⟨(KeepsOthers.setCell W ⟨w.heap.size,0,none⟩ (.int .i64 4)).same D0 _ hI.2.1 rfl,hI.2.2.1.set (.int .i64 4),hI.2.2.2.setCell (p:=⟨w.heap.size,0,none⟩) (Nat.le_refl _) (.int .i64 4)⟩
  ·have hsz:(szB (aa z)).size≤90:=by omega
   have HZ:=Ha hsz;clear hsz
   generalize hu:szB (aa z)=u at *
   have hz2:(u.size:Int)≤9223372036854775807:=by omega
   gi_wp2_with fail
   refine ⟨trivial,?_⟩
   refine (CallsIn.inRound l (callsIn_wide.2 (ct.out _))).mono ?_
   rintro e w3 ⟨rfl,rfl⟩
   gi_wp2
   have hI:=HI.out
   refine ⟨KeepsFrom.refl _ _,fun _=>Kb.refl _ _,fun y hy => ?_,hI.2⟩
   rcases List.mem_append.1 hy with h | h
   ·exact hI.1 y h
   ·rw [List.mem_singleton.1 h,hu];exact HZ.out
 case done1 =>
  rintro D V hD hI hM
  exact absurd hI.1 B1.out
 case stop1 =>
  rintro D1 pre r' V hD1 hx ⟨hM0,hBx⟩ hM1
  clear hx
  have LO1:w.heap.size≤D1:=Nat.le_trans LS1.out hD1
  have g:=hBx.1
  have hBB:=hBx.2
  have NE0:D0≠D1:=by have h1:=LT01.out;have h3:=h1;omega
  clear HB HM0
  gi_wp2
  refine ⟨by simp,.inl ⟨_,_,rfl,run_takeDeferred hM1,?_⟩⟩
  have g:=g.kept (grownBy_putObj' _ D1 (.deferred none)) (fun e=>by cases e;have h1:=g;have h2:=hM1;unfold Boxed at h1;rw [h1] at h2;cases h2)
  have hBB:=hBB.trans (belowK_b (w:=w) (Nat.le_refl _) _ D1 _ (.deferred none) (LO1) hM1 rfl rfl)
  have hM0:=(World.putObj_heap_other (o := .deferred none) (NE0)).trans hM0
  refine ⟨by simp,.inl ⟨_,_,rfl,run_takeDeferred hM0,?_⟩⟩
  have g:=g.kept (grownBy_putObj' _ D0 (.deferred none)) (fun e=>by cases e;have h1:=g;have h2:=hM0;unfold Boxed at h1;rw [h1] at h2;cases h2)
  have hBB:=hBB.trans (belowK_b (w:=w) (Nat.le_refl _) _ D0 _ (.deferred none) (LO0.out) hM0 rfl rfl)
  have hc9:=g.cell
  refine ⟨.int .i64 4,?_,rfl,hBB⟩
  simp [results,Tryz.f23,go_sem,hc9]
end
theorem jH (b:Nat) (s:ByteArray) (w:World) (hs:s.size≤maxLen) (hx:Sl w b [s]) (ht:Tab w) (ht2:aW w) :
  Calls Tryz.prog 23 #[.slice (some ⟨b,0,none⟩) 1 1] w fun e W'=>e = .returned (.int .i64 (ckR s.data.toList))∧Below w.heap.size w W':=by
 have x0:=hx.cell 0 (by simp)
 unfold ckR
 by_cases h1:aM s.data.toList=0
 ·rw [if_pos h1]
  have ea:=eO h1
  have hl:=iA h1
  generalize bZ s.data.toList=x at *
  subst ea
  by_cases h2:x.num.natAbs<aO 90∧x.den<aO 90
  ·rw [if_pos h2];exact gR b x w ⟨h2.1,h2.2⟩ hx ht ht2
  ·rw [if_neg h2];exact ue b 1 x w hl (fun k=>h2 ⟨k.num,k.den⟩) (by decide) (by decide) hx.lt x0 ht ht2
 ·rw [if_neg h1];exact ud b 1 s w hs h1 (by decide) (by decide) hx.lt x0 ht ht2
theorem s7 (b:Nat) (s t:ByteArray) (w:World) (hs:s.size≤maxLen) (ht':t.size≤maxLen) (hx:Sl w b [s,t]) (ht:Tab w) (ht2:aW w) :
  Calls Tryz.prog 23 #[.slice (some ⟨b,0,none⟩) 2 2] w fun e W'=>e = .returned (.int .i64 (if ckR s.data.toList=0 then ckR t.data.toList else ckR s.data.toList))∧Below w.heap.size w W':=by
 have x0:=hx.cell 0 (by simp)
 have x1:=hx.cell 1 (by simp)
 by_cases h:ckR s.data.toList=0
 ·rw [if_pos h]
  obtain ⟨x,rfl,hq⟩:=mi h
  unfold ckR
  by_cases h1:aM t.data.toList=0
  ·rw [if_pos h1]
   have ea:=eO h1
   have hl:=iA h1
   generalize bZ t.data.toList=y at *
   subst ea
   by_cases h2:y.num.natAbs<aO 90∧y.den<aO 90
   ·rw [if_pos h2];exact jm b x y w hq ⟨h2.1,h2.2⟩ hx ht ht2
   ·rw [if_neg h2];exact xq b x y w hq hl (fun k=>h2 ⟨k.num,k.den⟩) hx.lt x0 x1 ht ht2
  ·rw [if_neg h1];exact xp b x t w hq ht' h1 hx.lt x0 x1 ht ht2
 ·rw [if_neg h]
  unfold ckR at h ⊢
  by_cases h1:aM s.data.toList=0
  ·rw [if_pos h1] at h ⊢
   have ea:=eO h1
   have hl:=iA h1
   generalize bZ s.data.toList=x at *
   subst ea
   by_cases h2:x.num.natAbs<aO 90∧x.den<aO 90
   ·rw [if_pos h2] at h;exact absurd rfl h
   ·rw [if_neg h2];exact ue b 2 x w hl (fun k=>h2 ⟨k.num,k.den⟩) (by decide) (by decide) hx.lt x0 ht ht2
  ·rw [if_neg h1];exact ud b 2 s w hs h1 (by decide) (by decide) hx.lt x0 ht ht2
theorem s8 (s t:ByteArray) (c1 c2:Int) (w:World) (hc:(if c1=0 then c2 else c1)=0) (hz:(t.toList == [48])=true)
  (o1:∀ (b:Nat) W,Sl W b [s,t]→Below w.heap.size w W→Calls Tryz.prog 23 #[.slice (some ⟨b,0,none⟩) 2 2] W fun e W'=>e = .returned (.int .i64 c1)∧Below W.heap.size W W')
  (o2:∀ (b:Nat) W,Sl W b [s,t]→Below w.heap.size w W→Calls Tryz.prog 24 #[.slice (some ⟨b,0,none⟩) 2 2] W fun e W'=>e = .returned (.int .i64 c2)∧Below W.heap.size W W') :
  Calls Tryz.prog 11 #[.string s,.string t] w fun e W'=>e = .returned (.tuple #[.string ⟨#[]⟩,.bool false,.int .i64 12])∧Below w.heap.size w W':=by
 have O:=Ha (Hb o1 o2);clear o1 o2
 have HC:=Ha hc;clear hc
 go_enter Tryz.func11,Tryz.ntmps11
 go_wp2_with fail
 have hS1:=Sl.new2 w s t 22
 have BB:=Ha ((Below.refl _ w).alloc (Nat.le_refl _) (.cells #[.string s,.string t] 22))
 generalize w.alloc (.cells #[.string s,.string t] 22)=v0 at *
 generalize hk0:w.heap.size=k0 at hS1
 refine (O.out.1 _ _ hS1 BB.out).mono ?_
 rintro e v1 ⟨rfl,b⟩
 have B1:=Ha (BB.out.trans (b.mono BB.out.size));clear b BB hS1 hk0
 go_wp2_with fail
 have hS2:=Sl.new2 v1 s t 22
 have BB:=Ha (B1.out.alloc B1.out.size (.cells #[.string s,.string t] 22))
 generalize v1.alloc (.cells #[.string s,.string t] 22)=v2 at *
 generalize v1.heap.size=k1 at hS2 ⊢
 refine (O.out.2 _ _ hS2 BB.out).mono ?_
 rintro e v3 ⟨rfl,b⟩
 have B3:=Ha (BB.out.trans (b.mono BB.out.size));clear b BB hS2 B1
 go_wp2_with fail
 have hS3:=Blk.new v3 #[.int .i64 c1,.int .i64 c2] 26
 have BB:=Ha (B3.out.alloc B3.out.size (.cells #[.int .i64 c1,.int .i64 c2] 26))
 generalize v3.alloc (.cells #[.int .i64 c1,.int .i64 c2] 26)=v4 at *
 generalize v3.heap.size=k3 at hS3 ⊢
 refine (fJ _ c1 c2 v4 hS3).mono ?_
 rintro e v5 ⟨rfl,b⟩
 rw [HC.out]
 have B5:=Ha (BB.out.trans (b.mono BB.out.size));clear b BB hS3 B3
 go_wp2
 go_ret3
 exact ⟨rfl,B5.out⟩
theorem nD (s:ByteArray) (c1 c2 c:Int) (w:World) (hc:(if c1=0 then c2 else c1)=c) (e0:(c==0)=false) (e1:(c != 0)=true)
  (o1:∀ (b:Nat) W,Sl W b [s]→Below w.heap.size w W→Calls Tryz.prog 23 #[.slice (some ⟨b,0,none⟩) 1 1] W fun e W'=>e = .returned (.int .i64 c1)∧Below W.heap.size W W')
  (o2:∀ (b:Nat) W,Sl W b [s]→Below w.heap.size w W→Calls Tryz.prog 24 #[.slice (some ⟨b,0,none⟩) 1 1] W fun e W'=>e = .returned (.int .i64 c2)∧Below W.heap.size W W') :
  Calls Tryz.prog 7 #[.string s] w fun e W'=>e = .returned (.tuple #[.string ⟨#[]⟩,.string ⟨#[]⟩,.int .i64 c])∧Below w.heap.size w W':=by
 have O:=Ha (Hb o1 o2);clear o1 o2
 have HC:=Ha hc;clear hc
 go_enter Tryz.func7,Tryz.ntmps7
 go_wp2_with fail
 have hS1:=Sl.new1 w s 22
 have BB:=Ha ((Below.refl _ w).alloc (Nat.le_refl _) (.cells #[.string s] 22))
 generalize w.alloc (.cells #[.string s] 22)=v0 at *
 generalize hk0:w.heap.size=k0 at hS1
 refine (O.out.1 _ _ hS1 BB.out).mono ?_
 rintro e v1 ⟨rfl,b⟩
 have B1:=Ha (BB.out.trans (b.mono BB.out.size));clear b BB hS1 hk0
 go_wp2_with fail
 have hS2:=Sl.new1 v1 s 22
 have BB:=Ha (B1.out.alloc B1.out.size (.cells #[.string s] 22))
 generalize v1.alloc (.cells #[.string s] 22)=v2 at *
 generalize v1.heap.size=k1 at hS2 ⊢
 refine (O.out.2 _ _ hS2 BB.out).mono ?_
 rintro e v3 ⟨rfl,b⟩
 have B3:=Ha (BB.out.trans (b.mono BB.out.size));clear b BB hS2 B1
 go_wp2_with fail
 have hS3:=Blk.new v3 #[.int .i64 c1,.int .i64 c2] 26
 have BB:=Ha (B3.out.alloc B3.out.size (.cells #[.int .i64 c1,.int .i64 c2] 26))
 generalize v3.alloc (.cells #[.int .i64 c1,.int .i64 c2] 26)=v4 at *
 generalize v3.heap.size=k3 at hS3 ⊢
 refine (fJ _ c1 c2 v4 hS3).mono ?_
 rintro e v5 ⟨rfl,b⟩
 rw [HC.out]
 have B5:=Ha (BB.out.trans (b.mono BB.out.size));clear b BB hS3 B3
 go_wp2
 go_ret3
 exact ⟨rfl,B5.out⟩
theorem vt (s:ByteArray) (c1 c2 c:Int) (w:World) (hc:(if c1=0 then c2 else c1)=c) (e0:(c==0)=false) (e1:(c != 0)=true)
  (o1:∀ (b:Nat) W,Sl W b [s]→Below w.heap.size w W→Calls Tryz.prog 23 #[.slice (some ⟨b,0,none⟩) 1 1] W fun e W'=>e = .returned (.int .i64 c1)∧Below W.heap.size W W')
  (o2:∀ (b:Nat) W,Sl W b [s]→Below w.heap.size w W→Calls Tryz.prog 24 #[.slice (some ⟨b,0,none⟩) 1 1] W fun e W'=>e = .returned (.int .i64 c2)∧Below W.heap.size W W') :
  Calls Tryz.prog 9 #[.string s] w fun e W'=>e = .returned (.tuple #[.string ⟨#[]⟩,.bool false,.int .i64 c])∧Below w.heap.size w W':=by
 have O:=Ha (Hb o1 o2);clear o1 o2
 have HC:=Ha hc;clear hc
 go_enter Tryz.func9,Tryz.ntmps9
 go_wp2_with fail
 have hS1:=Sl.new1 w s 22
 have BB:=Ha ((Below.refl _ w).alloc (Nat.le_refl _) (.cells #[.string s] 22))
 generalize w.alloc (.cells #[.string s] 22)=v0 at *
 generalize hk0:w.heap.size=k0 at hS1
 refine (O.out.1 _ _ hS1 BB.out).mono ?_
 rintro e v1 ⟨rfl,b⟩
 have B1:=Ha (BB.out.trans (b.mono BB.out.size));clear b BB hS1 hk0
 go_wp2_with fail
 have hS2:=Sl.new1 v1 s 22
 have BB:=Ha (B1.out.alloc B1.out.size (.cells #[.string s] 22))
 generalize v1.alloc (.cells #[.string s] 22)=v2 at *
 generalize v1.heap.size=k1 at hS2 ⊢
 refine (O.out.2 _ _ hS2 BB.out).mono ?_
 rintro e v3 ⟨rfl,b⟩
 have B3:=Ha (BB.out.trans (b.mono BB.out.size));clear b BB hS2 B1
 go_wp2_with fail
 have hS3:=Blk.new v3 #[.int .i64 c1,.int .i64 c2] 26
 have BB:=Ha (B3.out.alloc B3.out.size (.cells #[.int .i64 c1,.int .i64 c2] 26))
 generalize v3.alloc (.cells #[.int .i64 c1,.int .i64 c2] 26)=v4 at *
 generalize v3.heap.size=k3 at hS3 ⊢
 refine (fJ _ c1 c2 v4 hS3).mono ?_
 rintro e v5 ⟨rfl,b⟩
 rw [HC.out]
 have B5:=Ha (BB.out.trans (b.mono BB.out.size));clear b BB hS3 B3
 go_wp2
 go_ret3
 exact ⟨rfl,B5.out⟩
theorem oU (s t:ByteArray) (c1 c2 c:Int) (w:World) (hc:(if c1=0 then c2 else c1)=c) (e0:(c==0)=false) (e1:(c != 0)=true)
  (o1:∀ (b:Nat) W,Sl W b [s,t]→Below w.heap.size w W→Calls Tryz.prog 23 #[.slice (some ⟨b,0,none⟩) 2 2] W fun e W'=>e = .returned (.int .i64 c1)∧Below W.heap.size W W')
  (o2:∀ (b:Nat) W,Sl W b [s,t]→Below w.heap.size w W→Calls Tryz.prog 24 #[.slice (some ⟨b,0,none⟩) 2 2] W fun e W'=>e = .returned (.int .i64 c2)∧Below W.heap.size W W') :
  Calls Tryz.prog 11 #[.string s,.string t] w fun e W'=>e = .returned (.tuple #[.string ⟨#[]⟩,.bool false,.int .i64 c])∧Below w.heap.size w W':=by
 have O:=Ha (Hb o1 o2);clear o1 o2
 have HC:=Ha hc;clear hc
 go_enter Tryz.func11,Tryz.ntmps11
 go_wp2_with fail
 have hS1:=Sl.new2 w s t 22
 have BB:=Ha ((Below.refl _ w).alloc (Nat.le_refl _) (.cells #[.string s,.string t] 22))
 generalize w.alloc (.cells #[.string s,.string t] 22)=v0 at *
 generalize hk0:w.heap.size=k0 at hS1
 refine (O.out.1 _ _ hS1 BB.out).mono ?_
 rintro e v1 ⟨rfl,b⟩
 have B1:=Ha (BB.out.trans (b.mono BB.out.size));clear b BB hS1 hk0
 go_wp2_with fail
 have hS2:=Sl.new2 v1 s t 22
 have BB:=Ha (B1.out.alloc B1.out.size (.cells #[.string s,.string t] 22))
 generalize v1.alloc (.cells #[.string s,.string t] 22)=v2 at *
 generalize v1.heap.size=k1 at hS2 ⊢
 refine (O.out.2 _ _ hS2 BB.out).mono ?_
 rintro e v3 ⟨rfl,b⟩
 have B3:=Ha (BB.out.trans (b.mono BB.out.size));clear b BB hS2 B1
 go_wp2_with fail
 have hS3:=Blk.new v3 #[.int .i64 c1,.int .i64 c2] 26
 have BB:=Ha (B3.out.alloc B3.out.size (.cells #[.int .i64 c1,.int .i64 c2] 26))
 generalize v3.alloc (.cells #[.int .i64 c1,.int .i64 c2] 26)=v4 at *
 generalize v3.heap.size=k3 at hS3 ⊢
 refine (fJ _ c1 c2 v4 hS3).mono ?_
 rintro e v5 ⟨rfl,b⟩
 rw [HC.out]
 have B5:=Ha (BB.out.trans (b.mono BB.out.size));clear b BB hS3 B3
 go_wp2
 go_ret3
 exact ⟨rfl,B5.out⟩
end Go.Proofs.YtjdomibbaemdnaaGreatDoor.T
