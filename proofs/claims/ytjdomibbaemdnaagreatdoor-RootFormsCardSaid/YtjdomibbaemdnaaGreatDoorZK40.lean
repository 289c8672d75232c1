/- Parts of the proof of the text YtjdomibbaemdnaaGreatDoorZK42. -/
import Derived.Test.YtjdomibbaemdnaaGreatDoorZK1
import Derived.Test.YtjdomibbaemdnaaGreatDoorZK24
import Derived.Test.YtjdomibbaemdnaaGreatDoorZK39
set_option linter.all false
set_option maxRecDepth 100000
set_option maxHeartbeats 8000000
namespace Go.Proofs.YtjdomibbaemdnaaGreatDoor.T
open Go.Proofs.YtjdomibbaemdnaaGreatDoor Go Go.RowKit Go.Shelf
theorem jG {β:Type} {B D:Nat} {o:Obj} (hD:D<B):OwnFrom B (fun (_:β) (W:World)=>W.heap[D]? = some o) :=
 fun _ X Y row hs hg hr=>(hg.block D (Array.getElem?_eq_some_iff.1 hs).1 (fun e=>by have:=(hr D e.symm).1;omega)).trans hs
theorem xo {z:Int} (h:Bd 90 z):(szB (aa z)).size≤90:=by
 rw [tR,fQ]
 have h1:Lib.nDigits z.natAbs≤90:=(aJ _ 90 (by decide)).2 h
 rw [Lib.itoa_nonneg,Lib.decDigits_length];exact h1
theorem cV (z:Int) (W:World):Calls Tryz.prog 56 #[.string (aa z),.string ⟨#[45]⟩] W fun e W'=>e = .returned (.string (szB (aa z)))∧W=W' :=
 (Tryz.strings_TrimPrefix (aa z) ⟨#[45]⟩ W).mono (fun e W' h=>⟨by rw [h.1,show (⟨#[45]⟩:ByteArray).data.toList = [45] from rfl,wl];rfl,h.2.symm⟩)
section
attribute [local go_sem] Oper.semAt_some
theorem gR (b:Nat) (q0:Rat) (w:World) (h0:Bq 90 q0) (hx:Sl w b [ah q0]) (ht:Tab w) (ht2:aW w) :
  Calls Tryz.prog 23 #[.slice (some ⟨b,0,none⟩) 1 1] w fun e W'=>e = .returned (.int .i64 0)∧Below w.heap.size w W':=by
 refine (callsIn_wide (n:=9)).1 ?_
 have K0:=Ha (fun W (h:Below w.heap.size w W)=>ig q0 W (h0.lim (by decide)) (ht.next h) (ai ht2 h))
 have P0:=Ha (fun W=>cE q0 W (h0.lim (by decide)))
 have X0:Hid (w.cell? ⟨b,0,none⟩=some (.string (ah q0))):=Ha (hx.cell 0 (by simp))
 have B0:Hid (∀ z ∈ [q0.num,(q0.den:Int)],Bd 90 z):=Ha (by
  intro z hz
  have h:z=q0.num∨z=(q0.den:Int):=by simpa using hz
  rcases h with e | e
  ·rw [e];exact h0.num
  ·rw [e];exact h0.den)
 have hbl:=hx.lt
 clear h0 hx ht ht2
 generalize ah q0=s0 at *
 generalize q0.num=n0 at *
 generalize (q0.den:Int)=d0 at *
 refine callsIn_of_wp_marks Tryz.func23 rfl trivial ?_ rfl
 simp only [Tryz.ntmps23,List.size_toArray,List.length_cons,List.length_nil,Nat.reduceAdd,Nat.reduceSub,Array.replicate_succ,Array.replicate_zero,List.push_toArray,List.append_toArray,List.nil_append,List.cons_append]
 gi_wp2
 have HB:=Ha (Hb (Boxed.new w 26 (.int .i64 0)) ((Below.refl _ w).alloc (Nat.le_refl _) (.cells #[.int .i64 0] 26)))
 generalize w.alloc (.cells #[.int .i64 0] 26)=V0 at *
 refine wpIn_loop_rounds 2 ?_
 rw [Code.roundsIn]
 have hc:=(HB.out.2.cell (p:=⟨b,0,none⟩) hbl).trans X0.out
 gi_wp2_with fail
 refine ⟨trivial,?_⟩
 refine (callsIn_wide.2 (K0.out _ HB.out.2)).mono ?_
 rintro e w1 ⟨rfl,bb⟩
 clear hc
 have HN:=Ha (Hb (HB.out.1.kept (be bb) (by simp)) (HB.out.2.trans (bb.mono HB.out.2.size)))
 clear HB bb;have HB:=HN;clear HN
 gi_wp2_with fail
 refine ⟨trivial,?_⟩
 refine (callsIn_wide.2 (P0.out _)).mono ?_
 rintro e w2 ⟨rfl,bb⟩
 have HN:=Ha (Hb (HB.out.1.kept (be bb) (by simp)) (HB.out.2.trans (bb.mono HB.out.2.size)))
 clear HB bb;have HB:=HN;clear HN
 have LS0:=Ha HB.out.2.size
 gi_wp2
 refine dv rfl (by omega) (gf:=55) (fs := #[.agg #[.string (aa n0),.string (aa d0)]]) rfl trivial (enters_of Tryz.func55 (by kernel_rfl) rfl)
  (dd aa n0 d0 (9 - 1) w2 (by omega)) (fun _=>rfl) .ret (.inl rfl)
  (fun _ W=>Boxed W w.heap.size 26 (.int .i64 0)∧Below w.heap.size w W)
  (fun _ _=>False)
  (OwnFrom.and (Own.from (boxed_own _ _ (fun _ => .int .i64 0)) _) (ownFrom_below (Nat.le_refl _) HB.out.2.size))
  (fun _ _ _ _ h _ _=>h)
  (fun s A h=>⟨h.1,h.2.drew⟩)
  (HB.out)
  (fun z=>{ tmps := #[.slice (some ⟨b,0,none⟩) 1 1,undef,.pointer (some ⟨w.heap.size,0,none⟩),undef,.string s0,.int .i64 0,.string (aa z),.slice (some ⟨b,0,none⟩) 1 1,.int .i64 1,.int .i64 0,.bool true,.pointer (some ⟨b,0,none⟩),.string s0,.string s0,.int .i64 0,.int .i64 0,.bool false,undef,.string s0,.agg #[.string (aa n0),.string (aa d0)],.func (.func 55) #[.agg #[.string (aa n0),.string (aa d0)]] #[],.string (aa z),undef,undef,undef,undef,undef],defers := [] }) ?assign0 ?body0 ?done0 ?stop0
 case assign0 =>
  intro l x W K hK
  gi_wp2
  exact hK
 case body0 =>
  rintro l pre z r' W hle hx hI
  have hz:=xo (B0.out z (by rw [hx];simp))
  have HI:=Ha hI;clear hI hx
  have ct:=Ha (fun W=>cV z W)
  generalize szB (aa z)=u at *
  have hz1:¬ (90:Int)<u.size:=by omega
  have hz2:(u.size:Int)≤9223372036854775807:=by omega
  gi_wp2_with fail
  refine ⟨trivial,?_⟩
  refine (CallsIn.inRound l (callsIn_wide.2 (ct.out _))).mono ?_
  rintro e w3 ⟨rfl,rfl⟩
  gi_wp2
  exact ⟨KeepsFrom.refl _ _,fun _=>Kb.refl _ _,HI.out⟩
 case stop0 =>
  rintro D pre r' W hD hx h hK
  exact h.elim
 case done0 =>
 rintro D0 V1 hD0 hBx hM0
 have HN:=Ha hBx
 have HE0:=Ha hD0
 have LO0:Hid (w.heap.size≤D0):=Ha (Nat.le_trans LS0.out HE0.out)
 clear HB hBx hD0;have HB:=HN;clear HN
 have HM0:=Ha hM0;clear hM0
 gi_wp2
 rw [Code.roundsIn]
 have hc:=HB.out.1.cell
 have hf:=HB.out.1.frozen
 gi_wp2
 have g:=HB.out.1.set (.int .i64 0)
 have hBB:=HB.out.2.setCell (p:=⟨w.heap.size,0,none⟩) (Nat.le_refl _) (.int .i64 0)
 have k0:(V1.setCell ⟨w.heap.size,0,none⟩ (.int .i64 0)).heap[D0]? = some (.deferred (some [])):=(KeepsOthers.setCell V1 ⟨w.heap.size,0,none⟩ (.int .i64 0)).same D0 _ HM0.out rfl
 refine ⟨by simp,.inl ⟨_,_,rfl,run_takeDeferred k0,?_⟩⟩
 have g:=g.kept (grownBy_putObj' _ D0 (.deferred none)) (fun e=>by cases e;have h1:=g;have h2:=k0;unfold Boxed at h1;rw [h1] at h2;cases h2)
 have hBB:=hBB.trans (belowK_b (w:=w) (Nat.le_refl _) _ D0 _ (.deferred none) (LO0.out) k0 rfl rfl)
 have hc9:=g.cell
 refine ⟨.int .i64 0,?_,rfl,hBB⟩
 simp [results,Tryz.f23,go_sem,hc9]
theorem jm (b:Nat) (q0 q1:Rat) (w:World) (h0:Bq 90 q0) (h1:Bq 90 q1) (hx:Sl w b [ah q0,ah q1]) (ht:Tab w) (ht2:aW w) :
  Calls Tryz.prog 23 #[.slice (some ⟨b,0,none⟩) 2 2] w fun e W'=>e = .returned (.int .i64 0)∧Below w.heap.size w W':=by
 refine (callsIn_wide (n:=9)).1 ?_
 have K0:=Ha (fun W (h:Below w.heap.size w W)=>ig q0 W (h0.lim (by decide)) (ht.next h) (ai ht2 h))
 have P0:=Ha (fun W=>cE q0 W (h0.lim (by decide)))
 have X0:Hid (w.cell? ⟨b,0,none⟩=some (.string (ah q0))):=Ha (hx.cell 0 (by simp))
 have B0:Hid (∀ z ∈ [q0.num,(q0.den:Int)],Bd 90 z):=Ha (by
  intro z hz
  have h:z=q0.num∨z=(q0.den:Int):=by simpa using hz
  rcases h with e | e
  ·rw [e];exact h0.num
  ·rw [e];exact h0.den)
 have K1:=Ha (fun W (h:Below w.heap.size w W)=>ig q1 W (h1.lim (by decide)) (ht.next h) (ai ht2 h))
 have P1:=Ha (fun W=>cE q1 W (h1.lim (by decide)))
 have X1:Hid (w.cell? ⟨b,1,none⟩=some (.string (ah q1))):=Ha (hx.cell 1 (by simp))
 have B1:Hid (∀ z ∈ [q1.num,(q1.den:Int)],Bd 90 z):=Ha (by
  intro z hz
  have h:z=q1.num∨z=(q1.den:Int):=by simpa using hz
  rcases h with e | e
  ·rw [e];exact h1.num
  ·rw [e];exact h1.den)
 have hbl:=hx.lt
 clear h0 h1 hx ht ht2
 generalize ah q0=s0 at *
 generalize q0.num=n0 at *
 generalize (q0.den:Int)=d0 at *
 generalize ah q1=s1 at *
 generalize q1.num=n1 at *
 generalize (q1.den:Int)=d1 at *
 refine callsIn_of_wp_marks Tryz.func23 rfl trivial ?_ rfl
 simp only [Tryz.ntmps23,List.size_toArray,List.length_cons,List.length_nil,Nat.reduceAdd,Nat.reduceSub,Array.replicate_succ,Array.replicate_zero,List.push_toArray,List.append_toArray,List.nil_append,List.cons_append]
 gi_wp2
 have HB:=Ha (Hb (Boxed.new w 26 (.int .i64 0)) ((Below.refl _ w).alloc (Nat.le_refl _) (.cells #[.int .i64 0] 26)))
 generalize w.alloc (.cells #[.int .i64 0] 26)=V0 at *
 refine wpIn_loop_rounds 3 ?_
 rw [Code.roundsIn]
 have hc:=(HB.out.2.cell (p:=⟨b,0,none⟩) hbl).trans X0.out
 gi_wp2_with fail
 refine ⟨trivial,?_⟩
 refine (callsIn_wide.2 (K0.out _ HB.out.2)).mono ?_
 rintro e w1 ⟨rfl,bb⟩
 clear hc
 have HN:=Ha (Hb (HB.out.1.kept (be bb) (by simp)) (HB.out.2.trans (bb.mono HB.out.2.size)))
 clear HB bb;have HB:=HN;clear HN
 gi_wp2_with fail
 refine ⟨trivial,?_⟩
 refine (callsIn_wide.2 (P0.out _)).mono ?_
 rintro e w2 ⟨rfl,bb⟩
 have HN:=Ha (Hb (HB.out.1.kept (be bb) (by simp)) (HB.out.2.trans (bb.mono HB.out.2.size)))
 clear HB bb;have HB:=HN;clear HN
 have LS0:=Ha HB.out.2.size
 gi_wp2
 refine dv rfl (by omega) (gf:=55) (fs := #[.agg #[.string (aa n0),.string (aa d0)]]) rfl trivial (enters_of Tryz.func55 (by kernel_rfl) rfl)
  (dd aa n0 d0 (9 - 1) w2 (by omega)) (fun _=>rfl) .ret (.inl rfl)
  (fun _ W=>Boxed W w.heap.size 26 (.int .i64 0)∧Below w.heap.size w W)
  (fun _ _=>False)
  (OwnFrom.and (Own.from (boxed_own _ _ (fun _ => .int .i64 0)) _) (ownFrom_below (Nat.le_refl _) HB.out.2.size))
  (fun _ _ _ _ h _ _=>h)
  (fun s A h=>⟨h.1,h.2.drew⟩)
  (HB.out)
  (fun z=>{ tmps := #[.slice (some ⟨b,0,none⟩) 2 2,undef,.pointer (some ⟨w.heap.size,0,none⟩),undef,.string s0,.int .i64 0,.string (aa z),.slice (some ⟨b,0,none⟩) 2 2,.int .i64 2,.int .i64 0,.bool true,.pointer (some ⟨b,0,none⟩),.string s0,.string s0,.int .i64 0,.int .i64 0,.bool false,undef,.string s0,.agg #[.string (aa n0),.string (aa d0)],.func (.func 55) #[.agg #[.string (aa n0),.string (aa d0)]] #[],.string (aa z),undef,undef,undef,undef,undef],defers := [] }) ?assign0 ?body0 ?done0 ?stop0
 case assign0 =>
  intro l x W K hK
  gi_wp2
  exact hK
 case body0 =>
  rintro l pre z r' W hle hx hI
  have hz:=xo (B0.out z (by rw [hx];simp))
  have HI:=Ha hI;clear hI hx
  have ct:=Ha (fun W=>cV z W)
  generalize szB (aa z)=u at *
  have hz1:¬ (90:Int)<u.size:=by omega
  have hz2:(u.size:Int)≤9223372036854775807:=by omega
  gi_wp2_with fail
  refine ⟨trivial,?_⟩
  refine (CallsIn.inRound l (callsIn_wide.2 (ct.out _))).mono ?_
  rintro e w3 ⟨rfl,rfl⟩
  gi_wp2
  exact ⟨KeepsFrom.refl _ _,fun _=>Kb.refl _ _,HI.out⟩
 case stop0 =>
  rintro D pre r' W hD hx h hK
  exact h.elim
 case done0 =>
 rintro D0 V1 hD0 hBx hM0
 have HN:=Ha hBx
 have HE0:=Ha hD0
 have LO0:Hid (w.heap.size≤D0):=Ha (Nat.le_trans LS0.out HE0.out)
 clear HB hBx hD0;have HB:=HN;clear HN
 have HM0:=Ha hM0;clear hM0
 gi_wp2
 rw [Code.roundsIn]
 have hc:=(HB.out.2.cell (p:=⟨b,1,none⟩) hbl).trans X1.out
 gi_wp2_with fail
 refine ⟨trivial,?_⟩
 refine (callsIn_wide.2 (K1.out _ HB.out.2)).mono ?_
 rintro e w1 ⟨rfl,bb⟩
 clear hc
 have HN:=Ha (Hb (HB.out.1.kept (be bb) (by simp)) (HB.out.2.trans (bb.mono HB.out.2.size)))
 have HN0:=Ha ((bb.block D0 (Array.getElem?_eq_some_iff.1 HM0.out).1).trans HM0.out);clear HM0;have HM0:=HN0;clear HN0
 clear HB bb;have HB:=HN;clear HN
 gi_wp2_with fail
 refine ⟨trivial,?_⟩
 refine (callsIn_wide.2 (P1.out _)).mono ?_
 rintro e w2 ⟨rfl,bb⟩
 have HN:=Ha (Hb (HB.out.1.kept (be bb) (by simp)) (HB.out.2.trans (bb.mono HB.out.2.size)))
 have HN0:=Ha ((bb.block D0 (Array.getElem?_eq_some_iff.1 HM0.out).1).trans HM0.out);clear HM0;have HM0:=HN0;clear HN0
 clear HB bb;have HB:=HN;clear HN
 have LT01:=Ha (Array.getElem?_eq_some_iff.1 HM0.out).1
 have LS1:=Ha HB.out.2.size
 gi_wp2
 refine dv rfl (by omega) (gf:=55) (fs := #[.agg #[.string (aa n1),.string (aa d1)]]) rfl trivial (enters_of Tryz.func55 (by kernel_rfl) rfl)
  (dd aa n1 d1 (9 - 1) w2 (by omega)) (fun _=>rfl) .ret (.inl rfl)
  (fun _ W=>W.heap[D0]? = some (.deferred (some []))∧(Boxed W w.heap.size 26 (.int .i64 0)∧Below w.heap.size w W))
  (fun _ _=>False)
  (OwnFrom.and (jG (Array.getElem?_eq_some_iff.1 HM0.out).1) (OwnFrom.and (Own.from (boxed_own _ _ (fun _ => .int .i64 0)) _) (ownFrom_below (Nat.le_refl _) HB.out.2.size)))
  (fun _ _ _ _ h _ _=>h)
  (fun s A h=>⟨h.1,⟨h.2.1,h.2.2.drew⟩⟩)
  (⟨HM0.out,HB.out⟩)
  (fun z=>{ tmps := #[.slice (some ⟨b,0,none⟩) 2 2,undef,.pointer (some ⟨w.heap.size,0,none⟩),undef,.string s1,.int .i64 0,.string (aa z),.slice (some ⟨b,0,none⟩) 2 2,.int .i64 2,.int .i64 1,.bool true,.pointer (some ⟨b,1,none⟩),.string s1,.string s1,.int .i64 0,.int .i64 0,.bool false,undef,.string s1,.agg #[.string (aa n1),.string (aa d1)],.func (.func 55) #[.agg #[.string (aa n1),.string (aa d1)]] #[],.string (aa z),undef,undef,undef,undef,.int .i64 1],defers := [] }) ?assign1 ?body1 ?done1 ?stop1
 case assign1 =>
  intro l x W K hK
  gi_wp2
  exact hK
 case body1 =>
  rintro l pre z r' W hle hx hI
  have hz:=xo (B1.out z (by rw [hx];simp))
  have HI:=Ha hI;clear hI hx
  have ct:=Ha (fun W=>cV z W)
  generalize szB (aa z)=u at *
  have hz1:¬ (90:Int)<u.size:=by omega
  have hz2:(u.size:Int)≤9223372036854775807:=by omega
  gi_wp2_with fail
  refine ⟨trivial,?_⟩
  refine (CallsIn.inRound l (callsIn_wide.2 (ct.out _))).mono ?_
  rintro e w3 ⟨rfl,rfl⟩
  gi_wp2
  exact ⟨KeepsFrom.refl _ _,fun _=>Kb.refl _ _,HI.out⟩
 case stop1 =>
  rintro D pre r' W hD hx h hK
  exact h.elim
 case done1 =>
 rintro D1 V2 hD1 ⟨hM0,hBx⟩ hM1
 have HN:=Ha hBx
 have HE1:=Ha hD1
 have LO1:Hid (w.heap.size≤D1):=Ha (Nat.le_trans LS1.out HE1.out)
 clear HB hBx hD1;have HB:=HN;clear HN
 have NE01:Hid (D0≠D1):=Ha (by have h1:=LT01.out;have h2:=HE1.out;have h3:=h1;omega)
 clear HM0
 have HM0:=Ha hM0;clear hM0
 have HM1:=Ha hM1;clear hM1
 gi_wp2
 rw [Code.roundsIn]
 have hc:=HB.out.1.cell
 have hf:=HB.out.1.frozen
 gi_wp2
 have g:=HB.out.1.set (.int .i64 0)
 have hBB:=HB.out.2.setCell (p:=⟨w.heap.size,0,none⟩) (Nat.le_refl _) (.int .i64 0)
 have k1:(V2.setCell ⟨w.heap.size,0,none⟩ (.int .i64 0)).heap[D1]? = some (.deferred (some [])):=(KeepsOthers.setCell V2 ⟨w.heap.size,0,none⟩ (.int .i64 0)).same D1 _ HM1.out rfl
 have k0:(V2.setCell ⟨w.heap.size,0,none⟩ (.int .i64 0)).heap[D0]? = some (.deferred (some [])):=(KeepsOthers.setCell V2 ⟨w.heap.size,0,none⟩ (.int .i64 0)).same D0 _ HM0.out rfl
 refine ⟨by simp,.inl ⟨_,_,rfl,run_takeDeferred k1,?_⟩⟩
 have g:=g.kept (grownBy_putObj' _ D1 (.deferred none)) (fun e=>by cases e;have h1:=g;have h2:=k1;unfold Boxed at h1;rw [h1] at h2;cases h2)
 have hBB:=hBB.trans (belowK_b (w:=w) (Nat.le_refl _) _ D1 _ (.deferred none) (LO1.out) k1 rfl rfl)
 have k0:=(World.putObj_heap_other (o := .deferred none) (NE01.out)).trans k0
 refine ⟨by simp,.inl ⟨_,_,rfl,run_takeDeferred k0,?_⟩⟩
 have g:=g.kept (grownBy_putObj' _ D0 (.deferred none)) (fun e=>by cases e;have h1:=g;have h2:=k0;unfold Boxed at h1;rw [h1] at h2;cases h2)
 have hBB:=hBB.trans (belowK_b (w:=w) (Nat.le_refl _) _ D0 _ (.deferred none) (LO0.out) k0 rfl rfl)
 have hc9:=g.cell
 refine ⟨.int .i64 0,?_,rfl,hBB⟩
 simp [results,Tryz.f23,go_sem,hc9]
end
end Go.Proofs.YtjdomibbaemdnaaGreatDoor.T
