/- Parts of the proof. -/
import Derived.Deep.LoopGhost
import Derived.Test.YtbhbhlfkdlfimaaGreatDoorQX18
set_option linter.all false
set_option maxRecDepth 100000
set_option maxHeartbeats 8000000
namespace Go.Proofs.YtbhbhlfkdlfimaaGreatDoor
namespace T
open Go.Proofs.YtbhbhlfkdlfimaaGreatDoor Go Go.RowKit Go.Shelf
theorem uponIn_round (F:Fence) (n:Nat) (P:Program) (l:Nat) {o:Oper} {a:Act} {K:Act→World→Prop} {Q:Exit→Act→World→Prop} {r:Result Next} (h:o.uponIn F n P a K Q r):o.uponIn (F.inRound l) n P a K Q r:=by
 cases r with
 | ok x w'=>cases x <;> exact h
 | halt x w'=>cases x <;> exact h
theorem jU (F:Fence) (n:Nat) (P:Program) (l:Nat) {md:Region.Mode} {ops:Array Oper} {Q:Exit→Act→World→Prop} (hd:∀ o∈ops.toList,∀ c,o.op ≠ .defer c) :
  ∀ (fuel:Nat) (listed:Array Bool) (a:Act) (w:World),wpAnyIn F n P md ops Q fuel listed a w→wpAnyIn (F.inRound l) n P md ops Q fuel listed a w
 | 0,_,_,_,h=>h
 | fuel+1,listed,a,w,h=>by
  refine ⟨h.1,fun i hi => ?_⟩
  have h2:=h.2 i hi
  unfold wpOpIn at h2 ⊢
  cases ho:ops[i]? with
  | none=>simp only [ho] at h2 ⊢; exact jU F n P l hd fuel _ _ _ h2
  | some o =>
   simp only [ho] at h2 ⊢
   have hno:∀ c,o.op ≠ .defer c:=hd o (by have:=Array.mem_of_getElem? ho;simpa using this)
   split
   ·rename_i hw
    rw [if_pos hw] at h2
    refine Oper.wpIn_mono (fun a w k=>jU F n P l hd fuel _ a w k) ?_
    refine ⟨h2.1,?_⟩
    have h3:=h2.2
    rw [Oper.semAt_plain F _ _ hno] at h3
    rw [Oper.semAt_plain (F.inRound l) _ _ hno]
    exact uponIn_round F n P l h3
   ·rename_i hw
    rw [if_neg hw] at h2
    exact ⟨h2.1,jU F n P l hd fuel _ _ _ h2.2⟩
theorem oZ:∀ (l r:List Nat) (n:Nat),ai (l++r) n=((ai l n).1*(ai r (ai l n).2).1,(ai r (ai l n).2).2)
 | [],r,n=>by simp [ai]
 | q::l,r,n=>by
  show ((strip q n).1*(ai (l++r) (strip q n).2).1,(ai (l++r) (strip q n).2).2)=_
  rw [oZ l r]
  simp only [ai,Nat.mul_assoc]
theorem A9 {pre r:List Nat} {x:Nat} (h:au=pre++x::r):∀ q∈x::r,x≤q:=by
 have s:List.Pairwise (· ≤ ·) au:=by decide
 rw [h] at s
 have t:=(List.pairwise_append.1 s).2.1
 intro q hq
 rcases List.mem_cons.1 hq with rfl | hq
 ·exact Nat.le_refl _
 ·exact (List.pairwise_cons.1 t).1 q hq
theorem Bc {pre r:List Nat} {x m:Nat} (h:au=pre++x::r) (h0:0<(ai pre m).2) (hv:(ai pre m).2<x*x):ai au m=ai pre m:=by
 rw [h,oZ,iF h0 (x::r) (fun q hq=>Nat.lt_of_lt_of_le hv (Nat.mul_le_mul (A9 h q hq) (A9 h q hq)))]
 simp
structure ShAt (w:World) (base:Nat) (c x:Nat) (W0 W:World):Prop where
 b1:Boxed W w.heap.size 82 (.int .u64 (x:Int))
 b2:Boxed W (w.heap.size+1) 82 (.int .u64 (c:Int))
 below:Below w.heap.size w W
 from_:KeepsFrom base W0 W
 kb:Kb base W0 W
theorem ShAt.drew {w:World} {base c x:Nat} {W0 W:World} (h:ShAt w base c x W0 W):ShAt w base c x W0 W.drew :=
 ⟨h.b1,h.b2,h.below.drew,h.from_.trans ((KeepsOthers.drew W).from _),h.kb.trans (Kb.of_below (Below.refl _ _).drew)⟩
theorem ShAt.put {w:World} {base c x:Nat} {W0 W:World} (h:ShAt w base c x W0 W) (hb:w.heap.size+1<base) (c' x':Nat) {z z':Int} (hz:z=(c':Int)) (hz':z'=(x':Int)) :
  ShAt w base c' x' W0 ((W.setCell ⟨w.heap.size+1,0,none⟩ (.int .u64 z)).setCell ⟨w.heap.size,0,none⟩ (.int .u64 z')):=by
 subst hz hz'
 exact ⟨(h.b1.other (by omega) _).set _,(h.b2.set _).other (by omega) _,(h.below.setCell (p:=⟨w.heap.size+1,0,none⟩) (by show w.heap.size≤w.heap.size+1;omega) _).setCell (p:=⟨w.heap.size,0,none⟩) (Nat.le_refl _) _,
  h.from_.trans (((KeepsOthers.setCell _ _ _).from _).trans ((KeepsOthers.setCell _ _ _).from _)),h.kb.trans ((Kb.cell_below (p:=⟨w.heap.size+1,0,none⟩) hb _).trans (Kb.cell_below (p:=⟨w.heap.size,0,none⟩) (by show w.heap.size<base;omega) _))⟩
structure DnAt (w w1:World) (c x D:Nat) (W:World):Prop where
 b1:Boxed W w1.heap.size 82 (.int .u64 (x:Int))
 b2:Boxed W (w1.heap.size+1) 82 (.int .u64 (c:Int))
 below:Below w.heap.size w W
 mark:W.heap[D]? = some (.deferred (some []))
theorem DnAt.next {w w1:World} {c x D:Nat} {W W':World} (h:DnAt w w1 c x D W) (b:Below W.heap.size W W'):DnAt w w1 c x D W' :=
 ⟨h.b1.kept (df b) (by simp),h.b2.kept (df b) (by simp),h.below.trans (b.mono h.below.size),(b.block D (Array.getElem?_eq_some_iff.1 h.mark).1).trans h.mark⟩
section
attribute [local go_sem] Oper.semAt_some
theorem mv (m:Nat) (w:World) (h0:0<m) (hm:m<1000000000000000000) (hs:(sN m).size≤18) (ht:Tab w) (hS:Sm w) :
  Calls Tryz.prog 276 #[.string (sN m)] w fun e W'=>e = .returned (.tuple #[.string (sN (ai au m).1),.string (sN (ai au m).2)])∧Below w.heap.size w W':=by
 refine (callsIn_wide (n:=9)).1 ?_
 have C1:Hid (∀ u,u<1000000000000000000→∀ W,Below w.heap.size w W→Calls Tryz.prog 294 #[.int .u64 (u:Nat),.int .i64 10] W fun e W'=>e = .returned (.string (sN u))∧Below W.heap.size W W') :=
  Ha (fun u hu W hW=>EC u (by omega) W (ht.next hW))
 have C2:Hid (∀ W,Calls Tryz.prog 292 #[.string (sN m),.int .i64 10,.int .i64 64] W fun e W'=>e = .returned (.tuple #[.int .u64 m,.nilIface])∧Below W.heap.size W W'):=Ha (fun W=>Dx m W (by omega))
 have HM:=Ha (Hb h0 (Hb hm hS));clear h0 hm hS ht
 have HU:Hid ((ai au m).1<1000000000000000000∧(ai au m).2<1000000000000000000):=Ha (by
  obtain ⟨q1,q2,q3,_⟩:=aS au ck HM.out.1
  have hl:=HM.out.2.1
  generalize (ai au m).1=a at *
  generalize (ai au m).2=b at *
  have h1:a≤m:=by rw [q1,Nat.mul_assoc];exact Nat.le_mul_of_pos_right _ (Nat.mul_pos q2 q3)
  have h2:b≤m:=by rw [q1];exact Nat.le_mul_of_pos_left _ (Nat.mul_pos q2 q2)
  omega)
 have hs1:¬ (18:Int)<(sN m).size:=by omega
 refine callsIn_of_wp_marks Tryz.func276 rfl trivial ?_ rfl
 simp only [Tryz.ntmps276,List.size_toArray,List.length_cons,List.length_nil,Nat.reduceAdd,Nat.reduceSub,Array.replicate_succ,Array.replicate_zero,List.push_toArray,List.append_toArray,List.nil_append,List.cons_append]
 gi_wp2_with fail
 refine ⟨trivial,?_⟩
 refine (callsIn_wide.2 (C2.out _)).mono ?_
 rintro e w1 ⟨rfl,bw⟩
 have HW:=Ha bw;clear bw
 gi_wp2
 have b0:=(Boxed.new w1 82 (.int .u64 (m:Int))).alloc (.cells #[.int .u64 1] 82)
 have b1:=Boxed.new (w1.alloc (.cells #[.int .u64 (m:Int)] 82)) 82 (.int .u64 1)
 simp only [World.size_alloc] at b0 b1
 have hB0:Below w1.heap.size w1 ((w1.alloc (.cells #[.int .u64 (m:Int)] 82)).alloc (.cells #[.int .u64 1] 82)):=((Below.refl _ w1).alloc (Nat.le_refl _) _).alloc (by simp) _
 have hsz:((w1.alloc (.cells #[.int .u64 (m:Int)] 82)).alloc (.cells #[.int .u64 1] 82)).heap.size=w1.heap.size+1+1:=by simp
 generalize (w1.alloc (.cells #[.int .u64 (m:Int)] 82)).alloc (.cells #[.int .u64 1] 82)=W2 at *
 have HB:=Ha (Hb hB0 (Hb hsz (Hb b0 b1)));clear b0 b1 hB0 hsz
 refine ij rfl (by omega) (gf:=293) (fs := #[]) rfl trivial (enters_of Tryz.func293 (by kernel_rfl) rfl)
  (ln (9 - 1) W2 (by omega) ((HM.out.2.2.next HW.out).next HB.out.1)) (fun _=>rfl) (.exit 0) (.inr ⟨0,rfl⟩)
  (fun pre W=>(Boxed W w1.heap.size 82 (.int .u64 ((ai pre m).2:Nat))∧Boxed W (w1.heap.size+1) 82 (.int .u64 ((ai pre m).1:Nat)))∧Below w1.heap.size w1 W)
  (fun _ W=>(Boxed W w1.heap.size 82 (.int .u64 ((ai au m).2:Nat))∧Boxed W (w1.heap.size+1) 82 (.int .u64 ((ai au m).1:Nat)))∧Below w1.heap.size w1 W)
  (OwnFrom.and (OwnFrom.and (Own.from (boxed_own _ _ (fun pre => .int .u64 ((ai pre m).2:Nat))) _) (Own.from (boxed_own _ _ (fun pre => .int .u64 ((ai pre m).1:Nat))) _)) (ownFrom_below (Nat.le_refl _) (by rw [HB.out.2.1];omega)))
  (OwnFrom.and (OwnFrom.and (Own.from (boxed_own _ _ (fun _ => .int .u64 ((ai au m).2:Nat))) _) (Own.from (boxed_own _ _ (fun _ => .int .u64 ((ai au m).1:Nat))) _)) (ownFrom_below (Nat.le_refl _) (by rw [HB.out.2.1];omega)))
  (fun s A h=>⟨h.1,h.2.drew⟩)
  ⟨⟨HB.out.2.2.1,HB.out.2.2.2⟩,HB.out.1⟩
  (fun p=>{ tmps := #[.string (sN m),undef,.string ⟨#[]⟩,.string ⟨#[]⟩,.pointer (some ⟨w1.heap.size,0,none⟩),.nilIface,.pointer (some ⟨w1.heap.size+1,0,none⟩),.int .u64 (p:Int),.int .u64 ((p:Int)*(p:Int)),.string (sN m),.int .i64 (sN m).size,.bool false,undef,undef,undef,undef,.tuple #[.int .u64 (m:Int),.nilIface],.string (sN m),.tuple #[.int .u64 (m:Int),.nilIface],.int .u64 (m:Int),.nilIface,.int .u64 (p:Int),.int .u64 ((p:Int)*(p:Int)),undef,undef,undef,undef,undef,undef,undef,undef,undef,undef,undef,undef,undef,undef,undef,undef,undef],defers := [] }) ?assign ?body ?done ?stop
 case assign =>
  intro l x W K hK
  gi_wp2
  exact hK
 case body =>
  rintro l pre p r' W hle hx ⟨⟨h1,h2⟩,hB⟩
  obtain ⟨hpre,hmem⟩:=A7 hx
  have hp:=ll hmem
  have hpp:=oY hmem
  obtain ⟨a1,a2,a3,a4,_⟩:=aS pre hpre HM.out.1
  have hsn:=jm pre p m
  have hbr:=fun h=>Bc (m:=m) hx a3 h
  have H:=Ha (⟨h1,h2,hB,KeepsFrom.refl _ _,Kb.refl _ _⟩:ShAt w1 W2.heap.size (ai pre m).1 (ai pre m).2 W W)
  have HX:=Ha (Hb hsn (Hb a1 (Hb a2 (Hb a3 (Hb hp (Hb hpp hbr))))));clear hsn a1 a2 a3 a4 hp hpp hle hx hpre hmem h1 h2 hB hbr
  generalize hst:ai pre m=st at *
  obtain ⟨c0,x0⟩:=st
  clear hst
  dsimp only at HX H
  have hzz:0<(p:Int)*(p:Int):=by
   have:=HX.out.2.2.2.2.1
   exact Int.mul_pos (by omega) (by omega)
  have hz0:¬ (p:Int)*(p:Int)=0:=by omega
  have hc1:=H.out.b1.cell
  by_cases hbk:x0<p*p
  ·have hbk':(x0:Int)<(p:Int)*(p:Int):=by rw [←Int.natCast_mul];omega
   have E:=Ha (HX.out.2.2.2.2.2.2 hbk)
   clear hbk
   gi_wp2
   refine ⟨H.out.from_,rfl,⟨?_,?_⟩,H.out.below⟩
   ·rw [E.out];exact H.out.b1
   ·rw [E.out];exact H.out.b2
  ·have hbk':¬ (x0:Int)<(p:Int)*(p:Int):=by rw [←Int.natCast_mul];omega
   clear hbk
   gi_wp2
   clear hc1 hbk'
   gi_loopg [] x0 (fun g wx=>Hid (∃ c,c*c*g=m∧0<g∧c*(strip p g).1=c0*(strip p x0).1∧(strip p g).2=(strip p x0).2∧ShAt w1 W2.heap.size c g W wx))
   case atStart=>exact Ha ⟨c0,HX.out.2.1.symm,HX.out.2.2.2.1,rfl,rfl,H.out⟩
   case round =>
    clear H
    obtain ⟨c,i1,i2,i3,i4,i5⟩:=hrel.out
    have H:=Ha i5
    have HI:=Ha (Hb i1 (Hb i2 (Hb i3 i4)));clear i1 i2 i3 i4 i5 hrel
    have hc1:=H.out.b1.cell
    have hmd:(gk:Int) % ((p:Int)*(p:Int))=((gk % (p*p):Nat):Int):=by rw [←Int.natCast_mul,←Int.natCast_emod]
    by_cases hz:gk % (p*p)=0
    ·have hq:((gk:Int) % ((p:Int)*(p:Int))==0)=true:=by rw [hmd,hz];rfl
     have hs:=l9 (p:=p) HX.out.2.2.2.2.1.1 HI.out.2.1 hz
     have hdm:gk=p*p*(gk / (p*p)):=by have:=Nat.div_add_mod gk (p*p);omega
     have hg2:0<gk / (p*p):=Nat.pos_of_ne_zero fun e=>by rw [e,Nat.mul_zero] at hdm;have:=HI.out.2.1;omega
     have hlt:gk / (p*p)<gk:=Nat.div_lt_self HI.out.2.1 (mc HX.out.2.2.2.2.1.1)
     have hcm:c*p*(c*p)*(gk / (p*p))=m:=by rw [Nat.mul_mul_mul_comm,Nat.mul_assoc (c*c),←hdm];exact HI.out.1
     have h3:c*p*(strip p (gk / (p*p))).1=c0*(strip p x0).1:=by rw [←HI.out.2.2.1,hs,Nat.mul_assoc]
     have h4:(strip p (gk / (p*p))).2=(strip p x0).2:=by rw [←HI.out.2.2.2,hs]
     have hcp:0<c*p:=Nat.pos_of_ne_zero fun e=>by rw [e] at hcm;simp at hcm;have:=HM.out.1;omega
     have hcl:c*p<1000000000000000000:=Nat.lt_of_le_of_lt (by rw [←hcm,Nat.mul_assoc];exact Nat.le_mul_of_pos_right _ (Nat.mul_pos hcp hg2)) HM.out.2.1
     have hwr:IntKind.u64.wrap ((c:Int)*(p:Int))=(c:Int)*(p:Int):=by
      rw [IntKind.wrap_u64]
      have h2:((c*p:Nat):Int)=(c:Int)*(p:Int):=Int.natCast_mul c p
      omega
     have hd1:IntKind.u64.wrap ((gk:Int) / ((p:Int)*(p:Int)))=((gk / (p*p):Nat):Int):=by
      have hg9:gk / (p*p)<1000000000000000000:=Nat.lt_of_le_of_lt (by rw [←hcm];exact Nat.le_mul_of_pos_left _ (Nat.mul_pos hcp hcp)) HM.out.2.1
      rw [←Int.natCast_mul,←Int.natCast_ediv,IntKind.wrap_u64]
      generalize gk / (p*p)=y at *
      omega
     have HQ:=Ha (Hb hlt (Hb hcm (Hb hg2 (Hb h3 (Hb h4 hd1)))));clear hs hdm hg2 hlt hcm h3 h4 hcp hcl hz HI hmd hd1
     have hmx:Tryz.prog.follows .mixedOrders=true:=by kernel_rfl
     gi_wp2
     have hc2:=H.out.b2.cell
     have hf1:=H.out.b1.frozen
     have hf2:=H.out.b2.frozen
     have HN:=Ha H.out.drew;clear H;have H:=HN;clear HN
     have hd1:=H.out.b1.cell
     have hd2:=H.out.b2.cell
     have hg1:=H.out.b1.frozen
     have hg2:=H.out.b2.frozen
     refine wpIn_mono (Q:=Exit.then _ (fun _ _ _=>False)) ?_ (fun e a' w' h=>by cases e <;> first | exact h | exact h.elim)
     refine wpIn_region_any hmx ?_
     refine jU Fence.wide _ _ l (by simp) _ _ _ _ ?_
     change wpAnyIn _ _ _ _ _ _ _ _ _ (World.drew _)
     refine wpAnyIn_take (i:=1) (v := ?_) rfl rfl (by kernel_rfl) (by kernel_rfl) (by kernel_rfl) (fun _ _ _ h=>h) ⟨Or.inl ⟨by rfl,?_⟩,fun _=>rfl⟩ ?_
     rotate_left
     ·intro w;go_simp;try with_reducible rfl
     refine wpAnyIn_take (i:=4) (v := ?_) rfl rfl (by kernel_rfl) (by kernel_rfl) (by kernel_rfl) (fun _ _ _ h=>h) ⟨Or.inl ⟨by rfl,?_⟩,fun _=>rfl⟩ ?_
     rotate_left
     ·intro w;go_simp;try with_reducible rfl
     refine wpAnyIn_ready (rs := [0,3]) (by kernel_rfl) (by simp) ?_
     refine AllReadyIn.cons rfl (fun K hK => ?_) (AllReadyIn.cons rfl (fun K hK => ?_) AllReadyIn.nil)
     ·go_simp
      refine hK _ _ ?_
      clear hK K
      refine wpAnyIn_take (i:=2) (v := ?_) rfl rfl (by kernel_rfl) (by kernel_rfl) (by kernel_rfl) (fun _ _ _ h=>h) ⟨Or.inl ⟨by rfl,?_⟩,fun _=>rfl⟩ ?_
      rotate_left
      ·intro w;go_simp;try with_reducible rfl
      refine wpAnyIn_ready (rs := [3,6]) (by kernel_rfl) (by simp) ?_
      refine AllReadyIn.cons rfl (fun K hK => ?_) (AllReadyIn.cons rfl (fun K hK => ?_) AllReadyIn.nil)
      ·go_simp
       refine hK _ _ ?_
       clear hK K
       refine wpAnyIn_take (i:=5) (v := ?_) rfl rfl (by kernel_rfl) (by kernel_rfl) (by kernel_rfl) (fun _ _ _ h=>h) ⟨Or.inl ⟨by rfl,?_⟩,fun _=>rfl⟩ ?_
       rotate_left
       ·intro w;go_simp;try with_reducible rfl
       refine wpAnyIn_ready (rs := [6]) (by kernel_rfl) (by simp) ?_
       refine AllReadyIn.cons rfl (fun K hK => ?_) AllReadyIn.nil
       go_simp
       refine hK _ _ ?_
       clear hK K
       refine wpAnyIn_ready (rs := [7]) (by kernel_rfl) (by simp) ?_
       refine AllReadyIn.cons rfl (fun K hK => ?_) AllReadyIn.nil
       go_simp
       refine hK _ _ ?_
       clear hK K
       refine wpAnyIn_done (by kernel_rfl) ?_ _
       have HO:=Ha (H.out.put (by rw [HB.out.2.1];omega) (c*p) (gk / (p*p)) (Int.natCast_mul c p).symm HQ.out.2.2.2.2.2)
       gi_wp2
       gi_roundg (gk / (p*p))
       case rel=>exact Ha ⟨c*p,HQ.out.2.1,HQ.out.2.2.1,HQ.out.2.2.2.1,HQ.out.2.2.2.2.1,HO.out⟩
       case measure=>exact HQ.out.1
      ·go_simp
       refine hK _ _ ?_
       clear hK K
       refine wpAnyIn_ready (rs := [3]) (by kernel_rfl) (by simp) ?_
       refine AllReadyIn.cons rfl (fun K hK => ?_) AllReadyIn.nil
       go_simp
       refine hK _ _ ?_
       clear hK K
       refine wpAnyIn_take (i:=5) (v := ?_) rfl rfl (by kernel_rfl) (by kernel_rfl) (by kernel_rfl) (fun _ _ _ h=>h) ⟨Or.inl ⟨by rfl,?_⟩,fun _=>rfl⟩ ?_
       rotate_left
       ·intro w;go_simp;try with_reducible rfl
       refine wpAnyIn_ready (rs := [7]) (by kernel_rfl) (by simp) ?_
       refine AllReadyIn.cons rfl (fun K hK => ?_) AllReadyIn.nil
       go_simp
       refine hK _ _ ?_
       clear hK K
       refine wpAnyIn_done (by kernel_rfl) ?_ _
       have HO:=Ha (H.out.put (by rw [HB.out.2.1];omega) (c*p) (gk / (p*p)) (Int.natCast_mul c p).symm HQ.out.2.2.2.2.2)
       gi_wp2
       gi_roundg (gk / (p*p))
       case rel=>exact Ha ⟨c*p,HQ.out.2.1,HQ.out.2.2.1,HQ.out.2.2.2.1,HQ.out.2.2.2.2.1,HO.out⟩
       case measure=>exact HQ.out.1
     ·go_simp
      refine hK _ _ ?_
      clear hK K
      refine wpAnyIn_take (i:=5) (v := ?_) rfl rfl (by kernel_rfl) (by kernel_rfl) (by kernel_rfl) (fun _ _ _ h=>h) ⟨Or.inl ⟨by rfl,?_⟩,fun _=>rfl⟩ ?_
      rotate_left
      ·intro w;go_simp;try with_reducible rfl
      refine wpAnyIn_ready (rs := [0]) (by kernel_rfl) (by simp) ?_
      refine AllReadyIn.cons rfl (fun K hK => ?_) AllReadyIn.nil
      go_simp
      refine hK _ _ ?_
      clear hK K
      refine wpAnyIn_take (i:=2) (v := ?_) rfl rfl (by kernel_rfl) (by kernel_rfl) (by kernel_rfl) (fun _ _ _ h=>h) ⟨Or.inl ⟨by rfl,?_⟩,fun _=>rfl⟩ ?_
      rotate_left
      ·intro w;go_simp;try with_reducible rfl
      refine wpAnyIn_ready (rs := [6]) (by kernel_rfl) (by simp) ?_
      refine AllReadyIn.cons rfl (fun K hK => ?_) AllReadyIn.nil
      go_simp
      refine hK _ _ ?_
      clear hK K
      refine wpAnyIn_ready (rs := [7]) (by kernel_rfl) (by simp) ?_
      refine AllReadyIn.cons rfl (fun K hK => ?_) AllReadyIn.nil
      go_simp
      refine hK _ _ ?_
      clear hK K
      refine wpAnyIn_done (by kernel_rfl) ?_ _
      have HO:=Ha (H.out.put (by rw [HB.out.2.1];omega) (c*p) (gk / (p*p)) (Int.natCast_mul c p).symm HQ.out.2.2.2.2.2)
      gi_wp2
      gi_roundg (gk / (p*p))
      case rel=>exact Ha ⟨c*p,HQ.out.2.1,HQ.out.2.2.1,HQ.out.2.2.2.1,HQ.out.2.2.2.2.1,HO.out⟩
      case measure=>exact HQ.out.1
    ·have hq:((gk:Int) % ((p:Int)*(p:Int))==0)=false:=by
      rw [hmd,beq_eq_false_iff_ne];intro e;exact hz (Int.ofNat.inj e)
     have hs:=fJ (p:=p) hz
     have e3:=HI.out.2.2.1
     have e4:=HI.out.2.2.2
     rw [hs] at e3 e4
     have HQ:=Ha (Hb e3 e4);clear e3 e4 hs hz HI hmd
     gi_wp2
     refine ⟨H.out.from_,fun _=>H.out.kb,⟨⟨?_,?_⟩,H.out.below⟩⟩
     ·have:=H.out.b1
      rw [HX.out.1]
      have e:=HQ.out.2
      simp only at e ⊢
      rwa [e] at this
     ·have:=H.out.b2
      rw [HX.out.1]
      have e:=HQ.out.1
      simp only [Nat.mul_one] at e ⊢
      rwa [e] at this
 case done =>
  rintro D W hD ⟨⟨h1,h2⟩,hB⟩ hK
  obtain ⟨hu1,hu2⟩:=HU.out
  have H:=Ha (⟨h1,h2,HW.out.trans (hB.mono HW.out.size),hK⟩:DnAt w w1 (ai au m).1 (ai au m).2 D W)
  have H2:=Ha H.out.b1
  have HD:=Ha (Hb hD hB);clear hB hK hD h1 h2
  have hd1:=H.out.b1.cell
  have hd2:=H.out.b2.cell
  have HN:=Ha (H.out.next (Below.refl _ _).drew);clear H;have H:=HN;clear HN
  have hc1:=H.out.b1.cell
  have hc2:=H.out.b2.cell
  have hmx:Tryz.prog.follows .mixedOrders=true:=by kernel_rfl
  generalize hE1:(ai au m).1=u1 at *
  generalize hE2:(ai au m).2=u2 at *
  have HE:=Ha (Hb hE1 hE2);clear hE1 hE2
  gi_wp2
  refine wpIn_mono (Q:=Exit.then _ (fun _ _ _=>False)) ?_ (fun e a' w' h=>by cases e <;> first | exact h | exact h.elim)
  gi_region_with_o (first | (refine ⟨trivial,?_⟩;refine (callsIn_wide.2 (C1.out _ (by assumption) _ H.out.below)).mono ?_;rintro e w5 ⟨rfl,b⟩;have HN:=Ha (H.out.next b);clear H b;have H:=HN;clear HN;have hc1:=H.out.b1.cell;have hc2:=H.out.b2.cell))
  all_goals
   gi_wp2
   refine ⟨by simp,.inl ⟨_,_,rfl,run_takeDeferred H.out.mark,?_⟩⟩
   refine ⟨.tuple #[.string (sN u1),.string (sN u2)],?_,by rw [HE.out.1,HE.out.2],H.out.below.trans (belowK_b (w:=w) (Nat.le_refl _) _ D _ _ (by have:=HD.out.1;rw [HB.out.2.1] at this;have:=HW.out.size;omega) H.out.mark rfl rfl)⟩
   simp [results,Tryz.f276,go_sem]
 case stop =>
  rintro D pre r' W hD hx ⟨⟨h1,h2⟩,hB⟩ hK
  obtain ⟨hu1,hu2⟩:=HU.out
  have H:=Ha (⟨h1,h2,HW.out.trans (hB.mono HW.out.size),hK⟩:DnAt w w1 (ai au m).1 (ai au m).2 D W)
  have H2:=Ha H.out.b1
  have HD:=Ha (Hb hD hB);clear hB hK hD h1 h2
  have hd1:=H.out.b1.cell
  have hd2:=H.out.b2.cell
  have HN:=Ha (H.out.next (Below.refl _ _).drew);clear H;have H:=HN;clear HN
  have hc1:=H.out.b1.cell
  have hc2:=H.out.b2.cell
  have hmx:Tryz.prog.follows .mixedOrders=true:=by kernel_rfl
  generalize hE1:(ai au m).1=u1 at *
  generalize hE2:(ai au m).2=u2 at *
  have HE:=Ha (Hb hE1 hE2);clear hE1 hE2
  gi_wp2
  refine wpIn_mono (Q:=Exit.then _ (fun _ _ _=>False)) ?_ (fun e a' w' h=>by cases e <;> first | exact h | exact h.elim)
  gi_region_with_o (first | (refine ⟨trivial,?_⟩;refine (callsIn_wide.2 (C1.out _ (by assumption) _ H.out.below)).mono ?_;rintro e w5 ⟨rfl,b⟩;have HN:=Ha (H.out.next b);clear H b;have H:=HN;clear HN;have hc1:=H.out.b1.cell;have hc2:=H.out.b2.cell))
  all_goals
   gi_wp2
   refine ⟨by simp,.inl ⟨_,_,rfl,run_takeDeferred H.out.mark,?_⟩⟩
   refine ⟨.tuple #[.string (sN u1),.string (sN u2)],?_,by rw [HE.out.1,HE.out.2],H.out.below.trans (belowK_b (w:=w) (Nat.le_refl _) _ D _ _ (by have:=HD.out.1;rw [HB.out.2.1] at this;have:=HW.out.size;omega) H.out.mark rfl rfl)⟩
   simp [results,Tryz.f276,go_sem]
end
end T
namespace T
open Go.Proofs.YtbhbhlfkdlfimaaGreatDoor Go.RowKit Go.Lib
theorem Fm (n d r:Int) (w:World) (hn:short n) (hd:short d) (hr:short r) (hrr:short (r*r)) (hx:short (r*r*d)) (he:((aa (r*r*d)).toList==(aa n).toList)=true) (he':((aa (r*r*d)).toList != (aa n).toList)=false) (ht:Tab w)
  (h:∀ W,Below w.heap.size w W→Calls Tryz.prog 259 #[.agg #[.string (aa n),.string (aa d)]] W fun e W'=>e = .returned (.string (aa r))∧Below W.heap.size W W') :
  Calls Tryz.prog 260 #[.agg #[.string (aa n),.string (aa d)]] w fun e W'=>e = .returned (.string (aa r))∧Below w.heap.size w W':=by
 have ct:=fun x y W (hx:short x) (hy:short y) (hz:short (x*y)) (hW:Below w.heap.size w W)=>ol x y W hx hy hz (ht.next hW)
 have cp:=True.intro
 have C:=Ha (Hb h (Hb ct cp));clear ct cp h ht
 go_enter Tryz.func260,Tryz.ntmps260
 go_wp2_with fail
 have hbx:Bxs w w.heap.size [[.string (aa n),.string (aa d)]] (w.alloc (.cells #[.string (aa n),.string (aa d)] 295)):=((Bxs.nil w w (Below.refl _ _)).push rfl [.string (aa n),.string (aa d)] 295)
 generalize (w.alloc (.cells #[.string (aa n),.string (aa d)] 295))=W0 at *
 generalize hk:w.heap.size=k at *
 have HK:=Ha hk;clear hk
 have HB:=Ha hbx
 clear hbx
 have e00:=(show World.cell? _ ⟨k,0,none⟩=some (.string (aa n)) from HB.out.cells 0 _ rfl 0 _ rfl)
 have e01:=(show World.cell? _ ⟨k,1,none⟩=some (.string (aa d)) from HB.out.cells 0 _ rfl 1 _ rfl)
 refine (C.out.1 _ (by have:=HB.out.below;rwa [HK.out] at this)).mono ?_
 rintro e w1 ⟨rfl,b⟩
 replace HB:=Ha (HB.out.next b);clear b;have e00:=(show World.cell? _ ⟨k,0,none⟩=some (.string (aa n)) from HB.out.cells 0 _ rfl 0 _ rfl);have e01:=(show World.cell? _ ⟨k,1,none⟩=some (.string (aa d)) from HB.out.cells 0 _ rfl 1 _ rfl)
 go_wp2
 have HD:=Ha (HB.out.next (Below.refl _ _).drew);clear HB;have HB:=HD;clear HD;have e00:=(show World.cell? _ ⟨k,0,none⟩=some (.string (aa n)) from HB.out.cells 0 _ rfl 0 _ rfl);have e01:=(show World.cell? _ ⟨k,1,none⟩=some (.string (aa d)) from HB.out.cells 0 _ rfl 1 _ rfl)
 go_region_held3 (fun w'=>w'.cell? ⟨k,0,none⟩=some (.string (aa n))∧w'.cell? ⟨k,1,none⟩=some (.string (aa d))) (first | exact ⟨e00,e01⟩ | (go_keep;done) | ((try dsimp only);(refine ⟨?_,?_⟩ <;> (exact jb (by omega) (by assumption)))))
  (first | (go_at_call 277;refine (C.out.2.1 _ _ _ (by assumption) (by assumption) (by assumption) (by have:=HB.out.below;rwa [HK.out] at this)).mono ?_;rintro e w2 ⟨rfl,b⟩;replace HB:=Ha (HB.out.next b);clear b;have e00:=(show World.cell? _ ⟨k,0,none⟩=some (.string (aa n)) from HB.out.cells 0 _ rfl 0 _ rfl);have e01:=(show World.cell? _ ⟨k,1,none⟩=some (.string (aa d)) from HB.out.cells 0 _ rfl 1 _ rfl)))
 have e00:=(show World.cell? _ ⟨k,0,none⟩=some (.string (aa n)) from HB.out.cells 0 _ rfl 0 _ rfl)
 have e01:=(show World.cell? _ ⟨k,1,none⟩=some (.string (aa d)) from HB.out.cells 0 _ rfl 1 _ rfl)
 go_wp2
 go_ret
 refine ⟨rfl,?_⟩
 have hbl:=HB.out.below
 rwa [HK.out] at hbl ⊢
theorem Gi (n d r:Int) (w:World) (hn:short n) (hd:short d) (hr:short r) (hrr:short (r*r)) (hx:short (r*r*d)) (hp:short (r+1)) (he:((aa (r*r*d)).toList==(aa n).toList)=false) (he':((aa (r*r*d)).toList != (aa n).toList)=true) (ht:Tab w)
  (h:∀ W,Below w.heap.size w W→Calls Tryz.prog 259 #[.agg #[.string (aa n),.string (aa d)]] W fun e W'=>e = .returned (.string (aa r))∧Below W.heap.size W W') :
  Calls Tryz.prog 260 #[.agg #[.string (aa n),.string (aa d)]] w fun e W'=>e = .returned (.string (aa (r+1)))∧Below w.heap.size w W':=by
 have ct:=fun x y W (hx:short x) (hy:short y) (hz:short (x*y)) (hW:Below w.heap.size w W)=>ol x y W hx hy hz (ht.next hW)
 have cp:=fun W (hW:Below w.heap.size w W)=>FU r 1 W hr (fw (by decide)) hp (ht.next hW)
 rw [show aa 1=⟨#[49]⟩ from iO 1 [49] bU] at cp
 have C:=Ha (Hb h (Hb ct cp));clear ct cp h ht
 go_enter Tryz.func260,Tryz.ntmps260
 go_wp2_with fail
 have hbx:Bxs w w.heap.size [[.string (aa n),.string (aa d)]] (w.alloc (.cells #[.string (aa n),.string (aa d)] 295)):=((Bxs.nil w w (Below.refl _ _)).push rfl [.string (aa n),.string (aa d)] 295)
 generalize (w.alloc (.cells #[.string (aa n),.string (aa d)] 295))=W0 at *
 generalize hk:w.heap.size=k at *
 have HK:=Ha hk;clear hk
 have HB:=Ha hbx
 clear hbx
 have e00:=(show World.cell? _ ⟨k,0,none⟩=some (.string (aa n)) from HB.out.cells 0 _ rfl 0 _ rfl)
 have e01:=(show World.cell? _ ⟨k,1,none⟩=some (.string (aa d)) from HB.out.cells 0 _ rfl 1 _ rfl)
 refine (C.out.1 _ (by have:=HB.out.below;rwa [HK.out] at this)).mono ?_
 rintro e w1 ⟨rfl,b⟩
 replace HB:=Ha (HB.out.next b);clear b;have e00:=(show World.cell? _ ⟨k,0,none⟩=some (.string (aa n)) from HB.out.cells 0 _ rfl 0 _ rfl);have e01:=(show World.cell? _ ⟨k,1,none⟩=some (.string (aa d)) from HB.out.cells 0 _ rfl 1 _ rfl)
 go_wp2
 have HD:=Ha (HB.out.next (Below.refl _ _).drew);clear HB;have HB:=HD;clear HD;have e00:=(show World.cell? _ ⟨k,0,none⟩=some (.string (aa n)) from HB.out.cells 0 _ rfl 0 _ rfl);have e01:=(show World.cell? _ ⟨k,1,none⟩=some (.string (aa d)) from HB.out.cells 0 _ rfl 1 _ rfl)
 go_region_held3 (fun w'=>w'.cell? ⟨k,0,none⟩=some (.string (aa n))∧w'.cell? ⟨k,1,none⟩=some (.string (aa d))) (first | exact ⟨e00,e01⟩ | (go_keep;done) | ((try dsimp only);(refine ⟨?_,?_⟩ <;> (exact jb (by omega) (by assumption)))))
  (first | (go_at_call 277;refine (C.out.2.1 _ _ _ (by assumption) (by assumption) (by assumption) (by have:=HB.out.below;rwa [HK.out] at this)).mono ?_;rintro e w2 ⟨rfl,b⟩;replace HB:=Ha (HB.out.next b);clear b;have e00:=(show World.cell? _ ⟨k,0,none⟩=some (.string (aa n)) from HB.out.cells 0 _ rfl 0 _ rfl);have e01:=(show World.cell? _ ⟨k,1,none⟩=some (.string (aa d)) from HB.out.cells 0 _ rfl 1 _ rfl)))
 have e00:=(show World.cell? _ ⟨k,0,none⟩=some (.string (aa n)) from HB.out.cells 0 _ rfl 0 _ rfl)
 have e01:=(show World.cell? _ ⟨k,1,none⟩=some (.string (aa d)) from HB.out.cells 0 _ rfl 1 _ rfl)
 go_wp2_with fail
 refine (C.out.2.2 _ (by have:=HB.out.below;rwa [HK.out] at this)).mono ?_
 rintro e w3 ⟨rfl,b⟩
 replace HB:=Ha (HB.out.next b);clear b;have e00:=(show World.cell? _ ⟨k,0,none⟩=some (.string (aa n)) from HB.out.cells 0 _ rfl 0 _ rfl);have e01:=(show World.cell? _ ⟨k,1,none⟩=some (.string (aa d)) from HB.out.cells 0 _ rfl 1 _ rfl)
 go_wp2
 go_ret
 refine ⟨rfl,?_⟩
 have hbl:=HB.out.below
 rwa [HK.out] at hbl ⊢
noncomputable def upN (n d:Nat):Nat:=if am (n / d)*am (n / d)*d=n then am (n / d) else am (n / d)+1
theorem Dy (n d:Nat) (w:World) (h1:n<lim) (h2:d<lim) (h0:0<d) (ht:Tab w) :
  Calls Tryz.prog 260 #[.agg #[.string (aa n),.string (aa d)]] w fun e W'=>e = .returned (.string (aa (upN n d:Nat)))∧Below w.heap.size w W':=by
 have hr:=(bZ (n / d)).1
 have k1:am (n / d)*am (n / d)<lim:=Nat.lt_of_le_of_lt hr (Nat.lt_of_le_of_lt (Nat.div_le_self _ _) h1)
 have k0:am (n / d)<lim:=Nat.lt_of_le_of_lt di (Nat.lt_of_le_of_lt (Nat.div_le_self _ _) h1)
 have k2:am (n / d)*am (n / d)*d≤n:=Nat.le_trans (Nat.mul_le_mul_right d hr) (Nat.div_mul_le_self n d)
 have k3:am (n / d)*am (n / d)*d<lim:=Nat.lt_of_le_of_lt k2 h1
 have e1:((am (n / d):Nat):Int)*(am (n / d):Nat)=((am (n / d)*am (n / d):Nat):Int):=by rw [Int.natCast_mul]
 have e2:((am (n / d):Nat):Int)*(am (n / d):Nat)*(d:Nat)=((am (n / d)*am (n / d)*d:Nat):Int):=by rw [e1,←Int.natCast_mul]
 have ho:((aa (((am (n / d):Nat):Int)*(am (n / d):Nat)*(d:Nat))).toList==(aa (n:Int)).toList)=decide (am (n / d)*am (n / d)*d=n):=by
  rw [e2,ByteArray.toList_eq,ByteArray.toList_eq,aF,aF]
  by_cases h:am (n / d)*am (n / d)*d=n
  ·rw [decide_eq_true h,h];simp
  ·rw [decide_eq_false h,beq_eq_false_iff_ne];intro e;exact h (Int.ofNat.inj (eJ e))
 have hD:=fun W (h:Below w.heap.size w W)=>qO n d W h1 h2 h0 (ht.next h)
 unfold upN
 by_cases h:am (n / d)*am (n / d)*d=n
 ·rw [if_pos h]
  rw [decide_eq_true h] at ho
  exact Fm _ _ _ w (aq.2 h1) (aq.2 h2) (aq.2 k0) (by rw [e1];exact aq.2 k1) (by rw [e2];exact aq.2 k3) ho (by rw [bne,ho];rfl) ht hD
 ·rw [if_neg h]
  rw [decide_eq_false h] at ho
  have hlt:am (n / d)+1<lim:=by
   have:am (n / d)≤am (n / d)*am (n / d)*d:=by
    rcases Nat.eq_zero_or_pos (am (n / d)) with z | z
    ·rw [z];exact Nat.zero_le _
    ·exact Nat.le_trans (Nat.le_mul_of_pos_right _ z) (Nat.le_mul_of_pos_right _ h0)
   omega
  exact Gi _ _ _ w (aq.2 h1) (aq.2 h2) (aq.2 k0) (by rw [e1];exact aq.2 k1) (by rw [e2];exact aq.2 k3) (aq.2 hlt) ho (by rw [bne,ho];rfl) ht hD
theorem zm (s t:ByteArray) (a b c d:Int) (w:World) (ha:short a) (hb:short b) (hc:short c) (hd:short d) (h1:short (a*d)) (h2:short (b*c)) (h3:short (a*d*d)) (h4:short (b*c*c)) (ht:Tab w)
  (p1:∀ W,Below w.heap.size w W→Calls Tryz.prog 246 #[.string s] W fun e W'=>e = .returned (.agg #[.string (aa a),.string (aa b)])∧Below W.heap.size W W')
  (p2:∀ W,Below w.heap.size w W→Calls Tryz.prog 246 #[.string t] W fun e W'=>e = .returned (.agg #[.string (aa c),.string (aa d)])∧Below W.heap.size W W') :
  Calls Tryz.prog 258 #[.string s,.string t] w fun e W'=>e = .returned (.agg #[.string (aa (a*d*d)),.string (aa (b*c*c))])∧Below w.heap.size w W':=by
 have ct:=fun x y z v W (hx:short x) (hy:short y) (hz:short z) (hv:short v) (h1:short (x*z)) (h2:short (y*v)) (hW:Below w.heap.size w W)=>EQ x y z v W hx hy hz hv h1 h2 (ht.next hW)
 have ci:=fun W=>rS (aa c) (aa d) W
 have C:=Ha (Hb p1 (Hb p2 (Hb ct ci)));clear ct ci p1 p2 ht
 go_enter Tryz.func258,Tryz.ntmps258
 go_wp2_with fail
 have HB:=Ha (Hb (Blk.new w #[.string ⟨#[]⟩,.string ⟨#[]⟩] 295) ((Below.refl _ w).alloc (Nat.le_refl _) (.cells #[.string ⟨#[]⟩,.string ⟨#[]⟩] 295)))
 generalize w.alloc (.cells #[.string ⟨#[]⟩,.string ⟨#[]⟩] 295)=W0 at *
 generalize hk:w.heap.size=k at *
 have HK:=Ha hk;clear hk
 refine (C.out.2.1 _ (HB.out.2)).mono ?_
 rintro e w1 ⟨rfl,b⟩
 replace HB:=Ha (Hb (HB.out.1.next b)  (HB.out.2.trans (b.mono (by have h1:=HB.out.2.size;have h2:=HK.out;omega))));clear b;have e00:=HB.out.1.cell 0 (.string ⟨#[]⟩) rfl;have f00:=HB.out.1.free 0;have e01:=HB.out.1.cell 1 (.string ⟨#[]⟩) rfl;have f01:=HB.out.1.free 1
 go_wp2_with fail
 refine (C.out.2.2.2 _).mono ?_
 rintro e w2 ⟨rfl,b⟩
 replace HB:=Ha (Hb (HB.out.1.next b)  (HB.out.2.trans (b.mono (by have h1:=HB.out.2.size;have h2:=HK.out;omega))));clear b;have e00:=HB.out.1.cell 0 (.string ⟨#[]⟩) rfl;have f00:=HB.out.1.free 0;have e01:=HB.out.1.cell 1 (.string ⟨#[]⟩) rfl;have f01:=HB.out.1.free 1
 go_wp2
 have hlt:=HB.out.1.lt
 have hle:=HB.out.2.size
 have HN:=Ha (Hb (HB.out.1.alloc (.cells #[.string (aa d),.string (aa c)] 295)) (Hb (Blk.new w2 #[.string (aa d),.string (aa c)] 295) (HB.out.2.alloc (by have:=HB.out.2.size;rw [HK.out] at this;exact this) (.cells #[.string (aa d),.string (aa c)] 295))))
 clear HB
 have HB:=HN;clear HN
 generalize w2.alloc (.cells #[.string (aa d),.string (aa c)] 295)=W3 at *
 generalize w2.heap.size=m at *
 have HD:=Ha (Hb HB.out.1.drew (Hb HB.out.2.1.drew HB.out.2.2.drew));clear HB;have HB:=HD;clear HD
 have e00:=HB.out.1.cell 0 (.string ⟨#[]⟩) rfl;have f00:=HB.out.1.free 0;have e01:=HB.out.1.cell 1 (.string ⟨#[]⟩) rfl;have f01:=HB.out.1.free 1;have e10:=HB.out.2.1.cell 0 (.string (aa d)) rfl;have e11:=HB.out.2.1.cell 1 (.string (aa c)) rfl
 go_region_held3 (fun w'=>w'.cell? ⟨m,0,none⟩=some (.string (aa d))∧w'.cell? ⟨m,1,none⟩=some (.string (aa c))) (first | exact ⟨e10,e11⟩ | (go_keep;done) | ((try dsimp only);(refine ⟨?_,?_⟩ <;> (exact jb (by omega) (by assumption)))))
  (first | (go_at_call 246;refine (C.out.1 _ (HB.out.2.2)).mono ?_;rintro e w4 ⟨rfl,b⟩;replace HB:=Kd HB b;clear b;have e00:=HB.out.1.cell 0 (.string ⟨#[]⟩) rfl;have f00:=HB.out.1.free 0;have e01:=HB.out.1.cell 1 (.string ⟨#[]⟩) rfl;have f01:=HB.out.1.free 1;have e10:=HB.out.2.1.cell 0 (.string (aa d)) rfl;have e11:=HB.out.2.1.cell 1 (.string (aa c)) rfl) | (go_at_call 283;refine (C.out.2.2.1 _ _ _ _ _ (by assumption) (by assumption) (by assumption) (by assumption) (by assumption) (by assumption) (HB.out.2.2)).mono ?_;rintro e w4 ⟨rfl,b⟩;replace HB:=Kd HB b;clear b;have e00:=HB.out.1.cell 0 (.string ⟨#[]⟩) rfl;have f00:=HB.out.1.free 0;have e01:=HB.out.1.cell 1 (.string ⟨#[]⟩) rfl;have f01:=HB.out.1.free 1;have e10:=HB.out.2.1.cell 0 (.string (aa d)) rfl;have e11:=HB.out.2.1.cell 1 (.string (aa c)) rfl))
 all_goals
  have e00:=HB.out.1.cell 0 (.string ⟨#[]⟩) rfl;have f00:=HB.out.1.free 0;have e01:=HB.out.1.cell 1 (.string ⟨#[]⟩) rfl;have f01:=HB.out.1.free 1;have e10:=HB.out.2.1.cell 0 (.string (aa d)) rfl;have e11:=HB.out.2.1.cell 1 (.string (aa c)) rfl
  obtain ⟨g0,g1⟩:=vM e00 e01 (.string (aa (a*d*d))) (.string (aa (b*c*c)))
  go_wp2
  refine bodyPost_ret (v := .agg #[.string (aa (a*d*d)),.string (aa (b*c*c))]) (by simp [results,Tryz.results258,go_sem,g0,g1]) rfl ?_
  refine ⟨rfl,?_⟩
  rw [HK.out]
  exact bi HB.out.2.2 (by omega) _ _
theorem qy (a b r:ByteArray) (e0:Int) (w:World)
  (h:∀ W,Below w.heap.size w W→Calls Tryz.prog 10 #[.string a,.string b] W fun e W'=>e = .returned (.tuple #[.string r,.int .i64 e0])∧Below W.heap.size W W') :
  Calls Tryz.prog 261 #[.string a,.string b] w fun e W'=>e = .returned (.string r)∧Below w.heap.size w W':=by
 have C:=Ha h;clear h
 go_enter Tryz.func261,Tryz.ntmps261
 go_wp2_with fail
 refine (C.out _ (Below.refl _ _)).mono ?_
 rintro e w1 ⟨rfl,b⟩
 have B1:=Ha b;clear b
 go_wp2
 go_ret
 exact ⟨rfl,B1.out⟩
end T
namespace T
open Go.Proofs.YtbhbhlfkdlfimaaGreatDoor Go.Lib
def o0 (s:ByteArray):Bool:=aw s.data.toList
def pd (l:List ByteArray):Int:=if l.any o0 then 2 else 0
theorem uc (q:Rat):o0 (af q)=decide (q<0):=by
 unfold o0
 rw [cC]
 have e:aw (cG q)=aw (itoa q.num):=by
  unfold cG
  split
  ·rfl
  ·have:=si q.num
   unfold aw;cases h:itoa q.num with
   | nil=>exact absurd h this
   | cons a l=>rfl
 rw [e,←aF,iw]
 congr 1
 exact propext ⟨fun h=>Rat.not_le.1 fun k=>absurd (Rat.num_nonneg.2 k) (by omega),fun h=>by
  apply Int.not_le.1;intro k;exact absurd (Rat.num_nonneg.1 k) (Rat.not_le.2 h)⟩
end T
namespace T
open Go.RowKit
def atS (xs:List ByteArray) (j:Nat):ByteArray:=xs[j]?.getD ⟨#[]⟩
theorem xU {xs:List ByteArray} {j:Nat} (h:j<xs.length):atS xs j=xs[j]:=by unfold atS;rw [List.getElem?_eq_getElem h];rfl
theorem Dz {xs:List ByteArray} {j:Nat} (h:j<xs.length):atS xs j∈xs:=by rw [xU h];exact List.getElem_mem h
theorem take_at {xs:List ByteArray} {j:Nat} (h:j<xs.length):xs.take (j+1)=xs.take j ++ [atS xs j]:=by rw [xU h,List.take_succ_eq_append_getElem h]
structure Sl (W:World) (b:Nat) (xs:List ByteArray):Prop where
 lt:b<W.heap.size
 cell:∀ j,j<xs.length→W.cell? ⟨b,j,none⟩=some (.string (atS xs j))
theorem Sl.next {W W':World} {b:Nat} {xs:List ByteArray} (h:Sl W b xs) (g:Below W.heap.size W W'):Sl W' b xs :=
 ⟨Nat.lt_of_lt_of_le h.lt g.size,fun j hj=>(g.cell (p:=⟨b,j,none⟩) h.lt).trans (h.cell j hj)⟩
theorem Sl.new1 (W:World) (s:ByteArray) (t:TypeId):Sl (W.alloc (.cells #[.string s] t)) W.heap.size [s] :=
 ⟨by simp,fun j hj=>by
  obtain rfl:j=0:=by simp at hj;omega
  exact (Blk.new W #[.string s] t).cell 0 _ rfl⟩
theorem Sl.new2 (W:World) (s u:ByteArray) (t:TypeId):Sl (W.alloc (.cells #[.string s,.string u] t)) W.heap.size [s,u] :=
 ⟨by simp,fun j hj=>by
  have h2:j=0∨j=1:=by simp at hj;omega
  rcases h2 with rfl | rfl
  ·exact (Blk.new W #[.string s,.string u] t).cell 0 _ rfl
  ·exact (Blk.new W #[.string s,.string u] t).cell 1 _ rfl⟩
theorem cV {a b:Bool} (h:a=b):Ending.returned (.bool a) = .returned (.bool b):=by rw [h]
theorem xV {a b:Int} (h:a=b):Ending.returned (.int .i64 a) = .returned (.int .i64 b):=by rw [h]
theorem iI (b:Nat) (xs:List ByteArray) (w:World) (hl:xs.length≤100) (hx:Sl w b xs) :
  Calls Tryz.prog 245 #[.slice (some ⟨b,0,none⟩) xs.length xs.length] w fun e W'=>e = .returned (.int .i64 (pd xs))∧Below w.heap.size w W':=by
 have hb:=hx.lt
 have HC:=Ha hx.cell
 have HR:Hid (∀ q:Bool,xs.any o0=q→pd xs=if q then 2 else 0):=Ha (fun q h=>by unfold pd;rw [h])
 clear hx
 go_enter Tryz.func245,Tryz.ntmps245
 go_wp2
 go_loopw [7] (fun i wr=>∃ k:Nat,i = .int .i64 k∧k≤xs.length∧Hid ((xs.take k).any o0=false)∧Hid (Below w.heap.size w wr)) (fun i _=>xs.length - (intOf i).toNat)
 case atStart=>exact ⟨0,rfl,by omega,by show _=false;simp,Below.refl _ _⟩
 case round =>
  obtain ⟨k,rfl,hk,hd,HBw⟩:=hrel
  by_cases hlt:k<xs.length
  ·have hck:=(HBw.out.cell (p:=⟨b,k,none⟩) hb).trans (HC.out k hlt)
   have hn:Hid (o0 (atS xs k)=false→(xs.take (k+1)).any o0=false):=Ha (fun h=>by rw [take_at hlt,List.any_append,hd.out];simp [h])
   have hy:Hid (o0 (atS xs k)=true→xs.any o0=true):=Ha (fun h=>List.any_eq_true.2 ⟨_,Dz hlt,h⟩)
   have hr:=Ha (AB (atS xs k) wr)
   change Hid (Calls _ _ _ _ fun e W'=>e = .returned (.bool (o0 (atS xs k)))∧_) at hr
   clear hd
   generalize o0 (atS xs k)=r at *
   generalize atS xs k=s at *
   go_wp2_with fail
   refine hr.out.mono ?_
   rintro e w' ⟨rfl,b⟩
   have HB2:=Ha (HBw.out.trans (b.mono HBw.out.size));clear b HBw
   cases r
   ·have hnn:=Ha (hn.out rfl)
    clear hn hy
    go_wp2
    go_roundw
    case rel=>exact ⟨k+1,by go_num,by omega,hnn.out,HB2.out⟩
    case measure=>simp [intOf];omega
   ·have hbb:=Ha (HR.out true (hy.out rfl))
    clear hn hy
    go_wp2
    go_ret
    exact ⟨xV hbb.out.symm,HB2.out⟩
  ·have hbb:=Ha (HR.out false (by have:=hd.out;rwa [List.take_of_length_le (by omega)] at this))
   clear hd
   go_wp2
   go_ret
   exact ⟨xV hbb.out.symm,HBw.out⟩
theorem pf (b:Nat) (x y:Int) (w:World) (hb:Blk w b #[.int .i64 x,.int .i64 y]) :
  Calls Tryz.prog 243 #[.slice (some ⟨b,0,none⟩) 2 2] w fun e W'=>e = .returned (.int .i64 (if x=0 then y else x))∧Below w.heap.size w W':=by
 have c0:=hb.cell 0 _ rfl
 have c1:=hb.cell 1 _ rfl
 clear hb
 by_cases h:x=0
 ·rw [if_pos h]
  subst h
  by_cases h2:y=0
  ·subst h2
   go_enter Tryz.func243,Tryz.ntmps243
   go_wp2
   go_rounds 3
   all_goals go_ret
   all_goals exact ⟨rfl,Below.refl _ _⟩
  ·obtain ⟨n1,n2⟩:=cJ h2
   go_enter Tryz.func243,Tryz.ntmps243
   go_wp2
   go_rounds 3
   all_goals go_ret
   all_goals exact ⟨rfl,Below.refl _ _⟩
 ·rw [if_neg h]
  obtain ⟨n1,n2⟩:=cJ h
  go_enter Tryz.func243,Tryz.ntmps243
  go_wp2
  go_rounds 3
  all_goals go_ret
  all_goals exact ⟨rfl,Below.refl _ _⟩
end T
namespace T
open Go.Proofs.YtbhbhlfkdlfimaaGreatDoor Go.RowKit Go.Lib
end T
namespace T
open Go.Proofs.YtbhbhlfkdlfimaaGreatDoor Go Go.RowKit Go.Lib Go.Shelf
section
attribute [local go_sem] Oper.semAt_some
theorem iJ {α:Type} (f:α→ByteArray) (x y:α) (n:Nat) (w:World) (hn:1≤n) :
  A4 Fence.wide n Tryz.prog 274 #[.agg #[.string (f x),.string (f y)]] (fun s:α => #[Value.string (f s)]) [x,y] w:=by
 intro l J Jx W hb hJa hJd hY h0
 have hJ0:J [] (W.alloc (.cells #[.string (f x),.string (f y)] 295)):=hJa _ _ _ h0
 obtain ⟨fn,tmps,assign,body,hy,hR⟩:=hY [] x [y] (W.alloc (.cells #[.string (f x),.string (f y)] 295)) rfl hJ0
 have hbox:=heap_alloc_new W (.cells #[.string (f x),.string (f y)] 295)
 have HH:=Ha (Hb hY (Hb hb.size hbox));clear hY hb hbox hJa hJd hJ0 h0
 have HR:=Ha hR;clear hR
 try dsimp only at hy
 refine callsIn_of_wp Tryz.func274 rfl trivial ?_ rfl
 simp only [Tryz.ntmps274,List.size_toArray,List.length_cons,List.length_nil,Nat.reduceAdd,Nat.reduceSub,Array.replicate_succ,Array.replicate_zero,List.push_toArray,List.append_toArray,List.nil_append,List.cons_append]
 gi_wp2
 refine HR.out.mono ?_
 clear HR
 rintro e W3 (⟨rfl,hJ3,hk3⟩ | ⟨rfl,hJx3⟩)
 ·have hbx:Blk W3 W.heap.size #[.string (f x),.string (f y)]:=⟨_,(hk3 (by simp)).same _ _ HH.out.2.1 HH.out.2.2 rfl⟩
  have e1:=hbx.cell 1 (.string (f y)) rfl
  obtain ⟨fn2,tmps2,assign2,body2,hy2,hR2⟩:=HH.out.1 [x] y [] W3 rfl hJ3
  have HR2:=Ha hR2;clear hR2 hbx hk3 hJ3
  try dsimp only at hy2
  gi_wp2
  refine HR2.out.mono ?_
  clear HR2
  rintro e W4 (⟨rfl,hJ4,_⟩ | ⟨rfl,hJx4⟩)
  ·have HJ:=Ha hJ4;clear hJ4
   gi_wp2
   go_end0
   exact ⟨⟨_,rfl⟩,.inl HJ.out⟩
  ·have HJ:=Ha hJx4;clear hJx4
   gi_wp2
   go_end0
   exact ⟨⟨_,rfl⟩,.inr ⟨_,[],rfl,HJ.out⟩⟩
 ·have HJ:=Ha hJx3;clear hJx3
  gi_wp2
  refine ⟨fun _ h=>(by cases h),?_⟩
  gi_wp2
  go_end0
  exact ⟨⟨_,rfl⟩,.inr ⟨_,[y],rfl,HJ.out⟩⟩
end
end T
end Go.Proofs.YtbhbhlfkdlfimaaGreatDoor
