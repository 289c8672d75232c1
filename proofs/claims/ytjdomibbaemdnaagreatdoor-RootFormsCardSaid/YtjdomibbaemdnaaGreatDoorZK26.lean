/- Parts of the proof of the text YtjdomibbaemdnaaGreatDoorZK42. -/
import Derived.RegionIn
import Derived.Shelf.RegionOpen
import Derived.Sort.LoopGhostIn
import Derived.Test.YtjdomibbaemdnaaGreatDoorZK1
import Derived.Test.YtjdomibbaemdnaaGreatDoorZK25
import Derived.Test.YtjdomibbaemdnaaGreatDoorZK9
set_option linter.all false
set_option maxRecDepth 100000
set_option maxHeartbeats 8000000
namespace Go.Proofs.YtjdomibbaemdnaaGreatDoor
namespace T
open Go.Proofs.YtjdomibbaemdnaaGreatDoor Go Go.RowKit Go.Shelf
def sN (n:Nat):ByteArray:=aa (n:Int)
theorem wv (x y:Nat) (w:World) (hx:x<lim) (hy:y<lim) (h0:0<y) (ht:Tab w) :
  Calls Tryz.prog 78 #[.string (sN x),.string (sN y)] w fun e W'=>e = .returned (.tuple #[.string (sN (x / y)),.string (sN (x % y))])∧Below w.heap.size w W':=by
 have c:=tP x y w (aF.2 hx) (aF.2 hy) (by omega) ht
 rwa [mX,qX] at c
theorem pH (x y:Nat) (w:World) (hx:x<lim) (hy:y<lim) (h:x*y<lim) (ht:Tab w) :
  Calls Tryz.prog 60 #[.string (sN x),.string (sN y)] w fun e W'=>e = .returned (.string (sN (x*y)))∧Below w.heap.size w W':=by
 have c:=sA x y w (aF.2 hx) (aF.2 hy) (by rw [←Int.natCast_mul];exact aF.2 h) ht
 rwa [←Int.natCast_mul] at c
theorem zI (a:Nat):((sN a).toList == [48])=decide (a=0):=by
 unfold sN
 rw [ByteArray.toList_eq,ay]
 by_cases h:a=0
 ·subst h;decide+kernel
 ·rw [decide_eq_false h,beq_eq_false_iff_ne];intro e
  have h2:Lib.itoa ((a:Nat):Int)=Lib.itoa 0:=e.trans (show [48]=Lib.itoa 0 by decide+kernel)
  exact h (Int.ofNat.inj (fD h2))
theorem fX:∀ (l:List Nat) (p n:Nat),ad (l ++ [p]) n=((ad l n).1*(strip p (ad l n).2).1,(strip p (ad l n).2).2)
 | [],p,n=>by simp [ad]
 | q::l,p,n=>by
  show ((strip q n).1*(ad (l ++ [p]) (strip q n).2).1,(ad (l ++ [p]) (strip q n).2).2)=_
  rw [fX l p]
  simp only [ad,Nat.mul_assoc]
theorem pI:9409<lim:=by
 have:=lp (z:=9409) (by decide)
 exact this
theorem ww {pre r:List Nat} {x:Nat} (h:af=pre++x::r):(∀ p∈pre,2≤p)∧x∈af:=by
 refine ⟨fun p hp=>(gI (x:=p) (by rw [h];simp [hp])).1,by rw [h];simp⟩
structure LgAt (w:World) (base:Nat) (c x:Nat) (W0 W:World):Prop where
 b1:Boxed W w.heap.size 9 (.string (sN x))
 b2:Boxed W (w.heap.size+1) 9 (.string (sN c))
 below:Below w.heap.size w W
 from_:KeepsFrom base W0 W
 kb:Kb base W0 W
theorem LgAt.next {w:World} {base c x:Nat} {W0 W W':World} (h:LgAt w base c x W0 W) (b:Below W.heap.size W W'):LgAt w base c x W0 W' :=
 ⟨h.b1.kept (be b) (by simp),h.b2.kept (be b) (by simp),h.below.trans (b.mono h.below.size),h.from_.trans (KeepsFrom.of_grownBy (be b) (fun j e=>by cases e)),h.kb.trans (Kb.of_below b)⟩
theorem LgAt.put {w:World} {base c x:Nat} {W0 W:World} (h:LgAt w base c x W0 W) (hb:w.heap.size+1<base) (c' x':Nat) :
  LgAt w base c' x' W0 ((W.setCell ⟨w.heap.size+1,0,none⟩ (.string (sN c'))).setCell ⟨w.heap.size,0,none⟩ (.string (sN x'))) :=
 ⟨(h.b1.other (by omega) _).set _,(h.b2.set _).other (by omega) _,(h.below.setCell (p:=⟨w.heap.size+1,0,none⟩) (by show w.heap.size≤w.heap.size+1;omega) _).setCell (p:=⟨w.heap.size,0,none⟩) (Nat.le_refl _) _,
  h.from_.trans (((KeepsOthers.setCell _ _ _).from _).trans ((KeepsOthers.setCell _ _ _).from _)),h.kb.trans ((Kb.cell_below (p:=⟨w.heap.size+1,0,none⟩) hb _).trans (Kb.cell_below (p:=⟨w.heap.size,0,none⟩) (by show w.heap.size<base;omega) _))⟩
section
attribute [local go_sem] Oper.semAt_some
theorem wy (m:Nat) (w:World) (h0:0<m) (hm:m<lim) (ht:Tab w) (hS:Sm w) :
  Calls Tryz.prog 109 #[.string (sN m)] w fun e W'=>e = .returned (.tuple #[.string (sN (ad af m).1),.string (sN (ad af m).2)])∧Below w.heap.size w W':=by
 refine (callsIn_wide (n:=9)).1 ?_
 have C1:Hid (∀ u,u<9410→∀ W,Below w.heap.size w W→Calls Tryz.prog 112 #[.int .u64 (u:Nat),.int .i64 10] W fun e W'=>e = .returned (.string (sN u))∧Below W.heap.size W W') :=
  Ha (fun u hu W hW=>zH u (by omega) W (ht.next hW))
 have C2:Hid (∀ x y,x<lim→y<lim→0<y→∀ W,Below w.heap.size w W→Calls Tryz.prog 78 #[.string (sN x),.string (sN y)] W fun e W'=>e = .returned (.tuple #[.string (sN (x / y)),.string (sN (x % y))])∧Below W.heap.size W W') :=
  Ha (fun x y hx hy h W hW=>wv x y W hx hy h (ht.next hW))
 have C3:Hid (∀ x y,x<lim→y<lim→x*y<lim→∀ W,Below w.heap.size w W→Calls Tryz.prog 60 #[.string (sN x),.string (sN y)] W fun e W'=>e = .returned (.string (sN (x*y)))∧Below W.heap.size W W') :=
  Ha (fun x y hx hy h W hW=>pH x y W hx hy h (ht.next hW))
 have HM:=Ha (Hb h0 (Hb hm hS));clear h0 hm hS ht
 refine callsIn_of_wp_marks Tryz.func109 rfl trivial ?_ rfl
 simp only [Tryz.ntmps109,List.size_toArray,List.length_cons,List.length_nil,Nat.reduceAdd,Nat.reduceSub,Array.replicate_succ,Array.replicate_zero,List.push_toArray,List.append_toArray,List.nil_append,List.cons_append]
 gi_wp2
 have b0:=(Boxed.new w 9 (.string (sN m))).alloc (.cells #[.string ⟨#[49]⟩] 9)
 have b1:=Boxed.new (w.alloc (.cells #[.string (sN m)] 9)) 9 (.string ⟨#[49]⟩)
 simp only [World.size_alloc] at b0 b1
 have hB0:Below w.heap.size w ((w.alloc (.cells #[.string (sN m)] 9)).alloc (.cells #[.string ⟨#[49]⟩] 9)):=((Below.refl _ w).alloc (Nat.le_refl _) _).alloc (by simp) _
 have hsz:((w.alloc (.cells #[.string (sN m)] 9)).alloc (.cells #[.string ⟨#[49]⟩] 9)).heap.size=w.heap.size+1+1:=by simp
 generalize (w.alloc (.cells #[.string (sN m)] 9)).alloc (.cells #[.string ⟨#[49]⟩] 9)=W2 at *
 have HB:=Ha (Hb hB0 (Hb hsz (Hb b0 b1)));clear b0 b1 hB0 hsz
 have e1:(⟨#[49]⟩:ByteArray)=sN (ad [] m).1:=(gp 1 [49] bK).symm
 refine dv rfl (by omega) (gf:=111) (fs := #[]) rfl trivial (enters_of Tryz.func111 (by kernel_rfl) rfl)
  (ki (9 - 1) W2 (by omega) (HM.out.2.2.next HB.out.1)) (fun _=>rfl) .ret (.inl rfl)
  (fun pre W=>(Boxed W w.heap.size 9 (.string (sN (ad pre m).2))∧Boxed W (w.heap.size+1) 9 (.string (sN (ad pre m).1)))∧Below w.heap.size w W)
  (fun _ _=>False)
  (OwnFrom.and (OwnFrom.and (Own.from (boxed_own _ _ (fun pre => .string (sN (ad pre m).2))) _) (Own.from (boxed_own _ _ (fun pre => .string (sN (ad pre m).1))) _)) (ownFrom_below (Nat.le_refl _) (by rw [HB.out.2.1];omega)))
  (fun _ _ _ _ h _ _=>h)
  (fun s A h=>⟨h.1,h.2.drew⟩)
  ⟨⟨HB.out.2.2.1,by have:=HB.out.2.2.2;rwa [e1] at this⟩,HB.out.1⟩
  (fun p=>{ tmps := #[.string (sN m),.pointer (some ⟨w.heap.size,0,none⟩),.string ⟨#[]⟩,.string ⟨#[]⟩,.pointer (some ⟨w.heap.size+1,0,none⟩),.int .u64 (p:Int),.int .u64 ((p:Int)*(p:Int)),undef,undef,undef,undef,.int .u64 (p:Int),.int .u64 ((p:Int)*(p:Int)),undef,undef,undef,undef,undef,undef,undef,undef,undef,undef,undef,undef,undef,undef,undef,undef,undef,undef,undef,undef,undef,undef,undef,undef],defers := [] }) ?assign ?body ?done ?stop
 case assign =>
  intro l x W K hK
  gi_wp2
  exact hK
 case body =>
  rintro l pre p r' W hle hx ⟨⟨h1,h2⟩,hB⟩
  obtain ⟨hpre,hmem⟩:=ww hx
  have hp:=gI hmem
  have hpp:=iG hmem
  obtain ⟨a1,a2,a3,a4,_⟩:=aV pre hpre HM.out.1
  have hsn:=fX pre p m
  have H:=Ha (⟨h1,h2,hB,KeepsFrom.refl _ _,Kb.refl _ _⟩:LgAt w W2.heap.size (ad pre m).1 (ad pre m).2 W W)
  have HX:=Ha (Hb hsn (Hb a1 (Hb a2 (Hb a3 (Hb hp (Hb hpp hle))))));clear hsn a1 a2 a3 a4 hp hpp hle hx hpre hmem h1 h2 hB
  generalize (ad pre m).1=c0 at *
  generalize (ad pre m).2=x0 at *
  have f1:=Ha (C1.out p (by have:=HX.out.2.2.2.2.1;omega))
  have f2:=Ha (C1.out (p*p) (by have:=HX.out.2.2.2.2.2.1;omega))
  rw [Int.natCast_mul] at f2
  have hpos:0<p*p:=Nat.mul_pos (by have:=HX.out.2.2.2.2.1;omega) (by have:=HX.out.2.2.2.2.1;omega)
  have hxl:x0<lim:=Nat.lt_of_le_of_lt (by rw [HX.out.2.1];exact Nat.le_mul_of_pos_left _ (Nat.mul_pos HX.out.2.2.1 HX.out.2.2.1)) HM.out.2.1
  have hpl:p*p<lim:=Nat.lt_of_le_of_lt HX.out.2.2.2.2.2.1 pI
  have HP:=Ha (Hb hpos (Hb hxl hpl));clear hpos hxl hpl
  gi_wp2_with fail
  refine ⟨trivial,?_⟩
  refine (CallsIn.inRound l (callsIn_wide.2 (f1.out _ H.out.below))).mono ?_
  rintro e w1 ⟨rfl,b⟩
  have HN:=Ha (H.out.next b);clear H b;have H:=HN;clear HN
  gi_wp2_with fail
  refine ⟨trivial,?_⟩
  refine (CallsIn.inRound l (callsIn_wide.2 (f2.out _ H.out.below))).mono ?_
  rintro e w2 ⟨rfl,b⟩
  have HN:=Ha (H.out.next b);clear H b;have H:=HN;clear HN
  have hc1:=H.out.b1.cell
  have g1:=Ha (C2.out x0 (p*p) HP.out.2.1 HP.out.2.2 HP.out.1)
  gi_wp2_with fail
  refine ⟨trivial,?_⟩
  refine (CallsIn.inRound l (callsIn_wide.2 (g1.out _ H.out.below))).mono ?_
  rintro e w3 ⟨rfl,b⟩
  have HN:=Ha (H.out.next b);clear H b;have H:=HN;clear HN
  clear hc1
  gi_wp2
  gi_loopg [9,10] x0 (fun g s9 s10 wx=>s9 = .string (sN (g / (p*p)))∧s10 = .string (sN (g % (p*p)))∧Hid (∃ c,c*c*g=m∧0<g∧c*(strip p g).1=c0*(strip p x0).1∧(strip p g).2=(strip p x0).2∧LgAt w W2.heap.size c g W wx))
  case atStart=>exact ⟨rfl,rfl,Ha ⟨c0,HX.out.2.1.symm,HX.out.2.2.2.1,rfl,rfl,H.out⟩⟩
  case round =>
   clear H
   obtain ⟨rfl,rfl,hh⟩:=hrel
   obtain ⟨c,i1,i2,i3,i4,i5⟩:=hh.out
   have H:=Ha i5
   have HI:=Ha (Hb i1 (Hb i2 (Hb i3 i4)));clear i1 i2 i3 i4 i5 hh
   have z1:=zI (gk % (p*p))
   by_cases hz:gk % (p*p)=0
   ·rw [decide_eq_true hz] at z1
    have hs:=fy (p:=p) HX.out.2.2.2.2.1.1 HI.out.2.1 hz
    have hdm:gk=p*p*(gk / (p*p)):=by have:=Nat.div_add_mod gk (p*p);omega
    have hg2:0<gk / (p*p):=Nat.pos_of_ne_zero fun e=>by rw [e,Nat.mul_zero] at hdm;have:=HI.out.2.1;omega
    have hlt:gk / (p*p)<gk:=Nat.div_lt_self HI.out.2.1 (jJ HX.out.2.2.2.2.1.1)
    have hcm:c*p*(c*p)*(gk / (p*p))=m:=by rw [Nat.mul_mul_mul_comm,Nat.mul_assoc (c*c),←hdm];exact HI.out.1
    have h3:c*p*(strip p (gk / (p*p))).1=c0*(strip p x0).1:=by rw [←HI.out.2.2.1,hs,Nat.mul_assoc]
    have h4:(strip p (gk / (p*p))).2=(strip p x0).2:=by rw [←HI.out.2.2.2,hs]
    have hcp:0<c*p:=Nat.pos_of_ne_zero fun e=>by rw [e] at hcm;simp at hcm;have:=HM.out.1;omega
    have hcl:c*p<lim:=Nat.lt_of_le_of_lt (by rw [←hcm,Nat.mul_assoc];exact Nat.le_mul_of_pos_right _ (Nat.mul_pos hcp hg2)) HM.out.2.1
    have hc2:c<lim:=Nat.lt_of_le_of_lt (Nat.le_mul_of_pos_right _ (by have:=HX.out.2.2.2.2.1;omega)) hcl
    have hgl:gk / (p*p)<lim:=Nat.lt_of_le_of_lt (by rw [←hcm];exact Nat.le_mul_of_pos_left _ (Nat.mul_pos hcp hcp)) HM.out.2.1
    have t1:=Ha (C3.out c p hc2 (by have:=HX.out.2.2.2.2.1;have:=pI;omega) hcl)
    have d1:=Ha (C2.out (gk / (p*p)) (p*p) hgl HP.out.2.2 HP.out.1)
    have HQ:=Ha (Hb hlt (Hb hcm (Hb hg2 (Hb h3 h4))));clear hs hdm hg2 hlt hcm h3 h4 hcp hcl hc2 hgl hz HI
    generalize gk / (p*p)=g2 at *
    have hc1:=H.out.b1.cell
    have hc2:=H.out.b2.cell
    gi_wp2_with fail
    refine ⟨trivial,?_⟩
    refine (CallsIn.inRound l (callsIn_wide.2 (t1.out _ H.out.below))).mono ?_
    rintro e w5 ⟨rfl,b⟩
    have HN:=Ha (H.out.next b);clear H b hc1 hc2;have H:=HN;clear HN
    have hc1:=H.out.b1.cell
    have hc2:=H.out.b2.cell
    have hf1:=H.out.b1.frozen
    have hf2:=H.out.b2.frozen
    have HN:=Ha (H.out.put (by rw [HB.out.2.1];omega) (c*p) g2)
    have hd1:=HN.out.b1.cell
    gi_wp2_with fail
    refine ⟨trivial,?_⟩
    refine (CallsIn.inRound l (callsIn_wide.2 (d1.out _ HN.out.below))).mono ?_
    rintro e w6 ⟨rfl,b⟩
    have HO:=Ha (HN.out.next b);clear HN b hc1 hc2 hf1 hf2 hd1 H
    gi_wp2
    gi_roundg g2
    case rel=>exact ⟨rfl,rfl,Ha ⟨c*p,HQ.out.2.1,HQ.out.2.2.1,HQ.out.2.2.2.1,HQ.out.2.2.2.2,HO.out⟩⟩
    case measure=>exact HQ.out.1
   ·rw [decide_eq_false hz] at z1
    have hs:=dD (p:=p) hz
    have e3:=HI.out.2.2.1
    have e4:=HI.out.2.2.2
    rw [hs] at e3 e4
    have HQ:=Ha (Hb e3 e4);clear e3 e4 hs hz HI
    gi_wp2
    refine ⟨H.out.from_,fun _=>H.out.kb,⟨⟨?_,?_⟩,H.out.below⟩⟩
    ·have:=H.out.b1
     rw [HX.out.1]
     have e:=HQ.out.2
     simp only at e ⊢
     rwa [e] at this
    ·have:=H.out.b2
     rw [HX.out.1]
     have e:=HQ.out.1
     simp only [Nat.mul_one] at e ⊢
     rwa [e] at this
 case done =>
  rintro D W hD ⟨⟨h1,h2⟩,hB⟩ hK
  have hc1:=h1.cell
  have hc2:=h2.cell
  have d1:=(show World.cell? W.drew ⟨w.heap.size,0,none⟩=_ from hc1)
  have d2:=(show World.cell? W.drew ⟨w.heap.size+1,0,none⟩=_ from hc2)
  have HH:=Ha (Hb hB (Hb hK hD));clear hB hK hD h1 h2
  have hmx:Tryz.prog.follows .mixedOrders=true:=by kernel_rfl
  gi_wp2
  refine wpIn_mono (Q:=Exit.then _ (fun _ _ _=>False)) ?_ (fun e a' w' h=>by cases e <;> first | exact h | exact h.elim)
  gi_region_with_o (fail)
  all_goals
   gi_wp2
   have hKd:W.drew.heap[D]? = some (.deferred (some [])):=HH.out.2.1
   refine ⟨by simp,.inl ⟨_,_,rfl,run_takeDeferred hKd,?_⟩⟩
   refine ⟨.tuple #[.string (sN (ad af m).1),.string (sN (ad af m).2)],?_,rfl,HH.out.1.drew.trans (belowK_b (w:=w) (Nat.le_refl _) W.drew D _ _ (by have:=HH.out.2.2;rw [HB.out.2.1] at this;omega) hKd rfl rfl)⟩
   simp [results,Tryz.f109,go_sem]
 case stop =>
  rintro D pre r' W hD hx h hK
  exact h.elim
end
end T
namespace T
open Go.Proofs.YtjdomibbaemdnaaGreatDoor Go Go.RowKit Go.Shelf
theorem uponIn_round (F:Fence) (n:Nat) (P:Program) (l:Nat) {o:Oper} {a:Act} {K:Act→World→Prop} {Q:Exit→Act→World→Prop} {r:Result Next} (h:o.uponIn F n P a K Q r):o.uponIn (F.inRound l) n P a K Q r:=by
 cases r with
 | ok x w'=>cases x <;> exact h
 | halt x w'=>cases x <;> exact h
theorem je (F:Fence) (n:Nat) (P:Program) (l:Nat) {md:Region.Mode} {ops:Array Oper} {Q:Exit→Act→World→Prop} (hd:∀ o∈ops.toList,∀ c,o.op ≠ .defer c) :
  ∀ (fuel:Nat) (listed:Array Bool) (a:Act) (w:World),wpAnyIn F n P md ops Q fuel listed a w→wpAnyIn (F.inRound l) n P md ops Q fuel listed a w
 | 0,_,_,_,h=>h
 | fuel+1,listed,a,w,h=>by
  refine ⟨h.1,fun i hi => ?_⟩
  have h2:=h.2 i hi
  unfold wpOpIn at h2 ⊢
  cases ho:ops[i]? with
  | none=>simp only [ho] at h2 ⊢; exact je F n P l hd fuel _ _ _ h2
  | some o =>
   simp only [ho] at h2 ⊢
   have hno:∀ c,o.op ≠ .defer c:=hd o (by have:=Array.mem_of_getElem? ho;simpa using this)
   split
   ·rename_i hw
    rw [if_pos hw] at h2
    refine Oper.wpIn_mono (fun a w k=>je F n P l hd fuel _ a w k) ?_
    refine ⟨h2.1,?_⟩
    have h3:=h2.2
    rw [Oper.semAt_plain F _ _ hno] at h3
    rw [Oper.semAt_plain (F.inRound l) _ _ hno]
    exact uponIn_round F n P l h3
   ·rename_i hw
    rw [if_neg hw] at h2
    exact ⟨h2.1,je F n P l hd fuel _ _ _ h2.2⟩
theorem m7:∀ (l r:List Nat) (n:Nat),ad (l++r) n=((ad l n).1*(ad r (ad l n).2).1,(ad r (ad l n).2).2)
 | [],r,n=>by simp [ad]
 | q::l,r,n=>by
  show ((strip q n).1*(ad (l++r) (strip q n).2).1,(ad (l++r) (strip q n).2).2)=_
  rw [m7 l r]
  simp only [ad,Nat.mul_assoc]
theorem wz {pre r:List Nat} {x:Nat} (h:af=pre++x::r):∀ q∈x::r,x≤q:=by
 have s:List.Pairwise (· ≤ ·) af:=by decide
 rw [h] at s
 have t:=(List.pairwise_append.1 s).2.1
 intro q hq
 rcases List.mem_cons.1 hq with rfl | hq
 ·exact Nat.le_refl _
 ·exact (List.pairwise_cons.1 t).1 q hq
theorem wA {pre r:List Nat} {x m:Nat} (h:af=pre++x::r) (h0:0<(ad pre m).2) (hv:(ad pre m).2<x*x):ad af m=ad pre m:=by
 rw [h,m7,dS h0 (x::r) (fun q hq=>Nat.lt_of_lt_of_le hv (Nat.mul_le_mul (wz h q hq) (wz h q hq)))]
 simp
structure ShAt (w:World) (base:Nat) (c x:Nat) (W0 W:World):Prop where
 b1:Boxed W w.heap.size 143 (.int .u64 (x:Int))
 b2:Boxed W (w.heap.size+1) 143 (.int .u64 (c:Int))
 below:Below w.heap.size w W
 from_:KeepsFrom base W0 W
 kb:Kb base W0 W
theorem ShAt.drew {w:World} {base c x:Nat} {W0 W:World} (h:ShAt w base c x W0 W):ShAt w base c x W0 W.drew :=
 ⟨h.b1,h.b2,h.below.drew,h.from_.trans ((KeepsOthers.drew W).from _),h.kb.trans (Kb.of_below (Below.refl _ _).drew)⟩
theorem ShAt.put {w:World} {base c x:Nat} {W0 W:World} (h:ShAt w base c x W0 W) (hb:w.heap.size+1<base) (c' x':Nat) {z z':Int} (hz:z=(c':Int)) (hz':z'=(x':Int)) :
  ShAt w base c' x' W0 ((W.setCell ⟨w.heap.size+1,0,none⟩ (.int .u64 z)).setCell ⟨w.heap.size,0,none⟩ (.int .u64 z')):=by
 subst hz hz'
 exact ⟨(h.b1.other (by omega) _).set _,(h.b2.set _).other (by omega) _,(h.below.setCell (p:=⟨w.heap.size+1,0,none⟩) (by show w.heap.size≤w.heap.size+1;omega) _).setCell (p:=⟨w.heap.size,0,none⟩) (Nat.le_refl _) _,
  h.from_.trans (((KeepsOthers.setCell _ _ _).from _).trans ((KeepsOthers.setCell _ _ _).from _)),h.kb.trans ((Kb.cell_below (p:=⟨w.heap.size+1,0,none⟩) hb _).trans (Kb.cell_below (p:=⟨w.heap.size,0,none⟩) (by show w.heap.size<base;omega) _))⟩
structure DnAt (w w1:World) (c x D:Nat) (W:World):Prop where
 b1:Boxed W w1.heap.size 143 (.int .u64 (x:Int))
 b2:Boxed W (w1.heap.size+1) 143 (.int .u64 (c:Int))
 below:Below w.heap.size w W
 mark:W.heap[D]? = some (.deferred (some []))
theorem DnAt.next {w w1:World} {c x D:Nat} {W W':World} (h:DnAt w w1 c x D W) (b:Below W.heap.size W W'):DnAt w w1 c x D W' :=
 ⟨h.b1.kept (be b) (by simp),h.b2.kept (be b) (by simp),h.below.trans (b.mono h.below.size),(b.block D (Array.getElem?_eq_some_iff.1 h.mark).1).trans h.mark⟩
section
attribute [local go_sem] Oper.semAt_some
theorem lh (m:Nat) (w:World) (h0:0<m) (hm:m<1000000000000000000) (hs:(sN m).size≤18) (ht:Tab w) (hS:Sm w) :
  Calls Tryz.prog 59 #[.string (sN m)] w fun e W'=>e = .returned (.tuple #[.string (sN (ad af m).1),.string (sN (ad af m).2)])∧Below w.heap.size w W':=by
 refine (callsIn_wide (n:=9)).1 ?_
 have C1:Hid (∀ u,u<1000000000000000000→∀ W,Below w.heap.size w W→Calls Tryz.prog 112 #[.int .u64 (u:Nat),.int .i64 10] W fun e W'=>e = .returned (.string (sN u))∧Below W.heap.size W W') :=
  Ha (fun u hu W hW=>zH u (by omega) W (ht.next hW))
 have C2:Hid (∀ W,Calls Tryz.prog 110 #[.string (sN m),.int .i64 10,.int .i64 64] W fun e W'=>e = .returned (.tuple #[.int .u64 m,.nilIface])∧Below W.heap.size W W'):=Ha (fun W=>yq m W (by omega))
 have HM:=Ha (Hb h0 (Hb hm hS));clear h0 hm hS ht
 have HU:Hid ((ad af m).1<1000000000000000000∧(ad af m).2<1000000000000000000):=Ha (by
  obtain ⟨q1,q2,q3,_⟩:=aV af fS HM.out.1
  have hl:=HM.out.2.1
  generalize (ad af m).1=a at *
  generalize (ad af m).2=b at *
  have h1:a≤m:=by rw [q1,Nat.mul_assoc];exact Nat.le_mul_of_pos_right _ (Nat.mul_pos q2 q3)
  have h2:b≤m:=by rw [q1];exact Nat.le_mul_of_pos_left _ (Nat.mul_pos q2 q2)
  omega)
 have hs1:¬ (18:Int)<(sN m).size:=by omega
 refine callsIn_of_wp_marks Tryz.func59 rfl trivial ?_ rfl
 simp only [Tryz.ntmps59,List.size_toArray,List.length_cons,List.length_nil,Nat.reduceAdd,Nat.reduceSub,Array.replicate_succ,Array.replicate_zero,List.push_toArray,List.append_toArray,List.nil_append,List.cons_append]
 gi_wp2_with fail
 refine ⟨trivial,?_⟩
 refine (callsIn_wide.2 (C2.out _)).mono ?_
 rintro e w1 ⟨rfl,bw⟩
 have HW:=Ha bw;clear bw
 gi_wp2
 have b0:=(Boxed.new w1 143 (.int .u64 (m:Int))).alloc (.cells #[.int .u64 1] 143)
 have b1:=Boxed.new (w1.alloc (.cells #[.int .u64 (m:Int)] 143)) 143 (.int .u64 1)
 simp only [World.size_alloc] at b0 b1
 have hB0:Below w1.heap.size w1 ((w1.alloc (.cells #[.int .u64 (m:Int)] 143)).alloc (.cells #[.int .u64 1] 143)):=((Below.refl _ w1).alloc (Nat.le_refl _) _).alloc (by simp) _
 have hsz:((w1.alloc (.cells #[.int .u64 (m:Int)] 143)).alloc (.cells #[.int .u64 1] 143)).heap.size=w1.heap.size+1+1:=by simp
 generalize (w1.alloc (.cells #[.int .u64 (m:Int)] 143)).alloc (.cells #[.int .u64 1] 143)=W2 at *
 have HB:=Ha (Hb hB0 (Hb hsz (Hb b0 b1)));clear b0 b1 hB0 hsz
 refine dv rfl (by omega) (gf:=111) (fs := #[]) rfl trivial (enters_of Tryz.func111 (by kernel_rfl) rfl)
  (ki (9 - 1) W2 (by omega) ((HM.out.2.2.next HW.out).next HB.out.1)) (fun _=>rfl) (.exit 0) (.inr ⟨0,rfl⟩)
  (fun pre W=>(Boxed W w1.heap.size 143 (.int .u64 ((ad pre m).2:Nat))∧Boxed W (w1.heap.size+1) 143 (.int .u64 ((ad pre m).1:Nat)))∧Below w1.heap.size w1 W)
  (fun _ W=>(Boxed W w1.heap.size 143 (.int .u64 ((ad af m).2:Nat))∧Boxed W (w1.heap.size+1) 143 (.int .u64 ((ad af m).1:Nat)))∧Below w1.heap.size w1 W)
  (OwnFrom.and (OwnFrom.and (Own.from (boxed_own _ _ (fun pre => .int .u64 ((ad pre m).2:Nat))) _) (Own.from (boxed_own _ _ (fun pre => .int .u64 ((ad pre m).1:Nat))) _)) (ownFrom_below (Nat.le_refl _) (by rw [HB.out.2.1];omega)))
  (OwnFrom.and (OwnFrom.and (Own.from (boxed_own _ _ (fun _ => .int .u64 ((ad af m).2:Nat))) _) (Own.from (boxed_own _ _ (fun _ => .int .u64 ((ad af m).1:Nat))) _)) (ownFrom_below (Nat.le_refl _) (by rw [HB.out.2.1];omega)))
  (fun s A h=>⟨h.1,h.2.drew⟩)
  ⟨⟨HB.out.2.2.1,HB.out.2.2.2⟩,HB.out.1⟩
  (fun p=>{ tmps := #[.string (sN m),undef,.string ⟨#[]⟩,.string ⟨#[]⟩,.pointer (some ⟨w1.heap.size,0,none⟩),.nilIface,.pointer (some ⟨w1.heap.size+1,0,none⟩),.int .u64 (p:Int),.int .u64 ((p:Int)*(p:Int)),.string (sN m),.int .i64 (sN m).size,.bool false,undef,undef,undef,undef,.tuple #[.int .u64 (m:Int),.nilIface],.string (sN m),.tuple #[.int .u64 (m:Int),.nilIface],.int .u64 (m:Int),.nilIface,.int .u64 (p:Int),.int .u64 ((p:Int)*(p:Int)),undef,undef,undef,undef,undef,undef,undef,undef,undef,undef,undef,undef,undef,undef,undef,undef,undef],defers := [] }) ?assign ?body ?done ?stop
 case assign =>
  intro l x W K hK
  gi_wp2
  exact hK
 case body =>
  rintro l pre p r' W hle hx ⟨⟨h1,h2⟩,hB⟩
  obtain ⟨hpre,hmem⟩:=ww hx
  have hp:=gI hmem
  have hpp:=iG hmem
  obtain ⟨a1,a2,a3,a4,_⟩:=aV pre hpre HM.out.1
  have hsn:=fX pre p m
  have hbr:=fun h=>wA (m:=m) hx a3 h
  have H:=Ha (⟨h1,h2,hB,KeepsFrom.refl _ _,Kb.refl _ _⟩:ShAt w1 W2.heap.size (ad pre m).1 (ad pre m).2 W W)
  have HX:=Ha (Hb hsn (Hb a1 (Hb a2 (Hb a3 (Hb hp (Hb hpp hbr))))));clear hsn a1 a2 a3 a4 hp hpp hle hx hpre hmem h1 h2 hB hbr
  generalize hst:ad pre m=st at *
  obtain ⟨c0,x0⟩:=st
  clear hst
  dsimp only at HX H
  have hzz:0<(p:Int)*(p:Int):=by
   have:=HX.out.2.2.2.2.1
   exact Int.mul_pos (by omega) (by omega)
  have hz0:¬ (p:Int)*(p:Int)=0:=by omega
  have hc1:=H.out.b1.cell
  by_cases hbk:x0<p*p
  ·have hbk':(x0:Int)<(p:Int)*(p:Int):=by rw [←Int.natCast_mul];omega
   have E:=Ha (HX.out.2.2.2.2.2.2 hbk)
   clear hbk
   gi_wp2
   refine ⟨H.out.from_,rfl,⟨?_,?_⟩,H.out.below⟩
   ·rw [E.out];exact H.out.b1
   ·rw [E.out];exact H.out.b2
  ·have hbk':¬ (x0:Int)<(p:Int)*(p:Int):=by rw [←Int.natCast_mul];omega
   clear hbk
   gi_wp2
   clear hc1 hbk'
   gi_loopg [] x0 (fun g wx=>Hid (∃ c,c*c*g=m∧0<g∧c*(strip p g).1=c0*(strip p x0).1∧(strip p g).2=(strip p x0).2∧ShAt w1 W2.heap.size c g W wx))
   case atStart=>exact Ha ⟨c0,HX.out.2.1.symm,HX.out.2.2.2.1,rfl,rfl,H.out⟩
   case round =>
    clear H
    obtain ⟨c,i1,i2,i3,i4,i5⟩:=hrel.out
    have H:=Ha i5
    have HI:=Ha (Hb i1 (Hb i2 (Hb i3 i4)));clear i1 i2 i3 i4 i5 hrel
    have hc1:=H.out.b1.cell
    have hmd:(gk:Int) % ((p:Int)*(p:Int))=((gk % (p*p):Nat):Int):=by rw [←Int.natCast_mul,←Int.natCast_emod]
    by_cases hz:gk % (p*p)=0
    ·have hq:((gk:Int) % ((p:Int)*(p:Int))==0)=true:=by rw [hmd,hz];rfl
     have hs:=fy (p:=p) HX.out.2.2.2.2.1.1 HI.out.2.1 hz
     have hdm:gk=p*p*(gk / (p*p)):=by have:=Nat.div_add_mod gk (p*p);omega
     have hg2:0<gk / (p*p):=Nat.pos_of_ne_zero fun e=>by rw [e,Nat.mul_zero] at hdm;have:=HI.out.2.1;omega
     have hlt:gk / (p*p)<gk:=Nat.div_lt_self HI.out.2.1 (jJ HX.out.2.2.2.2.1.1)
     have hcm:c*p*(c*p)*(gk / (p*p))=m:=by rw [Nat.mul_mul_mul_comm,Nat.mul_assoc (c*c),←hdm];exact HI.out.1
     have h3:c*p*(strip p (gk / (p*p))).1=c0*(strip p x0).1:=by rw [←HI.out.2.2.1,hs,Nat.mul_assoc]
     have h4:(strip p (gk / (p*p))).2=(strip p x0).2:=by rw [←HI.out.2.2.2,hs]
     have hcp:0<c*p:=Nat.pos_of_ne_zero fun e=>by rw [e] at hcm;simp at hcm;have:=HM.out.1;omega
     have hcl:c*p<1000000000000000000:=Nat.lt_of_le_of_lt (by rw [←hcm,Nat.mul_assoc];exact Nat.le_mul_of_pos_right _ (Nat.mul_pos hcp hg2)) HM.out.2.1
     have hwr:IntKind.u64.wrap ((c:Int)*(p:Int))=(c:Int)*(p:Int):=by
      rw [IntKind.wrap_u64]
      have h2:((c*p:Nat):Int)=(c:Int)*(p:Int):=Int.natCast_mul c p
      omega
     have hd1:IntKind.u64.wrap ((gk:Int) / ((p:Int)*(p:Int)))=((gk / (p*p):Nat):Int):=by
      have hg9:gk / (p*p)<1000000000000000000:=Nat.lt_of_le_of_lt (by rw [←hcm];exact Nat.le_mul_of_pos_left _ (Nat.mul_pos hcp hcp)) HM.out.2.1
      rw [←Int.natCast_mul,←Int.natCast_ediv,IntKind.wrap_u64]
      generalize gk / (p*p)=y at *
      omega
     have HQ:=Ha (Hb hlt (Hb hcm (Hb hg2 (Hb h3 (Hb h4 hd1)))));clear hs hdm hg2 hlt hcm h3 h4 hcp hcl hz HI hmd hd1
     have hmx:Tryz.prog.follows .mixedOrders=true:=by kernel_rfl
     gi_wp2
     have hc2:=H.out.b2.cell
     have hf1:=H.out.b1.frozen
     have hf2:=H.out.b2.frozen
     have HN:=Ha H.out.drew;clear H;have H:=HN;clear HN
     have hd1:=H.out.b1.cell
     have hd2:=H.out.b2.cell
     have hg1:=H.out.b1.frozen
     have hg2:=H.out.b2.frozen
     refine wpIn_mono (Q:=Exit.then _ (fun _ _ _=>False)) ?_ (fun e a' w' h=>by cases e <;> first | exact h | exact h.elim)
     refine wpIn_region_any hmx ?_
     refine je Fence.wide _ _ l (by simp) _ _ _ _ ?_
     change wpAnyIn _ _ _ _ _ _ _ _ _ (World.drew _)
     refine wpAnyIn_take (i:=1) (v := ?_) rfl rfl (by kernel_rfl) (by kernel_rfl) (by kernel_rfl) (fun _ _ _ h=>h) ⟨Or.inl ⟨by rfl,?_⟩,fun _=>rfl⟩ ?_
     rotate_left
     ·intro w;go_simp;try with_reducible rfl
     refine wpAnyIn_take (i:=4) (v := ?_) rfl rfl (by kernel_rfl) (by kernel_rfl) (by kernel_rfl) (fun _ _ _ h=>h) ⟨Or.inl ⟨by rfl,?_⟩,fun _=>rfl⟩ ?_
     rotate_left
     ·intro w;go_simp;try with_reducible rfl
     refine wpAnyIn_ready (rs := [0,3]) (by kernel_rfl) (by simp) ?_
     refine AllReadyIn.cons rfl (fun K hK => ?_) (AllReadyIn.cons rfl (fun K hK => ?_) AllReadyIn.nil)
     ·go_simp
      refine hK _ _ ?_
      clear hK K
      refine wpAnyIn_take (i:=2) (v := ?_) rfl rfl (by kernel_rfl) (by kernel_rfl) (by kernel_rfl) (fun _ _ _ h=>h) ⟨Or.inl ⟨by rfl,?_⟩,fun _=>rfl⟩ ?_
      rotate_left
      ·intro w;go_simp;try with_reducible rfl
      refine wpAnyIn_ready (rs := [3,6]) (by kernel_rfl) (by simp) ?_
      refine AllReadyIn.cons rfl (fun K hK => ?_) (AllReadyIn.cons rfl (fun K hK => ?_) AllReadyIn.nil)
      ·go_simp
       refine hK _ _ ?_
       clear hK K
       refine wpAnyIn_take (i:=5) (v := ?_) rfl rfl (by kernel_rfl) (by kernel_rfl) (by kernel_rfl) (fun _ _ _ h=>h) ⟨Or.inl ⟨by rfl,?_⟩,fun _=>rfl⟩ ?_
       rotate_left
       ·intro w;go_simp;try with_reducible rfl
       refine wpAnyIn_ready (rs := [6]) (by kernel_rfl) (by simp) ?_
       refine AllReadyIn.cons rfl (fun K hK => ?_) AllReadyIn.nil
       go_simp
       refine hK _ _ ?_
       clear hK K
       refine wpAnyIn_ready (rs := [7]) (by kernel_rfl) (by simp) ?_
       refine AllReadyIn.cons rfl (fun K hK => ?_) AllReadyIn.nil
       go_simp
       refine hK _ _ ?_
       clear hK K
       refine wpAnyIn_done (by kernel_rfl) ?_ _
       have HO:=Ha (H.out.put (by rw [HB.out.2.1];omega) (c*p) (gk / (p*p)) (Int.natCast_mul c p).symm HQ.out.2.2.2.2.2)
       gi_wp2
       gi_roundg (gk / (p*p))
       case rel=>exact Ha ⟨c*p,HQ.out.2.1,HQ.out.2.2.1,HQ.out.2.2.2.1,HQ.out.2.2.2.2.1,HO.out⟩
       case measure=>exact HQ.out.1
      ·go_simp
       refine hK _ _ ?_
       clear hK K
       refine wpAnyIn_ready (rs := [3]) (by kernel_rfl) (by simp) ?_
       refine AllReadyIn.cons rfl (fun K hK => ?_) AllReadyIn.nil
       go_simp
       refine hK _ _ ?_
       clear hK K
       refine wpAnyIn_take (i:=5) (v := ?_) rfl rfl (by kernel_rfl) (by kernel_rfl) (by kernel_rfl) (fun _ _ _ h=>h) ⟨Or.inl ⟨by rfl,?_⟩,fun _=>rfl⟩ ?_
       rotate_left
       ·intro w;go_simp;try with_reducible rfl
       refine wpAnyIn_ready (rs := [7]) (by kernel_rfl) (by simp) ?_
       refine AllReadyIn.cons rfl (fun K hK => ?_) AllReadyIn.nil
       go_simp
       refine hK _ _ ?_
       clear hK K
       refine wpAnyIn_done (by kernel_rfl) ?_ _
       have HO:=Ha (H.out.put (by rw [HB.out.2.1];omega) (c*p) (gk / (p*p)) (Int.natCast_mul c p).symm HQ.out.2.2.2.2.2)
       gi_wp2
       gi_roundg (gk / (p*p))
       case rel=>exact Ha ⟨c*p,HQ.out.2.1,HQ.out.2.2.1,HQ.out.2.2.2.1,HQ.out.2.2.2.2.1,HO.out⟩
       case measure=>exact HQ.out.1
     ·go_simp
      refine hK _ _ ?_
      clear hK K
      refine wpAnyIn_take (i:=5) (v := ?_) rfl rfl (by kernel_rfl) (by kernel_rfl) (by kernel_rfl) (fun _ _ _ h=>h) ⟨Or.inl ⟨by rfl,?_⟩,fun _=>rfl⟩ ?_
      rotate_left
      ·intro w;go_simp;try with_reducible rfl
      refine wpAnyIn_ready (rs := [0]) (by kernel_rfl) (by simp) ?_
      refine AllReadyIn.cons rfl (fun K hK => ?_) AllReadyIn.nil
      go_simp
      refine hK _ _ ?_
      clear hK K
      refine wpAnyIn_take (i:=2) (v := ?_) rfl rfl (by kernel_rfl) (by kernel_rfl) (by kernel_rfl) (fun _ _ _ h=>h) ⟨Or.inl ⟨by rfl,?_⟩,fun _=>rfl⟩ ?_
      rotate_left
      ·intro w;go_simp;try with_reducible rfl
      refine wpAnyIn_ready (rs := [6]) (by kernel_rfl) (by simp) ?_
      refine AllReadyIn.cons rfl (fun K hK => ?_) AllReadyIn.nil
      go_simp
      refine hK _ _ ?_
      clear hK K
      refine wpAnyIn_ready (rs := [7]) (by kernel_rfl) (by simp) ?_
      refine AllReadyIn.cons rfl (fun K hK => ?_) AllReadyIn.nil
      go_simp
      refine hK _ _ ?_
      clear hK K
      refine wpAnyIn_done (by kernel_rfl) ?_ _
      have HO:=Ha (H.out.put (by rw [HB.out.2.1];omega) (c*p) (gk / (p*p)) (Int.natCast_mul c p).symm HQ.out.2.2.2.2.2)
      gi_wp2
      gi_roundg (gk / (p*p))
      case rel=>exact Ha ⟨c*p,HQ.out.2.1,HQ.out.2.2.1,HQ.out.2.2.2.1,HQ.out.2.2.2.2.1,HO.out⟩
      case measure=>exact HQ.out.1
    ·have hq:((gk:Int) % ((p:Int)*(p:Int))==0)=false:=by
      rw [hmd,beq_eq_false_iff_ne];intro e;exact hz (Int.ofNat.inj e)
     have hs:=dD (p:=p) hz
     have e3:=HI.out.2.2.1
     have e4:=HI.out.2.2.2
     rw [hs] at e3 e4
     have HQ:=Ha (Hb e3 e4);clear e3 e4 hs hz HI hmd
     gi_wp2
     refine ⟨H.out.from_,fun _=>H.out.kb,⟨⟨?_,?_⟩,H.out.below⟩⟩
     ·have:=H.out.b1
      rw [HX.out.1]
      have e:=HQ.out.2
      simp only at e ⊢
      rwa [e] at this
     ·have:=H.out.b2
      rw [HX.out.1]
      have e:=HQ.out.1
      simp only [Nat.mul_one] at e ⊢
      rwa [e] at this
 case done =>
  rintro D W hD ⟨⟨h1,h2⟩,hB⟩ hK
  obtain ⟨hu1,hu2⟩:=HU.out
  have H:=Ha (⟨h1,h2,HW.out.trans (hB.mono HW.out.size),hK⟩:DnAt w w1 (ad af m).1 (ad af m).2 D W)
  have H2:=Ha H.out.b1
  have HD:=Ha (Hb hD hB);clear hB hK hD h1 h2
  have hd1:=H.out.b1.cell
  have hd2:=H.out.b2.cell
  have HN:=Ha (H.out.next (Below.refl _ _).drew);clear H;have H:=HN;clear HN
  have hc1:=H.out.b1.cell
  have hc2:=H.out.b2.cell
  have hmx:Tryz.prog.follows .mixedOrders=true:=by kernel_rfl
  generalize hE1:(ad af m).1=u1 at *
  generalize hE2:(ad af m).2=u2 at *
  have HE:=Ha (Hb hE1 hE2);clear hE1 hE2
  gi_wp2
  refine wpIn_mono (Q:=Exit.then _ (fun _ _ _=>False)) ?_ (fun e a' w' h=>by cases e <;> first | exact h | exact h.elim)
  gi_region_with_o (first | (refine ⟨trivial,?_⟩;refine (callsIn_wide.2 (C1.out _ (by assumption) _ H.out.below)).mono ?_;rintro e w5 ⟨rfl,b⟩;have HN:=Ha (H.out.next b);clear H b;have H:=HN;clear HN;have hc1:=H.out.b1.cell;have hc2:=H.out.b2.cell))
  all_goals
   gi_wp2
   refine ⟨by simp,.inl ⟨_,_,rfl,run_takeDeferred H.out.mark,?_⟩⟩
   refine ⟨.tuple #[.string (sN u1),.string (sN u2)],?_,by rw [HE.out.1,HE.out.2],H.out.below.trans (belowK_b (w:=w) (Nat.le_refl _) _ D _ _ (by have:=HD.out.1;rw [HB.out.2.1] at this;have:=HW.out.size;omega) H.out.mark rfl rfl)⟩
   simp [results,Tryz.f59,go_sem]
 case stop =>
  rintro D pre r' W hD hx ⟨⟨h1,h2⟩,hB⟩ hK
  obtain ⟨hu1,hu2⟩:=HU.out
  have H:=Ha (⟨h1,h2,HW.out.trans (hB.mono HW.out.size),hK⟩:DnAt w w1 (ad af m).1 (ad af m).2 D W)
  have H2:=Ha H.out.b1
  have HD:=Ha (Hb hD hB);clear hB hK hD h1 h2
  have hd1:=H.out.b1.cell
  have hd2:=H.out.b2.cell
  have HN:=Ha (H.out.next (Below.refl _ _).drew);clear H;have H:=HN;clear HN
  have hc1:=H.out.b1.cell
  have hc2:=H.out.b2.cell
  have hmx:Tryz.prog.follows .mixedOrders=true:=by kernel_rfl
  generalize hE1:(ad af m).1=u1 at *
  generalize hE2:(ad af m).2=u2 at *
  have HE:=Ha (Hb hE1 hE2);clear hE1 hE2
  gi_wp2
  refine wpIn_mono (Q:=Exit.then _ (fun _ _ _=>False)) ?_ (fun e a' w' h=>by cases e <;> first | exact h | exact h.elim)
  gi_region_with_o (first | (refine ⟨trivial,?_⟩;refine (callsIn_wide.2 (C1.out _ (by assumption) _ H.out.below)).mono ?_;rintro e w5 ⟨rfl,b⟩;have HN:=Ha (H.out.next b);clear H b;have H:=HN;clear HN;have hc1:=H.out.b1.cell;have hc2:=H.out.b2.cell))
  all_goals
   gi_wp2
   refine ⟨by simp,.inl ⟨_,_,rfl,run_takeDeferred H.out.mark,?_⟩⟩
   refine ⟨.tuple #[.string (sN u1),.string (sN u2)],?_,by rw [HE.out.1,HE.out.2],H.out.below.trans (belowK_b (w:=w) (Nat.le_refl _) _ D _ _ (by have:=HD.out.1;rw [HB.out.2.1] at this;have:=HW.out.size;omega) H.out.mark rfl rfl)⟩
   simp [results,Tryz.f59,go_sem]
end
end T
namespace R
def B:Nat:=1000000
theorem dH:B=1000000:=rfl
theorem bP:0<B:=by decide
def toN:List Nat→Nat
 | []=>0
 | d::r=>d+B*toN r
def Dig (l:List Nat):Prop:=∀ x∈l,x<1000000
theorem Dig.nil:Dig []:=fun _ h=>by cases h
theorem Dig.cons {d:Nat} {l:List Nat} (h:d<1000000) (hl:Dig l):Dig (d::l):=fun x hx=>by
 rcases List.mem_cons.1 hx with rfl | hx
 ·exact h
 ·exact hl x hx
theorem Dig.head {d:Nat} {l:List Nat} (h:Dig (d::l)):d<1000000:=h d (by simp)
theorem Dig.tail {d:Nat} {l:List Nat} (h:Dig (d::l)):Dig l:=fun x hx=>h x (by simp [hx])
theorem Dig.take {l:List Nat} (h:Dig l) (k:Nat):Dig (l.take k):=fun x hx=>h x (List.mem_of_mem_take hx)
theorem Dig.drop {l:List Nat} (h:Dig l) (k:Nat):Dig (l.drop k):=fun x hx=>h x (List.mem_of_mem_drop hx)
theorem Dig.append {l m:List Nat} (h:Dig l) (h':Dig m):Dig (l++m):=fun x hx=>by
 rcases List.mem_append.1 hx with hx | hx
 ·exact h x hx
 ·exact h' x hx
theorem Dig.one {d:Nat} (h:d<1000000):Dig [d]:=Dig.cons h Dig.nil
theorem Dig.getD {l:List Nat} (h:Dig l) (i:Nat):l.getD i 0<1000000:=by
 by_cases hi:i<l.length
 ·rw [List.getD_eq_getElem?_getD,List.getElem?_eq_getElem hi];exact h _ (List.getElem_mem _)
 ·rw [List.getD_eq_getElem?_getD,List.getElem?_eq_none (by omega)];simp
theorem Dig.replicate (k:Nat):Dig (List.replicate k 0):=fun x hx=>by
 rw [(List.mem_replicate.1 hx).2];decide
theorem bJ (l m:List Nat):toN (l++m)=toN l+B ^ l.length*toN m:=by
 induction l with
 | nil=>simp [toN]
 | cons d r ih =>
  simp only [List.cons_append,toN,ih,List.length_cons,Nat.pow_succ]
  rw [Nat.mul_add,Nat.add_assoc,←Nat.mul_assoc,Nat.mul_comm B (B ^ r.length)]
theorem aQ (l:List Nat) (d:Nat):toN (l ++ [d])=toN l+B ^ l.length*d:=by
 rw [bJ];simp [toN]
theorem dw (k:Nat):toN (List.replicate k 0)=0:=by
 induction k with
 | zero=>rfl
 | succ k ih=>rw [List.replicate_succ];simp [toN,ih]
theorem cI {l:List Nat} (h:Dig l):toN l<B ^ l.length:=by
 induction l with
 | nil=>simp [toN]
 | cons d r ih =>
  have h1:=ih h.tail
  have h2:=h.head
  rw [toN,List.length_cons,Nat.pow_succ,Nat.mul_comm (B ^ r.length) B]
  have h3:B*toN r+B≤B*B ^ r.length:=by
   rw [←Nat.mul_succ];exact Nat.mul_le_mul_left B h1
  rw [dH] at *
  omega
theorem bf (l:List Nat) (k:Nat) (h:k<l.length):l.take (k+1)=l.take k ++ [l.getD k 0]:=by
 rw [List.take_succ_eq_append_getElem h,List.getD_eq_getElem?_getD,List.getElem?_eq_getElem h];rfl
theorem aB (l:List Nat) (k:Nat) (h:k<l.length):toN (l.take (k+1))=toN (l.take k)+B ^ k*l.getD k 0:=by
 rw [bf l k h,aQ,List.length_take,Nat.min_eq_left (by omega)]
def dg (n:Nat):List Nat:=if _h:n=0 then [] else n % B::dg (n / B)
termination_by n
decreasing_by exact Nat.div_lt_self (by omega) (by decide)
theorem av:dg 0 = []:=by rw [dg];rfl
theorem de {n:Nat} (h:n≠0):dg n=n % B::dg (n / B):=by rw [dg,dif_neg h]
theorem ar (n:Nat):toN (dg n)=n:=by
 induction n using Nat.strongRecOn with
 | _ n ih =>
  by_cases h:n=0
  ·subst h;rw [av];rfl
  ·rw [de h,toN,ih (n / B) (Nat.div_lt_self (by omega) (by decide))]
   exact Nat.mod_add_div n B
theorem aq (n:Nat):Dig (dg n):=by
 induction n using Nat.strongRecOn with
 | _ n ih =>
  by_cases h:n=0
  ·subst h;rw [av];exact Dig.nil
  ·rw [de h]
   exact Dig.cons (Nat.mod_lt _ (by decide)) (ih (n / B) (Nat.div_lt_self (by omega) (by decide)))
theorem dF {l:List Nat} (hne:l ≠ []) (hl:l.getLast? ≠ some 0):0<toN l:=by
 induction l with
 | nil=>exact absurd rfl hne
 | cons d r ih =>
  rw [toN]
  by_cases hr:r = []
  ·subst hr
   have:d≠0:=fun e=>hl (by rw [e];rfl)
   omega
  ·have h1:=ih hr (by rwa [List.getLast?_cons_of_ne_nil hr] at hl)
   have:=Nat.mul_pos bP h1
   omega
theorem m8 {l:List Nat} (h:Dig l) (hl:l.getLast? ≠ some 0):dg (toN l)=l:=by
 induction l with
 | nil=>exact av
 | cons d r ih =>
  have h0:=dF (l:=d::r) (by simp) hl
  have hd:d<B:=h.head
  rw [de (by omega)]
  simp only [toN]
  have e1:(d+B*toN r) % B=d:=by rw [Nat.add_mul_mod_self_left];exact Nat.mod_eq_of_lt hd
  have e2:(d+B*toN r) / B=toN r:=by
   rw [Nat.add_mul_div_left _ _ bP,Nat.div_eq_of_lt hd];omega
  rw [e1,e2]
  by_cases hr:r = []
  ·subst hr;rw [show toN []=0 from rfl,av]
  ·rw [ih h.tail (by rwa [List.getLast?_cons_of_ne_nil hr] at hl)]
theorem cU (n:Nat):dg n = []↔n=0:=by
 constructor
 ·intro h;have:=ar n;rw [h] at this;exact this.symm
 ·rintro rfl;exact av
theorem ak (n k : Nat) : (dg n).length ≤ k ↔ n < B ^ k := by
 constructor
 · intro h
   have h1 := cI (aq n)
   rw [ar] at h1
   exact Nat.lt_of_lt_of_le h1 (Nat.pow_le_pow_right bP h)
 · induction k generalizing n with
   | zero => intro h; have : n = 0 := by simpa using h
             subst this; rw [av]; exact Nat.le_refl _
   | succ k ih =>
     intro h
     by_cases h0 : n = 0
     · subst h0; rw [av]; simp
     · rw [de h0, List.length_cons]
       have := ih (n / B) (by rw [Nat.div_lt_iff_lt_mul bP]; rwa [Nat.pow_succ] at h)
       omega
theorem fK {l:List Nat} (h:Dig l) (k:Nat) (hk:k≤l.length) (hv:toN (l.take k)=toN l) (hl:k=0∨l.getD (k - 1) 0≠0):dg (toN l)=l.take k:=by
 rw [←hv]
 refine m8 (h.take k) ?_
 rcases hl with rfl | hl
 ·simp
 ·intro e
  by_cases h0:k=0
  ·subst h0;simp at e
  ·apply hl
   have h1:k - 1<l.length:=by omega
   have h2:=bf l (k - 1) h1
   rw [Nat.sub_add_cancel (by omega)] at h2
   rw [h2,List.getLast?_concat] at e
   exact Option.some.inj e
theorem gl {n:Nat} (h0:n≠0) (h:n<B):dg n = [n]:=by
 rw [de h0,Nat.mod_eq_of_lt h,Nat.div_eq_of_lt h,av]
end R
end Go.Proofs.YtjdomibbaemdnaaGreatDoor
