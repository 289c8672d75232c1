/- Parts of the proof of the text YtjdfjgfdbgmbiaaGreatDoorHB39. -/
import Derived.RegionIn
import Derived.Shelf.RegionOpen
import Derived.Sort.LoopGhostIn
import Derived.Deep.LoopGhost
import Derived.Test.YtjdfjgfdbgmbiaaGreatDoorHB1
import Derived.Test.YtjdfjgfdbgmbiaaGreatDoorHB18
import Derived.Test.YtjdfjgfdbgmbiaaGreatDoorHB22
import Derived.Test.YtjdfjgfdbgmbiaaGreatDoorHB23
import Derived.Test.YtjdfjgfdbgmbiaaGreatDoorHB26
import Derived.Test.YtjdfjgfdbgmbiaaGreatDoorHB27
set_option linter.all false
set_option maxRecDepth 100000
set_option maxHeartbeats 8000000
namespace Go.Proofs.YtjdfjgfdbgmbiaaGreatDoor.T
open Go.Proofs.YtjdfjgfdbgmbiaaGreatDoor Go Go.RowKit Go.Shelf
def sN (n:Nat):ByteArray:=strB (n:Int)
theorem n_divide (x y:Nat) (w:World) (hx:x<lim) (hy:y<lim) (h0:0<y) (ht:Tab w) :
  Calls Tryz.prog 258 #[.string (sN x),.string (sN y)] w fun e W'=>e = .returned (.tuple #[.string (sN (x / y)),.string (sN (x % y))])∧Below w.heap.size w W':=by
 have c:=odivide x y w (nat_short.2 hx) (nat_short.2 hy) (by omega) ht
 rwa [nat_fdiv,nat_fmod] at c
theorem n_times (x y:Nat) (w:World) (hx:x<lim) (hy:y<lim) (h:x*y<lim) (ht:Tab w) :
  Calls Tryz.prog 220 #[.string (sN x),.string (sN y)] w fun e W'=>e = .returned (.string (sN (x*y)))∧Below w.heap.size w W':=by
 have c:=otimes x y w (nat_short.2 hx) (nat_short.2 hy) (by rw [←Int.natCast_mul];exact nat_short.2 h) ht
 rwa [←Int.natCast_mul] at c
theorem n_is0 (a:Nat):((sN a).toList == [48])=decide (a=0):=by
 unfold sN
 rw [ByteArray.toList_eq,strB_data]
 by_cases h:a=0
 ·subst h;decide+kernel
 ·rw [decide_eq_false h,beq_eq_false_iff_ne];intro e
  have h2:Lib.itoa ((a:Nat):Int)=Lib.itoa 0:=e.trans (show [48]=Lib.itoa 0 by decide+kernel)
  exact h (Int.ofNat.inj (itoa_inj h2))
theorem strips_snoc:∀ (l:List Nat) (p n:Nat),strips (l ++ [p]) n=((strips l n).1*(strip p (strips l n).2).1,(strip p (strips l n).2).2)
 | [],p,n=>by simp [strips]
 | q::l,p,n=>by
  show ((strip q n).1*(strips (l ++ [p]) (strip q n).2).1,(strips (l ++ [p]) (strip q n).2).2)=_
  rw [strips_snoc l p]
  simp only [strips,Nat.mul_assoc]
theorem lim_99:9409<lim:=by
 have:=small_lim (z:=9409) (by decide)
 exact this
theorem sub_pr {pre r:List Nat} {x:Nat} (h:primes=pre++x::r):(∀ p∈pre,2≤p)∧x∈primes:=by
 refine ⟨fun p hp=>(pr_small (x:=p) (by rw [h];simp [hp])).1,by rw [h];simp⟩
structure LgAt (w:World) (base:Nat) (c x:Nat) (W0 W:World):Prop where
 b1:Boxed W w.heap.size 9 (.string (sN x))
 b2:Boxed W (w.heap.size+1) 9 (.string (sN c))
 below:Below w.heap.size w W
 from_:KeepsFrom base W0 W
 kb:Kb base W0 W
theorem LgAt.next {w:World} {base c x:Nat} {W0 W W':World} (h:LgAt w base c x W0 W) (b:Below W.heap.size W W'):LgAt w base c x W0 W' :=
 ⟨h.b1.kept (grownB b) (by simp),h.b2.kept (grownB b) (by simp),h.below.trans (b.mono h.below.size),h.from_.trans (KeepsFrom.of_grownBy (grownB b) (fun j e=>by cases e)),h.kb.trans (Kb.of_below b)⟩
theorem LgAt.put {w:World} {base c x:Nat} {W0 W:World} (h:LgAt w base c x W0 W) (hb:w.heap.size+1<base) (c' x':Nat) :
  LgAt w base c' x' W0 ((W.setCell ⟨w.heap.size+1,0,none⟩ (.string (sN c'))).setCell ⟨w.heap.size,0,none⟩ (.string (sN x'))) :=
 ⟨(h.b1.other (by omega) _).set _,(h.b2.set _).other (by omega) _,(h.below.setCell (p:=⟨w.heap.size+1,0,none⟩) (by show w.heap.size≤w.heap.size+1;omega) _).setCell (p:=⟨w.heap.size,0,none⟩) (Nat.le_refl _) _,
  h.from_.trans (((KeepsOthers.setCell _ _ _).from _).trans ((KeepsOthers.setCell _ _ _).from _)),h.kb.trans ((Kb.cell_below (p:=⟨w.heap.size+1,0,none⟩) hb _).trans (Kb.cell_below (p:=⟨w.heap.size,0,none⟩) (by show w.heap.size<base;omega) _))⟩
section
attribute [local go_sem] Oper.semAt_some
theorem long_any (m:Nat) (w:World) (h0:0<m) (hm:m<lim) (ht:Tab w) (hS:Sm w) :
  Calls Tryz.prog 247 #[.string (sN m)] w fun e W'=>e = .returned (.tuple #[.string (sN (strips primes m).1),.string (sN (strips primes m).2)])∧Below w.heap.size w W':=by
 refine (callsIn_wide (n:=9)).1 ?_
 have C1:Hid (∀ u,u<9410→∀ W,Below w.heap.size w W→Calls Tryz.prog 250 #[.int .u64 (u:Nat),.int .i64 10] W fun e W'=>e = .returned (.string (sN u))∧Below W.heap.size W W') :=
  Lib.hid (fun u hu W hW=>fmt_u u (by omega) W (ht.next hW))
 have C2:Hid (∀ x y,x<lim→y<lim→0<y→∀ W,Below w.heap.size w W→Calls Tryz.prog 258 #[.string (sN x),.string (sN y)] W fun e W'=>e = .returned (.tuple #[.string (sN (x / y)),.string (sN (x % y))])∧Below W.heap.size W W') :=
  Lib.hid (fun x y hx hy h W hW=>n_divide x y W hx hy h (ht.next hW))
 have C3:Hid (∀ x y,x<lim→y<lim→x*y<lim→∀ W,Below w.heap.size w W→Calls Tryz.prog 220 #[.string (sN x),.string (sN y)] W fun e W'=>e = .returned (.string (sN (x*y)))∧Below W.heap.size W W') :=
  Lib.hid (fun x y hx hy h W hW=>n_times x y W hx hy h (ht.next hW))
 have HM:=Lib.hid (And.intro h0 (And.intro hm hS));clear h0 hm hS ht
 refine callsIn_of_wp_marks Tryz.func247 rfl trivial ?_ rfl
 simp only [Tryz.ntmps247,List.size_toArray,List.length_cons,List.length_nil,Nat.reduceAdd,Nat.reduceSub,Array.replicate_succ,Array.replicate_zero,List.push_toArray,List.append_toArray,List.nil_append,List.cons_append]
 gi_wp2
 have b0:=(Boxed.new w 9 (.string (sN m))).alloc (.cells #[.string ⟨#[49]⟩] 9)
 have b1:=Boxed.new (w.alloc (.cells #[.string (sN m)] 9)) 9 (.string ⟨#[49]⟩)
 simp only [World.size_alloc] at b0 b1
 have hB0:Below w.heap.size w ((w.alloc (.cells #[.string (sN m)] 9)).alloc (.cells #[.string ⟨#[49]⟩] 9)):=((Below.refl _ w).alloc (Nat.le_refl _) _).alloc (by simp) _
 have hsz:((w.alloc (.cells #[.string (sN m)] 9)).alloc (.cells #[.string ⟨#[49]⟩] 9)).heap.size=w.heap.size+1+1:=by simp
 generalize (w.alloc (.cells #[.string (sN m)] 9)).alloc (.cells #[.string ⟨#[49]⟩] 9)=W2 at *
 have HB:=Lib.hid (And.intro hB0 (And.intro hsz (And.intro b0 b1)));clear b0 b1 hB0 hsz
 have e1:(⟨#[49]⟩:ByteArray)=sN (strips [] m).1:=(str_of 1 [49] itoa_one).symm
 refine range_mv rfl (by omega) (gf:=249) (fs := #[]) rfl trivial (enters_of Tryz.func249 (by kernel_rfl) rfl)
  (primes_hands (9 - 1) W2 (by omega) (HM.out.2.2.next HB.out.1)) (fun _=>rfl) .ret (.inl rfl)
  (fun pre W=>(Boxed W w.heap.size 9 (.string (sN (strips pre m).2))∧Boxed W (w.heap.size+1) 9 (.string (sN (strips pre m).1)))∧Below w.heap.size w W)
  (fun _ _=>False)
  (OwnFrom.and (OwnFrom.and (Own.from (boxed_own _ _ (fun pre => .string (sN (strips pre m).2))) _) (Own.from (boxed_own _ _ (fun pre => .string (sN (strips pre m).1))) _)) (ownFrom_below (Nat.le_refl _) (by rw [HB.out.2.1];omega)))
  (fun _ _ _ _ h _ _=>h)
  (fun s A h=>⟨h.1,h.2.drew⟩)
  ⟨⟨HB.out.2.2.1,by have:=HB.out.2.2.2;rwa [e1] at this⟩,HB.out.1⟩
  (fun p=>{ tmps := #[.string (sN m),.pointer (some ⟨w.heap.size,0,none⟩),.string ⟨#[]⟩,.string ⟨#[]⟩,.pointer (some ⟨w.heap.size+1,0,none⟩),.int .u64 (p:Int),.int .u64 ((p:Int)*(p:Int)),undef,undef,undef,undef,.int .u64 (p:Int),.int .u64 ((p:Int)*(p:Int)),undef,undef,undef,undef,undef,undef,undef,undef,undef,undef,undef,undef,undef,undef,undef,undef,undef,undef,undef,undef,undef,undef,undef,undef],defers := [] }) ?assign ?body ?done ?stop
 case assign =>
  intro l x W K hK
  gi_wp2
  exact hK
 case body =>
  rintro l pre p r' W hle hx ⟨⟨h1,h2⟩,hB⟩
  obtain ⟨hpre,hmem⟩:=sub_pr hx
  have hp:=pr_small hmem
  have hpp:=sq_small hmem
  obtain ⟨a1,a2,a3,a4,_⟩:=strips_spec pre hpre HM.out.1
  have hsn:=strips_snoc pre p m
  have H:=Lib.hid (⟨h1,h2,hB,KeepsFrom.refl _ _,Kb.refl _ _⟩:LgAt w W2.heap.size (strips pre m).1 (strips pre m).2 W W)
  have HX:=Lib.hid (And.intro hsn (And.intro a1 (And.intro a2 (And.intro a3 (And.intro hp (And.intro hpp hle))))));clear hsn a1 a2 a3 a4 hp hpp hle hx hpre hmem h1 h2 hB
  generalize (strips pre m).1=c0 at *
  generalize (strips pre m).2=x0 at *
  have f1:=Lib.hid (C1.out p (by have:=HX.out.2.2.2.2.1;omega))
  have f2:=Lib.hid (C1.out (p*p) (by have:=HX.out.2.2.2.2.2.1;omega))
  rw [Int.natCast_mul] at f2
  have hpos:0<p*p:=Nat.mul_pos (by have:=HX.out.2.2.2.2.1;omega) (by have:=HX.out.2.2.2.2.1;omega)
  have hxl:x0<lim:=Nat.lt_of_le_of_lt (by rw [HX.out.2.1];exact Nat.le_mul_of_pos_left _ (Nat.mul_pos HX.out.2.2.1 HX.out.2.2.1)) HM.out.2.1
  have hpl:p*p<lim:=Nat.lt_of_le_of_lt HX.out.2.2.2.2.2.1 lim_99
  have HP:=Lib.hid (And.intro hpos (And.intro hxl hpl));clear hpos hxl hpl
  gi_wp2_with fail
  refine ⟨trivial,?_⟩
  refine (CallsIn.inRound l (callsIn_wide.2 (f1.out _ H.out.below))).mono ?_
  rintro e w1 ⟨rfl,b⟩
  have HN:=Lib.hid (H.out.next b);clear H b;have H:=HN;clear HN
  gi_wp2_with fail
  refine ⟨trivial,?_⟩
  refine (CallsIn.inRound l (callsIn_wide.2 (f2.out _ H.out.below))).mono ?_
  rintro e w2 ⟨rfl,b⟩
  have HN:=Lib.hid (H.out.next b);clear H b;have H:=HN;clear HN
  have hc1:=H.out.b1.cell
  have g1:=Lib.hid (C2.out x0 (p*p) HP.out.2.1 HP.out.2.2 HP.out.1)
  gi_wp2_with fail
  refine ⟨trivial,?_⟩
  refine (CallsIn.inRound l (callsIn_wide.2 (g1.out _ H.out.below))).mono ?_
  rintro e w3 ⟨rfl,b⟩
  have HN:=Lib.hid (H.out.next b);clear H b;have H:=HN;clear HN
  clear hc1
  gi_wp2
  gi_loopg [9,10] x0 (fun g s9 s10 wx=>s9 = .string (sN (g / (p*p)))∧s10 = .string (sN (g % (p*p)))∧Hid (∃ c,c*c*g=m∧0<g∧c*(strip p g).1=c0*(strip p x0).1∧(strip p g).2=(strip p x0).2∧LgAt w W2.heap.size c g W wx))
  case atStart=>exact ⟨rfl,rfl,Lib.hid ⟨c0,HX.out.2.1.symm,HX.out.2.2.2.1,rfl,rfl,H.out⟩⟩
  case round =>
   clear H
   obtain ⟨rfl,rfl,hh⟩:=hrel
   obtain ⟨c,i1,i2,i3,i4,i5⟩:=hh.out
   have H:=Lib.hid i5
   have HI:=Lib.hid (And.intro i1 (And.intro i2 (And.intro i3 i4)));clear i1 i2 i3 i4 i5 hh
   have z1:=n_is0 (gk % (p*p))
   by_cases hz:gk % (p*p)=0
   ·rw [decide_eq_true hz] at z1
    have hs:=strip_yes (p:=p) HX.out.2.2.2.2.1.1 HI.out.2.1 hz
    have hdm:gk=p*p*(gk / (p*p)):=by have:=Nat.div_add_mod gk (p*p);omega
    have hg2:0<gk / (p*p):=Nat.pos_of_ne_zero fun e=>by rw [e,Nat.mul_zero] at hdm;have:=HI.out.2.1;omega
    have hlt:gk / (p*p)<gk:=Nat.div_lt_self HI.out.2.1 (pp_pos HX.out.2.2.2.2.1.1)
    have hcm:c*p*(c*p)*(gk / (p*p))=m:=by rw [Nat.mul_mul_mul_comm,Nat.mul_assoc (c*c),←hdm];exact HI.out.1
    have h3:c*p*(strip p (gk / (p*p))).1=c0*(strip p x0).1:=by rw [←HI.out.2.2.1,hs,Nat.mul_assoc]
    have h4:(strip p (gk / (p*p))).2=(strip p x0).2:=by rw [←HI.out.2.2.2,hs]
    have hcp:0<c*p:=Nat.pos_of_ne_zero fun e=>by rw [e] at hcm;simp at hcm;have:=HM.out.1;omega
    have hcl:c*p<lim:=Nat.lt_of_le_of_lt (by rw [←hcm,Nat.mul_assoc];exact Nat.le_mul_of_pos_right _ (Nat.mul_pos hcp hg2)) HM.out.2.1
    have hc2:c<lim:=Nat.lt_of_le_of_lt (Nat.le_mul_of_pos_right _ (by have:=HX.out.2.2.2.2.1;omega)) hcl
    have hgl:gk / (p*p)<lim:=Nat.lt_of_le_of_lt (by rw [←hcm];exact Nat.le_mul_of_pos_left _ (Nat.mul_pos hcp hcp)) HM.out.2.1
    have t1:=Lib.hid (C3.out c p hc2 (by have:=HX.out.2.2.2.2.1;have:=lim_99;omega) hcl)
    have d1:=Lib.hid (C2.out (gk / (p*p)) (p*p) hgl HP.out.2.2 HP.out.1)
    have HQ:=Lib.hid (And.intro hlt (And.intro hcm (And.intro hg2 (And.intro h3 h4))));clear hs hdm hg2 hlt hcm h3 h4 hcp hcl hc2 hgl hz HI
    generalize gk / (p*p)=g2 at *
    have hc1:=H.out.b1.cell
    have hc2:=H.out.b2.cell
    gi_wp2_with fail
    refine ⟨trivial,?_⟩
    refine (CallsIn.inRound l (callsIn_wide.2 (t1.out _ H.out.below))).mono ?_
    rintro e w5 ⟨rfl,b⟩
    have HN:=Lib.hid (H.out.next b);clear H b hc1 hc2;have H:=HN;clear HN
    have hc1:=H.out.b1.cell
    have hc2:=H.out.b2.cell
    have hf1:=H.out.b1.frozen
    have hf2:=H.out.b2.frozen
    have HN:=Lib.hid (H.out.put (by rw [HB.out.2.1];omega) (c*p) g2)
    have hd1:=HN.out.b1.cell
    gi_wp2_with fail
    refine ⟨trivial,?_⟩
    refine (CallsIn.inRound l (callsIn_wide.2 (d1.out _ HN.out.below))).mono ?_
    rintro e w6 ⟨rfl,b⟩
    have HO:=Lib.hid (HN.out.next b);clear HN b hc1 hc2 hf1 hf2 hd1 H
    gi_wp2
    gi_roundg g2
    case rel=>exact ⟨rfl,rfl,Lib.hid ⟨c*p,HQ.out.2.1,HQ.out.2.2.1,HQ.out.2.2.2.1,HQ.out.2.2.2.2,HO.out⟩⟩
    case measure=>exact HQ.out.1
   ·rw [decide_eq_false hz] at z1
    have hs:=strip_no (p:=p) hz
    have e3:=HI.out.2.2.1
    have e4:=HI.out.2.2.2
    rw [hs] at e3 e4
    have HQ:=Lib.hid (And.intro e3 e4);clear e3 e4 hs hz HI
    gi_wp2
    refine ⟨H.out.from_,fun _=>H.out.kb,⟨⟨?_,?_⟩,H.out.below⟩⟩
    ·have:=H.out.b1
     rw [HX.out.1]
     have e:=HQ.out.2
     simp only at e ⊢
     rwa [e] at this
    ·have:=H.out.b2
     rw [HX.out.1]
     have e:=HQ.out.1
     simp only [Nat.mul_one] at e ⊢
     rwa [e] at this
 case done =>
  rintro D W hD ⟨⟨h1,h2⟩,hB⟩ hK
  have hc1:=h1.cell
  have hc2:=h2.cell
  have d1:=(show World.cell? W.drew ⟨w.heap.size,0,none⟩=_ from hc1)
  have d2:=(show World.cell? W.drew ⟨w.heap.size+1,0,none⟩=_ from hc2)
  have HH:=Lib.hid (And.intro hB (And.intro hK hD));clear hB hK hD h1 h2
  have hmx:Tryz.prog.follows .mixedOrders=true:=by kernel_rfl
  gi_wp2
  refine wpIn_mono (Q:=Exit.then _ (fun _ _ _=>False)) ?_ (fun e a' w' h=>by cases e <;> first | exact h | exact h.elim)
  gi_region_with_o (fail)
  all_goals
   gi_wp2
   have hKd:W.drew.heap[D]? = some (.deferred (some [])):=HH.out.2.1
   refine ⟨by simp,.inl ⟨_,_,rfl,run_takeDeferred hKd,?_⟩⟩
   refine ⟨.tuple #[.string (sN (strips primes m).1),.string (sN (strips primes m).2)],?_,rfl,HH.out.1.drew.trans (belowK_b (w:=w) (Nat.le_refl _) W.drew D _ _ (by have:=HH.out.2.2;rw [HB.out.2.1] at this;omega) hKd rfl rfl)⟩
   simp [results,Tryz.f247,go_sem]
 case stop =>
  rintro D pre r' W hD hx h hK
  exact h.elim
end
end Go.Proofs.YtjdfjgfdbgmbiaaGreatDoor.T
namespace Go.Proofs.YtjdfjgfdbgmbiaaGreatDoor.T
open Go.Proofs.YtjdfjgfdbgmbiaaGreatDoor Go Go.RowKit Go.Shelf
theorem uponIn_round (F:Fence) (n:Nat) (P:Program) (l:Nat) {o:Oper} {a:Act} {K:Act→World→Prop} {Q:Exit→Act→World→Prop} {r:Result Next} (h:o.uponIn F n P a K Q r):o.uponIn (F.inRound l) n P a K Q r:=by
 cases r with
 | ok x w'=>cases x <;> exact h
 | halt x w'=>cases x <;> exact h
theorem any_round (F:Fence) (n:Nat) (P:Program) (l:Nat) {md:Region.Mode} {ops:Array Oper} {Q:Exit→Act→World→Prop} (hd:∀ o∈ops.toList,∀ c,o.op ≠ .defer c) :
  ∀ (fuel:Nat) (listed:Array Bool) (a:Act) (w:World),wpAnyIn F n P md ops Q fuel listed a w→wpAnyIn (F.inRound l) n P md ops Q fuel listed a w
 | 0,_,_,_,h=>h
 | fuel+1,listed,a,w,h=>by
  refine ⟨h.1,fun i hi => ?_⟩
  have h2:=h.2 i hi
  unfold wpOpIn at h2 ⊢
  cases ho:ops[i]? with
  | none=>simp only [ho] at h2 ⊢; exact any_round F n P l hd fuel _ _ _ h2
  | some o =>
   simp only [ho] at h2 ⊢
   have hno:∀ c,o.op ≠ .defer c:=hd o (by have:=Array.mem_of_getElem? ho;simpa using this)
   split
   ·rename_i hw
    rw [if_pos hw] at h2
    refine Oper.wpIn_mono (fun a w k=>any_round F n P l hd fuel _ a w k) ?_
    refine ⟨h2.1,?_⟩
    have h3:=h2.2
    rw [Oper.semAt_plain F _ _ hno] at h3
    rw [Oper.semAt_plain (F.inRound l) _ _ hno]
    exact uponIn_round F n P l h3
   ·rename_i hw
    rw [if_neg hw] at h2
    exact ⟨h2.1,any_round F n P l hd fuel _ _ _ h2.2⟩
theorem strips_app:∀ (l r:List Nat) (n:Nat),strips (l++r) n=((strips l n).1*(strips r (strips l n).2).1,(strips r (strips l n).2).2)
 | [],r,n=>by simp [strips]
 | q::l,r,n=>by
  show ((strip q n).1*(strips (l++r) (strip q n).2).1,(strips (l++r) (strip q n).2).2)=_
  rw [strips_app l r]
  simp only [strips,Nat.mul_assoc]
theorem pr_asc {pre r:List Nat} {x:Nat} (h:primes=pre++x::r):∀ q∈x::r,x≤q:=by
 have s:List.Pairwise (· ≤ ·) primes:=by decide
 rw [h] at s
 have t:=(List.pairwise_append.1 s).2.1
 intro q hq
 rcases List.mem_cons.1 hq with rfl | hq
 ·exact Nat.le_refl _
 ·exact (List.pairwise_cons.1 t).1 q hq
theorem break_at {pre r:List Nat} {x m:Nat} (h:primes=pre++x::r) (h0:0<(strips pre m).2) (hv:(strips pre m).2<x*x):strips primes m=strips pre m:=by
 rw [h,strips_app,strips_small h0 (x::r) (fun q hq=>Nat.lt_of_lt_of_le hv (Nat.mul_le_mul (pr_asc h q hq) (pr_asc h q hq)))]
 simp
structure ShAt (w:World) (base:Nat) (c x:Nat) (W0 W:World):Prop where
 b1:Boxed W w.heap.size 179 (.int .u64 (x:Int))
 b2:Boxed W (w.heap.size+1) 179 (.int .u64 (c:Int))
 below:Below w.heap.size w W
 from_:KeepsFrom base W0 W
 kb:Kb base W0 W
theorem ShAt.drew {w:World} {base c x:Nat} {W0 W:World} (h:ShAt w base c x W0 W):ShAt w base c x W0 W.drew :=
 ⟨h.b1,h.b2,h.below.drew,h.from_.trans ((KeepsOthers.drew W).from _),h.kb.trans (Kb.of_below (Below.refl _ _).drew)⟩
theorem ShAt.put {w:World} {base c x:Nat} {W0 W:World} (h:ShAt w base c x W0 W) (hb:w.heap.size+1<base) (c' x':Nat) {z z':Int} (hz:z=(c':Int)) (hz':z'=(x':Int)) :
  ShAt w base c' x' W0 ((W.setCell ⟨w.heap.size+1,0,none⟩ (.int .u64 z)).setCell ⟨w.heap.size,0,none⟩ (.int .u64 z')):=by
 subst hz hz'
 exact ⟨(h.b1.other (by omega) _).set _,(h.b2.set _).other (by omega) _,(h.below.setCell (p:=⟨w.heap.size+1,0,none⟩) (by show w.heap.size≤w.heap.size+1;omega) _).setCell (p:=⟨w.heap.size,0,none⟩) (Nat.le_refl _) _,
  h.from_.trans (((KeepsOthers.setCell _ _ _).from _).trans ((KeepsOthers.setCell _ _ _).from _)),h.kb.trans ((Kb.cell_below (p:=⟨w.heap.size+1,0,none⟩) hb _).trans (Kb.cell_below (p:=⟨w.heap.size,0,none⟩) (by show w.heap.size<base;omega) _))⟩
structure DnAt (w w1:World) (c x D:Nat) (W:World):Prop where
 b1:Boxed W w1.heap.size 179 (.int .u64 (x:Int))
 b2:Boxed W (w1.heap.size+1) 179 (.int .u64 (c:Int))
 below:Below w.heap.size w W
 mark:W.heap[D]? = some (.deferred (some []))
theorem DnAt.next {w w1:World} {c x D:Nat} {W W':World} (h:DnAt w w1 c x D W) (b:Below W.heap.size W W'):DnAt w w1 c x D W' :=
 ⟨h.b1.kept (grownB b) (by simp),h.b2.kept (grownB b) (by simp),h.below.trans (b.mono h.below.size),(b.block D (Array.getElem?_eq_some_iff.1 h.mark).1).trans h.mark⟩
section
attribute [local go_sem] Oper.semAt_some
theorem short_any (m:Nat) (w:World) (h0:0<m) (hm:m<1000000000000000000) (hs:(sN m).size≤18) (ht:Tab w) (hS:Sm w) :
  Calls Tryz.prog 219 #[.string (sN m)] w fun e W'=>e = .returned (.tuple #[.string (sN (strips primes m).1),.string (sN (strips primes m).2)])∧Below w.heap.size w W':=by
 refine (callsIn_wide (n:=9)).1 ?_
 have C1:Hid (∀ u,u<1000000000000000000→∀ W,Below w.heap.size w W→Calls Tryz.prog 250 #[.int .u64 (u:Nat),.int .i64 10] W fun e W'=>e = .returned (.string (sN u))∧Below W.heap.size W W') :=
  Lib.hid (fun u hu W hW=>fmt_u u (by omega) W (ht.next hW))
 have C2:Hid (∀ W,Calls Tryz.prog 248 #[.string (sN m),.int .i64 10,.int .i64 64] W fun e W'=>e = .returned (.tuple #[.int .u64 m,.nilIface])∧Below W.heap.size W W'):=Lib.hid (fun W=>parse_u m W (by omega))
 have HM:=Lib.hid (And.intro h0 (And.intro hm hS));clear h0 hm hS ht
 have HU:Hid ((strips primes m).1<1000000000000000000∧(strips primes m).2<1000000000000000000):=Lib.hid (by
  obtain ⟨q1,q2,q3,_⟩:=strips_spec primes primes_2 HM.out.1
  have hl:=HM.out.2.1
  generalize (strips primes m).1=a at *
  generalize (strips primes m).2=b at *
  have h1:a≤m:=by rw [q1,Nat.mul_assoc];exact Nat.le_mul_of_pos_right _ (Nat.mul_pos q2 q3)
  have h2:b≤m:=by rw [q1];exact Nat.le_mul_of_pos_left _ (Nat.mul_pos q2 q2)
  omega)
 have hs1:¬ (18:Int)<(sN m).size:=by omega
 refine callsIn_of_wp_marks Tryz.func219 rfl trivial ?_ rfl
 simp only [Tryz.ntmps219,List.size_toArray,List.length_cons,List.length_nil,Nat.reduceAdd,Nat.reduceSub,Array.replicate_succ,Array.replicate_zero,List.push_toArray,List.append_toArray,List.nil_append,List.cons_append]
 gi_wp2_with fail
 refine ⟨trivial,?_⟩
 refine (callsIn_wide.2 (C2.out _)).mono ?_
 rintro e w1 ⟨rfl,bw⟩
 have HW:=Lib.hid bw;clear bw
 gi_wp2
 have b0:=(Boxed.new w1 179 (.int .u64 (m:Int))).alloc (.cells #[.int .u64 1] 179)
 have b1:=Boxed.new (w1.alloc (.cells #[.int .u64 (m:Int)] 179)) 179 (.int .u64 1)
 simp only [World.size_alloc] at b0 b1
 have hB0:Below w1.heap.size w1 ((w1.alloc (.cells #[.int .u64 (m:Int)] 179)).alloc (.cells #[.int .u64 1] 179)):=((Below.refl _ w1).alloc (Nat.le_refl _) _).alloc (by simp) _
 have hsz:((w1.alloc (.cells #[.int .u64 (m:Int)] 179)).alloc (.cells #[.int .u64 1] 179)).heap.size=w1.heap.size+1+1:=by simp
 generalize (w1.alloc (.cells #[.int .u64 (m:Int)] 179)).alloc (.cells #[.int .u64 1] 179)=W2 at *
 have HB:=Lib.hid (And.intro hB0 (And.intro hsz (And.intro b0 b1)));clear b0 b1 hB0 hsz
 refine range_mv rfl (by omega) (gf:=249) (fs := #[]) rfl trivial (enters_of Tryz.func249 (by kernel_rfl) rfl)
  (primes_hands (9 - 1) W2 (by omega) ((HM.out.2.2.next HW.out).next HB.out.1)) (fun _=>rfl) (.exit 0) (.inr ⟨0,rfl⟩)
  (fun pre W=>(Boxed W w1.heap.size 179 (.int .u64 ((strips pre m).2:Nat))∧Boxed W (w1.heap.size+1) 179 (.int .u64 ((strips pre m).1:Nat)))∧Below w1.heap.size w1 W)
  (fun _ W=>(Boxed W w1.heap.size 179 (.int .u64 ((strips primes m).2:Nat))∧Boxed W (w1.heap.size+1) 179 (.int .u64 ((strips primes m).1:Nat)))∧Below w1.heap.size w1 W)
  (OwnFrom.and (OwnFrom.and (Own.from (boxed_own _ _ (fun pre => .int .u64 ((strips pre m).2:Nat))) _) (Own.from (boxed_own _ _ (fun pre => .int .u64 ((strips pre m).1:Nat))) _)) (ownFrom_below (Nat.le_refl _) (by rw [HB.out.2.1];omega)))
  (OwnFrom.and (OwnFrom.and (Own.from (boxed_own _ _ (fun _ => .int .u64 ((strips primes m).2:Nat))) _) (Own.from (boxed_own _ _ (fun _ => .int .u64 ((strips primes m).1:Nat))) _)) (ownFrom_below (Nat.le_refl _) (by rw [HB.out.2.1];omega)))
  (fun s A h=>⟨h.1,h.2.drew⟩)
  ⟨⟨HB.out.2.2.1,HB.out.2.2.2⟩,HB.out.1⟩
  (fun p=>{ tmps := #[.string (sN m),undef,.string ⟨#[]⟩,.string ⟨#[]⟩,.pointer (some ⟨w1.heap.size,0,none⟩),.nilIface,.pointer (some ⟨w1.heap.size+1,0,none⟩),.int .u64 (p:Int),.int .u64 ((p:Int)*(p:Int)),.string (sN m),.int .i64 (sN m).size,.bool false,undef,undef,undef,undef,.tuple #[.int .u64 (m:Int),.nilIface],.string (sN m),.tuple #[.int .u64 (m:Int),.nilIface],.int .u64 (m:Int),.nilIface,.int .u64 (p:Int),.int .u64 ((p:Int)*(p:Int)),undef,undef,undef,undef,undef,undef,undef,undef,undef,undef,undef,undef,undef,undef,undef,undef,undef],defers := [] }) ?assign ?body ?done ?stop
 case assign =>
  intro l x W K hK
  gi_wp2
  exact hK
 case body =>
  rintro l pre p r' W hle hx ⟨⟨h1,h2⟩,hB⟩
  obtain ⟨hpre,hmem⟩:=sub_pr hx
  have hp:=pr_small hmem
  have hpp:=sq_small hmem
  obtain ⟨a1,a2,a3,a4,_⟩:=strips_spec pre hpre HM.out.1
  have hsn:=strips_snoc pre p m
  have hbr:=fun h=>break_at (m:=m) hx a3 h
  have H:=Lib.hid (⟨h1,h2,hB,KeepsFrom.refl _ _,Kb.refl _ _⟩:ShAt w1 W2.heap.size (strips pre m).1 (strips pre m).2 W W)
  have HX:=Lib.hid (And.intro hsn (And.intro a1 (And.intro a2 (And.intro a3 (And.intro hp (And.intro hpp hbr))))));clear hsn a1 a2 a3 a4 hp hpp hle hx hpre hmem h1 h2 hB hbr
  generalize hst:strips pre m=st at *
  obtain ⟨c0,x0⟩:=st
  clear hst
  dsimp only at HX H
  have hzz:0<(p:Int)*(p:Int):=by
   have:=HX.out.2.2.2.2.1
   exact Int.mul_pos (by omega) (by omega)
  have hz0:¬ (p:Int)*(p:Int)=0:=by omega
  have hc1:=H.out.b1.cell
  by_cases hbk:x0<p*p
  ·have hbk':(x0:Int)<(p:Int)*(p:Int):=by rw [←Int.natCast_mul];omega
   have E:=Lib.hid (HX.out.2.2.2.2.2.2 hbk)
   clear hbk
   gi_wp2
   refine ⟨H.out.from_,rfl,⟨?_,?_⟩,H.out.below⟩
   ·rw [E.out];exact H.out.b1
   ·rw [E.out];exact H.out.b2
  ·have hbk':¬ (x0:Int)<(p:Int)*(p:Int):=by rw [←Int.natCast_mul];omega
   clear hbk
   gi_wp2
   clear hc1 hbk'
   gi_loopg [] x0 (fun g wx=>Hid (∃ c,c*c*g=m∧0<g∧c*(strip p g).1=c0*(strip p x0).1∧(strip p g).2=(strip p x0).2∧ShAt w1 W2.heap.size c g W wx))
   case atStart=>exact Lib.hid ⟨c0,HX.out.2.1.symm,HX.out.2.2.2.1,rfl,rfl,H.out⟩
   case round =>
    clear H
    obtain ⟨c,i1,i2,i3,i4,i5⟩:=hrel.out
    have H:=Lib.hid i5
    have HI:=Lib.hid (And.intro i1 (And.intro i2 (And.intro i3 i4)));clear i1 i2 i3 i4 i5 hrel
    have hc1:=H.out.b1.cell
    have hmd:(gk:Int) % ((p:Int)*(p:Int))=((gk % (p*p):Nat):Int):=by rw [←Int.natCast_mul,←Int.natCast_emod]
    by_cases hz:gk % (p*p)=0
    ·have hq:((gk:Int) % ((p:Int)*(p:Int))==0)=true:=by rw [hmd,hz];rfl
     have hs:=strip_yes (p:=p) HX.out.2.2.2.2.1.1 HI.out.2.1 hz
     have hdm:gk=p*p*(gk / (p*p)):=by have:=Nat.div_add_mod gk (p*p);omega
     have hg2:0<gk / (p*p):=Nat.pos_of_ne_zero fun e=>by rw [e,Nat.mul_zero] at hdm;have:=HI.out.2.1;omega
     have hlt:gk / (p*p)<gk:=Nat.div_lt_self HI.out.2.1 (pp_pos HX.out.2.2.2.2.1.1)
     have hcm:c*p*(c*p)*(gk / (p*p))=m:=by rw [Nat.mul_mul_mul_comm,Nat.mul_assoc (c*c),←hdm];exact HI.out.1
     have h3:c*p*(strip p (gk / (p*p))).1=c0*(strip p x0).1:=by rw [←HI.out.2.2.1,hs,Nat.mul_assoc]
     have h4:(strip p (gk / (p*p))).2=(strip p x0).2:=by rw [←HI.out.2.2.2,hs]
     have hcp:0<c*p:=Nat.pos_of_ne_zero fun e=>by rw [e] at hcm;simp at hcm;have:=HM.out.1;omega
     have hcl:c*p<1000000000000000000:=Nat.lt_of_le_of_lt (by rw [←hcm,Nat.mul_assoc];exact Nat.le_mul_of_pos_right _ (Nat.mul_pos hcp hg2)) HM.out.2.1
     have hwr:IntKind.u64.wrap ((c:Int)*(p:Int))=(c:Int)*(p:Int):=by
      rw [IntKind.wrap_u64]
      have h2:((c*p:Nat):Int)=(c:Int)*(p:Int):=Int.natCast_mul c p
      omega
     have hd1:IntKind.u64.wrap ((gk:Int) / ((p:Int)*(p:Int)))=((gk / (p*p):Nat):Int):=by
      have hg9:gk / (p*p)<1000000000000000000:=Nat.lt_of_le_of_lt (by rw [←hcm];exact Nat.le_mul_of_pos_left _ (Nat.mul_pos hcp hcp)) HM.out.2.1
      rw [←Int.natCast_mul,←Int.natCast_ediv,IntKind.wrap_u64]
      generalize gk / (p*p)=y at *
      omega
     have HQ:=Lib.hid (And.intro hlt (And.intro hcm (And.intro hg2 (And.intro h3 (And.intro h4 hd1)))));clear hs hdm hg2 hlt hcm h3 h4 hcp hcl hz HI hmd hd1
     have hmx:Tryz.prog.follows .mixedOrders=true:=by kernel_rfl
     gi_wp2
     have hc2:=H.out.b2.cell
     have hf1:=H.out.b1.frozen
     have hf2:=H.out.b2.frozen
     have HN:=Lib.hid H.out.drew;clear H;have H:=HN;clear HN
     have hd1:=H.out.b1.cell
     have hd2:=H.out.b2.cell
     have hg1:=H.out.b1.frozen
     have hg2:=H.out.b2.frozen
     refine wpIn_mono (Q:=Exit.then _ (fun _ _ _=>False)) ?_ (fun e a' w' h=>by cases e <;> first | exact h | exact h.elim)
     refine wpIn_region_any hmx ?_
     refine any_round Fence.wide _ _ l (by simp) _ _ _ _ ?_
     change wpAnyIn _ _ _ _ _ _ _ _ _ (World.drew _)
     refine wpAnyIn_take (i:=1) (v := ?_) rfl rfl (by kernel_rfl) (by kernel_rfl) (by kernel_rfl) (fun _ _ _ h=>h) ⟨Or.inl ⟨by rfl,?_⟩,fun _=>rfl⟩ ?_
     rotate_left
     ·intro w;go_simp;try with_reducible rfl
     refine wpAnyIn_take (i:=4) (v := ?_) rfl rfl (by kernel_rfl) (by kernel_rfl) (by kernel_rfl) (fun _ _ _ h=>h) ⟨Or.inl ⟨by rfl,?_⟩,fun _=>rfl⟩ ?_
     rotate_left
     ·intro w;go_simp;try with_reducible rfl
     refine wpAnyIn_ready (rs := [0,3]) (by kernel_rfl) (by simp) ?_
     refine AllReadyIn.cons rfl (fun K hK => ?_) (AllReadyIn.cons rfl (fun K hK => ?_) AllReadyIn.nil)
     ·go_simp
      refine hK _ _ ?_
      clear hK K
      refine wpAnyIn_take (i:=2) (v := ?_) rfl rfl (by kernel_rfl) (by kernel_rfl) (by kernel_rfl) (fun _ _ _ h=>h) ⟨Or.inl ⟨by rfl,?_⟩,fun _=>rfl⟩ ?_
      rotate_left
      ·intro w;go_simp;try with_reducible rfl
      refine wpAnyIn_ready (rs := [3,6]) (by kernel_rfl) (by simp) ?_
      refine AllReadyIn.cons rfl (fun K hK => ?_) (AllReadyIn.cons rfl (fun K hK => ?_) AllReadyIn.nil)
      ·go_simp
       refine hK _ _ ?_
       clear hK K
       refine wpAnyIn_take (i:=5) (v := ?_) rfl rfl (by kernel_rfl) (by kernel_rfl) (by kernel_rfl) (fun _ _ _ h=>h) ⟨Or.inl ⟨by rfl,?_⟩,fun _=>rfl⟩ ?_
       rotate_left
       ·intro w;go_simp;try with_reducible rfl
       refine wpAnyIn_ready (rs := [6]) (by kernel_rfl) (by simp) ?_
       refine AllReadyIn.cons rfl (fun K hK => ?_) AllReadyIn.nil
       go_simp
       refine hK _ _ ?_
       clear hK K
       refine wpAnyIn_ready (rs := [7]) (by kernel_rfl) (by simp) ?_
       refine AllReadyIn.cons rfl (fun K hK => ?_) AllReadyIn.nil
       go_simp
       refine hK _ _ ?_
       clear hK K
       refine wpAnyIn_done (by kernel_rfl) ?_ _
       have HO:=Lib.hid (H.out.put (by rw [HB.out.2.1];omega) (c*p) (gk / (p*p)) (Int.natCast_mul c p).symm HQ.out.2.2.2.2.2)
       gi_wp2
       gi_roundg (gk / (p*p))
       case rel=>exact Lib.hid ⟨c*p,HQ.out.2.1,HQ.out.2.2.1,HQ.out.2.2.2.1,HQ.out.2.2.2.2.1,HO.out⟩
       case measure=>exact HQ.out.1
      ·go_simp
       refine hK _ _ ?_
       clear hK K
       refine wpAnyIn_ready (rs := [3]) (by kernel_rfl) (by simp) ?_
       refine AllReadyIn.cons rfl (fun K hK => ?_) AllReadyIn.nil
       go_simp
       refine hK _ _ ?_
       clear hK K
       refine wpAnyIn_take (i:=5) (v := ?_) rfl rfl (by kernel_rfl) (by kernel_rfl) (by kernel_rfl) (fun _ _ _ h=>h) ⟨Or.inl ⟨by rfl,?_⟩,fun _=>rfl⟩ ?_
       rotate_left
       ·intro w;go_simp;try with_reducible rfl
       refine wpAnyIn_ready (rs := [7]) (by kernel_rfl) (by simp) ?_
       refine AllReadyIn.cons rfl (fun K hK => ?_) AllReadyIn.nil
       go_simp
       refine hK _ _ ?_
       clear hK K
       refine wpAnyIn_done (by kernel_rfl) ?_ _
       have HO:=Lib.hid (H.out.put (by rw [HB.out.2.1];omega) (c*p) (gk / (p*p)) (Int.natCast_mul c p).symm HQ.out.2.2.2.2.2)
       gi_wp2
       gi_roundg (gk / (p*p))
       case rel=>exact Lib.hid ⟨c*p,HQ.out.2.1,HQ.out.2.2.1,HQ.out.2.2.2.1,HQ.out.2.2.2.2.1,HO.out⟩
       case measure=>exact HQ.out.1
     ·go_simp
      refine hK _ _ ?_
      clear hK K
      refine wpAnyIn_take (i:=5) (v := ?_) rfl rfl (by kernel_rfl) (by kernel_rfl) (by kernel_rfl) (fun _ _ _ h=>h) ⟨Or.inl ⟨by rfl,?_⟩,fun _=>rfl⟩ ?_
      rotate_left
      ·intro w;go_simp;try with_reducible rfl
      refine wpAnyIn_ready (rs := [0]) (by kernel_rfl) (by simp) ?_
      refine AllReadyIn.cons rfl (fun K hK => ?_) AllReadyIn.nil
      go_simp
      refine hK _ _ ?_
      clear hK K
      refine wpAnyIn_take (i:=2) (v := ?_) rfl rfl (by kernel_rfl) (by kernel_rfl) (by kernel_rfl) (fun _ _ _ h=>h) ⟨Or.inl ⟨by rfl,?_⟩,fun _=>rfl⟩ ?_
      rotate_left
      ·intro w;go_simp;try with_reducible rfl
      refine wpAnyIn_ready (rs := [6]) (by kernel_rfl) (by simp) ?_
      refine AllReadyIn.cons rfl (fun K hK => ?_) AllReadyIn.nil
      go_simp
      refine hK _ _ ?_
      clear hK K
      refine wpAnyIn_ready (rs := [7]) (by kernel_rfl) (by simp) ?_
      refine AllReadyIn.cons rfl (fun K hK => ?_) AllReadyIn.nil
      go_simp
      refine hK _ _ ?_
      clear hK K
      refine wpAnyIn_done (by kernel_rfl) ?_ _
      have HO:=Lib.hid (H.out.put (by rw [HB.out.2.1];omega) (c*p) (gk / (p*p)) (Int.natCast_mul c p).symm HQ.out.2.2.2.2.2)
      gi_wp2
      gi_roundg (gk / (p*p))
      case rel=>exact Lib.hid ⟨c*p,HQ.out.2.1,HQ.out.2.2.1,HQ.out.2.2.2.1,HQ.out.2.2.2.2.1,HO.out⟩
      case measure=>exact HQ.out.1
    ·have hq:((gk:Int) % ((p:Int)*(p:Int))==0)=false:=by
      rw [hmd,beq_eq_false_iff_ne];intro e;exact hz (Int.ofNat.inj e)
     have hs:=strip_no (p:=p) hz
     have e3:=HI.out.2.2.1
     have e4:=HI.out.2.2.2
     rw [hs] at e3 e4
     have HQ:=Lib.hid (And.intro e3 e4);clear e3 e4 hs hz HI hmd
     gi_wp2
     refine ⟨H.out.from_,fun _=>H.out.kb,⟨⟨?_,?_⟩,H.out.below⟩⟩
     ·have:=H.out.b1
      rw [HX.out.1]
      have e:=HQ.out.2
      simp only at e ⊢
      rwa [e] at this
     ·have:=H.out.b2
      rw [HX.out.1]
      have e:=HQ.out.1
      simp only [Nat.mul_one] at e ⊢
      rwa [e] at this
 case done =>
  rintro D W hD ⟨⟨h1,h2⟩,hB⟩ hK
  obtain ⟨hu1,hu2⟩:=HU.out
  have H:=Lib.hid (⟨h1,h2,HW.out.trans (hB.mono HW.out.size),hK⟩:DnAt w w1 (strips primes m).1 (strips primes m).2 D W)
  have H2:=Lib.hid H.out.b1
  have HD:=Lib.hid (And.intro hD hB);clear hB hK hD h1 h2
  have hd1:=H.out.b1.cell
  have hd2:=H.out.b2.cell
  have HN:=Lib.hid (H.out.next (Below.refl _ _).drew);clear H;have H:=HN;clear HN
  have hc1:=H.out.b1.cell
  have hc2:=H.out.b2.cell
  have hmx:Tryz.prog.follows .mixedOrders=true:=by kernel_rfl
  generalize hE1:(strips primes m).1=u1 at *
  generalize hE2:(strips primes m).2=u2 at *
  have HE:=Lib.hid (And.intro hE1 hE2);clear hE1 hE2
  gi_wp2
  refine wpIn_mono (Q:=Exit.then _ (fun _ _ _=>False)) ?_ (fun e a' w' h=>by cases e <;> first | exact h | exact h.elim)
  gi_region_with_o (first | (refine ⟨trivial,?_⟩;refine (callsIn_wide.2 (C1.out _ (by assumption) _ H.out.below)).mono ?_;rintro e w5 ⟨rfl,b⟩;have HN:=Lib.hid (H.out.next b);clear H b;have H:=HN;clear HN;have hc1:=H.out.b1.cell;have hc2:=H.out.b2.cell))
  all_goals
   gi_wp2
   refine ⟨by simp,.inl ⟨_,_,rfl,run_takeDeferred H.out.mark,?_⟩⟩
   refine ⟨.tuple #[.string (sN u1),.string (sN u2)],?_,by rw [HE.out.1,HE.out.2],H.out.below.trans (belowK_b (w:=w) (Nat.le_refl _) _ D _ _ (by have:=HD.out.1;rw [HB.out.2.1] at this;have:=HW.out.size;omega) H.out.mark rfl rfl)⟩
   simp [results,Tryz.f219,go_sem]
 case stop =>
  rintro D pre r' W hD hx ⟨⟨h1,h2⟩,hB⟩ hK
  obtain ⟨hu1,hu2⟩:=HU.out
  have H:=Lib.hid (⟨h1,h2,HW.out.trans (hB.mono HW.out.size),hK⟩:DnAt w w1 (strips primes m).1 (strips primes m).2 D W)
  have H2:=Lib.hid H.out.b1
  have HD:=Lib.hid (And.intro hD hB);clear hB hK hD h1 h2
  have hd1:=H.out.b1.cell
  have hd2:=H.out.b2.cell
  have HN:=Lib.hid (H.out.next (Below.refl _ _).drew);clear H;have H:=HN;clear HN
  have hc1:=H.out.b1.cell
  have hc2:=H.out.b2.cell
  have hmx:Tryz.prog.follows .mixedOrders=true:=by kernel_rfl
  generalize hE1:(strips primes m).1=u1 at *
  generalize hE2:(strips primes m).2=u2 at *
  have HE:=Lib.hid (And.intro hE1 hE2);clear hE1 hE2
  gi_wp2
  refine wpIn_mono (Q:=Exit.then _ (fun _ _ _=>False)) ?_ (fun e a' w' h=>by cases e <;> first | exact h | exact h.elim)
  gi_region_with_o (first | (refine ⟨trivial,?_⟩;refine (callsIn_wide.2 (C1.out _ (by assumption) _ H.out.below)).mono ?_;rintro e w5 ⟨rfl,b⟩;have HN:=Lib.hid (H.out.next b);clear H b;have H:=HN;clear HN;have hc1:=H.out.b1.cell;have hc2:=H.out.b2.cell))
  all_goals
   gi_wp2
   refine ⟨by simp,.inl ⟨_,_,rfl,run_takeDeferred H.out.mark,?_⟩⟩
   refine ⟨.tuple #[.string (sN u1),.string (sN u2)],?_,by rw [HE.out.1,HE.out.2],H.out.below.trans (belowK_b (w:=w) (Nat.le_refl _) _ D _ _ (by have:=HD.out.1;rw [HB.out.2.1] at this;have:=HW.out.size;omega) H.out.mark rfl rfl)⟩
   simp [results,Tryz.f219,go_sem]
end
end Go.Proofs.YtjdfjgfdbgmbiaaGreatDoor.T
namespace Go.Proofs.YtjdfjgfdbgmbiaaGreatDoor.T
open Go.Proofs.YtjdfjgfdbgmbiaaGreatDoor Go.RowKit Go.Lib
end Go.Proofs.YtjdfjgfdbgmbiaaGreatDoor.T
namespace Go.Proofs.YtjdfjgfdbgmbiaaGreatDoor.T
open Go.Proofs.YtjdfjgfdbgmbiaaGreatDoor Go.Lib
def neg3 (s:ByteArray):Bool:=isNeg s.data.toList
def neg3L (l:List ByteArray):Int:=if l.any neg3 then 2 else 0
theorem neg3_str (q:Rat):neg3 (strQ q)=decide (q<0):=by
 unfold neg3
 rw [strQ_data]
 have e:isNeg (itoaQ q)=isNeg (itoa q.num):=by
  unfold itoaQ
  split
  ·rfl
  ·have:=itoa_ne q.num
   unfold isNeg;cases h:itoa q.num with
   | nil=>exact absurd h this
   | cons a l=>rfl
 rw [e,←strB_data,strB_neg]
 congr 1
 exact propext ⟨fun h=>Rat.not_le.1 fun k=>absurd (Rat.num_nonneg.2 k) (by omega),fun h=>by
  apply Int.not_le.1;intro k;exact absurd (Rat.num_nonneg.1 k) (Rat.not_le.2 h)⟩
end Go.Proofs.YtjdfjgfdbgmbiaaGreatDoor.T
namespace Go.Proofs.YtjdfjgfdbgmbiaaGreatDoor.T
open Go.Proofs.YtjdfjgfdbgmbiaaGreatDoor Go.RowKit
def atS (xs:List ByteArray) (j:Nat):ByteArray:=xs[j]?.getD ⟨#[]⟩
theorem atS_get {xs:List ByteArray} {j:Nat} (h:j<xs.length):atS xs j=xs[j]:=by unfold atS;rw [List.getElem?_eq_getElem h];rfl
theorem atS_mem {xs:List ByteArray} {j:Nat} (h:j<xs.length):atS xs j∈xs:=by rw [atS_get h];exact List.getElem_mem h
theorem take_at {xs:List ByteArray} {j:Nat} (h:j<xs.length):xs.take (j+1)=xs.take j ++ [atS xs j]:=by rw [atS_get h,List.take_succ_eq_append_getElem h]
structure Sl (W:World) (b:Nat) (xs:List ByteArray):Prop where
 lt:b<W.heap.size
 cell:∀ j,j<xs.length→W.cell? ⟨b,j,none⟩=some (.string (atS xs j))
theorem Sl.next {W W':World} {b:Nat} {xs:List ByteArray} (h:Sl W b xs) (g:Below W.heap.size W W'):Sl W' b xs :=
 ⟨Nat.lt_of_lt_of_le h.lt g.size,fun j hj=>(g.cell (p:=⟨b,j,none⟩) h.lt).trans (h.cell j hj)⟩
theorem Sl.new1 (W:World) (s:ByteArray) (t:TypeId):Sl (W.alloc (.cells #[.string s] t)) W.heap.size [s] :=
 ⟨by simp,fun j hj=>by
  obtain rfl:j=0:=by simp at hj;omega
  exact (Blk.new W #[.string s] t).cell 0 _ rfl⟩
theorem Sl.new2 (W:World) (s u:ByteArray) (t:TypeId):Sl (W.alloc (.cells #[.string s,.string u] t)) W.heap.size [s,u] :=
 ⟨by simp,fun j hj=>by
  have h2:j=0∨j=1:=by simp at hj;omega
  rcases h2 with rfl | rfl
  ·exact (Blk.new W #[.string s,.string u] t).cell 0 _ rfl
  ·exact (Blk.new W #[.string s,.string u] t).cell 1 _ rfl⟩
theorem ret_i64 {a b:Int} (h:a=b):Ending.returned (.int .i64 a) = .returned (.int .i64 b):=by rw [h]
theorem croots_any (b:Nat) (xs:List ByteArray) (w:World) (hl:xs.length≤100) (hx:Sl w b xs) :
  Calls Tryz.prog 173 #[.slice (some ⟨b,0,none⟩) xs.length xs.length] w fun e W'=>e = .returned (.int .i64 (neg3L xs))∧Below w.heap.size w W':=by
 have hb:=hx.lt
 have HC:=Lib.hid hx.cell
 have HR:Hid (∀ q:Bool,xs.any neg3=q→neg3L xs=if q then 2 else 0):=Lib.hid (fun q h=>by unfold neg3L;rw [h])
 clear hx
 go_enter Tryz.func173,Tryz.ntmps173
 go_wp2
 go_loopw [7] (fun i wr=>∃ k:Nat,i = .int .i64 k∧k≤xs.length∧Hid ((xs.take k).any neg3=false)∧Hid (Below w.heap.size w wr)) (fun i _=>xs.length - (intOf i).toNat)
 case atStart=>exact ⟨0,rfl,by omega,by show _=false;simp,Below.refl _ _⟩
 case round =>
  obtain ⟨k,rfl,hk,hd,HBw⟩:=hrel
  by_cases hlt:k<xs.length
  ·have hck:=(HBw.out.cell (p:=⟨b,k,none⟩) hb).trans (HC.out k hlt)
   have hn:Hid (neg3 (atS xs k)=false→(xs.take (k+1)).any neg3=false):=Lib.hid (fun h=>by rw [take_at hlt,List.any_append,hd.out];simp [h])
   have hy:Hid (neg3 (atS xs k)=true→xs.any neg3=true):=Lib.hid (fun h=>List.any_eq_true.2 ⟨_,atS_mem hlt,h⟩)
   have hr:=Lib.hid (oneg_any (atS xs k) wr)
   change Hid (Calls _ _ _ _ fun e W'=>e = .returned (.bool (neg3 (atS xs k)))∧_) at hr
   clear hd
   generalize neg3 (atS xs k)=r at *
   generalize atS xs k=s at *
   go_wp2_with fail
   refine hr.out.mono ?_
   rintro e w' ⟨rfl,b⟩
   have HB2:=Lib.hid (HBw.out.trans (b.mono HBw.out.size));clear b HBw
   cases r
   ·have hnn:=Lib.hid (hn.out rfl)
    clear hn hy
    go_wp2
    go_roundw
    case rel=>exact ⟨k+1,by go_num,by omega,hnn.out,HB2.out⟩
    case measure=>simp [intOf];omega
   ·have hbb:=Lib.hid (HR.out true (hy.out rfl))
    clear hn hy
    go_wp2
    go_ret
    exact ⟨ret_i64 hbb.out.symm,HB2.out⟩
  ·have hbb:=Lib.hid (HR.out false (by have:=hd.out;rwa [List.take_of_length_le (by omega)] at this))
   clear hd
   go_wp2
   go_ret
   exact ⟨ret_i64 hbb.out.symm,HBw.out⟩
theorem cmpOr2 (b:Nat) (x y:Int) (w:World) (hb:Blk w b #[.int .i64 x,.int .i64 y]) :
  Calls Tryz.prog 64 #[.slice (some ⟨b,0,none⟩) 2 2] w fun e W'=>e = .returned (.int .i64 (if x=0 then y else x))∧Below w.heap.size w W':=by
 have c0:=hb.cell 0 _ rfl
 have c1:=hb.cell 1 _ rfl
 clear hb
 by_cases h:x=0
 ·rw [if_pos h]
  subst h
  by_cases h2:y=0
  ·subst h2
   go_enter Tryz.func64,Tryz.ntmps64
   go_wp2
   go_rounds 3
   all_goals go_ret
   all_goals exact ⟨rfl,Below.refl _ _⟩
  ·obtain ⟨n1,n2⟩:=bool_ne h2
   go_enter Tryz.func64,Tryz.ntmps64
   go_wp2
   go_rounds 3
   all_goals go_ret
   all_goals exact ⟨rfl,Below.refl _ _⟩
 ·rw [if_neg h]
  obtain ⟨n1,n2⟩:=bool_ne h
  go_enter Tryz.func64,Tryz.ntmps64
  go_wp2
  go_rounds 3
  all_goals go_ret
  all_goals exact ⟨rfl,Below.refl _ _⟩
end Go.Proofs.YtjdfjgfdbgmbiaaGreatDoor.T
namespace Go.Proofs.YtjdfjgfdbgmbiaaGreatDoor.T
open Go.Proofs.YtjdfjgfdbgmbiaaGreatDoor Go.RowKit Go.Lib
end Go.Proofs.YtjdfjgfdbgmbiaaGreatDoor.T
