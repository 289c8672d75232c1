/- Parts of the proof of the text YtjdomibbaemdnaaGreatDoorZK42. -/
import Derived.Maps.AppendAt
import Derived.RegionIn
import Derived.Shelf.RegionOpen
import Derived.Lib.SmallJoins
import Derived.Test.YtjdomibbaemdnaaGreatDoorZK1
import Derived.Test.YtjdomibbaemdnaaGreatDoorZK24
import Derived.Test.YtjdomibbaemdnaaGreatDoorZK8
set_option linter.all false
set_option maxRecDepth 100000
set_option maxHeartbeats 8000000
namespace Go.Proofs.YtjdomibbaemdnaaGreatDoor
namespace T
open Go.Proofs.YtjdomibbaemdnaaGreatDoor Go Go.RowKit Go.Lib Go.Shelf
theorem ws:(Tryz.prog.info? 9).map (fun i=>(i.zero,i.size,i.bytes))=some (some (.string ⟨#[]⟩),1,16):=by kernel_rfl
theorem qZ (a b:Nat):((aa (a:Int)).toList==(aa (b:Int)).toList)=decide (a=b):=by
 rw [ByteArray.toList_eq,ByteArray.toList_eq,ay,ay]
 by_cases h:a=b
 ·subst h;simp
 ·rw [decide_eq_false h,beq_eq_false_iff_ne];intro e;exact h (Int.ofNat.inj (fD e))
noncomputable def rtV (m:Nat):Value := .string (aa (aj m:Nat))
section
attribute [local go_sem] Oper.semAt_some
theorem wt {W W':World} {base m:Nat} {v:Value} {xs:List Value} (h:W.ownsRow base 9 1 v m xs) (g:Below W.heap.size W W'):W'.ownsRow base 9 1 v m xs :=
 h.kept (be g) (by
  rcases v.ownBlock with _ | g
  ·exact .inl rfl
  ·exact .inr (by simp))
structure RtAt (w:World) (base:Nat) (xs pre:List Nat) (v:Value) (W0 W:World):Prop where
 b1:Boxed W (w.heap.size+1) 22 (.string ⟨#[]⟩)
 b2:Boxed W (w.heap.size+1+1) 4 (.bool false)
 b3:Boxed W (w.heap.size+1+1+1) 93 v
 row:W.ownsRow w.heap.size 9 1 v pre.length (pre.map rtV)
 nil:v = .slice none 0 0↔pre = []
 sq:∀ m∈pre,aj m*aj m=m
 below:Below w.heap.size w W
 from_:KeepsFrom base W0 W
 kb:Kb base W0 W
theorem RtAt.next {w:World} {base:Nat} {xs pre:List Nat} {v:Value} {W0 W W':World} (h:RtAt w base xs pre v W0 W) (b:Below W.heap.size W W'):RtAt w base xs pre v W0 W' :=
 ⟨h.b1.kept (be b) (by simp),h.b2.kept (be b) (by simp),h.b3.kept (be b) (by simp),wt h.row b,h.nil,h.sq,h.below.trans (b.mono h.below.size),h.from_.trans (KeepsFrom.of_grownBy (be b) (fun j e=>by cases e)),h.kb.trans (Kb.of_below b)⟩
theorem uV {W:World} {base g cap:Nat} {x y:Value} (h:W.ownsRow base 9 1 (.slice (some ⟨g,0,none⟩) 2 cap) 2 [x,y]) :
  W.cell? ⟨g,0,none⟩=some x∧W.cell? ⟨g,1,none⟩=some y∧base≤g:=by
 obtain ⟨_,(⟨h1,_⟩ | ⟨g',cap',cur,e,hb,hh,hn,_,hs,ht⟩)⟩:=h
 ·cases h1
 ·cases e
  have hl:cur.toList.length=cap*1:=by simpa using hs
  have c0:cur.toList[0]? = some x:=by rw [←List.getElem?_take_of_lt (j:=2) (by omega)];rw [show 2*1=2 from rfl] at ht;rw [ht];rfl
  have c1:cur.toList[1]? = some y:=by rw [←List.getElem?_take_of_lt (j:=2) (by omega)];rw [show 2*1=2 from rfl] at ht;rw [ht];rfl
  refine ⟨?_,?_,hb⟩
  ·unfold World.cell?; simp only [hh];simpa using c0
  ·unfold World.cell?; simp only [hh];simpa using c1
theorem yp (n d:Nat) (r:ByteArray) (rv:Value) (w:World) (hn:n<lim) (hd:d<lim) (ht:Tab w) (hv1:aj n*aj n=n∧aj d*aj d=d→rv = .tuple #[.string r,.bool true]) (hv2:¬ (aj n*aj n=n∧aj d*aj d=d)→rv = .tuple #[.string ⟨#[]⟩,.bool false])
  (hr:aj n*aj n=n∧aj d*aj d=d→∀ W,Below w.heap.size w W→Calls Tryz.prog 43 #[.agg #[.string (aa (aj n:Nat)),.string (aa (aj d:Nat))]] W fun e W'=>e = .returned (.string r)∧Below W.heap.size W W') :
  Calls Tryz.prog 33 #[.agg #[.string (aa n),.string (aa d)]] w fun e W'=>e = .returned rv∧Below w.heap.size w W':=by
 refine (callsIn_wide (n:=9)).1 ?_
 obtain ⟨i0,hi,hz0,hz1,hz2⟩:=info_parts ws
 have HI:=Ha (Hb hi (Hb hz0 (Hb hz1 hz2)));clear hi hz0 hz1 hz2
 have hm:∀ m ∈ [n,d],m<lim:=by intro m hm;simp at hm;rcases hm with rfl | rfl <;> assumption
 have C1:Hid (∀ m ∈ [n,d],∀ W,Below w.heap.size w W→Calls Tryz.prog 70 #[.string (aa (m:Nat))] W fun e W'=>e = .returned (.string (aa (aj m:Nat)))∧Below W.heap.size W W') :=
  Ha (fun m h W hW=>by
   have c:=tQ (m:Nat) W (Int.natCast_nonneg _) (aF.2 (hm m h)) (ht.next hW)
   rwa [Int.natAbs_natCast] at c)
 have C2:Hid (∀ m ∈ [n,d],∀ W,Below w.heap.size w W→Calls Tryz.prog 60 #[.string (aa (aj m:Nat)),.string (aa (aj m:Nat))] W fun e W'=>e = .returned (.string (aa (((aj m:Nat):Int)*((aj m:Nat):Int))))∧Below W.heap.size W W') :=
  Ha (fun m h W hW=>by
   have h1:=(cC m).1
   have h2:aj m≤m:=cz
   have h3:=hm m h
   exact sA (aj m:Nat) (aj m:Nat) W (aF.2 (by omega)) (aF.2 (by omega)) (by rw [←Int.natCast_mul];exact aF.2 (by omega)) (ht.next hW))
 have C3:=Ha hr;have HV:=Ha (Hb hv1 hv2);clear hr hm hn hd ht hv1 hv2
 refine callsIn_of_wp_marks Tryz.func33 rfl trivial ?_ rfl
 simp only [Tryz.ntmps33,List.size_toArray,List.length_cons,List.length_nil,Nat.reduceAdd,Nat.reduceSub,Array.replicate_succ,Array.replicate_zero,List.push_toArray,List.append_toArray,List.nil_append,List.cons_append]
 gi_wp2
 have b0:=((Boxed.new (w.alloc (.cells #[.string (aa n),.string (aa d)] 47)) 22 (.string ⟨#[]⟩)).alloc (.cells #[.bool false] 4)).alloc (.cells #[.slice none 0 0] 93)
 have b1:=(Boxed.new ((w.alloc (.cells #[.string (aa n),.string (aa d)] 47)).alloc (.cells #[.string ⟨#[]⟩] 22)) 4 (.bool false)).alloc (.cells #[.slice none 0 0] 93)
 have b2:=Boxed.new (((w.alloc (.cells #[.string (aa n),.string (aa d)] 47)).alloc (.cells #[.string ⟨#[]⟩] 22)).alloc (.cells #[.bool false] 4)) 93 (.slice none 0 0)
 simp only [World.size_alloc] at b0 b1 b2
 have hB0:Below w.heap.size w ((((w.alloc (.cells #[.string (aa n),.string (aa d)] 47)).alloc (.cells #[.string ⟨#[]⟩] 22)).alloc (.cells #[.bool false] 4)).alloc (.cells #[.slice none 0 0] 93)) :=
  ((((Below.refl _ w).alloc (Nat.le_refl _) _).alloc (by simp) _).alloc (by simp;omega) _).alloc (by simp;omega) _
 have hsz:((((w.alloc (.cells #[.string (aa n),.string (aa d)] 47)).alloc (.cells #[.string ⟨#[]⟩] 22)).alloc (.cells #[.bool false] 4)).alloc (.cells #[.slice none 0 0] 93)).heap.size=w.heap.size+1+1+1+1:=by simp
 generalize (((w.alloc (.cells #[.string (aa n),.string (aa d)] 47)).alloc (.cells #[.string ⟨#[]⟩] 22)).alloc (.cells #[.bool false] 4)).alloc (.cells #[.slice none 0 0] 93)=W4 at *
 have HB:=Ha (Hb hB0 (Hb hsz (Hb b0 (Hb b1 b2))));clear b0 b1 b2 hB0 hsz
 refine dv rfl (by omega) (gf:=55) (fs := #[.agg #[.string (aa n),.string (aa d)]]) rfl trivial (enters_of Tryz.func55 (by kernel_rfl) rfl)
  (dd (fun m:Nat=>aa (m:Nat)) n d (9 - 1) W4 (by omega)) (fun _=>rfl) .ret (.inl rfl)
  (fun pre W=>((Boxed W (w.heap.size+1) 22 (.string ⟨#[]⟩)∧Boxed W (w.heap.size+1+1) 4 (.bool false))∧((∃ v,Boxed W (w.heap.size+1+1+1) 93 v∧W.ownsRow w.heap.size 9 1 v pre.length (pre.map rtV)∧(v = .slice none 0 0↔pre = []))∧(∀ m∈pre,aj m*aj m=m)))∧Below w.heap.size w W)
  (fun pre W=>(((∃ m ∈ [n,d],aj m*aj m≠m))∧(Boxed W (w.heap.size+1) 22 (.string ⟨#[]⟩)∧Boxed W (w.heap.size+1+1) 4 (.bool false)))∧Below w.heap.size w W)
  (OwnFrom.and (OwnFrom.and (OwnFrom.and (Own.from (boxed_own _ _ (fun _ => .string ⟨#[]⟩)) _) (Own.from (boxed_own _ _ (fun _ => .bool false)) _)) (OwnFrom.and (Own.from (holdsRow_own w.heap.size _ _ _ 1 (fun pre:List Nat=>pre.length) (fun pre=>pre.map rtV) (fun pre v=>v = .slice none 0 0↔pre = [])) _) (ownFrom_pure _ _))) (ownFrom_below (Nat.le_refl _) (by rw [HB.out.2.1];omega)))
  (OwnFrom.and (OwnFrom.and (ownFrom_pure _ _) (OwnFrom.and (Own.from (boxed_own _ _ (fun _ => .string ⟨#[]⟩)) _) (Own.from (boxed_own _ _ (fun _ => .bool false)) _))) (ownFrom_below (Nat.le_refl _) (by rw [HB.out.2.1];omega)))
  (fun s A h=>⟨⟨⟨h.1.1.1,h.1.1.2⟩,h.1.2⟩,h.2.drew⟩)
  ⟨⟨⟨HB.out.2.2.1,HB.out.2.2.2.1⟩,⟨_,HB.out.2.2.2.2,World.ownsRow_nil _ _ _ _,by simp⟩,fun _ h=>by cases h⟩,HB.out.1⟩
  (fun m=>{ tmps := #[.agg #[.string (aa n),.string (aa d)],.pointer (some ⟨w.heap.size,0,none⟩),.pointer (some ⟨w.heap.size+1,0,none⟩),.pointer (some ⟨w.heap.size+1+1,0,none⟩),.pointer (some ⟨w.heap.size+1+1+1,0,none⟩),.string (aa (m:Nat)),undef,.agg #[.string (aa n),.string (aa d)],.func (.func 55) #[.agg #[.string (aa n),.string (aa d)]] #[],.string (aa (m:Nat)),undef,undef,undef,undef,undef,undef,undef,undef,undef,undef,undef,undef,undef,undef,undef,undef,undef,undef,undef],defers := [] }) ?assign ?body ?done ?stop
 case assign =>
  intro l x W K hK
  gi_wp2
  exact hK
 case body =>
  rintro l pre x r' W hle hx ⟨⟨⟨h1,h2⟩,⟨v,h3,hrow,hnil⟩,hsq⟩,hB⟩
  have hmem:x ∈ [n,d]:=by rw [hx];simp
  have H:=Ha (⟨h1,h2,h3,hrow,hnil,hsq,hB,KeepsFrom.refl _ _,Kb.refl _ _⟩:RtAt w W4.heap.size [n,d] pre v W W)
  have c1:=C1.out x hmem
  have c2:=C2.out x hmem
  have hbe:=qZ (aj x*aj x) x
  rw [Int.natCast_mul] at hbe
  have hbn:((aa (((aj x:Nat):Int)*((aj x:Nat):Int))).toList != (aa (x:Int)).toList) = !decide (aj x*aj x=x):=by rw [bne,hbe]
  have HX:=Ha (Hb hx (Hb hmem hle));clear hx hmem hle h1 h2 h3 hrow hnil hsq hB
  have CC:=Ha (Hb c1 c2);clear c1 c2
  gi_wp2_with fail
  refine ⟨trivial,?_⟩
  refine (CallsIn.inRound l (callsIn_wide.2 (CC.out.1 _ H.out.below))).mono ?_
  rintro e w1 ⟨rfl,b⟩
  have HN:=Ha (H.out.next b);clear H b;have H:=HN;clear HN
  gi_wp2_with fail
  refine ⟨trivial,?_⟩
  refine (CallsIn.inRound l (callsIn_wide.2 (CC.out.2 _ H.out.below))).mono ?_
  rintro e w2 ⟨rfl,b⟩
  have HN:=Ha (H.out.next b);clear H b;have H:=HN;clear HN
  by_cases hq:aj x*aj x=x
  ·have HQ:=Ha hq
   rw [decide_eq_true hq] at hbe hbn
   change _=false at hbn
   clear hq
   have hc3:=H.out.b3.cell
   have hlen:pre.length≤1:=by have:=congrArg List.length HX.out.1;simp at this;omega
   gi_wp2_with (gi_at_builtin;refine wpListIn_append_own _ rfl _ _ 93 rfl w.heap.size 9 i0 (.string ⟨#[]⟩) 1 16 Tryz.underlying93 HI.out.1 HI.out.2.1 HI.out.2.2.1 HI.out.2.2.2 rfl (by decide) _ _ _ rfl (H.out.row.alloc _) ⟨w2.heap.size,0,none⟩ 1 1 [rtV x] rfl rfl (cell_one_new _ _ _) (by simp [Value.oneCell',rtV]) (by unfold maxLen;omega) (by omega) (by have:=H.out.below.size;simp;omega) ?_;intro v' w3 hown' hgrow _;obtain ⟨g',cap',rfl⟩:=ownsRow_succ hown';obtain ⟨hv1,hv2,hr2,hk2,hb2⟩:=H.out.b3.appended (by decide) H.out.row H.out.below.size (by omega) hown' hgrow;have hc1:=hv1.cell;have hf1:=hv1.frozen)
   have k1:=((H.out.b1.alloc _).kept hgrow (H.out.b1.not_row (by decide) H.out.row)).other (B':=w.heap.size+1+1+1) (by omega) (.slice (some ⟨g',0,none⟩) (pre.length+1) cap')
   have k2:=((H.out.b2.alloc _).kept hgrow (H.out.b2.not_row (by decide) H.out.row)).other (B':=w.heap.size+1+1+1) (by omega) (.slice (some ⟨g',0,none⟩) (pre.length+1) cap')
   refine ⟨H.out.from_.trans (hk2.from _),fun hr => ?_,⟨⟨⟨k1,k2⟩,⟨_,hv2,by simpa using hr2,by simp⟩,fun m hm => ?_⟩,H.out.below.trans hb2⟩⟩
   ·have hp:pre = []:=by
     have h1:=congrArg List.length HX.out.1
     have h2:0<r'.length:=List.length_pos_iff.2 hr
     simp at h1
     exact List.eq_nil_of_length_eq_zero (by omega)
    have hv0:=H.out.nil.2 hp
    rw [hv0] at hgrow
    exact H.out.kb.trans ((Kb.alloc _ _ _).trans ((Kb.of_grown hgrow).trans (Kb.cell_below (p:=⟨w.heap.size+1+1+1,0,none⟩) (by show w.heap.size+1+1+1<W4.heap.size;rw [HB.out.2.1];omega) _)))
   ·rcases List.mem_append.1 hm with h | h
    ·exact H.out.sq m h
    ·rw [List.mem_singleton.1 h];exact HQ.out
  ·have HQ:=Ha hq
   rw [decide_eq_false hq] at hbe hbn
   change _=true at hbn
   clear hq
   have hc1:=H.out.b1.cell
   have hc2:=H.out.b2.cell
   have hf1:=H.out.b1.frozen
   have hf2:=H.out.b2.frozen
   gi_wp2
   refine ⟨H.out.from_.trans (((KeepsOthers.setCell _ _ _).from _).trans ((KeepsOthers.setCell _ _ _).from _)),rfl,⟨⟨x,HX.out.2.1,HQ.out⟩,(H.out.b1.set _).other (by omega) _,(H.out.b2.other (by omega) _).set _⟩,?_⟩
   exact (H.out.below.setCell (p:=⟨w.heap.size+1,0,none⟩) (by show w.heap.size≤w.heap.size+1;omega) _).setCell (p:=⟨w.heap.size+1+1,0,none⟩) (by show w.heap.size≤w.heap.size+1+1;omega) _
 case done =>
  rintro D W hD ⟨⟨⟨h1,h2⟩,⟨v,h3,hrow,hnil⟩,hsq⟩,hB⟩ hK
  have hs:aj n*aj n=n∧aj d*aj d=d:=⟨hsq n (by simp),hsq d (by simp)⟩
  have c3:=C3.out hs
  have hv1:=Ha (HV.out.1 hs)
  obtain ⟨g,cap,rfl⟩:=ownsRow_succ (k:=1) hrow
  obtain ⟨e0,e1,hg⟩:=uV hrow
  have hc3:=h3.cell
  have hgl:g<W.heap.size:=by
   obtain ⟨_,hh⟩:=cells_of_cell e0
   exact (Array.getElem?_eq_some_iff.1 hh.1).1
  have HH:=Ha (Hb h1 (Hb h2 (Hb h3 (Hb hB (Hb hK hD)))));clear h1 h2 h3 hB hK hD hrow hnil hsq hs
  have C4:=Ha c3;clear c3
  unfold rtV at e0 e1
  have hmx:Tryz.prog.follows .mixedOrders=true:=by kernel_rfl
  have d0:=(show World.cell? W.drew ⟨g,0,none⟩=some (.string (aa (aj n:Nat))) from e0)
  have d1:=(show World.cell? W.drew ⟨g,1,none⟩=some (.string (aa (aj d:Nat))) from e1)
  have d3:=(show World.cell? W.drew ⟨w.heap.size+1+1+1,0,none⟩=some (.slice (some ⟨g,0,none⟩) 2 cap) from hc3)
  gi_wp2
  refine wpIn_mono (Q:=Exit.then _ (fun _ _ _=>False)) ?_ (fun e a' w' h=>by cases e <;> first | exact h | exact h.elim)
  gi_region_with_o (first | (refine ⟨trivial,?_⟩;refine (callsIn_wide.2 (C4.out W.drew HH.out.2.2.2.1.drew)).mono ?_;rintro e w5 ⟨rfl,b⟩;have HG:=Ha (Hb (HH.out.1.kept (W:=W.drew) (be b) (by simp)) (Hb (HH.out.2.1.kept (W:=W.drew) (be b) (by simp)) (Hb (HH.out.2.2.2.1.drew.trans (b.mono HH.out.2.2.2.1.drew.size)) (grownBy_keeps (be b) (fun r e=>by cases e) HH.out.2.2.2.2.1 rfl))));have hc5:=HG.out.1.cell;have hc6:=HG.out.2.1.cell;have hf5:=HG.out.1.frozen;have hf6:=HG.out.2.1.frozen))
  all_goals
   gi_wp2
   have hKd:((w5.setCell ⟨w.heap.size+1,0,none⟩ (.string r)).setCell ⟨w.heap.size+1+1,0,none⟩ (.bool true)).heap[D]? = some (.deferred (some [])) :=
    ((KeepsOthers.setCell w5 ⟨w.heap.size+1,0,none⟩ (.string r)).trans (KeepsOthers.setCell _ ⟨w.heap.size+1+1,0,none⟩ (.bool true))).same D _ (HG.out.2.2.2.trans HH.out.2.2.2.2.1) rfl
   have g0:=(HG.out.1.set (.string r)).other (B':=w.heap.size+1+1) (by omega) (.bool true)
   have g1:=(HG.out.2.1.other (B':=w.heap.size+1) (by omega) (.string r)).set (.bool true)
   have hBB:=(HG.out.2.2.1.setCell (p:=⟨w.heap.size+1,0,none⟩) (by show w.heap.size≤w.heap.size+1;omega) (.string r)).setCell (p:=⟨w.heap.size+1+1,0,none⟩) (by show w.heap.size≤w.heap.size+1+1;omega) (.bool true)
   refine ⟨by simp,.inl ⟨_,_,rfl,run_takeDeferred hKd,?_⟩⟩
   have hc7:=cell_kept g0.cell (grownBy_putObj' _ D (.deferred none)) (fun r e=>by cases e;exact ⟨_,hKd,rfl⟩)
   have hc8:=cell_kept g1.cell (grownBy_putObj' _ D (.deferred none)) (fun r e=>by cases e;exact ⟨_,hKd,rfl⟩)
   refine ⟨.tuple #[.string r,.bool true],?_,by rw [hv1.out],hBB.trans (belowK_b (w:=w) (Nat.le_refl _) _ D _ _ (by have:=HH.out.2.2.2.2.2;rw [HB.out.2.1] at this;omega) hKd rfl rfl)⟩
   simp [results,Tryz.f33,go_sem,hc7,hc8]
 case stop =>
  rintro D pre r' W hD hx ⟨⟨⟨m,hm,hq⟩,h1,h2⟩,hB⟩ hK
  have hs:¬ (aj n*aj n=n∧aj d*aj d=d):=fun h=>by
   have hm2:m=n∨m=d:=by simpa using hm
   rcases hm2 with e | e
   ·exact hq (e ▸ h.1)
   ·exact hq (e ▸ h.2)
  have hv2:=Ha (HV.out.2 hs)
  have hc0:=h1.cell
  have hc1:=h2.cell
  have HH:=Ha (Hb hB (Hb hK hD));clear hB hD hs hx hm hq
  gi_wp2
  refine ⟨by simp,.inl ⟨_,_,rfl,run_takeDeferred hK,?_⟩⟩
  have hc5:=cell_kept hc0 (grownBy_putObj' _ D (.deferred none)) (fun r e=>by cases e;exact ⟨_,hK,rfl⟩)
  have hc6:=cell_kept hc1 (grownBy_putObj' _ D (.deferred none)) (fun r e=>by cases e;exact ⟨_,hK,rfl⟩)
  refine ⟨.tuple #[.string ⟨#[]⟩,.bool false],?_,by rw [hv2.out],HH.out.1.trans (belowK_b (w:=w) (Nat.le_refl _) W D _ _ (by have:=HH.out.2.2;rw [HB.out.2.1] at this;omega) hK rfl rfl)⟩
  simp [results,Tryz.f33,go_sem,hc5,hc6]
end
end T
namespace T
open Go.Proofs.YtjdomibbaemdnaaGreatDoor Go.RowKit Go.Lib Go.Shelf Go.Sort Go
theorem wu (M:Nat) (hM:M<18446744073709551616):∀ (l:List UInt8) (acc:Nat),(∀ c∈l,az c=true)→acc*10 ^ l.length+ae l≤M→Lib.parseUintM M acc l = .ok (acc*10 ^ l.length+ae l)
 | [],acc,_,_=>by rw [List.length_nil,Nat.pow_zero,Nat.mul_one,kS,Nat.add_zero];rfl
 | c::r,acc,h,hb=>by
  have hc:=pE (h c (by simp))
  have hN:acc*10 ^ (c::r).length+ae (c::r)=(acc*10+(c.toNat - 48))*10 ^ r.length+ae r:=by
   rw [lT,List.length_cons,Nat.pow_succ,Nat.add_mul,Nat.mul_assoc acc 10,Nat.mul_comm 10 (10 ^ r.length)];omega
  rw [hN] at hb ⊢
  have hp:1≤10 ^ r.length:=Nat.pos_of_ne_zero (by simp)
  have hge:acc*10+(c.toNat - 48)≤(acc*10+(c.toNat - 48))*10 ^ r.length:=Nat.le_mul_of_pos_right _ hp
  unfold Lib.parseUintM
  rw [if_pos hc,if_neg (by omega),if_neg (by omega)]
  exact wu M hM r _ (fun x hx=>h x (by simp [hx])) hb
theorem uW {m:Nat} (h:m<18446744073709551616):Lib.parseUintB 64 (decDigits m) = .ok m:=by
 unfold Lib.parseUintB
 rw [if_neg (gY m),wu _ (by decide) _ 0 (cF m) (by rw [dJ];omega),dJ]
 simp
theorem yq (m:Nat) (w:World) (h:m<18446744073709551616) :
  Calls Tryz.prog 110 #[.string (aa (m:Nat)),.int .i64 10,.int .i64 64] w fun e W'=>e = .returned (.tuple #[.int .u64 m,.nilIface])∧Below w.heap.size w W':=by
 have hs:(aa (m:Nat)).size≤301:=aG (lp (by rw [Int.natAbs_natCast];omega))
 refine (Tryz.strconv_ParseUint_10_at64_ok (aa (m:Nat)) (by omega) m (by rw [ay,Lib.itoa_nonneg,uW h]) w).mono ?_
 rintro e W' ⟨he,rfl | rfl⟩
 ·exact ⟨he,Below.refl _ _⟩
 ·exact ⟨he,Go.Joins.below_bytesWorld _ _ _ _ (Nat.le_refl _)⟩
theorem zU (u:Nat) (hu:u<18446744073709551616) (w:World) (ht:Tab w) :
  Calls Tryz.prog 155 #[.int .u64 u,.int .i64 10] w fun e W'=>e = .returned (.string (aa (u:Nat)))∧Below w.heap.size w W':=by
 have hstr:aa (u:Nat)=⟨(Lib.decDigits u).toArray⟩:=by unfold aa;rw [Lib.itoa_nonneg]
 rw [hstr]
 clear hstr
 by_cases hs:u<100
 ·have C:=Ha (fun W=>Tryz.internal_strconv_small u hs W)
  have iu:(u:Int)<100:=by omega
  have i0:(0:Int)≤u:=by omega
  clear hs
  generalize (⟨(Lib.decDigits u).toArray⟩:ByteArray)=r at *
  go_enter Tryz.func155,Tryz.ntmps155
  go_wp2_with fail
  refine (C.out _).mono ?_
  rintro e w' ⟨rfl,rfl⟩
  go_wp2
  go_ret
  exact ⟨rfl,Below.refl _ _⟩
 ·have hu1:1≤u:=by omega
  have iu:¬ (u:Int)<100:=by omega
  have hnd20:Lib.nDigits u≤20:=by have:=Lib.numDigits_eq u hu1 hu;split at this <;> omega
  have hsl:∀ W,(Instr.sliceAt 219 (.pointer (some ⟨w.heap.size,0,none⟩)) none (some (.int .i64 (Lib.nDigits u:Int))) none).run Tryz.prog W = .ok (.slice (some ⟨w.heap.size,0,none⟩) (Lib.nDigits u) 24) W:=fun W=>by
   rw [run_sliceAt_array_h W 219 ⟨w.heap.size,0,none⟩ (by kernel_rfl) .i64 (Lib.nDigits u:Int) (by omega) (by rw [show Tryz.prog.arrayLen 219=24 by kernel_rfl];omega)]
   rw [show Tryz.prog.arrayLen 219=24 by kernel_rfl]
   go_simp
  have hH0:=Lib.holds_zero0 w 219 (Lib.nDigits u) (by omega)
  have hfmt:=Tryz.internal_strconv_formatBase10 w.heap.size 0 24 u (Array.replicate (Lib.nDigits u) 0) (w.alloc (.cells Lib.zeros24 219)) hH0 (by rw [Array.size_replicate];exact Lib.lt_pow_nDigits u) hu (by rw [Array.size_replicate];omega)
  rw [Array.size_replicate] at hfmt
  have hnum:=Tryz.internal_strconv_numDigits u hu1 hu (w.alloc (.cells Lib.zeros24 219)) (Lib.tabIs_alloc ht _)
  have HH:=Ha (Hb hH0 (Hb hfmt hnum))
  clear hH0 hfmt hnum
  go_enter Tryz.func155,Tryz.ntmps155
  go_wp2_with fail
  refine HH.out.2.2.mono ?_
  rintro e w' ⟨rfl,rfl⟩
  go_wp2_with fail
  refine HH.out.2.1.mono ?_
  rintro e w' ⟨rfl,k,v',dk,rfl,hF⟩
  have hcv:(convert 115 9 (.slice (some ⟨w.heap.size,0,none⟩) (Lib.nDigits u) 24)).run Tryz.prog ((putRow (fun (b:UInt8)=>Value.int .u8 (b.toNat:Int)) (w.alloc (.cells Lib.zeros24 219)) w.heap.size 0 dk).drewN k) = .ok (.string ⟨(Lib.decDigits u).toArray⟩) ((putRow (fun (b:UInt8)=>Value.int .u8 (b.toNat:Int)) (w.alloc (.cells Lib.zeros24 219)) w.heap.size 0 dk).drewN k):=by
   have h:=run_convert_bytes_back (P:=Tryz.prog) ((putRow (fun (b:UInt8)=>Value.int .u8 (b.toNat:Int)) (w.alloc (.cells Lib.zeros24 219)) w.heap.size 0 dk).drewN k) 115 9 5 ⟨w.heap.size,0,none⟩ 24 (Lib.decDigits u) Tryz.underlying115 Tryz.underlying5 Tryz.underlying9 (fun j hj=>by
    rw [Lib.row_is_numeral hF j hj,Lib.add_plain,World.cell?_drewN]
    exact cell?_putRow (fun (b:UInt8)=>Value.int .u8 (b.toNat:Int)) _ w.heap.size 0 _ dk HH.out.1 (by rw [hF.size,Array.size_replicate]) j (by rw [hF.size];rw [Lib.decDigits_length] at hj;exact hj))
   rw [Lib.decDigits_length] at h
   exact h
  obtain ⟨os,eo⟩:=Lib.fin_at w (.cells Lib.zeros24 219) dk k 0
  have hbl:Below w.heap.size w ((putRow (fun (b:UInt8)=>Value.int .u8 (b.toNat:Int)) (w.alloc (.cells Lib.zeros24 219)) w.heap.size 0 dk).drewN k):=by rw [eo];exact Lib.below_grow _ _ (Nat.le_refl _) _ _
  generalize (putRow (fun (b:UInt8)=>Value.int .u8 (b.toNat:Int)) (w.alloc (.cells Lib.zeros24 219)) w.heap.size 0 dk).drewN k=W2 at *
  have HB:=Ha hbl
  clear hbl eo
  go_wp2
  go_ret
  exact ⟨rfl,HB.out⟩
theorem zH (u:Nat) (hu:u<18446744073709551616) (w:World) (ht:Tab w) :
  Calls Tryz.prog 112 #[.int .u64 u,.int .i64 10] w fun e W'=>e = .returned (.string (aa (u:Nat)))∧Below w.heap.size w W':=by
 have C:=Ha (zU u hu w ht);clear ht
 generalize aa (u:Nat)=r at *
 go_enter Tryz.func112,Tryz.ntmps112
 go_wp2_with fail
 refine C.out.mono ?_
 rintro e w' ⟨rfl,b⟩
 have B1:=Ha b;clear b
 go_wp2
 go_ret
 exact ⟨rfl,B1.out⟩
end T
namespace T
open Go.Proofs.YtjdomibbaemdnaaGreatDoor Go Go.RowKit Go.Shelf
def A25:Array Value := #[.int .u64 2,.int .u64 3,.int .u64 5,.int .u64 7,.int .u64 11,.int .u64 13,.int .u64 17,.int .u64 19,.int .u64 23,.int .u64 29,.int .u64 31,.int .u64 37,.int .u64 41,.int .u64 43,.int .u64 47,.int .u64 53,.int .u64 59,.int .u64 61,.int .u64 67,.int .u64 71,.int .u64 73,.int .u64 79,.int .u64 83,.int .u64 89,.int .u64 97]
def Sm (w:World):Prop:=∃ t fr,w.heap[0]? = some (.cells A25 t fr)
theorem Sm.next {w W:World} (h:Sm w) (b:Below w.heap.size w W):Sm W:=by
 obtain ⟨t,fr,h⟩:=h
 exact ⟨t,fr,(b.block _ (Array.getElem?_eq_some_iff.1 h).1).trans h⟩
theorem kh {F:Fence} {n:Nat} {P:Program} {w:World} {ops:Array Oper} {rest:List Oper} {o:Oper} {a:Act} {Q:Exit→Act→World→Prop} (hgd:o.guard=none) (ty:TypeId) (x:Operand) (ho:o.op = .load ty x)
  (v:Value) (hx:(Instr.loadAt ty (a.eval x)).run P w = .ok v w) (h:wpListIn F n P ops Q rest (a.put o.dst v) w):wpListIn F n P ops Q (o::rest) a w:=by
 refine wpListIn_plain hgd fun K hK => ?_
 unfold Oper.wpIn
 refine ⟨by simp [Oper.about,ho],?_⟩
 rw [Oper.semAt_plain F _ _ (by rw [ho];intro c hc';cases hc')]
 simp [execOp,ho,hx,Result.andThen]
 exact hK _ _ h
theorem zV {W:World} (h:Sm W):(Instr.loadAt 178 (.pointer (some ⟨0,0,none⟩))).run Tryz.prog W = .ok (.agg A25) W:=by
 obtain ⟨t,fr,h⟩:=h
 simp only [Instr.loadAt,Instr.sureAddr,Sem.run_bind,Sem.run_pure,Result.andThen_ok]
 exact run_loadVar_row W _ t 178 A25 fr _ h Tryz.underlying178 rfl (by kernel_rfl)
theorem Bc (W:World):(Instr.index 178 (.agg A25) (.int .i64 0)).run Tryz.prog W = .ok (.int .u64 2) W:=by kernel_rfl
theorem Be (W:World):(Instr.index 178 (.agg A25) (.int .i64 1)).run Tryz.prog W = .ok (.int .u64 3) W:=by kernel_rfl
theorem Bf (W:World):(Instr.index 178 (.agg A25) (.int .i64 2)).run Tryz.prog W = .ok (.int .u64 5) W:=by kernel_rfl
theorem Bg (W:World):(Instr.index 178 (.agg A25) (.int .i64 3)).run Tryz.prog W = .ok (.int .u64 7) W:=by kernel_rfl
theorem Bh (W:World):(Instr.index 178 (.agg A25) (.int .i64 4)).run Tryz.prog W = .ok (.int .u64 11) W:=by kernel_rfl
theorem Bi (W:World):(Instr.index 178 (.agg A25) (.int .i64 5)).run Tryz.prog W = .ok (.int .u64 13) W:=by kernel_rfl
theorem Bj (W:World):(Instr.index 178 (.agg A25) (.int .i64 6)).run Tryz.prog W = .ok (.int .u64 17) W:=by kernel_rfl
theorem Bk (W:World):(Instr.index 178 (.agg A25) (.int .i64 7)).run Tryz.prog W = .ok (.int .u64 19) W:=by kernel_rfl
theorem Bl (W:World):(Instr.index 178 (.agg A25) (.int .i64 8)).run Tryz.prog W = .ok (.int .u64 23) W:=by kernel_rfl
theorem Bm (W:World):(Instr.index 178 (.agg A25) (.int .i64 9)).run Tryz.prog W = .ok (.int .u64 29) W:=by kernel_rfl
theorem zW (W:World):(Instr.index 178 (.agg A25) (.int .i64 10)).run Tryz.prog W = .ok (.int .u64 31) W:=by kernel_rfl
theorem zX (W:World):(Instr.index 178 (.agg A25) (.int .i64 11)).run Tryz.prog W = .ok (.int .u64 37) W:=by kernel_rfl
theorem zY (W:World):(Instr.index 178 (.agg A25) (.int .i64 12)).run Tryz.prog W = .ok (.int .u64 41) W:=by kernel_rfl
theorem zZ (W:World):(Instr.index 178 (.agg A25) (.int .i64 13)).run Tryz.prog W = .ok (.int .u64 43) W:=by kernel_rfl
theorem z8 (W:World):(Instr.index 178 (.agg A25) (.int .i64 14)).run Tryz.prog W = .ok (.int .u64 47) W:=by kernel_rfl
theorem Aa (W:World):(Instr.index 178 (.agg A25) (.int .i64 15)).run Tryz.prog W = .ok (.int .u64 53) W:=by kernel_rfl
theorem Ab (W:World):(Instr.index 178 (.agg A25) (.int .i64 16)).run Tryz.prog W = .ok (.int .u64 59) W:=by kernel_rfl
theorem Ac (W:World):(Instr.index 178 (.agg A25) (.int .i64 17)).run Tryz.prog W = .ok (.int .u64 61) W:=by kernel_rfl
theorem Ad (W:World):(Instr.index 178 (.agg A25) (.int .i64 18)).run Tryz.prog W = .ok (.int .u64 67) W:=by kernel_rfl
theorem Ae (W:World):(Instr.index 178 (.agg A25) (.int .i64 19)).run Tryz.prog W = .ok (.int .u64 71) W:=by kernel_rfl
theorem Af (W:World):(Instr.index 178 (.agg A25) (.int .i64 20)).run Tryz.prog W = .ok (.int .u64 73) W:=by kernel_rfl
theorem Ag (W:World):(Instr.index 178 (.agg A25) (.int .i64 21)).run Tryz.prog W = .ok (.int .u64 79) W:=by kernel_rfl
theorem Ah (W:World):(Instr.index 178 (.agg A25) (.int .i64 22)).run Tryz.prog W = .ok (.int .u64 83) W:=by kernel_rfl
theorem Ai (W:World):(Instr.index 178 (.agg A25) (.int .i64 23)).run Tryz.prog W = .ok (.int .u64 89) W:=by kernel_rfl
theorem Aj (W:World):(Instr.index 178 (.agg A25) (.int .i64 24)).run Tryz.prog W = .ok (.int .u64 97) W:=by kernel_rfl
theorem Bo (k x:Nat) (h:af[k]? = some x) (W:World) :
  (Instr.index 178 (.agg A25) (.int .i64 (k:Int))).run Tryz.prog W = .ok (.int .u64 (x:Int)) W:=by
 have hk:k<25:=(List.getElem?_eq_some_iff.1 h).1
 match k,h,hk with
 | 0,h,_=>obtain rfl:=Option.some.inj (show some 2=some x from h);exact Bc W
 | 1,h,_=>obtain rfl:=Option.some.inj (show some 3=some x from h);exact Be W
 | 2,h,_=>obtain rfl:=Option.some.inj (show some 5=some x from h);exact Bf W
 | 3,h,_=>obtain rfl:=Option.some.inj (show some 7=some x from h);exact Bg W
 | 4,h,_=>obtain rfl:=Option.some.inj (show some 11=some x from h);exact Bh W
 | 5,h,_=>obtain rfl:=Option.some.inj (show some 13=some x from h);exact Bi W
 | 6,h,_=>obtain rfl:=Option.some.inj (show some 17=some x from h);exact Bj W
 | 7,h,_=>obtain rfl:=Option.some.inj (show some 19=some x from h);exact Bk W
 | 8,h,_=>obtain rfl:=Option.some.inj (show some 23=some x from h);exact Bl W
 | 9,h,_=>obtain rfl:=Option.some.inj (show some 29=some x from h);exact Bm W
 | 10,h,_=>obtain rfl:=Option.some.inj (show some 31=some x from h);exact zW W
 | 11,h,_=>obtain rfl:=Option.some.inj (show some 37=some x from h);exact zX W
 | 12,h,_=>obtain rfl:=Option.some.inj (show some 41=some x from h);exact zY W
 | 13,h,_=>obtain rfl:=Option.some.inj (show some 43=some x from h);exact zZ W
 | 14,h,_=>obtain rfl:=Option.some.inj (show some 47=some x from h);exact z8 W
 | 15,h,_=>obtain rfl:=Option.some.inj (show some 53=some x from h);exact Aa W
 | 16,h,_=>obtain rfl:=Option.some.inj (show some 59=some x from h);exact Ab W
 | 17,h,_=>obtain rfl:=Option.some.inj (show some 61=some x from h);exact Ac W
 | 18,h,_=>obtain rfl:=Option.some.inj (show some 67=some x from h);exact Ad W
 | 19,h,_=>obtain rfl:=Option.some.inj (show some 71=some x from h);exact Ae W
 | 20,h,_=>obtain rfl:=Option.some.inj (show some 73=some x from h);exact Af W
 | 21,h,_=>obtain rfl:=Option.some.inj (show some 79=some x from h);exact Ag W
 | 22,h,_=>obtain rfl:=Option.some.inj (show some 83=some x from h);exact Ah W
 | 23,h,_=>obtain rfl:=Option.some.inj (show some 89=some x from h);exact Ai W
 | 24,h,_=>obtain rfl:=Option.some.inj (show some 97=some x from h);exact Aj W
theorem m6 {k x:Nat} (h:af[k]? = some x):af=af.take k++x::af.drop (k+1)∧af.take (k+1)=af.take k ++ [x]:=by
 obtain ⟨hk,e⟩:=List.getElem?_eq_some_iff.1 h
 refine ⟨?_,?_⟩
 ·rw [←e,List.getElem_cons_drop];exact (List.take_append_drop k af).symm
 ·rw [List.take_succ_eq_append_getElem hk,e]
theorem gI {x:Nat} (h:x∈af):2≤x∧x≤97:=by
 revert x;decide
theorem iG {x:Nat} (h:x∈af):x*x≤9409:=by
 have:=(gI h).2
 exact Nat.mul_le_mul this this
section
attribute [local go_sem] Oper.semAt_some
theorem ki (n:Nat) (w:World) (hn:1≤n) (hS:Sm w) :
  wq Fence.wide n Tryz.prog 111 #[] (fun p:Nat => #[Value.int .u64 (p:Int),Value.int .u64 ((p:Int)*(p:Int))]) af w:=by
 intro l J Jx W hb hJa hJd hY h0
 have hSW:=hS.next hb
 have hload:=zV hSW
 have HI:=Ha Bo
 have HY:=Ha hY
 have H0:=Ha h0
 clear hY h0 hSW hS hb hJa hJd
 refine callsIn_of_wp Tryz.func111 rfl trivial ?_ rfl
 simp only [Tryz.ntmps111,List.size_toArray,List.length_cons,List.length_nil,Nat.reduceAdd,Nat.reduceSub,Array.replicate_succ,Array.replicate_zero,List.push_toArray,List.append_toArray,List.nil_append,List.cons_append]
 gi_wp2_with (refine kh rfl 178 _ rfl _ hload ?_)
 clear hload
 generalize A25=A at *
 gi_loopw [5] (fun i wr=>∃ k:Nat,k≤25∧i = .int .i64 k∧Hid (J (af.take k) wr)) (fun i _=>25 - (RowKit.intOf i).toNat)
 case atStart=>exact ⟨0,by omega,rfl,H0⟩
 case round =>
  clear H0
  obtain ⟨k,hk,rfl,hJs⟩:=hrel
  by_cases hlt:k<25
  ·obtain ⟨x,hx⟩:∃ x,af[k]? = some x:=⟨_,List.getElem?_eq_getElem hlt⟩
   have hidx:=HI.out k x hx
   have hmem:x∈af:=List.mem_of_getElem? hx
   obtain ⟨s1,s2⟩:=m6 hx
   obtain ⟨fn,tmps,assign,body,hy,hR⟩:=HY.out (af.take k) x (af.drop (k+1)) wr s1 hJs.out
   have hmul:IntKind.u64.wrap ((x:Int)*(x:Int))=(x:Int)*(x:Int):=by
    rw [IntKind.wrap_u64]
    have h1:=iG hmem
    have h2:((x*x:Nat):Int)=(x:Int)*(x:Int):=Int.natCast_mul x x
    omega
   have HR:=Ha hR;clear hR
   have HS:=Ha s2;clear s1 s2 hx hmem
   try dsimp only at hy
   generalize (x:Int)=z at *
   gi_wp2
   refine HR.out.mono ?_
   clear HR
   rintro e W3 (⟨rfl,hJ3,hk3⟩ | ⟨rfl,hJx3⟩)
   ·have HJ:=Ha hJ3;clear hJ3 hk3
    gi_wp2
    go_roundw
    case rel=>exact ⟨k+1,by omega,by simp,by show J _ _;rw [HS.out];exact HJ.out⟩
    case measure=>simp [RowKit.intOf];omega
   ·have HJ:=Ha hJx3;clear hJx3
    gi_wp2
    refine bodyPost_ret (results_none rfl _ _ _) rfl ?_
    exact ⟨⟨_,rfl⟩,.inr ⟨_,af.drop (k+1),by rw [←HS.out,List.take_append_drop],HJ.out⟩⟩
  ·have hx:Hid (af.take k=af):=Ha (List.take_of_length_le (by show 25≤k;omega))
   gi_wp2
   go_end0
   exact ⟨⟨_,rfl⟩,.inl (by have:=hJs.out;rwa [hx.out] at this)⟩
end
end T
end Go.Proofs.YtjdomibbaemdnaaGreatDoor
