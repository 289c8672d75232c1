/- Parts of the proof. -/
import Derived.Maps.AppendAt
import Derived.RegionIn
import Derived.Shelf.RegionOpen
import Derived.Test.YtbhbhlfkdlfimaaGreatDoorQX19
set_option linter.all false
set_option maxRecDepth 100000
set_option maxHeartbeats 8000000
namespace Go.Proofs.YtbhbhlfkdlfimaaGreatDoor
namespace T
open Go.Proofs.YtbhbhlfkdlfimaaGreatDoor Go Go.RowKit Go.Lib Go.Shelf
theorem Bh:(Tryz.prog.info? 9).map (fun i=>(i.zero,i.size,i.bytes))=some (some (.string ⟨#[]⟩),1,16):=by kernel_rfl
theorem Bi (a b:Nat):((aa (a:Int)).toList==(aa (b:Int)).toList)=decide (a=b):=by
 rw [ByteArray.toList_eq,ByteArray.toList_eq,aF,aF]
 by_cases h:a=b
 ·subst h;simp
 ·rw [decide_eq_false h,beq_eq_false_iff_ne];intro e;exact h (Int.ofNat.inj (eJ e))
noncomputable def rtV (m:Nat):Value := .string (aa (am m:Nat))
section
attribute [local go_sem] Oper.semAt_some
theorem Bj {W W':World} {base m:Nat} {v:Value} {xs:List Value} (h:W.ownsRow base 9 1 v m xs) (g:Below W.heap.size W W'):W'.ownsRow base 9 1 v m xs :=
 h.kept (df g) (by
  rcases v.ownBlock with _ | g
  ·exact .inl rfl
  ·exact .inr (by simp))
structure RtAt (w:World) (base:Nat) (xs pre:List Nat) (v:Value) (W0 W:World):Prop where
 b1:Boxed W (w.heap.size+1) 30 (.string ⟨#[]⟩)
 b2:Boxed W (w.heap.size+1+1) 4 (.bool false)
 b3:Boxed W (w.heap.size+1+1+1) 320 v
 row:W.ownsRow w.heap.size 9 1 v pre.length (pre.map rtV)
 nil:v = .slice none 0 0↔pre = []
 sq:∀ m∈pre,am m*am m=m
 below:Below w.heap.size w W
 from_:KeepsFrom base W0 W
 kb:Kb base W0 W
theorem RtAt.next {w:World} {base:Nat} {xs pre:List Nat} {v:Value} {W0 W W':World} (h:RtAt w base xs pre v W0 W) (b:Below W.heap.size W W'):RtAt w base xs pre v W0 W' :=
 ⟨h.b1.kept (df b) (by simp),h.b2.kept (df b) (by simp),h.b3.kept (df b) (by simp),Bj h.row b,h.nil,h.sq,h.below.trans (b.mono h.below.size),h.from_.trans (KeepsFrom.of_grownBy (df b) (fun j e=>by cases e)),h.kb.trans (Kb.of_below b)⟩
theorem zq {W:World} {base g cap:Nat} {x y:Value} (h:W.ownsRow base 9 1 (.slice (some ⟨g,0,none⟩) 2 cap) 2 [x,y]) :
  W.cell? ⟨g,0,none⟩=some x∧W.cell? ⟨g,1,none⟩=some y∧base≤g:=by
 obtain ⟨_,(⟨h1,_⟩ | ⟨g',cap',cur,e,hb,hh,hn,_,hs,ht⟩)⟩:=h
 ·cases h1
 ·cases e
  have hl:cur.toList.length=cap*1:=by simpa using hs
  have c0:cur.toList[0]? = some x:=by rw [←List.getElem?_take_of_lt (j:=2) (by omega)];rw [show 2*1=2 from rfl] at ht;rw [ht];rfl
  have c1:cur.toList[1]? = some y:=by rw [←List.getElem?_take_of_lt (j:=2) (by omega)];rw [show 2*1=2 from rfl] at ht;rw [ht];rfl
  refine ⟨?_,?_,hb⟩
  ·unfold World.cell?; simp only [hh];simpa using c0
  ·unfold World.cell?; simp only [hh];simpa using c1
theorem DD (n d:Nat) (r:ByteArray) (rv:Value) (w:World) (hn:n<lim) (hd:d<lim) (ht:Tab w) (hv1:am n*am n=n∧am d*am d=d→rv = .tuple #[.string r,.bool true]) (hv2:¬ (am n*am n=n∧am d*am d=d)→rv = .tuple #[.string ⟨#[]⟩,.bool false])
  (hr:am n*am n=n∧am d*am d=d→∀ W,Below w.heap.size w W→Calls Tryz.prog 257 #[.agg #[.string (aa (am n:Nat)),.string (aa (am d:Nat))]] W fun e W'=>e = .returned (.string r)∧Below W.heap.size W W') :
  Calls Tryz.prog 248 #[.agg #[.string (aa n),.string (aa d)]] w fun e W'=>e = .returned rv∧Below w.heap.size w W':=by
 refine (callsIn_wide (n:=9)).1 ?_
 obtain ⟨i0,hi,hz0,hz1,hz2⟩:=info_parts Bh
 have HI:=Ha (Hb hi (Hb hz0 (Hb hz1 hz2)));clear hi hz0 hz1 hz2
 have hm:∀ m ∈ [n,d],m<lim:=by intro m hm;simp at hm;rcases hm with rfl | rfl <;> assumption
 have C1:Hid (∀ m ∈ [n,d],∀ W,Below w.heap.size w W→Calls Tryz.prog 278 #[.string (aa (m:Nat))] W fun e W'=>e = .returned (.string (aa (am m:Nat)))∧Below W.heap.size W W') :=
  Ha (fun m h W hW=>by
   have c:=xz (m:Nat) W (Int.natCast_nonneg _) (aq.2 (hm m h)) (ht.next hW)
   rwa [Int.natAbs_natCast] at c)
 have C2:Hid (∀ m ∈ [n,d],∀ W,Below w.heap.size w W→Calls Tryz.prog 277 #[.string (aa (am m:Nat)),.string (aa (am m:Nat))] W fun e W'=>e = .returned (.string (aa (((am m:Nat):Int)*((am m:Nat):Int))))∧Below W.heap.size W W') :=
  Ha (fun m h W hW=>by
   have h1:=(bZ m).1
   have h2:am m≤m:=di
   have h3:=hm m h
   exact ol (am m:Nat) (am m:Nat) W (aq.2 (by omega)) (aq.2 (by omega)) (by rw [←Int.natCast_mul];exact aq.2 (by omega)) (ht.next hW))
 have C3:=Ha hr;have HV:=Ha (Hb hv1 hv2);clear hr hm hn hd ht hv1 hv2
 refine callsIn_of_wp_marks Tryz.func248 rfl trivial ?_ rfl
 simp only [Tryz.ntmps248,List.size_toArray,List.length_cons,List.length_nil,Nat.reduceAdd,Nat.reduceSub,Array.replicate_succ,Array.replicate_zero,List.push_toArray,List.append_toArray,List.nil_append,List.cons_append]
 gi_wp2
 have b0:=((Boxed.new (w.alloc (.cells #[.string (aa n),.string (aa d)] 295)) 30 (.string ⟨#[]⟩)).alloc (.cells #[.bool false] 4)).alloc (.cells #[.slice none 0 0] 320)
 have b1:=(Boxed.new ((w.alloc (.cells #[.string (aa n),.string (aa d)] 295)).alloc (.cells #[.string ⟨#[]⟩] 30)) 4 (.bool false)).alloc (.cells #[.slice none 0 0] 320)
 have b2:=Boxed.new (((w.alloc (.cells #[.string (aa n),.string (aa d)] 295)).alloc (.cells #[.string ⟨#[]⟩] 30)).alloc (.cells #[.bool false] 4)) 320 (.slice none 0 0)
 simp only [World.size_alloc] at b0 b1 b2
 have hB0:Below w.heap.size w ((((w.alloc (.cells #[.string (aa n),.string (aa d)] 295)).alloc (.cells #[.string ⟨#[]⟩] 30)).alloc (.cells #[.bool false] 4)).alloc (.cells #[.slice none 0 0] 320)) :=
  ((((Below.refl _ w).alloc (Nat.le_refl _) _).alloc (by simp) _).alloc (by simp;omega) _).alloc (by simp;omega) _
 have hsz:((((w.alloc (.cells #[.string (aa n),.string (aa d)] 295)).alloc (.cells #[.string ⟨#[]⟩] 30)).alloc (.cells #[.bool false] 4)).alloc (.cells #[.slice none 0 0] 320)).heap.size=w.heap.size+1+1+1+1:=by simp
 generalize (((w.alloc (.cells #[.string (aa n),.string (aa d)] 295)).alloc (.cells #[.string ⟨#[]⟩] 30)).alloc (.cells #[.bool false] 4)).alloc (.cells #[.slice none 0 0] 320)=W4 at *
 have HB:=Ha (Hb hB0 (Hb hsz (Hb b0 (Hb b1 b2))));clear b0 b1 b2 hB0 hsz
 refine ij rfl (by omega) (gf:=274) (fs := #[.agg #[.string (aa n),.string (aa d)]]) rfl trivial (enters_of Tryz.func274 (by kernel_rfl) rfl)
  (iJ (fun m:Nat=>aa (m:Nat)) n d (9 - 1) W4 (by omega)) (fun _=>rfl) .ret (.inl rfl)
  (fun pre W=>((Boxed W (w.heap.size+1) 30 (.string ⟨#[]⟩)∧Boxed W (w.heap.size+1+1) 4 (.bool false))∧((∃ v,Boxed W (w.heap.size+1+1+1) 320 v∧W.ownsRow w.heap.size 9 1 v pre.length (pre.map rtV)∧(v = .slice none 0 0↔pre = []))∧(∀ m∈pre,am m*am m=m)))∧Below w.heap.size w W)
  (fun pre W=>(((∃ m ∈ [n,d],am m*am m≠m))∧(Boxed W (w.heap.size+1) 30 (.string ⟨#[]⟩)∧Boxed W (w.heap.size+1+1) 4 (.bool false)))∧Below w.heap.size w W)
  (OwnFrom.and (OwnFrom.and (OwnFrom.and (Own.from (boxed_own _ _ (fun _ => .string ⟨#[]⟩)) _) (Own.from (boxed_own _ _ (fun _ => .bool false)) _)) (OwnFrom.and (Own.from (holdsRow_own w.heap.size _ _ _ 1 (fun pre:List Nat=>pre.length) (fun pre=>pre.map rtV) (fun pre v=>v = .slice none 0 0↔pre = [])) _) (ownFrom_pure _ _))) (ownFrom_below (Nat.le_refl _) (by rw [HB.out.2.1];omega)))
  (OwnFrom.and (OwnFrom.and (ownFrom_pure _ _) (OwnFrom.and (Own.from (boxed_own _ _ (fun _ => .string ⟨#[]⟩)) _) (Own.from (boxed_own _ _ (fun _ => .bool false)) _))) (ownFrom_below (Nat.le_refl _) (by rw [HB.out.2.1];omega)))
  (fun s A h=>⟨⟨⟨h.1.1.1,h.1.1.2⟩,h.1.2⟩,h.2.drew⟩)
  ⟨⟨⟨HB.out.2.2.1,HB.out.2.2.2.1⟩,⟨_,HB.out.2.2.2.2,World.ownsRow_nil _ _ _ _,by simp⟩,fun _ h=>by cases h⟩,HB.out.1⟩
  (fun m=>{ tmps := #[.agg #[.string (aa n),.string (aa d)],.pointer (some ⟨w.heap.size,0,none⟩),.pointer (some ⟨w.heap.size+1,0,none⟩),.pointer (some ⟨w.heap.size+1+1,0,none⟩),.pointer (some ⟨w.heap.size+1+1+1,0,none⟩),.string (aa (m:Nat)),undef,.agg #[.string (aa n),.string (aa d)],.func (.func 274) #[.agg #[.string (aa n),.string (aa d)]] #[],.string (aa (m:Nat)),undef,undef,undef,undef,undef,undef,undef,undef,undef,undef,undef,undef,undef,undef,undef,undef,undef,undef,undef],defers := [] }) ?assign ?body ?done ?stop
 case assign =>
  intro l x W K hK
  gi_wp2
  exact hK
 case body =>
  rintro l pre x r' W hle hx ⟨⟨⟨h1,h2⟩,⟨v,h3,hrow,hnil⟩,hsq⟩,hB⟩
  have hmem:x ∈ [n,d]:=by rw [hx];simp
  have H:=Ha (⟨h1,h2,h3,hrow,hnil,hsq,hB,KeepsFrom.refl _ _,Kb.refl _ _⟩:RtAt w W4.heap.size [n,d] pre v W W)
  have c1:=C1.out x hmem
  have c2:=C2.out x hmem
  have hbe:=Bi (am x*am x) x
  rw [Int.natCast_mul] at hbe
  have hbn:((aa (((am x:Nat):Int)*((am x:Nat):Int))).toList != (aa (x:Int)).toList) = !decide (am x*am x=x):=by rw [bne,hbe]
  have HX:=Ha (Hb hx (Hb hmem hle));clear hx hmem hle h1 h2 h3 hrow hnil hsq hB
  have CC:=Ha (Hb c1 c2);clear c1 c2
  gi_wp2_with fail
  refine ⟨trivial,?_⟩
  refine (CallsIn.inRound l (callsIn_wide.2 (CC.out.1 _ H.out.below))).mono ?_
  rintro e w1 ⟨rfl,b⟩
  have HN:=Ha (H.out.next b);clear H b;have H:=HN;clear HN
  gi_wp2_with fail
  refine ⟨trivial,?_⟩
  refine (CallsIn.inRound l (callsIn_wide.2 (CC.out.2 _ H.out.below))).mono ?_
  rintro e w2 ⟨rfl,b⟩
  have HN:=Ha (H.out.next b);clear H b;have H:=HN;clear HN
  by_cases hq:am x*am x=x
  ·have HQ:=Ha hq
   rw [decide_eq_true hq] at hbe hbn
   change _=false at hbn
   clear hq
   have hc3:=H.out.b3.cell
   have hlen:pre.length≤1:=by have:=congrArg List.length HX.out.1;simp at this;omega
   gi_wp2_with (gi_at_builtin;refine wpListIn_append_own _ rfl _ _ 320 rfl w.heap.size 9 i0 (.string ⟨#[]⟩) 1 16 Tryz.underlying320 HI.out.1 HI.out.2.1 HI.out.2.2.1 HI.out.2.2.2 rfl (by decide) _ _ _ rfl (H.out.row.alloc _) ⟨w2.heap.size,0,none⟩ 1 1 [rtV x] rfl rfl (cell_one_new _ _ _) (by simp [Value.oneCell',rtV]) (by unfold maxLen;omega) (by omega) (by have:=H.out.below.size;simp;omega) ?_;intro v' w3 hown' hgrow _;obtain ⟨g',cap',rfl⟩:=ownsRow_succ hown';obtain ⟨hv1,hv2,hr2,hk2,hb2⟩:=H.out.b3.appended (by decide) H.out.row H.out.below.size (by omega) hown' hgrow;have hc1:=hv1.cell;have hf1:=hv1.frozen)
   have k1:=((H.out.b1.alloc _).kept hgrow (H.out.b1.not_row (by decide) H.out.row)).other (B':=w.heap.size+1+1+1) (by omega) (.slice (some ⟨g',0,none⟩) (pre.length+1) cap')
   have k2:=((H.out.b2.alloc _).kept hgrow (H.out.b2.not_row (by decide) H.out.row)).other (B':=w.heap.size+1+1+1) (by omega) (.slice (some ⟨g',0,none⟩) (pre.length+1) cap')
   refine ⟨H.out.from_.trans (hk2.from _),fun hr => ?_,⟨⟨⟨k1,k2⟩,⟨_,hv2,by simpa using hr2,by simp⟩,fun m hm => ?_⟩,H.out.below.trans hb2⟩⟩
   ·have hp:pre = []:=by
     have h1:=congrArg List.length HX.out.1
     have h2:0<r'.length:=List.length_pos_iff.2 hr
     simp at h1
     exact List.eq_nil_of_length_eq_zero (by omega)
    have hv0:=H.out.nil.2 hp
    rw [hv0] at hgrow
    exact H.out.kb.trans ((Kb.alloc _ _ _).trans ((Kb.of_grown hgrow).trans (Kb.cell_below (p:=⟨w.heap.size+1+1+1,0,none⟩) (by show w.heap.size+1+1+1<W4.heap.size;rw [HB.out.2.1];omega) _)))
   ·rcases List.mem_append.1 hm with h | h
    ·exact H.out.sq m h
    ·rw [List.mem_singleton.1 h];exact HQ.out
  ·have HQ:=Ha hq
   rw [decide_eq_false hq] at hbe hbn
   change _=true at hbn
   clear hq
   have hc1:=H.out.b1.cell
   have hc2:=H.out.b2.cell
   have hf1:=H.out.b1.frozen
   have hf2:=H.out.b2.frozen
   gi_wp2
   refine ⟨H.out.from_.trans (((KeepsOthers.setCell _ _ _).from _).trans ((KeepsOthers.setCell _ _ _).from _)),rfl,⟨⟨x,HX.out.2.1,HQ.out⟩,(H.out.b1.set _).other (by omega) _,(H.out.b2.other (by omega) _).set _⟩,?_⟩
   exact (H.out.below.setCell (p:=⟨w.heap.size+1,0,none⟩) (by show w.heap.size≤w.heap.size+1;omega) _).setCell (p:=⟨w.heap.size+1+1,0,none⟩) (by show w.heap.size≤w.heap.size+1+1;omega) _
 case done =>
  rintro D W hD ⟨⟨⟨h1,h2⟩,⟨v,h3,hrow,hnil⟩,hsq⟩,hB⟩ hK
  have hs:am n*am n=n∧am d*am d=d:=⟨hsq n (by simp),hsq d (by simp)⟩
  have c3:=C3.out hs
  have hv1:=Ha (HV.out.1 hs)
  obtain ⟨g,cap,rfl⟩:=ownsRow_succ (k:=1) hrow
  obtain ⟨e0,e1,hg⟩:=zq hrow
  have hc3:=h3.cell
  have hgl:g<W.heap.size:=by
   obtain ⟨_,hh⟩:=cells_of_cell e0
   exact (Array.getElem?_eq_some_iff.1 hh.1).1
  have HH:=Ha (Hb h1 (Hb h2 (Hb h3 (Hb hB (Hb hK hD)))));clear h1 h2 h3 hB hK hD hrow hnil hsq hs
  have C4:=Ha c3;clear c3
  unfold rtV at e0 e1
  have hmx:Tryz.prog.follows .mixedOrders=true:=by kernel_rfl
  have d0:=(show World.cell? W.drew ⟨g,0,none⟩=some (.string (aa (am n:Nat))) from e0)
  have d1:=(show World.cell? W.drew ⟨g,1,none⟩=some (.string (aa (am d:Nat))) from e1)
  have d3:=(show World.cell? W.drew ⟨w.heap.size+1+1+1,0,none⟩=some (.slice (some ⟨g,0,none⟩) 2 cap) from hc3)
  gi_wp2
  refine wpIn_mono (Q:=Exit.then _ (fun _ _ _=>False)) ?_ (fun e a' w' h=>by cases e <;> first | exact h | exact h.elim)
  gi_region_with_o (first | (refine ⟨trivial,?_⟩;refine (callsIn_wide.2 (C4.out W.drew HH.out.2.2.2.1.drew)).mono ?_;rintro e w5 ⟨rfl,b⟩;have HG:=Ha (Hb (HH.out.1.kept (W:=W.drew) (df b) (by simp)) (Hb (HH.out.2.1.kept (W:=W.drew) (df b) (by simp)) (Hb (HH.out.2.2.2.1.drew.trans (b.mono HH.out.2.2.2.1.drew.size)) (grownBy_keeps (df b) (fun r e=>by cases e) HH.out.2.2.2.2.1 rfl))));have hc5:=HG.out.1.cell;have hc6:=HG.out.2.1.cell;have hf5:=HG.out.1.frozen;have hf6:=HG.out.2.1.frozen))
  all_goals
   gi_wp2
   have hKd:((w5.setCell ⟨w.heap.size+1,0,none⟩ (.string r)).setCell ⟨w.heap.size+1+1,0,none⟩ (.bool true)).heap[D]? = some (.deferred (some [])) :=
    ((KeepsOthers.setCell w5 ⟨w.heap.size+1,0,none⟩ (.string r)).trans (KeepsOthers.setCell _ ⟨w.heap.size+1+1,0,none⟩ (.bool true))).same D _ (HG.out.2.2.2.trans HH.out.2.2.2.2.1) rfl
   have g0:=(HG.out.1.set (.string r)).other (B':=w.heap.size+1+1) (by omega) (.bool true)
   have g1:=(HG.out.2.1.other (B':=w.heap.size+1) (by omega) (.string r)).set (.bool true)
   have hBB:=(HG.out.2.2.1.setCell (p:=⟨w.heap.size+1,0,none⟩) (by show w.heap.size≤w.heap.size+1;omega) (.string r)).setCell (p:=⟨w.heap.size+1+1,0,none⟩) (by show w.heap.size≤w.heap.size+1+1;omega) (.bool true)
   refine ⟨by simp,.inl ⟨_,_,rfl,run_takeDeferred hKd,?_⟩⟩
   have hc7:=cell_kept g0.cell (grownBy_putObj' _ D (.deferred none)) (fun r e=>by cases e;exact ⟨_,hKd,rfl⟩)
   have hc8:=cell_kept g1.cell (grownBy_putObj' _ D (.deferred none)) (fun r e=>by cases e;exact ⟨_,hKd,rfl⟩)
   refine ⟨.tuple #[.string r,.bool true],?_,by rw [hv1.out],hBB.trans (belowK_b (w:=w) (Nat.le_refl _) _ D _ _ (by have:=HH.out.2.2.2.2.2;rw [HB.out.2.1] at this;omega) hKd rfl rfl)⟩
   simp [results,Tryz.f248,go_sem,hc7,hc8]
 case stop =>
  rintro D pre r' W hD hx ⟨⟨⟨m,hm,hq⟩,h1,h2⟩,hB⟩ hK
  have hs:¬ (am n*am n=n∧am d*am d=d):=fun h=>by
   have hm2:m=n∨m=d:=by simpa using hm
   rcases hm2 with e | e
   ·exact hq (e ▸ h.1)
   ·exact hq (e ▸ h.2)
  have hv2:=Ha (HV.out.2 hs)
  have hc0:=h1.cell
  have hc1:=h2.cell
  have HH:=Ha (Hb hB (Hb hK hD));clear hB hD hs hx hm hq
  gi_wp2
  refine ⟨by simp,.inl ⟨_,_,rfl,run_takeDeferred hK,?_⟩⟩
  have hc5:=cell_kept hc0 (grownBy_putObj' _ D (.deferred none)) (fun r e=>by cases e;exact ⟨_,hK,rfl⟩)
  have hc6:=cell_kept hc1 (grownBy_putObj' _ D (.deferred none)) (fun r e=>by cases e;exact ⟨_,hK,rfl⟩)
  refine ⟨.tuple #[.string ⟨#[]⟩,.bool false],?_,by rw [hv2.out],HH.out.1.trans (belowK_b (w:=w) (Nat.le_refl _) W D _ _ (by have:=HH.out.2.2;rw [HB.out.2.1] at this;omega) hK rfl rfl)⟩
  simp [results,Tryz.f248,go_sem,hc5,hc6]
end
end T
namespace T
open Go.Proofs.YtbhbhlfkdlfimaaGreatDoor Go.Lib
def uN (q u:Rat):Nat:=q.num.natAbs*u.den*u.den
def uD (q u:Rat):Nat:=q.den*u.num.natAbs*u.num.natAbs
theorem xZ {u:Rat} (h:0<u):0<u.num.natAbs:=by
 have h1:=Rat.num_nonneg.2 (Rat.le_of_lt h)
 have h2:u.num≠0:=fun z=>by
  have:u=0:=Rat.num_eq_zero.1 z
  grind
 omega
theorem Fp (q:Rat) {u:Rat} (h:0<u):0<uD q u:=Nat.mul_pos (Nat.mul_pos q.den_pos (xZ h)) (xZ h)
theorem Fq {q u:Rat} (h:0≤q):q.num*u.den*u.den=(uN q u:Int):=by
 unfold uN;rw [Int.natCast_mul,Int.natCast_mul,k7 h]
theorem Fs {q u:Rat} (h:0<u):q.den*u.num*u.num=(uD q u:Int):=by
 unfold uD;rw [Int.natCast_mul,Int.natCast_mul,k7 (Rat.le_of_lt h)]
noncomputable def flN (q u:Rat):Nat:=am (uN q u / uD q u)
end T
namespace T
open Go.Proofs.YtbhbhlfkdlfimaaGreatDoor Go.RowKit Go.Lib
theorem fQ (q:Rat) (w:World) (hq:Sq q) :
  Calls Tryz.prog 246 #[.string (af q)] w fun e W'=>e = .returned (.agg #[.string (aa q.num),.string (aa (q.den:Int))])∧Below w.heap.size w W':=by
 have c:=vN (af q) w hq.size
 rwa [sw,sA] at c
theorem lu {j:Nat} {z:Int} (hj:j≤300) (h:Bd j z):short z:=h.lt hj
theorem Bk (q u:Rat) (j k:Nat) (w:World) (h0:0≤q) (u0:0<u) (hq:Bq j q) (hu:Bq k u) (hj:j+k+k≤300) (ht:Tab w) :
  Calls Tryz.prog 258 #[.string (af q),.string (af u)] w fun e W'=>e = .returned (.agg #[.string (aa (uN q u:Nat)),.string (aa (uD q u:Nat))])∧Below w.heap.size w W':=by
 have n1:=hq.num.mul hu.den
 have d1:=hq.den.mul hu.num
 have n2:=n1.mul hu.den
 have d2:=d1.mul hu.num
 have sq:Sq q:=hq.lim (by omega)
 have su:Sq u:=hu.lim (by omega)
 have c:=zm (af q) (af u) q.num (q.den:Int) u.num (u.den:Int) w sq.n sq.d su.n su.d (lu (by omega) n1) (lu (by omega) d1) (lu (by omega) n2) (lu (by omega) d2) ht
  (fun W _=>fQ q W sq) (fun W _=>fQ u W su)
 rwa [Fq h0,Fs u0] at c
theorem Bl {q u:Rat} {j k:Nat} (hq:Bq j q) (hu:Bq k u):uN q u<ak (j+k+k):=by
 have h:=(hq.num.mul hu.den).mul hu.den
 unfold Bd at h
 rwa [Int.natAbs_mul,Int.natAbs_mul,Int.natAbs_natCast] at h
theorem EE {q u:Rat} {j k:Nat} (hq:Bq j q) (hu:Bq k u):uD q u<ak (j+k+k):=by
 have h:=(hq.den.mul hu.num).mul hu.num
 unfold Bd at h
 rwa [Int.natAbs_mul,Int.natAbs_mul,Int.natAbs_natCast] at h
theorem aV {k:Nat} (h:k≤300) {n:Nat} (hn:n<ak k):n<lim:=Nat.lt_of_lt_of_le hn (aG h)
theorem sF {k n:Nat} (hk:1≤k) (h:n<ak k):Bq k ((n:Nat):Rat) :=
 ⟨by rw [Rat.num_natCast,Int.natAbs_natCast];exact h,by rw [Rat.den_natCast];exact Nat.one_lt_pow (by omega) (by decide)⟩
theorem dR (n:Nat):af ((n:Nat):Rat)=aa (n:Int):=by
 rw [←ji,Rat.intCast_natCast]
theorem qY (n:Nat) (u:Rat) (j k:Nat) (w:World) (hn:n<ak j) (j1:1≤j) (hu:Bq k u) (hj:j+k≤300) (ht:Tab w) (ht2:aH w) :
  Calls Tryz.prog 261 #[.string (aa (n:Int)),.string (af u)] w fun e W'=>e = .returned (.string (af ((n:Rat)*u)))∧Below w.heap.size w W':=by
 have hb:=sF j1 hn
 obtain ⟨a1,a2,_⟩:=a8 hb hu hj
 refine qy _ _ _ 0 w (fun W h => ?_)
 have c:=gz ((n:Nat):Rat) u W (hb.lim (by omega)) (hu.lim (by omega)) (ht.next h) (ae ht2 h)
 rw [a1,a2,dR] at c
 exact c
theorem x6 (q:Rat) (rv:Value) (w:World) (h0:0≤q) (hq:Sq q) (ht:Tab w) (h1:bG q→rv = .tuple #[.string (af (bf q)),.bool true]) (h2:¬ bG q→rv = .tuple #[.string ⟨#[]⟩,.bool false]) :
  Calls Tryz.prog 248 #[.agg #[.string (aa q.num),.string (aa (q.den:Int))]] w fun e W'=>e = .returned rv∧Below w.heap.size w W':=by
 have c:=DD q.num.natAbs q.den (af (bf q)) rv w hq.1 hq.2 ht h1 h2 (fun hs W _ => ?_)
 ·rwa [k7 h0] at c
 ·have e:bf q=Rat.divInt (am q.num.natAbs:Nat) ((am q.den:Nat):Int):=rfl
  have p:0<am q.den:=Nat.pos_of_ne_zero fun z=>by have:=hs.2;rw [z] at this;have:=q.den_pos;omega
  rw [e]
  refine rU _ _ W (by omega) ?_ (aq.2 (Nat.lt_of_le_of_lt di hq.1)) (aq.2 (Nat.lt_of_le_of_lt di hq.2))
  rw [Int.natAbs_natCast,Int.natAbs_natCast]
  refine Nat.Coprime.coprime_dvd_left (k:=q.num.natAbs) ⟨_,hs.1.symm⟩ (Nat.Coprime.coprime_dvd_right (m:=q.den) ⟨_,hs.2.symm⟩ q.reduced)
end T
namespace T
open Go.Proofs.YtbhbhlfkdlfimaaGreatDoor Go Go.RowKit Go.Shelf
theorem wl {β:Type} {B D:Nat} {o:Obj} (hD:D<B):OwnFrom B (fun (_:β) (W:World)=>W.heap[D]? = some o) :=
 fun _ X Y row hs hg hr=>(hg.block D (Array.getElem?_eq_some_iff.1 hs).1 (fun e=>by have:=(hr D e.symm).1;omega)).trans hs
theorem Ft {z:Int} (h:Bd 90 z):(szB (aa z)).size≤90:=by
 rw [Di,lN]
 have h1:Lib.nDigits z.natAbs≤90:=(bh _ 90 (by decide)).2 h
 rw [Lib.itoa_nonneg,Lib.decDigits_length];exact h1
theorem gE (z:Int) (W:World):Calls Tryz.prog 177 #[.string (aa z),.string ⟨#[45]⟩] W fun e W'=>e = .returned (.string (szB (aa z)))∧W=W' :=
 (Tryz.strings_TrimPrefix (aa z) ⟨#[45]⟩ W).mono (fun e W' h=>⟨by rw [h.1,show (⟨#[45]⟩:ByteArray).data.toList = [45] from rfl,oy];rfl,h.2.symm⟩)
section
attribute [local go_sem] Oper.semAt_some
theorem qZ (b:Nat) (q0:Rat) (w:World) (h0:Bq 90 q0) (hx:Sl w b [af q0]) (ht:Tab w) (ht2:aH w) :
  Calls Tryz.prog 244 #[.slice (some ⟨b,0,none⟩) 1 1] w fun e W'=>e = .returned (.int .i64 0)∧Below w.heap.size w W':=by
 refine (callsIn_wide (n:=9)).1 ?_
 have K0:=Ha (fun W (h:Below w.heap.size w W)=>jT q0 W (h0.lim (by decide)) (ht.next h) (ae ht2 h))
 have P0:=Ha (fun W=>fQ q0 W (h0.lim (by decide)))
 have X0:Hid (w.cell? ⟨b,0,none⟩=some (.string (af q0))):=Ha (hx.cell 0 (by simp))
 have B0:Hid (∀ z ∈ [q0.num,(q0.den:Int)],Bd 90 z):=Ha (by
  intro z hz
  have h:z=q0.num∨z=(q0.den:Int):=by simpa using hz
  rcases h with e | e
  ·rw [e];exact h0.num
  ·rw [e];exact h0.den)
 have hbl:=hx.lt
 clear h0 hx ht ht2
 generalize af q0=s0 at *
 generalize q0.num=n0 at *
 generalize (q0.den:Int)=d0 at *
 refine callsIn_of_wp_marks Tryz.func244 rfl trivial ?_ rfl
 simp only [Tryz.ntmps244,List.size_toArray,List.length_cons,List.length_nil,Nat.reduceAdd,Nat.reduceSub,Array.replicate_succ,Array.replicate_zero,List.push_toArray,List.append_toArray,List.nil_append,List.cons_append]
 gi_wp2
 have HB:=Ha (Hb (Boxed.new w 26 (.int .i64 0)) ((Below.refl _ w).alloc (Nat.le_refl _) (.cells #[.int .i64 0] 26)))
 generalize w.alloc (.cells #[.int .i64 0] 26)=V0 at *
 refine wpIn_loop_rounds 2 ?_
 rw [Code.roundsIn]
 have hc:=(HB.out.2.cell (p:=⟨b,0,none⟩) hbl).trans X0.out
 gi_wp2_with fail
 refine ⟨trivial,?_⟩
 refine (callsIn_wide.2 (K0.out _ HB.out.2)).mono ?_
 rintro e w1 ⟨rfl,bb⟩
 clear hc
 have HN:=Ha (Hb (HB.out.1.kept (df bb) (by simp)) (HB.out.2.trans (bb.mono HB.out.2.size)))
 clear HB bb;have HB:=HN;clear HN
 gi_wp2_with fail
 refine ⟨trivial,?_⟩
 refine (callsIn_wide.2 (P0.out _)).mono ?_
 rintro e w2 ⟨rfl,bb⟩
 have HN:=Ha (Hb (HB.out.1.kept (df bb) (by simp)) (HB.out.2.trans (bb.mono HB.out.2.size)))
 clear HB bb;have HB:=HN;clear HN
 have LS0:=Ha HB.out.2.size
 gi_wp2
 refine ij rfl (by omega) (gf:=274) (fs := #[.agg #[.string (aa n0),.string (aa d0)]]) rfl trivial (enters_of Tryz.func274 (by kernel_rfl) rfl)
  (iJ aa n0 d0 (9 - 1) w2 (by omega)) (fun _=>rfl) .ret (.inl rfl)
  (fun _ W=>Boxed W w.heap.size 26 (.int .i64 0)∧Below w.heap.size w W)
  (fun _ _=>False)
  (OwnFrom.and (Own.from (boxed_own _ _ (fun _ => .int .i64 0)) _) (ownFrom_below (Nat.le_refl _) HB.out.2.size))
  (fun _ _ _ _ h _ _=>h)
  (fun s A h=>⟨h.1,h.2.drew⟩)
  (HB.out)
  (fun z=>{ tmps := #[.slice (some ⟨b,0,none⟩) 1 1,undef,.pointer (some ⟨w.heap.size,0,none⟩),undef,.string s0,.int .i64 0,.string (aa z),.slice (some ⟨b,0,none⟩) 1 1,.int .i64 1,.int .i64 0,.bool true,.pointer (some ⟨b,0,none⟩),.string s0,.string s0,.int .i64 0,.int .i64 0,.bool false,undef,.string s0,.agg #[.string (aa n0),.string (aa d0)],.func (.func 274) #[.agg #[.string (aa n0),.string (aa d0)]] #[],.string (aa z),undef,undef,undef,undef,undef],defers := [] }) ?assign0 ?body0 ?done0 ?stop0
 case assign0 =>
  intro l x W K hK
  gi_wp2
  exact hK
 case body0 =>
  rintro l pre z r' W hle hx hI
  have hz:=Ft (B0.out z (by rw [hx];simp))
  have HI:=Ha hI;clear hI hx
  have ct:=Ha (fun W=>gE z W)
  generalize szB (aa z)=u at *
  have hz1:¬ (90:Int)<u.size:=by omega
  have hz2:(u.size:Int)≤9223372036854775807:=by omega
  gi_wp2_with fail
  refine ⟨trivial,?_⟩
  refine (CallsIn.inRound l (callsIn_wide.2 (ct.out _))).mono ?_
  rintro e w3 ⟨rfl,rfl⟩
  gi_wp2
  exact ⟨KeepsFrom.refl _ _,fun _=>Kb.refl _ _,HI.out⟩
 case stop0 =>
  rintro D pre r' W hD hx h hK
  exact h.elim
 case done0 =>
 rintro D0 V1 hD0 hBx hM0
 have HN:=Ha hBx
 have HE0:=Ha hD0
 have LO0:Hid (w.heap.size≤D0):=Ha (Nat.le_trans LS0.out HE0.out)
 clear HB hBx hD0;have HB:=HN;clear HN
 have HM0:=Ha hM0;clear hM0
 gi_wp2
 rw [Code.roundsIn]
 have hc:=HB.out.1.cell
 have hf:=HB.out.1.frozen
 gi_wp2
 have g:=HB.out.1.set (.int .i64 0)
 have hBB:=HB.out.2.setCell (p:=⟨w.heap.size,0,none⟩) (Nat.le_refl _) (.int .i64 0)
 have k0:(V1.setCell ⟨w.heap.size,0,none⟩ (.int .i64 0)).heap[D0]? = some (.deferred (some [])):=(KeepsOthers.setCell V1 ⟨w.heap.size,0,none⟩ (.int .i64 0)).same D0 _ HM0.out rfl
 refine ⟨by simp,.inl ⟨_,_,rfl,run_takeDeferred k0,?_⟩⟩
 have g:=g.kept (grownBy_putObj' _ D0 (.deferred none)) (fun e=>by cases e;have h1:=g;have h2:=k0;unfold Boxed at h1;rw [h1] at h2;cases h2)
 have hBB:=hBB.trans (belowK_b (w:=w) (Nat.le_refl _) _ D0 _ (.deferred none) (LO0.out) k0 rfl rfl)
 have hc9:=g.cell
 refine ⟨.int .i64 0,?_,rfl,hBB⟩
 simp [results,Tryz.f244,go_sem,hc9]
theorem q7 (b:Nat) (q0 q1:Rat) (w:World) (h0:Bq 90 q0) (h1:Bq 90 q1) (hx:Sl w b [af q0,af q1]) (ht:Tab w) (ht2:aH w) :
  Calls Tryz.prog 244 #[.slice (some ⟨b,0,none⟩) 2 2] w fun e W'=>e = .returned (.int .i64 0)∧Below w.heap.size w W':=by
 refine (callsIn_wide (n:=9)).1 ?_
 have K0:=Ha (fun W (h:Below w.heap.size w W)=>jT q0 W (h0.lim (by decide)) (ht.next h) (ae ht2 h))
 have P0:=Ha (fun W=>fQ q0 W (h0.lim (by decide)))
 have X0:Hid (w.cell? ⟨b,0,none⟩=some (.string (af q0))):=Ha (hx.cell 0 (by simp))
 have B0:Hid (∀ z ∈ [q0.num,(q0.den:Int)],Bd 90 z):=Ha (by
  intro z hz
  have h:z=q0.num∨z=(q0.den:Int):=by simpa using hz
  rcases h with e | e
  ·rw [e];exact h0.num
  ·rw [e];exact h0.den)
 have K1:=Ha (fun W (h:Below w.heap.size w W)=>jT q1 W (h1.lim (by decide)) (ht.next h) (ae ht2 h))
 have P1:=Ha (fun W=>fQ q1 W (h1.lim (by decide)))
 have X1:Hid (w.cell? ⟨b,1,none⟩=some (.string (af q1))):=Ha (hx.cell 1 (by simp))
 have B1:Hid (∀ z ∈ [q1.num,(q1.den:Int)],Bd 90 z):=Ha (by
  intro z hz
  have h:z=q1.num∨z=(q1.den:Int):=by simpa using hz
  rcases h with e | e
  ·rw [e];exact h1.num
  ·rw [e];exact h1.den)
 have hbl:=hx.lt
 clear h0 h1 hx ht ht2
 generalize af q0=s0 at *
 generalize q0.num=n0 at *
 generalize (q0.den:Int)=d0 at *
 generalize af q1=s1 at *
 generalize q1.num=n1 at *
 generalize (q1.den:Int)=d1 at *
 refine callsIn_of_wp_marks Tryz.func244 rfl trivial ?_ rfl
 simp only [Tryz.ntmps244,List.size_toArray,List.length_cons,List.length_nil,Nat.reduceAdd,Nat.reduceSub,Array.replicate_succ,Array.replicate_zero,List.push_toArray,List.append_toArray,List.nil_append,List.cons_append]
 gi_wp2
 have HB:=Ha (Hb (Boxed.new w 26 (.int .i64 0)) ((Below.refl _ w).alloc (Nat.le_refl _) (.cells #[.int .i64 0] 26)))
 generalize w.alloc (.cells #[.int .i64 0] 26)=V0 at *
 refine wpIn_loop_rounds 3 ?_
 rw [Code.roundsIn]
 have hc:=(HB.out.2.cell (p:=⟨b,0,none⟩) hbl).trans X0.out
 gi_wp2_with fail
 refine ⟨trivial,?_⟩
 refine (callsIn_wide.2 (K0.out _ HB.out.2)).mono ?_
 rintro e w1 ⟨rfl,bb⟩
 clear hc
 have HN:=Ha (Hb (HB.out.1.kept (df bb) (by simp)) (HB.out.2.trans (bb.mono HB.out.2.size)))
 clear HB bb;have HB:=HN;clear HN
 gi_wp2_with fail
 refine ⟨trivial,?_⟩
 refine (callsIn_wide.2 (P0.out _)).mono ?_
 rintro e w2 ⟨rfl,bb⟩
 have HN:=Ha (Hb (HB.out.1.kept (df bb) (by simp)) (HB.out.2.trans (bb.mono HB.out.2.size)))
 clear HB bb;have HB:=HN;clear HN
 have LS0:=Ha HB.out.2.size
 gi_wp2
 refine ij rfl (by omega) (gf:=274) (fs := #[.agg #[.string (aa n0),.string (aa d0)]]) rfl trivial (enters_of Tryz.func274 (by kernel_rfl) rfl)
  (iJ aa n0 d0 (9 - 1) w2 (by omega)) (fun _=>rfl) .ret (.inl rfl)
  (fun _ W=>Boxed W w.heap.size 26 (.int .i64 0)∧Below w.heap.size w W)
  (fun _ _=>False)
  (OwnFrom.and (Own.from (boxed_own _ _ (fun _ => .int .i64 0)) _) (ownFrom_below (Nat.le_refl _) HB.out.2.size))
  (fun _ _ _ _ h _ _=>h)
  (fun s A h=>⟨h.1,h.2.drew⟩)
  (HB.out)
  (fun z=>{ tmps := #[.slice (some ⟨b,0,none⟩) 2 2,undef,.pointer (some ⟨w.heap.size,0,none⟩),undef,.string s0,.int .i64 0,.string (aa z),.slice (some ⟨b,0,none⟩) 2 2,.int .i64 2,.int .i64 0,.bool true,.pointer (some ⟨b,0,none⟩),.string s0,.string s0,.int .i64 0,.int .i64 0,.bool false,undef,.string s0,.agg #[.string (aa n0),.string (aa d0)],.func (.func 274) #[.agg #[.string (aa n0),.string (aa d0)]] #[],.string (aa z),undef,undef,undef,undef,undef],defers := [] }) ?assign0 ?body0 ?done0 ?stop0
 case assign0 =>
  intro l x W K hK
  gi_wp2
  exact hK
 case body0 =>
  rintro l pre z r' W hle hx hI
  have hz:=Ft (B0.out z (by rw [hx];simp))
  have HI:=Ha hI;clear hI hx
  have ct:=Ha (fun W=>gE z W)
  generalize szB (aa z)=u at *
  have hz1:¬ (90:Int)<u.size:=by omega
  have hz2:(u.size:Int)≤9223372036854775807:=by omega
  gi_wp2_with fail
  refine ⟨trivial,?_⟩
  refine (CallsIn.inRound l (callsIn_wide.2 (ct.out _))).mono ?_
  rintro e w3 ⟨rfl,rfl⟩
  gi_wp2
  exact ⟨KeepsFrom.refl _ _,fun _=>Kb.refl _ _,HI.out⟩
 case stop0 =>
  rintro D pre r' W hD hx h hK
  exact h.elim
 case done0 =>
 rintro D0 V1 hD0 hBx hM0
 have HN:=Ha hBx
 have HE0:=Ha hD0
 have LO0:Hid (w.heap.size≤D0):=Ha (Nat.le_trans LS0.out HE0.out)
 clear HB hBx hD0;have HB:=HN;clear HN
 have HM0:=Ha hM0;clear hM0
 gi_wp2
 rw [Code.roundsIn]
 have hc:=(HB.out.2.cell (p:=⟨b,1,none⟩) hbl).trans X1.out
 gi_wp2_with fail
 refine ⟨trivial,?_⟩
 refine (callsIn_wide.2 (K1.out _ HB.out.2)).mono ?_
 rintro e w1 ⟨rfl,bb⟩
 clear hc
 have HN:=Ha (Hb (HB.out.1.kept (df bb) (by simp)) (HB.out.2.trans (bb.mono HB.out.2.size)))
 have HN0:=Ha ((bb.block D0 (Array.getElem?_eq_some_iff.1 HM0.out).1).trans HM0.out);clear HM0;have HM0:=HN0;clear HN0
 clear HB bb;have HB:=HN;clear HN
 gi_wp2_with fail
 refine ⟨trivial,?_⟩
 refine (callsIn_wide.2 (P1.out _)).mono ?_
 rintro e w2 ⟨rfl,bb⟩
 have HN:=Ha (Hb (HB.out.1.kept (df bb) (by simp)) (HB.out.2.trans (bb.mono HB.out.2.size)))
 have HN0:=Ha ((bb.block D0 (Array.getElem?_eq_some_iff.1 HM0.out).1).trans HM0.out);clear HM0;have HM0:=HN0;clear HN0
 clear HB bb;have HB:=HN;clear HN
 have LT01:=Ha (Array.getElem?_eq_some_iff.1 HM0.out).1
 have LS1:=Ha HB.out.2.size
 gi_wp2
 refine ij rfl (by omega) (gf:=274) (fs := #[.agg #[.string (aa n1),.string (aa d1)]]) rfl trivial (enters_of Tryz.func274 (by kernel_rfl) rfl)
  (iJ aa n1 d1 (9 - 1) w2 (by omega)) (fun _=>rfl) .ret (.inl rfl)
  (fun _ W=>W.heap[D0]? = some (.deferred (some []))∧(Boxed W w.heap.size 26 (.int .i64 0)∧Below w.heap.size w W))
  (fun _ _=>False)
  (OwnFrom.and (wl (Array.getElem?_eq_some_iff.1 HM0.out).1) (OwnFrom.and (Own.from (boxed_own _ _ (fun _ => .int .i64 0)) _) (ownFrom_below (Nat.le_refl _) HB.out.2.size)))
  (fun _ _ _ _ h _ _=>h)
  (fun s A h=>⟨h.1,⟨h.2.1,h.2.2.drew⟩⟩)
  (⟨HM0.out,HB.out⟩)
  (fun z=>{ tmps := #[.slice (some ⟨b,0,none⟩) 2 2,undef,.pointer (some ⟨w.heap.size,0,none⟩),undef,.string s1,.int .i64 0,.string (aa z),.slice (some ⟨b,0,none⟩) 2 2,.int .i64 2,.int .i64 1,.bool true,.pointer (some ⟨b,1,none⟩),.string s1,.string s1,.int .i64 0,.int .i64 0,.bool false,undef,.string s1,.agg #[.string (aa n1),.string (aa d1)],.func (.func 274) #[.agg #[.string (aa n1),.string (aa d1)]] #[],.string (aa z),undef,undef,undef,undef,.int .i64 1],defers := [] }) ?assign1 ?body1 ?done1 ?stop1
 case assign1 =>
  intro l x W K hK
  gi_wp2
  exact hK
 case body1 =>
  rintro l pre z r' W hle hx hI
  have hz:=Ft (B1.out z (by rw [hx];simp))
  have HI:=Ha hI;clear hI hx
  have ct:=Ha (fun W=>gE z W)
  generalize szB (aa z)=u at *
  have hz1:¬ (90:Int)<u.size:=by omega
  have hz2:(u.size:Int)≤9223372036854775807:=by omega
  gi_wp2_with fail
  refine ⟨trivial,?_⟩
  refine (CallsIn.inRound l (callsIn_wide.2 (ct.out _))).mono ?_
  rintro e w3 ⟨rfl,rfl⟩
  gi_wp2
  exact ⟨KeepsFrom.refl _ _,fun _=>Kb.refl _ _,HI.out⟩
 case stop1 =>
  rintro D pre r' W hD hx h hK
  exact h.elim
 case done1 =>
 rintro D1 V2 hD1 ⟨hM0,hBx⟩ hM1
 have HN:=Ha hBx
 have HE1:=Ha hD1
 have LO1:Hid (w.heap.size≤D1):=Ha (Nat.le_trans LS1.out HE1.out)
 clear HB hBx hD1;have HB:=HN;clear HN
 have NE01:Hid (D0≠D1):=Ha (by have h1:=LT01.out;have h2:=HE1.out;have h3:=h1;omega)
 clear HM0
 have HM0:=Ha hM0;clear hM0
 have HM1:=Ha hM1;clear hM1
 gi_wp2
 rw [Code.roundsIn]
 have hc:=HB.out.1.cell
 have hf:=HB.out.1.frozen
 gi_wp2
 have g:=HB.out.1.set (.int .i64 0)
 have hBB:=HB.out.2.setCell (p:=⟨w.heap.size,0,none⟩) (Nat.le_refl _) (.int .i64 0)
 have k1:(V2.setCell ⟨w.heap.size,0,none⟩ (.int .i64 0)).heap[D1]? = some (.deferred (some [])):=(KeepsOthers.setCell V2 ⟨w.heap.size,0,none⟩ (.int .i64 0)).same D1 _ HM1.out rfl
 have k0:(V2.setCell ⟨w.heap.size,0,none⟩ (.int .i64 0)).heap[D0]? = some (.deferred (some [])):=(KeepsOthers.setCell V2 ⟨w.heap.size,0,none⟩ (.int .i64 0)).same D0 _ HM0.out rfl
 refine ⟨by simp,.inl ⟨_,_,rfl,run_takeDeferred k1,?_⟩⟩
 have g:=g.kept (grownBy_putObj' _ D1 (.deferred none)) (fun e=>by cases e;have h1:=g;have h2:=k1;unfold Boxed at h1;rw [h1] at h2;cases h2)
 have hBB:=hBB.trans (belowK_b (w:=w) (Nat.le_refl _) _ D1 _ (.deferred none) (LO1.out) k1 rfl rfl)
 have k0:=(World.putObj_heap_other (o := .deferred none) (NE01.out)).trans k0
 refine ⟨by simp,.inl ⟨_,_,rfl,run_takeDeferred k0,?_⟩⟩
 have g:=g.kept (grownBy_putObj' _ D0 (.deferred none)) (fun e=>by cases e;have h1:=g;have h2:=k0;unfold Boxed at h1;rw [h1] at h2;cases h2)
 have hBB:=hBB.trans (belowK_b (w:=w) (Nat.le_refl _) _ D0 _ (.deferred none) (LO0.out) k0 rfl rfl)
 have hc9:=g.cell
 refine ⟨.int .i64 0,?_,rfl,hBB⟩
 simp [results,Tryz.f244,go_sem,hc9]
end
end T
namespace T
open Go.RowKit
theorem DE {m:Nat}:(sN m).size≤18↔m<1000000000000000000:=by
 unfold sN
 rw [lN,Lib.itoa_nonneg,Lib.decDigits_length]
 exact bh m 18 (by decide)
theorem x7 (m:Nat) (w:World) (h0:0<m) (hm:m<lim) (ht:Tab w) (hS:Sm w) :
  Calls Tryz.prog 276 #[.string (sN m)] w fun e W'=>e = .returned (.tuple #[.string (sN (ai au m).1),.string (sN (ai au m).2)])∧Below w.heap.size w W':=by
 by_cases hs:(sN m).size≤18
 ·exact mv m w h0 (DE.1 hs) hs ht hS
 ·have C:=Ha (A8 m w h0 hm ht hS);clear ht hS h0
  have hz:(sN m).size≤301:=aM (aq.2 hm)
  have h1:(18:Int)<(sN m).size:=by omega
  have h2:((sN m).size:Int)≤9223372036854775807:=by omega
  generalize sN (ai au m).1=a at *
  generalize sN (ai au m).2=b at *
  generalize sN m=s at *
  clear hs hz hm
  go_enter Tryz.func276,Tryz.ntmps276
  go_wp2_with fail
  refine C.out.mono ?_
  rintro e w1 ⟨rfl,b⟩
  have B1:=Ha b;clear b
  go_wp2
  go_ret2
  exact ⟨rfl,B1.out⟩
theorem wm (n d c:ByteArray) (w:World)
  (h:∀ W,Below w.heap.size w W→Calls Tryz.prog 248 #[.agg #[.string n,.string d]] W fun e W'=>e = .returned (.tuple #[.string c,.bool true])∧Below W.heap.size W W') :
  Calls Tryz.prog 247 #[.agg #[.string n,.string d]] w fun e W'=>e = .returned (.tuple #[.string c,.string ⟨#[49]⟩])∧Below w.heap.size w W':=by
 have C:=Ha (Hb h True.intro);clear h
 go_enter Tryz.func247,Tryz.ntmps247
 go_wp2_with fail
 have hbx:Bxs w w.heap.size [[.string n,.string d]] (w.alloc (.cells #[.string n,.string d] 295)):=((Bxs.nil w w (Below.refl _ _)).push rfl [.string n,.string d] 295)
 generalize (w.alloc (.cells #[.string n,.string d] 295))=W0 at *
 generalize hk:w.heap.size=k at *
 have HK:=Ha hk;clear hk
 have HB:=Ha hbx
 clear hbx
 have e00:=(show World.cell? _ ⟨k,0,none⟩=some (.string n) from HB.out.cells 0 _ rfl 0 _ rfl)
 have e01:=(show World.cell? _ ⟨k,1,none⟩=some (.string d) from HB.out.cells 0 _ rfl 1 _ rfl)
 refine (C.out.1 _ (by have:=HB.out.below;rwa [HK.out] at this)).mono ?_
 rintro e w1 ⟨rfl,b⟩
 replace HB:=Ha (HB.out.next b);clear b;have e00:=(show World.cell? _ ⟨k,0,none⟩=some (.string n) from HB.out.cells 0 _ rfl 0 _ rfl);have e01:=(show World.cell? _ ⟨k,1,none⟩=some (.string d) from HB.out.cells 0 _ rfl 1 _ rfl)
 go_wp2
 go_ret2
 refine ⟨rfl,?_⟩
 have hbl:=HB.out.below
 rwa [HK.out] at hbl ⊢
theorem zt (n d a m b k bk c mk:ByteArray) (w:World)
  (h1:∀ W,Below w.heap.size w W→Calls Tryz.prog 248 #[.agg #[.string n,.string d]] W fun e W'=>e = .returned (.tuple #[.string ⟨#[]⟩,.bool false])∧Below W.heap.size W W')
  (h2:∀ W,Below w.heap.size w W→Calls Tryz.prog 276 #[.string n] W fun e W'=>e = .returned (.tuple #[.string a,.string m])∧Below W.heap.size W W')
  (h3:∀ W,Below w.heap.size w W→Calls Tryz.prog 276 #[.string d] W fun e W'=>e = .returned (.tuple #[.string b,.string k])∧Below W.heap.size W W')
  (h4:∀ W,Below w.heap.size w W→Calls Tryz.prog 277 #[.string b,.string k] W fun e W'=>e = .returned (.string bk)∧Below W.heap.size W W')
  (h5:∀ W,Below w.heap.size w W→Calls Tryz.prog 257 #[.agg #[.string a,.string bk]] W fun e W'=>e = .returned (.string c)∧Below W.heap.size W W')
  (h6:∀ W,Below w.heap.size w W→Calls Tryz.prog 277 #[.string m,.string k] W fun e W'=>e = .returned (.string mk)∧Below W.heap.size W W') :
  Calls Tryz.prog 247 #[.agg #[.string n,.string d]] w fun e W'=>e = .returned (.tuple #[.string c,.string mk])∧Below w.heap.size w W':=by
 have C:=Ha (Hb h1 (Hb h2 (Hb h3 (Hb h4 (Hb h5 h6)))));clear h1 h2 h3 h4 h5 h6
 go_enter Tryz.func247,Tryz.ntmps247
 go_wp2_with fail
 have hbx:Bxs w w.heap.size [[.string n,.string d]] (w.alloc (.cells #[.string n,.string d] 295)):=((Bxs.nil w w (Below.refl _ _)).push rfl [.string n,.string d] 295)
 generalize (w.alloc (.cells #[.string n,.string d] 295))=W0 at *
 generalize hk:w.heap.size=k at *
 have HK:=Ha hk;clear hk
 have HB:=Ha hbx
 clear hbx
 have e00:=(show World.cell? _ ⟨k,0,none⟩=some (.string n) from HB.out.cells 0 _ rfl 0 _ rfl)
 have e01:=(show World.cell? _ ⟨k,1,none⟩=some (.string d) from HB.out.cells 0 _ rfl 1 _ rfl)
 refine (C.out.1 _ (by have:=HB.out.below;rwa [HK.out] at this)).mono ?_
 rintro e w1 ⟨rfl,b⟩
 replace HB:=Ha (HB.out.next b);clear b;have e00:=(show World.cell? _ ⟨k,0,none⟩=some (.string n) from HB.out.cells 0 _ rfl 0 _ rfl);have e01:=(show World.cell? _ ⟨k,1,none⟩=some (.string d) from HB.out.cells 0 _ rfl 1 _ rfl)
 go_wp2_with fail
 refine (C.out.2.1 _ (by have:=HB.out.below;rwa [HK.out] at this)).mono ?_
 rintro e w2 ⟨rfl,b⟩
 replace HB:=Ha (HB.out.next b);clear b;have e00:=(show World.cell? _ ⟨k,0,none⟩=some (.string n) from HB.out.cells 0 _ rfl 0 _ rfl);have e01:=(show World.cell? _ ⟨k,1,none⟩=some (.string d) from HB.out.cells 0 _ rfl 1 _ rfl)
 go_wp2_with fail
 refine (C.out.2.2.1 _ (by have:=HB.out.below;rwa [HK.out] at this)).mono ?_
 rintro e w3 ⟨rfl,b⟩
 replace HB:=Ha (HB.out.next b);clear b;have e00:=(show World.cell? _ ⟨k,0,none⟩=some (.string n) from HB.out.cells 0 _ rfl 0 _ rfl);have e01:=(show World.cell? _ ⟨k,1,none⟩=some (.string d) from HB.out.cells 0 _ rfl 1 _ rfl)
 go_wp2_with fail
 refine (C.out.2.2.2.1 _ (by have:=HB.out.below;rwa [HK.out] at this)).mono ?_
 rintro e w4 ⟨rfl,b⟩
 replace HB:=Ha (HB.out.next b);clear b;have e00:=(show World.cell? _ ⟨k,0,none⟩=some (.string n) from HB.out.cells 0 _ rfl 0 _ rfl);have e01:=(show World.cell? _ ⟨k,1,none⟩=some (.string d) from HB.out.cells 0 _ rfl 1 _ rfl)
 go_wp2_with fail
 refine (C.out.2.2.2.2.1 _ (by have:=HB.out.below;rwa [HK.out] at this)).mono ?_
 rintro e w5 ⟨rfl,b⟩
 replace HB:=Ha (HB.out.next b);clear b;have e00:=(show World.cell? _ ⟨k,0,none⟩=some (.string n) from HB.out.cells 0 _ rfl 0 _ rfl);have e01:=(show World.cell? _ ⟨k,1,none⟩=some (.string d) from HB.out.cells 0 _ rfl 1 _ rfl)
 go_wp2_with fail
 refine (C.out.2.2.2.2.2 _ (by have:=HB.out.below;rwa [HK.out] at this)).mono ?_
 rintro e w6 ⟨rfl,b⟩
 replace HB:=Ha (HB.out.next b);clear b;have e00:=(show World.cell? _ ⟨k,0,none⟩=some (.string n) from HB.out.cells 0 _ rfl 0 _ rfl);have e01:=(show World.cell? _ ⟨k,1,none⟩=some (.string d) from HB.out.cells 0 _ rfl 1 _ rfl)
 go_wp2
 go_ret2
 refine ⟨rfl,?_⟩
 have hbl:=HB.out.below
 rwa [HK.out] at hbl ⊢
theorem Fu:ak 180≤lim:=aG (by decide)
theorem DF (q:Rat) (w:World) (h0:0≤q) (hq:Bq 90 q) (ht:Tab w) (hS:Sm w) :
  Calls Tryz.prog 247 #[.agg #[.string (aa q.num),.string (aa (q.den:Int))]] w fun e W'=>e = .returned (.tuple #[.string (af (nC q)),.string (aa (nN q:Nat))])∧Below w.heap.size w W':=by
 have sq:Sq q:=hq.lim (by decide)
 by_cases hb:bG q
 ·obtain ⟨e1,e2⟩:=jQ hb
  rw [e1,e2,show aa ((1:Nat):Int)=⟨#[49]⟩ from iO 1 [49] bU]
  exact wm _ _ _ w (fun W h=>x6 q _ W h0 sq (ht.next h) (fun _=>rfl) (fun k=>absurd hb k))
 ·have hn:=fp hb
  obtain ⟨a1,a2,a3,a4,_⟩:=aS au ck hn
  obtain ⟨b1,b2,b3,b4,_⟩:=aS au ck q.den_pos
  have la:(ai au q.num.natAbs).1≤q.num.natAbs:=by
   conv=>rhs;rw [a1,Nat.mul_assoc]
   exact Nat.le_mul_of_pos_right _ (Nat.mul_pos a2 a3)
  have lm:(ai au q.num.natAbs).2≤q.num.natAbs:=Nat.le_of_dvd hn a4
  have lk:(ai au q.den).2≤q.den:=Nat.le_of_dvd q.den_pos b4
  have lb:(ai au q.den).1≤q.den:=by
   conv=>rhs;rw [b1,Nat.mul_assoc]
   exact Nat.le_mul_of_pos_right _ (Nat.mul_pos b2 b3)
  have lbk:(ai au q.den).1*(ai au q.den).2≤q.den:=by
   conv=>rhs;rw [b1,Nat.mul_assoc]
   exact Nat.le_mul_of_pos_left _ b2
  have lmk:(ai au q.num.natAbs).2*(ai au q.den).2<lim :=
   Nat.lt_of_lt_of_le (Nat.lt_of_le_of_lt (Nat.mul_le_mul lm lk) (by rw [show (180:Nat)=90+90 from rfl,cE];exact Nat.mul_lt_mul'' hq.1 hq.2)) Fu
  have eC:nC q=Rat.divInt ((ai au q.num.natAbs).1:Nat) (((ai au q.den).1*(ai au q.den).2:Nat):Int):=by
   unfold nC cN cD;rw [if_neg hb,if_neg hb];rfl
  have eN:nN q=(ai au q.num.natAbs).2*(ai au q.den).2:=by unfold nN;rw [if_neg hb]
  have hc:=cop q
  unfold cN cD at hc
  rw [if_neg hb,if_neg hb] at hc
  rw [eC,eN]
  have hd:q.den<lim:=sq.2
  have hnl:q.num.natAbs<lim:=sq.1
  have en:aa q.num=sN q.num.natAbs:=by unfold sN;rw [k7 h0]
  rw [en]
  have p:=Nat.mul_pos b2 b3
  exact zt (sN q.num.natAbs) (sN q.den) _ _ _ _ (sN ((ai au q.den).1*(ai au q.den).2)) _ _ w
   (fun W h=>by have c:=x6 q _ W h0 sq (ht.next h) (fun k=>absurd k hb) (fun _=>rfl);rwa [en] at c)
   (fun W h=>x7 _ W hn hnl (ht.next h) (hS.next h)) (fun W h=>x7 _ W q.den_pos hd (ht.next h) (hS.next h))
   (fun W h=>sC _ _ W (Nat.lt_of_le_of_lt lb hd) (Nat.lt_of_le_of_lt lk hd) (Nat.lt_of_le_of_lt lbk hd) (ht.next h))
   (fun W h=>rU _ _ W (by omega) (by rw [Int.natAbs_natCast,Int.natAbs_natCast];exact hc) (aq.2 (Nat.lt_of_le_of_lt la hnl)) (aq.2 (Nat.lt_of_le_of_lt lbk hd)))
   (fun W h=>sC _ _ W (Nat.lt_of_le_of_lt lm hnl) (Nat.lt_of_le_of_lt lk hd) lmk (ht.next h))
theorem nn1 {q:Rat} (h:0≤q):pd [af q]=0:=by
 unfold pd;simp only [List.any_cons,List.any_nil,uc,Bool.or_false];rw [decide_eq_false (by grind)];rfl
theorem nn2 {p q:Rat} (h:0≤p) (h':0≤q):pd [af p,af q]=0:=by
 unfold pd;simp only [List.any_cons,List.any_nil,uc,Bool.or_false];rw [decide_eq_false (by grind),decide_eq_false (by grind)];rfl
theorem uf (q:Rat) (w:World) (h0:0≤q) (hq:Bq 90 q) (ht:Tab w) (ht2:aH w) (hS:Sm w) :
  Calls Tryz.prog 214 #[.string (af q)] w fun e W'=>e = .returned (.tuple #[.string (af (nC q)),.string (aa (nN q:Nat)),.int .i64 0])∧Below w.heap.size w W':=by
 have o1:=fun (b:Nat) W (hx:Sl W b [af q]) (h:Below w.heap.size w W)=>qZ b q W hq hx (ht.next h) (ae ht2 h)
 have o2:=fun (b:Nat) W (hx:Sl W b [af q]) (h:Below w.heap.size w W)=>iI b [af q] W (by simp) hx
 rw [nn1 h0] at o2
 have o3:=fun W (_:Below w.heap.size w W)=>fQ q W (hq.lim (by decide))
 have o4:=fun W (h:Below w.heap.size w W)=>DF q W h0 hq (ht.next h) (hS.next h)
 have O:=Ha (Hb o1 (Hb o2 (Hb o3 o4)));clear o1 o2 o3 o4 ht ht2 hS h0 hq
 generalize aa q.num=n at *
 generalize aa (q.den:Int)=d at *
 generalize af (nC q)=c at *
 generalize aa (nN q:Nat)=m at *
 generalize af q=s at *
 go_enter Tryz.func214,Tryz.ntmps214
 go_wp2_with fail
 have hS1:=Sl.new1 w s 30
 have BB:=Ha ((Below.refl _ w).alloc (Nat.le_refl _) (.cells #[.string s] 30))
 generalize w.alloc (.cells #[.string s] 30)=v0 at *
 generalize hk0:w.heap.size=k0 at hS1
 refine (O.out.1 _ _ hS1 BB.out).mono ?_
 rintro e v1 ⟨rfl,b⟩
 have B1:=Ha (BB.out.trans (b.mono BB.out.size));clear b BB hS1 hk0
 go_wp2_with fail
 have hS2:=Sl.new1 v1 s 30
 have BB:=Ha (B1.out.alloc B1.out.size (.cells #[.string s] 30))
 generalize v1.alloc (.cells #[.string s] 30)=v2 at *
 generalize v1.heap.size=k1 at hS2 ⊢
 refine (O.out.2.1 _ _ hS2 BB.out).mono ?_
 rintro e v3 ⟨rfl,b⟩
 have B3:=Ha (BB.out.trans (b.mono BB.out.size));clear b BB hS2 B1
 go_wp2_with fail
 have hS3:=Blk.new v3 #[.int .i64 0,.int .i64 0] 26
 have BB:=Ha (B3.out.alloc B3.out.size (.cells #[.int .i64 0,.int .i64 0] 26))
 generalize v3.alloc (.cells #[.int .i64 0,.int .i64 0] 26)=v4 at *
 generalize v3.heap.size=k3 at hS3 ⊢
 refine (pf _ 0 0 v4 hS3).mono ?_
 rintro e v5 ⟨rfl,b⟩
 rw [if_pos rfl]
 have B5:=Ha (BB.out.trans (b.mono BB.out.size));clear b BB hS3 B3
 go_wp2_with fail
 refine (O.out.2.2.1 _ B5.out).mono ?_
 rintro e v6 ⟨rfl,b⟩
 have B6:=Ha (B5.out.trans (b.mono B5.out.size));clear b B5
 go_wp2_with fail
 refine (O.out.2.2.2 _ B6.out).mono ?_
 rintro e v7 ⟨rfl,b⟩
 have B7:=Ha (B6.out.trans (b.mono B6.out.size));clear b B6
 go_wp2
 go_ret3
 exact ⟨rfl,B7.out⟩
end T
namespace T
open Go.RowKit
theorem DG {u:Rat} (h:u≠0):((af u).toList == [48])=false:=by
 rw [Bool.eq_false_iff];intro k
 have h2:=(sB _).1 k
 rw [←gg] at h2
 exact h (kM h2)
theorem zu (p q:Rat) (w:World) (p0:0≤p) (q0:0<q) (z0:0≤p / q) (hp:Bq 90 p) (hq:Bq 90 q) (hb:bG (p / q)) (ht:Tab w) (ht2:aH w) :
  Calls Tryz.prog 215 #[.string (af p),.string (af q)] w fun e W'=>e = .returned (.tuple #[.string (af (bf (p / q))),.bool true,.int .i64 0])∧Below w.heap.size w W':=by
 have o1:=fun (b:Nat) W (hx:Sl W b [af p,af q]) (h:Below w.heap.size w W)=>q7 b p q W hp hq hx (ht.next h) (ae ht2 h)
 have o2:=fun (b:Nat) W (hx:Sl W b [af p,af q]) (_:Below w.heap.size w W)=>iI b [af p,af q] W (by simp) hx
 rw [nn2 p0 (Rat.le_of_lt q0)] at o2
 have qn:q≠0:=by grind
 have hz:=DG qn
 obtain ⟨d1,d2,hZ⟩:=iB hp hq (by decide) qn
 have o3:=fun W (h:Below w.heap.size w W)=>xR p q W (hp.lim (by decide)) (hq.lim (by decide)) qn (ht.next h) (ae ht2 h)
 rw [d1,d2] at o3
 have o4:=fun W (_:Below w.heap.size w W)=>fQ (p / q) W (hZ.lim (by decide))
 have o5:=fun W (h:Below w.heap.size w W)=>x6 (p / q) (.tuple #[.string (af (bf (p / q))),.bool true]) W z0 (hZ.lim (by decide)) (ht.next h) (fun _=>rfl) (fun k=>absurd hb k)
 have O:=Ha (Hb o1 (Hb o2 (Hb o3 (Hb o4 o5))));clear o1 o2 o3 o4 o5 ht ht2 p0 q0 z0 hp hq hb qn d1 d2 hZ
 generalize aa (p / q).num=n at *
 generalize aa ((p / q).den:Int)=d at *
 generalize af (bf (p / q))=c at *
 generalize af (p / q)=z at *
 generalize af p=s at *
 generalize af q=t at *
 go_enter Tryz.func215,Tryz.ntmps215
 go_wp2_with fail
 have hS1:=Sl.new2 w s t 30
 have BB:=Ha ((Below.refl _ w).alloc (Nat.le_refl _) (.cells #[.string s,.string t] 30))
 generalize w.alloc (.cells #[.string s,.string t] 30)=v0 at *
 generalize hk0:w.heap.size=k0 at hS1
 refine (O.out.1 _ _ hS1 BB.out).mono ?_
 rintro e v1 ⟨rfl,b⟩
 have B1:=Ha (BB.out.trans (b.mono BB.out.size));clear b BB hS1 hk0
 go_wp2_with fail
 have hS2:=Sl.new2 v1 s t 30
 have BB:=Ha (B1.out.alloc B1.out.size (.cells #[.string s,.string t] 30))
 generalize v1.alloc (.cells #[.string s,.string t] 30)=v2 at *
 generalize v1.heap.size=k1 at hS2 ⊢
 refine (O.out.2.1 _ _ hS2 BB.out).mono ?_
 rintro e v3 ⟨rfl,b⟩
 have B3:=Ha (BB.out.trans (b.mono BB.out.size));clear b BB hS2 B1
 go_wp2_with fail
 have hS3:=Blk.new v3 #[.int .i64 0,.int .i64 0] 26
 have BB:=Ha (B3.out.alloc B3.out.size (.cells #[.int .i64 0,.int .i64 0] 26))
 generalize v3.alloc (.cells #[.int .i64 0,.int .i64 0] 26)=v4 at *
 generalize v3.heap.size=k3 at hS3 ⊢
 refine (pf _ 0 0 v4 hS3).mono ?_
 rintro e v5 ⟨rfl,b⟩
 rw [if_pos rfl]
 have B5:=Ha (BB.out.trans (b.mono BB.out.size));clear b BB hS3 B3
 go_wp2_with fail
 refine (O.out.2.2.1 _ B5.out).mono ?_
 rintro e v6 ⟨rfl,b⟩
 have B6:=Ha (B5.out.trans (b.mono B5.out.size));clear b B5
 go_wp2_with fail
 refine (O.out.2.2.2.1 _ B6.out).mono ?_
 rintro e v7 ⟨rfl,b⟩
 have B7:=Ha (B6.out.trans (b.mono B6.out.size));clear b B6
 go_wp2_with fail
 refine (O.out.2.2.2.2 _ B7.out).mono ?_
 rintro e v8 ⟨rfl,b⟩
 have B8:=Ha (B7.out.trans (b.mono B7.out.size));clear b B7
 go_wp2
 go_ret3
 exact ⟨rfl,B8.out⟩
theorem Bm (p q:Rat) (w:World) (p0:0≤p) (q0:0<q) (z0:0≤p / q) (hp:Bq 90 p) (hq:Bq 90 q) (hb:¬ bG (p / q)) (ht:Tab w) (ht2:aH w) :
  Calls Tryz.prog 215 #[.string (af p),.string (af q)] w fun e W'=>e = .returned (.tuple #[.string ⟨#[]⟩,.bool false,.int .i64 0])∧Below w.heap.size w W':=by
 have o1:=fun (b:Nat) W (hx:Sl W b [af p,af q]) (h:Below w.heap.size w W)=>q7 b p q W hp hq hx (ht.next h) (ae ht2 h)
 have o2:=fun (b:Nat) W (hx:Sl W b [af p,af q]) (_:Below w.heap.size w W)=>iI b [af p,af q] W (by simp) hx
 rw [nn2 p0 (Rat.le_of_lt q0)] at o2
 have qn:q≠0:=by grind
 have hz:=DG qn
 obtain ⟨d1,d2,hZ⟩:=iB hp hq (by decide) qn
 have o3:=fun W (h:Below w.heap.size w W)=>xR p q W (hp.lim (by decide)) (hq.lim (by decide)) qn (ht.next h) (ae ht2 h)
 rw [d1,d2] at o3
 have o4:=fun W (_:Below w.heap.size w W)=>fQ (p / q) W (hZ.lim (by decide))
 have o5:=fun W (h:Below w.heap.size w W)=>x6 (p / q) (.tuple #[.string ⟨#[]⟩,.bool false]) W z0 (hZ.lim (by decide)) (ht.next h) (fun k=>absurd k hb) (fun _=>rfl)
 have O:=Ha (Hb o1 (Hb o2 (Hb o3 (Hb o4 o5))));clear o1 o2 o3 o4 o5 ht ht2 p0 q0 z0 hp hq hb qn d1 d2 hZ
 generalize aa (p / q).num=n at *
 generalize aa ((p / q).den:Int)=d at *
 generalize af (p / q)=z at *
 generalize af p=s at *
 generalize af q=t at *
 go_enter Tryz.func215,Tryz.ntmps215
 go_wp2_with fail
 have hS1:=Sl.new2 w s t 30
 have BB:=Ha ((Below.refl _ w).alloc (Nat.le_refl _) (.cells #[.string s,.string t] 30))
 generalize w.alloc (.cells #[.string s,.string t] 30)=v0 at *
 generalize hk0:w.heap.size=k0 at hS1
 refine (O.out.1 _ _ hS1 BB.out).mono ?_
 rintro e v1 ⟨rfl,b⟩
 have B1:=Ha (BB.out.trans (b.mono BB.out.size));clear b BB hS1 hk0
 go_wp2_with fail
 have hS2:=Sl.new2 v1 s t 30
 have BB:=Ha (B1.out.alloc B1.out.size (.cells #[.string s,.string t] 30))
 generalize v1.alloc (.cells #[.string s,.string t] 30)=v2 at *
 generalize v1.heap.size=k1 at hS2 ⊢
 refine (O.out.2.1 _ _ hS2 BB.out).mono ?_
 rintro e v3 ⟨rfl,b⟩
 have B3:=Ha (BB.out.trans (b.mono BB.out.size));clear b BB hS2 B1
 go_wp2_with fail
 have hS3:=Blk.new v3 #[.int .i64 0,.int .i64 0] 26
 have BB:=Ha (B3.out.alloc B3.out.size (.cells #[.int .i64 0,.int .i64 0] 26))
 generalize v3.alloc (.cells #[.int .i64 0,.int .i64 0] 26)=v4 at *
 generalize v3.heap.size=k3 at hS3 ⊢
 refine (pf _ 0 0 v4 hS3).mono ?_
 rintro e v5 ⟨rfl,b⟩
 rw [if_pos rfl]
 have B5:=Ha (BB.out.trans (b.mono BB.out.size));clear b BB hS3 B3
 go_wp2_with fail
 refine (O.out.2.2.1 _ B5.out).mono ?_
 rintro e v6 ⟨rfl,b⟩
 have B6:=Ha (B5.out.trans (b.mono B5.out.size));clear b B5
 go_wp2_with fail
 refine (O.out.2.2.2.1 _ B6.out).mono ?_
 rintro e v7 ⟨rfl,b⟩
 have B7:=Ha (B6.out.trans (b.mono B6.out.size));clear b B6
 go_wp2_with fail
 refine (O.out.2.2.2.2 _ B7.out).mono ?_
 rintro e v8 ⟨rfl,b⟩
 have B8:=Ha (B7.out.trans (b.mono B7.out.size));clear b B7
 go_wp2
 go_ret3
 exact ⟨rfl,B8.out⟩
end T
end Go.Proofs.YtbhbhlfkdlfimaaGreatDoor
