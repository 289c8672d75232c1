/- Parts of the proof of the text YtjdfjgfdbgmbiaaGreatDoorHB39. -/
import Derived.Maps.AppendAt
import Derived.RegionIn
import Derived.Shelf.RegionOpen
import Derived.Test.YtjdfjgfdbgmbiaaGreatDoorHB1
import Derived.Test.YtjdfjgfdbgmbiaaGreatDoorHB18
import Derived.Test.YtjdfjgfdbgmbiaaGreatDoorHB23
import Derived.Test.YtjdfjgfdbgmbiaaGreatDoorHB26
import Derived.Test.YtjdfjgfdbgmbiaaGreatDoorHB27
import Derived.Test.YtjdfjgfdbgmbiaaGreatDoorHB28
set_option linter.all false
set_option maxRecDepth 100000
set_option maxHeartbeats 8000000
namespace Go.Proofs.YtjdfjgfdbgmbiaaGreatDoor.T
open Go.Proofs.YtjdfjgfdbgmbiaaGreatDoor Go Go.RowKit Go.Lib Go.Shelf
section
attribute [local go_sem] Oper.semAt_some
theorem each_hands {α:Type} (f:α→ByteArray) (x y:α) (n:Nat) (w:World) (hn:1≤n) :
  Hands Fence.wide n Tryz.prog 217 #[.agg #[.string (f x),.string (f y)]] (fun s:α => #[Value.string (f s)]) [x,y] w:=by
 intro l J Jx W hb hJa hJd hY h0
 have hJ0:J [] (W.alloc (.cells #[.string (f x),.string (f y)] 219)):=hJa _ _ _ h0
 obtain ⟨fn,tmps,assign,body,hy,hR⟩:=hY [] x [y] (W.alloc (.cells #[.string (f x),.string (f y)] 219)) rfl hJ0
 have hbox:=heap_alloc_new W (.cells #[.string (f x),.string (f y)] 219)
 have HH:=Lib.hid (And.intro hY (And.intro hb.size hbox));clear hY hb hbox hJa hJd hJ0 h0
 have HR:=Lib.hid hR;clear hR
 try dsimp only at hy
 refine callsIn_of_wp Tryz.func217 rfl trivial ?_ rfl
 simp only [Tryz.ntmps217,List.size_toArray,List.length_cons,List.length_nil,Nat.reduceAdd,Nat.reduceSub,Array.replicate_succ,Array.replicate_zero,List.push_toArray,List.append_toArray,List.nil_append,List.cons_append]
 gi_wp2
 refine HR.out.mono ?_
 clear HR
 rintro e W3 (⟨rfl,hJ3,hk3⟩ | ⟨rfl,hJx3⟩)
 ·have hbx:Blk W3 W.heap.size #[.string (f x),.string (f y)]:=⟨_,(hk3 (by simp)).same _ _ HH.out.2.1 HH.out.2.2 rfl⟩
  have e1:=(show World.cell? _ ⟨W.heap.size,1,none⟩=some (.string (f y)) from hbx.cell 1 _ rfl)
  obtain ⟨fn2,tmps2,assign2,body2,hy2,hR2⟩:=HH.out.1 [x] y [] W3 rfl hJ3
  have HR2:=Lib.hid hR2;clear hR2 hbx hk3 hJ3
  try dsimp only at hy2
  gi_wp2
  refine HR2.out.mono ?_
  clear HR2
  rintro e W4 (⟨rfl,hJ4,_⟩ | ⟨rfl,hJx4⟩)
  ·have HJ:=Lib.hid hJ4;clear hJ4
   gi_wp2
   go_end0
   exact ⟨⟨_,rfl⟩,.inl HJ.out⟩
  ·have HJ:=Lib.hid hJx4;clear hJx4
   gi_wp2
   go_end0
   exact ⟨⟨_,rfl⟩,.inr ⟨_,[],rfl,HJ.out⟩⟩
 ·have HJ:=Lib.hid hJx3;clear hJx3
  gi_wp2
  refine ⟨fun _ h=>(by cases h),?_⟩
  gi_wp2
  go_end0
  exact ⟨⟨_,rfl⟩,.inr ⟨_,[y],rfl,HJ.out⟩⟩
end
end Go.Proofs.YtjdfjgfdbgmbiaaGreatDoor.T
namespace Go.Proofs.YtjdfjgfdbgmbiaaGreatDoor.T
open Go.Proofs.YtjdfjgfdbgmbiaaGreatDoor Go Go.RowKit Go.Lib Go.Shelf
theorem info_str:(Tryz.prog.info? 9).map (fun i=>(i.zero,i.size,i.bytes))=some (some (.string ⟨#[]⟩),1,16):=by kernel_rfl
theorem str_beqN (a b:Nat):((strB (a:Int)).toList==(strB (b:Int)).toList)=decide (a=b):=by
 rw [ByteArray.toList_eq,ByteArray.toList_eq,strB_data,strB_data]
 by_cases h:a=b
 ·subst h;simp
 ·rw [decide_eq_false h,beq_eq_false_iff_ne];intro e;exact h (Int.ofNat.inj (itoa_inj e))
noncomputable def rtV (m:Nat):Value := .string (strB (rootN m:Nat))
section
attribute [local go_sem] Oper.semAt_some
theorem row_next {W W':World} {base m:Nat} {v:Value} {xs:List Value} (h:W.ownsRow base 9 1 v m xs) (g:Below W.heap.size W W'):W'.ownsRow base 9 1 v m xs :=
 h.kept (grownB g) (by
  rcases v.ownBlock with _ | g
  ·exact .inl rfl
  ·exact .inr (by simp))
structure RtAt (w:World) (base:Nat) (xs pre:List Nat) (v:Value) (W0 W:World):Prop where
 b1:Boxed W (w.heap.size+1) 22 (.string ⟨#[]⟩)
 b2:Boxed W (w.heap.size+1+1) 4 (.bool false)
 b3:Boxed W (w.heap.size+1+1+1) 264 v
 row:W.ownsRow w.heap.size 9 1 v pre.length (pre.map rtV)
 nil:v = .slice none 0 0↔pre = []
 sq:∀ m∈pre,rootN m*rootN m=m
 below:Below w.heap.size w W
 from_:KeepsFrom base W0 W
 kb:Kb base W0 W
theorem RtAt.next {w:World} {base:Nat} {xs pre:List Nat} {v:Value} {W0 W W':World} (h:RtAt w base xs pre v W0 W) (b:Below W.heap.size W W'):RtAt w base xs pre v W0 W' :=
 ⟨h.b1.kept (grownB b) (by simp),h.b2.kept (grownB b) (by simp),h.b3.kept (grownB b) (by simp),row_next h.row b,h.nil,h.sq,h.below.trans (b.mono h.below.size),h.from_.trans (KeepsFrom.of_grownBy (grownB b) (fun j e=>by cases e)),h.kb.trans (Kb.of_below b)⟩
theorem two_cells {W:World} {base g cap:Nat} {x y:Value} (h:W.ownsRow base 9 1 (.slice (some ⟨g,0,none⟩) 2 cap) 2 [x,y]) :
  W.cell? ⟨g,0,none⟩=some x∧W.cell? ⟨g,1,none⟩=some y∧base≤g:=by
 obtain ⟨_,(⟨h1,_⟩ | ⟨g',cap',cur,e,hb,hh,hn,_,hs,ht⟩)⟩:=h
 ·cases h1
 ·cases e
  have hl:cur.toList.length=cap*1:=by simpa using hs
  have c0:cur.toList[0]? = some x:=by rw [←List.getElem?_take_of_lt (j:=2) (by omega)];rw [show 2*1=2 from rfl] at ht;rw [ht];rfl
  have c1:cur.toList[1]? = some y:=by rw [←List.getElem?_take_of_lt (j:=2) (by omega)];rw [show 2*1=2 from rfl] at ht;rw [ht];rfl
  refine ⟨?_,?_,hb⟩
  ·unfold World.cell?; simp only [hh];simpa using c0
  ·unfold World.cell?; simp only [hh];simpa using c1
theorem oroot_z (n d:Nat) (r:ByteArray) (rv:Value) (w:World) (hn:n<lim) (hd:d<lim) (ht:Tab w) (hv1:rootN n*rootN n=n∧rootN d*rootN d=d→rv = .tuple #[.string r,.bool true]) (hv2:¬ (rootN n*rootN n=n∧rootN d*rootN d=d)→rv = .tuple #[.string ⟨#[]⟩,.bool false])
  (hr:rootN n*rootN n=n∧rootN d*rootN d=d→∀ W,Below w.heap.size w W→Calls Tryz.prog 221 #[.agg #[.string (strB (rootN n:Nat)),.string (strB (rootN d:Nat))]] W fun e W'=>e = .returned (.string r)∧Below W.heap.size W W') :
  Calls Tryz.prog 177 #[.agg #[.string (strB n),.string (strB d)]] w fun e W'=>e = .returned rv∧Below w.heap.size w W':=by
 refine (callsIn_wide (n:=9)).1 ?_
 obtain ⟨i0,hi,hz0,hz1,hz2⟩:=info_parts info_str
 have HI:=Lib.hid (And.intro hi (And.intro hz0 (And.intro hz1 hz2)));clear hi hz0 hz1 hz2
 have hm:∀ m ∈ [n,d],m<lim:=by intro m hm;simp at hm;rcases hm with rfl | rfl <;> assumption
 have C1:Hid (∀ m ∈ [n,d],∀ W,Below w.heap.size w W→Calls Tryz.prog 223 #[.string (strB (m:Nat))] W fun e W'=>e = .returned (.string (strB (rootN m:Nat)))∧Below W.heap.size W W') :=
  Lib.hid (fun m h W hW=>by
   have c:=orootOf (m:Nat) W (Int.natCast_nonneg _) (nat_short.2 (hm m h)) (ht.next hW)
   rwa [Int.natAbs_natCast] at c)
 have C2:Hid (∀ m ∈ [n,d],∀ W,Below w.heap.size w W→Calls Tryz.prog 220 #[.string (strB (rootN m:Nat)),.string (strB (rootN m:Nat))] W fun e W'=>e = .returned (.string (strB (((rootN m:Nat):Int)*((rootN m:Nat):Int))))∧Below W.heap.size W W') :=
  Lib.hid (fun m h W hW=>by
   have h1:=(rootN_is m).1
   have h2:rootN m≤m:=rootN_pos_le
   have h3:=hm m h
   exact otimes (rootN m:Nat) (rootN m:Nat) W (nat_short.2 (by omega)) (nat_short.2 (by omega)) (by rw [←Int.natCast_mul];exact nat_short.2 (by omega)) (ht.next hW))
 have C3:=Lib.hid hr;have HV:=Lib.hid (And.intro hv1 hv2);clear hr hm hn hd ht hv1 hv2
 refine callsIn_of_wp_marks Tryz.func177 rfl trivial ?_ rfl
 simp only [Tryz.ntmps177,List.size_toArray,List.length_cons,List.length_nil,Nat.reduceAdd,Nat.reduceSub,Array.replicate_succ,Array.replicate_zero,List.push_toArray,List.append_toArray,List.nil_append,List.cons_append]
 gi_wp2
 have b0:=((Boxed.new (w.alloc (.cells #[.string (strB n),.string (strB d)] 219)) 22 (.string ⟨#[]⟩)).alloc (.cells #[.bool false] 4)).alloc (.cells #[.slice none 0 0] 264)
 have b1:=(Boxed.new ((w.alloc (.cells #[.string (strB n),.string (strB d)] 219)).alloc (.cells #[.string ⟨#[]⟩] 22)) 4 (.bool false)).alloc (.cells #[.slice none 0 0] 264)
 have b2:=Boxed.new (((w.alloc (.cells #[.string (strB n),.string (strB d)] 219)).alloc (.cells #[.string ⟨#[]⟩] 22)).alloc (.cells #[.bool false] 4)) 264 (.slice none 0 0)
 simp only [World.size_alloc] at b0 b1 b2
 have hB0:Below w.heap.size w ((((w.alloc (.cells #[.string (strB n),.string (strB d)] 219)).alloc (.cells #[.string ⟨#[]⟩] 22)).alloc (.cells #[.bool false] 4)).alloc (.cells #[.slice none 0 0] 264)) :=
  ((((Below.refl _ w).alloc (Nat.le_refl _) _).alloc (by simp) _).alloc (by simp;omega) _).alloc (by simp;omega) _
 have hsz:((((w.alloc (.cells #[.string (strB n),.string (strB d)] 219)).alloc (.cells #[.string ⟨#[]⟩] 22)).alloc (.cells #[.bool false] 4)).alloc (.cells #[.slice none 0 0] 264)).heap.size=w.heap.size+1+1+1+1:=by simp
 generalize (((w.alloc (.cells #[.string (strB n),.string (strB d)] 219)).alloc (.cells #[.string ⟨#[]⟩] 22)).alloc (.cells #[.bool false] 4)).alloc (.cells #[.slice none 0 0] 264)=W4 at *
 have HB:=Lib.hid (And.intro hB0 (And.intro hsz (And.intro b0 (And.intro b1 b2))));clear b0 b1 b2 hB0 hsz
 refine range_mv rfl (by omega) (gf:=217) (fs := #[.agg #[.string (strB n),.string (strB d)]]) rfl trivial (enters_of Tryz.func217 (by kernel_rfl) rfl)
  (each_hands (fun m:Nat=>strB (m:Nat)) n d (9 - 1) W4 (by omega)) (fun _=>rfl) .ret (.inl rfl)
  (fun pre W=>((Boxed W (w.heap.size+1) 22 (.string ⟨#[]⟩)∧Boxed W (w.heap.size+1+1) 4 (.bool false))∧((∃ v,Boxed W (w.heap.size+1+1+1) 264 v∧W.ownsRow w.heap.size 9 1 v pre.length (pre.map rtV)∧(v = .slice none 0 0↔pre = []))∧(∀ m∈pre,rootN m*rootN m=m)))∧Below w.heap.size w W)
  (fun pre W=>(((∃ m ∈ [n,d],rootN m*rootN m≠m))∧(Boxed W (w.heap.size+1) 22 (.string ⟨#[]⟩)∧Boxed W (w.heap.size+1+1) 4 (.bool false)))∧Below w.heap.size w W)
  (OwnFrom.and (OwnFrom.and (OwnFrom.and (Own.from (boxed_own _ _ (fun _ => .string ⟨#[]⟩)) _) (Own.from (boxed_own _ _ (fun _ => .bool false)) _)) (OwnFrom.and (Own.from (holdsRow_own w.heap.size _ _ _ 1 (fun pre:List Nat=>pre.length) (fun pre=>pre.map rtV) (fun pre v=>v = .slice none 0 0↔pre = [])) _) (ownFrom_pure _ _))) (ownFrom_below (Nat.le_refl _) (by rw [HB.out.2.1];omega)))
  (OwnFrom.and (OwnFrom.and (ownFrom_pure _ _) (OwnFrom.and (Own.from (boxed_own _ _ (fun _ => .string ⟨#[]⟩)) _) (Own.from (boxed_own _ _ (fun _ => .bool false)) _))) (ownFrom_below (Nat.le_refl _) (by rw [HB.out.2.1];omega)))
  (fun s A h=>⟨⟨⟨h.1.1.1,h.1.1.2⟩,h.1.2⟩,h.2.drew⟩)
  ⟨⟨⟨HB.out.2.2.1,HB.out.2.2.2.1⟩,⟨_,HB.out.2.2.2.2,World.ownsRow_nil _ _ _ _,by simp⟩,fun _ h=>by cases h⟩,HB.out.1⟩
  (fun m=>{ tmps := #[.agg #[.string (strB n),.string (strB d)],.pointer (some ⟨w.heap.size,0,none⟩),.pointer (some ⟨w.heap.size+1,0,none⟩),.pointer (some ⟨w.heap.size+1+1,0,none⟩),.pointer (some ⟨w.heap.size+1+1+1,0,none⟩),.string (strB (m:Nat)),undef,.agg #[.string (strB n),.string (strB d)],.func (.func 217) #[.agg #[.string (strB n),.string (strB d)]] #[],.string (strB (m:Nat)),undef,undef,undef,undef,undef,undef,undef,undef,undef,undef,undef,undef,undef,undef,undef,undef,undef,undef,undef],defers := [] }) ?assign ?body ?done ?stop
 case assign =>
  intro l x W K hK
  gi_wp2
  exact hK
 case body =>
  rintro l pre x r' W hle hx ⟨⟨⟨h1,h2⟩,⟨v,h3,hrow,hnil⟩,hsq⟩,hB⟩
  have hmem:x ∈ [n,d]:=by rw [hx];simp
  have H:=Lib.hid (⟨h1,h2,h3,hrow,hnil,hsq,hB,KeepsFrom.refl _ _,Kb.refl _ _⟩:RtAt w W4.heap.size [n,d] pre v W W)
  have c1:=C1.out x hmem
  have c2:=C2.out x hmem
  have hbe:=str_beqN (rootN x*rootN x) x
  rw [Int.natCast_mul] at hbe
  have hbn:((strB (((rootN x:Nat):Int)*((rootN x:Nat):Int))).toList != (strB (x:Int)).toList) = !decide (rootN x*rootN x=x):=by rw [bne,hbe]
  have HX:=Lib.hid (And.intro hx (And.intro hmem hle));clear hx hmem hle h1 h2 h3 hrow hnil hsq hB
  have CC:=Lib.hid (And.intro c1 c2);clear c1 c2
  gi_wp2_with fail
  refine ⟨trivial,?_⟩
  refine (CallsIn.inRound l (callsIn_wide.2 (CC.out.1 _ H.out.below))).mono ?_
  rintro e w1 ⟨rfl,b⟩
  have HN:=Lib.hid (H.out.next b);clear H b;have H:=HN;clear HN
  gi_wp2_with fail
  refine ⟨trivial,?_⟩
  refine (CallsIn.inRound l (callsIn_wide.2 (CC.out.2 _ H.out.below))).mono ?_
  rintro e w2 ⟨rfl,b⟩
  have HN:=Lib.hid (H.out.next b);clear H b;have H:=HN;clear HN
  by_cases hq:rootN x*rootN x=x
  ·have HQ:=Lib.hid hq
   rw [decide_eq_true hq] at hbe hbn
   change _=false at hbn
   clear hq
   have hc3:=H.out.b3.cell
   have hlen:pre.length≤1:=by have:=congrArg List.length HX.out.1;simp at this;omega
   gi_wp2_with (gi_at_builtin;refine wpListIn_append_own _ rfl _ _ 264 rfl w.heap.size 9 i0 (.string ⟨#[]⟩) 1 16 Tryz.underlying264 HI.out.1 HI.out.2.1 HI.out.2.2.1 HI.out.2.2.2 rfl (by decide) _ _ _ rfl (H.out.row.alloc _) ⟨w2.heap.size,0,none⟩ 1 1 [rtV x] rfl rfl (cell_one_new _ _ _) (by simp [Value.oneCell',rtV]) (by unfold maxLen;omega) (by omega) (by have:=H.out.below.size;simp;omega) ?_;intro v' w3 hown' hgrow _;obtain ⟨g',cap',rfl⟩:=ownsRow_succ hown';obtain ⟨hv1,hv2,hr2,hk2,hb2⟩:=H.out.b3.appended (by decide) H.out.row H.out.below.size (by omega) hown' hgrow;have hc1:=hv1.cell;have hf1:=hv1.frozen)
   have k1:=((H.out.b1.alloc _).kept hgrow (H.out.b1.not_row (by decide) H.out.row)).other (B':=w.heap.size+1+1+1) (by omega) (.slice (some ⟨g',0,none⟩) (pre.length+1) cap')
   have k2:=((H.out.b2.alloc _).kept hgrow (H.out.b2.not_row (by decide) H.out.row)).other (B':=w.heap.size+1+1+1) (by omega) (.slice (some ⟨g',0,none⟩) (pre.length+1) cap')
   refine ⟨H.out.from_.trans (hk2.from _),fun hr => ?_,⟨⟨⟨k1,k2⟩,⟨_,hv2,by simpa using hr2,by simp⟩,fun m hm => ?_⟩,H.out.below.trans hb2⟩⟩
   ·have hp:pre = []:=by
     have h1:=congrArg List.length HX.out.1
     have h2:0<r'.length:=List.length_pos_iff.2 hr
     simp at h1
     exact List.eq_nil_of_length_eq_zero (by omega)
    have hv0:=H.out.nil.2 hp
    rw [hv0] at hgrow
    exact H.out.kb.trans ((Kb.alloc _ _ _).trans ((Kb.of_grown hgrow).trans (Kb.cell_below (p:=⟨w.heap.size+1+1+1,0,none⟩) (by show w.heap.size+1+1+1<W4.heap.size;rw [HB.out.2.1];omega) _)))
   ·rcases List.mem_append.1 hm with h | h
    ·exact H.out.sq m h
    ·rw [List.mem_singleton.1 h];exact HQ.out
  ·have HQ:=Lib.hid hq
   rw [decide_eq_false hq] at hbe hbn
   change _=true at hbn
   clear hq
   have hc1:=H.out.b1.cell
   have hc2:=H.out.b2.cell
   have hf1:=H.out.b1.frozen
   have hf2:=H.out.b2.frozen
   gi_wp2
   refine ⟨H.out.from_.trans (((KeepsOthers.setCell _ _ _).from _).trans ((KeepsOthers.setCell _ _ _).from _)),rfl,⟨⟨x,HX.out.2.1,HQ.out⟩,(H.out.b1.set _).other (by omega) _,(H.out.b2.other (by omega) _).set _⟩,?_⟩
   exact (H.out.below.setCell (p:=⟨w.heap.size+1,0,none⟩) (by show w.heap.size≤w.heap.size+1;omega) _).setCell (p:=⟨w.heap.size+1+1,0,none⟩) (by show w.heap.size≤w.heap.size+1+1;omega) _
 case done =>
  rintro D W hD ⟨⟨⟨h1,h2⟩,⟨v,h3,hrow,hnil⟩,hsq⟩,hB⟩ hK
  have hs:rootN n*rootN n=n∧rootN d*rootN d=d:=⟨hsq n (by simp),hsq d (by simp)⟩
  have c3:=C3.out hs
  have hv1:=Lib.hid (HV.out.1 hs)
  obtain ⟨g,cap,rfl⟩:=ownsRow_succ (k:=1) hrow
  obtain ⟨e0,e1,hg⟩:=two_cells hrow
  have hc3:=h3.cell
  have hgl:g<W.heap.size:=by
   obtain ⟨_,hh⟩:=cells_of_cell e0
   exact (Array.getElem?_eq_some_iff.1 hh.1).1
  have HH:=Lib.hid (And.intro h1 (And.intro h2 (And.intro h3 (And.intro hB (And.intro hK hD)))));clear h1 h2 h3 hB hK hD hrow hnil hsq hs
  have C4:=Lib.hid c3;clear c3
  unfold rtV at e0 e1
  have hmx:Tryz.prog.follows .mixedOrders=true:=by kernel_rfl
  have d0:=(show World.cell? W.drew ⟨g,0,none⟩=some (.string (strB (rootN n:Nat))) from e0)
  have d1:=(show World.cell? W.drew ⟨g,1,none⟩=some (.string (strB (rootN d:Nat))) from e1)
  have d3:=(show World.cell? W.drew ⟨w.heap.size+1+1+1,0,none⟩=some (.slice (some ⟨g,0,none⟩) 2 cap) from hc3)
  gi_wp2
  refine wpIn_mono (Q:=Exit.then _ (fun _ _ _=>False)) ?_ (fun e a' w' h=>by cases e <;> first | exact h | exact h.elim)
  gi_region_with_o (first | (refine ⟨trivial,?_⟩;refine (callsIn_wide.2 (C4.out W.drew HH.out.2.2.2.1.drew)).mono ?_;rintro e w5 ⟨rfl,b⟩;have HG:=Lib.hid (And.intro (HH.out.1.kept (W:=W.drew) (grownB b) (by simp)) (And.intro (HH.out.2.1.kept (W:=W.drew) (grownB b) (by simp)) (And.intro (HH.out.2.2.2.1.drew.trans (b.mono HH.out.2.2.2.1.drew.size)) (grownBy_keeps (grownB b) (fun r e=>by cases e) HH.out.2.2.2.2.1 rfl))));have hc5:=HG.out.1.cell;have hc6:=HG.out.2.1.cell;have hf5:=HG.out.1.frozen;have hf6:=HG.out.2.1.frozen))
  all_goals
   gi_wp2
   have hKd:((w5.setCell ⟨w.heap.size+1,0,none⟩ (.string r)).setCell ⟨w.heap.size+1+1,0,none⟩ (.bool true)).heap[D]? = some (.deferred (some [])) :=
    ((KeepsOthers.setCell w5 ⟨w.heap.size+1,0,none⟩ (.string r)).trans (KeepsOthers.setCell _ ⟨w.heap.size+1+1,0,none⟩ (.bool true))).same D _ (HG.out.2.2.2.trans HH.out.2.2.2.2.1) rfl
   have g0:=(HG.out.1.set (.string r)).other (B':=w.heap.size+1+1) (by omega) (.bool true)
   have g1:=(HG.out.2.1.other (B':=w.heap.size+1) (by omega) (.string r)).set (.bool true)
   have hBB:=(HG.out.2.2.1.setCell (p:=⟨w.heap.size+1,0,none⟩) (by show w.heap.size≤w.heap.size+1;omega) (.string r)).setCell (p:=⟨w.heap.size+1+1,0,none⟩) (by show w.heap.size≤w.heap.size+1+1;omega) (.bool true)
   refine ⟨by simp,.inl ⟨_,_,rfl,run_takeDeferred hKd,?_⟩⟩
   have hc7:=cell_kept g0.cell (grownBy_putObj' _ D (.deferred none)) (fun r e=>by cases e;exact ⟨_,hKd,rfl⟩)
   have hc8:=cell_kept g1.cell (grownBy_putObj' _ D (.deferred none)) (fun r e=>by cases e;exact ⟨_,hKd,rfl⟩)
   refine ⟨.tuple #[.string r,.bool true],?_,by rw [hv1.out],hBB.trans (belowK_b (w:=w) (Nat.le_refl _) _ D _ _ (by have:=HH.out.2.2.2.2.2;rw [HB.out.2.1] at this;omega) hKd rfl rfl)⟩
   simp [results,Tryz.f177,go_sem,hc7,hc8]
 case stop =>
  rintro D pre r' W hD hx ⟨⟨⟨m,hm,hq⟩,h1,h2⟩,hB⟩ hK
  have hs:¬ (rootN n*rootN n=n∧rootN d*rootN d=d):=fun h=>by
   have hm2:m=n∨m=d:=by simpa using hm
   rcases hm2 with e | e
   ·exact hq (e ▸ h.1)
   ·exact hq (e ▸ h.2)
  have hv2:=Lib.hid (HV.out.2 hs)
  have hc0:=h1.cell
  have hc1:=h2.cell
  have HH:=Lib.hid (And.intro hB (And.intro hK hD));clear hB hD hs hx hm hq
  gi_wp2
  refine ⟨by simp,.inl ⟨_,_,rfl,run_takeDeferred hK,?_⟩⟩
  have hc5:=cell_kept hc0 (grownBy_putObj' _ D (.deferred none)) (fun r e=>by cases e;exact ⟨_,hK,rfl⟩)
  have hc6:=cell_kept hc1 (grownBy_putObj' _ D (.deferred none)) (fun r e=>by cases e;exact ⟨_,hK,rfl⟩)
  refine ⟨.tuple #[.string ⟨#[]⟩,.bool false],?_,by rw [hv2.out],HH.out.1.trans (belowK_b (w:=w) (Nat.le_refl _) W D _ _ (by have:=HH.out.2.2;rw [HB.out.2.1] at this;omega) hK rfl rfl)⟩
  simp [results,Tryz.f177,go_sem,hc5,hc6]
end
end Go.Proofs.YtjdfjgfdbgmbiaaGreatDoor.T
namespace Go.Proofs.YtjdfjgfdbgmbiaaGreatDoor.T
open Go.Proofs.YtjdfjgfdbgmbiaaGreatDoor Go.Lib
end Go.Proofs.YtjdfjgfdbgmbiaaGreatDoor.T
namespace Go.Proofs.YtjdfjgfdbgmbiaaGreatDoor.T
open Go.Proofs.YtjdfjgfdbgmbiaaGreatDoor Go.RowKit Go.Lib
theorem oparts_q (q:Rat) (w:World) (hq:Sq q) :
  Calls Tryz.prog 174 #[.string (strQ q)] w fun e W'=>e = .returned (.agg #[.string (strB q.num),.string (strB (q.den:Int))])∧Below w.heap.size w W':=by
 have c:=oparts_any (strQ q) w hq.size
 rwa [bN_strQ,bD_strQ] at c
theorem ten_lim {k:Nat} (h:k≤300) {n:Nat} (hn:n<tenTo k):n<lim:=Nat.lt_of_lt_of_le hn (tenTo_mono h)
theorem nat_Bq {k n:Nat} (hk:1≤k) (h:n<tenTo k):Bq k ((n:Nat):Rat) :=
 ⟨by rw [Rat.num_natCast,Int.natAbs_natCast];exact h,by rw [Rat.den_natCast];exact Nat.one_lt_pow (by omega) (by decide)⟩
theorem strQ_nat (n:Nat):strQ ((n:Nat):Rat)=strB (n:Int):=by
 rw [←strQ_int,Rat.intCast_natCast]
theorem oroot (q:Rat) (rv:Value) (w:World) (h0:0≤q) (hq:Sq q) (ht:Tab w) (h1:bothS q→rv = .tuple #[.string (strQ (rootR q)),.bool true]) (h2:¬ bothS q→rv = .tuple #[.string ⟨#[]⟩,.bool false]) :
  Calls Tryz.prog 177 #[.agg #[.string (strB q.num),.string (strB (q.den:Int))]] w fun e W'=>e = .returned rv∧Below w.heap.size w W':=by
 have c:=oroot_z q.num.natAbs q.den (strQ (rootR q)) rv w hq.1 hq.2 ht h1 h2 (fun hs W _ => ?_)
 ·rwa [num_nat h0] at c
 ·have e:rootR q=Rat.divInt (rootN q.num.natAbs:Nat) ((rootN q.den:Nat):Int):=rfl
  have p:0<rootN q.den:=Nat.pos_of_ne_zero fun z=>by have:=hs.2;rw [z] at this;have:=q.den_pos;omega
  rw [e]
  refine onumber _ _ W (by omega) ?_ (nat_short.2 (Nat.lt_of_le_of_lt rootN_pos_le hq.1)) (nat_short.2 (Nat.lt_of_le_of_lt rootN_pos_le hq.2))
  rw [Int.natAbs_natCast,Int.natAbs_natCast]
  refine Nat.Coprime.coprime_dvd_left (k:=q.num.natAbs) ⟨_,hs.1.symm⟩ (Nat.Coprime.coprime_dvd_right (m:=q.den) ⟨_,hs.2.symm⟩ q.reduced)
end Go.Proofs.YtjdfjgfdbgmbiaaGreatDoor.T
namespace Go.Proofs.YtjdfjgfdbgmbiaaGreatDoor.T
open Go.Proofs.YtjdfjgfdbgmbiaaGreatDoor Go Go.RowKit Go.Shelf
theorem ownFrom_at {β:Type} {B D:Nat} {o:Obj} (hD:D<B):OwnFrom B (fun (_:β) (W:World)=>W.heap[D]? = some o) :=
 fun _ X Y row hs hg hr=>(hg.block D (Array.getElem?_eq_some_iff.1 hs).1 (fun e=>by have:=(hr D e.symm).1;omega)).trans hs
theorem sz90 {z:Int} (h:Bd 90 z):(szB (strB z)).size≤90:=by
 rw [szB_str,strB_len]
 have h1:Lib.nDigits z.natAbs≤90:=(nDigits_le_iff _ 90 (by decide)).2 h
 rw [Lib.itoa_nonneg,Lib.decDigits_length];exact h1
theorem trim_any (z:Int) (W:World):Calls Tryz.prog 171 #[.string (strB z),.string ⟨#[45]⟩] W fun e W'=>e = .returned (.string (szB (strB z)))∧W=W' :=
 (Tryz.strings_TrimPrefix (strB z) ⟨#[45]⟩ W).mono (fun e W' h=>⟨by rw [h.1,show (⟨#[45]⟩:ByteArray).data.toList = [45] from rfl,trim_neg];rfl,h.2.symm⟩)
section
attribute [local go_sem] Oper.semAt_some
theorem check_ok1 (b:Nat) (q0:Rat) (w:World) (h0:Bq 90 q0) (hx:Sl w b [strQ q0]) (ht:Tab w) (ht2:Tab64 w) :
  Calls Tryz.prog 172 #[.slice (some ⟨b,0,none⟩) 1 1] w fun e W'=>e = .returned (.int .i64 0)∧Below w.heap.size w W':=by
 refine (callsIn_wide (n:=9)).1 ?_
 have K0:=Lib.hid (fun W (h:Below w.heap.size w W)=>Check_q q0 W (h0.lim (by decide)) (ht.next h) (TabQ_next ht2 h))
 have P0:=Lib.hid (fun W=>oparts_q q0 W (h0.lim (by decide)))
 have X0:Hid (w.cell? ⟨b,0,none⟩=some (.string (strQ q0))):=Lib.hid (hx.cell 0 (by simp))
 have B0:Hid (∀ z ∈ [q0.num,(q0.den:Int)],Bd 90 z):=Lib.hid (by
  intro z hz
  have h:z=q0.num∨z=(q0.den:Int):=by simpa using hz
  rcases h with e | e
  ·rw [e];exact h0.num
  ·rw [e];exact h0.den)
 have hbl:=hx.lt
 clear h0 hx ht ht2
 generalize strQ q0=s0 at *
 generalize q0.num=n0 at *
 generalize (q0.den:Int)=d0 at *
 refine callsIn_of_wp_marks Tryz.func172 rfl trivial ?_ rfl
 simp only [Tryz.ntmps172,List.size_toArray,List.length_cons,List.length_nil,Nat.reduceAdd,Nat.reduceSub,Array.replicate_succ,Array.replicate_zero,List.push_toArray,List.append_toArray,List.nil_append,List.cons_append]
 gi_wp2
 have HB:=Lib.hid (And.intro (Boxed.new w 27 (.int .i64 0)) ((Below.refl _ w).alloc (Nat.le_refl _) (.cells #[.int .i64 0] 27)))
 generalize w.alloc (.cells #[.int .i64 0] 27)=V0 at *
 refine wpIn_loop_rounds 2 ?_
 rw [Code.roundsIn]
 have hc:=(HB.out.2.cell (p:=⟨b,0,none⟩) hbl).trans X0.out
 gi_wp2_with fail
 refine ⟨trivial,?_⟩
 refine (callsIn_wide.2 (K0.out _ HB.out.2)).mono ?_
 rintro e w1 ⟨rfl,bb⟩
 clear hc
 have HN:=Lib.hid (And.intro (HB.out.1.kept (grownB bb) (by simp)) (HB.out.2.trans (bb.mono HB.out.2.size)))
 clear HB bb;have HB:=HN;clear HN
 gi_wp2_with fail
 refine ⟨trivial,?_⟩
 refine (callsIn_wide.2 (P0.out _)).mono ?_
 rintro e w2 ⟨rfl,bb⟩
 have HN:=Lib.hid (And.intro (HB.out.1.kept (grownB bb) (by simp)) (HB.out.2.trans (bb.mono HB.out.2.size)))
 clear HB bb;have HB:=HN;clear HN
 have LS0:=Lib.hid HB.out.2.size
 gi_wp2
 refine range_mv rfl (by omega) (gf:=217) (fs := #[.agg #[.string (strB n0),.string (strB d0)]]) rfl trivial (enters_of Tryz.func217 (by kernel_rfl) rfl)
  (each_hands strB n0 d0 (9 - 1) w2 (by omega)) (fun _=>rfl) .ret (.inl rfl)
  (fun _ W=>Boxed W w.heap.size 27 (.int .i64 0)∧Below w.heap.size w W)
  (fun _ _=>False)
  (OwnFrom.and (Own.from (boxed_own _ _ (fun _ => .int .i64 0)) _) (ownFrom_below (Nat.le_refl _) HB.out.2.size))
  (fun _ _ _ _ h _ _=>h)
  (fun s A h=>⟨h.1,h.2.drew⟩)
  (HB.out)
  (fun z=>{ tmps := #[.slice (some ⟨b,0,none⟩) 1 1,undef,.pointer (some ⟨w.heap.size,0,none⟩),undef,.string s0,.int .i64 0,.string (strB z),.slice (some ⟨b,0,none⟩) 1 1,.int .i64 1,.int .i64 0,.bool true,.pointer (some ⟨b,0,none⟩),.string s0,.string s0,.int .i64 0,.int .i64 0,.bool false,undef,.string s0,.agg #[.string (strB n0),.string (strB d0)],.func (.func 217) #[.agg #[.string (strB n0),.string (strB d0)]] #[],.string (strB z),undef,undef,undef,undef,undef],defers := [] }) ?assign0 ?body0 ?done0 ?stop0
 case assign0 =>
  intro l x W K hK
  gi_wp2
  exact hK
 case body0 =>
  rintro l pre z r' W hle hx hI
  have hz:=sz90 (B0.out z (by rw [hx];simp))
  have HI:=Lib.hid hI;clear hI hx
  have ct:=Lib.hid (fun W=>trim_any z W)
  generalize szB (strB z)=u at *
  have hz1:¬ (90:Int)<u.size:=by omega
  have hz2:(u.size:Int)≤9223372036854775807:=by omega
  gi_wp2_with fail
  refine ⟨trivial,?_⟩
  refine (CallsIn.inRound l (callsIn_wide.2 (ct.out _))).mono ?_
  rintro e w3 ⟨rfl,rfl⟩
  gi_wp2
  exact ⟨KeepsFrom.refl _ _,fun _=>Kb.refl _ _,HI.out⟩
 case stop0 =>
  rintro D pre r' W hD hx h hK
  exact h.elim
 case done0 =>
 rintro D0 V1 hD0 hBx hM0
 have HN:=Lib.hid hBx
 have HE0:=Lib.hid hD0
 have LO0:Hid (w.heap.size≤D0):=Lib.hid (Nat.le_trans LS0.out HE0.out)
 clear HB hBx hD0;have HB:=HN;clear HN
 have HM0:=Lib.hid hM0;clear hM0
 gi_wp2
 rw [Code.roundsIn]
 have hc:=HB.out.1.cell
 have hf:=HB.out.1.frozen
 gi_wp2
 have g:=HB.out.1.set (.int .i64 0)
 have hBB:=HB.out.2.setCell (p:=⟨w.heap.size,0,none⟩) (Nat.le_refl _) (.int .i64 0)
 have k0:(V1.setCell ⟨w.heap.size,0,none⟩ (.int .i64 0)).heap[D0]? = some (.deferred (some [])):=(KeepsOthers.setCell V1 ⟨w.heap.size,0,none⟩ (.int .i64 0)).same D0 _ HM0.out rfl
 refine ⟨by simp,.inl ⟨_,_,rfl,run_takeDeferred k0,?_⟩⟩
 have g:=g.kept (grownBy_putObj' _ D0 (.deferred none)) (fun e=>by cases e;have h1:=g;have h2:=k0;unfold Boxed at h1;rw [h1] at h2;cases h2)
 have hBB:=hBB.trans (belowK_b (w:=w) (Nat.le_refl _) _ D0 _ (.deferred none) (LO0.out) k0 rfl rfl)
 have hc9:=g.cell
 refine ⟨.int .i64 0,?_,rfl,hBB⟩
 simp [results,Tryz.f172,go_sem,hc9]
theorem check_ok2 (b:Nat) (q0 q1:Rat) (w:World) (h0:Bq 90 q0) (h1:Bq 90 q1) (hx:Sl w b [strQ q0,strQ q1]) (ht:Tab w) (ht2:Tab64 w) :
  Calls Tryz.prog 172 #[.slice (some ⟨b,0,none⟩) 2 2] w fun e W'=>e = .returned (.int .i64 0)∧Below w.heap.size w W':=by
 refine (callsIn_wide (n:=9)).1 ?_
 have K0:=Lib.hid (fun W (h:Below w.heap.size w W)=>Check_q q0 W (h0.lim (by decide)) (ht.next h) (TabQ_next ht2 h))
 have P0:=Lib.hid (fun W=>oparts_q q0 W (h0.lim (by decide)))
 have X0:Hid (w.cell? ⟨b,0,none⟩=some (.string (strQ q0))):=Lib.hid (hx.cell 0 (by simp))
 have B0:Hid (∀ z ∈ [q0.num,(q0.den:Int)],Bd 90 z):=Lib.hid (by
  intro z hz
  have h:z=q0.num∨z=(q0.den:Int):=by simpa using hz
  rcases h with e | e
  ·rw [e];exact h0.num
  ·rw [e];exact h0.den)
 have K1:=Lib.hid (fun W (h:Below w.heap.size w W)=>Check_q q1 W (h1.lim (by decide)) (ht.next h) (TabQ_next ht2 h))
 have P1:=Lib.hid (fun W=>oparts_q q1 W (h1.lim (by decide)))
 have X1:Hid (w.cell? ⟨b,1,none⟩=some (.string (strQ q1))):=Lib.hid (hx.cell 1 (by simp))
 have B1:Hid (∀ z ∈ [q1.num,(q1.den:Int)],Bd 90 z):=Lib.hid (by
  intro z hz
  have h:z=q1.num∨z=(q1.den:Int):=by simpa using hz
  rcases h with e | e
  ·rw [e];exact h1.num
  ·rw [e];exact h1.den)
 have hbl:=hx.lt
 clear h0 h1 hx ht ht2
 generalize strQ q0=s0 at *
 generalize q0.num=n0 at *
 generalize (q0.den:Int)=d0 at *
 generalize strQ q1=s1 at *
 generalize q1.num=n1 at *
 generalize (q1.den:Int)=d1 at *
 refine callsIn_of_wp_marks Tryz.func172 rfl trivial ?_ rfl
 simp only [Tryz.ntmps172,List.size_toArray,List.length_cons,List.length_nil,Nat.reduceAdd,Nat.reduceSub,Array.replicate_succ,Array.replicate_zero,List.push_toArray,List.append_toArray,List.nil_append,List.cons_append]
 gi_wp2
 have HB:=Lib.hid (And.intro (Boxed.new w 27 (.int .i64 0)) ((Below.refl _ w).alloc (Nat.le_refl _) (.cells #[.int .i64 0] 27)))
 generalize w.alloc (.cells #[.int .i64 0] 27)=V0 at *
 refine wpIn_loop_rounds 3 ?_
 rw [Code.roundsIn]
 have hc:=(HB.out.2.cell (p:=⟨b,0,none⟩) hbl).trans X0.out
 gi_wp2_with fail
 refine ⟨trivial,?_⟩
 refine (callsIn_wide.2 (K0.out _ HB.out.2)).mono ?_
 rintro e w1 ⟨rfl,bb⟩
 clear hc
 have HN:=Lib.hid (And.intro (HB.out.1.kept (grownB bb) (by simp)) (HB.out.2.trans (bb.mono HB.out.2.size)))
 clear HB bb;have HB:=HN;clear HN
 gi_wp2_with fail
 refine ⟨trivial,?_⟩
 refine (callsIn_wide.2 (P0.out _)).mono ?_
 rintro e w2 ⟨rfl,bb⟩
 have HN:=Lib.hid (And.intro (HB.out.1.kept (grownB bb) (by simp)) (HB.out.2.trans (bb.mono HB.out.2.size)))
 clear HB bb;have HB:=HN;clear HN
 have LS0:=Lib.hid HB.out.2.size
 gi_wp2
 refine range_mv rfl (by omega) (gf:=217) (fs := #[.agg #[.string (strB n0),.string (strB d0)]]) rfl trivial (enters_of Tryz.func217 (by kernel_rfl) rfl)
  (each_hands strB n0 d0 (9 - 1) w2 (by omega)) (fun _=>rfl) .ret (.inl rfl)
  (fun _ W=>Boxed W w.heap.size 27 (.int .i64 0)∧Below w.heap.size w W)
  (fun _ _=>False)
  (OwnFrom.and (Own.from (boxed_own _ _ (fun _ => .int .i64 0)) _) (ownFrom_below (Nat.le_refl _) HB.out.2.size))
  (fun _ _ _ _ h _ _=>h)
  (fun s A h=>⟨h.1,h.2.drew⟩)
  (HB.out)
  (fun z=>{ tmps := #[.slice (some ⟨b,0,none⟩) 2 2,undef,.pointer (some ⟨w.heap.size,0,none⟩),undef,.string s0,.int .i64 0,.string (strB z),.slice (some ⟨b,0,none⟩) 2 2,.int .i64 2,.int .i64 0,.bool true,.pointer (some ⟨b,0,none⟩),.string s0,.string s0,.int .i64 0,.int .i64 0,.bool false,undef,.string s0,.agg #[.string (strB n0),.string (strB d0)],.func (.func 217) #[.agg #[.string (strB n0),.string (strB d0)]] #[],.string (strB z),undef,undef,undef,undef,undef],defers := [] }) ?assign0 ?body0 ?done0 ?stop0
 case assign0 =>
  intro l x W K hK
  gi_wp2
  exact hK
 case body0 =>
  rintro l pre z r' W hle hx hI
  have hz:=sz90 (B0.out z (by rw [hx];simp))
  have HI:=Lib.hid hI;clear hI hx
  have ct:=Lib.hid (fun W=>trim_any z W)
  generalize szB (strB z)=u at *
  have hz1:¬ (90:Int)<u.size:=by omega
  have hz2:(u.size:Int)≤9223372036854775807:=by omega
  gi_wp2_with fail
  refine ⟨trivial,?_⟩
  refine (CallsIn.inRound l (callsIn_wide.2 (ct.out _))).mono ?_
  rintro e w3 ⟨rfl,rfl⟩
  gi_wp2
  exact ⟨KeepsFrom.refl _ _,fun _=>Kb.refl _ _,HI.out⟩
 case stop0 =>
  rintro D pre r' W hD hx h hK
  exact h.elim
 case done0 =>
 rintro D0 V1 hD0 hBx hM0
 have HN:=Lib.hid hBx
 have HE0:=Lib.hid hD0
 have LO0:Hid (w.heap.size≤D0):=Lib.hid (Nat.le_trans LS0.out HE0.out)
 clear HB hBx hD0;have HB:=HN;clear HN
 have HM0:=Lib.hid hM0;clear hM0
 gi_wp2
 rw [Code.roundsIn]
 have hc:=(HB.out.2.cell (p:=⟨b,1,none⟩) hbl).trans X1.out
 gi_wp2_with fail
 refine ⟨trivial,?_⟩
 refine (callsIn_wide.2 (K1.out _ HB.out.2)).mono ?_
 rintro e w1 ⟨rfl,bb⟩
 clear hc
 have HN:=Lib.hid (And.intro (HB.out.1.kept (grownB bb) (by simp)) (HB.out.2.trans (bb.mono HB.out.2.size)))
 have HN0:=Lib.hid ((bb.block D0 (Array.getElem?_eq_some_iff.1 HM0.out).1).trans HM0.out);clear HM0;have HM0:=HN0;clear HN0
 clear HB bb;have HB:=HN;clear HN
 gi_wp2_with fail
 refine ⟨trivial,?_⟩
 refine (callsIn_wide.2 (P1.out _)).mono ?_
 rintro e w2 ⟨rfl,bb⟩
 have HN:=Lib.hid (And.intro (HB.out.1.kept (grownB bb) (by simp)) (HB.out.2.trans (bb.mono HB.out.2.size)))
 have HN0:=Lib.hid ((bb.block D0 (Array.getElem?_eq_some_iff.1 HM0.out).1).trans HM0.out);clear HM0;have HM0:=HN0;clear HN0
 clear HB bb;have HB:=HN;clear HN
 have LT01:=Lib.hid (Array.getElem?_eq_some_iff.1 HM0.out).1
 have LS1:=Lib.hid HB.out.2.size
 gi_wp2
 refine range_mv rfl (by omega) (gf:=217) (fs := #[.agg #[.string (strB n1),.string (strB d1)]]) rfl trivial (enters_of Tryz.func217 (by kernel_rfl) rfl)
  (each_hands strB n1 d1 (9 - 1) w2 (by omega)) (fun _=>rfl) .ret (.inl rfl)
  (fun _ W=>W.heap[D0]? = some (.deferred (some []))∧(Boxed W w.heap.size 27 (.int .i64 0)∧Below w.heap.size w W))
  (fun _ _=>False)
  (OwnFrom.and (ownFrom_at (Array.getElem?_eq_some_iff.1 HM0.out).1) (OwnFrom.and (Own.from (boxed_own _ _ (fun _ => .int .i64 0)) _) (ownFrom_below (Nat.le_refl _) HB.out.2.size)))
  (fun _ _ _ _ h _ _=>h)
  (fun s A h=>⟨h.1,⟨h.2.1,h.2.2.drew⟩⟩)
  (⟨HM0.out,HB.out⟩)
  (fun z=>{ tmps := #[.slice (some ⟨b,0,none⟩) 2 2,undef,.pointer (some ⟨w.heap.size,0,none⟩),undef,.string s1,.int .i64 0,.string (strB z),.slice (some ⟨b,0,none⟩) 2 2,.int .i64 2,.int .i64 1,.bool true,.pointer (some ⟨b,1,none⟩),.string s1,.string s1,.int .i64 0,.int .i64 0,.bool false,undef,.string s1,.agg #[.string (strB n1),.string (strB d1)],.func (.func 217) #[.agg #[.string (strB n1),.string (strB d1)]] #[],.string (strB z),undef,undef,undef,undef,.int .i64 1],defers := [] }) ?assign1 ?body1 ?done1 ?stop1
 case assign1 =>
  intro l x W K hK
  gi_wp2
  exact hK
 case body1 =>
  rintro l pre z r' W hle hx hI
  have hz:=sz90 (B1.out z (by rw [hx];simp))
  have HI:=Lib.hid hI;clear hI hx
  have ct:=Lib.hid (fun W=>trim_any z W)
  generalize szB (strB z)=u at *
  have hz1:¬ (90:Int)<u.size:=by omega
  have hz2:(u.size:Int)≤9223372036854775807:=by omega
  gi_wp2_with fail
  refine ⟨trivial,?_⟩
  refine (CallsIn.inRound l (callsIn_wide.2 (ct.out _))).mono ?_
  rintro e w3 ⟨rfl,rfl⟩
  gi_wp2
  exact ⟨KeepsFrom.refl _ _,fun _=>Kb.refl _ _,HI.out⟩
 case stop1 =>
  rintro D pre r' W hD hx h hK
  exact h.elim
 case done1 =>
 rintro D1 V2 hD1 ⟨hM0,hBx⟩ hM1
 have HN:=Lib.hid hBx
 have HE1:=Lib.hid hD1
 have LO1:Hid (w.heap.size≤D1):=Lib.hid (Nat.le_trans LS1.out HE1.out)
 clear HB hBx hD1;have HB:=HN;clear HN
 have NE01:Hid (D0≠D1):=Lib.hid (by have h1:=LT01.out;have h2:=HE1.out;have h3:=h1;omega)
 clear HM0
 have HM0:=Lib.hid hM0;clear hM0
 have HM1:=Lib.hid hM1;clear hM1
 gi_wp2
 rw [Code.roundsIn]
 have hc:=HB.out.1.cell
 have hf:=HB.out.1.frozen
 gi_wp2
 have g:=HB.out.1.set (.int .i64 0)
 have hBB:=HB.out.2.setCell (p:=⟨w.heap.size,0,none⟩) (Nat.le_refl _) (.int .i64 0)
 have k1:(V2.setCell ⟨w.heap.size,0,none⟩ (.int .i64 0)).heap[D1]? = some (.deferred (some [])):=(KeepsOthers.setCell V2 ⟨w.heap.size,0,none⟩ (.int .i64 0)).same D1 _ HM1.out rfl
 have k0:(V2.setCell ⟨w.heap.size,0,none⟩ (.int .i64 0)).heap[D0]? = some (.deferred (some [])):=(KeepsOthers.setCell V2 ⟨w.heap.size,0,none⟩ (.int .i64 0)).same D0 _ HM0.out rfl
 refine ⟨by simp,.inl ⟨_,_,rfl,run_takeDeferred k1,?_⟩⟩
 have g:=g.kept (grownBy_putObj' _ D1 (.deferred none)) (fun e=>by cases e;have h1:=g;have h2:=k1;unfold Boxed at h1;rw [h1] at h2;cases h2)
 have hBB:=hBB.trans (belowK_b (w:=w) (Nat.le_refl _) _ D1 _ (.deferred none) (LO1.out) k1 rfl rfl)
 have k0:=(World.putObj_heap_other (o := .deferred none) (NE01.out)).trans k0
 refine ⟨by simp,.inl ⟨_,_,rfl,run_takeDeferred k0,?_⟩⟩
 have g:=g.kept (grownBy_putObj' _ D0 (.deferred none)) (fun e=>by cases e;have h1:=g;have h2:=k0;unfold Boxed at h1;rw [h1] at h2;cases h2)
 have hBB:=hBB.trans (belowK_b (w:=w) (Nat.le_refl _) _ D0 _ (.deferred none) (LO0.out) k0 rfl rfl)
 have hc9:=g.cell
 refine ⟨.int .i64 0,?_,rfl,hBB⟩
 simp [results,Tryz.f172,go_sem,hc9]
end
end Go.Proofs.YtjdfjgfdbgmbiaaGreatDoor.T
