/- Parts of the proof of the text YtocalfjfjjljnaaGreatDoorZO44. -/
import Derived.Test.YtocalfjfjjljnaaGreatDoorZO1
import Derived.Test.YtocalfjfjjljnaaGreatDoorZO24
set_option linter.all false
set_option maxRecDepth 100000
set_option maxHeartbeats 8000000
namespace Go.Proofs.YtocalfjfjjljnaaGreatDoor
namespace T
open Go.Proofs.YtocalfjfjjljnaaGreatDoor Go Go.RowKit Go.Shelf
def dn (c:UInt8):Bool:=33≤c && c≤126
theorem ll (c:UInt8):dn c=true↔33≤c.toNat∧c.toNat≤126:=by
 simp [dn,UInt8.le_iff_toNat_le]
theorem Eg (c:UInt8) (w:World):Calls Tryz.prog 35 #[.int .u8 c.toNat] w fun e W'=>e = .returned (.bool (dn c))∧w=W':=by
 by_cases h1:(33:Int)≤c.toNat
 ·by_cases h2:(c.toNat:Int)≤126
  ·rw [show dn c=true by rw [ll];omega]
   go_enter Tryz.func35,Tryz.ntmps35
   go_wp2
   go_ret
   exact ⟨rfl,rfl⟩
  ·rw [show dn c=false by rw [←Bool.not_eq_true,ll];omega]
   go_enter Tryz.func35,Tryz.ntmps35
   go_wp2
   go_ret
   exact ⟨rfl,rfl⟩
 ·rw [show dn c=false by rw [←Bool.not_eq_true,ll];omega]
  go_enter Tryz.func35,Tryz.ntmps35
  go_wp2
  go_ret
  exact ⟨rfl,rfl⟩
theorem DQ (s:ByteArray) (w:World) (hs:s.size≤100000) :
  Calls Tryz.prog 34 #[.string s,.func (.func 35) #[] #[]] w fun e W'=>e = .returned (.bool (dy dn s.data.toList))∧Below w.heap.size w W' :=
 (kD 35 dn s w hs (enters_of Tryz.func35 (by kernel_rfl) rfl) (fun c=>Eg c w)).mono fun e W' h=>⟨h.1,by rw [←h.2];exact Below.refl _ _⟩
theorem BS:(Tryz.prog.info? 9).map (fun i=>(i.zero,i.size,i.bytes))=some (some (.string ⟨#[]⟩),1,16):=by kernel_rfl
section
attribute [local go_sem] Oper.semAt_some
theorem rW (s:ByteArray) (w:World) (hs:s.size≤1000) :
  Calls Tryz.prog 10 #[.string s] w fun e W'=>Below w.heap.size w W'∧((e = .returned (.tuple #[.slice none 0 0,.int .i64 3])∧∃ x∈wl s.data.toList,dy dn x.data.toList=false) ∨
   ∃ v,e = .returned (.tuple #[v,.int .i64 0])∧(∀ x∈wl s.data.toList,dy dn x.data.toList=true)∧W'.ownsRow w.heap.size 9 1 v (wl s.data.toList).length ((wl s.data.toList).map Value.string)):=by
 refine (callsIn_wide (n:=9)).1 ?_
 obtain ⟨i0,hi,hz0,hz1,hz2⟩:=info_parts BS
 have s1:¬ (65536:Int)<s.size:=by omega
 refine callsIn_of_wp_marks Tryz.func10 rfl trivial ?_ rfl
 simp only [Tryz.ntmps10,List.size_toArray,List.length_cons,List.length_nil,Nat.reduceAdd,Nat.reduceSub,Array.replicate_succ,Array.replicate_zero,List.push_toArray,List.append_toArray,List.nil_append,List.cons_append]
 gi_wp2_with fail
 refine ⟨trivial,?_⟩
 refine (callsIn_wide.2 (yi _ _)).mono ?_
 rintro e W1 ⟨rfl,rfl⟩
 gi_wp2
 have b0:=(((Boxed.new w 30 (.slice none 0 0)).alloc (.cells #[.int .i64 0] 25)).alloc (.cells #[.slice none 0 0] 30)).alloc (.cells #[.string s] 9)
 have b1:=((Boxed.new (w.alloc (.cells #[.slice none 0 0] 30)) 25 (.int .i64 0)).alloc (.cells #[.slice none 0 0] 30)).alloc (.cells #[.string s] 9)
 have b2:=(Boxed.new ((w.alloc (.cells #[.slice none 0 0] 30)).alloc (.cells #[.int .i64 0] 25)) 30 (.slice none 0 0)).alloc (.cells #[.string s] 9)
 have b3:=Boxed.new (((w.alloc (.cells #[.slice none 0 0] 30)).alloc (.cells #[.int .i64 0] 25)).alloc (.cells #[.slice none 0 0] 30)) 9 (.string s)
 simp only [World.size_alloc] at b1 b2 b3
 have hB0:Below w.heap.size w ((((w.alloc (.cells #[.slice none 0 0] 30)).alloc (.cells #[.int .i64 0] 25)).alloc (.cells #[.slice none 0 0] 30)).alloc (.cells #[.string s] 9)):=((((Below.refl _ w).alloc (Nat.le_refl _) _).alloc (by simp) _).alloc (by simp;omega) _).alloc (by simp;omega) _
 have hsz:((((w.alloc (.cells #[.slice none 0 0] 30)).alloc (.cells #[.int .i64 0] 25)).alloc (.cells #[.slice none 0 0] 30)).alloc (.cells #[.string s] 9)).heap.size=w.heap.size+1+1+1+1:=by simp
 generalize ((((w.alloc (.cells #[.slice none 0 0] 30)).alloc (.cells #[.int .i64 0] 25)).alloc (.cells #[.slice none 0 0] 30)).alloc (.cells #[.string s] 9))=W5 at *
 have HB:=Ha (Hb hB0 (Hb hsz (Hb b0 (Hb b1 (Hb b2 b3)))));clear b0 b1 b2 b3 hB0 hsz
 refine wpIn_rangeFunc_ownG rfl (by omega) (gf:=73) (lb := #[.pointer (some ⟨w.heap.size+1+1+1,0,none⟩)]) rfl trivial (enters_of Tryz.func73 (by kernel_rfl) rfl)
  (rV (9 - 1) (by omega) s hs (w.heap.size+1+1+1) w.heap.size W5 (by rw [HB.out.2.1];omega) HB.out.2.2.2.2.2.cell) belowK_t (belowK_b (by rw [HB.out.2.1];omega)) (Below.refl _ _) (fun _=>rfl)
  (fun pre W=>(((Boxed W w.heap.size 30 (.slice none 0 0)∧Boxed W (w.heap.size+1) 25 (.int .i64 0))∧∃ v,Boxed W (w.heap.size+1+1) 30 v∧W.ownsRow w.heap.size 9 1 v pre.length (pre.map fun x:WS=>Value.string x.1)∧True)∧∀ x∈pre,dy dn x.1.data.toList=true)∧Below w.heap.size w W)
  (fun c pre W=>((c = .ret∧∃ x∈pre,dy dn x.1.data.toList=false)∧(Boxed W w.heap.size 30 (.slice none 0 0)∧Boxed W (w.heap.size+1) 25 (.int .i64 3)))∧Below w.heap.size w W)
  (OwnFrom.and (OwnFrom.and (OwnFrom.and (OwnFrom.and (Own.from (boxed_own _ _ (fun _ => .slice none 0 0)) _) (Own.from (boxed_own _ _ (fun _ => .int .i64 0)) _)) (Own.from (holdsRow_own w.heap.size (w.heap.size+1+1) 30 9 1 (fun pre:List WS=>pre.length) (fun pre=>pre.map fun x:WS=>Value.string x.1) (fun _ _=>True)) _)) (ownFrom_pure _ _)) (ownFrom_below (Nat.le_refl _) (by rw [HB.out.2.1];omega)))
  (fun c=>OwnFrom.and (OwnFrom.and (ownFrom_pure _ _) (OwnFrom.and (Own.from (boxed_own _ _ (fun _ => .slice none 0 0)) _) (Own.from (boxed_own _ _ (fun _ => .int .i64 3)) _))) (ownFrom_below (Nat.le_refl _) (by rw [HB.out.2.1];omega)))
  ⟨⟨⟨⟨HB.out.2.2.1,HB.out.2.2.2.1⟩,_,HB.out.2.2.2.2.1,World.ownsRow_nil _ _ _ _,trivial⟩,fun _ h=>by cases h⟩,HB.out.1⟩
  (fun x=>{ tmps := #[.string s,undef,.pointer (some ⟨w.heap.size,0,none⟩),.pointer (some ⟨w.heap.size+1,0,none⟩),.pointer (some ⟨w.heap.size+1+1,0,none⟩),.string x.1,.string s,.int .i64 s.size,.bool false,.string s,.func (.func 73) #[] #[.pointer (some ⟨w.heap.size+1+1+1,0,none⟩)],.string x.1,undef,undef,undef,undef,undef,undef,undef,undef],defers := [] }) ?assign ?body ?done ?stop
 case assign =>
  intro l x W K hK
  gi_wp2
  exact hK
 case body =>
  rintro l pre ⟨x,hx⟩ W ⟨⟨⟨⟨h0,h1⟩,⟨v,hv,hrow,_⟩⟩,hp⟩,hB⟩ hlt
  have C:=DQ x W (by omega)
  have HP:=Ha (show ∀ c,dy dn x.data.toList=c→dy dn x.data.toList=c from fun _ h=>h)
  cases hc:dy dn x.data.toList
  ·rw [hc] at C
   have HC:=Ha (Hb C hc);clear C hc
   have HH:=Ha (Hb h0 (Hb h1 hB));clear h0 h1 hB hv hrow hp
   gi_wp2_with fail
   refine ⟨trivial,?_⟩
   refine (CallsIn.inRound l (callsIn_wide.2 HC.out.1)).mono ?_
   rintro e w' ⟨rfl,b⟩
   have g:=qk b
   have HG:=Ha (Hb (HH.out.1.kept g (by simp)) (Hb (HH.out.2.1.kept g (by simp)) (Hb (KeepsFrom.of_grownBy (B:=W5.heap.size) g (fun j e=>by cases e)) b)))
   clear g b
   have hc0:=HG.out.1.cell
   have hc1:=HG.out.2.1.cell
   have hf0:=HG.out.1.frozen
   have hf1:=HG.out.2.1.frozen
   gi_wp2
   refine ⟨HG.out.2.2.1.trans (((KeepsOthers.setCell _ _ _).from _).trans ((KeepsOthers.setCell _ _ _).from _)),⟨⟨⟨rfl,⟨x,hx⟩,List.mem_append_right _ (List.mem_singleton.2 rfl),HC.out.2⟩,⟨(HG.out.1.set _).other (by omega) _,(HG.out.2.1.other (by omega) _).set _⟩⟩,((HH.out.2.2.trans (HG.out.2.2.2.mono HH.out.2.2.size)).setCell (p:=⟨w.heap.size,0,none⟩) (Nat.le_refl _) _).setCell (p:=⟨w.heap.size+1,0,none⟩) (by show w.heap.size≤w.heap.size+1;omega) _⟩⟩
  ·rw [hc] at C
   have HC:=Ha (Hb C hc);clear C hc
   have hpl:pre.length≤1001:=by have:=yh s.data.toList;have e:s.data.toList.length=s.size:=rfl;omega
   have HX:=Ha (Hb hp hlt);clear hp hlt
   have HH:=Ha (Hb h0 (Hb h1 (Hb hB (Hb hv hrow))));clear h0 h1 hB hv hrow
   gi_wp2_with fail
   refine ⟨trivial,?_⟩
   refine (CallsIn.inRound l (callsIn_wide.2 HC.out.1)).mono ?_
   rintro e w' ⟨rfl,b⟩
   have g:=qk b
   have h0:=HH.out.1.kept g (by simp)
   have h1:=HH.out.2.1.kept g (by simp)
   have hv:=HH.out.2.2.2.1.kept g (by simp)
   have hrow:=HH.out.2.2.2.2.kept g (by
    rcases HH.out.2.2.2.2.2 with ⟨rfl,_⟩ | ⟨g',cap,cur,rfl,_⟩
    ·exact .inl rfl
    ·exact .inr (by simp [Value.ownBlock]))
   have KP:=Ha (KeepsFrom.of_grownBy (B:=W5.heap.size) g (fun j e=>by cases e))
   have hB:=HH.out.2.2.1.trans (b.mono HH.out.2.2.1.size)
   have HBW:=Ha (b.mono HH.out.2.2.1.size)
   clear g b
   have hcv:=hv.cell
   gi_wp2_with (gi_at_builtin;refine wpListIn_append_own _ rfl _ _ 30 rfl w.heap.size 9 i0 (.string ⟨#[]⟩) 1 16 Tryz.underlying30 hi hz0 hz1 hz2 rfl (by decide) _ _ _ rfl (hrow.alloc _) ⟨w'.heap.size,0,none⟩ 1 1 [.string x] rfl rfl (cell_one_new _ _ _) (by simp [Value.oneCell']) (by unfold maxLen;omega) (by omega) (by have:=hB.size;simp;omega) ?_;intro v' w1 hown' hgrow _;have k0:=((h0.alloc _).kept hgrow (h0.not_row (by decide) hrow)).other (B':=w.heap.size+1+1) (by omega) v';have k1:=((h1.alloc _).kept hgrow (h1.not_row (by decide) hrow)).other (B':=w.heap.size+1+1) (by omega) v';obtain ⟨g',cap',rfl⟩:=ownsRow_succ hown';obtain ⟨hv1,hv2,hr2,hk2,hb2⟩:=hv.appended (by decide) hrow hB.size (by omega) hown' hgrow;have hc1:=hv1.cell;have hf1:=hv1.frozen)
   refine ⟨KP.out.trans (hk2.from _),HBW.out.trans hb2,⟨⟨⟨⟨k0,k1⟩,_,hv2,by simpa using hr2,trivial⟩,fun y hy=>(List.mem_append.1 hy).elim (HX.out.1 y) (fun e=>by rw [List.mem_singleton.1 e];exact HC.out.2)⟩,hB.trans hb2⟩⟩
 case done =>
  rintro D ys W hD hys ⟨⟨⟨⟨h0,h1⟩,⟨v,hv,hrow,_⟩⟩,hp⟩,hB⟩ hK
  have hmx:Tryz.prog.follows .mixedOrders=true:=by kernel_rfl
  have HYS:=Ha (Hb hys hp);clear hys hp
  have HD:=Ha hD;clear hD
  have hvs:∃ q m c,v = .slice q m c:=by
   rcases hrow.2 with ⟨rfl,_⟩ | ⟨g',cap,cur,rfl,_⟩
   ·exact ⟨_,_,_,rfl⟩
   ·exact ⟨_,_,_,rfl⟩
  obtain ⟨q,m,c,rfl⟩:=hvs
  have HH:=Ha (Hb h0 (Hb h1 (Hb hB (Hb hv (Hb hrow hK)))));clear hB hrow hK
  have hc0:=h0.cell
  have hc1:=h1.cell
  have hcv:=hv.cell
  have hf0:=h0.frozen
  have hf1:=h1.frozen
  clear h0 h1 hv
  gi_wp2
  have g0:=(HH.out.1.set (.slice q m c)).other (B':=w.heap.size+1) (by omega) (.int .i64 0)
  have g1:=(HH.out.2.1.other (B':=w.heap.size) (by omega) (.slice q m c)).set (.int .i64 0)
  have hr:=(HH.out.2.2.2.2.1.kept (grownBy_setCell' W w.heap.size (.slice q m c)) (.inr (HH.out.1.not_row (by decide) HH.out.2.2.2.2.1).symm)).kept (grownBy_setCell' _ (w.heap.size+1) (.int .i64 0)) (.inr (HH.out.2.1.not_row (by decide) HH.out.2.2.2.2.1).symm)
  have hK':=((KeepsOthers.setCell W ⟨w.heap.size,0,none⟩ (.slice q m c)).trans (KeepsOthers.setCell _ ⟨w.heap.size+1,0,none⟩ (.int .i64 0))).same D _ HH.out.2.2.2.2.2 rfl
  have hBB:=(HH.out.2.2.1.setCell (p:=⟨w.heap.size,0,none⟩) (Nat.le_refl _) (.slice q m c)).setCell (p:=⟨w.heap.size+1,0,none⟩) (by show w.heap.size≤w.heap.size+1;omega) (.int .i64 0)
  have k0:=g0.cell
  have k1:=g1.cell
  refine ⟨by simp,.inl ⟨_,_,rfl,run_takeDeferred hK',?_⟩⟩
  have hc5:=cell_kept k0 (grownBy_putObj' _ D (.deferred none)) (fun r e=>by cases e;exact ⟨_,hK',rfl⟩)
  have hc6:=cell_kept k1 (grownBy_putObj' _ D (.deferred none)) (fun r e=>by cases e;exact ⟨_,hK',rfl⟩)
  have hr2:=ownsRow_putObj hr (.deferred none) hK' rfl
  have hyl:ys.length=(wl s.data.toList).length:=by rw [←HYS.out.1,List.length_map]
  have hym:(ys.map fun x:WS=>Value.string x.1)=(wl s.data.toList).map Value.string:=by rw [←HYS.out.1,List.map_map];rfl
  rw [hyl,hym] at hr2
  refine ⟨.tuple #[.slice q m c,.int .i64 0],?_,hBB.trans (belowK_b (w:=w) (Nat.le_refl _) _ D _ _ (by have:=HD.out;rw [HB.out.2.1] at this;omega) hK' rfl rfl),.inr ⟨_,rfl,fun x hx => ?_,hr2⟩⟩
  ·simp [results,Tryz.f10,go_sem,hc5,hc6]
  ·rw [←HYS.out.1] at hx
   obtain ⟨y,hy,rfl⟩:=List.mem_map.1 hx
   exact HYS.out.2 y hy
 case stop =>
  rintro D c pre W hD ⟨rest,hpre⟩ ⟨⟨⟨rfl,x,hx,hbad⟩,⟨h0,h1⟩⟩,hB⟩ hK
  have hc0:=h0.cell
  have hc1:=h1.cell
  have HS:=Ha (show ∃ x∈wl s.data.toList,dy dn x.data.toList=false from ⟨x.1,by rw [hpre];exact List.mem_append_left _ (List.mem_map.2 ⟨x,hx,rfl⟩),hbad⟩)
  have HH:=Ha (Hb hB (Hb hK hD))
  clear hpre hx hbad hB hD
  gi_wp2
  refine ⟨by simp,.inl ⟨_,_,rfl,run_takeDeferred hK,?_⟩⟩
  have hc5:=cell_kept hc0 (grownBy_putObj' _ D (.deferred none)) (fun r e=>by cases e;exact ⟨_,hK,rfl⟩)
  have hc6:=cell_kept hc1 (grownBy_putObj' _ D (.deferred none)) (fun r e=>by cases e;exact ⟨_,hK,rfl⟩)
  refine ⟨.tuple #[.slice none 0 0,.int .i64 3],?_,HH.out.1.trans (belowK_b (w:=w) (Nat.le_refl _) W D _ _ (by have:=HH.out.2.2;rw [HB.out.2.1] at this;omega) hK rfl rfl),.inl ⟨rfl,HS.out⟩⟩
  simp [results,Tryz.f10,go_sem,hc5,hc6]
end
end T
namespace T
open Go.Proofs.YtocalfjfjjljnaaGreatDoor Go Go.RowKit Go.Shelf
theorem wn {w:World} {base:Nat} {e:TypeId} {v:Value} {xs:List ByteArray} (h:w.ownsRow base e 1 v xs.length (xs.map Value.string)) (hne:xs ≠ []) :
  ∃ g cap,v = .slice (some ⟨g,0,none⟩) xs.length cap∧g<w.heap.size∧xs.length≤cap∧∀ j x,xs[j]? = some x→w.cell? ⟨g,j,none⟩=some (.string x):=by
 rcases h.2 with ⟨_,h0⟩ | ⟨g,cap,cur,rfl,hb,hg,hc,_,_,ht⟩
 ·exact absurd (List.eq_nil_of_length_eq_zero h0) hne
 ·refine ⟨g,cap,rfl,(Array.getElem?_eq_some_iff.1 hg).1,hc,fun j x hj => ?_⟩
  have h1:(xs.map Value.string)[j]? = some (.string x):=by rw [List.getElem?_map,hj];rfl
  rw [←ht,List.getElem?_take] at h1
  have h2:cur.toList[j]? = some (.string x):=by
   split at h1
   ·exact h1
   ·cases h1
  unfold World.cell?
  rw [hg]
  simpa using h2
def kE (c:UInt8):Bool:=aj c || (97≤c && c≤122) || (65≤c && c≤90)
theorem im (c:UInt8):kE c=true↔aj c=true∨(97≤c.toNat∧c.toNat≤122)∨(65≤c.toNat∧c.toNat≤90):=by
 unfold kE
 simp only [Bool.or_eq_true,Bool.and_eq_true,decide_eq_true_eq,UInt8.le_iff_toNat_le,or_assoc]
 rfl
theorem mld (c:UInt8) (w:World):Calls Tryz.prog 36 #[.int .u8 c.toNat] w fun e W'=>e = .returned (.bool (kE c))∧w=W':=by
 have D:=Ha (DL c w)
 cases hd:aj c
 ·rw [hd] at D
  by_cases h1:(97:Int)≤c.toNat
  ·by_cases h2:(c.toNat:Int)≤122
   ·rw [show kE c=true by rw [im];omega]
    clear hd
    go_enter Tryz.func36,Tryz.ntmps36
    go_wp2_with fail
    refine D.out.mono ?_
    rintro e w1 ⟨rfl,rfl⟩
    go_wp2
    go_ret
    exact ⟨rfl,rfl⟩
   ·have h3:(65:Int)≤c.toNat:=by omega
    have h4:¬ (c.toNat:Int)≤90:=by omega
    rw [show kE c=false by rw [←Bool.not_eq_true,im,hd];simp;omega]
    clear hd
    go_enter Tryz.func36,Tryz.ntmps36
    go_wp2_with fail
    refine D.out.mono ?_
    rintro e w1 ⟨rfl,rfl⟩
    go_wp2
    go_ret
    exact ⟨(show Ending.returned (.bool (decide ((c.toNat:Int)≤122) || decide ((c.toNat:Int)≤90)))=_ from by rw [decide_eq_false (Int.not_le.2 h2),decide_eq_false (Int.not_le.2 h4)];rfl),rfl⟩
  ·by_cases h3:(65:Int)≤c.toNat
   ·by_cases h4:(c.toNat:Int)≤90
    ·rw [show kE c=true by rw [im];omega]
     clear hd
     go_enter Tryz.func36,Tryz.ntmps36
     go_wp2_with fail
     refine D.out.mono ?_
     rintro e w1 ⟨rfl,rfl⟩
     go_wp2
     go_ret
     exact ⟨rfl,rfl⟩
    ·rw [show kE c=false by rw [←Bool.not_eq_true,im,hd];simp;omega]
     clear hd
     go_enter Tryz.func36,Tryz.ntmps36
     go_wp2_with fail
     refine D.out.mono ?_
     rintro e w1 ⟨rfl,rfl⟩
     go_wp2
     go_ret
     exact ⟨(show Ending.returned (.bool (decide ((c.toNat:Int)≤90)))=_ from by rw [decide_eq_false (Int.not_le.2 h4)]),rfl⟩
   ·rw [show kE c=false by rw [←Bool.not_eq_true,im,hd];simp;omega]
    clear hd
    go_enter Tryz.func36,Tryz.ntmps36
    go_wp2_with fail
    refine D.out.mono ?_
    rintro e w1 ⟨rfl,rfl⟩
    go_wp2
    go_ret
    exact ⟨rfl,rfl⟩
 ·rw [hd] at D
  rw [show kE c=true by rw [im,hd];exact .inl rfl]
  clear hd
  go_enter Tryz.func36,Tryz.ntmps36
  go_wp2_with fail
  refine D.out.mono ?_
  rintro e w1 ⟨rfl,rfl⟩
  go_wp2
  go_ret
  exact ⟨rfl,rfl⟩
theorem Eh (s:ByteArray) (w:World) (hs:s.size≤100000) :
  Calls Tryz.prog 34 #[.string s,.func (.func 36) #[] #[]] w fun e W'=>e = .returned (.bool (dy kE s.data.toList))∧Below w.heap.size w W' :=
 (kD 36 kE s w hs (enters_of Tryz.func36 (by kernel_rfl) rfl) (fun c=>mld c w)).mono fun e W' h=>⟨h.1,by rw [←h.2];exact Below.refl _ _⟩
theorem yk (s:ByteArray) (g:Bool) (w:World) (s1:(s.size:Int)≤16)
  (h1:∀ W,Below w.heap.size w W→Calls Tryz.prog 34 #[.string s,.func (.func 36) #[] #[]] W fun e W'=>e = .returned (.bool g)∧Below W.heap.size W W')
  : Calls Tryz.prog 13 #[.string s] w fun e W'=>e = .returned (.bool g)∧Below w.heap.size w W':=by
 have O:=Ha (h1);clear h1
 go_enter Tryz.func13,Tryz.ntmps13
 have HB:=Ha (Below.refl w.heap.size w)
 go_wp2_with fail
 refine (O.out _ HB.out).mono ?_
 rintro e w1 ⟨rfl,b⟩
 replace HB:=Ha (HB.out.trans (b.mono HB.out.size));clear b
 go_wp2
 go_ret
 exact ⟨rfl,HB.out⟩
theorem Am (s:ByteArray) (w:World) (s1:¬ (s.size:Int)≤16) :
  Calls Tryz.prog 13 #[.string s] w fun e W'=>e = .returned (.bool false)∧Below w.heap.size w W':=by
 go_enter Tryz.func13,Tryz.ntmps13
 go_wp2
 go_ret
 exact ⟨rfl,Below.refl _ _⟩
def nm (s:ByteArray):Bool:=decide (s.size≤16) && dy kE s.data.toList
theorem DR (s:ByteArray) (w:World) :
  Calls Tryz.prog 13 #[.string s] w fun e W'=>e = .returned (.bool (nm s))∧Below w.heap.size w W':=by
 unfold nm
 by_cases h:s.size≤16
 ·rw [decide_eq_true h,Bool.true_and]
  exact yk s _ w (by omega) (fun W _=>Eh s W (by omega))
 ·rw [decide_eq_false h,Bool.false_and]
  exact Am s w (by omega)
def QW (s:ByteArray) (v:Value) (W:World):Prop:=(∃ a c,v = .slice a 0 c∧wl s.data.toList = []) ∨
 ∃ g cap,v = .slice (some ⟨g,0,none⟩) (wl s.data.toList).length cap∧g<W.heap.size∧(wl s.data.toList).length≤cap∧∀ j x,(wl s.data.toList)[j]? = some x→W.cell? ⟨g,j,none⟩=some (.string x)
theorem QW.next {s:ByteArray} {v:Value} {W W':World} (h:QW s v W) (b:Below W.heap.size W W'):QW s v W':=by
 rcases h with h | ⟨g,cap,e,h1,h2,h3⟩
 ·exact .inl h
 ·exact .inr ⟨g,cap,e,Nat.lt_of_lt_of_le h1 b.size,h2,fun j x hj=>(b.cell (p:=⟨g,j,none⟩) h1).trans (h3 j x hj)⟩
theorem BU {s:ByteArray} {v:Value} {W:World} {base:Nat} (h:W.ownsRow base 9 1 v (wl s.data.toList).length ((wl s.data.toList).map Value.string)):QW s v W:=by
 by_cases hn:wl s.data.toList = []
 ·left
  rcases h.2 with ⟨rfl,_⟩ | ⟨g,cap,cur,rfl,_⟩
  ·exact ⟨_,_,rfl,hn⟩
  ·rw [hn];exact ⟨_,_,rfl,rfl⟩
 ·obtain ⟨g,cap,e,h1,h2,h3⟩:=wn h hn
  exact .inr ⟨g,cap,e,h1,h2,h3⟩
theorem wq (s:ByteArray) (w:World) (hs:s.size≤1000) (h:∃ x∈wl s.data.toList,dy dn x.data.toList=false) :
  Calls Tryz.prog 10 #[.string s] w fun e W'=>e = .returned (.tuple #[.slice none 0 0,.int .i64 3])∧Below w.heap.size w W':=by
 refine (rW s w hs).mono ?_
 rintro e W' ⟨hB,(⟨rfl,_⟩ | ⟨v,_,hg,_⟩)⟩
 ·exact ⟨rfl,hB⟩
 ·obtain ⟨x,hx,hb⟩:=h
  rw [hg x hx] at hb;cases hb
theorem tJ (s:ByteArray) (w:World) (hs:s.size≤1000) (h:∀ x∈wl s.data.toList,dy dn x.data.toList=true) :
  Calls Tryz.prog 10 #[.string s] w fun e W'=>∃ v,e = .returned (.tuple #[v,.int .i64 0])∧QW s v W'∧Below w.heap.size w W':=by
 refine (rW s w hs).mono ?_
 rintro e W' ⟨hB,(⟨_,x,hx,hb⟩ | ⟨v,rfl,_,hr⟩)⟩
 ·rw [h x hx] at hb;cases hb
 ·exact ⟨v,rfl,BU hr,hB⟩
theorem tK (s:ByteArray) (w:World) (s1:(65536:Int)<s.size) :
  Calls Tryz.prog 10 #[.string s] w fun e W'=>e = .returned (.tuple #[.slice none 0 0,.int .i64 4])∧Below w.heap.size w W':=by
 go_enter Tryz.func10,Tryz.ntmps10
 go_wp2
 refine bodyPost_ret (v := .tuple #[.slice none 0 0,.int .i64 4]) ?_ rfl ?_
 ·simp [results,Tryz.f10,go_sem]
 ·exact ⟨rfl,(((Below.refl _ w).alloc (Nat.le_refl _) _).alloc (by simp) _)⟩
end T
namespace T
open Go.RowKit
theorem Cr:dn 32=false:=by decide
structure Wd (l:List UInt8) (f i:Nat) (ws:List ByteArray):Prop where
 fi:f≤i
 le:i≤l.length+1
 mid:i≤l.length→wl l=ws++wsp (l.drop f)∧((l.drop f).take (i - f)).all dn=true
 out:i=l.length+1→wl l=ws
 ok:∀ x∈ws,dy dn x.data.toList=true
theorem An {p:UInt8→Bool} {l:List UInt8} (h0:l ≠ []) (h:l.all p=true):dy p l=true:=by
 unfold dy
 cases l with
 | nil=>exact absurd rfl h0
 | cons a t=>simpa using h
theorem uZ {p:UInt8→Bool} {l:List UInt8} (h:l = []∨∃ c∈l,p c=false):dy p l=false:=by
 unfold dy
 rcases h with rfl | ⟨c,hc,hp⟩
 ·rfl
 ·cases l with
  | nil=>cases hc
  | cons a t =>
   rw [←Bool.not_eq_true]
   intro h
   have h2:(a::t).all p=true:=by simpa using h
   have:=List.all_eq_true.1 h2 c hc
   rw [hp] at this;cases this
theorem BV {l:List UInt8} (h:l.all dn=true):(32:UInt8) ∉ l:=fun hm=>by
 have:=List.all_eq_true.1 h 32 hm
 rw [Cr] at this;cases this
theorem Wd.start {l:List UInt8} (h:l ≠ []):Wd l 0 0 []:=by
 refine ⟨Nat.le_refl _,by omega,fun _=>⟨?_,by simp⟩,fun k=>by omega,fun x hx=>by cases hx⟩
 unfold wl;rw [if_neg h];rfl
theorem pA {l:List UInt8} {f i:Nat} (h1:f≤i):l.drop f=(l.drop f).take (i - f)++l.drop i:=by
 have:=List.take_append_drop (i - f) (l.drop f)
 rw [List.drop_drop,show f+(i - f)=i by omega] at this
 exact this.symm
theorem Wd.print {l:List UInt8} {f i:Nat} {ws:List ByteArray} (h:Wd l f i ws) (hi:i<l.length) (hp:dn l[i]=true):Wd l f (i+1) ws:=by
 obtain ⟨m1,m2⟩:=h.mid (by omega)
 have fi:=h.fi
 refine ⟨by omega,by omega,fun _=>⟨m1,?_⟩,fun k=>by omega,h.ok⟩
 have e:(l.drop f).take (i+1 - f)=(l.drop f).take (i - f) ++ [l[i]]:=by
  rw [show i+1 - f=(i - f)+1 by omega,List.take_succ_eq_append_getElem (by rw [List.length_drop];omega)]
  congr 2
  rw [List.getElem_drop];congr 1;omega
 rw [e,List.all_append,m2]
 simp [hp]
theorem Wd.bad {l:List UInt8} {f i:Nat} {ws:List ByteArray} (h:Wd l f i ws) (hi:i<l.length) (hp:dn l[i]=false) (h32:l[i]≠32):∃ x∈wl l,dy dn x.data.toList=false:=by
 obtain ⟨m1,m2⟩:=h.mid (by omega)
 have e:=pA (l:=l) h.fi
 rw [List.drop_eq_getElem_cons hi] at e
 generalize (l.drop f).take (i - f)=P at *
 refine ⟨bO (kA 32 (l.drop f)),?_,?_⟩
 ·rw [m1,tI];simp
 ·rw [aP]
  refine uZ (.inr ⟨l[i],?_,hp⟩)
  rw [e]
  generalize l.drop (i+1)=t
  generalize hc:l[i]=c at *
  clear m1 e
  have n32:=BV m2
  induction P with
  | nil=>rw [List.nil_append,(lW t h32).1];exact List.mem_cons_self
  | cons a P ih =>
   have na:a≠32:=fun q=>n32 (by rw [q];exact List.mem_cons_self)
   rw [List.cons_append,(lW _ na).1]
   exact List.mem_cons_of_mem _ (ih (List.all_eq_true.2 fun y hy=>List.all_eq_true.1 m2 y (List.mem_cons_of_mem _ hy)) fun q=>n32 (List.mem_cons_of_mem _ q))
theorem Wd.word {l:List UInt8} {f i:Nat} {ws:List ByteArray} (h:Wd l f i ws) (hi:i=l.length∨∃ hi:i<l.length,l[i]=32) :
  wl l=(ws ++ [bO ((l.drop f).take (i - f))])++(if i<l.length then wsp (l.drop (i+1)) else []):=by
 have hle:i≤l.length:=by rcases hi with h | ⟨h,_⟩ <;> omega
 obtain ⟨m1,m2⟩:=h.mid hle
 have e:=pA (l:=l) h.fi
 have n32:=BV m2
 generalize (l.drop f).take (i - f)=P at *
 rw [m1,tI,List.append_assoc]
 congr 1
 rcases hi with q | ⟨q,hc⟩
 ·rw [q,List.drop_length,List.append_nil] at e
  rw [e,(xx n32).1,DA n32,if_neg (by decide),if_neg (by omega)];rfl
 ·rw [List.drop_eq_getElem_cons q,hc] at e
  obtain ⟨a1,a2,a3⟩:=uF (l.drop (i+1)) n32
  rw [e,a1,a2,a3,if_pos rfl,if_pos q];rfl
theorem Wd.empty {l:List UInt8} {i:Nat} {ws:List ByteArray} (h:Wd l i i ws) (hi:i=l.length∨∃ hi:i<l.length,l[i]=32):∃ x∈wl l,dy dn x.data.toList=false:=by
 have w:=h.word hi
 rw [Nat.sub_self,List.take_zero] at w
 exact ⟨bO [],by rw [w];simp,by rw [aP];exact uZ (.inl rfl)⟩
theorem Wd.next {l:List UInt8} {f i:Nat} {ws:List ByteArray} (h:Wd l f i ws) (hi:i=l.length∨∃ hi:i<l.length,l[i]=32) (hf:f≠i):Wd l (i+1) (i+1) (ws ++ [bO ((l.drop f).take (i - f))]):=by
 have hle:i≤l.length:=by rcases hi with h | ⟨h,_⟩ <;> omega
 have w:=h.word hi
 have fi:=h.fi
 refine ⟨Nat.le_refl _,by omega,fun k=>⟨?_,by rw [Nat.sub_self];rfl⟩,fun k => ?_,fun x hx => ?_⟩
 ·rw [if_pos (by omega)] at w;exact w
 ·rw [if_neg (by omega),List.append_nil] at w;exact w
 ·rcases List.mem_append.1 hx with hx | hx
  ·exact h.ok x hx
  ·obtain rfl:=List.mem_singleton.1 hx
   rw [aP]
   refine An (fun q => ?_) (h.mid hle).2
   have:=congrArg List.length q
   rw [List.length_take,List.length_drop] at this
   simp at this
   omega
theorem pB (s:ByteArray) (w:World) (hs:s.size≤1000) (h0:0<s.size) :
  Calls Tryz.prog 11 #[.string s] w fun e W'=>Below w.heap.size w W'∧((e = .returned (.tuple #[.slice none 0 0,.int .i64 3])∧∃ x∈wl s.data.toList,dy dn x.data.toList=false) ∨
   ∃ v,e = .returned (.tuple #[v,.int .i64 0])∧(∀ x∈wl s.data.toList,dy dn x.data.toList=true)∧W'.ownsRow w.heap.size 9 1 v (wl s.data.toList).length ((wl s.data.toList).map Value.string)):=by
 obtain ⟨i0,hi,hz0,hz1,hz2⟩:=info_parts BS
 have HI:=Ha (Hb hi (Hb hz0 (Hb hz1 hz2)));clear hi hz0 hz1 hz2
 have s1:¬ (65536:Int)<s.size:=by omega
 have hm9:s.size≤9223372036854775807:=by omega
 have hne:s.toList.isEmpty=false:=by
  rw [ByteArray.toList_eq]
  cases hd:s.data.toList with
  | nil=>have hl:s.data.toList.length=s.size:=rfl;rw [hd] at hl;simp at hl;omega
  | cons a t=>rfl
 have hls:s.data.toList.length=s.size:=rfl
 have HW:=Ha (Wd.start (l:=s.data.toList) (fun q=>by rw [q] at hls;simp at hls;omega))
 have HL:=Ha hls;clear hls
 go_enter Tryz.func11,Tryz.ntmps11
 have HB:=Ha (Below.refl w.heap.size w)
 go_wp2
 go_loopw [4,5,6] (fun out fr ii wr=>∃ (f i:Nat) (ws:List ByteArray),fr = .int .i64 f∧ii = .int .i64 i∧i≤s.size+1∧f≤i∧ws.length≤i∧Hid (Wd s.data.toList f i ws)∧Hid (wr.ownsRow w.heap.size 9 1 out ws.length (ws.map Value.string))∧Hid (Below w.heap.size w wr)) (fun _ _ ii _=>s.size+2 - (intOf ii).toNat)
 case atStart=>exact ⟨0,0,[],rfl,rfl,by omega,by omega,by simp,HW,World.ownsRow_nil _ _ _ _,HB⟩
 case round =>
  clear HW HB
  obtain ⟨f,i,ws,rfl,rfl,hi,hf,hw,HW,HO,HB⟩:=hrel
  have hsz:=HB.out.size
  by_cases h1:i≤s.size
  ·have z1:(i:Int)≤s.size:=by omega
   have ew:s.extract f i=bO ((s.data.toList.drop f).take (i - f)):=aK (by rw [Lib.extract_data,aP])
   have g0:(0:Int)≤(f:Int):=by omega
   have g1:(f:Int)≤(i:Int):=by omega
   by_cases h2:i<s.size
   ·have z2:(i:Int)<s.size:=by omega
    have hil:i<s.data.toList.length:=by rw [HL.out];exact h2
    have HC:=Ha (show s.data.toList[i]'hil=s[i] from rfl)
    have HP1:=Ha (fun (hp:dn s[i]=true)=>HW.out.print hil (by rw [HC.out];exact hp))
    have HP2:=Ha (fun (hp:dn s[i]=false) (h:s[i]≠32)=>HW.out.bad hil (by rw [HC.out];exact hp) (by rw [HC.out];exact h))
    have HP3:=Ha (fun (h:s[i]=32)=>show i=s.data.toList.length∨∃ hi:i<s.data.toList.length,s.data.toList[i]=32 from .inr ⟨hil,by rw [HC.out];exact h⟩)
    have hpi:=ll s[i]
    generalize hc:s[i]=c at *
    by_cases p1:33≤c.toNat
    ·by_cases p2:c.toNat≤126
     ·have HN:=Ha (HP1.out (hpi.2 ⟨p1,p2⟩))
      have q1:(33:Int)≤(c.toNat:Int):=by omega
      have q2:(c.toNat:Int)≤126:=by omega
      clear HP1 HP2 HP3 HC hpi ew p1 p2
      go_wp2
      go_roundw
      case rel=>exact ⟨f,i+1,ws,rfl,by go_num,by omega,by omega,by omega,HN,HO,HB⟩
      case measure=>simp [intOf];omega
     ·have hp:dn c=false:=by rw [←Bool.not_eq_true,hpi];omega
      have c32:c≠32:=fun q=>by rw [q] at p2;exact p2 (by decide)
      have HX:=Ha (HP2.out hp c32)
      have q1:(33:Int)≤(c.toNat:Int):=by omega
      have q2:¬ (c.toNat:Int)≤126:=by omega
      have q3:((c.toNat:Int) != 32)=true:=by rw [bne_iff_ne];omega
      have q4:((c.toNat:Int)==32)=false:=by rw [beq_eq_false_iff_ne];omega
      clear HP1 HP2 HP3 HC hpi ew p1 p2 c32
      go_wp2
      go_ret2
      exact ⟨HB.out,.inl ⟨rfl,HX.out⟩⟩
    ·have hp:dn c=false:=by rw [←Bool.not_eq_true,hpi];omega
     have q1:¬ (33:Int)≤(c.toNat:Int):=by omega
     by_cases c32:c=32
     ·have HE:=Ha (HP3.out c32)
      have q3:((c.toNat:Int) != 32)=false:=by rw [c32];rfl
      have q4:((c.toNat:Int)==32)=true:=by rw [c32];rfl
      by_cases hfi:f=i
      ·subst hfi
       have HX:=Ha (HW.out.empty HE.out)
       clear HP1 HP2 HP3 HC hpi ew p1 c32 HE
       go_wp2
       go_ret2
       exact ⟨HB.out,.inl ⟨rfl,HX.out⟩⟩
      ·have HN:=Ha (HW.out.next HE.out hfi)
       obtain ⟨W,fW⟩:∃ W,s.extract f i=W:=⟨_,rfl⟩
       rw [←ew,fW] at HN
       have q5:((i:Int)==(f:Int))=false:=by rw [beq_eq_false_iff_ne];omega
       clear HP1 HP2 HP3 HC hpi p1 c32 HE
       clear ew
       go_wp2_with (at_builtin;refine wpList_append_own _ rfl _ _ 30 rfl w.heap.size 9 i0 (.string ⟨#[]⟩) 1 16 Tryz.underlying30 HI.out.1 HI.out.2.1 HI.out.2.2.1 HI.out.2.2.2 rfl (by decide) _ _ _ rfl (HO.out.alloc _) ⟨wr.heap.size,0,none⟩ 1 1 [.string W] rfl rfl (cell_one_new _ _ _) (by simp [Value.oneCell']) (by unfold maxLen;omega) (by omega) (by simp;omega) ?_;intro v' w2 hown' hgrow _;have HO2:=Ha hown';have HG2:=Ha hgrow;clear hown' hgrow)
       go_roundw
       case rel=>exact ⟨i+1,i+1,ws ++ [W],by go_num,by go_num,by omega,by omega,by simp;omega,HN,Ha (by have:=HO2.out;simpa using this),(HB.out.alloc hsz _).grown HG2.out (by simp;omega) (fun k hk=>(HO.out.lt k hk).1)⟩
       case measure=>simp [intOf];omega
     ·have HX:=Ha (HP2.out hp c32)
      have q3:((c.toNat:Int) != 32)=true:=by rw [bne_iff_ne];exact fun q=>c32 (UInt8.toNat_inj.1 (by show _=32;omega))
      have q4:((c.toNat:Int)==32)=false:=by rw [beq_eq_false_iff_ne];exact fun q=>c32 (UInt8.toNat_inj.1 (by show _=32;omega))
      clear HP1 HP2 HP3 HC hpi ew p1 c32
      go_wp2
      go_ret2
      exact ⟨HB.out,.inl ⟨rfl,HX.out⟩⟩
   ·have hie:i=s.size:=by omega
    have z2:¬ (i:Int)<s.size:=by omega
    have HE:=Ha (show i=s.data.toList.length∨∃ hi:i<s.data.toList.length,s.data.toList[i]=32 from .inl (by rw [HL.out];exact hie))
    by_cases hfi:f=i
    ·subst hfi
     have HX:=Ha (HW.out.empty HE.out)
     clear HE ew
     go_wp2
     go_ret2
     exact ⟨HB.out,.inl ⟨rfl,HX.out⟩⟩
    ·have HN:=Ha (HW.out.next HE.out hfi)
     obtain ⟨W,fW⟩:∃ W,s.extract f i=W:=⟨_,rfl⟩
     rw [←ew,fW] at HN
     have q5:((i:Int)==(f:Int))=false:=by rw [beq_eq_false_iff_ne];omega
     clear HE hie
     clear ew
     go_wp2_with (at_builtin;refine wpList_append_own _ rfl _ _ 30 rfl w.heap.size 9 i0 (.string ⟨#[]⟩) 1 16 Tryz.underlying30 HI.out.1 HI.out.2.1 HI.out.2.2.1 HI.out.2.2.2 rfl (by decide) _ _ _ rfl (HO.out.alloc _) ⟨wr.heap.size,0,none⟩ 1 1 [.string W] rfl rfl (cell_one_new _ _ _) (by simp [Value.oneCell']) (by unfold maxLen;omega) (by omega) (by simp;omega) ?_;intro v' w2 hown' hgrow _;have HO2:=Ha hown';have HG2:=Ha hgrow;clear hown' hgrow)
     go_roundw
     case rel=>exact ⟨i+1,i+1,ws ++ [W],by go_num,by go_num,by omega,by omega,by simp;omega,HN,Ha (by have:=HO2.out;simpa using this),(HB.out.alloc hsz _).grown HG2.out (by simp;omega) (fun k hk=>(HO.out.lt k hk).1)⟩
     case measure=>simp [intOf];omega
  ·have hie:i=s.size+1:=by omega
   have z1:¬ (i:Int)≤s.size:=by omega
   have HX:=Ha (Hb (HW.out.out (by rw [HL.out];exact hie)) HW.out.ok)
   clear hie
   go_wp2
   go_ret2
   refine ⟨HB.out,.inr ⟨_,rfl,fun x hx=>HX.out.2 x (by rw [←HX.out.1];exact hx),?_⟩⟩
   rw [HX.out.1];exact HO.out
end T
namespace T
open Go.RowKit
theorem wt (a n d:ByteArray) (E:Int) (w:World) (e0:(E==0)=false) (e1:(E != 0)=true)
  (h1:∀ W,Below w.heap.size w W→Calls Tryz.prog 42 #[.string a] W fun e W'=>e = .returned (.tuple #[.string n,.string d,.int .i64 E])∧Below W.heap.size W W')
  : Calls Tryz.prog 17 #[.string a] w fun e W'=>e = .returned (.int .i64 E)∧Below w.heap.size w W':=by
 have O:=Ha (h1);clear h1
 go_enter Tryz.func17,Tryz.ntmps17
 have HB:=Ha (Below.refl w.heap.size w)
 go_wp2_with fail
 refine (O.out _ HB.out).mono ?_
 rintro e w1 ⟨rfl,b⟩
 replace HB:=Ha (HB.out.trans (b.mono HB.out.size));clear b
 go_wp2
 go_ret
 exact ⟨rfl,HB.out⟩
theorem tL (a n d z:ByteArray) (g:Bool) (w:World) (s1:(90:Int)<z.size)
  (h1:∀ W,Below w.heap.size w W→Calls Tryz.prog 42 #[.string a] W fun e W'=>e = .returned (.tuple #[.string n,.string d,.int .i64 0])∧Below W.heap.size W W')
  (h2:∀ W,Below w.heap.size w W→Calls Tryz.prog 43 #[.string n,.string ⟨#[45]⟩] W fun e W'=>e = .returned (.tuple #[.string z,.bool g])∧Below W.heap.size W W')
  : Calls Tryz.prog 17 #[.string a] w fun e W'=>e = .returned (.int .i64 4)∧Below w.heap.size w W':=by
 have O:=Ha (Hb h1 (h2));clear h1 h2
 go_enter Tryz.func17,Tryz.ntmps17
 have HB:=Ha (Below.refl w.heap.size w)
 go_wp2_with fail
 refine (O.out.1 _ HB.out).mono ?_
 rintro e w1 ⟨rfl,b⟩
 replace HB:=Ha (HB.out.trans (b.mono HB.out.size));clear b
 go_wp2_with fail
 refine (O.out.2 _ HB.out).mono ?_
 rintro e w2 ⟨rfl,b⟩
 replace HB:=Ha (HB.out.trans (b.mono HB.out.size));clear b
 go_wp2
 go_ret
 exact ⟨rfl,HB.out⟩
theorem tM (a n d z:ByteArray) (g:Bool) (w:World) (s1:¬ (90:Int)<z.size) (s2:(90:Int)<d.size)
  (h1:∀ W,Below w.heap.size w W→Calls Tryz.prog 42 #[.string a] W fun e W'=>e = .returned (.tuple #[.string n,.string d,.int .i64 0])∧Below W.heap.size W W')
  (h2:∀ W,Below w.heap.size w W→Calls Tryz.prog 43 #[.string n,.string ⟨#[45]⟩] W fun e W'=>e = .returned (.tuple #[.string z,.bool g])∧Below W.heap.size W W')
  : Calls Tryz.prog 17 #[.string a] w fun e W'=>e = .returned (.int .i64 4)∧Below w.heap.size w W':=by
 have O:=Ha (Hb h1 (h2));clear h1 h2
 go_enter Tryz.func17,Tryz.ntmps17
 have HB:=Ha (Below.refl w.heap.size w)
 go_wp2_with fail
 refine (O.out.1 _ HB.out).mono ?_
 rintro e w1 ⟨rfl,b⟩
 replace HB:=Ha (HB.out.trans (b.mono HB.out.size));clear b
 go_wp2_with fail
 refine (O.out.2 _ HB.out).mono ?_
 rintro e w2 ⟨rfl,b⟩
 replace HB:=Ha (HB.out.trans (b.mono HB.out.size));clear b
 go_wp2
 go_ret
 exact ⟨rfl,HB.out⟩
def ckV (l:List UInt8):Int:=if aM l=0 then (if (dq l).num.natAbs<aA 90∧(dq l).den<aA 90 then 0 else 4) else aM l
theorem Cs {l:List UInt8} (h:ckV l=0):aM l=0∧Bq 90 (dq l):=by
 unfold ckV at h
 by_cases h1:aM l=0
 ·rw [if_pos h1] at h
  by_cases h2:(dq l).num.natAbs<aA 90∧(dq l).den<aA 90
  ·exact ⟨h1,h2⟩
  ·rw [if_neg h2] at h;cases h
 ·rw [if_neg h1] at h;exact absurd h h1
theorem tO (a:ByteArray) (w:World) (ha:a.size≤maxLen) (T:TabM w) :
  Calls Tryz.prog 17 #[.string a] w fun e W'=>e = .returned (.int .i64 (ckV a.data.toList))∧Below w.heap.size w W':=by
 have kp:=fun W (hW:Below w.heap.size w W)=>nS a W ha (T.next hW).1 (T.next hW).2
 unfold ckV
 by_cases h1:aM a.data.toList=0
 ·rw [if_pos h1]
  have ea:=gP h1
  have hl:=nG h1
  generalize dq a.data.toList=x at *
  subst ea
  by_cases h2:x.num.natAbs<aA 90∧x.den<aA 90
  ·rw [if_pos h2];exact n8 x w h2 T
  ·rw [if_neg h2]
   have kc:∀ W,Below w.heap.size w W→Calls Tryz.prog 43 #[.string (aa x.num),.string ⟨#[45]⟩] W fun e W'=>e = .returned (.tuple #[.string (bO (Lib.decDigits x.num.natAbs)),.bool (decide (x.num<0))])∧Below W.heap.size W W':=fun W _=>by
    have c:=jO (aa x.num) W
    rwa [nZ,fm] at c
   have kq:=fun W (hW:Below w.heap.size w W)=>qe x W hl (T.next hW).1 (T.next hW).2
   have sz:∀ m:Nat,¬ m<aA 90→90<(bO (Lib.decDigits m)).size:=fun m hm=>by
    rw [ai,Lib.decDigits_length]
    have:=mt (bh m 90 (by decide)).1 hm
    omega
   by_cases h3:x.num.natAbs<aA 90
   ·have h4:=sz x.den (fun q=>h2 ⟨h3,q⟩)
    rw [aR] at h4
    have l1:=cG (k:=90) (by decide) h3
    exact tM _ _ _ _ _ w (by rw [ai];omega) (by omega) kq kc
   ·have h4:=sz x.num.natAbs h3
    exact tL _ _ _ _ _ w (by omega) kq kc
 ·rw [if_neg h1]
  obtain ⟨e0,e1⟩:=aQ h1
  exact wt a _ _ _ w e0 e1 kp
end T
namespace T
open Go.Proofs.YtocalfjfjjljnaaGreatDoor Go Go.Lib
def ndg (l:List UInt8):Nat:=(l.takeWhile aj).length
theorem ql {l:List UInt8} {k:Nat} (h1:(l.take k).all aj=true) (h2:l.length≤k∨∃ c,l[k]? = some c∧aj c=false) (hk:k≤l.length):ndg l=k:=by
 unfold ndg
 induction l generalizing k with
 | nil=>simp at hk;subst hk;rfl
 | cons a t ih =>
  cases k with
  | zero =>
   rcases h2 with q | ⟨c,hc,hd⟩
   ·simp at q
   ·rw [List.getElem?_cons_zero] at hc
    injection hc with hc
    subst hc
    rw [List.takeWhile_cons_of_neg (by rw [hd];decide)];rfl
  | succ k =>
   rw [List.take_succ_cons,List.all_cons,Bool.and_eq_true] at h1
   rw [List.takeWhile_cons_of_pos h1.1,List.length_cons,ih h1.2 (by
    rcases h2 with q | ⟨c,hc,hd⟩
    ·exact .inl (by rw [List.length_cons] at q;omega)
    ·exact .inr ⟨c,by rwa [List.getElem?_cons_succ] at hc,hd⟩) (by rw [List.length_cons] at hk;omega)]
theorem Ao {l:List UInt8} (h:∀ c∈l,aj c=true):ndg l=l.length:=ql (by rw [List.take_of_length_le (Nat.le_refl _)];exact List.all_eq_true.2 h) (.inl (Nat.le_refl _)) (Nat.le_refl _)
theorem u5 {l:List UInt8} (h:∀ c∈l,aj c=true) {c:UInt8} (hc:aj c=false) (r:List UInt8):ndg (l++c::r)=l.length:=by
 refine ql ?_ (.inr ⟨c,?_,hc⟩) (by rw [List.length_append];omega)
 ·rw [List.take_left' rfl];exact List.all_eq_true.2 h
 ·rw [List.getElem?_append_right (Nat.le_refl _),Nat.sub_self];rfl
theorem jP:∀ l:List UInt8,∃ D R,l=D++R∧(∀ c∈D,aj c=true)∧ndg l=D.length∧(R = []∨∃ c r,R=c::r∧aj c=false)
 | []=>⟨[],[],rfl,fun _ h=>(by cases h),rfl,.inl rfl⟩
 | a::t=>by
  by_cases ha:aj a=true
  ·obtain ⟨D,R,e,h1,h2,h3⟩:=jP t
   refine ⟨a::D,R,by rw [e];rfl,fun c hc => ?_,?_,h3⟩
   ·rcases List.mem_cons.1 hc with q | q
    ·rw [q];exact ha
    ·exact h1 c q
   ·unfold ndg at h2 ⊢
    rw [List.takeWhile_cons_of_pos ha,List.length_cons,h2];rfl
  ·refine ⟨[],a::t,rfl,fun _ h=>(by cases h),?_,.inr ⟨a,t,rfl,by simpa using ha⟩⟩
   unfold ndg
   rw [List.takeWhile_cons_of_neg ha]
theorem bV (l:List UInt8):ndg l≤l.length:=by
 obtain ⟨D,R,e,_,h2,_⟩:=jP l
 rw [h2,e,List.length_append];omega
end T
end Go.Proofs.YtocalfjfjjljnaaGreatDoor
