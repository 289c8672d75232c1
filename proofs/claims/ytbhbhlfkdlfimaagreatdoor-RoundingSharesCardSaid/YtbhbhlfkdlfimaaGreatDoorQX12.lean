/- Parts of the proof of the text YtbhbhlfkdlfimaaGreatDoorQX29. -/
import Derived.OneCell
import Derived.WalkKit
import Derived.Test.YtbhbhlfkdlfimaaGreatDoorQX1
import Derived.Test.YtbhbhlfkdlfimaaGreatDoorQX10
import Derived.Test.YtbhbhlfkdlfimaaGreatDoorQX11
set_option linter.all false
set_option maxRecDepth 100000
set_option maxHeartbeats 8000000
namespace Go.Proofs.YtbhbhlfkdlfimaaGreatDoor
section
open Go.RowKit
structure Cell2 (w:World) (k:Nat) (x0 x1:Value) (W:World):Prop where
 c0:W.cell? ⟨k,0,none⟩=some x0
 c1:W.cell? ⟨k,1,none⟩=some x1
 f0:W.frozen? ⟨k,0,none⟩=false
 f1:W.frozen? ⟨k,1,none⟩=false
 size:k<W.heap.size
 lo:w.heap.size≤k
 below:Below w.heap.size w W
theorem Cell2.new (w:World) (x0 x1:Value) (t:TypeId):Cell2 w w.heap.size x0 x1 (w.alloc (.cells #[x0,x1] t)) :=
 ⟨by go_cell,by go_cell,by simp [go_sem],by simp [go_sem],by simp,Nat.le_refl _,(Below.refl _ w).alloc (Nat.le_refl _) _⟩
theorem Cell2.next {w:World} {k:Nat} {x0 x1:Value} {W W':World} (h:Cell2 w k x0 x1 W) (b:Below W.heap.size W W'):Cell2 w k x0 x1 W' :=
 ⟨(b.cell (p:=⟨k,0,none⟩) h.size).trans h.c0,(b.cell (p:=⟨k,1,none⟩) h.size).trans h.c1,(b.frozen (p:=⟨k,0,none⟩) h.size).trans h.f0,(b.frozen (p:=⟨k,1,none⟩) h.size).trans h.f1,
  Nat.lt_of_lt_of_le h.size b.size,h.lo,h.below.trans (b.mono h.below.size)⟩
theorem Cell2.put {w:World} {k:Nat} {x0 x1:Value} {W:World} (h:Cell2 w k x0 x1 W) (u v:Value):Below w.heap.size w ((W.setCell ⟨k,0,none⟩ u).setCell ⟨k,1,none⟩ v) :=
 (h.below.setCell (p:=⟨k,0,none⟩) h.lo _).setCell (p:=⟨k,1,none⟩) h.lo _
theorem ae {w W:World} (h:aH w) (b:Below w.heap.size w W):aH W:=fun j hj=>by
 have h1:=h j hj
 have hl:=World.block_lt_of_cell? w _ h1
 exact (b.cell (p:=⟨1,j,none⟩) hl).trans h1
theorem nA (s:ByteArray) (w:World) (hs:s.size≤maxLen) (h:dOK (be s.data.toList)=false) :
  Calls Tryz.prog 80 #[.string s] w fun e W'=>(∃ x y,e = .returned (.tuple #[.agg #[.int .i64 x,.int .i64 y],.bool false]))∧Below w.heap.size w W':=by
 have cc:=fun W=>jK s W hs
 have r1:=fun W=>cW (bN s) W (Nat.le_trans (kW s) hs)
 rw [dK] at r1
 rw [h] at r1
 have C:=Ha (Hb cc (Hb r1 trivial))
 clear cc r1 h hs
 generalize bN s=n at *
 generalize bD s=d at *
 generalize bz s.data.toList=f at *
 generalize ny (be s.data.toList)=x at *
 go_enter Tryz.func80,Tryz.ntmps80
 go_wp2_with fail
 have hb:=Cell2.new w (.int .i64 0) (.int .i64 0) 115
 generalize w.alloc (.cells #[.int .i64 0,.int .i64 0] 115)=W0 at *
 generalize hk:w.heap.size=k at *
 have HK:=Ha hk;clear hk
 have HB:=Ha hb;clear hb
 refine (C.out.1 _).mono ?_
 rintro e w1 ⟨rfl,b⟩
 have HB1:=Ha (HB.out.next b);clear b HB
 go_wp2_with fail
 refine (C.out.2.1 _).mono ?_
 rintro e w' ⟨rfl,rfl⟩
 obtain ⟨c0,c1,f0,f1,_,_,_⟩:=HB1.out
 obtain ⟨g0,g1⟩:=aJ c0 c1 (.int .i64 0) (.int .i64 0)
 go_wp2
 refine bodyPost_ret (v := .tuple #[.agg #[.int .i64 0,.int .i64 0],.bool false]) (by simp [results,Tryz.results80,go_sem,g0,g1]) rfl ?_
 exact ⟨⟨_,_,rfl⟩,by rw [HK.out];have:=HB1.out.put (.int .i64 0) (.int .i64 0);rwa [HK.out] at this⟩
theorem nB (s:ByteArray) (w:World) (hs:s.size≤maxLen) (h:dOK (be s.data.toList)=true) (hf:bz s.data.toList=false) :
  Calls Tryz.prog 80 #[.string s] w fun e W'=>e = .returned (.tuple #[.agg #[.int .i64 (valOf (be s.data.toList)),.int .i64 1],.bool true])∧Below w.heap.size w W':=by
 have cc:=fun W=>jK s W hs
 have r1:=fun W=>cW (bN s) W (Nat.le_trans (kW s) hs)
 rw [dK] at r1
 rw [h,kR h] at r1
 rw [hf] at cc
 have C:=Ha (Hb cc (Hb r1 trivial))
 clear cc r1 h hs hf
 generalize bN s=n at *
 generalize bD s=d at *
 generalize valOf (be s.data.toList)=x at *
 go_enter Tryz.func80,Tryz.ntmps80
 go_wp2_with fail
 have hb:=Cell2.new w (.int .i64 0) (.int .i64 0) 115
 generalize w.alloc (.cells #[.int .i64 0,.int .i64 0] 115)=W0 at *
 generalize hk:w.heap.size=k at *
 have HK:=Ha hk;clear hk
 have HB:=Ha hb;clear hb
 refine (C.out.1 _).mono ?_
 rintro e w1 ⟨rfl,b⟩
 have HB1:=Ha (HB.out.next b);clear b HB
 go_wp2_with fail
 refine (C.out.2.1 _).mono ?_
 rintro e w' ⟨rfl,rfl⟩
 obtain ⟨c0,c1,f0,f1,_,_,_⟩:=HB1.out
 obtain ⟨g0,g1⟩:=aJ c0 c1 (.int .i64 x) (.int .i64 1)
 go_wp2
 refine bodyPost_ret (v := .tuple #[.agg #[.int .i64 x,.int .i64 1],.bool true]) (by simp [results,Tryz.results80,go_sem,g0,g1]) rfl ?_
 exact ⟨rfl,by rw [HK.out];have:=HB1.out.put (.int .i64 x) (.int .i64 1);rwa [HK.out] at this⟩
theorem gZ (s:ByteArray) (w:World) (hs:s.size≤maxLen) (h:dOK (be s.data.toList)=true) (hf:bz s.data.toList=true) (hd:dOK (aK s.data.toList)=true) (h1:1<valOf (aK s.data.toList)) (ht:aH w) :
  Calls Tryz.prog 80 #[.string s] w fun e W'=>e = .returned (.tuple #[.agg #[.int .i64 (valOf (be s.data.toList)),.int .i64 (valOf (aK s.data.toList))],.bool (Nat.gcd (valOf (be s.data.toList)).natAbs (valOf (aK s.data.toList)).natAbs==1)])∧Below w.heap.size w W':=by
 have cc:=fun W=>jK s W hs
 have r1:=fun W=>cW (bN s) W (Nat.le_trans (kW s) hs)
 rw [dK] at r1
 have hsz:0<s.size:=by
  rcases Nat.eq_zero_or_pos s.size with h0 | h0
  ·rw [fF h0] at hf;cases hf
  ·exact h0
 have r2:=fun W=>cW (bD s) W (Nat.le_trans (rR s hsz) hs)
 rw [cI,hd,kR hd] at r2
 rw [h,kR h] at r1
 rw [hf] at cc
 have hx:=(jL h).2
 have hy:=(jL hd).2
 have cg:=fun W (hW:Below w.heap.size w W)=>eV (valOf (be s.data.toList)) (valOf (aK s.data.toList)) W hx.lo hx.hi hy.lo hy.hi (ae ht hW)
 have C:=Ha (Hb cc (Hb r1 (Hb r2 cg)))
 clear cc r1 r2 cg h hs hf hd hx hy ht hsz
 generalize bN s=n at *
 generalize bD s=d at *
 generalize valOf (be s.data.toList)=x at *
 generalize valOf (aK s.data.toList)=y at *
 generalize Nat.gcd x.natAbs y.natAbs=g at *
 go_enter Tryz.func80,Tryz.ntmps80
 go_wp2_with fail
 have hb:=Cell2.new w (.int .i64 0) (.int .i64 0) 115
 generalize w.alloc (.cells #[.int .i64 0,.int .i64 0] 115)=W0 at *
 generalize hk:w.heap.size=k at *
 have HK:=Ha hk;clear hk
 have HB:=Ha hb;clear hb
 refine (C.out.1 _).mono ?_
 rintro e w1 ⟨rfl,b⟩
 have HB1:=Ha (HB.out.next b);clear b HB
 go_wp2_with fail
 refine (C.out.2.1 _).mono ?_
 rintro e w' ⟨rfl,rfl⟩
 go_wp2_with fail
 refine (C.out.2.2.1 _).mono ?_
 rintro e w' ⟨rfl,rfl⟩
 go_wp2_with fail
 refine (C.out.2.2.2 _ (by have:=HB1.out.below;rwa [HK.out] at this)).mono ?_
 rintro e w' ⟨rfl,rfl⟩
 have hgd:((g:Int)==1)=(g==1):=by
  by_cases hg:g=1
  ·subst hg;rfl
  ·rw [show (g==1)=false by simpa using hg,beq_eq_false_iff_ne];omega
 obtain ⟨c0,c1,f0,f1,_,_,_⟩:=HB1.out
 obtain ⟨g0,g1⟩:=aJ c0 c1 (.int .i64 x) (.int .i64 y)
 go_wp2
 refine bodyPost_ret (v := .tuple #[.agg #[.int .i64 x,.int .i64 y],.bool (g==1)]) (by simp [results,Tryz.results80,go_sem,g0,g1]) rfl ?_
 exact ⟨rfl,by rw [HK.out];have:=HB1.out.put (.int .i64 x) (.int .i64 y);rwa [HK.out] at this⟩
theorem nD (s:ByteArray) (w:World) (hs:s.size≤maxLen) (h:dOK (be s.data.toList)=true) (hf:bz s.data.toList=true) (hd:¬ (dOK (aK s.data.toList)=true∧1<valOf (aK s.data.toList))) :
  Calls Tryz.prog 80 #[.string s] w fun e W'=>(∃ x y,e = .returned (.tuple #[.agg #[.int .i64 x,.int .i64 y],.bool false]))∧Below w.heap.size w W':=by
 have cc:=fun W=>jK s W hs
 have r1:=fun W=>cW (bN s) W (Nat.le_trans (kW s) hs)
 rw [dK] at r1
 have hsz:0<s.size:=by
  rcases Nat.eq_zero_or_pos s.size with h0 | h0
  ·rw [fF h0] at hf;cases hf
  ·exact h0
 have r2:=fun W=>cW (bD s) W (Nat.le_trans (rR s hsz) hs)
 rw [cI] at r2
 rw [h,kR h] at r1
 rw [hf] at cc
 have hq:dOK (aK s.data.toList)=false∨(dOK (aK s.data.toList)=true∧¬ (1:Int)<ny (aK s.data.toList)):=by
  cases hc:dOK (aK s.data.toList)
  ·exact .inl rfl
  ·refine .inr ⟨rfl,fun q=>hd ⟨hc,?_⟩⟩
   rwa [kR hc] at q
 have C:=Ha (Hb cc (Hb r1 (Hb r2 trivial)))
 clear cc r1 r2 h hs hf hd hsz
 generalize bN s=n at *
 generalize bD s=d at *
 generalize valOf (be s.data.toList)=x at *
 generalize ny (aK s.data.toList)=y at *
 generalize dOK (aK s.data.toList)=o at *
 rcases hq with rfl | ⟨rfl,hy⟩
 ·go_enter Tryz.func80,Tryz.ntmps80
  go_wp2_with fail
  have hb:=Cell2.new w (.int .i64 0) (.int .i64 0) 115
  generalize w.alloc (.cells #[.int .i64 0,.int .i64 0] 115)=W0 at *
  generalize hk:w.heap.size=k at *
  have HK:=Ha hk;clear hk
  have HB:=Ha hb;clear hb
  refine (C.out.1 _).mono ?_
  rintro e w1 ⟨rfl,b⟩
  have HB1:=Ha (HB.out.next b);clear b HB
  go_wp2_with fail
  refine (C.out.2.1 _).mono ?_
  rintro e w' ⟨rfl,rfl⟩
  go_wp2_with fail
  refine (C.out.2.2.1 _).mono ?_
  rintro e w' ⟨rfl,rfl⟩
  obtain ⟨c0,c1,f0,f1,_,_,_⟩:=HB1.out
  obtain ⟨g0,g1⟩:=aJ c0 c1 (.int .i64 x) (.int .i64 y)
  go_wp2
  refine bodyPost_ret (v := .tuple #[.agg #[.int .i64 x,.int .i64 y],.bool false]) (by simp [results,Tryz.results80,go_sem,g0,g1]) rfl ?_
  exact ⟨⟨_,_,rfl⟩,by rw [HK.out];have:=HB1.out.put (.int .i64 x) (.int .i64 y);rwa [HK.out] at this⟩
 ·go_enter Tryz.func80,Tryz.ntmps80
  go_wp2_with fail
  have hb:=Cell2.new w (.int .i64 0) (.int .i64 0) 115
  generalize w.alloc (.cells #[.int .i64 0,.int .i64 0] 115)=W0 at *
  generalize hk:w.heap.size=k at *
  have HK:=Ha hk;clear hk
  have HB:=Ha hb;clear hb
  refine (C.out.1 _).mono ?_
  rintro e w1 ⟨rfl,b⟩
  have HB1:=Ha (HB.out.next b);clear b HB
  go_wp2_with fail
  refine (C.out.2.1 _).mono ?_
  rintro e w' ⟨rfl,rfl⟩
  go_wp2_with fail
  refine (C.out.2.2.1 _).mono ?_
  rintro e w' ⟨rfl,rfl⟩
  obtain ⟨c0,c1,f0,f1,_,_,_⟩:=HB1.out
  obtain ⟨g0,g1⟩:=aJ c0 c1 (.int .i64 x) (.int .i64 y)
  go_wp2
  refine bodyPost_ret (v := .tuple #[.agg #[.int .i64 x,.int .i64 y],.bool false]) (by simp [results,Tryz.results80,go_sem,g0,g1]) rfl ?_
  exact ⟨⟨_,_,rfl⟩,by rw [HK.out];have:=HB1.out.put (.int .i64 x) (.int .i64 y);rwa [HK.out] at this⟩
theorem eZ (s:ByteArray) (w:World) (hs:s.size≤maxLen) (h:mOK s.data.toList=true) (ht:aH w) :
  Calls Tryz.prog 80 #[.string s] w fun e W'=>e = .returned (.tuple #[.agg #[.int .i64 (valOf (be s.data.toList)),.int .i64 (valOf (aK s.data.toList))],.bool true])∧Below w.heap.size w W':=by
 have h':=h
 unfold mOK at h'
 simp only [Bool.and_eq_true,Bool.or_eq_true,Bool.not_eq_true',decide_eq_true_eq] at h'
 obtain ⟨h1,h2⟩:=h'
 cases hf:bz s.data.toList
 ·have c:=nB s w hs h1 hf
  have hd:aK s.data.toList = [49]:=by unfold aK;rw [hf];rfl
  rw [hd,jF];exact c
 ·rcases h2 with h2 | ⟨⟨h3,h4⟩,h5⟩
  ·rw [hf] at h2;cases h2
  ·have c:=gZ s w hs h1 hf h3 h4 ht
   rwa [show (Nat.gcd (valOf (be s.data.toList)).natAbs (valOf (aK s.data.toList)).natAbs==1)=true by simpa using h5] at c
theorem gr (s:ByteArray) (w:World) (hs:s.size≤maxLen) (h:mOK s.data.toList=false) (ht:aH w) :
  Calls Tryz.prog 80 #[.string s] w fun e W'=>(∃ x y,e = .returned (.tuple #[.agg #[.int .i64 x,.int .i64 y],.bool false]))∧Below w.heap.size w W':=by
 cases h1:dOK (be s.data.toList)
 ·exact nA s w hs h1
 ·cases hf:bz s.data.toList
  ·exfalso;unfold mOK at h;rw [h1,hf] at h;cases h
  ·by_cases hd:dOK (aK s.data.toList)=true∧1<valOf (aK s.data.toList)
   ·have c:=gZ s w hs h1 hf hd.1 hd.2 ht
    have hg:(Nat.gcd (valOf (be s.data.toList)).natAbs (valOf (aK s.data.toList)).natAbs==1)=false:=by
     unfold mOK at h
     rw [h1,hf,hd.1,decide_eq_true hd.2] at h
     simpa using h
    rw [hg] at c
    exact c.mono fun e W' ⟨he,hb⟩=>⟨⟨_,_,he⟩,hb⟩
   ·exact nD s w hs h1 hf hd
structure Bxs (w:World) (k:Nat) (L:List (List Value)) (W:World):Prop where
 cells:∀ i xs,L[i]? = some xs→∀ j v,xs[j]? = some v→W.cell? ⟨k+i,j,none⟩=some v
 frozen:∀ i,i<L.length→∀ j,W.frozen? ⟨k+i,j,none⟩=false
 size:k+L.length≤W.heap.size
 lo:w.heap.size≤k
 below:Below w.heap.size w W
theorem Bxs.next {w:World} {k:Nat} {L:List (List Value)} {W W':World} (h:Bxs w k L W) (b:Below W.heap.size W W'):Bxs w k L W' :=
 ⟨fun i xs hi j v hj=>(b.cell (p:=⟨k+i,j,none⟩) (by have:=(List.getElem?_eq_some_iff.1 hi).1;have:=h.size;show k+i<_;omega)).trans (h.cells i xs hi j v hj),
  fun i hi j=>(b.frozen (p:=⟨k+i,j,none⟩) (by have:=h.size;show k+i<_;omega)).trans (h.frozen i hi j),Nat.le_trans h.size b.size,h.lo,h.below.trans (b.mono h.below.size)⟩
theorem Bxs.push {w:World} {k:Nat} {L:List (List Value)} {W:World} (h:Bxs w k L W) (hs:W.heap.size=k+L.length) (xs:List Value) (t:TypeId):Bxs w k (L ++ [xs]) (W.alloc (.cells xs.toArray t)):=by
 have hb:Below W.heap.size W (W.alloc (.cells xs.toArray t)):=(Below.refl _ W).alloc (Nat.le_refl _) _
 have h2:=h.next hb
 have hnew:(W.alloc (.cells xs.toArray t)).heap[k+L.length]? = some (.cells xs.toArray t (0,0)):=by rw [←hs];exact heap_alloc_new W _
 refine ⟨fun i ys hi j v hj => ?_,fun i hi j => ?_,by simp;omega,h2.lo,h2.below⟩
 ·by_cases hl:i<L.length
  ·rw [List.getElem?_append_left hl] at hi
   exact h2.cells i ys hi j v hj
  ·rw [List.getElem?_append_right (by omega)] at hi
   have hi0:i=L.length:=by
    have:=(List.getElem?_eq_some_iff.1 hi).1
    simp at this;omega
   subst hi0
   rw [Nat.sub_self] at hi
   have:xs=ys:=Option.some.inj hi
   subst this
   rw [cell_of_row _ _ j _ _ _ hnew]
   simpa using hj
 ·by_cases hl:i<L.length
  ·exact h2.frozen i hl j
  ·rw [List.length_append,List.length_singleton] at hi
   have hi0:i=L.length:=by omega
   subst hi0
   exact lY hnew
theorem Bxs.nil (w W:World) (b:Below w.heap.size w W):Bxs w W.heap.size [] W :=
 ⟨fun i xs hi=>by simp at hi,fun i hi=>by simp at hi,by simp,b.size,b⟩
end
section
open Go Go.RowKit
def Blk (W:World) (k:Nat) (vs:Array Value):Prop:=∃ t,W.heap[k]? = some (.cells vs t (0,0))
theorem Blk.lt {W:World} {k:Nat} {vs:Array Value} (h:Blk W k vs):k<W.heap.size:=by
 obtain ⟨t,h⟩:=h;exact lt_of_block h
theorem Blk.cell {W:World} {k:Nat} {vs:Array Value} (h:Blk W k vs) (j:Nat) (v:Value) (hj:vs[j]? = some v):W.cell? ⟨k,j,none⟩=some v:=by
 obtain ⟨t,h⟩:=h;unfold World.cell?; simp only [h];simpa using hj
theorem Blk.free {W:World} {k:Nat} {vs:Array Value} (h:Blk W k vs) (j:Nat):W.frozen? ⟨k,j,none⟩=false:=by
 obtain ⟨t,h⟩:=h;unfold World.frozen?; simp only [h];simp
theorem Blk.new (W:World) (vs:Array Value) (t:TypeId):Blk (W.alloc (.cells vs t)) W.heap.size vs:=⟨t,heap_alloc_new W _⟩
theorem Blk.alloc {W:World} {k:Nat} {vs:Array Value} (h:Blk W k vs) (o:Obj):Blk (W.alloc o) k vs:=by
 obtain ⟨t,e⟩:=h;exact ⟨t,by rw [Below.heap_alloc _ _ _ (lt_of_block e)];exact e⟩
theorem Blk.next {W W':World} {k:Nat} {vs:Array Value} (h:Blk W k vs) (b:Below W.heap.size W W'):Blk W' k vs:=by
 obtain ⟨t,e⟩:=h;exact ⟨t,by rw [b.block k (lt_of_block e)];exact e⟩
theorem Blk.drew {W:World} {k:Nat} {vs:Array Value} (h:Blk W k vs):Blk W.drew k vs:=h
theorem Blk.other {W:World} {k:Nat} {vs:Array Value} (h:Blk W k vs) {p:Addr} (hp:k≠p.block) (u:Value):Blk (W.setCell p u) k vs:=by
 obtain ⟨t,e⟩:=h;exact ⟨t,by rw [Below.heap_setCell _ _ _ _ hp];exact e⟩
theorem Blk.set {W:World} {k:Nat} {vs:Array Value} (h:Blk W k vs) (j:Nat) (u:Value):Blk (W.setCell ⟨k,j,none⟩ u) k (vs.setIfInBounds j u):=by
 obtain ⟨t,h⟩:=h
 refine ⟨t,?_⟩
 have hlt:=lt_of_block h
 have h':W.heap[k] = .cells vs t (0,0):=by simpa [Array.getElem?_eq_getElem hlt] using h
 show (W.heap.modify k _)[k]? = _
 rw [Array.getElem?_eq_getElem (by simpa using hlt),Array.getElem_modify_self,h']
 rfl
theorem Blk.put1 {W:World} {k:Nat} {a:Value} (h:Blk W k #[a]) (x:Value):Blk (W.setCell ⟨k,0,none⟩ x) k #[x]:=h.set 0 x
theorem Blk.put2 {W:World} {k:Nat} {a b:Value} (h:Blk W k #[a,b]) (x y:Value):Blk ((W.setCell ⟨k,0,none⟩ x).setCell ⟨k,1,none⟩ y) k #[x,y]:=(h.set 0 x).set 1 y
theorem Blk.put4 {W:World} {k:Nat} {a b c d:Value} (h:Blk W k #[a,b,c,d]) (x y z u:Value):Blk ((((W.setCell ⟨k,0,none⟩ x).setCell ⟨k,1,none⟩ y).setCell ⟨k,2,none⟩ z).setCell ⟨k,3,none⟩ u) k #[x,y,z,u]:=(((h.set 0 x).set 1 y).set 2 z).set 3 u
theorem Blk.other2 {W:World} {k l:Nat} {vs:Array Value} (h:Blk W k vs) (hp:k≠l) (x y:Value):Blk ((W.setCell ⟨l,0,none⟩ x).setCell ⟨l,1,none⟩ y) k vs:=(h.other hp x).other hp y
theorem bi {B:Nat} {a W:World} (h:Below B a W) {l:Nat} (hl:B≤l) (x y:Value):Below B a ((W.setCell ⟨l,0,none⟩ x).setCell ⟨l,1,none⟩ y):=(h.setCell (p:=⟨l,0,none⟩) hl x).setCell (p:=⟨l,1,none⟩) hl y
theorem bC {B:Nat} {a W:World} (h:Below B a W) {l:Nat} (hl:B≤l) (x y z u:Value):Below B a ((((W.setCell ⟨l,0,none⟩ x).setCell ⟨l,1,none⟩ y).setCell ⟨l,2,none⟩ z).setCell ⟨l,3,none⟩ u):=(((h.setCell (p:=⟨l,0,none⟩) hl x).setCell (p:=⟨l,1,none⟩) hl y).setCell (p:=⟨l,2,none⟩) hl z).setCell (p:=⟨l,3,none⟩) hl u
structure BB (w:World) (k:Nat) (vs:Array Value) (W:World):Prop where
 blk:Blk W k vs
 lo:w.heap.size≤k
 below:Below w.heap.size w W
theorem BB.new (w:World) (vs:Array Value) (t:TypeId):BB w w.heap.size vs (w.alloc (.cells vs t)):=⟨Blk.new w vs t,Nat.le_refl _,(Below.refl _ w).alloc (Nat.le_refl _) _⟩
theorem BB.next {w:World} {k:Nat} {vs:Array Value} {W W':World} (h:BB w k vs W) (b:Below W.heap.size W W'):BB w k vs W':=⟨h.blk.next b,h.lo,h.below.trans (b.mono h.below.size)⟩
theorem BB.put2 {w:World} {k:Nat} {a b:Value} {W:World} (h:BB w k #[a,b] W) (x y:Value):BB w k #[x,y] ((W.setCell ⟨k,0,none⟩ x).setCell ⟨k,1,none⟩ y):=⟨h.blk.put2 x y,h.lo,bi h.below h.lo x y⟩
theorem BB.put4 {w:World} {k:Nat} {a b c d:Value} {W:World} (h:BB w k #[a,b,c,d] W) (x y z u:Value):BB w k #[x,y,z,u] ((((W.setCell ⟨k,0,none⟩ x).setCell ⟨k,1,none⟩ y).setCell ⟨k,2,none⟩ z).setCell ⟨k,3,none⟩ u):=⟨h.blk.put4 x y z u,h.lo,bC h.below h.lo x y z u⟩
end
namespace T
open Go.Proofs.YtbhbhlfkdlfimaaGreatDoor Go.RowKit Go.Lib
theorem iE (l:List UInt8):Lib.hasPrefix l [45]=aw l:=by
 unfold Lib.hasPrefix aw
 cases l with
 | nil=>rfl
 | cons a t=>simp [List.isPrefixOf];exact BEq.comm
theorem oy (l:List UInt8):Lib.trimPrefix l [45]=szL l:=by
 unfold Lib.trimPrefix szL
 rw [iE]
 cases aw l <;> simp
def szB (s:ByteArray):ByteArray:=⟨(szL s.data.toList).toArray⟩
theorem Di (z:Int):szB (aa z)=aa (z.natAbs:Nat):=by
 apply aU
 unfold szB
 rw [aF,aF]
 show szL (itoa z)=itoa _
 rw [iX,Lib.itoa_nonneg]
theorem jb {w:World} {k j o:Nat} {a b:Value} (hne:j≠k) {v:Value} (h:w.cell? ⟨k,o,none⟩=some v):((w.setCell ⟨j,0,none⟩ a).setCell ⟨j,1,none⟩ b).cell? ⟨k,o,none⟩=some v:=by
 have hh:∀ (W:World) (o':Nat) (u:Value),(W.setCell ⟨j,o',none⟩ u).cell? ⟨k,o,none⟩=W.cell? ⟨k,o,none⟩:=fun W o' u=>World.cell?_of_block (Below.heap_setCell _ _ _ _ (by show k≠j;omega))
 rw [hh,hh];exact h
theorem vM {w:World} {b:Nat} {x0 x1:Value} (c0:w.cell? ⟨b,0,none⟩=some x0) (c1:w.cell? ⟨b,1,none⟩=some x1) (X Y:Value) :
  ((w.setCell ⟨b,0,none⟩ X).setCell ⟨b,1,none⟩ Y).cell? ⟨b,0,none⟩=some X∧((w.setCell ⟨b,0,none⟩ X).setCell ⟨b,1,none⟩ Y).cell? ⟨b,1,none⟩=some Y:=by
 refine ⟨by go_cell,by go_cell⟩
theorem AB (s:ByteArray) (w:World) :
  Calls Tryz.prog 275 #[.string s] w fun e W'=>e = .returned (.bool (aw s.data.toList))∧Below w.heap.size w W':=by
 have c:=fun W=>Tryz.strings_HasPrefix s ⟨#[45]⟩ W
 rw [show (⟨#[45]⟩:ByteArray).data.toList = [45] from rfl,iE] at c
 have C:=Ha c;clear c
 generalize aw s.data.toList=b at *
 go_enter Tryz.func275,Tryz.ntmps275
 go_wp2_with fail
 refine (C.out _).mono ?_
 rintro e w' ⟨rfl,rfl⟩
 go_wp2
 go_ret
 exact ⟨rfl,Below.refl _ _⟩
theorem vN (s:ByteArray) (w:World) (hs:s.size≤maxLen) :
  Calls Tryz.prog 246 #[.string s] w fun e W'=>e = .returned (.agg #[.string (bN s),.string (bD s)])∧Below w.heap.size w W':=by
 have C:=Ha (fun W=>kq s W hs)
 clear hs
 cases h:bz s.data.toList
 ·obtain ⟨e1,e2⟩:=vL h
  rw [e1,h] at C
  rw [e1,e2]
  clear e1 e2 h
  generalize bA s=d at *
  go_enter Tryz.func246,Tryz.ntmps246
  go_wp2_with fail
  have hbx:Bxs w w.heap.size [[.string ⟨#[]⟩,.string ⟨#[]⟩]] (w.alloc (.cells #[.string ⟨#[]⟩,.string ⟨#[]⟩] 295)):=((Bxs.nil w w (Below.refl _ _)).push rfl [.string ⟨#[]⟩,.string ⟨#[]⟩] 295)
  generalize (w.alloc (.cells #[.string ⟨#[]⟩,.string ⟨#[]⟩] 295))=W0 at *
  generalize hk:w.heap.size=k at *
  have HK:=Ha hk;clear hk
  have HB:=Ha hbx
  clear hbx
  have e00:=(show World.cell? _ ⟨k,0,none⟩=some (.string ⟨#[]⟩) from HB.out.cells 0 _ rfl 0 _ rfl)
  have f00:=(show World.frozen? _ ⟨k,0,none⟩=false from HB.out.frozen 0 (by simp) 0)
  have e01:=(show World.cell? _ ⟨k,1,none⟩=some (.string ⟨#[]⟩) from HB.out.cells 0 _ rfl 1 _ rfl)
  have f01:=(show World.frozen? _ ⟨k,1,none⟩=false from HB.out.frozen 0 (by simp) 1)
  refine (C.out _).mono ?_
  rintro e w' ⟨rfl,b⟩
  replace HB:=Ha (HB.out.next b);clear b;have e00:=(show World.cell? _ ⟨k,0,none⟩=some (.string ⟨#[]⟩) from HB.out.cells 0 _ rfl 0 _ rfl);have f00:=(show World.frozen? _ ⟨k,0,none⟩=false from HB.out.frozen 0 (by simp) 0);have e01:=(show World.cell? _ ⟨k,1,none⟩=some (.string ⟨#[]⟩) from HB.out.cells 0 _ rfl 1 _ rfl);have f01:=(show World.frozen? _ ⟨k,1,none⟩=false from HB.out.frozen 0 (by simp) 1)
  obtain ⟨g0,g1⟩:=vM e00 e01 (.string s) (.string ⟨#[49]⟩)
  go_wp2
  refine bodyPost_ret (v := .agg #[.string s,.string ⟨#[49]⟩]) (by simp [results,Tryz.results246,go_sem,g0,g1]) rfl ?_
  refine ⟨rfl,?_⟩
  have hbl:=HB.out.below
  rw [HK.out] at hbl ⊢
  exact bi hbl (by omega) _ _
 ·rw [show bA s=bD s by unfold bA;rw [h];rfl,h] at C
  clear h
  generalize bN s=n at *
  generalize bD s=d at *
  go_enter Tryz.func246,Tryz.ntmps246
  go_wp2_with fail
  have hbx:Bxs w w.heap.size [[.string ⟨#[]⟩,.string ⟨#[]⟩]] (w.alloc (.cells #[.string ⟨#[]⟩,.string ⟨#[]⟩] 295)):=((Bxs.nil w w (Below.refl _ _)).push rfl [.string ⟨#[]⟩,.string ⟨#[]⟩] 295)
  generalize (w.alloc (.cells #[.string ⟨#[]⟩,.string ⟨#[]⟩] 295))=W0 at *
  generalize hk:w.heap.size=k at *
  have HK:=Ha hk;clear hk
  have HB:=Ha hbx
  clear hbx
  have e00:=(show World.cell? _ ⟨k,0,none⟩=some (.string ⟨#[]⟩) from HB.out.cells 0 _ rfl 0 _ rfl)
  have f00:=(show World.frozen? _ ⟨k,0,none⟩=false from HB.out.frozen 0 (by simp) 0)
  have e01:=(show World.cell? _ ⟨k,1,none⟩=some (.string ⟨#[]⟩) from HB.out.cells 0 _ rfl 1 _ rfl)
  have f01:=(show World.frozen? _ ⟨k,1,none⟩=false from HB.out.frozen 0 (by simp) 1)
  refine (C.out _).mono ?_
  rintro e w' ⟨rfl,b⟩
  replace HB:=Ha (HB.out.next b);clear b;have e00:=(show World.cell? _ ⟨k,0,none⟩=some (.string ⟨#[]⟩) from HB.out.cells 0 _ rfl 0 _ rfl);have f00:=(show World.frozen? _ ⟨k,0,none⟩=false from HB.out.frozen 0 (by simp) 0);have e01:=(show World.cell? _ ⟨k,1,none⟩=some (.string ⟨#[]⟩) from HB.out.cells 0 _ rfl 1 _ rfl);have f01:=(show World.frozen? _ ⟨k,1,none⟩=false from HB.out.frozen 0 (by simp) 1)
  obtain ⟨g0,g1⟩:=vM e00 e01 (.string n) (.string d)
  go_wp2
  refine bodyPost_ret (v := .agg #[.string n,.string d]) (by simp [results,Tryz.results246,go_sem,g0,g1]) rfl ?_
  refine ⟨rfl,?_⟩
  have hbl:=HB.out.below
  rw [HK.out] at hbl ⊢
  exact bi hbl (by omega) _ _
theorem rS (a b:ByteArray) (w:World) :
  Calls Tryz.prog 282 #[.agg #[.string a,.string b]] w fun e W'=>e = .returned (.agg #[.string b,.string a])∧Below w.heap.size w W':=by
 go_enter Tryz.func282,Tryz.ntmps282
 go_wp2
 refine bodyPost_ret (v := .agg #[.string b,.string a]) (by simp [results,Tryz.results282,go_sem]) rfl ?_
 exact ⟨rfl,by go_grown⟩
theorem EQ (a b c d:Int) (w:World) (ha:short a) (hb:short b) (hc:short c) (hd:short d) (h1:short (a*c)) (h2:short (b*d)) (ht:Tab w) :
  Calls Tryz.prog 283 #[.agg #[.string (aa a),.string (aa b)],.agg #[.string (aa c),.string (aa d)]] w fun e W'=>e = .returned (.agg #[.string (aa (a*c)),.string (aa (b*d))])∧Below w.heap.size w W':=by
 have ct:=fun x y W (hx:short x) (hy:short y) (hz:short (x*y)) (hW:Below w.heap.size w W)=>ol x y W hx hy hz (ht.next hW)
 have C:=Ha ct;clear ct ht
 go_enter Tryz.func283,Tryz.ntmps283
 go_wp2
 have hbx:Bxs w w.heap.size [[.string (aa a),.string (aa b)],[.string (aa c),.string (aa d)],[.string ⟨#[]⟩,.string ⟨#[]⟩]] (((w.alloc (.cells #[.string (aa a),.string (aa b)] 295)).alloc (.cells #[.string (aa c),.string (aa d)] 295)).alloc (.cells #[.string ⟨#[]⟩,.string ⟨#[]⟩] 295)):=((((Bxs.nil w w (Below.refl _ _)).push rfl [.string (aa a),.string (aa b)] 295).push (by simp) [.string (aa c),.string (aa d)] 295).push (by simp) [.string ⟨#[]⟩,.string ⟨#[]⟩] 295)
 generalize (((w.alloc (.cells #[.string (aa a),.string (aa b)] 295)).alloc (.cells #[.string (aa c),.string (aa d)] 295)).alloc (.cells #[.string ⟨#[]⟩,.string ⟨#[]⟩] 295))=W0 at *
 generalize hk:w.heap.size=k at *
 have HK:=Ha hk;clear hk
 have HB:=Ha (hbx.next (Below.refl _ _).drew)
 clear hbx
 have e00:=(show World.cell? _ ⟨k,0,none⟩=some (.string (aa a)) from HB.out.cells 0 _ rfl 0 _ rfl)
 have e01:=(show World.cell? _ ⟨k,1,none⟩=some (.string (aa b)) from HB.out.cells 0 _ rfl 1 _ rfl)
 have e10:=(show World.cell? _ ⟨k+1,0,none⟩=some (.string (aa c)) from HB.out.cells 1 _ rfl 0 _ rfl)
 have e11:=(show World.cell? _ ⟨k+1,1,none⟩=some (.string (aa d)) from HB.out.cells 1 _ rfl 1 _ rfl)
 have e20:=(show World.cell? _ ⟨k+1+1,0,none⟩=some (.string ⟨#[]⟩) from HB.out.cells 2 _ rfl 0 _ rfl)
 have f20:=(show World.frozen? _ ⟨k+1+1,0,none⟩=false from HB.out.frozen 2 (by simp) 0)
 have e21:=(show World.cell? _ ⟨k+1+1,1,none⟩=some (.string ⟨#[]⟩) from HB.out.cells 2 _ rfl 1 _ rfl)
 have f21:=(show World.frozen? _ ⟨k+1+1,1,none⟩=false from HB.out.frozen 2 (by simp) 1)
 go_region_held3 (fun w'=>w'.cell? ⟨k,0,none⟩=some (.string (aa a))∧w'.cell? ⟨k,1,none⟩=some (.string (aa b))∧w'.cell? ⟨k+1,0,none⟩=some (.string (aa c))∧w'.cell? ⟨k+1,1,none⟩=some (.string (aa d))) (first | exact ⟨e00,e01,e10,e11⟩ | (go_keep;done) | ((try dsimp only);(refine ⟨?_,?_,?_,?_⟩ <;> (exact jb (by omega) (by assumption)))))
  (first | (go_at_call 277;refine (C.out _ _ _ (by assumption) (by assumption) (by assumption) (by have:=HB.out.below;rwa [HK.out] at this)).mono ?_;rintro e w1 ⟨rfl,b⟩;replace HB:=Ha (HB.out.next b);clear b;have e00:=(show World.cell? _ ⟨k,0,none⟩=some (.string (aa a)) from HB.out.cells 0 _ rfl 0 _ rfl);have e01:=(show World.cell? _ ⟨k,1,none⟩=some (.string (aa b)) from HB.out.cells 0 _ rfl 1 _ rfl);have e10:=(show World.cell? _ ⟨k+1,0,none⟩=some (.string (aa c)) from HB.out.cells 1 _ rfl 0 _ rfl);have e11:=(show World.cell? _ ⟨k+1,1,none⟩=some (.string (aa d)) from HB.out.cells 1 _ rfl 1 _ rfl);have e20:=(show World.cell? _ ⟨k+1+1,0,none⟩=some (.string ⟨#[]⟩) from HB.out.cells 2 _ rfl 0 _ rfl);have f20:=(show World.frozen? _ ⟨k+1+1,0,none⟩=false from HB.out.frozen 2 (by simp) 0);have e21:=(show World.cell? _ ⟨k+1+1,1,none⟩=some (.string ⟨#[]⟩) from HB.out.cells 2 _ rfl 1 _ rfl);have f21:=(show World.frozen? _ ⟨k+1+1,1,none⟩=false from HB.out.frozen 2 (by simp) 1)))
 have e00:=(show World.cell? _ ⟨k,0,none⟩=some (.string (aa a)) from HB.out.cells 0 _ rfl 0 _ rfl)
 have e01:=(show World.cell? _ ⟨k,1,none⟩=some (.string (aa b)) from HB.out.cells 0 _ rfl 1 _ rfl)
 have e10:=(show World.cell? _ ⟨k+1,0,none⟩=some (.string (aa c)) from HB.out.cells 1 _ rfl 0 _ rfl)
 have e11:=(show World.cell? _ ⟨k+1,1,none⟩=some (.string (aa d)) from HB.out.cells 1 _ rfl 1 _ rfl)
 have e20:=(show World.cell? _ ⟨k+1+1,0,none⟩=some (.string ⟨#[]⟩) from HB.out.cells 2 _ rfl 0 _ rfl)
 have f20:=(show World.frozen? _ ⟨k+1+1,0,none⟩=false from HB.out.frozen 2 (by simp) 0)
 have e21:=(show World.cell? _ ⟨k+1+1,1,none⟩=some (.string ⟨#[]⟩) from HB.out.cells 2 _ rfl 1 _ rfl)
 have f21:=(show World.frozen? _ ⟨k+1+1,1,none⟩=false from HB.out.frozen 2 (by simp) 1)
 obtain ⟨g0,g1⟩:=vM e20 e21 (.string (aa (a*c))) (.string (aa (b*d)))
 go_wp2
 refine bodyPost_ret (v := .agg #[.string (aa (a*c)),.string (aa (b*d))]) (by simp [results,Tryz.results283,go_sem,g0,g1]) rfl ?_
 refine ⟨rfl,?_⟩
 have hbl:=HB.out.below
 rw [HK.out] at hbl ⊢
 exact bi hbl (by omega) _ _
theorem rT (a:ByteArray) (w:World) :
  Calls Tryz.prog 257 #[.agg #[.string a,.string ⟨#[49]⟩]] w fun e W'=>e = .returned (.string a)∧Below w.heap.size w W':=by
 go_enter Tryz.func257,Tryz.ntmps257
 go_wp2
 go_ret
 exact ⟨rfl,by go_grown⟩
theorem tM (a b:ByteArray) (w:World) (hb:(b.toList == [49])=false) (h1:a.size≤301) (h2:b.size≤301) :
  Calls Tryz.prog 257 #[.agg #[.string a,.string b]] w fun e W'=>e = .returned (.string (a++⟨#[47]⟩++b))∧Below w.heap.size w W':=by
 go_enter Tryz.func257,Tryz.ntmps257
 go_wp2
 go_ret
 exact ⟨rfl,by go_grown⟩
theorem vO (a b:Int):(⟨(Lib.itoa a++47::Lib.itoa b).toArray⟩:ByteArray)=aa a++⟨#[47]⟩++aa b:=by
 apply aU
 rw [ByteArray.data_append,ByteArray.data_append]
 simp [aF]
theorem Dj (d:Int):((aa d).toList == [49])=decide (d=1):=by
 rw [ByteArray.toList_eq,aF]
 by_cases h:d=1
 ·subst h;rw [decide_eq_true rfl,bU];rfl
 ·rw [decide_eq_false h,beq_eq_false_iff_ne]
  intro e
  exact h (eJ (e.trans bU.symm))
theorem rU (n d:Int) (w:World) (hd:0<d) (hc:Nat.Coprime n.natAbs d.natAbs) (h1:short n) (h2:short d) :
  Calls Tryz.prog 257 #[.agg #[.string (aa n),.string (aa d)]] w fun e W'=>e = .returned (.string (af (Rat.divInt n d)))∧Below w.heap.size w W':=by
 have e:af (Rat.divInt n d)=if d=1 then aa n else aa n++⟨#[47]⟩++aa d:=by
  obtain ⟨k,rfl⟩:∃ k:Nat,d=k:=⟨d.natAbs,by omega⟩
  have k0:k≠0:=by omega
  have hq:Rat.divInt n (k:Int)=⟨n,k,k0,hc⟩:=by
   rw [Rat.mk_eq_divInt]
  rw [hq]
  unfold af cG
  show (⟨(if k=1 then itoa n else itoa n++47::itoa (k:Int)).toArray⟩:ByteArray)=_
  by_cases h:k=1
  ·rw [if_pos h,if_pos (by omega)];rfl
  ·rw [if_neg h,if_neg (by omega)];exact vO _ _
 rw [e]
 by_cases h:d=1
 ·rw [if_pos h,h,show aa 1=⟨#[49]⟩ from iO 1 [49] bU]
  exact rT _ w
 ·rw [if_neg h]
  exact tM _ _ w (by rw [Dj];exact decide_eq_false h) (aM h1) (aM h2)
theorem ql (a b x y r:ByteArray) (w:World)
  (h1:∀ W,Below w.heap.size w W→Calls Tryz.prog 284 #[.string a,.string b] W fun e W'=>e = .returned (.tuple #[.string x,.string y])∧Below W.heap.size W W')
  (h2:∀ W,Below w.heap.size w W→Calls Tryz.prog 278 #[.string x] W fun e W'=>e = .returned (.string r)∧Below W.heap.size W W') :
  Calls Tryz.prog 259 #[.agg #[.string a,.string b]] w fun e W'=>e = .returned (.string r)∧Below w.heap.size w W':=by
 have C:=Ha (Hb h1 h2);clear h1 h2
 go_enter Tryz.func259,Tryz.ntmps259
 go_wp2_with fail
 have hbx:Bxs w w.heap.size [[.string a,.string b]] (w.alloc (.cells #[.string a,.string b] 295)):=((Bxs.nil w w (Below.refl _ _)).push rfl [.string a,.string b] 295)
 generalize (w.alloc (.cells #[.string a,.string b] 295))=W0 at *
 generalize hk:w.heap.size=k at *
 have HK:=Ha hk;clear hk
 have HB:=Ha hbx
 clear hbx
 have e00:=(show World.cell? _ ⟨k,0,none⟩=some (.string a) from HB.out.cells 0 _ rfl 0 _ rfl)
 have e01:=(show World.cell? _ ⟨k,1,none⟩=some (.string b) from HB.out.cells 0 _ rfl 1 _ rfl)
 refine (C.out.1 _ (by have:=HB.out.below;rwa [HK.out] at this)).mono ?_
 rintro e w1 ⟨rfl,b⟩
 replace HB:=Ha (HB.out.next b);clear b;have e00:=(show World.cell? _ ⟨k,0,none⟩=some (.string a) from HB.out.cells 0 _ rfl 0 _ rfl);have e01:=(show World.cell? _ ⟨k,1,none⟩=some (.string b) from HB.out.cells 0 _ rfl 1 _ rfl)
 go_wp2_with fail
 refine (C.out.2 _ (by have:=HB.out.below;rwa [HK.out] at this)).mono ?_
 rintro e w2 ⟨rfl,b⟩
 replace HB:=Ha (HB.out.next b);clear b;have e00:=(show World.cell? _ ⟨k,0,none⟩=some (.string a) from HB.out.cells 0 _ rfl 0 _ rfl);have e01:=(show World.cell? _ ⟨k,1,none⟩=some (.string b) from HB.out.cells 0 _ rfl 1 _ rfl)
 go_wp2
 go_ret
 refine ⟨rfl,?_⟩
 have hbl:=HB.out.below
 rwa [HK.out] at hbl ⊢
theorem aq {n:Nat}:short (n:Int)↔n<lim:=by unfold short;rw [Int.natAbs_natCast]
theorem tO (n d:Nat):(n:Int).fdiv d=((n / d:Nat):Int):=by
 rw [Int.fdiv_eq_ediv_of_nonneg _ (by omega),Int.natCast_ediv]
theorem AC (n d:Nat):(n:Int).fmod d=((n % d:Nat):Int):=by
 rw [Int.fmod_eq_emod_of_nonneg _ (by omega),Int.natCast_emod]
theorem qO (n d:Nat) (w:World) (h1:n<lim) (h2:d<lim) (h0:0<d) (ht:Tab w) :
  Calls Tryz.prog 259 #[.agg #[.string (aa n),.string (aa d)]] w fun e W'=>e = .returned (.string (aa (am (n / d):Nat)))∧Below w.heap.size w W':=by
 refine ql _ _ _ _ _ w (fun W h=>xx n d W (aq.2 h1) (aq.2 h2) (by omega) (ht.next h)) (fun W h => ?_)
 rw [tO]
 have c:=xz ((n / d:Nat):Int) W (Int.natCast_nonneg _) (aq.2 (Nat.lt_of_le_of_lt (Nat.div_le_self _ _) h1)) (ht.next h)
 rwa [Int.natAbs_natCast] at c
end T
section
open Go.RowKit
theorem GB (s n d:ByteArray) (c2:Int) (f:Bool) (w:World)
  (hcut:CqB w 42 #[.string s] (.tuple #[.string n,.string d,.bool f]))
  (hk1:CqB w 84 #[.string n] (.int .i64 11))
  (hk2:CqB w 84 #[.string d] (.int .i64 c2)) :
  Calls Tryz.prog 75 #[.string s] w fun e W'=>e = .returned (.tuple #[.agg #[.string ⟨#[]⟩,.int .i64 0,.string ⟨#[]⟩,.int .i64 0],.int .i64 11])∧Below w.heap.size w W':=by
 have C:=Ha (Hb hcut (Hb hk1 (Hb hk2 trivial)));clear hcut hk1 hk2
 go_enter Tryz.func75,Tryz.ntmps75
 go_wp2_with fail
 have hb0:=Blk.new w #[.string ⟨#[]⟩,.int .i64 0,.string ⟨#[]⟩,.int .i64 0] 119
 have hB0:Below w.heap.size w (w.alloc (.cells #[.string ⟨#[]⟩,.int .i64 0,.string ⟨#[]⟩,.int .i64 0] 119)):=(Below.refl _ w).alloc (Nat.le_refl _) _
 generalize w.alloc (.cells #[.string ⟨#[]⟩,.int .i64 0,.string ⟨#[]⟩,.int .i64 0] 119)=W0 at *
 have H0:=Ha (Hb hb0 hB0);clear hb0 hB0
 refine (C.out.1 _ H0.out.2).mono ?_
 rintro e w1 ⟨rfl,b⟩
 have H1:=Ha (Hb (H0.out.1.next b) (H0.out.2.trans (b.mono H0.out.2.size)));clear b H0
 go_wp2_with fail
 refine (C.out.2.1 _ H1.out.2).mono ?_
 rintro e w2 ⟨rfl,b⟩
 have H2:=Ha (Hb (H1.out.1.next b) (H1.out.2.trans (b.mono H1.out.2.size)));clear b H1
 go_wp2_with fail
 refine (C.out.2.2.1 _ H2.out.2).mono ?_
 rintro e w3 ⟨rfl,b⟩
 have H3:=Ha (Hb (H2.out.1.next b) (H2.out.2.trans (b.mono H2.out.2.size)));clear b H2
 have q0:=H3.out.1.cell 0 (.string ⟨#[]⟩) rfl
 have q1:=H3.out.1.cell 1 (.int .i64 0) rfl
 have q2:=H3.out.1.cell 2 (.string ⟨#[]⟩) rfl
 have q3:=H3.out.1.cell 3 (.int .i64 0) rfl
 have f0:=H3.out.1.free 0
 have f1:=H3.out.1.free 1
 have f2:=H3.out.1.free 2
 have f3:=H3.out.1.free 3
 have HP:=Ha (H3.out.1.put4 (.string ⟨#[]⟩) (.int .i64 0) (.string ⟨#[]⟩) (.int .i64 0))
 have HL:=Ha (bC H3.out.2 (l:=w.heap.size) (Nat.le_refl _) (.string ⟨#[]⟩) (.int .i64 0) (.string ⟨#[]⟩) (.int .i64 0))
 have g0:=HP.out.cell 0 (.string ⟨#[]⟩) rfl
 have g1:=HP.out.cell 1 (.int .i64 0) rfl
 have g2:=HP.out.cell 2 (.string ⟨#[]⟩) rfl
 have g3:=HP.out.cell 3 (.int .i64 0) rfl
 go_wp2
 refine bodyPost_ret (v := .tuple #[.agg #[.string ⟨#[]⟩,.int .i64 0,.string ⟨#[]⟩,.int .i64 0],.int .i64 11]) (by simp [results,Tryz.results75,go_sem,g0,g1,g2,g3]) rfl ?_
 exact ⟨rfl,HL.out⟩
theorem GC (s n d:ByteArray) (c1:Int) (c2:Int) (w:World) (a1:(c1==11)=false) (a1':(c1 != 11)=true) (a2:(c2==11)=false) (a2':(c2 != 11)=true) (hp:0<d.size) (hp':(0:Int)<d.size) (hm:((d[0].toNat:Int)==45)=false) (hm':((d[0].toNat:Int) != 45)=true) (h0:(d.toList == [48])=false) (h0':(d.toList != [48])=true) (h1:(d.toList == [49])=true)
  (hcut:CqB w 42 #[.string s] (.tuple #[.string n,.string d,.bool true]))
  (hk1:CqB w 84 #[.string n] (.int .i64 c1))
  (hk2:CqB w 84 #[.string d] (.int .i64 c2)) :
  Calls Tryz.prog 75 #[.string s] w fun e W'=>e = .returned (.tuple #[.agg #[.string ⟨#[]⟩,.int .i64 0,.string ⟨#[]⟩,.int .i64 0],.int .i64 11])∧Below w.heap.size w W':=by
 have C:=Ha (Hb hcut (Hb hk1 (Hb hk2 trivial)));clear hcut hk1 hk2
 go_enter Tryz.func75,Tryz.ntmps75
 go_wp2_with fail
 have hb0:=Blk.new w #[.string ⟨#[]⟩,.int .i64 0,.string ⟨#[]⟩,.int .i64 0] 119
 have hB0:Below w.heap.size w (w.alloc (.cells #[.string ⟨#[]⟩,.int .i64 0,.string ⟨#[]⟩,.int .i64 0] 119)):=(Below.refl _ w).alloc (Nat.le_refl _) _
 generalize w.alloc (.cells #[.string ⟨#[]⟩,.int .i64 0,.string ⟨#[]⟩,.int .i64 0] 119)=W0 at *
 have H0:=Ha (Hb hb0 hB0);clear hb0 hB0
 refine (C.out.1 _ H0.out.2).mono ?_
 rintro e w1 ⟨rfl,b⟩
 have H1:=Ha (Hb (H0.out.1.next b) (H0.out.2.trans (b.mono H0.out.2.size)));clear b H0
 go_wp2_with fail
 refine (C.out.2.1 _ H1.out.2).mono ?_
 rintro e w2 ⟨rfl,b⟩
 have H2:=Ha (Hb (H1.out.1.next b) (H1.out.2.trans (b.mono H1.out.2.size)));clear b H1
 go_wp2_with fail
 refine (C.out.2.2.1 _ H2.out.2).mono ?_
 rintro e w3 ⟨rfl,b⟩
 have H3:=Ha (Hb (H2.out.1.next b) (H2.out.2.trans (b.mono H2.out.2.size)));clear b H2
 have q0:=H3.out.1.cell 0 (.string ⟨#[]⟩) rfl
 have q1:=H3.out.1.cell 1 (.int .i64 0) rfl
 have q2:=H3.out.1.cell 2 (.string ⟨#[]⟩) rfl
 have q3:=H3.out.1.cell 3 (.int .i64 0) rfl
 have f0:=H3.out.1.free 0
 have f1:=H3.out.1.free 1
 have f2:=H3.out.1.free 2
 have f3:=H3.out.1.free 3
 have HP:=Ha (H3.out.1.put4 (.string ⟨#[]⟩) (.int .i64 0) (.string ⟨#[]⟩) (.int .i64 0))
 have HL:=Ha (bC H3.out.2 (l:=w.heap.size) (Nat.le_refl _) (.string ⟨#[]⟩) (.int .i64 0) (.string ⟨#[]⟩) (.int .i64 0))
 have g0:=HP.out.cell 0 (.string ⟨#[]⟩) rfl
 have g1:=HP.out.cell 1 (.int .i64 0) rfl
 have g2:=HP.out.cell 2 (.string ⟨#[]⟩) rfl
 have g3:=HP.out.cell 3 (.int .i64 0) rfl
 go_wp2
 refine bodyPost_ret (v := .tuple #[.agg #[.string ⟨#[]⟩,.int .i64 0,.string ⟨#[]⟩,.int .i64 0],.int .i64 11]) (by simp [results,Tryz.results75,go_sem,g0,g1,g2,g3]) rfl ?_
 exact ⟨rfl,HL.out⟩
theorem FV (s n d:ByteArray) (c2:Int) (w:World) (a2:(c2==11)=false) (a2':(c2 != 11)=true) (hp:0<d.size) (hp':(0:Int)<d.size) (hm:((d[0].toNat:Int)==45)=false) (hm':((d[0].toNat:Int) != 45)=true) (h0:(d.toList == [48])=false) (h0':(d.toList != [48])=true) (h1:(d.toList == [49])=false) (b2:(c2==0)=false) (b2':(c2 != 0)=true)
  (hcut:CqB w 42 #[.string s] (.tuple #[.string n,.string d,.bool true]))
  (hk1:CqB w 84 #[.string n] (.int .i64 0))
  (hk2:CqB w 84 #[.string d] (.int .i64 c2)) :
  Calls Tryz.prog 75 #[.string s] w fun e W'=>e = .returned (.tuple #[.agg #[.string ⟨#[]⟩,.int .i64 0,.string ⟨#[]⟩,.int .i64 0],.int .i64 4])∧Below w.heap.size w W':=by
 have C:=Ha (Hb hcut (Hb hk1 (Hb hk2 trivial)));clear hcut hk1 hk2
 go_enter Tryz.func75,Tryz.ntmps75
 go_wp2_with fail
 have hb0:=Blk.new w #[.string ⟨#[]⟩,.int .i64 0,.string ⟨#[]⟩,.int .i64 0] 119
 have hB0:Below w.heap.size w (w.alloc (.cells #[.string ⟨#[]⟩,.int .i64 0,.string ⟨#[]⟩,.int .i64 0] 119)):=(Below.refl _ w).alloc (Nat.le_refl _) _
 generalize w.alloc (.cells #[.string ⟨#[]⟩,.int .i64 0,.string ⟨#[]⟩,.int .i64 0] 119)=W0 at *
 have H0:=Ha (Hb hb0 hB0);clear hb0 hB0
 refine (C.out.1 _ H0.out.2).mono ?_
 rintro e w1 ⟨rfl,b⟩
 have H1:=Ha (Hb (H0.out.1.next b) (H0.out.2.trans (b.mono H0.out.2.size)));clear b H0
 go_wp2_with fail
 refine (C.out.2.1 _ H1.out.2).mono ?_
 rintro e w2 ⟨rfl,b⟩
 have H2:=Ha (Hb (H1.out.1.next b) (H1.out.2.trans (b.mono H1.out.2.size)));clear b H1
 go_wp2_with fail
 refine (C.out.2.2.1 _ H2.out.2).mono ?_
 rintro e w3 ⟨rfl,b⟩
 have H3:=Ha (Hb (H2.out.1.next b) (H2.out.2.trans (b.mono H2.out.2.size)));clear b H2
 have q0:=H3.out.1.cell 0 (.string ⟨#[]⟩) rfl
 have q1:=H3.out.1.cell 1 (.int .i64 0) rfl
 have q2:=H3.out.1.cell 2 (.string ⟨#[]⟩) rfl
 have q3:=H3.out.1.cell 3 (.int .i64 0) rfl
 have f0:=H3.out.1.free 0
 have f1:=H3.out.1.free 1
 have f2:=H3.out.1.free 2
 have f3:=H3.out.1.free 3
 have HP:=Ha (H3.out.1.put4 (.string ⟨#[]⟩) (.int .i64 0) (.string ⟨#[]⟩) (.int .i64 0))
 have HL:=Ha (bC H3.out.2 (l:=w.heap.size) (Nat.le_refl _) (.string ⟨#[]⟩) (.int .i64 0) (.string ⟨#[]⟩) (.int .i64 0))
 have g0:=HP.out.cell 0 (.string ⟨#[]⟩) rfl
 have g1:=HP.out.cell 1 (.int .i64 0) rfl
 have g2:=HP.out.cell 2 (.string ⟨#[]⟩) rfl
 have g3:=HP.out.cell 3 (.int .i64 0) rfl
 go_wp2
 refine bodyPost_ret (v := .tuple #[.agg #[.string ⟨#[]⟩,.int .i64 0,.string ⟨#[]⟩,.int .i64 0],.int .i64 4]) (by simp [results,Tryz.results75,go_sem,g0,g1,g2,g3]) rfl ?_
 exact ⟨rfl,HL.out⟩
theorem GD (s n d:ByteArray) (c1:Int) (f:Bool) (w:World) (a1:(c1==11)=false) (a1':(c1 != 11)=true)
  (hcut:CqB w 42 #[.string s] (.tuple #[.string n,.string d,.bool f]))
  (hk1:CqB w 84 #[.string n] (.int .i64 c1))
  (hk2:CqB w 84 #[.string d] (.int .i64 11)) :
  Calls Tryz.prog 75 #[.string s] w fun e W'=>e = .returned (.tuple #[.agg #[.string ⟨#[]⟩,.int .i64 0,.string ⟨#[]⟩,.int .i64 0],.int .i64 11])∧Below w.heap.size w W':=by
 have C:=Ha (Hb hcut (Hb hk1 (Hb hk2 trivial)));clear hcut hk1 hk2
 go_enter Tryz.func75,Tryz.ntmps75
 go_wp2_with fail
 have hb0:=Blk.new w #[.string ⟨#[]⟩,.int .i64 0,.string ⟨#[]⟩,.int .i64 0] 119
 have hB0:Below w.heap.size w (w.alloc (.cells #[.string ⟨#[]⟩,.int .i64 0,.string ⟨#[]⟩,.int .i64 0] 119)):=(Below.refl _ w).alloc (Nat.le_refl _) _
 generalize w.alloc (.cells #[.string ⟨#[]⟩,.int .i64 0,.string ⟨#[]⟩,.int .i64 0] 119)=W0 at *
 have H0:=Ha (Hb hb0 hB0);clear hb0 hB0
 refine (C.out.1 _ H0.out.2).mono ?_
 rintro e w1 ⟨rfl,b⟩
 have H1:=Ha (Hb (H0.out.1.next b) (H0.out.2.trans (b.mono H0.out.2.size)));clear b H0
 go_wp2_with fail
 refine (C.out.2.1 _ H1.out.2).mono ?_
 rintro e w2 ⟨rfl,b⟩
 have H2:=Ha (Hb (H1.out.1.next b) (H1.out.2.trans (b.mono H1.out.2.size)));clear b H1
 go_wp2_with fail
 refine (C.out.2.2.1 _ H2.out.2).mono ?_
 rintro e w3 ⟨rfl,b⟩
 have H3:=Ha (Hb (H2.out.1.next b) (H2.out.2.trans (b.mono H2.out.2.size)));clear b H2
 have q0:=H3.out.1.cell 0 (.string ⟨#[]⟩) rfl
 have q1:=H3.out.1.cell 1 (.int .i64 0) rfl
 have q2:=H3.out.1.cell 2 (.string ⟨#[]⟩) rfl
 have q3:=H3.out.1.cell 3 (.int .i64 0) rfl
 have f0:=H3.out.1.free 0
 have f1:=H3.out.1.free 1
 have f2:=H3.out.1.free 2
 have f3:=H3.out.1.free 3
 have HP:=Ha (H3.out.1.put4 (.string ⟨#[]⟩) (.int .i64 0) (.string ⟨#[]⟩) (.int .i64 0))
 have HL:=Ha (bC H3.out.2 (l:=w.heap.size) (Nat.le_refl _) (.string ⟨#[]⟩) (.int .i64 0) (.string ⟨#[]⟩) (.int .i64 0))
 have g0:=HP.out.cell 0 (.string ⟨#[]⟩) rfl
 have g1:=HP.out.cell 1 (.int .i64 0) rfl
 have g2:=HP.out.cell 2 (.string ⟨#[]⟩) rfl
 have g3:=HP.out.cell 3 (.int .i64 0) rfl
 go_wp2
 refine bodyPost_ret (v := .tuple #[.agg #[.string ⟨#[]⟩,.int .i64 0,.string ⟨#[]⟩,.int .i64 0],.int .i64 11]) (by simp [results,Tryz.results75,go_sem,g0,g1,g2,g3]) rfl ?_
 exact ⟨rfl,HL.out⟩
theorem FW (s n d:ByteArray) (c1:Int) (c2:Int) (w:World) (a1:(c1==11)=false) (a1':(c1 != 11)=true) (a2:(c2==11)=false) (a2':(c2 != 11)=true) (hp:0<d.size) (hp':(0:Int)<d.size) (hm:((d[0].toNat:Int)==45)=false) (hm':((d[0].toNat:Int) != 45)=true) (h0:(d.toList == [48])=false) (h0':(d.toList != [48])=true) (b1:(c1==0)=false) (b1':(c1 != 0)=true)
  (hcut:CqB w 42 #[.string s] (.tuple #[.string n,.string d,.bool false]))
  (hk1:CqB w 84 #[.string n] (.int .i64 c1))
  (hk2:CqB w 84 #[.string d] (.int .i64 c2)) :
  Calls Tryz.prog 75 #[.string s] w fun e W'=>e = .returned (.tuple #[.agg #[.string ⟨#[]⟩,.int .i64 0,.string ⟨#[]⟩,.int .i64 0],.int .i64 4])∧Below w.heap.size w W':=by
 have C:=Ha (Hb hcut (Hb hk1 (Hb hk2 trivial)));clear hcut hk1 hk2
 go_enter Tryz.func75,Tryz.ntmps75
 go_wp2_with fail
 have hb0:=Blk.new w #[.string ⟨#[]⟩,.int .i64 0,.string ⟨#[]⟩,.int .i64 0] 119
 have hB0:Below w.heap.size w (w.alloc (.cells #[.string ⟨#[]⟩,.int .i64 0,.string ⟨#[]⟩,.int .i64 0] 119)):=(Below.refl _ w).alloc (Nat.le_refl _) _
 generalize w.alloc (.cells #[.string ⟨#[]⟩,.int .i64 0,.string ⟨#[]⟩,.int .i64 0] 119)=W0 at *
 have H0:=Ha (Hb hb0 hB0);clear hb0 hB0
 refine (C.out.1 _ H0.out.2).mono ?_
 rintro e w1 ⟨rfl,b⟩
 have H1:=Ha (Hb (H0.out.1.next b) (H0.out.2.trans (b.mono H0.out.2.size)));clear b H0
 go_wp2_with fail
 refine (C.out.2.1 _ H1.out.2).mono ?_
 rintro e w2 ⟨rfl,b⟩
 have H2:=Ha (Hb (H1.out.1.next b) (H1.out.2.trans (b.mono H1.out.2.size)));clear b H1
 go_wp2_with fail
 refine (C.out.2.2.1 _ H2.out.2).mono ?_
 rintro e w3 ⟨rfl,b⟩
 have H3:=Ha (Hb (H2.out.1.next b) (H2.out.2.trans (b.mono H2.out.2.size)));clear b H2
 have q0:=H3.out.1.cell 0 (.string ⟨#[]⟩) rfl
 have q1:=H3.out.1.cell 1 (.int .i64 0) rfl
 have q2:=H3.out.1.cell 2 (.string ⟨#[]⟩) rfl
 have q3:=H3.out.1.cell 3 (.int .i64 0) rfl
 have f0:=H3.out.1.free 0
 have f1:=H3.out.1.free 1
 have f2:=H3.out.1.free 2
 have f3:=H3.out.1.free 3
 have HP:=Ha (H3.out.1.put4 (.string ⟨#[]⟩) (.int .i64 0) (.string ⟨#[]⟩) (.int .i64 0))
 have HL:=Ha (bC H3.out.2 (l:=w.heap.size) (Nat.le_refl _) (.string ⟨#[]⟩) (.int .i64 0) (.string ⟨#[]⟩) (.int .i64 0))
 have g0:=HP.out.cell 0 (.string ⟨#[]⟩) rfl
 have g1:=HP.out.cell 1 (.int .i64 0) rfl
 have g2:=HP.out.cell 2 (.string ⟨#[]⟩) rfl
 have g3:=HP.out.cell 3 (.int .i64 0) rfl
 go_wp2
 refine bodyPost_ret (v := .tuple #[.agg #[.string ⟨#[]⟩,.int .i64 0,.string ⟨#[]⟩,.int .i64 0],.int .i64 4]) (by simp [results,Tryz.results75,go_sem,g0,g1,g2,g3]) rfl ?_
 exact ⟨rfl,HL.out⟩
theorem FX (s n d:ByteArray) (w:World) (hp:0<d.size) (hp':(0:Int)<d.size) (hm:((d[0].toNat:Int)==45)=false) (hm':((d[0].toNat:Int) != 45)=true) (h0:(d.toList == [48])=false) (h0':(d.toList != [48])=true)
  (hcut:CqB w 42 #[.string s] (.tuple #[.string n,.string d,.bool false]))
  (hk1:CqB w 84 #[.string n] (.int .i64 0))
  (hk2:CqB w 84 #[.string d] (.int .i64 0)) :
  Calls Tryz.prog 75 #[.string s] w fun e W'=>e = .returned (.tuple #[.agg #[.string n,.int .i64 0,.string d,.int .i64 0],.int .i64 0])∧Below w.heap.size w W':=by
 have C:=Ha (Hb hcut (Hb hk1 (Hb hk2 trivial)));clear hcut hk1 hk2
 go_enter Tryz.func75,Tryz.ntmps75
 go_wp2_with fail
 have hb0:=Blk.new w #[.string ⟨#[]⟩,.int .i64 0,.string ⟨#[]⟩,.int .i64 0] 119
 have hB0:Below w.heap.size w (w.alloc (.cells #[.string ⟨#[]⟩,.int .i64 0,.string ⟨#[]⟩,.int .i64 0] 119)):=(Below.refl _ w).alloc (Nat.le_refl _) _
 generalize w.alloc (.cells #[.string ⟨#[]⟩,.int .i64 0,.string ⟨#[]⟩,.int .i64 0] 119)=W0 at *
 have H0:=Ha (Hb hb0 hB0);clear hb0 hB0
 refine (C.out.1 _ H0.out.2).mono ?_
 rintro e w1 ⟨rfl,b⟩
 have H1:=Ha (Hb (H0.out.1.next b) (H0.out.2.trans (b.mono H0.out.2.size)));clear b H0
 go_wp2_with fail
 refine (C.out.2.1 _ H1.out.2).mono ?_
 rintro e w2 ⟨rfl,b⟩
 have H2:=Ha (Hb (H1.out.1.next b) (H1.out.2.trans (b.mono H1.out.2.size)));clear b H1
 go_wp2_with fail
 refine (C.out.2.2.1 _ H2.out.2).mono ?_
 rintro e w3 ⟨rfl,b⟩
 have H3:=Ha (Hb (H2.out.1.next b) (H2.out.2.trans (b.mono H2.out.2.size)));clear b H2
 have H4:=Ha (show Blk (w3.alloc (.cells #[.string n,.int .i64 0,.string d,.int .i64 0] 119)) w.heap.size #[.string ⟨#[]⟩,.int .i64 0,.string ⟨#[]⟩,.int .i64 0]∧Below w.heap.size w (w3.alloc (.cells #[.string n,.int .i64 0,.string d,.int .i64 0] 119))∧Blk (w3.alloc (.cells #[.string n,.int .i64 0,.string d,.int .i64 0] 119)) w3.heap.size #[.string n,.int .i64 0,.string d,.int .i64 0]∧w.heap.size<w3.heap.size from ⟨H3.out.1.alloc _,H3.out.2.alloc H3.out.2.size _,Blk.new w3 _ _,H3.out.1.lt⟩)
 have e0:=H4.out.2.2.1.cell 0 (.string n) rfl
 have e1:=H4.out.2.2.1.cell 1 (.int .i64 0) rfl
 have e2:=H4.out.2.2.1.cell 2 (.string d) rfl
 have e3:=H4.out.2.2.1.cell 3 (.int .i64 0) rfl
 have H5:=Ha (Hb H4.out.1 H4.out.2.1);clear H4
 have q0:=H5.out.1.cell 0 (.string ⟨#[]⟩) rfl
 have q1:=H5.out.1.cell 1 (.int .i64 0) rfl
 have q2:=H5.out.1.cell 2 (.string ⟨#[]⟩) rfl
 have q3:=H5.out.1.cell 3 (.int .i64 0) rfl
 have f0:=H5.out.1.free 0
 have f1:=H5.out.1.free 1
 have f2:=H5.out.1.free 2
 have f3:=H5.out.1.free 3
 have HP:=Ha (H5.out.1.put4 (.string n) (.int .i64 0) (.string d) (.int .i64 0))
 have HL:=Ha (bC H5.out.2 (l:=w.heap.size) (Nat.le_refl _) (.string n) (.int .i64 0) (.string d) (.int .i64 0))
 have g0:=HP.out.cell 0 (.string n) rfl
 have g1:=HP.out.cell 1 (.int .i64 0) rfl
 have g2:=HP.out.cell 2 (.string d) rfl
 have g3:=HP.out.cell 3 (.int .i64 0) rfl
 go_wp2
 refine bodyPost_ret (v := .tuple #[.agg #[.string n,.int .i64 0,.string d,.int .i64 0],.int .i64 0]) (by simp [results,Tryz.results75,go_sem,g0,g1,g2,g3]) rfl ?_
 exact ⟨rfl,HL.out⟩
end
end Go.Proofs.YtbhbhlfkdlfimaaGreatDoor
