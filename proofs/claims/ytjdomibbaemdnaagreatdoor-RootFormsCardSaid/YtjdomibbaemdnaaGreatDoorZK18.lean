/- Parts of the proof of the text YtjdomibbaemdnaaGreatDoorZK42. -/
import Derived.OneCell
import Derived.WalkKit
import Derived.Test.YtjdomibbaemdnaaGreatDoorZK1
import Derived.Test.YtjdomibbaemdnaaGreatDoorZK17
set_option linter.all false
set_option maxRecDepth 100000
set_option maxHeartbeats 8000000
namespace Go.Proofs.YtjdomibbaemdnaaGreatDoor
section
open Go.RowKit
structure Cell2 (w:World) (k:Nat) (x0 x1:Value) (W:World):Prop where
 c0:W.cell? ⟨k,0,none⟩=some x0
 c1:W.cell? ⟨k,1,none⟩=some x1
 f0:W.frozen? ⟨k,0,none⟩=false
 f1:W.frozen? ⟨k,1,none⟩=false
 size:k<W.heap.size
 lo:w.heap.size≤k
 below:Below w.heap.size w W
theorem Cell2.new (w:World) (x0 x1:Value) (t:TypeId):Cell2 w w.heap.size x0 x1 (w.alloc (.cells #[x0,x1] t)) :=
 ⟨by go_cell,by go_cell,by simp [go_sem],by simp [go_sem],by simp,Nat.le_refl _,(Below.refl _ w).alloc (Nat.le_refl _) _⟩
theorem Cell2.next {w:World} {k:Nat} {x0 x1:Value} {W W':World} (h:Cell2 w k x0 x1 W) (b:Below W.heap.size W W'):Cell2 w k x0 x1 W' :=
 ⟨(b.cell (p:=⟨k,0,none⟩) h.size).trans h.c0,(b.cell (p:=⟨k,1,none⟩) h.size).trans h.c1,(b.frozen (p:=⟨k,0,none⟩) h.size).trans h.f0,(b.frozen (p:=⟨k,1,none⟩) h.size).trans h.f1,
  Nat.lt_of_lt_of_le h.size b.size,h.lo,h.below.trans (b.mono h.below.size)⟩
theorem Cell2.put {w:World} {k:Nat} {x0 x1:Value} {W:World} (h:Cell2 w k x0 x1 W) (u v:Value):Below w.heap.size w ((W.setCell ⟨k,0,none⟩ u).setCell ⟨k,1,none⟩ v) :=
 (h.below.setCell (p:=⟨k,0,none⟩) h.lo _).setCell (p:=⟨k,1,none⟩) h.lo _
theorem ai {w W:World} (h:aW w) (b:Below w.heap.size w W):aW W:=fun j hj=>by
 have h1:=h j hj
 have hl:=World.block_lt_of_cell? w _ h1
 exact (b.cell (p:=⟨4,j,none⟩) hl).trans h1
theorem l7 (s:ByteArray) (w:World) (hs:s.size≤maxLen) (h:dOK (bj s.data.toList)=false) :
  Calls Tryz.prog 105 #[.string s] w fun e W'=>(∃ x y,e = .returned (.tuple #[.agg #[.int .i64 x,.int .i64 y],.bool false]))∧Below w.heap.size w W':=by
 have cc:=fun W=>jX s W hs
 have r1:=fun W=>cP (bN s) W (Nat.le_trans (jW s) hs)
 rw [dE] at r1
 rw [h] at r1
 have C:=Ha (Hb cc (Hb r1 trivial))
 clear cc r1 h hs
 generalize bN s=n at *
 generalize bD s=d at *
 generalize bI s.data.toList=f at *
 generalize mg (bj s.data.toList)=x at *
 go_enter Tryz.func105,Tryz.ntmps105
 go_wp2_with fail
 have hb:=Cell2.new w (.int .i64 0) (.int .i64 0) 136
 generalize w.alloc (.cells #[.int .i64 0,.int .i64 0] 136)=W0 at *
 generalize hk:w.heap.size=k at *
 have HK:=Ha hk;clear hk
 have HB:=Ha hb;clear hb
 refine (C.out.1 _).mono ?_
 rintro e w1 ⟨rfl,b⟩
 have HB1:=Ha (HB.out.next b);clear b HB
 go_wp2_with fail
 refine (C.out.2.1 _).mono ?_
 rintro e w' ⟨rfl,rfl⟩
 obtain ⟨c0,c1,f0,f1,_,_,_⟩:=HB1.out
 obtain ⟨g0,g1⟩:=au c0 c1 (.int .i64 0) (.int .i64 0)
 go_wp2
 refine bodyPost_ret (v := .tuple #[.agg #[.int .i64 0,.int .i64 0],.bool false]) (by simp [results,Tryz.results105,go_sem,g0,g1]) rfl ?_
 exact ⟨⟨_,_,rfl⟩,by rw [HK.out];have:=HB1.out.put (.int .i64 0) (.int .i64 0);rwa [HK.out] at this⟩
theorem l8 (s:ByteArray) (w:World) (hs:s.size≤maxLen) (h:dOK (bj s.data.toList)=true) (hf:bI s.data.toList=false) :
  Calls Tryz.prog 105 #[.string s] w fun e W'=>e = .returned (.tuple #[.agg #[.int .i64 (valOf (bj s.data.toList)),.int .i64 1],.bool true])∧Below w.heap.size w W':=by
 have cc:=fun W=>jX s W hs
 have r1:=fun W=>cP (bN s) W (Nat.le_trans (jW s) hs)
 rw [dE] at r1
 rw [h,kN h] at r1
 rw [hf] at cc
 have C:=Ha (Hb cc (Hb r1 trivial))
 clear cc r1 h hs hf
 generalize bN s=n at *
 generalize bD s=d at *
 generalize valOf (bj s.data.toList)=x at *
 go_enter Tryz.func105,Tryz.ntmps105
 go_wp2_with fail
 have hb:=Cell2.new w (.int .i64 0) (.int .i64 0) 136
 generalize w.alloc (.cells #[.int .i64 0,.int .i64 0] 136)=W0 at *
 generalize hk:w.heap.size=k at *
 have HK:=Ha hk;clear hk
 have HB:=Ha hb;clear hb
 refine (C.out.1 _).mono ?_
 rintro e w1 ⟨rfl,b⟩
 have HB1:=Ha (HB.out.next b);clear b HB
 go_wp2_with fail
 refine (C.out.2.1 _).mono ?_
 rintro e w' ⟨rfl,rfl⟩
 obtain ⟨c0,c1,f0,f1,_,_,_⟩:=HB1.out
 obtain ⟨g0,g1⟩:=au c0 c1 (.int .i64 x) (.int .i64 1)
 go_wp2
 refine bodyPost_ret (v := .tuple #[.agg #[.int .i64 x,.int .i64 1],.bool true]) (by simp [results,Tryz.results105,go_sem,g0,g1]) rfl ?_
 exact ⟨rfl,by rw [HK.out];have:=HB1.out.put (.int .i64 x) (.int .i64 1);rwa [HK.out] at this⟩
theorem gC (s:ByteArray) (w:World) (hs:s.size≤maxLen) (h:dOK (bj s.data.toList)=true) (hf:bI s.data.toList=true) (hd:dOK (aH s.data.toList)=true) (h1:1<valOf (aH s.data.toList)) (ht:aW w) :
  Calls Tryz.prog 105 #[.string s] w fun e W'=>e = .returned (.tuple #[.agg #[.int .i64 (valOf (bj s.data.toList)),.int .i64 (valOf (aH s.data.toList))],.bool (Nat.gcd (valOf (bj s.data.toList)).natAbs (valOf (aH s.data.toList)).natAbs==1)])∧Below w.heap.size w W':=by
 have cc:=fun W=>jX s W hs
 have r1:=fun W=>cP (bN s) W (Nat.le_trans (jW s) hs)
 rw [dE] at r1
 have hsz:0<s.size:=by
  rcases Nat.eq_zero_or_pos s.size with h0 | h0
  ·rw [dO h0] at hf;cases hf
  ·exact h0
 have r2:=fun W=>cP (bD s) W (Nat.le_trans (pg s hsz) hs)
 rw [cM,hd,kN hd] at r2
 rw [h,kN h] at r1
 rw [hf] at cc
 have hx:=(ja h).2
 have hy:=(ja hd).2
 have cg:=fun W (hW:Below w.heap.size w W)=>dT (valOf (bj s.data.toList)) (valOf (aH s.data.toList)) W hx.lo hx.hi hy.lo hy.hi (ai ht hW)
 have C:=Ha (Hb cc (Hb r1 (Hb r2 cg)))
 clear cc r1 r2 cg h hs hf hd hx hy ht hsz
 generalize bN s=n at *
 generalize bD s=d at *
 generalize valOf (bj s.data.toList)=x at *
 generalize valOf (aH s.data.toList)=y at *
 generalize Nat.gcd x.natAbs y.natAbs=g at *
 go_enter Tryz.func105,Tryz.ntmps105
 go_wp2_with fail
 have hb:=Cell2.new w (.int .i64 0) (.int .i64 0) 136
 generalize w.alloc (.cells #[.int .i64 0,.int .i64 0] 136)=W0 at *
 generalize hk:w.heap.size=k at *
 have HK:=Ha hk;clear hk
 have HB:=Ha hb;clear hb
 refine (C.out.1 _).mono ?_
 rintro e w1 ⟨rfl,b⟩
 have HB1:=Ha (HB.out.next b);clear b HB
 go_wp2_with fail
 refine (C.out.2.1 _).mono ?_
 rintro e w' ⟨rfl,rfl⟩
 go_wp2_with fail
 refine (C.out.2.2.1 _).mono ?_
 rintro e w' ⟨rfl,rfl⟩
 go_wp2_with fail
 refine (C.out.2.2.2 _ (by have:=HB1.out.below;rwa [HK.out] at this)).mono ?_
 rintro e w' ⟨rfl,rfl⟩
 have hgd:((g:Int)==1)=(g==1):=by
  by_cases hg:g=1
  ·subst hg;rfl
  ·rw [show (g==1)=false by simpa using hg,beq_eq_false_iff_ne];omega
 obtain ⟨c0,c1,f0,f1,_,_,_⟩:=HB1.out
 obtain ⟨g0,g1⟩:=au c0 c1 (.int .i64 x) (.int .i64 y)
 go_wp2
 refine bodyPost_ret (v := .tuple #[.agg #[.int .i64 x,.int .i64 y],.bool (g==1)]) (by simp [results,Tryz.results105,go_sem,g0,g1]) rfl ?_
 exact ⟨rfl,by rw [HK.out];have:=HB1.out.put (.int .i64 x) (.int .i64 y);rwa [HK.out] at this⟩
theorem l9 (s:ByteArray) (w:World) (hs:s.size≤maxLen) (h:dOK (bj s.data.toList)=true) (hf:bI s.data.toList=true) (hd:¬ (dOK (aH s.data.toList)=true∧1<valOf (aH s.data.toList))) :
  Calls Tryz.prog 105 #[.string s] w fun e W'=>(∃ x y,e = .returned (.tuple #[.agg #[.int .i64 x,.int .i64 y],.bool false]))∧Below w.heap.size w W':=by
 have cc:=fun W=>jX s W hs
 have r1:=fun W=>cP (bN s) W (Nat.le_trans (jW s) hs)
 rw [dE] at r1
 have hsz:0<s.size:=by
  rcases Nat.eq_zero_or_pos s.size with h0 | h0
  ·rw [dO h0] at hf;cases hf
  ·exact h0
 have r2:=fun W=>cP (bD s) W (Nat.le_trans (pg s hsz) hs)
 rw [cM] at r2
 rw [h,kN h] at r1
 rw [hf] at cc
 have hq:dOK (aH s.data.toList)=false∨(dOK (aH s.data.toList)=true∧¬ (1:Int)<mg (aH s.data.toList)):=by
  cases hc:dOK (aH s.data.toList)
  ·exact .inl rfl
  ·refine .inr ⟨rfl,fun q=>hd ⟨hc,?_⟩⟩
   rwa [kN hc] at q
 have C:=Ha (Hb cc (Hb r1 (Hb r2 trivial)))
 clear cc r1 r2 h hs hf hd hsz
 generalize bN s=n at *
 generalize bD s=d at *
 generalize valOf (bj s.data.toList)=x at *
 generalize mg (aH s.data.toList)=y at *
 generalize dOK (aH s.data.toList)=o at *
 rcases hq with rfl | ⟨rfl,hy⟩
 ·go_enter Tryz.func105,Tryz.ntmps105
  go_wp2_with fail
  have hb:=Cell2.new w (.int .i64 0) (.int .i64 0) 136
  generalize w.alloc (.cells #[.int .i64 0,.int .i64 0] 136)=W0 at *
  generalize hk:w.heap.size=k at *
  have HK:=Ha hk;clear hk
  have HB:=Ha hb;clear hb
  refine (C.out.1 _).mono ?_
  rintro e w1 ⟨rfl,b⟩
  have HB1:=Ha (HB.out.next b);clear b HB
  go_wp2_with fail
  refine (C.out.2.1 _).mono ?_
  rintro e w' ⟨rfl,rfl⟩
  go_wp2_with fail
  refine (C.out.2.2.1 _).mono ?_
  rintro e w' ⟨rfl,rfl⟩
  obtain ⟨c0,c1,f0,f1,_,_,_⟩:=HB1.out
  obtain ⟨g0,g1⟩:=au c0 c1 (.int .i64 x) (.int .i64 y)
  go_wp2
  refine bodyPost_ret (v := .tuple #[.agg #[.int .i64 x,.int .i64 y],.bool false]) (by simp [results,Tryz.results105,go_sem,g0,g1]) rfl ?_
  exact ⟨⟨_,_,rfl⟩,by rw [HK.out];have:=HB1.out.put (.int .i64 x) (.int .i64 y);rwa [HK.out] at this⟩
 ·go_enter Tryz.func105,Tryz.ntmps105
  go_wp2_with fail
  have hb:=Cell2.new w (.int .i64 0) (.int .i64 0) 136
  generalize w.alloc (.cells #[.int .i64 0,.int .i64 0] 136)=W0 at *
  generalize hk:w.heap.size=k at *
  have HK:=Ha hk;clear hk
  have HB:=Ha hb;clear hb
  refine (C.out.1 _).mono ?_
  rintro e w1 ⟨rfl,b⟩
  have HB1:=Ha (HB.out.next b);clear b HB
  go_wp2_with fail
  refine (C.out.2.1 _).mono ?_
  rintro e w' ⟨rfl,rfl⟩
  go_wp2_with fail
  refine (C.out.2.2.1 _).mono ?_
  rintro e w' ⟨rfl,rfl⟩
  obtain ⟨c0,c1,f0,f1,_,_,_⟩:=HB1.out
  obtain ⟨g0,g1⟩:=au c0 c1 (.int .i64 x) (.int .i64 y)
  go_wp2
  refine bodyPost_ret (v := .tuple #[.agg #[.int .i64 x,.int .i64 y],.bool false]) (by simp [results,Tryz.results105,go_sem,g0,g1]) rfl ?_
  exact ⟨⟨_,_,rfl⟩,by rw [HK.out];have:=HB1.out.put (.int .i64 x) (.int .i64 y);rwa [HK.out] at this⟩
theorem dP (s:ByteArray) (w:World) (hs:s.size≤maxLen) (h:mOK s.data.toList=true) (ht:aW w) :
  Calls Tryz.prog 105 #[.string s] w fun e W'=>e = .returned (.tuple #[.agg #[.int .i64 (valOf (bj s.data.toList)),.int .i64 (valOf (aH s.data.toList))],.bool true])∧Below w.heap.size w W':=by
 have h':=h
 unfold mOK at h'
 simp only [Bool.and_eq_true,Bool.or_eq_true,Bool.not_eq_true',decide_eq_true_eq] at h'
 obtain ⟨h1,h2⟩:=h'
 cases hf:bI s.data.toList
 ·have c:=l8 s w hs h1 hf
  have hd:aH s.data.toList = [49]:=by unfold aH;rw [hf];rfl
  rw [hd,iX];exact c
 ·rcases h2 with h2 | ⟨⟨h3,h4⟩,h5⟩
  ·rw [hf] at h2;cases h2
  ·have c:=gC s w hs h1 hf h3 h4 ht
   rwa [show (Nat.gcd (valOf (bj s.data.toList)).natAbs (valOf (aH s.data.toList)).natAbs==1)=true by simpa using h5] at c
theorem fH (s:ByteArray) (w:World) (hs:s.size≤maxLen) (h:mOK s.data.toList=false) (ht:aW w) :
  Calls Tryz.prog 105 #[.string s] w fun e W'=>(∃ x y,e = .returned (.tuple #[.agg #[.int .i64 x,.int .i64 y],.bool false]))∧Below w.heap.size w W':=by
 cases h1:dOK (bj s.data.toList)
 ·exact l7 s w hs h1
 ·cases hf:bI s.data.toList
  ·exfalso;unfold mOK at h;rw [h1,hf] at h;cases h
  ·by_cases hd:dOK (aH s.data.toList)=true∧1<valOf (aH s.data.toList)
   ·have c:=gC s w hs h1 hf hd.1 hd.2 ht
    have hg:(Nat.gcd (valOf (bj s.data.toList)).natAbs (valOf (aH s.data.toList)).natAbs==1)=false:=by
     unfold mOK at h
     rw [h1,hf,hd.1,decide_eq_true hd.2] at h
     simpa using h
    rw [hg] at c
    exact c.mono fun e W' ⟨he,hb⟩=>⟨⟨_,_,he⟩,hb⟩
   ·exact l9 s w hs h1 hf hd
structure Bxs (w:World) (k:Nat) (L:List (List Value)) (W:World):Prop where
 cells:∀ i xs,L[i]? = some xs→∀ j v,xs[j]? = some v→W.cell? ⟨k+i,j,none⟩=some v
 frozen:∀ i,i<L.length→∀ j,W.frozen? ⟨k+i,j,none⟩=false
 size:k+L.length≤W.heap.size
 lo:w.heap.size≤k
 below:Below w.heap.size w W
theorem Bxs.next {w:World} {k:Nat} {L:List (List Value)} {W W':World} (h:Bxs w k L W) (b:Below W.heap.size W W'):Bxs w k L W' :=
 ⟨fun i xs hi j v hj=>(b.cell (p:=⟨k+i,j,none⟩) (by have:=(List.getElem?_eq_some_iff.1 hi).1;have:=h.size;show k+i<_;omega)).trans (h.cells i xs hi j v hj),
  fun i hi j=>(b.frozen (p:=⟨k+i,j,none⟩) (by have:=h.size;show k+i<_;omega)).trans (h.frozen i hi j),Nat.le_trans h.size b.size,h.lo,h.below.trans (b.mono h.below.size)⟩
theorem Bxs.push {w:World} {k:Nat} {L:List (List Value)} {W:World} (h:Bxs w k L W) (hs:W.heap.size=k+L.length) (xs:List Value) (t:TypeId):Bxs w k (L ++ [xs]) (W.alloc (.cells xs.toArray t)):=by
 have hb:Below W.heap.size W (W.alloc (.cells xs.toArray t)):=(Below.refl _ W).alloc (Nat.le_refl _) _
 have h2:=h.next hb
 have hnew:(W.alloc (.cells xs.toArray t)).heap[k+L.length]? = some (.cells xs.toArray t (0,0)):=by rw [←hs];exact heap_alloc_new W _
 refine ⟨fun i ys hi j v hj => ?_,fun i hi j => ?_,by simp;omega,h2.lo,h2.below⟩
 ·by_cases hl:i<L.length
  ·rw [List.getElem?_append_left hl] at hi
   exact h2.cells i ys hi j v hj
  ·rw [List.getElem?_append_right (by omega)] at hi
   have hi0:i=L.length:=by
    have:=(List.getElem?_eq_some_iff.1 hi).1
    simp at this;omega
   subst hi0
   rw [Nat.sub_self] at hi
   have:xs=ys:=Option.some.inj hi
   subst this
   rw [cell_of_row _ _ j _ _ _ hnew]
   simpa using hj
 ·by_cases hl:i<L.length
  ·exact h2.frozen i hl j
  ·rw [List.length_append,List.length_singleton] at hi
   have hi0:i=L.length:=by omega
   subst hi0
   exact k7 hnew
theorem Bxs.nil (w W:World) (b:Below w.heap.size w W):Bxs w W.heap.size [] W :=
 ⟨fun i xs hi=>by simp at hi,fun i hi=>by simp at hi,by simp,b.size,b⟩
end
section
open Go Go.RowKit
def Blk (W:World) (k:Nat) (vs:Array Value):Prop:=∃ t,W.heap[k]? = some (.cells vs t (0,0))
theorem Blk.lt {W:World} {k:Nat} {vs:Array Value} (h:Blk W k vs):k<W.heap.size:=by
 obtain ⟨t,h⟩:=h;exact lt_of_block h
theorem Blk.cell {W:World} {k:Nat} {vs:Array Value} (h:Blk W k vs) (j:Nat) (v:Value) (hj:vs[j]? = some v):W.cell? ⟨k,j,none⟩=some v:=by
 obtain ⟨t,h⟩:=h;unfold World.cell?; simp only [h];simpa using hj
theorem Blk.free {W:World} {k:Nat} {vs:Array Value} (h:Blk W k vs) (j:Nat):W.frozen? ⟨k,j,none⟩=false:=by
 obtain ⟨t,h⟩:=h;unfold World.frozen?; simp only [h];simp
theorem Blk.new (W:World) (vs:Array Value) (t:TypeId):Blk (W.alloc (.cells vs t)) W.heap.size vs:=⟨t,heap_alloc_new W _⟩
theorem Blk.alloc {W:World} {k:Nat} {vs:Array Value} (h:Blk W k vs) (o:Obj):Blk (W.alloc o) k vs:=by
 obtain ⟨t,e⟩:=h;exact ⟨t,by rw [Below.heap_alloc _ _ _ (lt_of_block e)];exact e⟩
theorem Blk.next {W W':World} {k:Nat} {vs:Array Value} (h:Blk W k vs) (b:Below W.heap.size W W'):Blk W' k vs:=by
 obtain ⟨t,e⟩:=h;exact ⟨t,by rw [b.block k (lt_of_block e)];exact e⟩
theorem Blk.drew {W:World} {k:Nat} {vs:Array Value} (h:Blk W k vs):Blk W.drew k vs:=h
theorem Blk.other {W:World} {k:Nat} {vs:Array Value} (h:Blk W k vs) {p:Addr} (hp:k≠p.block) (u:Value):Blk (W.setCell p u) k vs:=by
 obtain ⟨t,e⟩:=h;exact ⟨t,by rw [Below.heap_setCell _ _ _ _ hp];exact e⟩
theorem Blk.set {W:World} {k:Nat} {vs:Array Value} (h:Blk W k vs) (j:Nat) (u:Value):Blk (W.setCell ⟨k,j,none⟩ u) k (vs.setIfInBounds j u):=by
 obtain ⟨t,h⟩:=h
 refine ⟨t,?_⟩
 have hlt:=lt_of_block h
 have h':W.heap[k] = .cells vs t (0,0):=by simpa [Array.getElem?_eq_getElem hlt] using h
 show (W.heap.modify k _)[k]? = _
 rw [Array.getElem?_eq_getElem (by simpa using hlt),Array.getElem_modify_self,h']
 rfl
theorem Blk.put2 {W:World} {k:Nat} {a b:Value} (h:Blk W k #[a,b]) (x y:Value):Blk ((W.setCell ⟨k,0,none⟩ x).setCell ⟨k,1,none⟩ y) k #[x,y]:=(h.set 0 x).set 1 y
theorem Blk.put4 {W:World} {k:Nat} {a b c d:Value} (h:Blk W k #[a,b,c,d]) (x y z u:Value):Blk ((((W.setCell ⟨k,0,none⟩ x).setCell ⟨k,1,none⟩ y).setCell ⟨k,2,none⟩ z).setCell ⟨k,3,none⟩ u) k #[x,y,z,u]:=(((h.set 0 x).set 1 y).set 2 z).set 3 u
theorem Blk.other2 {W:World} {k l:Nat} {vs:Array Value} (h:Blk W k vs) (hp:k≠l) (x y:Value):Blk ((W.setCell ⟨l,0,none⟩ x).setCell ⟨l,1,none⟩ y) k vs:=(h.other hp x).other hp y
theorem cT {B:Nat} {a W:World} (h:Below B a W) {l:Nat} (hl:B≤l) (x y:Value):Below B a ((W.setCell ⟨l,0,none⟩ x).setCell ⟨l,1,none⟩ y):=(h.setCell (p:=⟨l,0,none⟩) hl x).setCell (p:=⟨l,1,none⟩) hl y
theorem bq {B:Nat} {a W:World} (h:Below B a W) {l:Nat} (hl:B≤l) (x y z u:Value):Below B a ((((W.setCell ⟨l,0,none⟩ x).setCell ⟨l,1,none⟩ y).setCell ⟨l,2,none⟩ z).setCell ⟨l,3,none⟩ u):=(((h.setCell (p:=⟨l,0,none⟩) hl x).setCell (p:=⟨l,1,none⟩) hl y).setCell (p:=⟨l,2,none⟩) hl z).setCell (p:=⟨l,3,none⟩) hl u
structure BB (w:World) (k:Nat) (vs:Array Value) (W:World):Prop where
 blk:Blk W k vs
 lo:w.heap.size≤k
 below:Below w.heap.size w W
theorem BB.new (w:World) (vs:Array Value) (t:TypeId):BB w w.heap.size vs (w.alloc (.cells vs t)):=⟨Blk.new w vs t,Nat.le_refl _,(Below.refl _ w).alloc (Nat.le_refl _) _⟩
theorem BB.next {w:World} {k:Nat} {vs:Array Value} {W W':World} (h:BB w k vs W) (b:Below W.heap.size W W'):BB w k vs W':=⟨h.blk.next b,h.lo,h.below.trans (b.mono h.below.size)⟩
theorem BB.put2 {w:World} {k:Nat} {a b:Value} {W:World} (h:BB w k #[a,b] W) (x y:Value):BB w k #[x,y] ((W.setCell ⟨k,0,none⟩ x).setCell ⟨k,1,none⟩ y):=⟨h.blk.put2 x y,h.lo,cT h.below h.lo x y⟩
theorem BB.put4 {w:World} {k:Nat} {a b c d:Value} {W:World} (h:BB w k #[a,b,c,d] W) (x y z u:Value):BB w k #[x,y,z,u] ((((W.setCell ⟨k,0,none⟩ x).setCell ⟨k,1,none⟩ y).setCell ⟨k,2,none⟩ z).setCell ⟨k,3,none⟩ u):=⟨h.blk.put4 x y z u,h.lo,bq h.below h.lo x y z u⟩
end
section
open Go.RowKit
theorem BK (s n d:ByteArray) (c2:Int) (f:Bool) (w:World)
  (hcut:CqB w 147 #[.string s] (.tuple #[.string n,.string d,.bool f]))
  (hk1:CqB w 150 #[.string n] (.int .i64 11))
  (hk2:CqB w 150 #[.string d] (.int .i64 c2)) :
  Calls Tryz.prog 106 #[.string s] w fun e W'=>e = .returned (.tuple #[.agg #[.string ⟨#[]⟩,.int .i64 0,.string ⟨#[]⟩,.int .i64 0],.int .i64 11])∧Below w.heap.size w W':=by
 have C:=Ha (Hb hcut (Hb hk1 (Hb hk2 trivial)));clear hcut hk1 hk2
 go_enter Tryz.func106,Tryz.ntmps106
 go_wp2_with fail
 have hb0:=Blk.new w #[.string ⟨#[]⟩,.int .i64 0,.string ⟨#[]⟩,.int .i64 0] 140
 have hB0:Below w.heap.size w (w.alloc (.cells #[.string ⟨#[]⟩,.int .i64 0,.string ⟨#[]⟩,.int .i64 0] 140)):=(Below.refl _ w).alloc (Nat.le_refl _) _
 generalize w.alloc (.cells #[.string ⟨#[]⟩,.int .i64 0,.string ⟨#[]⟩,.int .i64 0] 140)=W0 at *
 have H0:=Ha (Hb hb0 hB0);clear hb0 hB0
 refine (C.out.1 _ H0.out.2).mono ?_
 rintro e w1 ⟨rfl,b⟩
 have H1:=Ha (Hb (H0.out.1.next b) (H0.out.2.trans (b.mono H0.out.2.size)));clear b H0
 go_wp2_with fail
 refine (C.out.2.1 _ H1.out.2).mono ?_
 rintro e w2 ⟨rfl,b⟩
 have H2:=Ha (Hb (H1.out.1.next b) (H1.out.2.trans (b.mono H1.out.2.size)));clear b H1
 go_wp2_with fail
 refine (C.out.2.2.1 _ H2.out.2).mono ?_
 rintro e w3 ⟨rfl,b⟩
 have H3:=Ha (Hb (H2.out.1.next b) (H2.out.2.trans (b.mono H2.out.2.size)));clear b H2
 have q0:=H3.out.1.cell 0 (.string ⟨#[]⟩) rfl
 have q1:=H3.out.1.cell 1 (.int .i64 0) rfl
 have q2:=H3.out.1.cell 2 (.string ⟨#[]⟩) rfl
 have q3:=H3.out.1.cell 3 (.int .i64 0) rfl
 have f0:=H3.out.1.free 0
 have f1:=H3.out.1.free 1
 have f2:=H3.out.1.free 2
 have f3:=H3.out.1.free 3
 have HP:=Ha (H3.out.1.put4 (.string ⟨#[]⟩) (.int .i64 0) (.string ⟨#[]⟩) (.int .i64 0))
 have HL:=Ha (bq H3.out.2 (l:=w.heap.size) (Nat.le_refl _) (.string ⟨#[]⟩) (.int .i64 0) (.string ⟨#[]⟩) (.int .i64 0))
 have g0:=HP.out.cell 0 (.string ⟨#[]⟩) rfl
 have g1:=HP.out.cell 1 (.int .i64 0) rfl
 have g2:=HP.out.cell 2 (.string ⟨#[]⟩) rfl
 have g3:=HP.out.cell 3 (.int .i64 0) rfl
 go_wp2
 refine bodyPost_ret (v := .tuple #[.agg #[.string ⟨#[]⟩,.int .i64 0,.string ⟨#[]⟩,.int .i64 0],.int .i64 11]) (by simp [results,Tryz.results106,go_sem,g0,g1,g2,g3]) rfl ?_
 exact ⟨rfl,HL.out⟩
theorem BL (s n d:ByteArray) (c1:Int) (c2:Int) (w:World) (a1:(c1==11)=false) (a1':(c1 != 11)=true) (a2:(c2==11)=false) (a2':(c2 != 11)=true) (hp:0<d.size) (hp':(0:Int)<d.size) (hm:((d[0].toNat:Int)==45)=false) (hm':((d[0].toNat:Int) != 45)=true) (h0:(d.toList == [48])=false) (h0':(d.toList != [48])=true) (h1:(d.toList == [49])=true)
  (hcut:CqB w 147 #[.string s] (.tuple #[.string n,.string d,.bool true]))
  (hk1:CqB w 150 #[.string n] (.int .i64 c1))
  (hk2:CqB w 150 #[.string d] (.int .i64 c2)) :
  Calls Tryz.prog 106 #[.string s] w fun e W'=>e = .returned (.tuple #[.agg #[.string ⟨#[]⟩,.int .i64 0,.string ⟨#[]⟩,.int .i64 0],.int .i64 11])∧Below w.heap.size w W':=by
 have C:=Ha (Hb hcut (Hb hk1 (Hb hk2 trivial)));clear hcut hk1 hk2
 go_enter Tryz.func106,Tryz.ntmps106
 go_wp2_with fail
 have hb0:=Blk.new w #[.string ⟨#[]⟩,.int .i64 0,.string ⟨#[]⟩,.int .i64 0] 140
 have hB0:Below w.heap.size w (w.alloc (.cells #[.string ⟨#[]⟩,.int .i64 0,.string ⟨#[]⟩,.int .i64 0] 140)):=(Below.refl _ w).alloc (Nat.le_refl _) _
 generalize w.alloc (.cells #[.string ⟨#[]⟩,.int .i64 0,.string ⟨#[]⟩,.int .i64 0] 140)=W0 at *
 have H0:=Ha (Hb hb0 hB0);clear hb0 hB0
 refine (C.out.1 _ H0.out.2).mono ?_
 rintro e w1 ⟨rfl,b⟩
 have H1:=Ha (Hb (H0.out.1.next b) (H0.out.2.trans (b.mono H0.out.2.size)));clear b H0
 go_wp2_with fail
 refine (C.out.2.1 _ H1.out.2).mono ?_
 rintro e w2 ⟨rfl,b⟩
 have H2:=Ha (Hb (H1.out.1.next b) (H1.out.2.trans (b.mono H1.out.2.size)));clear b H1
 go_wp2_with fail
 refine (C.out.2.2.1 _ H2.out.2).mono ?_
 rintro e w3 ⟨rfl,b⟩
 have H3:=Ha (Hb (H2.out.1.next b) (H2.out.2.trans (b.mono H2.out.2.size)));clear b H2
 have q0:=H3.out.1.cell 0 (.string ⟨#[]⟩) rfl
 have q1:=H3.out.1.cell 1 (.int .i64 0) rfl
 have q2:=H3.out.1.cell 2 (.string ⟨#[]⟩) rfl
 have q3:=H3.out.1.cell 3 (.int .i64 0) rfl
 have f0:=H3.out.1.free 0
 have f1:=H3.out.1.free 1
 have f2:=H3.out.1.free 2
 have f3:=H3.out.1.free 3
 have HP:=Ha (H3.out.1.put4 (.string ⟨#[]⟩) (.int .i64 0) (.string ⟨#[]⟩) (.int .i64 0))
 have HL:=Ha (bq H3.out.2 (l:=w.heap.size) (Nat.le_refl _) (.string ⟨#[]⟩) (.int .i64 0) (.string ⟨#[]⟩) (.int .i64 0))
 have g0:=HP.out.cell 0 (.string ⟨#[]⟩) rfl
 have g1:=HP.out.cell 1 (.int .i64 0) rfl
 have g2:=HP.out.cell 2 (.string ⟨#[]⟩) rfl
 have g3:=HP.out.cell 3 (.int .i64 0) rfl
 go_wp2
 refine bodyPost_ret (v := .tuple #[.agg #[.string ⟨#[]⟩,.int .i64 0,.string ⟨#[]⟩,.int .i64 0],.int .i64 11]) (by simp [results,Tryz.results106,go_sem,g0,g1,g2,g3]) rfl ?_
 exact ⟨rfl,HL.out⟩
theorem A2 (s n d:ByteArray) (c2:Int) (w:World) (a2:(c2==11)=false) (a2':(c2 != 11)=true) (hp:0<d.size) (hp':(0:Int)<d.size) (hm:((d[0].toNat:Int)==45)=false) (hm':((d[0].toNat:Int) != 45)=true) (h0:(d.toList == [48])=false) (h0':(d.toList != [48])=true) (h1:(d.toList == [49])=false) (b2:(c2==0)=false) (b2':(c2 != 0)=true)
  (hcut:CqB w 147 #[.string s] (.tuple #[.string n,.string d,.bool true]))
  (hk1:CqB w 150 #[.string n] (.int .i64 0))
  (hk2:CqB w 150 #[.string d] (.int .i64 c2)) :
  Calls Tryz.prog 106 #[.string s] w fun e W'=>e = .returned (.tuple #[.agg #[.string ⟨#[]⟩,.int .i64 0,.string ⟨#[]⟩,.int .i64 0],.int .i64 4])∧Below w.heap.size w W':=by
 have C:=Ha (Hb hcut (Hb hk1 (Hb hk2 trivial)));clear hcut hk1 hk2
 go_enter Tryz.func106,Tryz.ntmps106
 go_wp2_with fail
 have hb0:=Blk.new w #[.string ⟨#[]⟩,.int .i64 0,.string ⟨#[]⟩,.int .i64 0] 140
 have hB0:Below w.heap.size w (w.alloc (.cells #[.string ⟨#[]⟩,.int .i64 0,.string ⟨#[]⟩,.int .i64 0] 140)):=(Below.refl _ w).alloc (Nat.le_refl _) _
 generalize w.alloc (.cells #[.string ⟨#[]⟩,.int .i64 0,.string ⟨#[]⟩,.int .i64 0] 140)=W0 at *
 have H0:=Ha (Hb hb0 hB0);clear hb0 hB0
 refine (C.out.1 _ H0.out.2).mono ?_
 rintro e w1 ⟨rfl,b⟩
 have H1:=Ha (Hb (H0.out.1.next b) (H0.out.2.trans (b.mono H0.out.2.size)));clear b H0
 go_wp2_with fail
 refine (C.out.2.1 _ H1.out.2).mono ?_
 rintro e w2 ⟨rfl,b⟩
 have H2:=Ha (Hb (H1.out.1.next b) (H1.out.2.trans (b.mono H1.out.2.size)));clear b H1
 go_wp2_with fail
 refine (C.out.2.2.1 _ H2.out.2).mono ?_
 rintro e w3 ⟨rfl,b⟩
 have H3:=Ha (Hb (H2.out.1.next b) (H2.out.2.trans (b.mono H2.out.2.size)));clear b H2
 have q0:=H3.out.1.cell 0 (.string ⟨#[]⟩) rfl
 have q1:=H3.out.1.cell 1 (.int .i64 0) rfl
 have q2:=H3.out.1.cell 2 (.string ⟨#[]⟩) rfl
 have q3:=H3.out.1.cell 3 (.int .i64 0) rfl
 have f0:=H3.out.1.free 0
 have f1:=H3.out.1.free 1
 have f2:=H3.out.1.free 2
 have f3:=H3.out.1.free 3
 have HP:=Ha (H3.out.1.put4 (.string ⟨#[]⟩) (.int .i64 0) (.string ⟨#[]⟩) (.int .i64 0))
 have HL:=Ha (bq H3.out.2 (l:=w.heap.size) (Nat.le_refl _) (.string ⟨#[]⟩) (.int .i64 0) (.string ⟨#[]⟩) (.int .i64 0))
 have g0:=HP.out.cell 0 (.string ⟨#[]⟩) rfl
 have g1:=HP.out.cell 1 (.int .i64 0) rfl
 have g2:=HP.out.cell 2 (.string ⟨#[]⟩) rfl
 have g3:=HP.out.cell 3 (.int .i64 0) rfl
 go_wp2
 refine bodyPost_ret (v := .tuple #[.agg #[.string ⟨#[]⟩,.int .i64 0,.string ⟨#[]⟩,.int .i64 0],.int .i64 4]) (by simp [results,Tryz.results106,go_sem,g0,g1,g2,g3]) rfl ?_
 exact ⟨rfl,HL.out⟩
theorem BM (s n d:ByteArray) (c1:Int) (f:Bool) (w:World) (a1:(c1==11)=false) (a1':(c1 != 11)=true)
  (hcut:CqB w 147 #[.string s] (.tuple #[.string n,.string d,.bool f]))
  (hk1:CqB w 150 #[.string n] (.int .i64 c1))
  (hk2:CqB w 150 #[.string d] (.int .i64 11)) :
  Calls Tryz.prog 106 #[.string s] w fun e W'=>e = .returned (.tuple #[.agg #[.string ⟨#[]⟩,.int .i64 0,.string ⟨#[]⟩,.int .i64 0],.int .i64 11])∧Below w.heap.size w W':=by
 have C:=Ha (Hb hcut (Hb hk1 (Hb hk2 trivial)));clear hcut hk1 hk2
 go_enter Tryz.func106,Tryz.ntmps106
 go_wp2_with fail
 have hb0:=Blk.new w #[.string ⟨#[]⟩,.int .i64 0,.string ⟨#[]⟩,.int .i64 0] 140
 have hB0:Below w.heap.size w (w.alloc (.cells #[.string ⟨#[]⟩,.int .i64 0,.string ⟨#[]⟩,.int .i64 0] 140)):=(Below.refl _ w).alloc (Nat.le_refl _) _
 generalize w.alloc (.cells #[.string ⟨#[]⟩,.int .i64 0,.string ⟨#[]⟩,.int .i64 0] 140)=W0 at *
 have H0:=Ha (Hb hb0 hB0);clear hb0 hB0
 refine (C.out.1 _ H0.out.2).mono ?_
 rintro e w1 ⟨rfl,b⟩
 have H1:=Ha (Hb (H0.out.1.next b) (H0.out.2.trans (b.mono H0.out.2.size)));clear b H0
 go_wp2_with fail
 refine (C.out.2.1 _ H1.out.2).mono ?_
 rintro e w2 ⟨rfl,b⟩
 have H2:=Ha (Hb (H1.out.1.next b) (H1.out.2.trans (b.mono H1.out.2.size)));clear b H1
 go_wp2_with fail
 refine (C.out.2.2.1 _ H2.out.2).mono ?_
 rintro e w3 ⟨rfl,b⟩
 have H3:=Ha (Hb (H2.out.1.next b) (H2.out.2.trans (b.mono H2.out.2.size)));clear b H2
 have q0:=H3.out.1.cell 0 (.string ⟨#[]⟩) rfl
 have q1:=H3.out.1.cell 1 (.int .i64 0) rfl
 have q2:=H3.out.1.cell 2 (.string ⟨#[]⟩) rfl
 have q3:=H3.out.1.cell 3 (.int .i64 0) rfl
 have f0:=H3.out.1.free 0
 have f1:=H3.out.1.free 1
 have f2:=H3.out.1.free 2
 have f3:=H3.out.1.free 3
 have HP:=Ha (H3.out.1.put4 (.string ⟨#[]⟩) (.int .i64 0) (.string ⟨#[]⟩) (.int .i64 0))
 have HL:=Ha (bq H3.out.2 (l:=w.heap.size) (Nat.le_refl _) (.string ⟨#[]⟩) (.int .i64 0) (.string ⟨#[]⟩) (.int .i64 0))
 have g0:=HP.out.cell 0 (.string ⟨#[]⟩) rfl
 have g1:=HP.out.cell 1 (.int .i64 0) rfl
 have g2:=HP.out.cell 2 (.string ⟨#[]⟩) rfl
 have g3:=HP.out.cell 3 (.int .i64 0) rfl
 go_wp2
 refine bodyPost_ret (v := .tuple #[.agg #[.string ⟨#[]⟩,.int .i64 0,.string ⟨#[]⟩,.int .i64 0],.int .i64 11]) (by simp [results,Tryz.results106,go_sem,g0,g1,g2,g3]) rfl ?_
 exact ⟨rfl,HL.out⟩
theorem A3 (s n d:ByteArray) (c1:Int) (c2:Int) (w:World) (a1:(c1==11)=false) (a1':(c1 != 11)=true) (a2:(c2==11)=false) (a2':(c2 != 11)=true) (hp:0<d.size) (hp':(0:Int)<d.size) (hm:((d[0].toNat:Int)==45)=false) (hm':((d[0].toNat:Int) != 45)=true) (h0:(d.toList == [48])=false) (h0':(d.toList != [48])=true) (b1:(c1==0)=false) (b1':(c1 != 0)=true)
  (hcut:CqB w 147 #[.string s] (.tuple #[.string n,.string d,.bool false]))
  (hk1:CqB w 150 #[.string n] (.int .i64 c1))
  (hk2:CqB w 150 #[.string d] (.int .i64 c2)) :
  Calls Tryz.prog 106 #[.string s] w fun e W'=>e = .returned (.tuple #[.agg #[.string ⟨#[]⟩,.int .i64 0,.string ⟨#[]⟩,.int .i64 0],.int .i64 4])∧Below w.heap.size w W':=by
 have C:=Ha (Hb hcut (Hb hk1 (Hb hk2 trivial)));clear hcut hk1 hk2
 go_enter Tryz.func106,Tryz.ntmps106
 go_wp2_with fail
 have hb0:=Blk.new w #[.string ⟨#[]⟩,.int .i64 0,.string ⟨#[]⟩,.int .i64 0] 140
 have hB0:Below w.heap.size w (w.alloc (.cells #[.string ⟨#[]⟩,.int .i64 0,.string ⟨#[]⟩,.int .i64 0] 140)):=(Below.refl _ w).alloc (Nat.le_refl _) _
 generalize w.alloc (.cells #[.string ⟨#[]⟩,.int .i64 0,.string ⟨#[]⟩,.int .i64 0] 140)=W0 at *
 have H0:=Ha (Hb hb0 hB0);clear hb0 hB0
 refine (C.out.1 _ H0.out.2).mono ?_
 rintro e w1 ⟨rfl,b⟩
 have H1:=Ha (Hb (H0.out.1.next b) (H0.out.2.trans (b.mono H0.out.2.size)));clear b H0
 go_wp2_with fail
 refine (C.out.2.1 _ H1.out.2).mono ?_
 rintro e w2 ⟨rfl,b⟩
 have H2:=Ha (Hb (H1.out.1.next b) (H1.out.2.trans (b.mono H1.out.2.size)));clear b H1
 go_wp2_with fail
 refine (C.out.2.2.1 _ H2.out.2).mono ?_
 rintro e w3 ⟨rfl,b⟩
 have H3:=Ha (Hb (H2.out.1.next b) (H2.out.2.trans (b.mono H2.out.2.size)));clear b H2
 have q0:=H3.out.1.cell 0 (.string ⟨#[]⟩) rfl
 have q1:=H3.out.1.cell 1 (.int .i64 0) rfl
 have q2:=H3.out.1.cell 2 (.string ⟨#[]⟩) rfl
 have q3:=H3.out.1.cell 3 (.int .i64 0) rfl
 have f0:=H3.out.1.free 0
 have f1:=H3.out.1.free 1
 have f2:=H3.out.1.free 2
 have f3:=H3.out.1.free 3
 have HP:=Ha (H3.out.1.put4 (.string ⟨#[]⟩) (.int .i64 0) (.string ⟨#[]⟩) (.int .i64 0))
 have HL:=Ha (bq H3.out.2 (l:=w.heap.size) (Nat.le_refl _) (.string ⟨#[]⟩) (.int .i64 0) (.string ⟨#[]⟩) (.int .i64 0))
 have g0:=HP.out.cell 0 (.string ⟨#[]⟩) rfl
 have g1:=HP.out.cell 1 (.int .i64 0) rfl
 have g2:=HP.out.cell 2 (.string ⟨#[]⟩) rfl
 have g3:=HP.out.cell 3 (.int .i64 0) rfl
 go_wp2
 refine bodyPost_ret (v := .tuple #[.agg #[.string ⟨#[]⟩,.int .i64 0,.string ⟨#[]⟩,.int .i64 0],.int .i64 4]) (by simp [results,Tryz.results106,go_sem,g0,g1,g2,g3]) rfl ?_
 exact ⟨rfl,HL.out⟩
theorem A4 (s n d:ByteArray) (w:World) (hp:0<d.size) (hp':(0:Int)<d.size) (hm:((d[0].toNat:Int)==45)=false) (hm':((d[0].toNat:Int) != 45)=true) (h0:(d.toList == [48])=false) (h0':(d.toList != [48])=true)
  (hcut:CqB w 147 #[.string s] (.tuple #[.string n,.string d,.bool false]))
  (hk1:CqB w 150 #[.string n] (.int .i64 0))
  (hk2:CqB w 150 #[.string d] (.int .i64 0)) :
  Calls Tryz.prog 106 #[.string s] w fun e W'=>e = .returned (.tuple #[.agg #[.string n,.int .i64 0,.string d,.int .i64 0],.int .i64 0])∧Below w.heap.size w W':=by
 have C:=Ha (Hb hcut (Hb hk1 (Hb hk2 trivial)));clear hcut hk1 hk2
 go_enter Tryz.func106,Tryz.ntmps106
 go_wp2_with fail
 have hb0:=Blk.new w #[.string ⟨#[]⟩,.int .i64 0,.string ⟨#[]⟩,.int .i64 0] 140
 have hB0:Below w.heap.size w (w.alloc (.cells #[.string ⟨#[]⟩,.int .i64 0,.string ⟨#[]⟩,.int .i64 0] 140)):=(Below.refl _ w).alloc (Nat.le_refl _) _
 generalize w.alloc (.cells #[.string ⟨#[]⟩,.int .i64 0,.string ⟨#[]⟩,.int .i64 0] 140)=W0 at *
 have H0:=Ha (Hb hb0 hB0);clear hb0 hB0
 refine (C.out.1 _ H0.out.2).mono ?_
 rintro e w1 ⟨rfl,b⟩
 have H1:=Ha (Hb (H0.out.1.next b) (H0.out.2.trans (b.mono H0.out.2.size)));clear b H0
 go_wp2_with fail
 refine (C.out.2.1 _ H1.out.2).mono ?_
 rintro e w2 ⟨rfl,b⟩
 have H2:=Ha (Hb (H1.out.1.next b) (H1.out.2.trans (b.mono H1.out.2.size)));clear b H1
 go_wp2_with fail
 refine (C.out.2.2.1 _ H2.out.2).mono ?_
 rintro e w3 ⟨rfl,b⟩
 have H3:=Ha (Hb (H2.out.1.next b) (H2.out.2.trans (b.mono H2.out.2.size)));clear b H2
 have H4:=Ha (show Blk (w3.alloc (.cells #[.string n,.int .i64 0,.string d,.int .i64 0] 140)) w.heap.size #[.string ⟨#[]⟩,.int .i64 0,.string ⟨#[]⟩,.int .i64 0]∧Below w.heap.size w (w3.alloc (.cells #[.string n,.int .i64 0,.string d,.int .i64 0] 140))∧Blk (w3.alloc (.cells #[.string n,.int .i64 0,.string d,.int .i64 0] 140)) w3.heap.size #[.string n,.int .i64 0,.string d,.int .i64 0]∧w.heap.size<w3.heap.size from ⟨H3.out.1.alloc _,H3.out.2.alloc H3.out.2.size _,Blk.new w3 _ _,H3.out.1.lt⟩)
 have e0:=H4.out.2.2.1.cell 0 (.string n) rfl
 have e1:=H4.out.2.2.1.cell 1 (.int .i64 0) rfl
 have e2:=H4.out.2.2.1.cell 2 (.string d) rfl
 have e3:=H4.out.2.2.1.cell 3 (.int .i64 0) rfl
 have H5:=Ha (Hb H4.out.1 H4.out.2.1);clear H4
 have q0:=H5.out.1.cell 0 (.string ⟨#[]⟩) rfl
 have q1:=H5.out.1.cell 1 (.int .i64 0) rfl
 have q2:=H5.out.1.cell 2 (.string ⟨#[]⟩) rfl
 have q3:=H5.out.1.cell 3 (.int .i64 0) rfl
 have f0:=H5.out.1.free 0
 have f1:=H5.out.1.free 1
 have f2:=H5.out.1.free 2
 have f3:=H5.out.1.free 3
 have HP:=Ha (H5.out.1.put4 (.string n) (.int .i64 0) (.string d) (.int .i64 0))
 have HL:=Ha (bq H5.out.2 (l:=w.heap.size) (Nat.le_refl _) (.string n) (.int .i64 0) (.string d) (.int .i64 0))
 have g0:=HP.out.cell 0 (.string n) rfl
 have g1:=HP.out.cell 1 (.int .i64 0) rfl
 have g2:=HP.out.cell 2 (.string d) rfl
 have g3:=HP.out.cell 3 (.int .i64 0) rfl
 go_wp2
 refine bodyPost_ret (v := .tuple #[.agg #[.string n,.int .i64 0,.string d,.int .i64 0],.int .i64 0]) (by simp [results,Tryz.results106,go_sem,g0,g1,g2,g3]) rfl ?_
 exact ⟨rfl,HL.out⟩
end
end Go.Proofs.YtjdomibbaemdnaaGreatDoor
