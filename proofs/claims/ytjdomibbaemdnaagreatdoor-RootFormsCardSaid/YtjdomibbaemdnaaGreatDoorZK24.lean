/- Parts of the proof of the text YtjdomibbaemdnaaGreatDoorZK42. -/
import Derived.Lib.AtoiAllCases
import Derived.Lib.SmallJoins
import Derived.RangeFuncNested
import Derived.RangeFuncBound
import Derived.RangeFuncCalls
import Derived.RangeFuncLeaves
import Derived.RangeFuncBox
import Derived.Shelf.Abstract
import Derived.OwnWalkIn
import Derived.TacticsInMore
import Derived.LoopNIn
import Derived.LoopIn
import Derived.Test.YtjdomibbaemdnaaGreatDoorZK1
import Derived.Test.YtjdomibbaemdnaaGreatDoorZK18
import Derived.Test.YtjdomibbaemdnaaGreatDoorZK2
import Derived.Test.YtjdomibbaemdnaaGreatDoorZK23
import Derived.Test.YtjdomibbaemdnaaGreatDoorZK8
set_option linter.all false
set_option maxRecDepth 100000
set_option maxHeartbeats 8000000
namespace Go.Proofs.YtjdomibbaemdnaaGreatDoor
namespace T
open Go.Proofs.YtjdomibbaemdnaaGreatDoor Go.RowKit Go.Lib
theorem mW (l:List UInt8):Lib.hasPrefix l [45]=ap l:=by
 unfold Lib.hasPrefix ap
 cases l with
 | nil=>rfl
 | cons a t=>simp [List.isPrefixOf];exact BEq.comm
theorem wl (l:List UInt8):Lib.trimPrefix l [45]=szL l:=by
 unfold Lib.trimPrefix szL
 rw [mW]
 cases ap l <;> simp
def szB (s:ByteArray):ByteArray:=⟨(szL s.data.toList).toArray⟩
theorem tR (z:Int):szB (aa z)=aa (z.natAbs:Nat):=by
 apply aY
 unfold szB
 rw [ay,ay]
 show szL (itoa z)=itoa _
 rw [gu,Lib.itoa_nonneg]
theorem dU {w:World} {k j o:Nat} {a b:Value} (hne:j≠k) {v:Value} (h:w.cell? ⟨k,o,none⟩=some v):((w.setCell ⟨j,0,none⟩ a).setCell ⟨j,1,none⟩ b).cell? ⟨k,o,none⟩=some v:=by
 have hh:∀ (W:World) (o':Nat) (u:Value),(W.setCell ⟨j,o',none⟩ u).cell? ⟨k,o,none⟩=W.cell? ⟨k,o,none⟩:=fun W o' u=>World.cell?_of_block (Below.heap_setCell _ _ _ _ (by show k≠j;omega))
 rw [hh,hh];exact h
theorem yo {w:World} {b:Nat} {x0 x1:Value} (c0:w.cell? ⟨b,0,none⟩=some x0) (c1:w.cell? ⟨b,1,none⟩=some x1) (X Y:Value) :
  ((w.setCell ⟨b,0,none⟩ X).setCell ⟨b,1,none⟩ Y).cell? ⟨b,0,none⟩=some X∧((w.setCell ⟨b,0,none⟩ X).setCell ⟨b,1,none⟩ Y).cell? ⟨b,1,none⟩=some Y:=by
 refine ⟨by go_cell,by go_cell⟩
theorem qV (s:ByteArray) (w:World) :
  Calls Tryz.prog 57 #[.string s] w fun e W'=>e = .returned (.bool (ap s.data.toList))∧Below w.heap.size w W':=by
 have c:=fun W=>Tryz.strings_HasPrefix s ⟨#[45]⟩ W
 rw [show (⟨#[45]⟩:ByteArray).data.toList = [45] from rfl,mW] at c
 have C:=Ha c;clear c
 generalize ap s.data.toList=b at *
 go_enter Tryz.func57,Tryz.ntmps57
 go_wp2_with fail
 refine (C.out _).mono ?_
 rintro e w' ⟨rfl,rfl⟩
 go_wp2
 go_ret
 exact ⟨rfl,Below.refl _ _⟩
theorem sB (s:ByteArray) (w:World) (hs:s.size≤maxLen) :
  Calls Tryz.prog 25 #[.string s] w fun e W'=>e = .returned (.agg #[.string (bN s),.string (bD s)])∧Below w.heap.size w W':=by
 have C:=Ha (fun W=>mO s W hs)
 clear hs
 cases h:bI s.data.toList
 ·obtain ⟨e1,e2⟩:=sf h
  rw [e1,h] at C
  rw [e1,e2]
  clear e1 e2 h
  generalize bA s=d at *
  go_enter Tryz.func25,Tryz.ntmps25
  go_wp2_with fail
  have hbx:Bxs w w.heap.size [[.string ⟨#[]⟩,.string ⟨#[]⟩]] (w.alloc (.cells #[.string ⟨#[]⟩,.string ⟨#[]⟩] 47)):=((Bxs.nil w w (Below.refl _ _)).push rfl [.string ⟨#[]⟩,.string ⟨#[]⟩] 47)
  generalize (w.alloc (.cells #[.string ⟨#[]⟩,.string ⟨#[]⟩] 47))=W0 at *
  generalize hk:w.heap.size=k at *
  have HK:=Ha hk;clear hk
  have HB:=Ha hbx
  clear hbx
  have e00:=(show World.cell? _ ⟨k,0,none⟩=some (.string ⟨#[]⟩) from HB.out.cells 0 _ rfl 0 _ rfl)
  have f00:=(show World.frozen? _ ⟨k,0,none⟩=false from HB.out.frozen 0 (by simp) 0)
  have e01:=(show World.cell? _ ⟨k,1,none⟩=some (.string ⟨#[]⟩) from HB.out.cells 0 _ rfl 1 _ rfl)
  have f01:=(show World.frozen? _ ⟨k,1,none⟩=false from HB.out.frozen 0 (by simp) 1)
  refine (C.out _).mono ?_
  rintro e w' ⟨rfl,b⟩
  replace HB:=Ha (HB.out.next b);clear b;have e00:=(show World.cell? _ ⟨k,0,none⟩=some (.string ⟨#[]⟩) from HB.out.cells 0 _ rfl 0 _ rfl);have f00:=(show World.frozen? _ ⟨k,0,none⟩=false from HB.out.frozen 0 (by simp) 0);have e01:=(show World.cell? _ ⟨k,1,none⟩=some (.string ⟨#[]⟩) from HB.out.cells 0 _ rfl 1 _ rfl);have f01:=(show World.frozen? _ ⟨k,1,none⟩=false from HB.out.frozen 0 (by simp) 1)
  obtain ⟨g0,g1⟩:=yo e00 e01 (.string s) (.string ⟨#[49]⟩)
  go_wp2
  refine bodyPost_ret (v := .agg #[.string s,.string ⟨#[49]⟩]) (by simp [results,Tryz.results25,go_sem,g0,g1]) rfl ?_
  refine ⟨rfl,?_⟩
  have hbl:=HB.out.below
  rw [HK.out] at hbl ⊢
  exact cT hbl (by omega) _ _
 ·rw [show bA s=bD s by unfold bA;rw [h];rfl,h] at C
  clear h
  generalize bN s=n at *
  generalize bD s=d at *
  go_enter Tryz.func25,Tryz.ntmps25
  go_wp2_with fail
  have hbx:Bxs w w.heap.size [[.string ⟨#[]⟩,.string ⟨#[]⟩]] (w.alloc (.cells #[.string ⟨#[]⟩,.string ⟨#[]⟩] 47)):=((Bxs.nil w w (Below.refl _ _)).push rfl [.string ⟨#[]⟩,.string ⟨#[]⟩] 47)
  generalize (w.alloc (.cells #[.string ⟨#[]⟩,.string ⟨#[]⟩] 47))=W0 at *
  generalize hk:w.heap.size=k at *
  have HK:=Ha hk;clear hk
  have HB:=Ha hbx
  clear hbx
  have e00:=(show World.cell? _ ⟨k,0,none⟩=some (.string ⟨#[]⟩) from HB.out.cells 0 _ rfl 0 _ rfl)
  have f00:=(show World.frozen? _ ⟨k,0,none⟩=false from HB.out.frozen 0 (by simp) 0)
  have e01:=(show World.cell? _ ⟨k,1,none⟩=some (.string ⟨#[]⟩) from HB.out.cells 0 _ rfl 1 _ rfl)
  have f01:=(show World.frozen? _ ⟨k,1,none⟩=false from HB.out.frozen 0 (by simp) 1)
  refine (C.out _).mono ?_
  rintro e w' ⟨rfl,b⟩
  replace HB:=Ha (HB.out.next b);clear b;have e00:=(show World.cell? _ ⟨k,0,none⟩=some (.string ⟨#[]⟩) from HB.out.cells 0 _ rfl 0 _ rfl);have f00:=(show World.frozen? _ ⟨k,0,none⟩=false from HB.out.frozen 0 (by simp) 0);have e01:=(show World.cell? _ ⟨k,1,none⟩=some (.string ⟨#[]⟩) from HB.out.cells 0 _ rfl 1 _ rfl);have f01:=(show World.frozen? _ ⟨k,1,none⟩=false from HB.out.frozen 0 (by simp) 1)
  obtain ⟨g0,g1⟩:=yo e00 e01 (.string n) (.string d)
  go_wp2
  refine bodyPost_ret (v := .agg #[.string n,.string d]) (by simp [results,Tryz.results25,go_sem,g0,g1]) rfl ?_
  refine ⟨rfl,?_⟩
  have hbl:=HB.out.below
  rw [HK.out] at hbl ⊢
  exact cT hbl (by omega) _ _
theorem pC (a b:ByteArray) (w:World) :
  Calls Tryz.prog 88 #[.agg #[.string a,.string b]] w fun e W'=>e = .returned (.agg #[.string b,.string a])∧Below w.heap.size w W':=by
 go_enter Tryz.func88,Tryz.ntmps88
 go_wp2
 refine bodyPost_ret (v := .agg #[.string b,.string a]) (by simp [results,Tryz.results88,go_sem]) rfl ?_
 exact ⟨rfl,by go_grown⟩
theorem zT (a b c d:Int) (w:World) (ha:short a) (hb:short b) (hc:short c) (hd:short d) (h1:short (a*c)) (h2:short (b*d)) (ht:Tab w) :
  Calls Tryz.prog 76 #[.agg #[.string (aa a),.string (aa b)],.agg #[.string (aa c),.string (aa d)]] w fun e W'=>e = .returned (.agg #[.string (aa (a*c)),.string (aa (b*d))])∧Below w.heap.size w W':=by
 have ct:=fun x y W (hx:short x) (hy:short y) (hz:short (x*y)) (hW:Below w.heap.size w W)=>sA x y W hx hy hz (ht.next hW)
 have C:=Ha ct;clear ct ht
 go_enter Tryz.func76,Tryz.ntmps76
 go_wp2
 have hbx:Bxs w w.heap.size [[.string (aa a),.string (aa b)],[.string (aa c),.string (aa d)],[.string ⟨#[]⟩,.string ⟨#[]⟩]] (((w.alloc (.cells #[.string (aa a),.string (aa b)] 47)).alloc (.cells #[.string (aa c),.string (aa d)] 47)).alloc (.cells #[.string ⟨#[]⟩,.string ⟨#[]⟩] 47)):=((((Bxs.nil w w (Below.refl _ _)).push rfl [.string (aa a),.string (aa b)] 47).push (by simp) [.string (aa c),.string (aa d)] 47).push (by simp) [.string ⟨#[]⟩,.string ⟨#[]⟩] 47)
 generalize (((w.alloc (.cells #[.string (aa a),.string (aa b)] 47)).alloc (.cells #[.string (aa c),.string (aa d)] 47)).alloc (.cells #[.string ⟨#[]⟩,.string ⟨#[]⟩] 47))=W0 at *
 generalize hk:w.heap.size=k at *
 have HK:=Ha hk;clear hk
 have HB:=Ha (hbx.next (Below.refl _ _).drew)
 clear hbx
 have e00:=(show World.cell? _ ⟨k,0,none⟩=some (.string (aa a)) from HB.out.cells 0 _ rfl 0 _ rfl)
 have e01:=(show World.cell? _ ⟨k,1,none⟩=some (.string (aa b)) from HB.out.cells 0 _ rfl 1 _ rfl)
 have e10:=(show World.cell? _ ⟨k+1,0,none⟩=some (.string (aa c)) from HB.out.cells 1 _ rfl 0 _ rfl)
 have e11:=(show World.cell? _ ⟨k+1,1,none⟩=some (.string (aa d)) from HB.out.cells 1 _ rfl 1 _ rfl)
 have e20:=(show World.cell? _ ⟨k+1+1,0,none⟩=some (.string ⟨#[]⟩) from HB.out.cells 2 _ rfl 0 _ rfl)
 have f20:=(show World.frozen? _ ⟨k+1+1,0,none⟩=false from HB.out.frozen 2 (by simp) 0)
 have e21:=(show World.cell? _ ⟨k+1+1,1,none⟩=some (.string ⟨#[]⟩) from HB.out.cells 2 _ rfl 1 _ rfl)
 have f21:=(show World.frozen? _ ⟨k+1+1,1,none⟩=false from HB.out.frozen 2 (by simp) 1)
 go_region_held3 (fun w'=>w'.cell? ⟨k,0,none⟩=some (.string (aa a))∧w'.cell? ⟨k,1,none⟩=some (.string (aa b))∧w'.cell? ⟨k+1,0,none⟩=some (.string (aa c))∧w'.cell? ⟨k+1,1,none⟩=some (.string (aa d))) (first | exact ⟨e00,e01,e10,e11⟩ | (go_keep;done) | ((try dsimp only);(refine ⟨?_,?_,?_,?_⟩ <;> (exact dU (by omega) (by assumption)))))
  (first | (go_at_call 60;refine (C.out _ _ _ (by assumption) (by assumption) (by assumption) (by have:=HB.out.below;rwa [HK.out] at this)).mono ?_;rintro e w1 ⟨rfl,b⟩;replace HB:=Ha (HB.out.next b);clear b;have e00:=(show World.cell? _ ⟨k,0,none⟩=some (.string (aa a)) from HB.out.cells 0 _ rfl 0 _ rfl);have e01:=(show World.cell? _ ⟨k,1,none⟩=some (.string (aa b)) from HB.out.cells 0 _ rfl 1 _ rfl);have e10:=(show World.cell? _ ⟨k+1,0,none⟩=some (.string (aa c)) from HB.out.cells 1 _ rfl 0 _ rfl);have e11:=(show World.cell? _ ⟨k+1,1,none⟩=some (.string (aa d)) from HB.out.cells 1 _ rfl 1 _ rfl);have e20:=(show World.cell? _ ⟨k+1+1,0,none⟩=some (.string ⟨#[]⟩) from HB.out.cells 2 _ rfl 0 _ rfl);have f20:=(show World.frozen? _ ⟨k+1+1,0,none⟩=false from HB.out.frozen 2 (by simp) 0);have e21:=(show World.cell? _ ⟨k+1+1,1,none⟩=some (.string ⟨#[]⟩) from HB.out.cells 2 _ rfl 1 _ rfl);have f21:=(show World.frozen? _ ⟨k+1+1,1,none⟩=false from HB.out.frozen 2 (by simp) 1)))
 have e00:=(show World.cell? _ ⟨k,0,none⟩=some (.string (aa a)) from HB.out.cells 0 _ rfl 0 _ rfl)
 have e01:=(show World.cell? _ ⟨k,1,none⟩=some (.string (aa b)) from HB.out.cells 0 _ rfl 1 _ rfl)
 have e10:=(show World.cell? _ ⟨k+1,0,none⟩=some (.string (aa c)) from HB.out.cells 1 _ rfl 0 _ rfl)
 have e11:=(show World.cell? _ ⟨k+1,1,none⟩=some (.string (aa d)) from HB.out.cells 1 _ rfl 1 _ rfl)
 have e20:=(show World.cell? _ ⟨k+1+1,0,none⟩=some (.string ⟨#[]⟩) from HB.out.cells 2 _ rfl 0 _ rfl)
 have f20:=(show World.frozen? _ ⟨k+1+1,0,none⟩=false from HB.out.frozen 2 (by simp) 0)
 have e21:=(show World.cell? _ ⟨k+1+1,1,none⟩=some (.string ⟨#[]⟩) from HB.out.cells 2 _ rfl 1 _ rfl)
 have f21:=(show World.frozen? _ ⟨k+1+1,1,none⟩=false from HB.out.frozen 2 (by simp) 1)
 obtain ⟨g0,g1⟩:=yo e20 e21 (.string (aa (a*c))) (.string (aa (b*d)))
 go_wp2
 refine bodyPost_ret (v := .agg #[.string (aa (a*c)),.string (aa (b*d))]) (by simp [results,Tryz.results76,go_sem,g0,g1]) rfl ?_
 refine ⟨rfl,?_⟩
 have hbl:=HB.out.below
 rw [HK.out] at hbl ⊢
 exact cT hbl (by omega) _ _
theorem pD (a:ByteArray) (w:World) :
  Calls Tryz.prog 43 #[.agg #[.string a,.string ⟨#[49]⟩]] w fun e W'=>e = .returned (.string a)∧Below w.heap.size w W':=by
 go_enter Tryz.func43,Tryz.ntmps43
 go_wp2
 go_ret
 exact ⟨rfl,by go_grown⟩
theorem qW (a b:ByteArray) (w:World) (hb:(b.toList == [49])=false) (h1:a.size≤301) (h2:b.size≤301) :
  Calls Tryz.prog 43 #[.agg #[.string a,.string b]] w fun e W'=>e = .returned (.string (a++⟨#[47]⟩++b))∧Below w.heap.size w W':=by
 go_enter Tryz.func43,Tryz.ntmps43
 go_wp2
 go_ret
 exact ⟨rfl,by go_grown⟩
theorem sC (a b:Int):(⟨(Lib.itoa a++47::Lib.itoa b).toArray⟩:ByteArray)=aa a++⟨#[47]⟩++aa b:=by
 apply aY
 rw [ByteArray.data_append,ByteArray.data_append]
 simp [ay]
theorem tS (d:Int):((aa d).toList == [49])=decide (d=1):=by
 rw [ByteArray.toList_eq,ay]
 by_cases h:d=1
 ·subst h;rw [decide_eq_true rfl,bK];rfl
 ·rw [decide_eq_false h,beq_eq_false_iff_ne]
  intro e
  exact h (fD (e.trans bK.symm))
theorem tT (n d:Int) (w:World) (hd:0<d) (hc:Nat.Coprime n.natAbs d.natAbs) (h1:short n) (h2:short d) :
  Calls Tryz.prog 43 #[.agg #[.string (aa n),.string (aa d)]] w fun e W'=>e = .returned (.string (ah (Rat.divInt n d)))∧Below w.heap.size w W':=by
 have e:ah (Rat.divInt n d)=if d=1 then aa n else aa n++⟨#[47]⟩++aa d:=by
  obtain ⟨k,rfl⟩:∃ k:Nat,d=k:=⟨d.natAbs,by omega⟩
  have k0:k≠0:=by omega
  have hq:Rat.divInt n (k:Int)=⟨n,k,k0,hc⟩:=by
   rw [Rat.mk_eq_divInt]
  rw [hq]
  unfold ah cQ
  show (⟨(if k=1 then itoa n else itoa n++47::itoa (k:Int)).toArray⟩:ByteArray)=_
  by_cases h:k=1
  ·rw [if_pos h,if_pos (by omega)];rfl
  ·rw [if_neg h,if_neg (by omega)];exact sC _ _
 rw [e]
 by_cases h:d=1
 ·rw [if_pos h,h,show aa 1=⟨#[49]⟩ from gp 1 [49] bK]
  exact pD _ w
 ·rw [if_neg h]
  exact qW _ _ w (by rw [tS];exact decide_eq_false h) (aG h1) (aG h2)
theorem oq (a b x y r:ByteArray) (w:World)
  (h1:∀ W,Below w.heap.size w W→Calls Tryz.prog 78 #[.string a,.string b] W fun e W'=>e = .returned (.tuple #[.string x,.string y])∧Below W.heap.size W W')
  (h2:∀ W,Below w.heap.size w W→Calls Tryz.prog 70 #[.string x] W fun e W'=>e = .returned (.string r)∧Below W.heap.size W W') :
  Calls Tryz.prog 40 #[.agg #[.string a,.string b]] w fun e W'=>e = .returned (.string r)∧Below w.heap.size w W':=by
 have C:=Ha (Hb h1 h2);clear h1 h2
 go_enter Tryz.func40,Tryz.ntmps40
 go_wp2_with fail
 have hbx:Bxs w w.heap.size [[.string a,.string b]] (w.alloc (.cells #[.string a,.string b] 47)):=((Bxs.nil w w (Below.refl _ _)).push rfl [.string a,.string b] 47)
 generalize (w.alloc (.cells #[.string a,.string b] 47))=W0 at *
 generalize hk:w.heap.size=k at *
 have HK:=Ha hk;clear hk
 have HB:=Ha hbx
 clear hbx
 have e00:=(show World.cell? _ ⟨k,0,none⟩=some (.string a) from HB.out.cells 0 _ rfl 0 _ rfl)
 have e01:=(show World.cell? _ ⟨k,1,none⟩=some (.string b) from HB.out.cells 0 _ rfl 1 _ rfl)
 refine (C.out.1 _ (by have:=HB.out.below;rwa [HK.out] at this)).mono ?_
 rintro e w1 ⟨rfl,b⟩
 replace HB:=Ha (HB.out.next b);clear b;have e00:=(show World.cell? _ ⟨k,0,none⟩=some (.string a) from HB.out.cells 0 _ rfl 0 _ rfl);have e01:=(show World.cell? _ ⟨k,1,none⟩=some (.string b) from HB.out.cells 0 _ rfl 1 _ rfl)
 go_wp2_with fail
 refine (C.out.2 _ (by have:=HB.out.below;rwa [HK.out] at this)).mono ?_
 rintro e w2 ⟨rfl,b⟩
 replace HB:=Ha (HB.out.next b);clear b;have e00:=(show World.cell? _ ⟨k,0,none⟩=some (.string a) from HB.out.cells 0 _ rfl 0 _ rfl);have e01:=(show World.cell? _ ⟨k,1,none⟩=some (.string b) from HB.out.cells 0 _ rfl 1 _ rfl)
 go_wp2
 go_ret
 refine ⟨rfl,?_⟩
 have hbl:=HB.out.below
 rwa [HK.out] at hbl ⊢
theorem aF {n:Nat}:short (n:Int)↔n<lim:=by unfold short;rw [Int.natAbs_natCast]
theorem mX (n d:Nat):(n:Int).fdiv d=((n / d:Nat):Int):=by
 rw [Int.fdiv_eq_ediv_of_nonneg _ (by omega),Int.natCast_ediv]
theorem qX (n d:Nat):(n:Int).fmod d=((n % d:Nat):Int):=by
 rw [Int.fmod_eq_emod_of_nonneg _ (by omega),Int.natCast_emod]
theorem uT (n d:Nat) (w:World) (h1:n<lim) (h2:d<lim) (h0:0<d) (ht:Tab w) :
  Calls Tryz.prog 40 #[.agg #[.string (aa n),.string (aa d)]] w fun e W'=>e = .returned (.string (aa (aj (n / d):Nat)))∧Below w.heap.size w W':=by
 refine oq _ _ _ _ _ w (fun W h=>tP n d W (aF.2 h1) (aF.2 h2) (by omega) (ht.next h)) (fun W h => ?_)
 rw [mX]
 have c:=tQ ((n / d:Nat):Int) W (Int.natCast_nonneg _) (aF.2 (Nat.lt_of_le_of_lt (Nat.div_le_self _ _) h1)) (ht.next h)
 rwa [Int.natAbs_natCast] at c
end T
namespace T
open Go.Proofs.YtjdomibbaemdnaaGreatDoor
theorem RQ.lt {z:Rat} {r:Nat} (h:RQ z r):z<((r:Rat)+1)*((r:Rat)+1):=by
 have:=h.2;rw [Rat.natCast_mul,Rat.natCast_add] at this;exact this
def CQ (z:Rat) (c:Nat):Prop:=z≤((c*c:Nat):Rat)∧∀ k:Nat,z≤((k*k:Nat):Rat)→c≤k
theorem CQ.exact {z:Rat} {r:Nat} (h:((r*r:Nat):Rat)=z):CQ z r:=by
 subst h
 refine ⟨Rat.le_refl,fun k hk => ?_⟩
 have:=Rat.natCast_le_natCast.1 hk
 rcases Nat.lt_or_ge k r with l | l
 ·exact absurd (Nat.mul_self_lt_mul_self l) (by omega)
 ·exact l
theorem CQ.next {z:Rat} {r:Nat} (h:RQ z r) (hn:((r*r:Nat):Rat)≠z):CQ z (r+1):=by
 refine ⟨Rat.le_of_lt h.2,fun k hk => ?_⟩
 have a:((r*r:Nat):Rat)<((k*k:Nat):Rat):=Std.lt_of_lt_of_le (Rat.lt_of_le_of_ne h.1 hn) hk
 have:=Rat.natCast_lt_natCast.1 a
 rcases Nat.lt_or_ge r k with l | l
 ·exact l
 ·exact absurd (Nat.mul_self_le_mul_self l) (by omega)
end T
namespace T
open Go.Proofs.YtjdomibbaemdnaaGreatDoor
end T
namespace T
open Go.Proofs.YtjdomibbaemdnaaGreatDoor
def A9 (z:Rat):Prop:=∃ c:Rat,c*c=z
noncomputable def eE (z:Rat):Rat:=mkRat (aj z.num.natAbs:Nat) (aj z.den)
theorem qY {z:Rat} (h:A9 z):cj z:=by
 obtain ⟨c,rfl⟩:=h
 rw [jr,(kJ c).1,(kJ c).2];exact ⟨⟨_,rfl⟩,⟨_,rfl⟩⟩
theorem ie {z:Rat} (h:cj z):nC z=eE z∧nN z=1:=by
 unfold nC eE cN cD nN;rw [if_pos h,if_pos h,if_pos h];exact ⟨rfl,rfl⟩
theorem wm {z:Rat} (h0:0≤z) (h:cj z):eE z*eE z=z:=by
 have:=xK h0
 rwa [(ie h).1,(ie h).2,uo,Rat.mul_one] at this
theorem wn {z:Rat} (h0:0≤z):cj z↔A9 z:=⟨fun h=>⟨_,wm h0 h⟩,qY⟩
end T
section
open Go.RowKit
theorem ig (x:Rat) (w:World) (hx:Sq x) (ht:Tab w) (ht2:aW w) :
  Calls Tryz.prog 54 #[.string (ah x)] w fun e W'=>e = .returned (.int .i64 0)∧Below w.heap.size w W':=by
 have c:=jD (ah x) w hx.size ht ht2
 rwa [hx.chk] at c
def I64 (z:Int):Prop := -9223372036854775808≤z∧z≤9223372036854775807
theorem I64.short {z:Int} (h:I64 z):short z :=
 Nat.lt_of_le_of_lt (show z.natAbs≤9223372036854775808 by unfold I64 at h;omega) (Nat.lt_of_lt_of_le (by decide:9223372036854775808<aO 19) (aP (by decide:19≤300)))
end

section
open Go.Lib
theorem lT (c:UInt8) (r:List UInt8):ae (c::r)=(c.toNat - 48)*10 ^ r.length+ae r:=by
 have h:=gX [c] r
 rw [show [c]++r=c::r from rfl] at h
 rw [h]
 have h2:ae [c]=c.toNat - 48:=by simp [ae]
 rw [h2]
theorem pE {c:UInt8} (h:az c=true):48≤c.toNat∧c.toNat≤57:=(aA c).1 h
theorem mY:∀ (l:List UInt8) (acc:Nat),acc<18446744073709551616→(∀ c∈l,az c=true)→parseUint10 acc l=if acc*10 ^ l.length+ae l<18446744073709551616 then .ok (acc*10 ^ l.length+ae l) else .range
 | [],acc,ha,_=>by
  rw [List.length_nil,Nat.pow_zero,Nat.mul_one,kS,Nat.add_zero,if_pos ha];rfl
 | c::r,acc,ha,h=>by
  have hc:=pE (h c (by simp))
  have hN:acc*10 ^ (c::r).length+ae (c::r)=(acc*10+(c.toNat - 48))*10 ^ r.length+ae r:=by
   rw [lT,List.length_cons,Nat.pow_succ,Nat.add_mul,Nat.mul_assoc acc 10,Nat.mul_comm 10 (10 ^ r.length)];omega
  rw [hN]
  have hp:1≤10 ^ r.length:=Nat.pos_of_ne_zero (by simp)
  have hge:acc*10+(c.toNat - 48)≤(acc*10+(c.toNat - 48))*10 ^ r.length:=Nat.le_mul_of_pos_right _ hp
  unfold parseUint10
  rw [if_pos hc]
  by_cases h1:1844674407370955162≤acc
  ·rw [if_pos h1,if_neg (by omega)]
  ·rw [if_neg h1]
   by_cases h2:18446744073709551616≤acc*10+(c.toNat - 48)
   ·rw [if_pos h2,if_neg (by omega)]
   ·rw [if_neg h2]
    exact mY r _ (by omega) (fun x hx=>h x (by simp [hx]))
theorem j9 (u:Nat):parseMag (decDigits u)=if u<18446744073709551616 then .ok u else .range:=by
 unfold parseMag
 have hne:=gY u
 rw [if_neg hne,mY _ 0 (by decide) (cF u),Nat.zero_mul,Nat.zero_add,dJ]
theorem uU (z:Int):atoiAll (itoa z)=if -9223372036854775808≤z∧z≤9223372036854775807 then .ok z else .range:=by
 unfold itoa
 by_cases hz:z<0
 ·rw [if_pos hz,atoiAll_minus,j9]
  by_cases h1:z.natAbs<18446744073709551616
  ·rw [if_pos h1]
   unfold signed
   by_cases h2:9223372036854775808<z.natAbs
   ·rw [if_neg (by omega)];simp only [if_pos h2]
   ·rw [if_pos (by omega)];simp only [if_neg h2]
    rw [show -((z.natAbs:Nat):Int)=z by omega]
  ·rw [if_neg h1,if_neg (by omega)];rfl
 ·rw [if_neg hz]
  have hm:=j9 z.toNat
  have hd:=cF z.toNat
  generalize decDigits z.toNat=l at *
  cases l with
  | nil=>rw [show parseMag [] = .syntax from rfl] at hm;split at hm <;> cases hm
  | cons c r =>
   have hc:=pE (hd c (by simp))
   rw [atoiAll_plain c r (by omega) (by omega),hm]
   by_cases h1:z.toNat<18446744073709551616
   ·rw [if_pos h1]
    unfold signless
    by_cases h2:9223372036854775808≤z.toNat
    ·rw [if_neg (by omega)];simp only [if_pos h2]
    ·rw [if_pos (by omega)];simp only [if_neg h2]
     rw [show ((z.toNat:Nat):Int)=z by omega]
   ·rw [if_neg h1,if_neg (by omega)];rfl
end
section
open Go.RowKit
theorem tU (z:Int) (w:World) (hz:short z) (h : -9223372036854775808≤z∧z≤9223372036854775807) :
  Calls Tryz.prog 63 #[.string (aa z)] w fun e W'=>e = .returned (.tuple #[.int .i64 z,.nilIface])∧Below w.heap.size w W':=by
 have hs:=aG hz
 refine (Tryz.strconv_Atoi_ok (aa z) (by omega) z (by rw [ay,uU,if_pos h]) w).mono ?_
 rintro e W' ⟨he,rfl | ⟨t,rfl⟩⟩
 ·exact ⟨he,Below.refl _ _⟩
 ·exact ⟨he,Go.Joins.below_bytesWorld _ _ _ _ (Nat.le_refl _)⟩
def jw (a b:ByteArray):Int:=if aM a.data.toList=0 then aM b.data.toList else aM a.data.toList
def rat (a:ByteArray):Rat:=bZ a.data.toList
def opB (f:Rat→Rat→ByteArray) (a b:ByteArray):ByteArray:=if jw a b=0 then f (rat a) (rat b) else ⟨#[]⟩
def opE (f:Rat→Rat→Int) (a b:ByteArray):Int:=if jw a b=0 then f (rat a) (rat b) else jw a b
def sE (x y:Rat):ByteArray:=if y=0 then ⟨#[]⟩ else jz x y
def sF (x y:Rat):Int:=if y=0 then 12 else jA x y
theorem ke {a b:ByteArray} (h:jw a b=0):aM a.data.toList=0∧aM b.data.toList=0:=by
 unfold jw at h
 split at h
 ·exact ⟨by assumption,h⟩
 ·exact absurd h (by assumption)
theorem pF {a:ByteArray} (h:aM a.data.toList=0):Sq (rat a):=iA h
theorem kf {a:ByteArray} (h:aM a.data.toList=0):ah (rat a)=a:=(eO h).symm
theorem kg (b:ByteArray):((b.toList == [48])=true)↔b=⟨#[48]⟩:=by
 rw [ByteArray.toList_eq,beq_iff_eq]
 constructor
 ·intro h;exact aY h
 ·intro h;rw [h]
end
namespace T
open Go.Proofs.YtjdomibbaemdnaaGreatDoor Go.Lib
def mZ (s:ByteArray):Bool:=ap s.data.toList
def fW (l:List ByteArray):Int:=if l.any mZ then 2 else 0
theorem iF (q:Rat):mZ (ah q)=decide (q<0):=by
 unfold mZ
 rw [bH]
 have e:ap (cQ q)=ap (itoa q.num):=by
  unfold cQ
  split
  ·rfl
  ·have:=mh q.num
   unfold ap;cases h:itoa q.num with
   | nil=>exact absurd h this
   | cons a l=>rfl
 rw [e,←ay,gy]
 congr 1
 exact propext ⟨fun h=>Rat.not_le.1 fun k=>absurd (Rat.num_nonneg.2 k) (by omega),fun h=>by
  apply Int.not_le.1;intro k;exact absurd (Rat.num_nonneg.1 k) (Rat.not_le.2 h)⟩
end T
namespace T
open Go.RowKit
def atS (xs:List ByteArray) (j:Nat):ByteArray:=xs[j]?.getD ⟨#[]⟩
theorem mj {xs:List ByteArray} {j:Nat} (h:j<xs.length):atS xs j=xs[j]:=by unfold atS;rw [List.getElem?_eq_getElem h];rfl
theorem pG {xs:List ByteArray} {j:Nat} (h:j<xs.length):atS xs j∈xs:=by rw [mj h];exact List.getElem_mem h
theorem take_at {xs:List ByteArray} {j:Nat} (h:j<xs.length):xs.take (j+1)=xs.take j ++ [atS xs j]:=by rw [mj h,List.take_succ_eq_append_getElem h]
structure Sl (W:World) (b:Nat) (xs:List ByteArray):Prop where
 lt:b<W.heap.size
 cell:∀ j,j<xs.length→W.cell? ⟨b,j,none⟩=some (.string (atS xs j))
theorem Sl.next {W W':World} {b:Nat} {xs:List ByteArray} (h:Sl W b xs) (g:Below W.heap.size W W'):Sl W' b xs :=
 ⟨Nat.lt_of_lt_of_le h.lt g.size,fun j hj=>(g.cell (p:=⟨b,j,none⟩) h.lt).trans (h.cell j hj)⟩
theorem Sl.new1 (W:World) (s:ByteArray) (t:TypeId):Sl (W.alloc (.cells #[.string s] t)) W.heap.size [s] :=
 ⟨by simp,fun j hj=>by
  obtain rfl:j=0:=by simp at hj;omega
  exact (Blk.new W #[.string s] t).cell 0 _ rfl⟩
theorem Sl.new2 (W:World) (s u:ByteArray) (t:TypeId):Sl (W.alloc (.cells #[.string s,.string u] t)) W.heap.size [s,u] :=
 ⟨by simp,fun j hj=>by
  have h2:j=0∨j=1:=by simp at hj;omega
  rcases h2 with rfl | rfl
  ·exact (Blk.new W #[.string s,.string u] t).cell 0 _ rfl
  ·exact (Blk.new W #[.string s,.string u] t).cell 1 _ rfl⟩
theorem bL {a b:Bool} (h:a=b):Ending.returned (.bool a) = .returned (.bool b):=by rw [h]
theorem ij {a b:Int} (h:a=b):Ending.returned (.int .i64 a) = .returned (.int .i64 b):=by rw [h]
theorem bV (b:Nat) (xs:List ByteArray) (w:World) (hl:xs.length≤100) (hx:Sl w b xs) :
  Calls Tryz.prog 24 #[.slice (some ⟨b,0,none⟩) xs.length xs.length] w fun e W'=>e = .returned (.int .i64 (fW xs))∧Below w.heap.size w W':=by
 have hb:=hx.lt
 have HC:=Ha hx.cell
 have HR:Hid (∀ q:Bool,xs.any mZ=q→fW xs=if q then 2 else 0):=Ha (fun q h=>by unfold fW;rw [h])
 clear hx
 go_enter Tryz.func24,Tryz.ntmps24
 go_wp2
 go_loopw [7] (fun i wr=>∃ k:Nat,i = .int .i64 k∧k≤xs.length∧Hid ((xs.take k).any mZ=false)∧Hid (Below w.heap.size w wr)) (fun i _=>xs.length - (intOf i).toNat)
 case atStart=>exact ⟨0,rfl,by omega,by show _=false;simp,Below.refl _ _⟩
 case round =>
  obtain ⟨k,rfl,hk,hd,HBw⟩:=hrel
  by_cases hlt:k<xs.length
  ·have hck:=(HBw.out.cell (p:=⟨b,k,none⟩) hb).trans (HC.out k hlt)
   have hn:Hid (mZ (atS xs k)=false→(xs.take (k+1)).any mZ=false):=Ha (fun h=>by rw [take_at hlt,List.any_append,hd.out];simp [h])
   have hy:Hid (mZ (atS xs k)=true→xs.any mZ=true):=Ha (fun h=>List.any_eq_true.2 ⟨_,pG hlt,h⟩)
   have hr:=Ha (qV (atS xs k) wr)
   change Hid (Calls _ _ _ _ fun e W'=>e = .returned (.bool (mZ (atS xs k)))∧_) at hr
   clear hd
   generalize mZ (atS xs k)=r at *
   generalize atS xs k=s at *
   go_wp2_with fail
   refine hr.out.mono ?_
   rintro e w' ⟨rfl,b⟩
   have HB2:=Ha (HBw.out.trans (b.mono HBw.out.size));clear b HBw
   cases r
   ·have hnn:=Ha (hn.out rfl)
    clear hn hy
    go_wp2
    go_roundw
    case rel=>exact ⟨k+1,by go_num,by omega,hnn.out,HB2.out⟩
    case measure=>simp [intOf];omega
   ·have hbb:=Ha (HR.out true (hy.out rfl))
    clear hn hy
    go_wp2
    go_ret
    exact ⟨ij hbb.out.symm,HB2.out⟩
  ·have hbb:=Ha (HR.out false (by have:=hd.out;rwa [List.take_of_length_le (by omega)] at this))
   clear hd
   go_wp2
   go_ret
   exact ⟨ij hbb.out.symm,HBw.out⟩
theorem fJ (b:Nat) (x y:Int) (w:World) (hb:Blk w b #[.int .i64 x,.int .i64 y]) :
  Calls Tryz.prog 22 #[.slice (some ⟨b,0,none⟩) 2 2] w fun e W'=>e = .returned (.int .i64 (if x=0 then y else x))∧Below w.heap.size w W':=by
 have c0:=hb.cell 0 _ rfl
 have c1:=hb.cell 1 _ rfl
 clear hb
 by_cases h:x=0
 ·rw [if_pos h]
  subst h
  by_cases h2:y=0
  ·subst h2
   go_enter Tryz.func22,Tryz.ntmps22
   go_wp2
   go_rounds 3
   all_goals go_ret
   all_goals exact ⟨rfl,Below.refl _ _⟩
  ·obtain ⟨n1,n2⟩:=bc h2
   go_enter Tryz.func22,Tryz.ntmps22
   go_wp2
   go_rounds 3
   all_goals go_ret
   all_goals exact ⟨rfl,Below.refl _ _⟩
 ·rw [if_neg h]
  obtain ⟨n1,n2⟩:=bc h
  go_enter Tryz.func22,Tryz.ntmps22
  go_wp2
  go_rounds 3
  all_goals go_ret
  all_goals exact ⟨rfl,Below.refl _ _⟩
end T
namespace T
open Go Go.RowKit Go.Shelf
variable {P:Program} {F:Fence} {n:Nat}
structure Kb (b:Nat) (A B:World):Prop where
 size:A.heap.size≤B.heap.size
 same:∀ k o,b≤k→A.heap[k]? = some o→o.isCells=true→B.heap[k]? = some o
theorem Kb.refl (b:Nat) (A:World):Kb b A A:=⟨Nat.le_refl _,fun _ _ _ h _=>h⟩
theorem Kb.trans {b:Nat} {A B C:World} (h:Kb b A B) (k:Kb b B C):Kb b A C:=⟨Nat.le_trans h.size k.size,fun i o hb hi hc=>k.same i o hb (h.same i o hb hi hc) hc⟩
theorem Kb.put {b:Nat} {A:World} {l:Nat} {o o':Obj} (hl:A.heap[l]? = some o) (ho:o.isCells=false):Kb b A (A.putObj l o') :=
 ⟨by simp,fun k u _ hk hc=>by
  have hne:k≠l:=fun e=>by rw [e,hl] at hk;cases hk;rw [ho] at hc;cases hc
  exact (World.putObj_heap_other hne).trans hk⟩
theorem Kb.of_below {b:Nat} {A B:World} (h:Below A.heap.size A B):Kb b A B :=
 ⟨h.size,fun k o _ hk _=>(h.block k (Array.getElem?_eq_some_iff.1 hk).1).trans hk⟩
theorem Kb.cell_below {b:Nat} {A:World} {p:Addr} (hp:p.block<b) (v:Value):Kb b A (A.setCell p v) :=
 ⟨by simp [World.setCell],fun k o hb hk _=>(Below.heap_setCell _ _ _ _ (by omega)).trans hk⟩
theorem be {a b:World} (h:Below a.heap.size a b):a.grownBy b none:=⟨h.os,h.tape,h.output,h.size,fun k hk _=>h.block k hk⟩
theorem Kb.of_grown {b:Nat} {A B:World} (h:A.grownBy B none):Kb b A B :=
 ⟨h.size,fun k o _ hk _=>(h.block k (Array.getElem?_eq_some_iff.1 hk).1 (fun e=>by cases e)).trans hk⟩
theorem Kb.alloc (b:Nat) (A:World) (o:Obj):Kb b A (A.alloc o):=Kb.of_below ((Below.refl _ A).alloc (Nat.le_refl _) o)
def wq {α:Type} (F:Fence) (n:Nat) (P:Program) (g:Nat) (fs:Array Value) (encs:α→Array Value) (xs:List α) (w:World):Prop :=
 ∀ (l:Nat) (J Jx:List α→World→Prop) (W:World),Below w.heap.size w W→(∀ s A o,J s A→J s (A.alloc o))→(∀ s A,J s A→J s A.drew) →
  (∀ pre x r W1,xs=pre++x::r→J pre W1→YieldAt F (n - 1) P l (encs x) W1 fun e W' =>
   (e = .returned (.bool true)∧J (pre ++ [x]) W'∧(r ≠ []→Kb w.heap.size W1 W'))∨(e = .returned (.bool false)∧Jx (pre ++ [x]) W')) →
  J [] W→CallsIn F n P g (fs ++ #[.func (.yield l) #[] #[]]) W fun e W'=>(∃ v,e = .returned v)∧(J xs W'∨∃ pre r,xs=pre++r∧Jx pre W')
theorem dv {α:Type} {g:Operand} {ps:Array Tmp} {assign body:Code} {Q:Exit→Act→World→Prop} {a:Act} {w:World}
  (hro:F.round=none) (h1:1≤n) {gf:Nat} {fs:Array Value} (hg:a.eval g = .func (.func gf) fs #[]) (hFg:F.fn gf) (eg:∀ args w,(callFunc gf args).run P w = .ok (.enter gf args) w)
  {encs:α→Array Value} {xs:List α} (hh:wq F (n - 1) P gf fs encs xs w) (hps:∀ x,(encs x).size=ps.size) (sc:Code) (hsc:sc = .ret∨∃ id,sc = .exit id)
  (I Ix:List α→World→Prop) (hI:OwnFrom w.heap.size I) (hIx:OwnFrom w.heap.size Ix) (hId:∀ s A,I s A→I s A.drew) (h0:I [] w) (a₁:α→Act)
  (hassign:∀ (l:Nat) (x:α) (W:World) (K:Act→World→Prop),K (a₁ x) W →
   assign.wpIn (F.inRound l) (n - 1 - 1) P (Exit.then K (fun _ _ _=>False)) { tmps:=(ps.zip (encs x)).foldl (fun t (p,v)=>t.setIfInBounds p v) a.tmps,defers := [] } W)
  (hbody:∀ (l:Nat) (pre:List α) (x:α) (r:List α) (W:World),w.heap.size≤W.heap.size→xs=pre++x::r→I pre W →
   body.wpIn (F.inRound l) (n - 1 - 1) P (ownPostG w.heap.size (fun A B=>r ≠ []→Kb w.heap.size A B) I (fun c s W=>c=sc∧Ix s W) (pre ++ [x]) W) (a₁ x) W)
  (hdone:∀ (D:Nat) (W:World),w.heap.size≤D→I xs W→W.heap[D]? = some (.deferred (some []))→Q .normal { a with defers:={ target := .collected D,args := #[] }::a.defers } W)
  (hstop:∀ (D:Nat) (pre r:List α) (W:World),w.heap.size≤D→xs=pre++r→Ix pre W→W.heap[D]? = some (.deferred (some []))→sc.wpIn F n P Q { a with defers:={ target := .collected D,args := #[] }::a.defers } W) :
  (Code.rangeFunc g ps assign body).wpIn F n P Q a w:=by
 refine wpIn_rangeFunc fun fn hfn => ?_
 rw [hro]
 let R:LoopState→Option Code→Obj:=fun s p => .loop { state:=s,pending:=p,fn:=fn,tmps:=a.tmps,params:=ps,assign:=assign,body:=body,defers:=w.heap.size }
 have nc:∀ s p,(R s p).isCells=false:=fun _ _=>rfl
 let W1:=(w.alloc (.deferred (some []))).alloc (R .ready none)
 have z1:W1.heap.size=w.heap.size+2:=by simp [W1]
 let own:LoopState→Option Code→World→Prop:=fun s p W=>W.heap[w.heap.size+1]? = some (R s p)∧W.heap[w.heap.size]? = some (.deferred (some []))
 have own_lt:∀ {s p W},own s p W→w.heap.size+1<W.heap.size:=fun h=>(Array.getElem?_eq_some_iff.1 h.1).1
 have own_put:∀ {s p W} (s':LoopState) (p':Option Code),own s p W→own s' p' (W.putObj (w.heap.size+1) (R s' p')):=fun s' p' h =>
  ⟨World.putObj_heap_same (own_lt h),(World.putObj_heap_other (by omega)).trans h.2⟩
 have own_alloc:∀ {s p W} (o:Obj),own s p W→own s p (W.alloc o):=fun o h =>
  ⟨(Below.heap_alloc _ o _ (own_lt h)).trans h.1,(Below.heap_alloc _ o _ (by have:=own_lt h;omega)).trans h.2⟩
 have own_keeps:∀ {s p W W'},KeepsFrom w.heap.size W W'→own s p W→own s p W':=fun hk h=>⟨hk.same _ _ (by omega) h.1 rfl,hk.same _ _ (Nat.le_refl _) h.2 rfl⟩
 have own1:own .ready none W1:=by
  refine ⟨?_,?_⟩
  ·have:=World.alloc_heap_new (w.alloc (.deferred (some []))) (R .ready none)
   rwa [World.size_alloc] at this
  ·exact (Below.heap_alloc _ _ _ (by simp)).trans (World.alloc_heap_new w _)
 refine ⟨w.heap.size+1,[{ target := .collected w.heap.size,args := #[] }],W1,{ target := .fn (.func gf) #[],args:=fs ++ #[.func (.yield (w.heap.size+1)) #[] #[]] },W1,gf,
  fs ++ #[.func (.yield (w.heap.size+1)) #[] #[]],W1,run_enterLoop_outer _ _ _ _ _,?_,?_,?_,fun _=>h1,?_⟩
 ·simp only [resolve,hg]
  simp [go_sem]
 ·intro f' hf'
  simp [Target.leads] at hf'
  subst hf';exact hFg
 ·simp [invoke,go_sem,eg]
 have run:CallsIn F (n - 1) P gf (fs ++ #[.func (.yield (w.heap.size+1)) #[] #[]]) W1 fun e W'=>(∃ v,e = .returned v) ∧
   ((I xs W'∧own .ready none W')∨∃ pre r,xs=pre++r∧(Ix pre W'∧own .done (some sc) W')):=by
  refine hh (w.heap.size+1) (fun s W=>I s W∧own .ready none W) (fun s W=>Ix s W∧own .done (some sc) W) W1 ((((Below.refl _ w).alloc (Nat.le_refl _) _).alloc (by simp) _))
   (fun s A o h=>⟨hI.alloc o h.1,own_alloc o h.2⟩) (fun s A h=>⟨hId s A h.1,h.2⟩) ?_ ⟨hI.alloc _ (hI.alloc _ h0),own1⟩
  rintro pre x r W hx ⟨hi,ho⟩
  have lt:=own_lt ho
  refine ⟨fn,_,assign,body,run_yield (P:=P) (args:=encs x) ho.1 (hps x),roundIn_of_wpIn hfn (hassign _ x W _ ?_)⟩
  refine ⟨_,run_beginRound ho.1 rfl,?_⟩
  have hb:=own_put .busy none ho
  have k1:Kb w.heap.size W (W.putObj (w.heap.size+1) (R .busy none)):=Kb.put ho.1 rfl
  refine wpIn_mono (hbody _ pre x r (W.putObj (w.heap.size+1) (R .busy none)) (by have:=own_lt hb;omega) hx (hI.putObj _ hi (by omega) ho.1 rfl)) ?_
  intro e a3 W3 hp
  cases e with
  | normal =>
   obtain ⟨h3,h4,h5⟩:=hp
   have ho3:=own_keeps h3 hb
   exact ⟨_,_,run_endRound none ho3.1,.inl ⟨rfl,⟨hI.putObj _ h5 (by omega) ho3.1 rfl,own_put .ready none ho3⟩,fun hr=>k1.trans ((h4 hr).trans (Kb.put ho3.1 rfl))⟩⟩
  | ret =>
   obtain ⟨h3,h4,h5⟩:=hp
   subst h4
   have ho3:=own_keeps h3 hb
   exact ⟨_,_,run_endRound (some .ret) ho3.1,.inr ⟨rfl,hIx.putObj _ h5 (by omega) ho3.1 rfl,own_put .done (some .ret) ho3⟩⟩
  | exit id =>
   obtain ⟨h3,h4,h5⟩:=hp
   subst h4
   have ho3:=own_keeps h3 hb
   exact ⟨_,_,run_endRound (some (.exit id)) ho3.1,.inr ⟨rfl,hIx.putObj _ h5 (by omega) ho3.1 rfl,own_put .done (some (.exit id)) ho3⟩⟩
  | goto t =>
   obtain ⟨_,h4,_⟩:=hp
   rcases hsc with rfl | ⟨id,rfl⟩ <;> cases h4
  | panic ch=>exact hp.elim
  | outgrown=>exact hp.elim
 refine run.mono ?_
 rintro e W2 ⟨⟨v,rfl⟩,(⟨hi,ho⟩ | ⟨pre,r,hx,hi,ho⟩)⟩
 ·exact ⟨none,_,run_endLoop ho.1 (by simp),hdone _ _ (Nat.le_refl _) (hI.putObj _ hi (by omega) ho.1 rfl) ((World.putObj_heap_other (by omega)).trans ho.2)⟩
 ·exact ⟨some sc,_,run_endLoop ho.1 (by simp),hstop _ pre r _ (Nat.le_refl _) hx (hIx.putObj _ hi (by omega) ho.1 rfl) ((World.putObj_heap_other (by omega)).trans ho.2)⟩
end T
namespace T
open Go.Proofs.YtjdomibbaemdnaaGreatDoor Go Go.RowKit Go.Lib Go.Shelf
section
attribute [local go_sem] Oper.semAt_some
theorem dd {α:Type} (f:α→ByteArray) (x y:α) (n:Nat) (w:World) (hn:1≤n) :
  wq Fence.wide n Tryz.prog 55 #[.agg #[.string (f x),.string (f y)]] (fun s:α => #[Value.string (f s)]) [x,y] w:=by
 intro l J Jx W hb hJa hJd hY h0
 have hJ0:J [] (W.alloc (.cells #[.string (f x),.string (f y)] 47)):=hJa _ _ _ h0
 obtain ⟨fn,tmps,assign,body,hy,hR⟩:=hY [] x [y] (W.alloc (.cells #[.string (f x),.string (f y)] 47)) rfl hJ0
 have hbox:=heap_alloc_new W (.cells #[.string (f x),.string (f y)] 47)
 have HH:=Ha (Hb hY (Hb hb.size hbox));clear hY hb hbox hJa hJd hJ0 h0
 have HR:=Ha hR;clear hR
 try dsimp only at hy
 refine callsIn_of_wp Tryz.func55 rfl trivial ?_ rfl
 simp only [Tryz.ntmps55,List.size_toArray,List.length_cons,List.length_nil,Nat.reduceAdd,Nat.reduceSub,Array.replicate_succ,Array.replicate_zero,List.push_toArray,List.append_toArray,List.nil_append,List.cons_append]
 gi_wp2
 refine HR.out.mono ?_
 clear HR
 rintro e W3 (⟨rfl,hJ3,hk3⟩ | ⟨rfl,hJx3⟩)
 ·have hbx:Blk W3 W.heap.size #[.string (f x),.string (f y)]:=⟨_,(hk3 (by simp)).same _ _ HH.out.2.1 HH.out.2.2 rfl⟩
  have e1:=hbx.cell 1 (.string (f y)) rfl
  obtain ⟨fn2,tmps2,assign2,body2,hy2,hR2⟩:=HH.out.1 [x] y [] W3 rfl hJ3
  have HR2:=Ha hR2;clear hR2 hbx hk3 hJ3
  try dsimp only at hy2
  gi_wp2
  refine HR2.out.mono ?_
  clear HR2
  rintro e W4 (⟨rfl,hJ4,_⟩ | ⟨rfl,hJx4⟩)
  ·have HJ:=Ha hJ4;clear hJ4
   gi_wp2
   go_end0
   exact ⟨⟨_,rfl⟩,.inl HJ.out⟩
  ·have HJ:=Ha hJx4;clear hJx4
   gi_wp2
   go_end0
   exact ⟨⟨_,rfl⟩,.inr ⟨_,[],rfl,HJ.out⟩⟩
 ·have HJ:=Ha hJx3;clear hJx3
  gi_wp2
  refine ⟨fun _ h=>(by cases h),?_⟩
  gi_wp2
  go_end0
  exact ⟨⟨_,rfl⟩,.inr ⟨_,[y],rfl,HJ.out⟩⟩
end
end T
end Go.Proofs.YtjdomibbaemdnaaGreatDoor
