/- Parts of the proof. -/
import Derived.Test.YtbhbhlfkdlfimaaGreatDoorQX26
set_option linter.all false
set_option maxRecDepth 100000
set_option maxHeartbeats 8000000
namespace Go.Proofs.YtbhbhlfkdlfimaaGreatDoor
namespace T
open Go.RowKit
theorem Ev (s:ByteArray) (w:World) (h:(s.toList == [48])=false) :
  Calls Tryz.prog 121 #[.string s] w fun e W'=>∃ b,e = .returned (.slice (some ⟨b,0,none⟩) 1 1)∧Blk W' b #[.string s,.string ⟨#[49]⟩]∧Below w.heap.size w W':=by
 go_enter Tryz.func121,Tryz.ntmps121
 go_wp2
 go_ret
 exact ⟨_,rfl,Blk.new w _ _,(Below.refl _ w).alloc (Nat.le_refl _) _⟩
theorem GK (s:ByteArray) (w:World):Calls Tryz.prog 221 #[.string s] w fun e W'=>e = .returned (.bool (aw s.data.toList))∧Below w.heap.size w W':=by
 have c:=fun W=>Tryz.strings_HasPrefix s ⟨#[45]⟩ W
 rw [show (⟨#[45]⟩:ByteArray).data.toList = [45] from rfl,iE] at c
 have C:=Ha c;clear c
 generalize aw s.data.toList=b at *
 go_enter Tryz.func221,Tryz.ntmps221
 go_wp2_with fail
 refine (C.out _).mono ?_
 rintro e w1 ⟨rfl,rfl⟩
 go_wp2
 go_ret
 exact ⟨rfl,Below.refl _ _⟩
theorem ePl (n:Nat) (w:World) (h:n≤40):Calls Tryz.prog 71 #[.int .i64 n] w fun e W'=>e = .returned (.bool true)∧Below w.heap.size w W':=by
 have h1:(0:Int)≤n:=by omega
 have h2:(n:Int)≤40:=by omega
 clear h
 go_enter Tryz.func71,Tryz.ntmps71
 go_wp2
 go_ret
 exact ⟨rfl,Below.refl _ _⟩
theorem Ew (w:World):Calls Tryz.prog 73 #[.int .i64 0] w fun e W'=>e = .returned (.string ⟨#[49]⟩)∧Below w.heap.size w W':=by
 go_enter Tryz.func73,Tryz.ntmps73
 go_wp2
 go_ret
 exact ⟨rfl,Below.refl _ _⟩
theorem xn (n:Nat) (rp:ByteArray) (w:World) (h:0<n) (hz:rp.size≤1000)
  (h1:∀ W,Below w.heap.size w W→Calls Tryz.prog 123 #[.string ⟨#[48]⟩,.int .i64 n] W fun e W'=>e = .returned (.string rp)∧Below W.heap.size W W') :
  Calls Tryz.prog 73 #[.int .i64 n] w fun e W'=>e = .returned (.string (⟨#[49,47,49]⟩++rp))∧Below w.heap.size w W':=by
 have O:=Ha h1;clear h1
 have n1:((n:Int)==0)=false:=by simp;omega
 have n2:¬ (n:Int)=0:=by omega
 have n3:¬ (9223372036854775807:Int)<3+(rp.size:Int):=by omega
 clear h hz
 go_enter Tryz.func73,Tryz.ntmps73
 go_wp2_with fail
 refine (O.out _ (Below.refl _ _)).mono ?_
 rintro e w1 ⟨rfl,b⟩
 have B1:=Ha b;clear b
 go_wp2
 go_ret
 exact ⟨rfl,B1.out⟩
theorem vv (b n c:Nat) (cs rs ns ds ts:Nat→ByteArray) (w:World) (h100:n≤100) (hb:b<w.heap.size)
  (hc:∀ j,j<n→w.cell? ⟨b,j*2,none⟩=some (.string (cs j))∧w.cell? ⟨b,j*2+1,none⟩=some (.string (rs j)))
  (hp:∀ j,j<n→∀ W,Below w.heap.size w W→Calls Tryz.prog 13 #[.string (cs j)] W fun e W'=>e = .returned (.tuple #[.string (ns j),.string (ds j),.int .i64 0])∧Below W.heap.size W W')
  (ht:∀ j,j<n→∀ W,Calls Tryz.prog 177 #[.string (ns j),.string ⟨#[45]⟩] W fun e W'=>e = .returned (.string (ts j))∧W=W')
  (hs:∀ j,j<n→(ts j).size≤20∧(ds j).size≤20) :
  Calls Tryz.prog 118 #[.slice (some ⟨b,0,none⟩) n c] w fun e W'=>e = .returned (.bool true)∧Below w.heap.size w W':=by
 have O:=Ha (Hb hc (Hb hp (Hb ht hs)));clear hc hp ht hs
 go_enter Tryz.func118,Tryz.ntmps118
 go_wp2
 go_loopw [10] (fun i wr=>∃ j:Nat,i = .int .i64 j∧j≤n∧Hid (Below w.heap.size w wr)) (fun i _=>n - (intOf i).toNat)
 case atStart=>exact ⟨0,rfl,by omega,Below.refl _ _⟩
 case round =>
  obtain ⟨j,rfl,hj,HB⟩:=hrel
  by_cases hlt:j<n
  ·have hz:(j:Int)<n:=by omega
   have d0:=(HB.out.cell (p:=⟨b,j*2,none⟩) hb).trans (O.out.1 j hlt).1
   have d1:=(HB.out.cell (p:=⟨b,j*2+1,none⟩) hb).trans (O.out.1 j hlt).2
   have hp:=Ha (O.out.2.1 j hlt)
   have ht:=Ha (O.out.2.2.1 j hlt)
   have hs:=O.out.2.2.2 j hlt
   have s1:¬ (20:Int)<(ts j).size:=by omega
   have s2:¬ (20:Int)<(ds j).size:=by omega
   clear hs
   generalize cs j=cj at *
   generalize rs j=rj at *
   generalize ns j=nj at *
   generalize ds j=dj at *
   generalize ts j=tj at *
   go_wp2_with fail
   have HN:=Ha (Hb (Blk.new wr #[.string cj,.string rj] 43) (HB.out.alloc HB.out.size (.cells #[.string cj,.string rj] 43)))
   clear HB;have HB:=HN;clear HN
   generalize wr.alloc (.cells #[.string cj,.string rj] 43)=u at *
   generalize wr.heap.size=k at *
   clear d0 d1
   have e0:=HB.out.1.cell 0 (.string cj) rfl;have e1:=HB.out.1.cell 1 (.string rj) rfl
   go_wp2_with fail
   refine (hp.out _ HB.out.2).mono ?_
   rintro e w2 ⟨rfl,b2⟩
   replace HB:=Ha (HB.out.2.trans (b2.mono HB.out.2.size));clear b2 e0 e1
   go_wp2_with fail
   refine (ht.out _).mono ?_
   rintro e w3 ⟨rfl,rfl⟩
   go_wp2
   go_roundw
   case rel=>exact ⟨j+1,by go_num,by omega,HB.out⟩
   case measure=>simp [intOf];omega
  ·have ej:j=n:=by omega
   have hz:¬ (j:Int)<n:=by omega
   go_wp2
   go_ret
   exact ⟨rfl,HB.out⟩
theorem vw (b:Nat) (p:Option Addr) (n c:Nat) (w:World) (hb:Blk w b #[.slice p n c])
  (h1:∀ W,Below w.heap.size w W→Calls Tryz.prog 113 #[.slice p n c] W fun e W'=>e = .returned (.int .i64 0)∧Below W.heap.size W W')
  (h2:∀ W,Below w.heap.size w W→Calls Tryz.prog 118 #[.slice p n c] W fun e W'=>e = .returned (.bool true)∧Below W.heap.size W W') :
  Calls Tryz.prog 70 #[.slice (some ⟨b,0,none⟩) 1 1] w fun e W'=>e = .returned (.int .i64 0)∧Below w.heap.size w W':=by
 have O:=Ha (Hb h1 h2);clear h1 h2
 have HK:=Ha hb;clear hb
 have HB:=Ha (Below.refl w.heap.size w)
 go_enter Tryz.func70,Tryz.ntmps70
 go_wp2
 go_loopw [9] (fun i wr=>∃ j:Nat,i = .int .i64 j∧j≤1∧Hid (Below w.heap.size w wr)) (fun i _=>1 - (intOf i).toNat)
 case atStart=>exact ⟨0,rfl,by omega,HB⟩
 case round =>
  clear HB
  obtain ⟨j,rfl,hj,HB⟩:=hrel
  by_cases hlt:j<1
  ·obtain rfl:j=0:=by omega
   have d0:=(HB.out.cell (p:=⟨b,0,none⟩) HK.out.lt).trans (HK.out.cell 0 _ rfl)
   go_wp2_with fail
   refine (O.out.1 _ HB.out).mono ?_
   rintro e v1 ⟨rfl,b1⟩
   replace HB:=Ka HB b1 HB.out.size;clear b1
   go_wp2
   go_roundw
   case rel=>exact ⟨1,rfl,by omega,HB⟩
   case measure=>simp [intOf]
  ·have hz:¬ (j:Int)<1:=by omega
   go_wp2
   go_loopw [19] (fun i wr=>∃ m:Nat,i = .int .i64 m∧m≤1∧Hid (Below w.heap.size w wr)) (fun i _=>1 - (intOf i).toNat)
   case atStart=>exact ⟨0,rfl,by omega,HB⟩
   case round =>
    clear HB
    obtain ⟨m,rfl,hj,HB⟩:=hrel
    by_cases hlt:m<1
    ·obtain rfl:m=0:=by omega
     have d0:=(HB.out.cell (p:=⟨b,0,none⟩) HK.out.lt).trans (HK.out.cell 0 _ rfl)
     go_wp2_with fail
     refine (O.out.2 _ HB.out).mono ?_
     rintro e v1 ⟨rfl,b1⟩
     replace HB:=Ka HB b1 HB.out.size;clear b1
     go_wp2
     go_roundw
     case rel=>exact ⟨1,rfl,by omega,HB⟩
     case measure=>simp [intOf]
    ·have hz:¬ (m:Int)<1:=by omega
     go_wp2
     go_ret
     exact ⟨rfl,HB.out⟩
theorem CY (c r s1 s2 lo hi m:ByteArray) (pl:Int) (ng:Bool) (w:World)
  (o1:∀ W,Below w.heap.size w W→Calls Tryz.prog 10 #[.string c,.string c] W fun e W'=>e = .returned (.tuple #[.string s1,.int .i64 0])∧Below W.heap.size W W')
  (o2:∀ W,Below w.heap.size w W→Calls Tryz.prog 10 #[.string s1,.string r] W fun e W'=>e = .returned (.tuple #[.string s2,.int .i64 0])∧Below W.heap.size W W')
  (o3:∀ W,Below w.heap.size w W→Calls Tryz.prog 220 #[.string s2,.int .i64 pl] W fun e W'=>e = .returned (.tuple #[.agg #[.string lo,.string hi],.int .i64 0])∧Below W.heap.size W W')
  (o4:∀ W,Below w.heap.size w W→Calls Tryz.prog 221 #[.string c] W fun e W'=>e = .returned (.bool ng)∧Below W.heap.size W W')
  (o5:ng=true→∀ W,Below w.heap.size w W→Calls Tryz.prog 122 #[.string ⟨#[48]⟩,.string lo] W fun e W'=>e = .returned (.tuple #[.string m,.int .i64 0])∧Below W.heap.size W W') :
  Calls Tryz.prog 178 #[.agg #[.string c,.string r],.int .i64 pl] w fun e W'=>e = .returned (.string (if ng then m else hi))∧Below w.heap.size w W':=by
 have O:=Ha (Hb o1 (Hb o2 (Hb o3 (Hb o4 o5))));clear o1 o2 o3 o4 o5
 go_enter Tryz.func178,Tryz.ntmps178
 go_wp2_with fail
 have HB:=Ha (Hb (Blk.new w #[.string c,.string r] 43) ((Below.refl _ w).alloc (Nat.le_refl _) (.cells #[.string c,.string r] 43)))
 generalize w.alloc (.cells #[.string c,.string r] 43)=W0 at *
 generalize hk:w.heap.size=k at *
 have HK:=Ha hk;clear hk
 have e0:=HB.out.1.cell 0 (.string c) rfl;have e1:=HB.out.1.cell 1 (.string r) rfl
 refine (O.out.1 _ HB.out.2).mono ?_
 rintro e v1 ⟨rfl,b⟩
 replace HB:=Kc HB b;clear b e0 e1;have e0:=HB.out.1.cell 0 (.string c) rfl;have e1:=HB.out.1.cell 1 (.string r) rfl
 go_wp2_with fail
 refine (O.out.2.1 _ HB.out.2).mono ?_
 rintro e v2 ⟨rfl,b⟩
 replace HB:=Kc HB b;clear b e0 e1;have e0:=HB.out.1.cell 0 (.string c) rfl;have e1:=HB.out.1.cell 1 (.string r) rfl
 go_wp2_with fail
 refine (O.out.2.2.1 _ HB.out.2).mono ?_
 rintro e v3 ⟨rfl,b⟩
 replace HB:=Kc HB b;clear b e0 e1;have e0:=HB.out.1.cell 0 (.string c) rfl;have e1:=HB.out.1.cell 1 (.string r) rfl
 have kn:k<v3.heap.size:=HB.out.1.lt
 have km:k≠v3.heap.size:=Nat.ne_of_lt kn
 go_wp2_with fail
 replace HB:=Ha (Hb (HB.out.1.alloc (.cells #[.string lo,.string hi] 60)) (Hb (Blk.new v3 #[.string lo,.string hi] 60) (HB.out.2.alloc (Nat.le_of_lt HB.out.1.lt) (.cells #[.string lo,.string hi] 60))));clear e0 e1 kn km
 generalize v3.alloc (.cells #[.string lo,.string hi] 60)=v4 at *
 generalize v3.heap.size=m1 at *
 have e0:=HB.out.1.cell 0 (.string c) rfl
 have g0:=HB.out.2.1.cell 0 (.string lo) rfl
 have g1:=HB.out.2.1.cell 1 (.string hi) rfl
 go_wp2_with fail
 refine (O.out.2.2.2.1 _ HB.out.2.2).mono ?_
 rintro e v5 ⟨rfl,b⟩
 replace HB:=Ha (Hb (HB.out.2.1.next b) (HB.out.2.2.trans (b.mono (Nat.le_of_lt HB.out.1.lt))));clear b e0 g0 g1
 have g0:=HB.out.1.cell 0 (.string lo) rfl
 have g1:=HB.out.1.cell 1 (.string hi) rfl
 cases ng
 ·go_wp2
  go_ret
  have hb:=HB.out.2
  rw [←HK.out] at hb
  exact ⟨rfl,hb⟩
 ·have OO:=Ha (O.out.2.2.2.2 rfl);clear O
  go_wp2_with fail
  refine (OO.out _ HB.out.2).mono ?_
  rintro e v6 ⟨rfl,b⟩
  have HN:=HB.out.2.trans (b.mono (Nat.le_trans (by rw [HK.out];exact Nat.le_refl _) HB.out.2.size))
  rw [←HK.out] at HN
  have HN:=Ha HN
  go_wp2
  go_ret
  exact ⟨rfl,HN.out⟩
theorem xo (b n c pl:Nat) (un:ByteArray) (cs rs ds ss:Nat→ByteArray) (q f m:ByteArray) (w:World) (h100:n≤100) (hpl:pl≤40) (h0:ss 0=⟨#[48]⟩) (hb:b<w.heap.size)
  (hc:∀ j,j<n→w.cell? ⟨b,j*2,none⟩=some (.string (cs j))∧w.cell? ⟨b,j*2+1,none⟩=some (.string (rs j)))
  (hr:∀ j,j<n→∀ W,Below w.heap.size w W→Calls Tryz.prog 178 #[.agg #[.string (cs j),.string (rs j)],.int .i64 ((pl:Int)+2)] W fun e W'=>e = .returned (.string (ds j))∧Below W.heap.size W W')
  (hp:∀ j,j<n→∀ W,Below w.heap.size w W→Calls Tryz.prog 9 #[.string (ss j),.string (ds j)] W fun e W'=>e = .returned (.tuple #[.string (ss (j+1)),.int .i64 0])∧Below W.heap.size W W')
  (hd:∀ W,Below w.heap.size w W→Calls Tryz.prog 11 #[.string (ss n),.string un] W fun e W'=>e = .returned (.tuple #[.string q,.int .i64 0])∧Below W.heap.size W W')
  (hf:∀ W,Below w.heap.size w W→Calls Tryz.prog 179 #[.string q] W fun e W'=>e = .returned (.tuple #[.string f,.int .i64 0])∧Below W.heap.size W W')
  (hm:∀ W,Below w.heap.size w W→Calls Tryz.prog 10 #[.string f,.string un] W fun e W'=>e = .returned (.tuple #[.string m,.int .i64 0])∧Below W.heap.size W W') :
  Calls Tryz.prog 119 #[.slice (some ⟨b,0,none⟩) n c,.int .i64 pl,.string un] w fun e W'=>e = .returned (.string m)∧Below w.heap.size w W':=by
 have O:=Ha (Hb hc (Hb hr (Hb hp (Hb hd (Hb hf hm)))));clear hc hr hp hd hf hm
 have hw:IntKind.i64.wrap ((pl:Int)+2)=(pl:Int)+2:=by rw [IntKind.wrap_i64];omega
 clear hpl
 go_enter Tryz.func119,Tryz.ntmps119
 go_wp2
 go_loopw [7,16] (fun s i wr=>∃ j:Nat,s = .string (ss j)∧i = .int .i64 j∧j≤n∧Hid (Below w.heap.size w wr)) (fun _ i _=>n - (intOf i).toNat)
 case atStart=>exact ⟨0,by rw [h0],rfl,by omega,Below.refl _ _⟩
 case round =>
  obtain ⟨j,rfl,rfl,hj,HB⟩:=hrel
  by_cases hlt:j<n
  ·have hz:(j:Int)<n:=by omega
   have d0:=(HB.out.cell (p:=⟨b,j*2,none⟩) hb).trans (O.out.1 j hlt).1
   have d1:=(HB.out.cell (p:=⟨b,j*2+1,none⟩) hb).trans (O.out.1 j hlt).2
   have hr:=Ha (O.out.2.1 j hlt)
   have hp:=Ha (O.out.2.2.1 j hlt)
   clear h0
   generalize cs j=cj at *
   generalize rs j=rj at *
   generalize ds j=dj at *
   generalize hsj:ss j=sj at *
   generalize hsk:ss (j+1)=sk at *
   have HS:=Ha hsk;clear hsk hsj
   go_wp2_with fail
   have HN:=Ha (Hb (Blk.new wr #[.string cj,.string rj] 43) (HB.out.alloc HB.out.size (.cells #[.string cj,.string rj] 43)))
   clear HB;have HB:=HN;clear HN
   generalize wr.alloc (.cells #[.string cj,.string rj] 43)=u at *
   generalize wr.heap.size=k at *
   clear d0 d1
   have e0:=HB.out.1.cell 0 (.string cj) rfl;have e1:=HB.out.1.cell 1 (.string rj) rfl
   go_wp2_with fail
   refine (hr.out _ HB.out.2).mono ?_
   rintro e w2 ⟨rfl,b2⟩
   replace HB:=Ha (HB.out.2.trans (b2.mono HB.out.2.size));clear b2 e0 e1
   go_wp2_with fail
   refine (hp.out _ HB.out).mono ?_
   rintro e w3 ⟨rfl,b3⟩
   replace HB:=Ka HB b3 HB.out.size;clear b3
   go_wp2
   go_roundw
   case rel=>exact ⟨j+1,by rw [HS.out],by go_num,by omega,HB.out⟩
   case measure=>simp [intOf];omega
  ·have ej:j=n:=by omega
   rw [ej]
   clear hlt hj h0 ej
   have hz:¬ (n:Int)<n:=by omega
   go_wp2_with fail
   refine (O.out.2.2.2.1 _ HB.out).mono ?_
   rintro e w2 ⟨rfl,b2⟩
   replace HB:=Ka HB b2 HB.out.size;clear b2
   go_wp2_with fail
   refine (O.out.2.2.2.2.1 _ HB.out).mono ?_
   rintro e w3 ⟨rfl,b3⟩
   replace HB:=Ka HB b3 HB.out.size;clear b3
   go_wp2_with fail
   refine (O.out.2.2.2.2.2 _ HB.out).mono ?_
   rintro e w4 ⟨rfl,b3⟩
   replace HB:=Ka HB b3 HB.out.size;clear b3
   go_wp2
   go_ret
   exact ⟨rfl,HB.out⟩
theorem vy (p:Option Addr) (n c:Nat) (pl:Nat) (un lo hi:ByteArray) (o2:Int) (P1 P2:Value→World→Prop) (w:World)
  (h1:∀ W,Below w.heap.size w W→Calls Tryz.prog 119 #[.slice p n c,.int .i64 pl,.string un] W fun e W'=>e = .returned (.string lo)∧Below W.heap.size W W')
  (h2:∀ W,Below w.heap.size w W→Calls Tryz.prog 121 #[.string lo] W fun e W'=>∃ v,e = .returned v∧P1 v W'∧Below W.heap.size W W')
  (h3:∀ v W,P1 v W→Below w.heap.size w W→Calls Tryz.prog 120 #[v,.slice p n c] W fun e W'=>e = .returned (.tuple #[.int .i64 (-1),.int .i64 0])∧Below W.heap.size W W')
  (h4:∀ W,Below w.heap.size w W→Calls Tryz.prog 9 #[.string lo,.string un] W fun e W'=>e = .returned (.tuple #[.string hi,.int .i64 0])∧Below W.heap.size W W')
  (h5:∀ W,Below w.heap.size w W→Calls Tryz.prog 121 #[.string hi] W fun e W'=>∃ v,e = .returned v∧P2 v W'∧Below W.heap.size W W')
  (h6:∀ v W,P2 v W→Below w.heap.size w W→Calls Tryz.prog 120 #[v,.slice p n c] W fun e W'=>e = .returned (.tuple #[.int .i64 o2,.int .i64 0])∧Below W.heap.size W W') :
  Calls Tryz.prog 72 #[.slice p n c,.int .i64 pl,.string un] w fun e W'=>e = .returned (.tuple #[.agg #[.string lo,.string hi],.int .i64 0])∧Below w.heap.size w W':=by
 have O:=Ha (Hb h1 (Hb h2 (Hb h3 (Hb h4 (Hb h5 h6)))));clear h1 h2 h3 h4 h5 h6
 go_enter Tryz.func72,Tryz.ntmps72
 go_wp2_with fail
 have HB:=Ha (Hb (Blk.new w #[.string ⟨#[]⟩,.string ⟨#[]⟩] 60) ((Below.refl _ w).alloc (Nat.le_refl _) (.cells #[.string ⟨#[]⟩,.string ⟨#[]⟩] 60)))
 generalize w.alloc (.cells #[.string ⟨#[]⟩,.string ⟨#[]⟩] 60)=W0 at *
 generalize hk:w.heap.size=k at *
 have HK:=Ha hk;clear hk
 refine (O.out.1 _ HB.out.2).mono ?_
 rintro e v1 ⟨rfl,b⟩
 replace HB:=Kc HB b;clear b
 go_wp2_with fail
 refine (O.out.2.1 _ HB.out.2).mono ?_
 rintro e v2 ⟨x1,rfl,p1,b⟩
 have HP:=Ha p1;clear p1
 replace HB:=Kc HB b;clear b
 go_wp2_with fail
 refine (O.out.2.2.1 _ _ HP.out HB.out.2).mono ?_
 rintro e v3 ⟨rfl,b⟩
 replace HB:=Kc HB b;clear b HP
 go_wp2_with fail
 have km:k<v3.heap.size:=HB.out.1.lt
 replace HB:=Ha (Hb (HB.out.1.alloc (.cells #[.string lo,.string lo] 60)) (Hb (Blk.new v3 #[.string lo,.string lo] 60) (HB.out.2.alloc (Nat.le_of_lt km) (.cells #[.string lo,.string lo] 60))))
 generalize v3.alloc (.cells #[.string lo,.string lo] 60)=v4 at *
 generalize v3.heap.size=m at *
 refine (O.out.2.2.2.1 _ HB.out.2.2).mono ?_
 rintro e v5 ⟨rfl,b⟩
 replace HB:=Kd HB b;clear b
 have r1:=HB.out.2.1.cell 1 (.string lo) rfl
 have q1:=HB.out.2.1.free 1
 go_wp2_with fail
 replace HB:=Ha (Hb (HB.out.1.other (p:=⟨m,1,none⟩) (Nat.ne_of_lt km) (.string hi)) (Hb (show Blk _ m #[.string lo,.string hi] from HB.out.2.1.set 1 (.string hi)) (HB.out.2.2.setCell (p:=⟨m,1,none⟩) (Nat.le_of_lt km) (.string hi))));clear r1 q1
 generalize v5.setCell ⟨m,1,none⟩ (.string hi)=v6 at *
 refine (O.out.2.2.2.2.1 _ HB.out.2.2).mono ?_
 rintro e v7 ⟨x2,rfl,p1,b⟩
 have HP:=Ha p1;clear p1
 replace HB:=Kd HB b;clear b
 go_wp2_with fail
 refine (O.out.2.2.2.2.2 _ _ HP.out HB.out.2.2).mono ?_
 rintro e v8 ⟨rfl,b⟩
 replace HB:=Kd HB b;clear b HP
 have r0:=HB.out.2.1.cell 0 (.string lo) rfl
 have r1:=HB.out.2.1.cell 1 (.string hi) rfl
 have t0:=HB.out.1.cell 0 (.string ⟨#[]⟩) rfl
 have t1:=HB.out.1.cell 1 (.string ⟨#[]⟩) rfl
 have f0:=HB.out.1.free 0
 have f1:=HB.out.1.free 1
 go_wp2
 have g:=HB.out.1.put2 (.string lo) (.string hi)
 have g0:=g.cell 0 (.string lo) rfl
 have g1:=g.cell 1 (.string hi) rfl
 refine bodyPost_ret (v := .tuple #[.agg #[.string lo,.string hi],.int .i64 0]) (by simp [results,Tryz.results72,go_sem,g0,g1]) rfl ?_
 refine ⟨rfl,?_⟩
 rw [HK.out]
 exact bi HB.out.2.2 (l:=k) (Nat.le_refl _) (.string lo) (.string hi)
theorem CZ (q:Option Addr) (n c:Nat) (p:Nat) (un:ByteArray) (lo hi:ByteArray) (w:World) (hp:p≤40)
  (h1:∀ d W,Blk W d #[.slice q n c]→Below w.heap.size w W→Calls Tryz.prog 70 #[.slice (some ⟨d,0,none⟩) 1 1] W fun e W'=>e = .returned (.int .i64 0)∧Below W.heap.size W W')
  (h2:∀ W,Below w.heap.size w W→Calls Tryz.prog 73 #[.int .i64 p] W fun e W'=>e = .returned (.string un)∧Below W.heap.size W W')
  (h3:∀ W,Below w.heap.size w W→Calls Tryz.prog 72 #[.slice q n c,.int .i64 p,.string un] W fun e W'=>e = .returned (.tuple #[.agg #[.string lo,.string hi],.int .i64 0])∧Below W.heap.size W W') :
  Calls Tryz.prog 28 #[.slice q n c,.int .i64 p] w fun e W'=>e = .returned (.tuple #[.agg #[.string lo,.string hi],.int .i64 0])∧Below w.heap.size w W':=by
 have h4:=fun W=>ePl p W hp
 have O:=Ha (Hb h1 (Hb h2 (Hb h3 h4)));clear h1 h2 h3 h4 hp
 go_enter Tryz.func28,Tryz.ntmps28
 go_wp2_with fail
 have K0:=(Blk.new w #[.string ⟨#[]⟩,.string ⟨#[]⟩] 60).alloc (.cells #[.slice q n c] 45)
 have H0:=(Below.refl _ w).alloc (Nat.le_refl _) (.cells #[.string ⟨#[]⟩,.string ⟨#[]⟩] 60)
 have HB:=Ha (Hb K0 (H0.alloc H0.size (.cells #[.slice q n c] 45)));clear H0 K0
 have K:=Blk.new (w.alloc (.cells #[.string ⟨#[]⟩,.string ⟨#[]⟩] 60)) #[.slice q n c] 45
 rw [World.size_alloc] at K
 generalize (w.alloc (.cells #[.string ⟨#[]⟩,.string ⟨#[]⟩] 60)).alloc (.cells #[.slice q n c] 45)=W0 at *
 generalize hk:w.heap.size=k at *
 have HK:=Ha hk;clear hk
 refine (O.out.1 _ _ K HB.out.2).mono ?_
 rintro e w1 ⟨rfl,b⟩
 replace HB:=Kc HB b;clear b K
 go_wp2_with fail
 refine (O.out.2.2.2 _).mono ?_
 rintro e w1 ⟨rfl,b⟩
 replace HB:=Kc HB b;clear b
 go_wp2_with fail
 refine (O.out.2.1 _ HB.out.2).mono ?_
 rintro e w1 ⟨rfl,b⟩
 replace HB:=Kc HB b;clear b
 go_wp2_with fail
 refine (O.out.2.2.1 _ HB.out.2).mono ?_
 rintro e w1 ⟨rfl,b⟩
 replace HB:=Kc HB b;clear b
 have t0:=HB.out.1.cell 0 (.string ⟨#[]⟩) rfl
 have t1:=HB.out.1.cell 1 (.string ⟨#[]⟩) rfl
 have f0:=HB.out.1.free 0
 have f1:=HB.out.1.free 1
 go_wp2
 have g:=HB.out.1.put2 (.string lo) (.string hi)
 have g0:=g.cell 0 (.string lo) rfl
 have g1:=g.cell 1 (.string hi) rfl
 refine bodyPost_ret (v := .tuple #[.agg #[.string lo,.string hi],.int .i64 0]) (by simp [results,Tryz.results28,go_sem,g0,g1]) rfl ?_
 refine ⟨rfl,?_⟩
 rw [HK.out]
 exact bi HB.out.2 (l:=k) (Nat.le_refl _) (.string lo) (.string hi)
theorem C5 {k:Nat} {x:Rat} (h:Bq k x) (hk:1≤k):Bq k ((x.num.fdiv x.den:Int):Rat):=by
 refine wc hk (Nat.lt_of_le_of_lt ?_ h.1)
 rw [Int.fdiv_eq_ediv_of_nonneg _ (by omega)]
 exact Int.natAbs_ediv_le_natAbs _ _
theorem An (l:List Tm) (b n c:Nat) (w:World) (hn:n=l.length) (h100:n≤100) (tl:Tl w b l) (hB:∀ t∈l,Bq 20 t.1) (ht:Tab w) (ht2:aH w) :
  Calls Tryz.prog 118 #[.slice (some ⟨b,0,none⟩) n c] w fun e W'=>e = .returned (.bool true)∧Below w.heap.size w W' :=
 vv b n c (fun j=>af (tat l j).1) (fun j=>af (tat l j).2) (fun j=>aa (tat l j).1.num) (fun j=>aa ((tat l j).1.den:Int)) (fun j=>szB (aa (tat l j).1.num)) w h100 tl.lt
  (fun j hj=>⟨tl.c0 j (by omega),tl.c1 j (by omega)⟩)
  (fun j hj W hW=>nQ (tat l j).1 W ((hB _ (bV (by omega))).lim (by decide)) (ht.next hW) (ae ht2 hW))
  (fun j hj W=>(Tryz.strings_TrimPrefix (aa (tat l j).1.num) ⟨#[45]⟩ W).mono fun e W' h=>⟨by rw [h.1,show (⟨#[45]⟩:ByteArray).data.toList = [45] from rfl,oy];rfl,h.2.symm⟩)
  (fun j hj=>by
   have k:=hB _ (bV (l:=l) (j:=j) (by omega))
   refine ⟨?_,by rw [mi];exact xS k.2 (by decide)⟩
   rw [←ag]
   show (szL (aa (tat l j).1.num).data.toList).toArray.toList.length≤20
   rw [List.toList_toArray,aF,iX,Lib.decDigits_length]
   exact xS k.1 (by decide))
end T
namespace T
open Go.RowKit
noncomputable def uq (t:Tm) (p:Nat):Rat:=hiT (t.1*t.1*t.2) p
theorem Ex (t:Tm) (p b:Nat) (w:World) (hp:p≤42) (h0:0≤t.1) (hc:Bq 20 t.1) (hb:t.2=(b:Rat)) (hl:b<ak 40) (ht:Tab w) (ht2:aH w) :
  Calls Tryz.prog 178 #[.agg #[.string (af t.1),.string (af t.2)],.int .i64 p] w fun e W'=>e = .returned (.string (af (uq t p)))∧Below w.heap.size w W':=by
 have q2:Bq 40 t.2:=by rw [hb];exact sF (by decide) hl
 obtain ⟨a1,a2,a3⟩:=a8 hc hc (by decide)
 obtain ⟨b1,b2,b3⟩:=a8 a3 q2 (by decide)
 have nn:0≤t.1*t.1*t.2:=Rat.mul_nonneg (Rat.mul_nonneg h0 h0) (by rw [hb];exact aP b)
 have ng:aw (af t.1).data.toList=false:=by rw [AW];exact decide_eq_false (by grind)
 exact CY (af t.1) (af t.2) (af (t.1*t.1)) (af (t.1*t.1*t.2)) (af (loT (t.1*t.1*t.2) p)) (af (uq t p)) ⟨#[]⟩ p false w
  (fun W h=>by have c:=gz t.1 t.1 W (hc.lim (by decide)) (hc.lim (by decide)) (ht.next h) (ae ht2 h);rwa [a1,a2] at c)
  (fun W h=>by have c:=gz (t.1*t.1) t.2 W (a3.lim (by decide)) (q2.lim (by decide)) (ht.next h) (ae ht2 h);rwa [b1,b2] at c)
  (fun W h=>zJ _ p 80 43 W nn (by omega) b3 (by omega) (by decide) (by decide) (ht.next h) (ae ht2 h))
  (fun W h=>by have c:=GK (af t.1) W;rwa [ng] at c) (fun h=>by cases h)
theorem C8 (q:Rat) (w:World) (h0:q≠0) (hq:Bq 60 q) :
  Calls Tryz.prog 121 #[.string (af q)] w fun e W'=>∃ v,e = .returned v∧Sv W' [(q,((1:Nat):Rat))] v∧Below w.heap.size w W':=by
 refine (Ev (af q) w (by rw [oQ];exact decide_eq_false h0)).mono fun e W' ⟨b,e1,k,bl⟩=>⟨_,e1,⟨_,1,1,rfl,BY (uC h0 hq FJ (by decide)) ?_⟩,bl⟩
 rw [show ((1:Nat):Rat)=1 from rfl,ig];exact k
theorem Ey:uT 0=1:=by decide+kernel
theorem Ez (p:Nat) (w:World) (hp:p≤40) :
  Calls Tryz.prog 73 #[.int .i64 p] w fun e W'=>e = .returned (.string (af (uT p)))∧Below w.heap.size w W':=by
 rcases Nat.eq_zero_or_pos p with rfl | h
 ·rw [Ey,ig];exact Ew w
 ·have c:=xn p ⟨(List.replicate p 48).toArray⟩ w h (by rw [pK];omega) (fun W _=>FA p W (by omega))
  have e:(⟨#[49,47,49]⟩:ByteArray)++⟨(List.replicate p 48).toArray⟩=af (uT p):=by
   have t2:49::List.replicate p 48=Lib.itoa (ak p:Int):=by
    have k:=congrArg (fun s:ByteArray=>s.data.toList) (uu p)
    rw [aF] at k
    exact k
   apply aU
   show [49,47,49]++List.replicate p 48=cG (uT p)
   unfold cG
   rw [(EG p).1,(EG p).2]
   have d1:¬ ak p=1:=by have:=js h;have e1:ak 0=1:=rfl;omega
   simp [d1]
   rw [←t2,bU];rfl
  rwa [e] at c
structure OfD (l:List Tm) (p:Nat) (s:Nat→Rat) (z:Int) (lo hi:Rat):Prop where
 pl:p≤40
 co:∀ t∈l,Bq 20 t.1∧0≤t.1
 s0:s 0=0
 st:∀ j,j<l.length→s (j+1)=s j+uq (tat l j) (p+2)
 bs:∀ j,j≤l.length→Bq 60 (s j)
 bu:∀ t∈l,Bq 60 (uq t (p+2))
 hz:(s l.length / uT p).num.fdiv (s l.length / uT p).den=z
 lz:lo=(z:Rat)*uT p
 hl:hi=lo+uT p
 b1:Bq 60 lo∧lo≠0
 b2:Bq 60 hi∧hi≠0
 g1:Gd ([(lo,((1:Nat):Rat))]++l.map (mulT (-1)))
 g2:Gd ([(hi,((1:Nat):Rat))]++l.map (mulT (-1)))
 v1:sgV (T.fin ([(lo,((1:Nat):Rat))]++l.map (mulT (-1)))) = -1∧sgE (T.fin ([(lo,((1:Nat):Rat))]++l.map (mulT (-1))))=0
 v2:sgV (T.fin ([(hi,((1:Nat):Rat))]++l.map (mulT (-1))))=1∧sgE (T.fin ([(hi,((1:Nat):Rat))]++l.map (mulT (-1))))=0
theorem Gt (l:List Tm) (b n c p:Nat) (s:Nat→Rat) (z:Int) (lo hi:Rat) (w:World) (h:Su w (some ⟨b,0,none⟩) n c l) (hne:0<n) (D:OfD l p s z lo hi) (ht:Tab w) (ht2:aH w) (hS:Sm w) :
  Calls Tryz.prog 28 #[.slice (some ⟨b,0,none⟩) n c,.int .i64 p] w fun e W'=>e = .returned (.tuple #[.agg #[.string (af lo),.string (af hi)],.int .i64 0])∧Below w.heap.size w W':=by
 have hn:=h.sr.1
 have h16:=h.good.len
 have tl:Tl w b l:=by
  obtain ⟨b',e,t⟩:=h.sr.rd (by omega)
  cases e;exact t
 have n100:n≤100:=by omega
 have D60:=D.pl
 have ub:Bq 60 (uT p):=EH (by omega)
 have u0:uT p≠0:=by have:=BF p;grind
 have gd:∀ j,j<n→∃ q:Nat,(tat l j).2=(q:Rat)∧q<ak 40:=fun j hj=>by
  obtain ⟨_,_,q,e,_,lq⟩:=h.good.ok _ (bV (l:=l) (j:=j) (by omega))
  exact ⟨q,e,lq⟩
 have near:=fun W (hW:Below w.heap.size w W)=>xo b n c p (af (uT p)) (fun j=>af (tat l j).1) (fun j=>af (tat l j).2) (fun j=>af (uq (tat l j) (p+2))) (fun j=>af (s j)) (af (s n / uT p)) (af (z:Rat)) (af lo) W n100 D.pl
  (by show af (s 0)=_;rw [D.s0,gg]) (tl.next hW).lt (fun j hj=>⟨(tl.next hW).c0 j (by omega),(tl.next hW).c1 j (by omega)⟩)
  (fun j hj V hV=>by
   obtain ⟨q,e,lq⟩:=gd j hj
   have k:=D.co _ (bV (l:=l) (j:=j) (by omega))
   exact Ex (tat l j) (p+2) q V (by omega) k.2 k.1 e lq ((ht.next hW).next hV) (ae (ae ht2 hW) hV))
  (fun j hj V hV=>by
   have c:=j5 (s j) (uq (tat l j) (p+2)) V ((D.bs j (by omega)).lim (by decide)) ((D.bu _ (bV (l:=l) (j:=j) (by omega))).lim (by decide)) ((ht.next hW).next hV) (ae (ae ht2 hW) hV)
   have k:=cH (D.bs j (by omega)) (D.bu _ (bV (l:=l) (j:=j) (by omega))) (by decide)
   rwa [k.1,k.2.1,←D.st j (by omega)] at c)
  (fun V hV=>by
   have k:=iB (D.bs n (by omega)) ub (by decide) u0
   have c:=xR (s n) (uT p) V ((D.bs n (by omega)).lim (by decide)) (ub.lim (by decide)) u0 ((ht.next hW).next hV) (ae (ae ht2 hW) hV)
   rwa [k.1,k.2.1] at c)
  (fun V hV=>by
   have k:=(iB (D.bs n (by omega)) ub (by decide) u0).2.2
   have c:=Go.Proofs.YtbhbhlfkdlfimaaGreatDoor.Floor_q (s n / uT p) V (k.lim (by decide)) ((ht.next hW).next hV) (ae (ae ht2 hW) hV)
   have e:=D.hz
   rw [←hn] at e
   rwa [e,←ji] at c)
  (fun V hV=>by
   have k:=(iB (D.bs n (by omega)) ub (by decide) u0).2.2
   have zb:Bq 120 (z:Rat):=by
    have e:=D.hz
    rw [←hn] at e
    rw [←e]
    exact C5 k (by decide)
   have c:=gz (z:Rat) (uT p) V (zb.lim (by decide)) (ub.lim (by decide)) ((ht.next hW).next hV) (ae (ae ht2 hW) hV)
   have m:=a8 zb ub (by decide)
   rwa [m.1,m.2.1,←D.lz] at c)
 have cmp:∀ (q:Rat) (v:Value) W,Sv W [(q,((1:Nat):Rat))] v→Gd ([(q,((1:Nat):Rat))]++l.map (mulT (-1)))→Below w.heap.size w W→Calls Tryz.prog 120 #[v,.slice (some ⟨b,0,none⟩) n c] W fun e W'=>e = .returned (.tuple #[.int .i64 (sgV (T.fin ([(q,((1:Nat):Rat))]++l.map (mulT (-1))))),.int .i64 (sgE (T.fin ([(q,((1:Nat):Rat))]++l.map (mulT (-1)))))])∧Below W.heap.size W W':=fun q v W hv hg hW=>by
  obtain ⟨p',n',c',rfl,hs⟩:=hv
  exact wL _ l p' (some ⟨b,0,none⟩) n' n c' c W hs (h.next hW) hg (ht.next hW) (ae ht2 hW) (hS.next hW)
 have ar:=fun W (hW:Below w.heap.size w W)=>vy (some ⟨b,0,none⟩) n c p (af (uT p)) (af lo) (af hi) 1
  (fun v W'=>Sv W' [(lo,((1:Nat):Rat))] v) (fun v W'=>Sv W' [(hi,((1:Nat):Rat))] v) W
  (fun V hV=>near V (hW.trans (hV.mono hW.size)))
  (fun V hV=>C8 lo V D.b1.2 D.b1.1)
  (fun v V hv hV=>by
   have c:=cmp lo v V hv D.g1 (hW.trans (hV.mono hW.size))
   rwa [D.v1.1,D.v1.2] at c)
  (fun V hV=>by
   have c:=j5 lo (uT p) V (D.b1.1.lim (by decide)) (ub.lim (by decide)) (ht.next (hW.trans (hV.mono hW.size))) (ae ht2 (hW.trans (hV.mono hW.size)))
   have k:=cH D.b1.1 ub (by decide)
   rwa [k.1,k.2.1,←D.hl] at c)
  (fun V hV=>C8 hi V D.b2.2 D.b2.1)
  (fun v V hv hV=>by
   have c:=cmp hi v V hv D.g2 (hW.trans (hV.mono hW.size))
   rwa [D.v2.1,D.v2.2] at c)
 exact CZ _ n c p (af (uT p)) _ _ w D.pl
  (fun d W hd hW=>vw d _ n c W hd (fun V hV=>iK l _ n c V (h.next (hW.trans (hV.mono hW.size))).sd (ht.next (hW.trans (hV.mono hW.size))) (ae ht2 (hW.trans (hV.mono hW.size))) (hS.next (hW.trans (hV.mono hW.size))))
   (fun V hV=>by
    have g:=hW.trans (hV.mono hW.size)
    exact An l b n c V hn n100 (tl.next g) (fun t k=>(D.co t k).1) (ht.next g) (ae ht2 g)))
  (fun W _=>Ez p W D.pl)
  ar
end T
namespace T
open Go.RowKit
theorem EA {q:Rat} {n r:Nat} (h1:r*r≤uN q (uT n) / uD q (uT n)) (h2:uN q (uT n) / uD q (uT n)<(r+1)*(r+1)) (h3:¬ r*r*uD q (uT n)=uN q (uT n)):hiN q n=r+1:=by
 unfold hiN upR;rw [gn ⟨h1,h2⟩,if_neg h3]
theorem C9 {s t:Tm} {a b:Int} (h1:rdT 4 s=a) (h2:rdT 4 t=b):(0<a+b→sgV [s,t]=1∧sgE [s,t]=0)∧(a+b+2≤0→sgV [s,t] = -1∧sgE [s,t]=0):=by
 have s4:sml 4 [s,t] [s,t].length=a+b:=by
  rw [sX]
  simp only [List.map_cons,List.map_nil,List.sum_cons,List.sum_nil,h1,h2];omega
 have l : [s,t].length=2:=rfl
 refine ⟨fun h => ?_,fun h => ?_⟩
 ·have d:dec 4 [s,t]=1:=by unfold dec;rw [s4,if_pos h]
  unfold sgV sgE
  rw [d,l];exact ⟨rfl,rfl⟩
 ·have d:dec 4 [s,t] = -1:=by unfold dec;rw [s4,l,if_neg (by omega),if_pos (by omega)]
  unfold sgV sgE
  rw [d,l];exact ⟨rfl,rfl⟩
theorem Gu {r c:Rat} (hr:r≠0) (hc:c≠0):Lt [(r,((1:Nat):Rat)),(c,((2:Nat):Rat))]:=fun t ht=>by
 have:t=(r,((1:Nat):Rat))∨t=(c,((2:Nat):Rat)):=by simpa using ht
 rcases this with rfl | rfl
 ·exact ⟨hr,1,rfl,FJ,by decide⟩
 ·exact ⟨hc,2,rfl,Gq,by decide⟩
theorem EJ {r c:Rat} (hr:r≠0) (hc:c≠0):T.fin [(r,((1:Nat):Rat)),(c,((2:Nat):Rat))] = [(r,((1:Nat):Rat)),(c,((2:Nat):Rat))] :=
 FK (Gu hr hc) (List.pairwise_cons.2 ⟨fun s hs=>by obtain rfl:=List.mem_singleton.1 hs;exact (by decide+kernel:((1:Nat):Rat)≠((2:Nat):Rat)),List.pairwise_singleton _ _⟩)
theorem GL {g:List Tm} (h:∀ t∈g,t.2=((1:Nat):Rat)∨t.2=((2:Nat):Rat)):Cl [1,2] g:=fun t ht _=>by
 rcases h t ht with e | e
 ·exact ⟨1,by simp,by rw [e];exact Rl.refl _⟩
 ·exact ⟨2,by simp,by rw [e];exact Rl.refl _⟩
theorem Gw {r c:Rat} {D M:Nat} (jr:J D M r) (jc:J D M c) (hD:0<D) (h1:2*(M*(2*2))<ak 60) (h2:D*2<ak 60):Gd [(r,((1:Nat):Rat)),(c,((2:Nat):Rat))]:=by
 have hm:∀ t ∈ [(r,((1:Nat):Rat)),(c,((2:Nat):Rat))],t=(r,((1:Nat):Rat))∨t=(c,((2:Nat):Rat)):=fun t ht=>by simpa using ht
 refine BK (D:=D) (M:=M) (R:=2) (k:=2) (C := [1,2]) (fun t ht => ?_) hD (by decide) (Nat.le_refl 2) (by decide) (by decide+kernel) h1 h2 (GL fun t ht => ?_) (by decide)
 ·rcases hm t ht with rfl | rfl
  ·exact ⟨jr,1,rfl,by decide⟩
  ·exact ⟨jc,2,rfl,by decide⟩
 ·rcases hm t ht with rfl | rfl
  ·exact .inl rfl
  ·exact .inr rfl
theorem Gx:uq ((1:Rat),((2:Nat):Rat)) 3=mkRat 283 200:=by
 have h:hiN ((1:Rat)*1*((2:Nat):Rat)) 3=1415:=EA (r:=1414) (by decide+kernel) (by decide+kernel) (by decide+kernel)
 show ((hiN ((1:Rat)*1*((2:Nat):Rat)) 3:Nat):Rat)*uT 3=_
 rw [h];decide+kernel
def hf:Rat:=mkRat 1 2
def q75:Rat:=mkRat 7 5
def q32:Rat:=mkRat 3 2
theorem Gy {c:Rat} {n s:Nat} (h0:0≤c.num) (h1:s*s≤rdN c 1 4 / (c.den*c.den)) (h2:rdN c 1 4 / (c.den*c.den)<(s+1)*(s+1)) (hn:n=s):rdT 4 (c,((1:Nat):Rat))=n:=by
 subst hn;exact pn h0 h1 h2
theorem vz {D M:Nat} {x:Rat} (z:Int) (h:x*(D:Rat)=(z:Rat)) (b:z.natAbs≤M):J D M x:=⟨z,h,b⟩
theorem qg {x:Rat} (h:x.num.natAbs<10000∧x.den<10000) {k:Nat} (hk:4≤k):Bq k x:=by
 have:Bq 4 x:=h
 exact this.up hk
theorem D_a:OfD [((1:Rat),((2:Nat):Rat))] 1 (fun j=>if j=0 then 0 else mkRat 283 200) 14 q75 q32 where
 pl:=by decide
 co:=fun t ht=>by obtain rfl:=List.mem_singleton.1 ht;exact ⟨so.up (by decide),by decide+kernel⟩
 s0:=rfl
 st:=fun j hj=>by
  obtain rfl:j=0:=by simp at hj;omega
  show mkRat 283 200=0+uq ((1:Rat),((2:Nat):Rat)) 3
  rw [Gx];decide+kernel
 bs:=fun j hj=>by
  show Bq 60 (if j=0 then 0 else mkRat 283 200)
  split
  ·exact jR.up (by decide)
  ·exact qg (by decide+kernel) (by decide)
 bu:=fun t ht=>by
  obtain rfl:=List.mem_singleton.1 ht
  show Bq 60 (uq _ 3)
  rw [Gx];exact qg (by decide+kernel) (by decide)
 hz:=by decide+kernel
 lz:=by decide+kernel
 hl:=by decide+kernel
 b1:=⟨qg (by decide+kernel) (by decide),by decide+kernel⟩
 b2:=⟨qg (by decide+kernel) (by decide),by decide+kernel⟩
 g1:=Gw (D:=10) (M:=15) (vz 14 (by decide+kernel) (by decide)) (vz (-10) (by decide+kernel) (by decide)) (by decide) (by decide+kernel) (by decide+kernel)
 g2:=Gw (D:=10) (M:=15) (vz 15 (by decide+kernel) (by decide)) (vz (-10) (by decide+kernel) (by decide)) (by decide) (by decide+kernel) (by decide+kernel)
 v1:=by
  show sgV (T.fin [(q75,((1:Nat):Rat)),((1:Rat) * -1,((2:Nat):Rat))]) = -1∧sgE (T.fin [(q75,((1:Nat):Rat)),((1:Rat) * -1,((2:Nat):Rat))])=0
  rw [EJ (by decide+kernel) (by decide+kernel)]
  exact (C9 (a:=14000) (b := -14143) (Gy (s:=14000) (by decide+kernel) (by decide+kernel) (by decide+kernel) rfl) (BX (s:=14142) (by decide+kernel) (by decide+kernel) (by decide+kernel) (by decide+kernel))).2 (by decide)
 v2:=by
  show sgV (T.fin [(q32,((1:Nat):Rat)),((1:Rat) * -1,((2:Nat):Rat))])=1∧sgE (T.fin [(q32,((1:Nat):Rat)),((1:Rat) * -1,((2:Nat):Rat))])=0
  rw [EJ (by decide+kernel) (by decide+kernel)]
  exact (C9 (a:=15000) (b := -14143) (Gy (s:=15000) (by decide+kernel) (by decide+kernel) (by decide+kernel) rfl) (BX (s:=14142) (by decide+kernel) (by decide+kernel) (by decide+kernel) (by decide+kernel))).1 (by decide)
end T
namespace T
open Go.RowKit
theorem Gz {m:Rat} (hm:0<m):T.vl m (prods [((1:Rat),((1:Nat):Rat)),(1,((2:Nat):Rat))] [((1:Rat),((1:Nat):Rat)),(-1,((2:Nat):Rat))])=co m (-1,((1:Nat):Rat)):=by
 show co m (1*1,((1:Nat):Rat)*((1:Nat):Rat))+(co m (1 * -1,((1:Nat):Rat)*((2:Nat):Rat))+(co m (1*1,((2:Nat):Rat)*((1:Nat):Rat))+(co m (1 * -1,((2:Nat):Rat)*((2:Nat):Rat))+0)))=_
 have e1:(1:Rat)*1=1:=by decide+kernel
 have e2:(1:Rat) * -1 = -1:=by decide+kernel
 have f1:((1:Nat):Rat)*((1:Nat):Rat)=1:=by decide+kernel
 have f2:((1:Nat):Rat)*((2:Nat):Rat)=2:=by decide+kernel
 have f3:((2:Nat):Rat)*((1:Nat):Rat)=2:=by decide+kernel
 have f4:((2:Nat):Rat)*((2:Nat):Rat)=2*2*1:=by decide+kernel
 have f5:((1:Nat):Rat)=1:=rfl
 rw [e1,e2,f1,f2,f3,f4,f5,vX (-1) hm (by decide+kernel) (by decide+kernel)]
 have a1:=vY (m:=m) (-1) 1 2
 rw [show (-1:Rat)+1=0 by decide+kernel,r6] at a1
 have a2:=vY (m:=m) 1 (-1*2) 1
 rw [show (1:Rat) + -1*2 = -1 by decide+kernel] at a2
 rw [a2]
 grind
theorem awT {r:List Tm}:Gd (prods [((1:Rat),((1:Nat):Rat)),(1,((2:Nat):Rat))] [((1:Rat),((1:Nat):Rat)),(-1,((2:Nat):Rat))])∧(r.Perm (T.fin (prods [((1:Rat),((1:Nat):Rat)),(1,((2:Nat):Rat))] [((1:Rat),((1:Nat):Rat)),(-1,((2:Nat):Rat))]))→Good r→r = [(-1,((1:Nat):Rat))]) :=
 DW (D:=1) (M:=1) (R:=4) (k:=4) (fun t ht=>by
  have:t=((1:Rat)*1,((1:Nat):Rat)*((1:Nat):Rat))∨t=((1:Rat) * -1,((1:Nat):Rat)*((2:Nat):Rat))∨t=((1:Rat)*1,((2:Nat):Rat)*((1:Nat):Rat))∨t=((1:Rat) * -1,((2:Nat):Rat)*((2:Nat):Rat)):=by simpa [prods] using ht
  rcases this with rfl | rfl | rfl | rfl
  ·exact ⟨vz 1 (by decide+kernel) (by decide),1,by decide+kernel,by decide⟩
  ·exact ⟨vz (-1) (by decide+kernel) (by decide),2,by decide+kernel,by decide⟩
  ·exact ⟨vz 1 (by decide+kernel) (by decide),2,by decide+kernel,by decide⟩
  ·exact ⟨vz (-1) (by decide+kernel) (by decide),4,by decide+kernel,by decide⟩) (by decide) (by decide) (by decide) (by decide) (by decide) (by decide+kernel) (by decide+kernel) FJ (by decide) (by decide) fun m hm=>Gz hm
theorem EL {W:World} {b:Nat} {c:Rat} (hc:c≠0) (hB:Bq 60 c) (h:Blk W b #[.string ⟨#[49]⟩,.string ⟨#[49]⟩,.string (af c),.string ⟨#[50]⟩]):Su W (some ⟨b,0,none⟩) 2 2 [((1:Rat),((1:Nat):Rat)),(c,((2:Nat):Rat))]:=by
 refine Su.lit (l := [((1:Rat),((1:Nat):Rat)),(c,((2:Nat):Rat))]) (yr (Gu (r:=1) (by decide+kernel) hc) (fun t ht => ?_) (show 2≤16 by decide) (List.pairwise_cons.2 ⟨fun s hs=>by obtain rfl:=List.mem_singleton.1 hs;exact (by decide+kernel:((1:Nat):Rat)<((2:Nat):Rat)),List.pairwise_singleton _ _⟩)) (Tl.lit2 1 1 c 2 ?_) 2 (by simp)
 ·have:t=((1:Rat),((1:Nat):Rat))∨t=(c,((2:Nat):Rat)):=by simpa using ht
  rcases this with rfl | rfl
  ·exact so.up (by decide)
  ·exact hB
 ·rw [sq1,sq2];exact h
theorem GA {W:World} {b:Nat} (h:Blk W b #[.string ⟨#[49]⟩,.string ⟨#[50]⟩]):Su W (some ⟨b,0,none⟩) 1 1 [((1:Rat),((2:Nat):Rat))]:=by
 refine BY (uC (by decide) (so.up (by decide)) Gq (by decide)) ?_
 rw [show ((2:Nat):Rat)=2 from rfl,sq1,sq2];exact h
theorem GM (W:World):(Builtin.max_ #[26,26,26,26] 26 #[.int .i64 0,.int .i64 0,.int .i64 0,.int .i64 0]).run Tryz.prog W = .ok (.int .i64 0) W:=by kernel_rfl
theorem xp (w:World) (ht:Tab w) (ht2:aH w) (hS:Sm w):Calls Tryz.prog 8 #[] w fun e W'=>e = .returned (.bool true)∧Below w.heap.size w W':=by
 have T:=fun W (h:Below w.heap.size w W)=>Hb (ht.next h) (Hb (ae ht2 h) (hS.next h))
 have s1:af (mkRat 1 2)=⟨#[49,47,50]⟩:=by decide+kernel
 have s2:af (mkRat 1 3)=⟨#[49,47,51]⟩:=by decide+kernel
 have r1:kN (mkRat 1 2) (mkRat 1 3)=⟨#[53,47,54]⟩:=by decide+kernel
 have r1':kO (mkRat 1 2) (mkRat 1 3)=0:=by decide+kernel
 have c1:=fun W (h:Below w.heap.size w W)=>j5 (mkRat 1 2) (mkRat 1 3) W ((qg (by decide+kernel) (by decide):Bq 60 _).lim (by decide)) ((qg (by decide+kernel) (by decide):Bq 60 _).lim (by decide)) (T W h).1 (T W h).2.1
 rw [s1,s2,r1,r1'] at c1
 have c2:∀ W b b',Below w.heap.size w W→Blk W b #[.string ⟨#[49]⟩,.string ⟨#[49]⟩,.string ⟨#[49]⟩,.string ⟨#[50]⟩]→Blk W b' #[.string ⟨#[49]⟩,.string ⟨#[49]⟩,.string ⟨#[45,49]⟩,.string ⟨#[50]⟩]→Calls Tryz.prog 26 #[.slice (some ⟨b,0,none⟩) 2 2,.slice (some ⟨b',0,none⟩) 2 2] W fun e W'=>∃ v,e = .returned (.tuple #[v,.int .i64 0])∧Sv W' [(-1,((1:Nat):Rat))] v∧Below W.heap.size W W':=fun W b b' h k k'=>by
  rw [←show af (-1)=⟨#[45,49]⟩ from by decide+kernel] at k'
  have k2:Blk W b #[.string ⟨#[49]⟩,.string ⟨#[49]⟩,.string (af 1),.string ⟨#[50]⟩]:=by rw [sq1];exact k
  refine (FG _ _ _ _ 2 2 2 2 W (EL (by decide) (so.up (by decide)) k2) (EL (by decide+kernel) (qg (by decide+kernel) (by decide)) k') (awT (r := [])).1 (T W h).1 (T W h).2.1 (T W h).2.2).mono fun e W' r=>r.only fun r hp hg=>awT.2 hp hg
 have c3:∀ W v,Below w.heap.size w W→Sv W [(-1,((1:Nat):Rat))] v→Calls Tryz.prog 27 #[v] W fun e W'=>e = .returned (.tuple #[.string ⟨#[45,49]⟩,.bool true,.int .i64 0])∧Below W.heap.size W W':=fun W v h hv=>by
  obtain ⟨p,n,c,rfl,hs⟩:=hv
  have k:=BO _ p n c W hs (T W h).1 (T W h).2.1 (T W h).2.2
  have e1:vI [((-1:Rat),((1:Nat):Rat))]=true:=by unfold vI;decide+kernel
  have e2:vS [((-1:Rat),((1:Nat):Rat))]=⟨#[45,49]⟩:=by unfold vS;decide+kernel
  rwa [e1,e2] at k
 have c4:=fun W b (h:Below w.heap.size w W) (k:Blk W b #[.string ⟨#[49]⟩,.string ⟨#[50]⟩])=>Gt _ b 1 1 1 _ 14 q75 q32 W (GA k) (by decide) D_a (T W h).1 (T W h).2.1 (T W h).2.2
 rw [show af q75=⟨#[55,47,53]⟩ from by decide+kernel,show af q32=⟨#[51,47,50]⟩ from by decide+kernel] at c4
 have O:=Ha (Hb c1 (Hb c2 (Hb c3 c4)));clear c1 c2 c3 c4 T ht ht2 hS s1 s2 r1 r1'
 have m4:=GM
 go_enter Tryz.func8,Tryz.ntmps8
 go_wp2_with fail
 refine (O.out.1 _ (Below.refl _ _)).mono ?_
 rintro e w1 ⟨rfl,b⟩
 have HB:=Ha b;clear b
 go_wp2_with fail
 have K1:=(Blk.new w1 #[.string ⟨#[49]⟩,.string ⟨#[49]⟩,.string ⟨#[49]⟩,.string ⟨#[50]⟩] 43).alloc (.cells #[.string ⟨#[49]⟩,.string ⟨#[49]⟩,.string ⟨#[45,49]⟩,.string ⟨#[50]⟩] 43)
 have K2:=Blk.new (w1.alloc (.cells #[.string ⟨#[49]⟩,.string ⟨#[49]⟩,.string ⟨#[49]⟩,.string ⟨#[50]⟩] 43)) #[.string ⟨#[49]⟩,.string ⟨#[49]⟩,.string ⟨#[45,49]⟩,.string ⟨#[50]⟩] 43
 rw [World.size_alloc] at K2
 replace HB:=Ha ((HB.out.alloc HB.out.size (.cells #[.string ⟨#[49]⟩,.string ⟨#[49]⟩,.string ⟨#[49]⟩,.string ⟨#[50]⟩] 43)).alloc (by rw [World.size_alloc];have:=HB.out.size;omega) (.cells #[.string ⟨#[49]⟩,.string ⟨#[49]⟩,.string ⟨#[45,49]⟩,.string ⟨#[50]⟩] 43))
 generalize (w1.alloc (.cells #[.string ⟨#[49]⟩,.string ⟨#[49]⟩,.string ⟨#[49]⟩,.string ⟨#[50]⟩] 43)).alloc (.cells #[.string ⟨#[49]⟩,.string ⟨#[49]⟩,.string ⟨#[45,49]⟩,.string ⟨#[50]⟩] 43)=W0 at *
 generalize w1.heap.size=g at *
 refine (O.out.2.1 _ _ _ HB.out K1 K2).mono ?_
 rintro e w2 ⟨v,rfl,s,b⟩
 have S:=Ha s;clear s K1 K2
 replace HB:=Ka HB b HB.out.size;clear b
 go_wp2_with fail
 refine (O.out.2.2.1 _ _ HB.out S.out).mono ?_
 rintro e w3 ⟨rfl,b⟩
 replace HB:=Ka HB b HB.out.size;clear b S
 go_wp2_with fail
 replace HB:=Ha (Hb (Blk.new w3 #[.string ⟨#[49]⟩,.string ⟨#[50]⟩] 43) (HB.out.alloc HB.out.size (.cells #[.string ⟨#[49]⟩,.string ⟨#[50]⟩] 43)))
 refine (O.out.2.2.2 _ _ HB.out.2 HB.out.1).mono ?_
 rintro e w4 ⟨rfl,b⟩
 replace HB:=Ha (HB.out.2.trans (b.mono HB.out.2.size));clear b
 go_wp2
 go_ret
 exact ⟨rfl,HB.out.alloc HB.out.size _⟩
end T
end Go.Proofs.YtbhbhlfkdlfimaaGreatDoor
