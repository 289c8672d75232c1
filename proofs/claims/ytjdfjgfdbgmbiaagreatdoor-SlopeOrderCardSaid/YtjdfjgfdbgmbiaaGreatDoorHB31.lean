/- Parts of the proof of the text YtjdfjgfdbgmbiaaGreatDoorHB39. -/
import Derived.RegionTactic
import Derived.ChangeAlike
import Derived.Test.YtjdfjgfdbgmbiaaGreatDoorHB1
import Derived.Test.YtjdfjgfdbgmbiaaGreatDoorHB30
set_option linter.all false
set_option maxRecDepth 100000
set_option maxHeartbeats 8000000
namespace Go.Proofs.YtjdfjgfdbgmbiaaGreatDoor.T
open Go.Proofs.YtjdfjgfdbgmbiaaGreatDoor Go Go.RowKit
def Q4 (w:World) (k x y:Nat) (a b c d t r:ByteArray) (W:World):Prop:=Blk W x #[.string a,.string b]∧Blk W y #[.string c,.string d]∧Blk W k #[.string t,.string r]∧Below k w W
theorem Q4.f {w W:World} {k x y:Nat} {a b c d t r:ByteArray} (H:Hid (Q4 w k x y a b c d t r W)):W.cell? ⟨x,0,none⟩=some (.string a)∧W.cell? ⟨x,1,none⟩=some (.string b)∧W.frozen? ⟨x,0,none⟩=false∧W.frozen? ⟨x,1,none⟩=false ∧
  W.cell? ⟨y,0,none⟩=some (.string c)∧W.cell? ⟨y,1,none⟩=some (.string d)∧W.frozen? ⟨y,0,none⟩=false∧W.frozen? ⟨y,1,none⟩=false :=
 have h:=H.out
 ⟨h.1.cell 0 _ rfl,h.1.cell 1 _ rfl,h.1.free 0,h.1.free 1,h.2.1.cell 0 _ rfl,h.2.1.cell 1 _ rfl,h.2.1.free 0,h.2.1.free 1⟩
theorem Q4.n {w W W':World} {k x y:Nat} {a b c d t r:ByteArray} (H:Hid (Q4 w k x y a b c d t r W)) (g:Below W.heap.size W W'):Hid (Q4 w k x y a b c d t r W') :=
 have h:=H.out
 Lib.hid ⟨h.1.next g,h.2.1.next g,h.2.2.1.next g,h.2.2.2.trans (g.mono (Nat.le_of_lt h.2.2.1.lt))⟩
theorem Q4.s {w W:World} {k x y:Nat} {a b c d t r:ByteArray} (H:Hid (Q4 w k x y a b c d t r W)) (xy:x≠y) (kx:k<x) (ky:k<y) :
  Hid (Q4 w k x y c d a b t r ((((W.setCell ⟨x,0,none⟩ (.string c)).setCell ⟨x,1,none⟩ (.string d)).setCell ⟨y,0,none⟩ (.string a)).setCell ⟨y,1,none⟩ (.string b))) :=
 have h:=H.out
 Lib.hid ⟨(h.1.put2 _ _).other2 xy _ _,(h.2.1.other2 xy.symm _ _).put2 _ _,(h.2.2.1.other2 (Nat.ne_of_lt kx) _ _).other2 (Nat.ne_of_lt ky) _ _,below_put2 (below_put2 h.2.2.2 (Nat.le_of_lt kx) _ _) (Nat.le_of_lt ky) _ _⟩
def Q3 (w:World) (k m:Nat) (t r a b:ByteArray) (u:World):Prop:=Blk u k #[.string t,.string r]∧Blk u m #[.string a,.string b]∧Below k w u
theorem Q3.a {w W:World} {k:Nat} {t r:ByteArray} (H:Hid (Blk W k #[.string t,.string r]∧Below k w W)) (a b:ByteArray) (ty:TypeId):Hid (Q3 w k W.heap.size t r a b (W.alloc (.cells #[.string a,.string b] ty))) :=
 Lib.hid ⟨H.out.1.alloc _,Blk.new _ _ _,H.out.2.alloc (Nat.le_of_lt H.out.1.lt) _⟩
theorem Q3.p {w u:World} {k m:Nat} {t r a b:ByteArray} (H:Hid (Q3 w k m t r a b u)) (o:Obj):u.cell? ⟨k,0,none⟩=some (.string t)∧u.cell? ⟨k,1,none⟩=some (.string r)∧u.cell? ⟨m,0,none⟩=some (.string a)∧u.cell? ⟨m,1,none⟩=some (.string b)∧(k<u.heap.size∧m<u.heap.size) ∧
  (k≠u.heap.size∧k≠u.heap.size+1∧m≠u.heap.size∧m≠u.heap.size+1)∧((u.alloc o).alloc o).drew.cell? ⟨k,0,none⟩=some (.string t)∧((u.alloc o).alloc o).drew.cell? ⟨k,1,none⟩=some (.string r)∧((u.alloc o).alloc o).drew.cell? ⟨m,0,none⟩=some (.string a)∧((u.alloc o).alloc o).drew.cell? ⟨m,1,none⟩=some (.string b):=by
 have h:=H.out
 have e0:=h.1.cell 0 _ rfl
 have e1:=h.1.cell 1 _ rfl
 have f0:=h.2.1.cell 0 _ rfl
 have f1:=h.2.1.cell 1 _ rfl
 have l1:=h.1.lt
 have l2:=h.2.1.lt
 exact ⟨e0,e1,f0,f1,⟨l1,l2⟩,⟨by omega,by omega,by omega,by omega⟩,alc_d (alc e0),alc_d (alc e1),alc_d (alc f0),alc_d (alc f1)⟩
theorem Q3.e {w u:World} {k m:Nat} {t r a' b':ByteArray} (H:Hid (Q3 w k m t r a' b' u)) (a b c d:ByteArray) (ty:TypeId) :
  Hid (Q4 w k u.heap.size (u.heap.size+1) a b c d t r ((u.alloc (.cells #[.string a,.string b] ty)).alloc (.cells #[.string c,.string d] ty)).drew):=by
 have h:=H.out
 have l1:=h.1.lt
 have g:=Blk.new (u.alloc (.cells #[.string a,.string b] ty)) #[.string c,.string d] ty
 rw [show (u.alloc (.cells #[.string a,.string b] ty)).heap.size=u.heap.size+1 by simp] at g
 exact Lib.hid ⟨((Blk.new u _ ty).alloc _).drew,g.drew,((h.1.alloc _).alloc _).drew,((h.2.2.alloc (Nat.le_of_lt l1) _).alloc (by simp;omega) _).drew⟩
theorem Q4.r {w W:World} {k x y:Nat} {a b c d t r:ByteArray} (H:Hid (Q4 w k x y a b c d t r W)):Hid (Q4 w k y x c d a b t r W):=Lib.hid ⟨H.out.2.1,H.out.1,H.out.2.2⟩
theorem with_hit_n (bb n c q:Nat) (sc sr:Nat→ByteArray) (tc tr:ByteArray) (x:Nat→Int) (w:World)
  (hb:bb<w.heap.size) (hc0:∀ j,j<n→w.cell? ⟨bb,j*2,none⟩=some (.string (sc j))) (hc1:∀ j,j<n→w.cell? ⟨bb,j*2+1,none⟩=some (.string (sr j))) (hf:∀ i,w.frozen? ⟨bb,i,none⟩=false) (hq:q<n) (hn:n≤1000) (cs pc sm rr:ByteArray) (hrr:sr q=rr) (hxq:¬ 0<x q)
  (hO:∀ j,j<n→∀ W,Below w.heap.size w W→Calls Tryz.prog 111 #[.string (sr j),.string tr] W fun e W'=>e = .returned (.int .i64 (x j))∧Below W.heap.size W W')
  (hRp:∀ j,j<q→0<x j→∀ W,Below w.heap.size w W→Calls Tryz.prog 112 #[.string (sr j),.string tr] W fun e W'=>e = .returned (.tuple #[.string ⟨#[]⟩,.bool false])∧Below W.heap.size W W')
  (hRn:∀ j,j<q→¬ 0<x j→∀ W,Below w.heap.size w W→Calls Tryz.prog 112 #[.string tr,.string (sr j)] W fun e W'=>e = .returned (.tuple #[.string ⟨#[]⟩,.bool false])∧Below W.heap.size W W')
  (hR:∀ W,Below w.heap.size w W→Calls Tryz.prog 112 #[.string tr,.string (sr q)] W fun e W'=>e = .returned (.tuple #[.string cs,.bool true])∧Below W.heap.size W W')
  (hM:∀ W,Below w.heap.size w W→Calls Tryz.prog 24 #[.string tc,.string cs] W fun e W'=>e = .returned (.tuple #[.string pc,.int .i64 0])∧Below W.heap.size W W')
  (hA:∀ W,Below w.heap.size w W→Calls Tryz.prog 13 #[.string (sc q),.string pc] W fun e W'=>e = .returned (.tuple #[.string sm,.int .i64 0])∧Below W.heap.size W W') :
  Calls Tryz.prog 88 #[.slice (some ⟨bb,0,none⟩) n c,.agg #[.string tc,.string tr]] w fun e W'=>e = .returned (.tuple #[.slice (some ⟨bb,0,none⟩) n c,.int .i64 0])∧∃ W1,Below w.heap.size w W1∧W'=(W1.setCell ⟨bb,q*2,none⟩ (.string sm)).setCell ⟨bb,q*2+1,none⟩ (.string rr):=by
 have E:=Lib.hid hrr;clear hrr
 have O:=Lib.hid (And.intro hO (And.intro hRp hRn));clear hO hRp hRn
 have O2:=Lib.hid (And.intro hR (And.intro hM hA));clear hR hM hA
 have HT:=Lib.hid (And.intro hb (And.intro hc0 (And.intro hc1 hf)))
 clear hb hc0 hc1
 clear hf
 go_enter Tryz.func88,Tryz.ntmps88
 go_wp2
 have HB:=Lib.hid (And.intro (Blk.new w #[.string tc,.string tr] 50) ((Below.refl _ w).alloc (Nat.le_refl _) (.cells #[.string tc,.string tr] 50)))
 generalize w.alloc (.cells #[.string tc,.string tr] 50)=W0 at *
 generalize hk:w.heap.size=k at *
 have HK:=Lib.hid hk;clear hk
 go_loopw [16] (fun i wr=>∃ j:Nat,i = .int .i64 j∧j≤q∧Hid (Blk wr k #[.string tc,.string tr]∧Below k w wr)) (fun i _=>n - (intOf i).toNat)
 case atStart=>exact ⟨0,rfl,by omega,HB.out⟩
 case round =>
  clear HB
  obtain ⟨j,rfl,hj,HB⟩:=hrel
  by_cases hlt:j<q
  ·have hz:(j:Int)<n:=by omega
   have d0:=(HB.out.2.cell (p:=⟨bb,j*2,none⟩) HT.out.1).trans (HT.out.2.1 j (by omega))
   have d1:=(HB.out.2.cell (p:=⟨bb,j*2+1,none⟩) HT.out.1).trans (HT.out.2.2.1 j (by omega))
   have hO:=Lib.hid (O.out.1 j (by omega))
   clear hxq O2 E
   by_cases hx:0<x j
   ·have hR:=Lib.hid (O.out.2.1 j hlt hx)
    generalize x j=xj at *
    generalize hsc:sc j=sc at *
    generalize hsr:sr j=sr at *
    clear hsc hsr
    go_wp2
    replace HB:=Q3.a HB sc sr 50
    clear d0 d1
    generalize wr.alloc (.cells #[.string sc,.string sr] 50)=u at *
    generalize wr.heap.size=m at *
    obtain ⟨e0,e1,f0,f1,⟨kn,mn⟩,⟨k1,k2,m1,m2⟩,g0,g1,i0,i1⟩:=Q3.p HB (.cells #[.string ⟨#[]⟩,.string ⟨#[]⟩] 50)
    go_region
    ·replace HB:=Q3.e HB sc sr tc tr 50
     generalize ((u.alloc (.cells #[.string sc,.string sr] 50)).alloc (.cells #[.string tc,.string tr] 50)).drew=W at *
     generalize u.heap.size=s at *
     clear e0 e1 f0 f1 g0 g1 i0 i1 k1 k2 m1 m2
     obtain ⟨l0,l1,fl0,fl1,h0,h1,fh0,fh1⟩:=Q4.f HB
     go_wp2_with fail
     refine (hO.out _ HB.out.2.2.2).mono ?_
     rintro e W2 ⟨rfl,b⟩
     replace HB:=Q4.n HB b;clear b l0 l1 h0 h1 fl0 fl1 fh0 fh1;obtain ⟨l0,l1,fl0,fl1,h0,h1,fh0,fh1⟩:=Q4.f HB
     go_wp2_with fail
     replace HB:=Q4.s HB (by omega) (by omega) (by omega)
     clear l0 l1 h0 h1 fl0 fl1 fh0 fh1
     generalize (((W2.setCell ⟨s,0,none⟩ (.string tc)).setCell ⟨s,1,none⟩ (.string tr)).setCell ⟨s+1,0,none⟩ (.string sc)).setCell ⟨s+1,1,none⟩ (.string sr)=W3 at *
     obtain ⟨l0,l1,fl0,fl1,h0,h1,fh0,fh1⟩:=Q4.f HB
     refine (hR.out _ HB.out.2.2.2).mono ?_
     rintro e W4 ⟨rfl,b⟩
     replace HB:=Q4.n HB b;clear b l0 l1 h0 h1 fl0 fl1 fh0 fh1;obtain ⟨l0,l1,fl0,fl1,h0,h1,fh0,fh1⟩:=Q4.f HB
     go_wp2
     go_roundw
     case rel=>exact ⟨j+1,by go_num,by omega,HB.out.2.2⟩
     case measure=>simp [intOf];omega
    ·replace HB:=Q4.r (Q3.e HB tc tr sc sr 50)
     generalize ((u.alloc (.cells #[.string tc,.string tr] 50)).alloc (.cells #[.string sc,.string sr] 50)).drew=W at *
     generalize u.heap.size=s at *
     clear e0 e1 f0 f1 g0 g1 i0 i1 k1 k2 m1 m2
     obtain ⟨l0,l1,fl0,fl1,h0,h1,fh0,fh1⟩:=Q4.f HB
     go_wp2_with fail
     refine (hO.out _ HB.out.2.2.2).mono ?_
     rintro e W2 ⟨rfl,b⟩
     replace HB:=Q4.n HB b;clear b l0 l1 h0 h1 fl0 fl1 fh0 fh1;obtain ⟨l0,l1,fl0,fl1,h0,h1,fh0,fh1⟩:=Q4.f HB
     go_wp2_with fail
     replace HB:=Q4.s HB (by omega) (by omega) (by omega)
     clear l0 l1 h0 h1 fl0 fl1 fh0 fh1
     generalize (((W2.setCell ⟨s+1,0,none⟩ (.string tc)).setCell ⟨s+1,1,none⟩ (.string tr)).setCell ⟨s,0,none⟩ (.string sc)).setCell ⟨s,1,none⟩ (.string sr)=W3 at *
     obtain ⟨l0,l1,fl0,fl1,h0,h1,fh0,fh1⟩:=Q4.f HB
     refine (hR.out _ HB.out.2.2.2).mono ?_
     rintro e W4 ⟨rfl,b⟩
     replace HB:=Q4.n HB b;clear b l0 l1 h0 h1 fl0 fl1 fh0 fh1;obtain ⟨l0,l1,fl0,fl1,h0,h1,fh0,fh1⟩:=Q4.f HB
     go_wp2
     go_roundw
     case rel=>exact ⟨j+1,by go_num,by omega,HB.out.2.2⟩
     case measure=>simp [intOf];omega
   ·have hR:=Lib.hid (O.out.2.2 j hlt (by omega))
    generalize x j=xj at *
    generalize hsc:sc j=sc at *
    generalize hsr:sr j=sr at *
    clear hsc hsr
    go_wp2
    replace HB:=Q3.a HB sc sr 50
    clear d0 d1
    generalize wr.alloc (.cells #[.string sc,.string sr] 50)=u at *
    generalize wr.heap.size=m at *
    obtain ⟨e0,e1,f0,f1,⟨kn,mn⟩,⟨k1,k2,m1,m2⟩,g0,g1,i0,i1⟩:=Q3.p HB (.cells #[.string ⟨#[]⟩,.string ⟨#[]⟩] 50)
    go_region
    ·replace HB:=Q3.e HB sc sr tc tr 50
     generalize ((u.alloc (.cells #[.string sc,.string sr] 50)).alloc (.cells #[.string tc,.string tr] 50)).drew=W at *
     generalize u.heap.size=s at *
     clear e0 e1 f0 f1 g0 g1 i0 i1 k1 k2 m1 m2
     obtain ⟨l0,l1,fl0,fl1,h0,h1,fh0,fh1⟩:=Q4.f HB
     go_wp2_with fail
     refine (hO.out _ HB.out.2.2.2).mono ?_
     rintro e W2 ⟨rfl,b⟩
     replace HB:=Q4.n HB b;clear b l0 l1 h0 h1 fl0 fl1 fh0 fh1;obtain ⟨l0,l1,fl0,fl1,h0,h1,fh0,fh1⟩:=Q4.f HB
     go_wp2_with fail
     refine (hR.out _ HB.out.2.2.2).mono ?_
     rintro e W4 ⟨rfl,b⟩
     replace HB:=Q4.n HB b;clear b l0 l1 h0 h1 fl0 fl1 fh0 fh1;obtain ⟨l0,l1,fl0,fl1,h0,h1,fh0,fh1⟩:=Q4.f HB
     go_wp2
     go_roundw
     case rel=>exact ⟨j+1,by go_num,by omega,HB.out.2.2⟩
     case measure=>simp [intOf];omega
    ·replace HB:=Q4.r (Q3.e HB tc tr sc sr 50)
     generalize ((u.alloc (.cells #[.string tc,.string tr] 50)).alloc (.cells #[.string sc,.string sr] 50)).drew=W at *
     generalize u.heap.size=s at *
     clear e0 e1 f0 f1 g0 g1 i0 i1 k1 k2 m1 m2
     obtain ⟨l0,l1,fl0,fl1,h0,h1,fh0,fh1⟩:=Q4.f HB
     go_wp2_with fail
     refine (hO.out _ HB.out.2.2.2).mono ?_
     rintro e W2 ⟨rfl,b⟩
     replace HB:=Q4.n HB b;clear b l0 l1 h0 h1 fl0 fl1 fh0 fh1;obtain ⟨l0,l1,fl0,fl1,h0,h1,fh0,fh1⟩:=Q4.f HB
     go_wp2_with fail
     refine (hR.out _ HB.out.2.2.2).mono ?_
     rintro e W4 ⟨rfl,b⟩
     replace HB:=Q4.n HB b;clear b l0 l1 h0 h1 fl0 fl1 fh0 fh1;obtain ⟨l0,l1,fl0,fl1,h0,h1,fh0,fh1⟩:=Q4.f HB
     go_wp2
     go_roundw
     case rel=>exact ⟨j+1,by go_num,by omega,HB.out.2.2⟩
     case measure=>simp [intOf];omega
  ·obtain rfl:j=q:=by omega
   have hz:(j:Int)<n:=by omega
   have d0:=(HB.out.2.cell (p:=⟨bb,j*2,none⟩) HT.out.1).trans (HT.out.2.1 j (by omega))
   have d1:=(HB.out.2.cell (p:=⟨bb,j*2+1,none⟩) HT.out.1).trans (HT.out.2.2.1 j (by omega))
   have hO:=Lib.hid (O.out.1 j (by omega))
   have hR:=Lib.hid O2.out.1
   have hM:=Lib.hid O2.out.2.1
   have hA:=Lib.hid O2.out.2.2
   clear O2 O
   generalize x j=xj at *
   generalize sc j=sc at *
   generalize sr j=sr at *
   go_wp2
   replace HB:=Q3.a HB sc sr 50
   clear d0 d1
   generalize wr.alloc (.cells #[.string sc,.string sr] 50)=u at *
   generalize wr.heap.size=m at *
   obtain ⟨e0,e1,f0,f1,⟨kn,mn⟩,⟨k1,k2,m1,m2⟩,g0,g1,i0,i1⟩:=Q3.p HB (.cells #[.string ⟨#[]⟩,.string ⟨#[]⟩] 50)
   go_region
   ·replace HB:=Q3.e HB sc sr tc tr 50
    generalize ((u.alloc (.cells #[.string sc,.string sr] 50)).alloc (.cells #[.string tc,.string tr] 50)).drew=W at *
    generalize u.heap.size=s at *
    clear e0 e1 f0 f1 g0 g1 i0 i1 k1 k2 m1 m2
    obtain ⟨l0,l1,fl0,fl1,h0,h1,fh0,fh1⟩:=Q4.f HB
    go_wp2_with fail
    refine (hO.out _ HB.out.2.2.2).mono ?_
    rintro e W2 ⟨rfl,b⟩
    replace HB:=Q4.n HB b;clear b l0 l1 h0 h1 fl0 fl1 fh0 fh1;obtain ⟨l0,l1,fl0,fl1,h0,h1,fh0,fh1⟩:=Q4.f HB
    go_wp2_with fail
    refine (hR.out _ HB.out.2.2.2).mono ?_
    rintro e W4 ⟨rfl,b⟩
    replace HB:=Q4.n HB b;clear b l0 l1 h0 h1 fl0 fl1 fh0 fh1;obtain ⟨l0,l1,fl0,fl1,h0,h1,fh0,fh1⟩:=Q4.f HB
    go_wp2_with fail
    refine (hM.out _ HB.out.2.2.2).mono ?_
    rintro e W5 ⟨rfl,b⟩
    replace HB:=Q4.n HB b;clear b l0 l1 h0 h1 fl0 fl1 fh0 fh1;obtain ⟨l0,l1,fl0,fl1,h0,h1,fh0,fh1⟩:=Q4.f HB
    go_wp2_with fail
    refine (hA.out _ HB.out.2.2.2).mono ?_
    rintro e W6 ⟨rfl,b⟩
    replace HB:=Q4.n HB b;clear b l0 l1 h0 h1 fl0 fl1 fh0 fh1;obtain ⟨l0,l1,fl0,fl1,h0,h1,fh0,fh1⟩:=Q4.f HB
    have q0:=(HB.out.2.2.2.cell (p:=⟨bb,j*2,none⟩) HT.out.1).trans (HT.out.2.1 j (by omega))
    have q1:=(HB.out.2.2.2.cell (p:=⟨bb,j*2+1,none⟩) HT.out.1).trans (HT.out.2.2.1 j (by omega))
    have fq0:=(HB.out.2.2.2.frozen (p:=⟨bb,j*2,none⟩) HT.out.1).trans (HT.out.2.2.2 (j*2))
    have fq1:=(HB.out.2.2.2.frozen (p:=⟨bb,j*2+1,none⟩) HT.out.1).trans (HT.out.2.2.2 (j*2+1))
    go_wp2
    go_ret2
    have hbl:=HB.out.2.2.2
    rw [←HK.out] at hbl
    exact ⟨rfl,W6,hbl,by rw [E.out]⟩
   ·replace HB:=Q4.r (Q3.e HB tc tr sc sr 50)
    generalize ((u.alloc (.cells #[.string tc,.string tr] 50)).alloc (.cells #[.string sc,.string sr] 50)).drew=W at *
    generalize u.heap.size=s at *
    clear e0 e1 f0 f1 g0 g1 i0 i1 k1 k2 m1 m2
    obtain ⟨l0,l1,fl0,fl1,h0,h1,fh0,fh1⟩:=Q4.f HB
    go_wp2_with fail
    refine (hO.out _ HB.out.2.2.2).mono ?_
    rintro e W2 ⟨rfl,b⟩
    replace HB:=Q4.n HB b;clear b l0 l1 h0 h1 fl0 fl1 fh0 fh1;obtain ⟨l0,l1,fl0,fl1,h0,h1,fh0,fh1⟩:=Q4.f HB
    go_wp2_with fail
    refine (hR.out _ HB.out.2.2.2).mono ?_
    rintro e W4 ⟨rfl,b⟩
    replace HB:=Q4.n HB b;clear b l0 l1 h0 h1 fl0 fl1 fh0 fh1;obtain ⟨l0,l1,fl0,fl1,h0,h1,fh0,fh1⟩:=Q4.f HB
    go_wp2_with fail
    refine (hM.out _ HB.out.2.2.2).mono ?_
    rintro e W5 ⟨rfl,b⟩
    replace HB:=Q4.n HB b;clear b l0 l1 h0 h1 fl0 fl1 fh0 fh1;obtain ⟨l0,l1,fl0,fl1,h0,h1,fh0,fh1⟩:=Q4.f HB
    go_wp2_with fail
    refine (hA.out _ HB.out.2.2.2).mono ?_
    rintro e W6 ⟨rfl,b⟩
    replace HB:=Q4.n HB b;clear b l0 l1 h0 h1 fl0 fl1 fh0 fh1;obtain ⟨l0,l1,fl0,fl1,h0,h1,fh0,fh1⟩:=Q4.f HB
    have q0:=(HB.out.2.2.2.cell (p:=⟨bb,j*2,none⟩) HT.out.1).trans (HT.out.2.1 j (by omega))
    have q1:=(HB.out.2.2.2.cell (p:=⟨bb,j*2+1,none⟩) HT.out.1).trans (HT.out.2.2.1 j (by omega))
    have fq0:=(HB.out.2.2.2.frozen (p:=⟨bb,j*2,none⟩) HT.out.1).trans (HT.out.2.2.2 (j*2))
    have fq1:=(HB.out.2.2.2.frozen (p:=⟨bb,j*2+1,none⟩) HT.out.1).trans (HT.out.2.2.2 (j*2+1))
    go_wp2
    go_ret2
    have hbl:=HB.out.2.2.2
    rw [←HK.out] at hbl
    exact ⟨rfl,W6,hbl,by rw [E.out]⟩
theorem with_hit_p (bb n c q:Nat) (sc sr:Nat→ByteArray) (tc tr:ByteArray) (x:Nat→Int) (w:World)
  (hb:bb<w.heap.size) (hc0:∀ j,j<n→w.cell? ⟨bb,j*2,none⟩=some (.string (sc j))) (hc1:∀ j,j<n→w.cell? ⟨bb,j*2+1,none⟩=some (.string (sr j))) (hf:∀ i,w.frozen? ⟨bb,i,none⟩=false) (hq:q<n) (hn:n≤1000) (cs pc sm rr:ByteArray) (hrr:tr=rr) (hxq:0<x q)
  (hO:∀ j,j<n→∀ W,Below w.heap.size w W→Calls Tryz.prog 111 #[.string (sr j),.string tr] W fun e W'=>e = .returned (.int .i64 (x j))∧Below W.heap.size W W')
  (hRp:∀ j,j<q→0<x j→∀ W,Below w.heap.size w W→Calls Tryz.prog 112 #[.string (sr j),.string tr] W fun e W'=>e = .returned (.tuple #[.string ⟨#[]⟩,.bool false])∧Below W.heap.size W W')
  (hRn:∀ j,j<q→¬ 0<x j→∀ W,Below w.heap.size w W→Calls Tryz.prog 112 #[.string tr,.string (sr j)] W fun e W'=>e = .returned (.tuple #[.string ⟨#[]⟩,.bool false])∧Below W.heap.size W W')
  (hR:∀ W,Below w.heap.size w W→Calls Tryz.prog 112 #[.string (sr q),.string tr] W fun e W'=>e = .returned (.tuple #[.string cs,.bool true])∧Below W.heap.size W W')
  (hM:∀ W,Below w.heap.size w W→Calls Tryz.prog 24 #[.string (sc q),.string cs] W fun e W'=>e = .returned (.tuple #[.string pc,.int .i64 0])∧Below W.heap.size W W')
  (hA:∀ W,Below w.heap.size w W→Calls Tryz.prog 13 #[.string tc,.string pc] W fun e W'=>e = .returned (.tuple #[.string sm,.int .i64 0])∧Below W.heap.size W W') :
  Calls Tryz.prog 88 #[.slice (some ⟨bb,0,none⟩) n c,.agg #[.string tc,.string tr]] w fun e W'=>e = .returned (.tuple #[.slice (some ⟨bb,0,none⟩) n c,.int .i64 0])∧∃ W1,Below w.heap.size w W1∧W'=(W1.setCell ⟨bb,q*2,none⟩ (.string sm)).setCell ⟨bb,q*2+1,none⟩ (.string rr):=by
 have E:=Lib.hid hrr;clear hrr
 have O:=Lib.hid (And.intro hO (And.intro hRp hRn));clear hO hRp hRn
 have O2:=Lib.hid (And.intro hR (And.intro hM hA));clear hR hM hA
 have HT:=Lib.hid (And.intro hb (And.intro hc0 (And.intro hc1 hf)))
 clear hb hc0 hc1
 clear hf
 go_enter Tryz.func88,Tryz.ntmps88
 go_wp2
 have HB:=Lib.hid (And.intro (Blk.new w #[.string tc,.string tr] 50) ((Below.refl _ w).alloc (Nat.le_refl _) (.cells #[.string tc,.string tr] 50)))
 generalize w.alloc (.cells #[.string tc,.string tr] 50)=W0 at *
 generalize hk:w.heap.size=k at *
 have HK:=Lib.hid hk;clear hk
 go_loopw [16] (fun i wr=>∃ j:Nat,i = .int .i64 j∧j≤q∧Hid (Blk wr k #[.string tc,.string tr]∧Below k w wr)) (fun i _=>n - (intOf i).toNat)
 case atStart=>exact ⟨0,rfl,by omega,HB.out⟩
 case round =>
  clear HB
  obtain ⟨j,rfl,hj,HB⟩:=hrel
  by_cases hlt:j<q
  ·have hz:(j:Int)<n:=by omega
   have d0:=(HB.out.2.cell (p:=⟨bb,j*2,none⟩) HT.out.1).trans (HT.out.2.1 j (by omega))
   have d1:=(HB.out.2.cell (p:=⟨bb,j*2+1,none⟩) HT.out.1).trans (HT.out.2.2.1 j (by omega))
   have hO:=Lib.hid (O.out.1 j (by omega))
   clear hxq O2 E
   by_cases hx:0<x j
   ·have hR:=Lib.hid (O.out.2.1 j hlt hx)
    generalize x j=xj at *
    generalize hsc:sc j=sc at *
    generalize hsr:sr j=sr at *
    clear hsc hsr
    go_wp2
    replace HB:=Q3.a HB sc sr 50
    clear d0 d1
    generalize wr.alloc (.cells #[.string sc,.string sr] 50)=u at *
    generalize wr.heap.size=m at *
    obtain ⟨e0,e1,f0,f1,⟨kn,mn⟩,⟨k1,k2,m1,m2⟩,g0,g1,i0,i1⟩:=Q3.p HB (.cells #[.string ⟨#[]⟩,.string ⟨#[]⟩] 50)
    go_region
    ·replace HB:=Q3.e HB sc sr tc tr 50
     generalize ((u.alloc (.cells #[.string sc,.string sr] 50)).alloc (.cells #[.string tc,.string tr] 50)).drew=W at *
     generalize u.heap.size=s at *
     clear e0 e1 f0 f1 g0 g1 i0 i1 k1 k2 m1 m2
     obtain ⟨l0,l1,fl0,fl1,h0,h1,fh0,fh1⟩:=Q4.f HB
     go_wp2_with fail
     refine (hO.out _ HB.out.2.2.2).mono ?_
     rintro e W2 ⟨rfl,b⟩
     replace HB:=Q4.n HB b;clear b l0 l1 h0 h1 fl0 fl1 fh0 fh1;obtain ⟨l0,l1,fl0,fl1,h0,h1,fh0,fh1⟩:=Q4.f HB
     go_wp2_with fail
     replace HB:=Q4.s HB (by omega) (by omega) (by omega)
     clear l0 l1 h0 h1 fl0 fl1 fh0 fh1
     generalize (((W2.setCell ⟨s,0,none⟩ (.string tc)).setCell ⟨s,1,none⟩ (.string tr)).setCell ⟨s+1,0,none⟩ (.string sc)).setCell ⟨s+1,1,none⟩ (.string sr)=W3 at *
     obtain ⟨l0,l1,fl0,fl1,h0,h1,fh0,fh1⟩:=Q4.f HB
     refine (hR.out _ HB.out.2.2.2).mono ?_
     rintro e W4 ⟨rfl,b⟩
     replace HB:=Q4.n HB b;clear b l0 l1 h0 h1 fl0 fl1 fh0 fh1;obtain ⟨l0,l1,fl0,fl1,h0,h1,fh0,fh1⟩:=Q4.f HB
     go_wp2
     go_roundw
     case rel=>exact ⟨j+1,by go_num,by omega,HB.out.2.2⟩
     case measure=>simp [intOf];omega
    ·replace HB:=Q4.r (Q3.e HB tc tr sc sr 50)
     generalize ((u.alloc (.cells #[.string tc,.string tr] 50)).alloc (.cells #[.string sc,.string sr] 50)).drew=W at *
     generalize u.heap.size=s at *
     clear e0 e1 f0 f1 g0 g1 i0 i1 k1 k2 m1 m2
     obtain ⟨l0,l1,fl0,fl1,h0,h1,fh0,fh1⟩:=Q4.f HB
     go_wp2_with fail
     refine (hO.out _ HB.out.2.2.2).mono ?_
     rintro e W2 ⟨rfl,b⟩
     replace HB:=Q4.n HB b;clear b l0 l1 h0 h1 fl0 fl1 fh0 fh1;obtain ⟨l0,l1,fl0,fl1,h0,h1,fh0,fh1⟩:=Q4.f HB
     go_wp2_with fail
     replace HB:=Q4.s HB (by omega) (by omega) (by omega)
     clear l0 l1 h0 h1 fl0 fl1 fh0 fh1
     generalize (((W2.setCell ⟨s+1,0,none⟩ (.string tc)).setCell ⟨s+1,1,none⟩ (.string tr)).setCell ⟨s,0,none⟩ (.string sc)).setCell ⟨s,1,none⟩ (.string sr)=W3 at *
     obtain ⟨l0,l1,fl0,fl1,h0,h1,fh0,fh1⟩:=Q4.f HB
     refine (hR.out _ HB.out.2.2.2).mono ?_
     rintro e W4 ⟨rfl,b⟩
     replace HB:=Q4.n HB b;clear b l0 l1 h0 h1 fl0 fl1 fh0 fh1;obtain ⟨l0,l1,fl0,fl1,h0,h1,fh0,fh1⟩:=Q4.f HB
     go_wp2
     go_roundw
     case rel=>exact ⟨j+1,by go_num,by omega,HB.out.2.2⟩
     case measure=>simp [intOf];omega
   ·have hR:=Lib.hid (O.out.2.2 j hlt (by omega))
    generalize x j=xj at *
    generalize hsc:sc j=sc at *
    generalize hsr:sr j=sr at *
    clear hsc hsr
    go_wp2
    replace HB:=Q3.a HB sc sr 50
    clear d0 d1
    generalize wr.alloc (.cells #[.string sc,.string sr] 50)=u at *
    generalize wr.heap.size=m at *
    obtain ⟨e0,e1,f0,f1,⟨kn,mn⟩,⟨k1,k2,m1,m2⟩,g0,g1,i0,i1⟩:=Q3.p HB (.cells #[.string ⟨#[]⟩,.string ⟨#[]⟩] 50)
    go_region
    ·replace HB:=Q3.e HB sc sr tc tr 50
     generalize ((u.alloc (.cells #[.string sc,.string sr] 50)).alloc (.cells #[.string tc,.string tr] 50)).drew=W at *
     generalize u.heap.size=s at *
     clear e0 e1 f0 f1 g0 g1 i0 i1 k1 k2 m1 m2
     obtain ⟨l0,l1,fl0,fl1,h0,h1,fh0,fh1⟩:=Q4.f HB
     go_wp2_with fail
     refine (hO.out _ HB.out.2.2.2).mono ?_
     rintro e W2 ⟨rfl,b⟩
     replace HB:=Q4.n HB b;clear b l0 l1 h0 h1 fl0 fl1 fh0 fh1;obtain ⟨l0,l1,fl0,fl1,h0,h1,fh0,fh1⟩:=Q4.f HB
     go_wp2_with fail
     refine (hR.out _ HB.out.2.2.2).mono ?_
     rintro e W4 ⟨rfl,b⟩
     replace HB:=Q4.n HB b;clear b l0 l1 h0 h1 fl0 fl1 fh0 fh1;obtain ⟨l0,l1,fl0,fl1,h0,h1,fh0,fh1⟩:=Q4.f HB
     go_wp2
     go_roundw
     case rel=>exact ⟨j+1,by go_num,by omega,HB.out.2.2⟩
     case measure=>simp [intOf];omega
    ·replace HB:=Q4.r (Q3.e HB tc tr sc sr 50)
     generalize ((u.alloc (.cells #[.string tc,.string tr] 50)).alloc (.cells #[.string sc,.string sr] 50)).drew=W at *
     generalize u.heap.size=s at *
     clear e0 e1 f0 f1 g0 g1 i0 i1 k1 k2 m1 m2
     obtain ⟨l0,l1,fl0,fl1,h0,h1,fh0,fh1⟩:=Q4.f HB
     go_wp2_with fail
     refine (hO.out _ HB.out.2.2.2).mono ?_
     rintro e W2 ⟨rfl,b⟩
     replace HB:=Q4.n HB b;clear b l0 l1 h0 h1 fl0 fl1 fh0 fh1;obtain ⟨l0,l1,fl0,fl1,h0,h1,fh0,fh1⟩:=Q4.f HB
     go_wp2_with fail
     refine (hR.out _ HB.out.2.2.2).mono ?_
     rintro e W4 ⟨rfl,b⟩
     replace HB:=Q4.n HB b;clear b l0 l1 h0 h1 fl0 fl1 fh0 fh1;obtain ⟨l0,l1,fl0,fl1,h0,h1,fh0,fh1⟩:=Q4.f HB
     go_wp2
     go_roundw
     case rel=>exact ⟨j+1,by go_num,by omega,HB.out.2.2⟩
     case measure=>simp [intOf];omega
  ·obtain rfl:j=q:=by omega
   have hz:(j:Int)<n:=by omega
   have d0:=(HB.out.2.cell (p:=⟨bb,j*2,none⟩) HT.out.1).trans (HT.out.2.1 j (by omega))
   have d1:=(HB.out.2.cell (p:=⟨bb,j*2+1,none⟩) HT.out.1).trans (HT.out.2.2.1 j (by omega))
   have hO:=Lib.hid (O.out.1 j (by omega))
   have hR:=Lib.hid O2.out.1
   have hM:=Lib.hid O2.out.2.1
   have hA:=Lib.hid O2.out.2.2
   clear O2 O
   generalize x j=xj at *
   generalize sc j=sc at *
   generalize sr j=sr at *
   go_wp2
   replace HB:=Q3.a HB sc sr 50
   clear d0 d1
   generalize wr.alloc (.cells #[.string sc,.string sr] 50)=u at *
   generalize wr.heap.size=m at *
   obtain ⟨e0,e1,f0,f1,⟨kn,mn⟩,⟨k1,k2,m1,m2⟩,g0,g1,i0,i1⟩:=Q3.p HB (.cells #[.string ⟨#[]⟩,.string ⟨#[]⟩] 50)
   go_region
   ·replace HB:=Q3.e HB sc sr tc tr 50
    generalize ((u.alloc (.cells #[.string sc,.string sr] 50)).alloc (.cells #[.string tc,.string tr] 50)).drew=W at *
    generalize u.heap.size=s at *
    clear e0 e1 f0 f1 g0 g1 i0 i1 k1 k2 m1 m2
    obtain ⟨l0,l1,fl0,fl1,h0,h1,fh0,fh1⟩:=Q4.f HB
    go_wp2_with fail
    refine (hO.out _ HB.out.2.2.2).mono ?_
    rintro e W2 ⟨rfl,b⟩
    replace HB:=Q4.n HB b;clear b l0 l1 h0 h1 fl0 fl1 fh0 fh1;obtain ⟨l0,l1,fl0,fl1,h0,h1,fh0,fh1⟩:=Q4.f HB
    go_wp2_with fail
    replace HB:=Q4.s HB (by omega) (by omega) (by omega)
    clear l0 l1 h0 h1 fl0 fl1 fh0 fh1
    generalize (((W2.setCell ⟨s,0,none⟩ (.string tc)).setCell ⟨s,1,none⟩ (.string tr)).setCell ⟨s+1,0,none⟩ (.string sc)).setCell ⟨s+1,1,none⟩ (.string sr)=W3 at *
    obtain ⟨l0,l1,fl0,fl1,h0,h1,fh0,fh1⟩:=Q4.f HB
    refine (hR.out _ HB.out.2.2.2).mono ?_
    rintro e W4 ⟨rfl,b⟩
    replace HB:=Q4.n HB b;clear b l0 l1 h0 h1 fl0 fl1 fh0 fh1;obtain ⟨l0,l1,fl0,fl1,h0,h1,fh0,fh1⟩:=Q4.f HB
    go_wp2_with fail
    refine (hM.out _ HB.out.2.2.2).mono ?_
    rintro e W5 ⟨rfl,b⟩
    replace HB:=Q4.n HB b;clear b l0 l1 h0 h1 fl0 fl1 fh0 fh1;obtain ⟨l0,l1,fl0,fl1,h0,h1,fh0,fh1⟩:=Q4.f HB
    go_wp2_with fail
    refine (hA.out _ HB.out.2.2.2).mono ?_
    rintro e W6 ⟨rfl,b⟩
    replace HB:=Q4.n HB b;clear b l0 l1 h0 h1 fl0 fl1 fh0 fh1;obtain ⟨l0,l1,fl0,fl1,h0,h1,fh0,fh1⟩:=Q4.f HB
    have q0:=(HB.out.2.2.2.cell (p:=⟨bb,j*2,none⟩) HT.out.1).trans (HT.out.2.1 j (by omega))
    have q1:=(HB.out.2.2.2.cell (p:=⟨bb,j*2+1,none⟩) HT.out.1).trans (HT.out.2.2.1 j (by omega))
    have fq0:=(HB.out.2.2.2.frozen (p:=⟨bb,j*2,none⟩) HT.out.1).trans (HT.out.2.2.2 (j*2))
    have fq1:=(HB.out.2.2.2.frozen (p:=⟨bb,j*2+1,none⟩) HT.out.1).trans (HT.out.2.2.2 (j*2+1))
    go_wp2
    go_ret2
    have hbl:=HB.out.2.2.2
    rw [←HK.out] at hbl
    exact ⟨rfl,W6,hbl,by rw [E.out]⟩
   ·replace HB:=Q4.r (Q3.e HB tc tr sc sr 50)
    generalize ((u.alloc (.cells #[.string tc,.string tr] 50)).alloc (.cells #[.string sc,.string sr] 50)).drew=W at *
    generalize u.heap.size=s at *
    clear e0 e1 f0 f1 g0 g1 i0 i1 k1 k2 m1 m2
    obtain ⟨l0,l1,fl0,fl1,h0,h1,fh0,fh1⟩:=Q4.f HB
    go_wp2_with fail
    refine (hO.out _ HB.out.2.2.2).mono ?_
    rintro e W2 ⟨rfl,b⟩
    replace HB:=Q4.n HB b;clear b l0 l1 h0 h1 fl0 fl1 fh0 fh1;obtain ⟨l0,l1,fl0,fl1,h0,h1,fh0,fh1⟩:=Q4.f HB
    go_wp2_with fail
    replace HB:=Q4.s HB (by omega) (by omega) (by omega)
    clear l0 l1 h0 h1 fl0 fl1 fh0 fh1
    generalize (((W2.setCell ⟨s+1,0,none⟩ (.string tc)).setCell ⟨s+1,1,none⟩ (.string tr)).setCell ⟨s,0,none⟩ (.string sc)).setCell ⟨s,1,none⟩ (.string sr)=W3 at *
    obtain ⟨l0,l1,fl0,fl1,h0,h1,fh0,fh1⟩:=Q4.f HB
    refine (hR.out _ HB.out.2.2.2).mono ?_
    rintro e W4 ⟨rfl,b⟩
    replace HB:=Q4.n HB b;clear b l0 l1 h0 h1 fl0 fl1 fh0 fh1;obtain ⟨l0,l1,fl0,fl1,h0,h1,fh0,fh1⟩:=Q4.f HB
    go_wp2_with fail
    refine (hM.out _ HB.out.2.2.2).mono ?_
    rintro e W5 ⟨rfl,b⟩
    replace HB:=Q4.n HB b;clear b l0 l1 h0 h1 fl0 fl1 fh0 fh1;obtain ⟨l0,l1,fl0,fl1,h0,h1,fh0,fh1⟩:=Q4.f HB
    go_wp2_with fail
    refine (hA.out _ HB.out.2.2.2).mono ?_
    rintro e W6 ⟨rfl,b⟩
    replace HB:=Q4.n HB b;clear b l0 l1 h0 h1 fl0 fl1 fh0 fh1;obtain ⟨l0,l1,fl0,fl1,h0,h1,fh0,fh1⟩:=Q4.f HB
    have q0:=(HB.out.2.2.2.cell (p:=⟨bb,j*2,none⟩) HT.out.1).trans (HT.out.2.1 j (by omega))
    have q1:=(HB.out.2.2.2.cell (p:=⟨bb,j*2+1,none⟩) HT.out.1).trans (HT.out.2.2.1 j (by omega))
    have fq0:=(HB.out.2.2.2.frozen (p:=⟨bb,j*2,none⟩) HT.out.1).trans (HT.out.2.2.2 (j*2))
    have fq1:=(HB.out.2.2.2.frozen (p:=⟨bb,j*2+1,none⟩) HT.out.1).trans (HT.out.2.2.2 (j*2+1))
    go_wp2
    go_ret2
    have hbl:=HB.out.2.2.2
    rw [←HK.out] at hbl
    exact ⟨rfl,W6,hbl,by rw [E.out]⟩
end Go.Proofs.YtjdfjgfdbgmbiaaGreatDoor.T
