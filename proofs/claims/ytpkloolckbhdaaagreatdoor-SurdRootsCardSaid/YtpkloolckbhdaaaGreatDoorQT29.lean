/- Parts of the proof of the text YtpkloolckbhdaaaGreatDoorQT38. -/
import Derived.RegionTactic
import Derived.ChangeAlike
import Derived.Test.YtpkloolckbhdaaaGreatDoorQT1
import Derived.Test.YtpkloolckbhdaaaGreatDoorQT28
set_option linter.all false
set_option maxRecDepth 100000
set_option maxHeartbeats 8000000
namespace Go.Proofs.YtpkloolckbhdaaaGreatDoor.T
open Go.Proofs.YtpkloolckbhdaaaGreatDoor Go Go.RowKit
theorem with_hit_n (bb n c q:Nat) (sc sr:Nat→ByteArray) (tc tr:ByteArray) (x:Nat→Int) (w:World)
  (hb:bb<w.heap.size) (hc0:∀ j,j<n→w.cell? ⟨bb,j*2,none⟩=some (.string (sc j))) (hc1:∀ j,j<n→w.cell? ⟨bb,j*2+1,none⟩=some (.string (sr j))) (hf:∀ i,w.frozen? ⟨bb,i,none⟩=false) (hq:q<n) (hn:n≤1000) (cs pc sm rr:ByteArray) (hrr:sr q=rr) (hxq:¬ 0<x q)
  (hO:∀ j,j<n→∀ W,Below w.heap.size w W→Calls Tryz.prog 133 #[.string (sr j),.string tr] W fun e W'=>e = .returned (.int .i64 (x j))∧Below W.heap.size W W')
  (hRp:∀ j,j<q→0<x j→∀ W,Below w.heap.size w W→Calls Tryz.prog 134 #[.string (sr j),.string tr] W fun e W'=>e = .returned (.tuple #[.string ⟨#[]⟩,.bool false])∧Below W.heap.size W W')
  (hRn:∀ j,j<q→¬ 0<x j→∀ W,Below w.heap.size w W→Calls Tryz.prog 134 #[.string tr,.string (sr j)] W fun e W'=>e = .returned (.tuple #[.string ⟨#[]⟩,.bool false])∧Below W.heap.size W W')
  (hR:∀ W,Below w.heap.size w W→Calls Tryz.prog 134 #[.string tr,.string (sr q)] W fun e W'=>e = .returned (.tuple #[.string cs,.bool true])∧Below W.heap.size W W')
  (hM:∀ W,Below w.heap.size w W→Calls Tryz.prog 56 #[.string tc,.string cs] W fun e W'=>e = .returned (.tuple #[.string pc,.int .i64 0])∧Below W.heap.size W W')
  (hA:∀ W,Below w.heap.size w W→Calls Tryz.prog 136 #[.string (sc q),.string pc] W fun e W'=>e = .returned (.tuple #[.string sm,.int .i64 0])∧Below W.heap.size W W') :
  Calls Tryz.prog 103 #[.slice (some ⟨bb,0,none⟩) n c,.agg #[.string tc,.string tr]] w fun e W'=>e = .returned (.tuple #[.slice (some ⟨bb,0,none⟩) n c,.int .i64 0])∧∃ W1,Below w.heap.size w W1∧W'=(W1.setCell ⟨bb,q*2,none⟩ (.string sm)).setCell ⟨bb,q*2+1,none⟩ (.string rr):=by
 have E:=Lib.hid hrr;clear hrr
 have O:=Lib.hid (And.intro hO (And.intro hRp hRn));clear hO hRp hRn
 have O2:=Lib.hid (And.intro hR (And.intro hM hA));clear hR hM hA
 have HT:=Lib.hid (And.intro hb (And.intro hc0 (And.intro hc1 hf)))
 clear hb hc0 hc1
 clear hf
 go_enter Tryz.func103,Tryz.ntmps103
 go_wp2
 have HB:=Lib.hid (And.intro (Blk.new w #[.string tc,.string tr] 60) ((Below.refl _ w).alloc (Nat.le_refl _) (.cells #[.string tc,.string tr] 60)))
 generalize w.alloc (.cells #[.string tc,.string tr] 60)=W0 at *
 generalize hk:w.heap.size=k at *
 have HK:=Lib.hid hk;clear hk
 go_loopw [16] (fun i wr=>∃ j:Nat,i = .int .i64 j∧j≤q∧Hid (Blk wr k #[.string tc,.string tr]∧Below k w wr)) (fun i _=>n - (intOf i).toNat)
 case atStart=>exact ⟨0,rfl,by omega,HB.out⟩
 case round =>
  clear HB
  obtain ⟨j,rfl,hj,HB⟩:=hrel
  by_cases hlt:j<q
  ·have hz:(j:Int)<n:=by omega
   have d0:=(HB.out.2.cell (p:=⟨bb,j*2,none⟩) HT.out.1).trans (HT.out.2.1 j (by omega))
   have d1:=(HB.out.2.cell (p:=⟨bb,j*2+1,none⟩) HT.out.1).trans (HT.out.2.2.1 j (by omega))
   have hO:=Lib.hid (O.out.1 j (by omega))
   clear hxq O2 E
   by_cases hx:0<x j
   ·have hR:=Lib.hid (O.out.2.1 j hlt hx)
    generalize x j=xj at *
    generalize hsc:sc j=sc at *
    generalize hsr:sr j=sr at *
    clear hsc hsr
    go_wp2
    have HN:=Lib.hid (And.intro (HB.out.1.alloc (.cells #[.string sc,.string sr] 60)) (And.intro (Blk.new wr #[.string sc,.string sr] 60) (HB.out.2.alloc (by have h1:=HB.out.2.size;have h2:=HK.out;omega) (.cells #[.string sc,.string sr] 60))))
    clear HB d0 d1;have HB:=HN;clear HN
    generalize wr.alloc (.cells #[.string sc,.string sr] 60)=u at *
    generalize wr.heap.size=m at *
    have e0:=(show World.cell? _ ⟨k,0,none⟩=some (.string tc) from HB.out.1.cell 0 _ rfl)
    have e1:=(show World.cell? _ ⟨k,1,none⟩=some (.string tr) from HB.out.1.cell 1 _ rfl)
    have f0:=(show World.cell? _ ⟨m,0,none⟩=some (.string sc) from HB.out.2.1.cell 0 _ rfl)
    have f1:=(show World.cell? _ ⟨m,1,none⟩=some (.string sr) from HB.out.2.1.cell 1 _ rfl)
    have kn:k<u.heap.size:=HB.out.1.lt
    have mn:m<u.heap.size:=HB.out.2.1.lt
    have k1:k≠u.heap.size:=by omega
    have k2:k≠u.heap.size+1:=by omega
    have m1:m≠u.heap.size:=by omega
    have m2:m≠u.heap.size+1:=by omega
    have g0:=alc_d (alc e0 (o := .cells #[.string ⟨#[]⟩,.string ⟨#[]⟩] 60)) (o := .cells #[.string ⟨#[]⟩,.string ⟨#[]⟩] 60)
    have g1:=alc_d (alc e1 (o := .cells #[.string ⟨#[]⟩,.string ⟨#[]⟩] 60)) (o := .cells #[.string ⟨#[]⟩,.string ⟨#[]⟩] 60)
    have i0:=alc_d (alc f0 (o := .cells #[.string ⟨#[]⟩,.string ⟨#[]⟩] 60)) (o := .cells #[.string ⟨#[]⟩,.string ⟨#[]⟩] 60)
    have i1:=alc_d (alc f1 (o := .cells #[.string ⟨#[]⟩,.string ⟨#[]⟩] 60)) (o := .cells #[.string ⟨#[]⟩,.string ⟨#[]⟩] 60)
    go_region
    ·have HN:=Lib.hid (And.intro (Blk.drew ((Blk.new u #[.string sc,.string sr] 60).alloc (.cells #[.string tc,.string tr] 60))) (And.intro (Blk.drew ((by have h:=Blk.new (u.alloc (.cells #[.string sc,.string sr] 60)) #[.string tc,.string tr] 60;rwa [show (u.alloc (.cells #[.string sc,.string sr] 60)).heap.size=u.heap.size+1 by simp] at h:Blk ((u.alloc (.cells #[.string sc,.string sr] 60)).alloc (.cells #[.string tc,.string tr] 60)) (u.heap.size+1) #[.string tc,.string tr]))) (And.intro (((HB.out.1.alloc (.cells #[.string sc,.string sr] 60)).alloc (.cells #[.string tc,.string tr] 60)).drew) (((HB.out.2.2.alloc (by have h1:=HB.out.2.2.size;have h2:=HK.out;omega) (.cells #[.string sc,.string sr] 60)).alloc (by have h1:=HB.out.2.2.size;have h2:=HK.out;simp;omega) (.cells #[.string tc,.string tr] 60)).drew))))
     clear HB;have HB:=HN;clear HN
     generalize ((u.alloc (.cells #[.string sc,.string sr] 60)).alloc (.cells #[.string tc,.string tr] 60)).drew=W at *
     generalize u.heap.size=s at *
     clear e0 e1 f0 f1 g0 g1 i0 i1 k1 k2 m1 m2
     have l0:=(show World.cell? _ ⟨s,0,none⟩=some (.string sc) from HB.out.1.cell 0 _ rfl);have l1:=(show World.cell? _ ⟨s,1,none⟩=some (.string sr) from HB.out.1.cell 1 _ rfl);have fl0:=(show World.frozen? _ ⟨s,0,none⟩=false from HB.out.1.free 0);have fl1:=(show World.frozen? _ ⟨s,1,none⟩=false from HB.out.1.free 1);have h0:=(show World.cell? _ ⟨s+1,0,none⟩=some (.string tc) from HB.out.2.1.cell 0 _ rfl);have h1:=(show World.cell? _ ⟨s+1,1,none⟩=some (.string tr) from HB.out.2.1.cell 1 _ rfl);have fh0:=(show World.frozen? _ ⟨s+1,0,none⟩=false from HB.out.2.1.free 0);have fh1:=(show World.frozen? _ ⟨s+1,1,none⟩=false from HB.out.2.1.free 1)
     go_wp2_with fail
     refine (hO.out _ HB.out.2.2.2).mono ?_
     rintro e W2 ⟨rfl,b⟩
     have HN:=Lib.hid (And.intro (HB.out.1.next b) (And.intro (HB.out.2.1.next b) (And.intro (HB.out.2.2.1.next b) (HB.out.2.2.2.trans (b.mono (by have h1:=HB.out.2.2.2.size;have h2:=HK.out;omega))))));clear HB b l0 l1 h0 h1 fl0 fl1 fh0 fh1;have HB:=HN;clear HN;have l0:=(show World.cell? _ ⟨s,0,none⟩=some (.string sc) from HB.out.1.cell 0 _ rfl);have l1:=(show World.cell? _ ⟨s,1,none⟩=some (.string sr) from HB.out.1.cell 1 _ rfl);have fl0:=(show World.frozen? _ ⟨s,0,none⟩=false from HB.out.1.free 0);have fl1:=(show World.frozen? _ ⟨s,1,none⟩=false from HB.out.1.free 1);have h0:=(show World.cell? _ ⟨s+1,0,none⟩=some (.string tc) from HB.out.2.1.cell 0 _ rfl);have h1:=(show World.cell? _ ⟨s+1,1,none⟩=some (.string tr) from HB.out.2.1.cell 1 _ rfl);have fh0:=(show World.frozen? _ ⟨s+1,0,none⟩=false from HB.out.2.1.free 0);have fh1:=(show World.frozen? _ ⟨s+1,1,none⟩=false from HB.out.2.1.free 1)
     have xy:(s)≠(s+1):=by omega
     have yx:(s+1)≠(s):=by omega
     go_wp2_with fail
     have HN:=Lib.hid (And.intro ((HB.out.1.put2 (.string tc) (.string tr)).other2 xy (.string sc) (.string sr)) (And.intro ((HB.out.2.1.other2 yx (.string tc) (.string tr)).put2 (.string sc) (.string sr)) (And.intro ((HB.out.2.2.1.other2 (show k≠s by omega) (.string tc) (.string tr)).other2 (show k≠s+1 by omega) (.string sc) (.string sr)) (below_put2 (below_put2 HB.out.2.2.2 (l:=s) (by have h2:=HK.out;omega) (.string tc) (.string tr)) (l:=s+1) (by have h2:=HK.out;omega) (.string sc) (.string sr)))))
     clear HB l0 l1 h0 h1 fl0 fl1 fh0 fh1;have HB:=HN;clear HN
     generalize (((W2.setCell ⟨s,0,none⟩ (.string tc)).setCell ⟨s,1,none⟩ (.string tr)).setCell ⟨s+1,0,none⟩ (.string sc)).setCell ⟨s+1,1,none⟩ (.string sr)=W3 at *
     have l0:=(show World.cell? _ ⟨s,0,none⟩=some (.string tc) from HB.out.1.cell 0 _ rfl);have l1:=(show World.cell? _ ⟨s,1,none⟩=some (.string tr) from HB.out.1.cell 1 _ rfl);have fl0:=(show World.frozen? _ ⟨s,0,none⟩=false from HB.out.1.free 0);have fl1:=(show World.frozen? _ ⟨s,1,none⟩=false from HB.out.1.free 1);have h0:=(show World.cell? _ ⟨s+1,0,none⟩=some (.string sc) from HB.out.2.1.cell 0 _ rfl);have h1:=(show World.cell? _ ⟨s+1,1,none⟩=some (.string sr) from HB.out.2.1.cell 1 _ rfl);have fh0:=(show World.frozen? _ ⟨s+1,0,none⟩=false from HB.out.2.1.free 0);have fh1:=(show World.frozen? _ ⟨s+1,1,none⟩=false from HB.out.2.1.free 1)
     refine (hR.out _ HB.out.2.2.2).mono ?_
     rintro e W4 ⟨rfl,b⟩
     have HN:=Lib.hid (And.intro (HB.out.1.next b) (And.intro (HB.out.2.1.next b) (And.intro (HB.out.2.2.1.next b) (HB.out.2.2.2.trans (b.mono (by have h1:=HB.out.2.2.2.size;have h2:=HK.out;omega))))));clear HB b l0 l1 h0 h1 fl0 fl1 fh0 fh1;have HB:=HN;clear HN;have l0:=(show World.cell? _ ⟨s,0,none⟩=some (.string tc) from HB.out.1.cell 0 _ rfl);have l1:=(show World.cell? _ ⟨s,1,none⟩=some (.string tr) from HB.out.1.cell 1 _ rfl);have fl0:=(show World.frozen? _ ⟨s,0,none⟩=false from HB.out.1.free 0);have fl1:=(show World.frozen? _ ⟨s,1,none⟩=false from HB.out.1.free 1);have h0:=(show World.cell? _ ⟨s+1,0,none⟩=some (.string sc) from HB.out.2.1.cell 0 _ rfl);have h1:=(show World.cell? _ ⟨s+1,1,none⟩=some (.string sr) from HB.out.2.1.cell 1 _ rfl);have fh0:=(show World.frozen? _ ⟨s+1,0,none⟩=false from HB.out.2.1.free 0);have fh1:=(show World.frozen? _ ⟨s+1,1,none⟩=false from HB.out.2.1.free 1)
     go_wp2
     go_roundw
     case rel=>exact ⟨j+1,by go_num,by omega,HB.out.2.2⟩
     case measure=>simp [intOf];omega
    ·have HN:=Lib.hid (And.intro (Blk.drew ((by have h:=Blk.new (u.alloc (.cells #[.string tc,.string tr] 60)) #[.string sc,.string sr] 60;rwa [show (u.alloc (.cells #[.string tc,.string tr] 60)).heap.size=u.heap.size+1 by simp] at h:Blk ((u.alloc (.cells #[.string tc,.string tr] 60)).alloc (.cells #[.string sc,.string sr] 60)) (u.heap.size+1) #[.string sc,.string sr]))) (And.intro (Blk.drew ((Blk.new u #[.string tc,.string tr] 60).alloc (.cells #[.string sc,.string sr] 60))) (And.intro (((HB.out.1.alloc (.cells #[.string tc,.string tr] 60)).alloc (.cells #[.string sc,.string sr] 60)).drew) (((HB.out.2.2.alloc (by have h1:=HB.out.2.2.size;have h2:=HK.out;omega) (.cells #[.string tc,.string tr] 60)).alloc (by have h1:=HB.out.2.2.size;have h2:=HK.out;simp;omega) (.cells #[.string sc,.string sr] 60)).drew))))
     clear HB;have HB:=HN;clear HN
     generalize ((u.alloc (.cells #[.string tc,.string tr] 60)).alloc (.cells #[.string sc,.string sr] 60)).drew=W at *
     generalize u.heap.size=s at *
     clear e0 e1 f0 f1 g0 g1 i0 i1 k1 k2 m1 m2
     have l0:=(show World.cell? _ ⟨s+1,0,none⟩=some (.string sc) from HB.out.1.cell 0 _ rfl);have l1:=(show World.cell? _ ⟨s+1,1,none⟩=some (.string sr) from HB.out.1.cell 1 _ rfl);have fl0:=(show World.frozen? _ ⟨s+1,0,none⟩=false from HB.out.1.free 0);have fl1:=(show World.frozen? _ ⟨s+1,1,none⟩=false from HB.out.1.free 1);have h0:=(show World.cell? _ ⟨s,0,none⟩=some (.string tc) from HB.out.2.1.cell 0 _ rfl);have h1:=(show World.cell? _ ⟨s,1,none⟩=some (.string tr) from HB.out.2.1.cell 1 _ rfl);have fh0:=(show World.frozen? _ ⟨s,0,none⟩=false from HB.out.2.1.free 0);have fh1:=(show World.frozen? _ ⟨s,1,none⟩=false from HB.out.2.1.free 1)
     go_wp2_with fail
     refine (hO.out _ HB.out.2.2.2).mono ?_
     rintro e W2 ⟨rfl,b⟩
     have HN:=Lib.hid (And.intro (HB.out.1.next b) (And.intro (HB.out.2.1.next b) (And.intro (HB.out.2.2.1.next b) (HB.out.2.2.2.trans (b.mono (by have h1:=HB.out.2.2.2.size;have h2:=HK.out;omega))))));clear HB b l0 l1 h0 h1 fl0 fl1 fh0 fh1;have HB:=HN;clear HN;have l0:=(show World.cell? _ ⟨s+1,0,none⟩=some (.string sc) from HB.out.1.cell 0 _ rfl);have l1:=(show World.cell? _ ⟨s+1,1,none⟩=some (.string sr) from HB.out.1.cell 1 _ rfl);have fl0:=(show World.frozen? _ ⟨s+1,0,none⟩=false from HB.out.1.free 0);have fl1:=(show World.frozen? _ ⟨s+1,1,none⟩=false from HB.out.1.free 1);have h0:=(show World.cell? _ ⟨s,0,none⟩=some (.string tc) from HB.out.2.1.cell 0 _ rfl);have h1:=(show World.cell? _ ⟨s,1,none⟩=some (.string tr) from HB.out.2.1.cell 1 _ rfl);have fh0:=(show World.frozen? _ ⟨s,0,none⟩=false from HB.out.2.1.free 0);have fh1:=(show World.frozen? _ ⟨s,1,none⟩=false from HB.out.2.1.free 1)
     have xy:(s+1)≠(s):=by omega
     have yx:(s)≠(s+1):=by omega
     go_wp2_with fail
     have HN:=Lib.hid (And.intro ((HB.out.1.put2 (.string tc) (.string tr)).other2 xy (.string sc) (.string sr)) (And.intro ((HB.out.2.1.other2 yx (.string tc) (.string tr)).put2 (.string sc) (.string sr)) (And.intro ((HB.out.2.2.1.other2 (show k≠s+1 by omega) (.string tc) (.string tr)).other2 (show k≠s by omega) (.string sc) (.string sr)) (below_put2 (below_put2 HB.out.2.2.2 (l:=s+1) (by have h2:=HK.out;omega) (.string tc) (.string tr)) (l:=s) (by have h2:=HK.out;omega) (.string sc) (.string sr)))))
     clear HB l0 l1 h0 h1 fl0 fl1 fh0 fh1;have HB:=HN;clear HN
     generalize (((W2.setCell ⟨s+1,0,none⟩ (.string tc)).setCell ⟨s+1,1,none⟩ (.string tr)).setCell ⟨s,0,none⟩ (.string sc)).setCell ⟨s,1,none⟩ (.string sr)=W3 at *
     have l0:=(show World.cell? _ ⟨s+1,0,none⟩=some (.string tc) from HB.out.1.cell 0 _ rfl);have l1:=(show World.cell? _ ⟨s+1,1,none⟩=some (.string tr) from HB.out.1.cell 1 _ rfl);have fl0:=(show World.frozen? _ ⟨s+1,0,none⟩=false from HB.out.1.free 0);have fl1:=(show World.frozen? _ ⟨s+1,1,none⟩=false from HB.out.1.free 1);have h0:=(show World.cell? _ ⟨s,0,none⟩=some (.string sc) from HB.out.2.1.cell 0 _ rfl);have h1:=(show World.cell? _ ⟨s,1,none⟩=some (.string sr) from HB.out.2.1.cell 1 _ rfl);have fh0:=(show World.frozen? _ ⟨s,0,none⟩=false from HB.out.2.1.free 0);have fh1:=(show World.frozen? _ ⟨s,1,none⟩=false from HB.out.2.1.free 1)
     refine (hR.out _ HB.out.2.2.2).mono ?_
     rintro e W4 ⟨rfl,b⟩
     have HN:=Lib.hid (And.intro (HB.out.1.next b) (And.intro (HB.out.2.1.next b) (And.intro (HB.out.2.2.1.next b) (HB.out.2.2.2.trans (b.mono (by have h1:=HB.out.2.2.2.size;have h2:=HK.out;omega))))));clear HB b l0 l1 h0 h1 fl0 fl1 fh0 fh1;have HB:=HN;clear HN;have l0:=(show World.cell? _ ⟨s+1,0,none⟩=some (.string tc) from HB.out.1.cell 0 _ rfl);have l1:=(show World.cell? _ ⟨s+1,1,none⟩=some (.string tr) from HB.out.1.cell 1 _ rfl);have fl0:=(show World.frozen? _ ⟨s+1,0,none⟩=false from HB.out.1.free 0);have fl1:=(show World.frozen? _ ⟨s+1,1,none⟩=false from HB.out.1.free 1);have h0:=(show World.cell? _ ⟨s,0,none⟩=some (.string sc) from HB.out.2.1.cell 0 _ rfl);have h1:=(show World.cell? _ ⟨s,1,none⟩=some (.string sr) from HB.out.2.1.cell 1 _ rfl);have fh0:=(show World.frozen? _ ⟨s,0,none⟩=false from HB.out.2.1.free 0);have fh1:=(show World.frozen? _ ⟨s,1,none⟩=false from HB.out.2.1.free 1)
     go_wp2
     go_roundw
     case rel=>exact ⟨j+1,by go_num,by omega,HB.out.2.2⟩
     case measure=>simp [intOf];omega
   ·have hR:=Lib.hid (O.out.2.2 j hlt (by omega))
    generalize x j=xj at *
    generalize hsc:sc j=sc at *
    generalize hsr:sr j=sr at *
    clear hsc hsr
    go_wp2
    have HN:=Lib.hid (And.intro (HB.out.1.alloc (.cells #[.string sc,.string sr] 60)) (And.intro (Blk.new wr #[.string sc,.string sr] 60) (HB.out.2.alloc (by have h1:=HB.out.2.size;have h2:=HK.out;omega) (.cells #[.string sc,.string sr] 60))))
    clear HB d0 d1;have HB:=HN;clear HN
    generalize wr.alloc (.cells #[.string sc,.string sr] 60)=u at *
    generalize wr.heap.size=m at *
    have e0:=(show World.cell? _ ⟨k,0,none⟩=some (.string tc) from HB.out.1.cell 0 _ rfl)
    have e1:=(show World.cell? _ ⟨k,1,none⟩=some (.string tr) from HB.out.1.cell 1 _ rfl)
    have f0:=(show World.cell? _ ⟨m,0,none⟩=some (.string sc) from HB.out.2.1.cell 0 _ rfl)
    have f1:=(show World.cell? _ ⟨m,1,none⟩=some (.string sr) from HB.out.2.1.cell 1 _ rfl)
    have kn:k<u.heap.size:=HB.out.1.lt
    have mn:m<u.heap.size:=HB.out.2.1.lt
    have k1:k≠u.heap.size:=by omega
    have k2:k≠u.heap.size+1:=by omega
    have m1:m≠u.heap.size:=by omega
    have m2:m≠u.heap.size+1:=by omega
    have g0:=alc_d (alc e0 (o := .cells #[.string ⟨#[]⟩,.string ⟨#[]⟩] 60)) (o := .cells #[.string ⟨#[]⟩,.string ⟨#[]⟩] 60)
    have g1:=alc_d (alc e1 (o := .cells #[.string ⟨#[]⟩,.string ⟨#[]⟩] 60)) (o := .cells #[.string ⟨#[]⟩,.string ⟨#[]⟩] 60)
    have i0:=alc_d (alc f0 (o := .cells #[.string ⟨#[]⟩,.string ⟨#[]⟩] 60)) (o := .cells #[.string ⟨#[]⟩,.string ⟨#[]⟩] 60)
    have i1:=alc_d (alc f1 (o := .cells #[.string ⟨#[]⟩,.string ⟨#[]⟩] 60)) (o := .cells #[.string ⟨#[]⟩,.string ⟨#[]⟩] 60)
    go_region
    ·have HN:=Lib.hid (And.intro (Blk.drew ((Blk.new u #[.string sc,.string sr] 60).alloc (.cells #[.string tc,.string tr] 60))) (And.intro (Blk.drew ((by have h:=Blk.new (u.alloc (.cells #[.string sc,.string sr] 60)) #[.string tc,.string tr] 60;rwa [show (u.alloc (.cells #[.string sc,.string sr] 60)).heap.size=u.heap.size+1 by simp] at h:Blk ((u.alloc (.cells #[.string sc,.string sr] 60)).alloc (.cells #[.string tc,.string tr] 60)) (u.heap.size+1) #[.string tc,.string tr]))) (And.intro (((HB.out.1.alloc (.cells #[.string sc,.string sr] 60)).alloc (.cells #[.string tc,.string tr] 60)).drew) (((HB.out.2.2.alloc (by have h1:=HB.out.2.2.size;have h2:=HK.out;omega) (.cells #[.string sc,.string sr] 60)).alloc (by have h1:=HB.out.2.2.size;have h2:=HK.out;simp;omega) (.cells #[.string tc,.string tr] 60)).drew))))
     clear HB;have HB:=HN;clear HN
     generalize ((u.alloc (.cells #[.string sc,.string sr] 60)).alloc (.cells #[.string tc,.string tr] 60)).drew=W at *
     generalize u.heap.size=s at *
     clear e0 e1 f0 f1 g0 g1 i0 i1 k1 k2 m1 m2
     have l0:=(show World.cell? _ ⟨s,0,none⟩=some (.string sc) from HB.out.1.cell 0 _ rfl);have l1:=(show World.cell? _ ⟨s,1,none⟩=some (.string sr) from HB.out.1.cell 1 _ rfl);have fl0:=(show World.frozen? _ ⟨s,0,none⟩=false from HB.out.1.free 0);have fl1:=(show World.frozen? _ ⟨s,1,none⟩=false from HB.out.1.free 1);have h0:=(show World.cell? _ ⟨s+1,0,none⟩=some (.string tc) from HB.out.2.1.cell 0 _ rfl);have h1:=(show World.cell? _ ⟨s+1,1,none⟩=some (.string tr) from HB.out.2.1.cell 1 _ rfl);have fh0:=(show World.frozen? _ ⟨s+1,0,none⟩=false from HB.out.2.1.free 0);have fh1:=(show World.frozen? _ ⟨s+1,1,none⟩=false from HB.out.2.1.free 1)
     go_wp2_with fail
     refine (hO.out _ HB.out.2.2.2).mono ?_
     rintro e W2 ⟨rfl,b⟩
     have HN:=Lib.hid (And.intro (HB.out.1.next b) (And.intro (HB.out.2.1.next b) (And.intro (HB.out.2.2.1.next b) (HB.out.2.2.2.trans (b.mono (by have h1:=HB.out.2.2.2.size;have h2:=HK.out;omega))))));clear HB b l0 l1 h0 h1 fl0 fl1 fh0 fh1;have HB:=HN;clear HN;have l0:=(show World.cell? _ ⟨s,0,none⟩=some (.string sc) from HB.out.1.cell 0 _ rfl);have l1:=(show World.cell? _ ⟨s,1,none⟩=some (.string sr) from HB.out.1.cell 1 _ rfl);have fl0:=(show World.frozen? _ ⟨s,0,none⟩=false from HB.out.1.free 0);have fl1:=(show World.frozen? _ ⟨s,1,none⟩=false from HB.out.1.free 1);have h0:=(show World.cell? _ ⟨s+1,0,none⟩=some (.string tc) from HB.out.2.1.cell 0 _ rfl);have h1:=(show World.cell? _ ⟨s+1,1,none⟩=some (.string tr) from HB.out.2.1.cell 1 _ rfl);have fh0:=(show World.frozen? _ ⟨s+1,0,none⟩=false from HB.out.2.1.free 0);have fh1:=(show World.frozen? _ ⟨s+1,1,none⟩=false from HB.out.2.1.free 1)
     go_wp2_with fail
     refine (hR.out _ HB.out.2.2.2).mono ?_
     rintro e W4 ⟨rfl,b⟩
     have HN:=Lib.hid (And.intro (HB.out.1.next b) (And.intro (HB.out.2.1.next b) (And.intro (HB.out.2.2.1.next b) (HB.out.2.2.2.trans (b.mono (by have h1:=HB.out.2.2.2.size;have h2:=HK.out;omega))))));clear HB b l0 l1 h0 h1 fl0 fl1 fh0 fh1;have HB:=HN;clear HN;have l0:=(show World.cell? _ ⟨s,0,none⟩=some (.string sc) from HB.out.1.cell 0 _ rfl);have l1:=(show World.cell? _ ⟨s,1,none⟩=some (.string sr) from HB.out.1.cell 1 _ rfl);have fl0:=(show World.frozen? _ ⟨s,0,none⟩=false from HB.out.1.free 0);have fl1:=(show World.frozen? _ ⟨s,1,none⟩=false from HB.out.1.free 1);have h0:=(show World.cell? _ ⟨s+1,0,none⟩=some (.string tc) from HB.out.2.1.cell 0 _ rfl);have h1:=(show World.cell? _ ⟨s+1,1,none⟩=some (.string tr) from HB.out.2.1.cell 1 _ rfl);have fh0:=(show World.frozen? _ ⟨s+1,0,none⟩=false from HB.out.2.1.free 0);have fh1:=(show World.frozen? _ ⟨s+1,1,none⟩=false from HB.out.2.1.free 1)
     go_wp2
     go_roundw
     case rel=>exact ⟨j+1,by go_num,by omega,HB.out.2.2⟩
     case measure=>simp [intOf];omega
    ·have HN:=Lib.hid (And.intro (Blk.drew ((by have h:=Blk.new (u.alloc (.cells #[.string tc,.string tr] 60)) #[.string sc,.string sr] 60;rwa [show (u.alloc (.cells #[.string tc,.string tr] 60)).heap.size=u.heap.size+1 by simp] at h:Blk ((u.alloc (.cells #[.string tc,.string tr] 60)).alloc (.cells #[.string sc,.string sr] 60)) (u.heap.size+1) #[.string sc,.string sr]))) (And.intro (Blk.drew ((Blk.new u #[.string tc,.string tr] 60).alloc (.cells #[.string sc,.string sr] 60))) (And.intro (((HB.out.1.alloc (.cells #[.string tc,.string tr] 60)).alloc (.cells #[.string sc,.string sr] 60)).drew) (((HB.out.2.2.alloc (by have h1:=HB.out.2.2.size;have h2:=HK.out;omega) (.cells #[.string tc,.string tr] 60)).alloc (by have h1:=HB.out.2.2.size;have h2:=HK.out;simp;omega) (.cells #[.string sc,.string sr] 60)).drew))))
     clear HB;have HB:=HN;clear HN
     generalize ((u.alloc (.cells #[.string tc,.string tr] 60)).alloc (.cells #[.string sc,.string sr] 60)).drew=W at *
     generalize u.heap.size=s at *
     clear e0 e1 f0 f1 g0 g1 i0 i1 k1 k2 m1 m2
     have l0:=(show World.cell? _ ⟨s+1,0,none⟩=some (.string sc) from HB.out.1.cell 0 _ rfl);have l1:=(show World.cell? _ ⟨s+1,1,none⟩=some (.string sr) from HB.out.1.cell 1 _ rfl);have fl0:=(show World.frozen? _ ⟨s+1,0,none⟩=false from HB.out.1.free 0);have fl1:=(show World.frozen? _ ⟨s+1,1,none⟩=false from HB.out.1.free 1);have h0:=(show World.cell? _ ⟨s,0,none⟩=some (.string tc) from HB.out.2.1.cell 0 _ rfl);have h1:=(show World.cell? _ ⟨s,1,none⟩=some (.string tr) from HB.out.2.1.cell 1 _ rfl);have fh0:=(show World.frozen? _ ⟨s,0,none⟩=false from HB.out.2.1.free 0);have fh1:=(show World.frozen? _ ⟨s,1,none⟩=false from HB.out.2.1.free 1)
     go_wp2_with fail
     refine (hO.out _ HB.out.2.2.2).mono ?_
     rintro e W2 ⟨rfl,b⟩
     have HN:=Lib.hid (And.intro (HB.out.1.next b) (And.intro (HB.out.2.1.next b) (And.intro (HB.out.2.2.1.next b) (HB.out.2.2.2.trans (b.mono (by have h1:=HB.out.2.2.2.size;have h2:=HK.out;omega))))));clear HB b l0 l1 h0 h1 fl0 fl1 fh0 fh1;have HB:=HN;clear HN;have l0:=(show World.cell? _ ⟨s+1,0,none⟩=some (.string sc) from HB.out.1.cell 0 _ rfl);have l1:=(show World.cell? _ ⟨s+1,1,none⟩=some (.string sr) from HB.out.1.cell 1 _ rfl);have fl0:=(show World.frozen? _ ⟨s+1,0,none⟩=false from HB.out.1.free 0);have fl1:=(show World.frozen? _ ⟨s+1,1,none⟩=false from HB.out.1.free 1);have h0:=(show World.cell? _ ⟨s,0,none⟩=some (.string tc) from HB.out.2.1.cell 0 _ rfl);have h1:=(show World.cell? _ ⟨s,1,none⟩=some (.string tr) from HB.out.2.1.cell 1 _ rfl);have fh0:=(show World.frozen? _ ⟨s,0,none⟩=false from HB.out.2.1.free 0);have fh1:=(show World.frozen? _ ⟨s,1,none⟩=false from HB.out.2.1.free 1)
     go_wp2_with fail
     refine (hR.out _ HB.out.2.2.2).mono ?_
     rintro e W4 ⟨rfl,b⟩
     have HN:=Lib.hid (And.intro (HB.out.1.next b) (And.intro (HB.out.2.1.next b) (And.intro (HB.out.2.2.1.next b) (HB.out.2.2.2.trans (b.mono (by have h1:=HB.out.2.2.2.size;have h2:=HK.out;omega))))));clear HB b l0 l1 h0 h1 fl0 fl1 fh0 fh1;have HB:=HN;clear HN;have l0:=(show World.cell? _ ⟨s+1,0,none⟩=some (.string sc) from HB.out.1.cell 0 _ rfl);have l1:=(show World.cell? _ ⟨s+1,1,none⟩=some (.string sr) from HB.out.1.cell 1 _ rfl);have fl0:=(show World.frozen? _ ⟨s+1,0,none⟩=false from HB.out.1.free 0);have fl1:=(show World.frozen? _ ⟨s+1,1,none⟩=false from HB.out.1.free 1);have h0:=(show World.cell? _ ⟨s,0,none⟩=some (.string tc) from HB.out.2.1.cell 0 _ rfl);have h1:=(show World.cell? _ ⟨s,1,none⟩=some (.string tr) from HB.out.2.1.cell 1 _ rfl);have fh0:=(show World.frozen? _ ⟨s,0,none⟩=false from HB.out.2.1.free 0);have fh1:=(show World.frozen? _ ⟨s,1,none⟩=false from HB.out.2.1.free 1)
     go_wp2
     go_roundw
     case rel=>exact ⟨j+1,by go_num,by omega,HB.out.2.2⟩
     case measure=>simp [intOf];omega
  ·obtain rfl:j=q:=by omega
   have hz:(j:Int)<n:=by omega
   have d0:=(HB.out.2.cell (p:=⟨bb,j*2,none⟩) HT.out.1).trans (HT.out.2.1 j (by omega))
   have d1:=(HB.out.2.cell (p:=⟨bb,j*2+1,none⟩) HT.out.1).trans (HT.out.2.2.1 j (by omega))
   have hO:=Lib.hid (O.out.1 j (by omega))
   have hR:=Lib.hid O2.out.1
   have hM:=Lib.hid O2.out.2.1
   have hA:=Lib.hid O2.out.2.2
   clear O2 O
   generalize x j=xj at *
   generalize sc j=sc at *
   generalize sr j=sr at *
   go_wp2
   have HN:=Lib.hid (And.intro (HB.out.1.alloc (.cells #[.string sc,.string sr] 60)) (And.intro (Blk.new wr #[.string sc,.string sr] 60) (HB.out.2.alloc (by have h1:=HB.out.2.size;have h2:=HK.out;omega) (.cells #[.string sc,.string sr] 60))))
   clear HB d0 d1;have HB:=HN;clear HN
   generalize wr.alloc (.cells #[.string sc,.string sr] 60)=u at *
   generalize wr.heap.size=m at *
   have e0:=(show World.cell? _ ⟨k,0,none⟩=some (.string tc) from HB.out.1.cell 0 _ rfl)
   have e1:=(show World.cell? _ ⟨k,1,none⟩=some (.string tr) from HB.out.1.cell 1 _ rfl)
   have f0:=(show World.cell? _ ⟨m,0,none⟩=some (.string sc) from HB.out.2.1.cell 0 _ rfl)
   have f1:=(show World.cell? _ ⟨m,1,none⟩=some (.string sr) from HB.out.2.1.cell 1 _ rfl)
   have kn:k<u.heap.size:=HB.out.1.lt
   have mn:m<u.heap.size:=HB.out.2.1.lt
   have k1:k≠u.heap.size:=by omega
   have k2:k≠u.heap.size+1:=by omega
   have m1:m≠u.heap.size:=by omega
   have m2:m≠u.heap.size+1:=by omega
   have g0:=alc_d (alc e0 (o := .cells #[.string ⟨#[]⟩,.string ⟨#[]⟩] 60)) (o := .cells #[.string ⟨#[]⟩,.string ⟨#[]⟩] 60)
   have g1:=alc_d (alc e1 (o := .cells #[.string ⟨#[]⟩,.string ⟨#[]⟩] 60)) (o := .cells #[.string ⟨#[]⟩,.string ⟨#[]⟩] 60)
   have i0:=alc_d (alc f0 (o := .cells #[.string ⟨#[]⟩,.string ⟨#[]⟩] 60)) (o := .cells #[.string ⟨#[]⟩,.string ⟨#[]⟩] 60)
   have i1:=alc_d (alc f1 (o := .cells #[.string ⟨#[]⟩,.string ⟨#[]⟩] 60)) (o := .cells #[.string ⟨#[]⟩,.string ⟨#[]⟩] 60)
   go_region
   ·have HN:=Lib.hid (And.intro (Blk.drew ((Blk.new u #[.string sc,.string sr] 60).alloc (.cells #[.string tc,.string tr] 60))) (And.intro (Blk.drew ((by have h:=Blk.new (u.alloc (.cells #[.string sc,.string sr] 60)) #[.string tc,.string tr] 60;rwa [show (u.alloc (.cells #[.string sc,.string sr] 60)).heap.size=u.heap.size+1 by simp] at h:Blk ((u.alloc (.cells #[.string sc,.string sr] 60)).alloc (.cells #[.string tc,.string tr] 60)) (u.heap.size+1) #[.string tc,.string tr]))) (And.intro (((HB.out.1.alloc (.cells #[.string sc,.string sr] 60)).alloc (.cells #[.string tc,.string tr] 60)).drew) (((HB.out.2.2.alloc (by have h1:=HB.out.2.2.size;have h2:=HK.out;omega) (.cells #[.string sc,.string sr] 60)).alloc (by have h1:=HB.out.2.2.size;have h2:=HK.out;simp;omega) (.cells #[.string tc,.string tr] 60)).drew))))
    clear HB;have HB:=HN;clear HN
    generalize ((u.alloc (.cells #[.string sc,.string sr] 60)).alloc (.cells #[.string tc,.string tr] 60)).drew=W at *
    generalize u.heap.size=s at *
    clear e0 e1 f0 f1 g0 g1 i0 i1 k1 k2 m1 m2
    have l0:=(show World.cell? _ ⟨s,0,none⟩=some (.string sc) from HB.out.1.cell 0 _ rfl);have l1:=(show World.cell? _ ⟨s,1,none⟩=some (.string sr) from HB.out.1.cell 1 _ rfl);have fl0:=(show World.frozen? _ ⟨s,0,none⟩=false from HB.out.1.free 0);have fl1:=(show World.frozen? _ ⟨s,1,none⟩=false from HB.out.1.free 1);have h0:=(show World.cell? _ ⟨s+1,0,none⟩=some (.string tc) from HB.out.2.1.cell 0 _ rfl);have h1:=(show World.cell? _ ⟨s+1,1,none⟩=some (.string tr) from HB.out.2.1.cell 1 _ rfl);have fh0:=(show World.frozen? _ ⟨s+1,0,none⟩=false from HB.out.2.1.free 0);have fh1:=(show World.frozen? _ ⟨s+1,1,none⟩=false from HB.out.2.1.free 1)
    go_wp2_with fail
    refine (hO.out _ HB.out.2.2.2).mono ?_
    rintro e W2 ⟨rfl,b⟩
    have HN:=Lib.hid (And.intro (HB.out.1.next b) (And.intro (HB.out.2.1.next b) (And.intro (HB.out.2.2.1.next b) (HB.out.2.2.2.trans (b.mono (by have h1:=HB.out.2.2.2.size;have h2:=HK.out;omega))))));clear HB b l0 l1 h0 h1 fl0 fl1 fh0 fh1;have HB:=HN;clear HN;have l0:=(show World.cell? _ ⟨s,0,none⟩=some (.string sc) from HB.out.1.cell 0 _ rfl);have l1:=(show World.cell? _ ⟨s,1,none⟩=some (.string sr) from HB.out.1.cell 1 _ rfl);have fl0:=(show World.frozen? _ ⟨s,0,none⟩=false from HB.out.1.free 0);have fl1:=(show World.frozen? _ ⟨s,1,none⟩=false from HB.out.1.free 1);have h0:=(show World.cell? _ ⟨s+1,0,none⟩=some (.string tc) from HB.out.2.1.cell 0 _ rfl);have h1:=(show World.cell? _ ⟨s+1,1,none⟩=some (.string tr) from HB.out.2.1.cell 1 _ rfl);have fh0:=(show World.frozen? _ ⟨s+1,0,none⟩=false from HB.out.2.1.free 0);have fh1:=(show World.frozen? _ ⟨s+1,1,none⟩=false from HB.out.2.1.free 1)
    go_wp2_with fail
    refine (hR.out _ HB.out.2.2.2).mono ?_
    rintro e W4 ⟨rfl,b⟩
    have HN:=Lib.hid (And.intro (HB.out.1.next b) (And.intro (HB.out.2.1.next b) (And.intro (HB.out.2.2.1.next b) (HB.out.2.2.2.trans (b.mono (by have h1:=HB.out.2.2.2.size;have h2:=HK.out;omega))))));clear HB b l0 l1 h0 h1 fl0 fl1 fh0 fh1;have HB:=HN;clear HN;have l0:=(show World.cell? _ ⟨s,0,none⟩=some (.string sc) from HB.out.1.cell 0 _ rfl);have l1:=(show World.cell? _ ⟨s,1,none⟩=some (.string sr) from HB.out.1.cell 1 _ rfl);have fl0:=(show World.frozen? _ ⟨s,0,none⟩=false from HB.out.1.free 0);have fl1:=(show World.frozen? _ ⟨s,1,none⟩=false from HB.out.1.free 1);have h0:=(show World.cell? _ ⟨s+1,0,none⟩=some (.string tc) from HB.out.2.1.cell 0 _ rfl);have h1:=(show World.cell? _ ⟨s+1,1,none⟩=some (.string tr) from HB.out.2.1.cell 1 _ rfl);have fh0:=(show World.frozen? _ ⟨s+1,0,none⟩=false from HB.out.2.1.free 0);have fh1:=(show World.frozen? _ ⟨s+1,1,none⟩=false from HB.out.2.1.free 1)
    go_wp2_with fail
    refine (hM.out _ HB.out.2.2.2).mono ?_
    rintro e W5 ⟨rfl,b⟩
    have HN:=Lib.hid (And.intro (HB.out.1.next b) (And.intro (HB.out.2.1.next b) (And.intro (HB.out.2.2.1.next b) (HB.out.2.2.2.trans (b.mono (by have h1:=HB.out.2.2.2.size;have h2:=HK.out;omega))))));clear HB b l0 l1 h0 h1 fl0 fl1 fh0 fh1;have HB:=HN;clear HN;have l0:=(show World.cell? _ ⟨s,0,none⟩=some (.string sc) from HB.out.1.cell 0 _ rfl);have l1:=(show World.cell? _ ⟨s,1,none⟩=some (.string sr) from HB.out.1.cell 1 _ rfl);have fl0:=(show World.frozen? _ ⟨s,0,none⟩=false from HB.out.1.free 0);have fl1:=(show World.frozen? _ ⟨s,1,none⟩=false from HB.out.1.free 1);have h0:=(show World.cell? _ ⟨s+1,0,none⟩=some (.string tc) from HB.out.2.1.cell 0 _ rfl);have h1:=(show World.cell? _ ⟨s+1,1,none⟩=some (.string tr) from HB.out.2.1.cell 1 _ rfl);have fh0:=(show World.frozen? _ ⟨s+1,0,none⟩=false from HB.out.2.1.free 0);have fh1:=(show World.frozen? _ ⟨s+1,1,none⟩=false from HB.out.2.1.free 1)
    go_wp2_with fail
    refine (hA.out _ HB.out.2.2.2).mono ?_
    rintro e W6 ⟨rfl,b⟩
    have HN:=Lib.hid (And.intro (HB.out.1.next b) (And.intro (HB.out.2.1.next b) (And.intro (HB.out.2.2.1.next b) (HB.out.2.2.2.trans (b.mono (by have h1:=HB.out.2.2.2.size;have h2:=HK.out;omega))))));clear HB b l0 l1 h0 h1 fl0 fl1 fh0 fh1;have HB:=HN;clear HN;have l0:=(show World.cell? _ ⟨s,0,none⟩=some (.string sc) from HB.out.1.cell 0 _ rfl);have l1:=(show World.cell? _ ⟨s,1,none⟩=some (.string sr) from HB.out.1.cell 1 _ rfl);have fl0:=(show World.frozen? _ ⟨s,0,none⟩=false from HB.out.1.free 0);have fl1:=(show World.frozen? _ ⟨s,1,none⟩=false from HB.out.1.free 1);have h0:=(show World.cell? _ ⟨s+1,0,none⟩=some (.string tc) from HB.out.2.1.cell 0 _ rfl);have h1:=(show World.cell? _ ⟨s+1,1,none⟩=some (.string tr) from HB.out.2.1.cell 1 _ rfl);have fh0:=(show World.frozen? _ ⟨s+1,0,none⟩=false from HB.out.2.1.free 0);have fh1:=(show World.frozen? _ ⟨s+1,1,none⟩=false from HB.out.2.1.free 1)
    have q0:=(HB.out.2.2.2.cell (p:=⟨bb,j*2,none⟩) HT.out.1).trans (HT.out.2.1 j (by omega))
    have q1:=(HB.out.2.2.2.cell (p:=⟨bb,j*2+1,none⟩) HT.out.1).trans (HT.out.2.2.1 j (by omega))
    have fq0:=(HB.out.2.2.2.frozen (p:=⟨bb,j*2,none⟩) HT.out.1).trans (HT.out.2.2.2 (j*2))
    have fq1:=(HB.out.2.2.2.frozen (p:=⟨bb,j*2+1,none⟩) HT.out.1).trans (HT.out.2.2.2 (j*2+1))
    go_wp2
    go_ret2
    have hbl:=HB.out.2.2.2
    rw [←HK.out] at hbl
    exact ⟨rfl,W6,hbl,by rw [E.out]⟩
   ·have HN:=Lib.hid (And.intro (Blk.drew ((by have h:=Blk.new (u.alloc (.cells #[.string tc,.string tr] 60)) #[.string sc,.string sr] 60;rwa [show (u.alloc (.cells #[.string tc,.string tr] 60)).heap.size=u.heap.size+1 by simp] at h:Blk ((u.alloc (.cells #[.string tc,.string tr] 60)).alloc (.cells #[.string sc,.string sr] 60)) (u.heap.size+1) #[.string sc,.string sr]))) (And.intro (Blk.drew ((Blk.new u #[.string tc,.string tr] 60).alloc (.cells #[.string sc,.string sr] 60))) (And.intro (((HB.out.1.alloc (.cells #[.string tc,.string tr] 60)).alloc (.cells #[.string sc,.string sr] 60)).drew) (((HB.out.2.2.alloc (by have h1:=HB.out.2.2.size;have h2:=HK.out;omega) (.cells #[.string tc,.string tr] 60)).alloc (by have h1:=HB.out.2.2.size;have h2:=HK.out;simp;omega) (.cells #[.string sc,.string sr] 60)).drew))))
    clear HB;have HB:=HN;clear HN
    generalize ((u.alloc (.cells #[.string tc,.string tr] 60)).alloc (.cells #[.string sc,.string sr] 60)).drew=W at *
    generalize u.heap.size=s at *
    clear e0 e1 f0 f1 g0 g1 i0 i1 k1 k2 m1 m2
    have l0:=(show World.cell? _ ⟨s+1,0,none⟩=some (.string sc) from HB.out.1.cell 0 _ rfl);have l1:=(show World.cell? _ ⟨s+1,1,none⟩=some (.string sr) from HB.out.1.cell 1 _ rfl);have fl0:=(show World.frozen? _ ⟨s+1,0,none⟩=false from HB.out.1.free 0);have fl1:=(show World.frozen? _ ⟨s+1,1,none⟩=false from HB.out.1.free 1);have h0:=(show World.cell? _ ⟨s,0,none⟩=some (.string tc) from HB.out.2.1.cell 0 _ rfl);have h1:=(show World.cell? _ ⟨s,1,none⟩=some (.string tr) from HB.out.2.1.cell 1 _ rfl);have fh0:=(show World.frozen? _ ⟨s,0,none⟩=false from HB.out.2.1.free 0);have fh1:=(show World.frozen? _ ⟨s,1,none⟩=false from HB.out.2.1.free 1)
    go_wp2_with fail
    refine (hO.out _ HB.out.2.2.2).mono ?_
    rintro e W2 ⟨rfl,b⟩
    have HN:=Lib.hid (And.intro (HB.out.1.next b) (And.intro (HB.out.2.1.next b) (And.intro (HB.out.2.2.1.next b) (HB.out.2.2.2.trans (b.mono (by have h1:=HB.out.2.2.2.size;have h2:=HK.out;omega))))));clear HB b l0 l1 h0 h1 fl0 fl1 fh0 fh1;have HB:=HN;clear HN;have l0:=(show World.cell? _ ⟨s+1,0,none⟩=some (.string sc) from HB.out.1.cell 0 _ rfl);have l1:=(show World.cell? _ ⟨s+1,1,none⟩=some (.string sr) from HB.out.1.cell 1 _ rfl);have fl0:=(show World.frozen? _ ⟨s+1,0,none⟩=false from HB.out.1.free 0);have fl1:=(show World.frozen? _ ⟨s+1,1,none⟩=false from HB.out.1.free 1);have h0:=(show World.cell? _ ⟨s,0,none⟩=some (.string tc) from HB.out.2.1.cell 0 _ rfl);have h1:=(show World.cell? _ ⟨s,1,none⟩=some (.string tr) from HB.out.2.1.cell 1 _ rfl);have fh0:=(show World.frozen? _ ⟨s,0,none⟩=false from HB.out.2.1.free 0);have fh1:=(show World.frozen? _ ⟨s,1,none⟩=false from HB.out.2.1.free 1)
    go_wp2_with fail
    refine (hR.out _ HB.out.2.2.2).mono ?_
    rintro e W4 ⟨rfl,b⟩
    have HN:=Lib.hid (And.intro (HB.out.1.next b) (And.intro (HB.out.2.1.next b) (And.intro (HB.out.2.2.1.next b) (HB.out.2.2.2.trans (b.mono (by have h1:=HB.out.2.2.2.size;have h2:=HK.out;omega))))));clear HB b l0 l1 h0 h1 fl0 fl1 fh0 fh1;have HB:=HN;clear HN;have l0:=(show World.cell? _ ⟨s+1,0,none⟩=some (.string sc) from HB.out.1.cell 0 _ rfl);have l1:=(show World.cell? _ ⟨s+1,1,none⟩=some (.string sr) from HB.out.1.cell 1 _ rfl);have fl0:=(show World.frozen? _ ⟨s+1,0,none⟩=false from HB.out.1.free 0);have fl1:=(show World.frozen? _ ⟨s+1,1,none⟩=false from HB.out.1.free 1);have h0:=(show World.cell? _ ⟨s,0,none⟩=some (.string tc) from HB.out.2.1.cell 0 _ rfl);have h1:=(show World.cell? _ ⟨s,1,none⟩=some (.string tr) from HB.out.2.1.cell 1 _ rfl);have fh0:=(show World.frozen? _ ⟨s,0,none⟩=false from HB.out.2.1.free 0);have fh1:=(show World.frozen? _ ⟨s,1,none⟩=false from HB.out.2.1.free 1)
    go_wp2_with fail
    refine (hM.out _ HB.out.2.2.2).mono ?_
    rintro e W5 ⟨rfl,b⟩
    have HN:=Lib.hid (And.intro (HB.out.1.next b) (And.intro (HB.out.2.1.next b) (And.intro (HB.out.2.2.1.next b) (HB.out.2.2.2.trans (b.mono (by have h1:=HB.out.2.2.2.size;have h2:=HK.out;omega))))));clear HB b l0 l1 h0 h1 fl0 fl1 fh0 fh1;have HB:=HN;clear HN;have l0:=(show World.cell? _ ⟨s+1,0,none⟩=some (.string sc) from HB.out.1.cell 0 _ rfl);have l1:=(show World.cell? _ ⟨s+1,1,none⟩=some (.string sr) from HB.out.1.cell 1 _ rfl);have fl0:=(show World.frozen? _ ⟨s+1,0,none⟩=false from HB.out.1.free 0);have fl1:=(show World.frozen? _ ⟨s+1,1,none⟩=false from HB.out.1.free 1);have h0:=(show World.cell? _ ⟨s,0,none⟩=some (.string tc) from HB.out.2.1.cell 0 _ rfl);have h1:=(show World.cell? _ ⟨s,1,none⟩=some (.string tr) from HB.out.2.1.cell 1 _ rfl);have fh0:=(show World.frozen? _ ⟨s,0,none⟩=false from HB.out.2.1.free 0);have fh1:=(show World.frozen? _ ⟨s,1,none⟩=false from HB.out.2.1.free 1)
    go_wp2_with fail
    refine (hA.out _ HB.out.2.2.2).mono ?_
    rintro e W6 ⟨rfl,b⟩
    have HN:=Lib.hid (And.intro (HB.out.1.next b) (And.intro (HB.out.2.1.next b) (And.intro (HB.out.2.2.1.next b) (HB.out.2.2.2.trans (b.mono (by have h1:=HB.out.2.2.2.size;have h2:=HK.out;omega))))));clear HB b l0 l1 h0 h1 fl0 fl1 fh0 fh1;have HB:=HN;clear HN;have l0:=(show World.cell? _ ⟨s+1,0,none⟩=some (.string sc) from HB.out.1.cell 0 _ rfl);have l1:=(show World.cell? _ ⟨s+1,1,none⟩=some (.string sr) from HB.out.1.cell 1 _ rfl);have fl0:=(show World.frozen? _ ⟨s+1,0,none⟩=false from HB.out.1.free 0);have fl1:=(show World.frozen? _ ⟨s+1,1,none⟩=false from HB.out.1.free 1);have h0:=(show World.cell? _ ⟨s,0,none⟩=some (.string tc) from HB.out.2.1.cell 0 _ rfl);have h1:=(show World.cell? _ ⟨s,1,none⟩=some (.string tr) from HB.out.2.1.cell 1 _ rfl);have fh0:=(show World.frozen? _ ⟨s,0,none⟩=false from HB.out.2.1.free 0);have fh1:=(show World.frozen? _ ⟨s,1,none⟩=false from HB.out.2.1.free 1)
    have q0:=(HB.out.2.2.2.cell (p:=⟨bb,j*2,none⟩) HT.out.1).trans (HT.out.2.1 j (by omega))
    have q1:=(HB.out.2.2.2.cell (p:=⟨bb,j*2+1,none⟩) HT.out.1).trans (HT.out.2.2.1 j (by omega))
    have fq0:=(HB.out.2.2.2.frozen (p:=⟨bb,j*2,none⟩) HT.out.1).trans (HT.out.2.2.2 (j*2))
    have fq1:=(HB.out.2.2.2.frozen (p:=⟨bb,j*2+1,none⟩) HT.out.1).trans (HT.out.2.2.2 (j*2+1))
    go_wp2
    go_ret2
    have hbl:=HB.out.2.2.2
    rw [←HK.out] at hbl
    exact ⟨rfl,W6,hbl,by rw [E.out]⟩
theorem with_hit_p (bb n c q:Nat) (sc sr:Nat→ByteArray) (tc tr:ByteArray) (x:Nat→Int) (w:World)
  (hb:bb<w.heap.size) (hc0:∀ j,j<n→w.cell? ⟨bb,j*2,none⟩=some (.string (sc j))) (hc1:∀ j,j<n→w.cell? ⟨bb,j*2+1,none⟩=some (.string (sr j))) (hf:∀ i,w.frozen? ⟨bb,i,none⟩=false) (hq:q<n) (hn:n≤1000) (cs pc sm rr:ByteArray) (hrr:tr=rr) (hxq:0<x q)
  (hO:∀ j,j<n→∀ W,Below w.heap.size w W→Calls Tryz.prog 133 #[.string (sr j),.string tr] W fun e W'=>e = .returned (.int .i64 (x j))∧Below W.heap.size W W')
  (hRp:∀ j,j<q→0<x j→∀ W,Below w.heap.size w W→Calls Tryz.prog 134 #[.string (sr j),.string tr] W fun e W'=>e = .returned (.tuple #[.string ⟨#[]⟩,.bool false])∧Below W.heap.size W W')
  (hRn:∀ j,j<q→¬ 0<x j→∀ W,Below w.heap.size w W→Calls Tryz.prog 134 #[.string tr,.string (sr j)] W fun e W'=>e = .returned (.tuple #[.string ⟨#[]⟩,.bool false])∧Below W.heap.size W W')
  (hR:∀ W,Below w.heap.size w W→Calls Tryz.prog 134 #[.string (sr q),.string tr] W fun e W'=>e = .returned (.tuple #[.string cs,.bool true])∧Below W.heap.size W W')
  (hM:∀ W,Below w.heap.size w W→Calls Tryz.prog 56 #[.string (sc q),.string cs] W fun e W'=>e = .returned (.tuple #[.string pc,.int .i64 0])∧Below W.heap.size W W')
  (hA:∀ W,Below w.heap.size w W→Calls Tryz.prog 136 #[.string tc,.string pc] W fun e W'=>e = .returned (.tuple #[.string sm,.int .i64 0])∧Below W.heap.size W W') :
  Calls Tryz.prog 103 #[.slice (some ⟨bb,0,none⟩) n c,.agg #[.string tc,.string tr]] w fun e W'=>e = .returned (.tuple #[.slice (some ⟨bb,0,none⟩) n c,.int .i64 0])∧∃ W1,Below w.heap.size w W1∧W'=(W1.setCell ⟨bb,q*2,none⟩ (.string sm)).setCell ⟨bb,q*2+1,none⟩ (.string rr):=by
 have E:=Lib.hid hrr;clear hrr
 have O:=Lib.hid (And.intro hO (And.intro hRp hRn));clear hO hRp hRn
 have O2:=Lib.hid (And.intro hR (And.intro hM hA));clear hR hM hA
 have HT:=Lib.hid (And.intro hb (And.intro hc0 (And.intro hc1 hf)))
 clear hb hc0 hc1
 clear hf
 go_enter Tryz.func103,Tryz.ntmps103
 go_wp2
 have HB:=Lib.hid (And.intro (Blk.new w #[.string tc,.string tr] 60) ((Below.refl _ w).alloc (Nat.le_refl _) (.cells #[.string tc,.string tr] 60)))
 generalize w.alloc (.cells #[.string tc,.string tr] 60)=W0 at *
 generalize hk:w.heap.size=k at *
 have HK:=Lib.hid hk;clear hk
 go_loopw [16] (fun i wr=>∃ j:Nat,i = .int .i64 j∧j≤q∧Hid (Blk wr k #[.string tc,.string tr]∧Below k w wr)) (fun i _=>n - (intOf i).toNat)
 case atStart=>exact ⟨0,rfl,by omega,HB.out⟩
 case round =>
  clear HB
  obtain ⟨j,rfl,hj,HB⟩:=hrel
  by_cases hlt:j<q
  ·have hz:(j:Int)<n:=by omega
   have d0:=(HB.out.2.cell (p:=⟨bb,j*2,none⟩) HT.out.1).trans (HT.out.2.1 j (by omega))
   have d1:=(HB.out.2.cell (p:=⟨bb,j*2+1,none⟩) HT.out.1).trans (HT.out.2.2.1 j (by omega))
   have hO:=Lib.hid (O.out.1 j (by omega))
   clear hxq O2 E
   by_cases hx:0<x j
   ·have hR:=Lib.hid (O.out.2.1 j hlt hx)
    generalize x j=xj at *
    generalize hsc:sc j=sc at *
    generalize hsr:sr j=sr at *
    clear hsc hsr
    go_wp2
    have HN:=Lib.hid (And.intro (HB.out.1.alloc (.cells #[.string sc,.string sr] 60)) (And.intro (Blk.new wr #[.string sc,.string sr] 60) (HB.out.2.alloc (by have h1:=HB.out.2.size;have h2:=HK.out;omega) (.cells #[.string sc,.string sr] 60))))
    clear HB d0 d1;have HB:=HN;clear HN
    generalize wr.alloc (.cells #[.string sc,.string sr] 60)=u at *
    generalize wr.heap.size=m at *
    have e0:=(show World.cell? _ ⟨k,0,none⟩=some (.string tc) from HB.out.1.cell 0 _ rfl)
    have e1:=(show World.cell? _ ⟨k,1,none⟩=some (.string tr) from HB.out.1.cell 1 _ rfl)
    have f0:=(show World.cell? _ ⟨m,0,none⟩=some (.string sc) from HB.out.2.1.cell 0 _ rfl)
    have f1:=(show World.cell? _ ⟨m,1,none⟩=some (.string sr) from HB.out.2.1.cell 1 _ rfl)
    have kn:k<u.heap.size:=HB.out.1.lt
    have mn:m<u.heap.size:=HB.out.2.1.lt
    have k1:k≠u.heap.size:=by omega
    have k2:k≠u.heap.size+1:=by omega
    have m1:m≠u.heap.size:=by omega
    have m2:m≠u.heap.size+1:=by omega
    have g0:=alc_d (alc e0 (o := .cells #[.string ⟨#[]⟩,.string ⟨#[]⟩] 60)) (o := .cells #[.string ⟨#[]⟩,.string ⟨#[]⟩] 60)
    have g1:=alc_d (alc e1 (o := .cells #[.string ⟨#[]⟩,.string ⟨#[]⟩] 60)) (o := .cells #[.string ⟨#[]⟩,.string ⟨#[]⟩] 60)
    have i0:=alc_d (alc f0 (o := .cells #[.string ⟨#[]⟩,.string ⟨#[]⟩] 60)) (o := .cells #[.string ⟨#[]⟩,.string ⟨#[]⟩] 60)
    have i1:=alc_d (alc f1 (o := .cells #[.string ⟨#[]⟩,.string ⟨#[]⟩] 60)) (o := .cells #[.string ⟨#[]⟩,.string ⟨#[]⟩] 60)
    go_region
    ·have HN:=Lib.hid (And.intro (Blk.drew ((Blk.new u #[.string sc,.string sr] 60).alloc (.cells #[.string tc,.string tr] 60))) (And.intro (Blk.drew ((by have h:=Blk.new (u.alloc (.cells #[.string sc,.string sr] 60)) #[.string tc,.string tr] 60;rwa [show (u.alloc (.cells #[.string sc,.string sr] 60)).heap.size=u.heap.size+1 by simp] at h:Blk ((u.alloc (.cells #[.string sc,.string sr] 60)).alloc (.cells #[.string tc,.string tr] 60)) (u.heap.size+1) #[.string tc,.string tr]))) (And.intro (((HB.out.1.alloc (.cells #[.string sc,.string sr] 60)).alloc (.cells #[.string tc,.string tr] 60)).drew) (((HB.out.2.2.alloc (by have h1:=HB.out.2.2.size;have h2:=HK.out;omega) (.cells #[.string sc,.string sr] 60)).alloc (by have h1:=HB.out.2.2.size;have h2:=HK.out;simp;omega) (.cells #[.string tc,.string tr] 60)).drew))))
     clear HB;have HB:=HN;clear HN
     generalize ((u.alloc (.cells #[.string sc,.string sr] 60)).alloc (.cells #[.string tc,.string tr] 60)).drew=W at *
     generalize u.heap.size=s at *
     clear e0 e1 f0 f1 g0 g1 i0 i1 k1 k2 m1 m2
     have l0:=(show World.cell? _ ⟨s,0,none⟩=some (.string sc) from HB.out.1.cell 0 _ rfl);have l1:=(show World.cell? _ ⟨s,1,none⟩=some (.string sr) from HB.out.1.cell 1 _ rfl);have fl0:=(show World.frozen? _ ⟨s,0,none⟩=false from HB.out.1.free 0);have fl1:=(show World.frozen? _ ⟨s,1,none⟩=false from HB.out.1.free 1);have h0:=(show World.cell? _ ⟨s+1,0,none⟩=some (.string tc) from HB.out.2.1.cell 0 _ rfl);have h1:=(show World.cell? _ ⟨s+1,1,none⟩=some (.string tr) from HB.out.2.1.cell 1 _ rfl);have fh0:=(show World.frozen? _ ⟨s+1,0,none⟩=false from HB.out.2.1.free 0);have fh1:=(show World.frozen? _ ⟨s+1,1,none⟩=false from HB.out.2.1.free 1)
     go_wp2_with fail
     refine (hO.out _ HB.out.2.2.2).mono ?_
     rintro e W2 ⟨rfl,b⟩
     have HN:=Lib.hid (And.intro (HB.out.1.next b) (And.intro (HB.out.2.1.next b) (And.intro (HB.out.2.2.1.next b) (HB.out.2.2.2.trans (b.mono (by have h1:=HB.out.2.2.2.size;have h2:=HK.out;omega))))));clear HB b l0 l1 h0 h1 fl0 fl1 fh0 fh1;have HB:=HN;clear HN;have l0:=(show World.cell? _ ⟨s,0,none⟩=some (.string sc) from HB.out.1.cell 0 _ rfl);have l1:=(show World.cell? _ ⟨s,1,none⟩=some (.string sr) from HB.out.1.cell 1 _ rfl);have fl0:=(show World.frozen? _ ⟨s,0,none⟩=false from HB.out.1.free 0);have fl1:=(show World.frozen? _ ⟨s,1,none⟩=false from HB.out.1.free 1);have h0:=(show World.cell? _ ⟨s+1,0,none⟩=some (.string tc) from HB.out.2.1.cell 0 _ rfl);have h1:=(show World.cell? _ ⟨s+1,1,none⟩=some (.string tr) from HB.out.2.1.cell 1 _ rfl);have fh0:=(show World.frozen? _ ⟨s+1,0,none⟩=false from HB.out.2.1.free 0);have fh1:=(show World.frozen? _ ⟨s+1,1,none⟩=false from HB.out.2.1.free 1)
     have xy:(s)≠(s+1):=by omega
     have yx:(s+1)≠(s):=by omega
     go_wp2_with fail
     have HN:=Lib.hid (And.intro ((HB.out.1.put2 (.string tc) (.string tr)).other2 xy (.string sc) (.string sr)) (And.intro ((HB.out.2.1.other2 yx (.string tc) (.string tr)).put2 (.string sc) (.string sr)) (And.intro ((HB.out.2.2.1.other2 (show k≠s by omega) (.string tc) (.string tr)).other2 (show k≠s+1 by omega) (.string sc) (.string sr)) (below_put2 (below_put2 HB.out.2.2.2 (l:=s) (by have h2:=HK.out;omega) (.string tc) (.string tr)) (l:=s+1) (by have h2:=HK.out;omega) (.string sc) (.string sr)))))
     clear HB l0 l1 h0 h1 fl0 fl1 fh0 fh1;have HB:=HN;clear HN
     generalize (((W2.setCell ⟨s,0,none⟩ (.string tc)).setCell ⟨s,1,none⟩ (.string tr)).setCell ⟨s+1,0,none⟩ (.string sc)).setCell ⟨s+1,1,none⟩ (.string sr)=W3 at *
     have l0:=(show World.cell? _ ⟨s,0,none⟩=some (.string tc) from HB.out.1.cell 0 _ rfl);have l1:=(show World.cell? _ ⟨s,1,none⟩=some (.string tr) from HB.out.1.cell 1 _ rfl);have fl0:=(show World.frozen? _ ⟨s,0,none⟩=false from HB.out.1.free 0);have fl1:=(show World.frozen? _ ⟨s,1,none⟩=false from HB.out.1.free 1);have h0:=(show World.cell? _ ⟨s+1,0,none⟩=some (.string sc) from HB.out.2.1.cell 0 _ rfl);have h1:=(show World.cell? _ ⟨s+1,1,none⟩=some (.string sr) from HB.out.2.1.cell 1 _ rfl);have fh0:=(show World.frozen? _ ⟨s+1,0,none⟩=false from HB.out.2.1.free 0);have fh1:=(show World.frozen? _ ⟨s+1,1,none⟩=false from HB.out.2.1.free 1)
     refine (hR.out _ HB.out.2.2.2).mono ?_
     rintro e W4 ⟨rfl,b⟩
     have HN:=Lib.hid (And.intro (HB.out.1.next b) (And.intro (HB.out.2.1.next b) (And.intro (HB.out.2.2.1.next b) (HB.out.2.2.2.trans (b.mono (by have h1:=HB.out.2.2.2.size;have h2:=HK.out;omega))))));clear HB b l0 l1 h0 h1 fl0 fl1 fh0 fh1;have HB:=HN;clear HN;have l0:=(show World.cell? _ ⟨s,0,none⟩=some (.string tc) from HB.out.1.cell 0 _ rfl);have l1:=(show World.cell? _ ⟨s,1,none⟩=some (.string tr) from HB.out.1.cell 1 _ rfl);have fl0:=(show World.frozen? _ ⟨s,0,none⟩=false from HB.out.1.free 0);have fl1:=(show World.frozen? _ ⟨s,1,none⟩=false from HB.out.1.free 1);have h0:=(show World.cell? _ ⟨s+1,0,none⟩=some (.string sc) from HB.out.2.1.cell 0 _ rfl);have h1:=(show World.cell? _ ⟨s+1,1,none⟩=some (.string sr) from HB.out.2.1.cell 1 _ rfl);have fh0:=(show World.frozen? _ ⟨s+1,0,none⟩=false from HB.out.2.1.free 0);have fh1:=(show World.frozen? _ ⟨s+1,1,none⟩=false from HB.out.2.1.free 1)
     go_wp2
     go_roundw
     case rel=>exact ⟨j+1,by go_num,by omega,HB.out.2.2⟩
     case measure=>simp [intOf];omega
    ·have HN:=Lib.hid (And.intro (Blk.drew ((by have h:=Blk.new (u.alloc (.cells #[.string tc,.string tr] 60)) #[.string sc,.string sr] 60;rwa [show (u.alloc (.cells #[.string tc,.string tr] 60)).heap.size=u.heap.size+1 by simp] at h:Blk ((u.alloc (.cells #[.string tc,.string tr] 60)).alloc (.cells #[.string sc,.string sr] 60)) (u.heap.size+1) #[.string sc,.string sr]))) (And.intro (Blk.drew ((Blk.new u #[.string tc,.string tr] 60).alloc (.cells #[.string sc,.string sr] 60))) (And.intro (((HB.out.1.alloc (.cells #[.string tc,.string tr] 60)).alloc (.cells #[.string sc,.string sr] 60)).drew) (((HB.out.2.2.alloc (by have h1:=HB.out.2.2.size;have h2:=HK.out;omega) (.cells #[.string tc,.string tr] 60)).alloc (by have h1:=HB.out.2.2.size;have h2:=HK.out;simp;omega) (.cells #[.string sc,.string sr] 60)).drew))))
     clear HB;have HB:=HN;clear HN
     generalize ((u.alloc (.cells #[.string tc,.string tr] 60)).alloc (.cells #[.string sc,.string sr] 60)).drew=W at *
     generalize u.heap.size=s at *
     clear e0 e1 f0 f1 g0 g1 i0 i1 k1 k2 m1 m2
     have l0:=(show World.cell? _ ⟨s+1,0,none⟩=some (.string sc) from HB.out.1.cell 0 _ rfl);have l1:=(show World.cell? _ ⟨s+1,1,none⟩=some (.string sr) from HB.out.1.cell 1 _ rfl);have fl0:=(show World.frozen? _ ⟨s+1,0,none⟩=false from HB.out.1.free 0);have fl1:=(show World.frozen? _ ⟨s+1,1,none⟩=false from HB.out.1.free 1);have h0:=(show World.cell? _ ⟨s,0,none⟩=some (.string tc) from HB.out.2.1.cell 0 _ rfl);have h1:=(show World.cell? _ ⟨s,1,none⟩=some (.string tr) from HB.out.2.1.cell 1 _ rfl);have fh0:=(show World.frozen? _ ⟨s,0,none⟩=false from HB.out.2.1.free 0);have fh1:=(show World.frozen? _ ⟨s,1,none⟩=false from HB.out.2.1.free 1)
     go_wp2_with fail
     refine (hO.out _ HB.out.2.2.2).mono ?_
     rintro e W2 ⟨rfl,b⟩
     have HN:=Lib.hid (And.intro (HB.out.1.next b) (And.intro (HB.out.2.1.next b) (And.intro (HB.out.2.2.1.next b) (HB.out.2.2.2.trans (b.mono (by have h1:=HB.out.2.2.2.size;have h2:=HK.out;omega))))));clear HB b l0 l1 h0 h1 fl0 fl1 fh0 fh1;have HB:=HN;clear HN;have l0:=(show World.cell? _ ⟨s+1,0,none⟩=some (.string sc) from HB.out.1.cell 0 _ rfl);have l1:=(show World.cell? _ ⟨s+1,1,none⟩=some (.string sr) from HB.out.1.cell 1 _ rfl);have fl0:=(show World.frozen? _ ⟨s+1,0,none⟩=false from HB.out.1.free 0);have fl1:=(show World.frozen? _ ⟨s+1,1,none⟩=false from HB.out.1.free 1);have h0:=(show World.cell? _ ⟨s,0,none⟩=some (.string tc) from HB.out.2.1.cell 0 _ rfl);have h1:=(show World.cell? _ ⟨s,1,none⟩=some (.string tr) from HB.out.2.1.cell 1 _ rfl);have fh0:=(show World.frozen? _ ⟨s,0,none⟩=false from HB.out.2.1.free 0);have fh1:=(show World.frozen? _ ⟨s,1,none⟩=false from HB.out.2.1.free 1)
     have xy:(s+1)≠(s):=by omega
     have yx:(s)≠(s+1):=by omega
     go_wp2_with fail
     have HN:=Lib.hid (And.intro ((HB.out.1.put2 (.string tc) (.string tr)).other2 xy (.string sc) (.string sr)) (And.intro ((HB.out.2.1.other2 yx (.string tc) (.string tr)).put2 (.string sc) (.string sr)) (And.intro ((HB.out.2.2.1.other2 (show k≠s+1 by omega) (.string tc) (.string tr)).other2 (show k≠s by omega) (.string sc) (.string sr)) (below_put2 (below_put2 HB.out.2.2.2 (l:=s+1) (by have h2:=HK.out;omega) (.string tc) (.string tr)) (l:=s) (by have h2:=HK.out;omega) (.string sc) (.string sr)))))
     clear HB l0 l1 h0 h1 fl0 fl1 fh0 fh1;have HB:=HN;clear HN
     generalize (((W2.setCell ⟨s+1,0,none⟩ (.string tc)).setCell ⟨s+1,1,none⟩ (.string tr)).setCell ⟨s,0,none⟩ (.string sc)).setCell ⟨s,1,none⟩ (.string sr)=W3 at *
     have l0:=(show World.cell? _ ⟨s+1,0,none⟩=some (.string tc) from HB.out.1.cell 0 _ rfl);have l1:=(show World.cell? _ ⟨s+1,1,none⟩=some (.string tr) from HB.out.1.cell 1 _ rfl);have fl0:=(show World.frozen? _ ⟨s+1,0,none⟩=false from HB.out.1.free 0);have fl1:=(show World.frozen? _ ⟨s+1,1,none⟩=false from HB.out.1.free 1);have h0:=(show World.cell? _ ⟨s,0,none⟩=some (.string sc) from HB.out.2.1.cell 0 _ rfl);have h1:=(show World.cell? _ ⟨s,1,none⟩=some (.string sr) from HB.out.2.1.cell 1 _ rfl);have fh0:=(show World.frozen? _ ⟨s,0,none⟩=false from HB.out.2.1.free 0);have fh1:=(show World.frozen? _ ⟨s,1,none⟩=false from HB.out.2.1.free 1)
     refine (hR.out _ HB.out.2.2.2).mono ?_
     rintro e W4 ⟨rfl,b⟩
     have HN:=Lib.hid (And.intro (HB.out.1.next b) (And.intro (HB.out.2.1.next b) (And.intro (HB.out.2.2.1.next b) (HB.out.2.2.2.trans (b.mono (by have h1:=HB.out.2.2.2.size;have h2:=HK.out;omega))))));clear HB b l0 l1 h0 h1 fl0 fl1 fh0 fh1;have HB:=HN;clear HN;have l0:=(show World.cell? _ ⟨s+1,0,none⟩=some (.string tc) from HB.out.1.cell 0 _ rfl);have l1:=(show World.cell? _ ⟨s+1,1,none⟩=some (.string tr) from HB.out.1.cell 1 _ rfl);have fl0:=(show World.frozen? _ ⟨s+1,0,none⟩=false from HB.out.1.free 0);have fl1:=(show World.frozen? _ ⟨s+1,1,none⟩=false from HB.out.1.free 1);have h0:=(show World.cell? _ ⟨s,0,none⟩=some (.string sc) from HB.out.2.1.cell 0 _ rfl);have h1:=(show World.cell? _ ⟨s,1,none⟩=some (.string sr) from HB.out.2.1.cell 1 _ rfl);have fh0:=(show World.frozen? _ ⟨s,0,none⟩=false from HB.out.2.1.free 0);have fh1:=(show World.frozen? _ ⟨s,1,none⟩=false from HB.out.2.1.free 1)
     go_wp2
     go_roundw
     case rel=>exact ⟨j+1,by go_num,by omega,HB.out.2.2⟩
     case measure=>simp [intOf];omega
   ·have hR:=Lib.hid (O.out.2.2 j hlt (by omega))
    generalize x j=xj at *
    generalize hsc:sc j=sc at *
    generalize hsr:sr j=sr at *
    clear hsc hsr
    go_wp2
    have HN:=Lib.hid (And.intro (HB.out.1.alloc (.cells #[.string sc,.string sr] 60)) (And.intro (Blk.new wr #[.string sc,.string sr] 60) (HB.out.2.alloc (by have h1:=HB.out.2.size;have h2:=HK.out;omega) (.cells #[.string sc,.string sr] 60))))
    clear HB d0 d1;have HB:=HN;clear HN
    generalize wr.alloc (.cells #[.string sc,.string sr] 60)=u at *
    generalize wr.heap.size=m at *
    have e0:=(show World.cell? _ ⟨k,0,none⟩=some (.string tc) from HB.out.1.cell 0 _ rfl)
    have e1:=(show World.cell? _ ⟨k,1,none⟩=some (.string tr) from HB.out.1.cell 1 _ rfl)
    have f0:=(show World.cell? _ ⟨m,0,none⟩=some (.string sc) from HB.out.2.1.cell 0 _ rfl)
    have f1:=(show World.cell? _ ⟨m,1,none⟩=some (.string sr) from HB.out.2.1.cell 1 _ rfl)
    have kn:k<u.heap.size:=HB.out.1.lt
    have mn:m<u.heap.size:=HB.out.2.1.lt
    have k1:k≠u.heap.size:=by omega
    have k2:k≠u.heap.size+1:=by omega
    have m1:m≠u.heap.size:=by omega
    have m2:m≠u.heap.size+1:=by omega
    have g0:=alc_d (alc e0 (o := .cells #[.string ⟨#[]⟩,.string ⟨#[]⟩] 60)) (o := .cells #[.string ⟨#[]⟩,.string ⟨#[]⟩] 60)
    have g1:=alc_d (alc e1 (o := .cells #[.string ⟨#[]⟩,.string ⟨#[]⟩] 60)) (o := .cells #[.string ⟨#[]⟩,.string ⟨#[]⟩] 60)
    have i0:=alc_d (alc f0 (o := .cells #[.string ⟨#[]⟩,.string ⟨#[]⟩] 60)) (o := .cells #[.string ⟨#[]⟩,.string ⟨#[]⟩] 60)
    have i1:=alc_d (alc f1 (o := .cells #[.string ⟨#[]⟩,.string ⟨#[]⟩] 60)) (o := .cells #[.string ⟨#[]⟩,.string ⟨#[]⟩] 60)
    go_region
    ·have HN:=Lib.hid (And.intro (Blk.drew ((Blk.new u #[.string sc,.string sr] 60).alloc (.cells #[.string tc,.string tr] 60))) (And.intro (Blk.drew ((by have h:=Blk.new (u.alloc (.cells #[.string sc,.string sr] 60)) #[.string tc,.string tr] 60;rwa [show (u.alloc (.cells #[.string sc,.string sr] 60)).heap.size=u.heap.size+1 by simp] at h:Blk ((u.alloc (.cells #[.string sc,.string sr] 60)).alloc (.cells #[.string tc,.string tr] 60)) (u.heap.size+1) #[.string tc,.string tr]))) (And.intro (((HB.out.1.alloc (.cells #[.string sc,.string sr] 60)).alloc (.cells #[.string tc,.string tr] 60)).drew) (((HB.out.2.2.alloc (by have h1:=HB.out.2.2.size;have h2:=HK.out;omega) (.cells #[.string sc,.string sr] 60)).alloc (by have h1:=HB.out.2.2.size;have h2:=HK.out;simp;omega) (.cells #[.string tc,.string tr] 60)).drew))))
     clear HB;have HB:=HN;clear HN
     generalize ((u.alloc (.cells #[.string sc,.string sr] 60)).alloc (.cells #[.string tc,.string tr] 60)).drew=W at *
     generalize u.heap.size=s at *
     clear e0 e1 f0 f1 g0 g1 i0 i1 k1 k2 m1 m2
     have l0:=(show World.cell? _ ⟨s,0,none⟩=some (.string sc) from HB.out.1.cell 0 _ rfl);have l1:=(show World.cell? _ ⟨s,1,none⟩=some (.string sr) from HB.out.1.cell 1 _ rfl);have fl0:=(show World.frozen? _ ⟨s,0,none⟩=false from HB.out.1.free 0);have fl1:=(show World.frozen? _ ⟨s,1,none⟩=false from HB.out.1.free 1);have h0:=(show World.cell? _ ⟨s+1,0,none⟩=some (.string tc) from HB.out.2.1.cell 0 _ rfl);have h1:=(show World.cell? _ ⟨s+1,1,none⟩=some (.string tr) from HB.out.2.1.cell 1 _ rfl);have fh0:=(show World.frozen? _ ⟨s+1,0,none⟩=false from HB.out.2.1.free 0);have fh1:=(show World.frozen? _ ⟨s+1,1,none⟩=false from HB.out.2.1.free 1)
     go_wp2_with fail
     refine (hO.out _ HB.out.2.2.2).mono ?_
     rintro e W2 ⟨rfl,b⟩
     have HN:=Lib.hid (And.intro (HB.out.1.next b) (And.intro (HB.out.2.1.next b) (And.intro (HB.out.2.2.1.next b) (HB.out.2.2.2.trans (b.mono (by have h1:=HB.out.2.2.2.size;have h2:=HK.out;omega))))));clear HB b l0 l1 h0 h1 fl0 fl1 fh0 fh1;have HB:=HN;clear HN;have l0:=(show World.cell? _ ⟨s,0,none⟩=some (.string sc) from HB.out.1.cell 0 _ rfl);have l1:=(show World.cell? _ ⟨s,1,none⟩=some (.string sr) from HB.out.1.cell 1 _ rfl);have fl0:=(show World.frozen? _ ⟨s,0,none⟩=false from HB.out.1.free 0);have fl1:=(show World.frozen? _ ⟨s,1,none⟩=false from HB.out.1.free 1);have h0:=(show World.cell? _ ⟨s+1,0,none⟩=some (.string tc) from HB.out.2.1.cell 0 _ rfl);have h1:=(show World.cell? _ ⟨s+1,1,none⟩=some (.string tr) from HB.out.2.1.cell 1 _ rfl);have fh0:=(show World.frozen? _ ⟨s+1,0,none⟩=false from HB.out.2.1.free 0);have fh1:=(show World.frozen? _ ⟨s+1,1,none⟩=false from HB.out.2.1.free 1)
     go_wp2_with fail
     refine (hR.out _ HB.out.2.2.2).mono ?_
     rintro e W4 ⟨rfl,b⟩
     have HN:=Lib.hid (And.intro (HB.out.1.next b) (And.intro (HB.out.2.1.next b) (And.intro (HB.out.2.2.1.next b) (HB.out.2.2.2.trans (b.mono (by have h1:=HB.out.2.2.2.size;have h2:=HK.out;omega))))));clear HB b l0 l1 h0 h1 fl0 fl1 fh0 fh1;have HB:=HN;clear HN;have l0:=(show World.cell? _ ⟨s,0,none⟩=some (.string sc) from HB.out.1.cell 0 _ rfl);have l1:=(show World.cell? _ ⟨s,1,none⟩=some (.string sr) from HB.out.1.cell 1 _ rfl);have fl0:=(show World.frozen? _ ⟨s,0,none⟩=false from HB.out.1.free 0);have fl1:=(show World.frozen? _ ⟨s,1,none⟩=false from HB.out.1.free 1);have h0:=(show World.cell? _ ⟨s+1,0,none⟩=some (.string tc) from HB.out.2.1.cell 0 _ rfl);have h1:=(show World.cell? _ ⟨s+1,1,none⟩=some (.string tr) from HB.out.2.1.cell 1 _ rfl);have fh0:=(show World.frozen? _ ⟨s+1,0,none⟩=false from HB.out.2.1.free 0);have fh1:=(show World.frozen? _ ⟨s+1,1,none⟩=false from HB.out.2.1.free 1)
     go_wp2
     go_roundw
     case rel=>exact ⟨j+1,by go_num,by omega,HB.out.2.2⟩
     case measure=>simp [intOf];omega
    ·have HN:=Lib.hid (And.intro (Blk.drew ((by have h:=Blk.new (u.alloc (.cells #[.string tc,.string tr] 60)) #[.string sc,.string sr] 60;rwa [show (u.alloc (.cells #[.string tc,.string tr] 60)).heap.size=u.heap.size+1 by simp] at h:Blk ((u.alloc (.cells #[.string tc,.string tr] 60)).alloc (.cells #[.string sc,.string sr] 60)) (u.heap.size+1) #[.string sc,.string sr]))) (And.intro (Blk.drew ((Blk.new u #[.string tc,.string tr] 60).alloc (.cells #[.string sc,.string sr] 60))) (And.intro (((HB.out.1.alloc (.cells #[.string tc,.string tr] 60)).alloc (.cells #[.string sc,.string sr] 60)).drew) (((HB.out.2.2.alloc (by have h1:=HB.out.2.2.size;have h2:=HK.out;omega) (.cells #[.string tc,.string tr] 60)).alloc (by have h1:=HB.out.2.2.size;have h2:=HK.out;simp;omega) (.cells #[.string sc,.string sr] 60)).drew))))
     clear HB;have HB:=HN;clear HN
     generalize ((u.alloc (.cells #[.string tc,.string tr] 60)).alloc (.cells #[.string sc,.string sr] 60)).drew=W at *
     generalize u.heap.size=s at *
     clear e0 e1 f0 f1 g0 g1 i0 i1 k1 k2 m1 m2
     have l0:=(show World.cell? _ ⟨s+1,0,none⟩=some (.string sc) from HB.out.1.cell 0 _ rfl);have l1:=(show World.cell? _ ⟨s+1,1,none⟩=some (.string sr) from HB.out.1.cell 1 _ rfl);have fl0:=(show World.frozen? _ ⟨s+1,0,none⟩=false from HB.out.1.free 0);have fl1:=(show World.frozen? _ ⟨s+1,1,none⟩=false from HB.out.1.free 1);have h0:=(show World.cell? _ ⟨s,0,none⟩=some (.string tc) from HB.out.2.1.cell 0 _ rfl);have h1:=(show World.cell? _ ⟨s,1,none⟩=some (.string tr) from HB.out.2.1.cell 1 _ rfl);have fh0:=(show World.frozen? _ ⟨s,0,none⟩=false from HB.out.2.1.free 0);have fh1:=(show World.frozen? _ ⟨s,1,none⟩=false from HB.out.2.1.free 1)
     go_wp2_with fail
     refine (hO.out _ HB.out.2.2.2).mono ?_
     rintro e W2 ⟨rfl,b⟩
     have HN:=Lib.hid (And.intro (HB.out.1.next b) (And.intro (HB.out.2.1.next b) (And.intro (HB.out.2.2.1.next b) (HB.out.2.2.2.trans (b.mono (by have h1:=HB.out.2.2.2.size;have h2:=HK.out;omega))))));clear HB b l0 l1 h0 h1 fl0 fl1 fh0 fh1;have HB:=HN;clear HN;have l0:=(show World.cell? _ ⟨s+1,0,none⟩=some (.string sc) from HB.out.1.cell 0 _ rfl);have l1:=(show World.cell? _ ⟨s+1,1,none⟩=some (.string sr) from HB.out.1.cell 1 _ rfl);have fl0:=(show World.frozen? _ ⟨s+1,0,none⟩=false from HB.out.1.free 0);have fl1:=(show World.frozen? _ ⟨s+1,1,none⟩=false from HB.out.1.free 1);have h0:=(show World.cell? _ ⟨s,0,none⟩=some (.string tc) from HB.out.2.1.cell 0 _ rfl);have h1:=(show World.cell? _ ⟨s,1,none⟩=some (.string tr) from HB.out.2.1.cell 1 _ rfl);have fh0:=(show World.frozen? _ ⟨s,0,none⟩=false from HB.out.2.1.free 0);have fh1:=(show World.frozen? _ ⟨s,1,none⟩=false from HB.out.2.1.free 1)
     go_wp2_with fail
     refine (hR.out _ HB.out.2.2.2).mono ?_
     rintro e W4 ⟨rfl,b⟩
     have HN:=Lib.hid (And.intro (HB.out.1.next b) (And.intro (HB.out.2.1.next b) (And.intro (HB.out.2.2.1.next b) (HB.out.2.2.2.trans (b.mono (by have h1:=HB.out.2.2.2.size;have h2:=HK.out;omega))))));clear HB b l0 l1 h0 h1 fl0 fl1 fh0 fh1;have HB:=HN;clear HN;have l0:=(show World.cell? _ ⟨s+1,0,none⟩=some (.string sc) from HB.out.1.cell 0 _ rfl);have l1:=(show World.cell? _ ⟨s+1,1,none⟩=some (.string sr) from HB.out.1.cell 1 _ rfl);have fl0:=(show World.frozen? _ ⟨s+1,0,none⟩=false from HB.out.1.free 0);have fl1:=(show World.frozen? _ ⟨s+1,1,none⟩=false from HB.out.1.free 1);have h0:=(show World.cell? _ ⟨s,0,none⟩=some (.string tc) from HB.out.2.1.cell 0 _ rfl);have h1:=(show World.cell? _ ⟨s,1,none⟩=some (.string tr) from HB.out.2.1.cell 1 _ rfl);have fh0:=(show World.frozen? _ ⟨s,0,none⟩=false from HB.out.2.1.free 0);have fh1:=(show World.frozen? _ ⟨s,1,none⟩=false from HB.out.2.1.free 1)
     go_wp2
     go_roundw
     case rel=>exact ⟨j+1,by go_num,by omega,HB.out.2.2⟩
     case measure=>simp [intOf];omega
  ·obtain rfl:j=q:=by omega
   have hz:(j:Int)<n:=by omega
   have d0:=(HB.out.2.cell (p:=⟨bb,j*2,none⟩) HT.out.1).trans (HT.out.2.1 j (by omega))
   have d1:=(HB.out.2.cell (p:=⟨bb,j*2+1,none⟩) HT.out.1).trans (HT.out.2.2.1 j (by omega))
   have hO:=Lib.hid (O.out.1 j (by omega))
   have hR:=Lib.hid O2.out.1
   have hM:=Lib.hid O2.out.2.1
   have hA:=Lib.hid O2.out.2.2
   clear O2 O
   generalize x j=xj at *
   generalize sc j=sc at *
   generalize sr j=sr at *
   go_wp2
   have HN:=Lib.hid (And.intro (HB.out.1.alloc (.cells #[.string sc,.string sr] 60)) (And.intro (Blk.new wr #[.string sc,.string sr] 60) (HB.out.2.alloc (by have h1:=HB.out.2.size;have h2:=HK.out;omega) (.cells #[.string sc,.string sr] 60))))
   clear HB d0 d1;have HB:=HN;clear HN
   generalize wr.alloc (.cells #[.string sc,.string sr] 60)=u at *
   generalize wr.heap.size=m at *
   have e0:=(show World.cell? _ ⟨k,0,none⟩=some (.string tc) from HB.out.1.cell 0 _ rfl)
   have e1:=(show World.cell? _ ⟨k,1,none⟩=some (.string tr) from HB.out.1.cell 1 _ rfl)
   have f0:=(show World.cell? _ ⟨m,0,none⟩=some (.string sc) from HB.out.2.1.cell 0 _ rfl)
   have f1:=(show World.cell? _ ⟨m,1,none⟩=some (.string sr) from HB.out.2.1.cell 1 _ rfl)
   have kn:k<u.heap.size:=HB.out.1.lt
   have mn:m<u.heap.size:=HB.out.2.1.lt
   have k1:k≠u.heap.size:=by omega
   have k2:k≠u.heap.size+1:=by omega
   have m1:m≠u.heap.size:=by omega
   have m2:m≠u.heap.size+1:=by omega
   have g0:=alc_d (alc e0 (o := .cells #[.string ⟨#[]⟩,.string ⟨#[]⟩] 60)) (o := .cells #[.string ⟨#[]⟩,.string ⟨#[]⟩] 60)
   have g1:=alc_d (alc e1 (o := .cells #[.string ⟨#[]⟩,.string ⟨#[]⟩] 60)) (o := .cells #[.string ⟨#[]⟩,.string ⟨#[]⟩] 60)
   have i0:=alc_d (alc f0 (o := .cells #[.string ⟨#[]⟩,.string ⟨#[]⟩] 60)) (o := .cells #[.string ⟨#[]⟩,.string ⟨#[]⟩] 60)
   have i1:=alc_d (alc f1 (o := .cells #[.string ⟨#[]⟩,.string ⟨#[]⟩] 60)) (o := .cells #[.string ⟨#[]⟩,.string ⟨#[]⟩] 60)
   go_region
   ·have HN:=Lib.hid (And.intro (Blk.drew ((Blk.new u #[.string sc,.string sr] 60).alloc (.cells #[.string tc,.string tr] 60))) (And.intro (Blk.drew ((by have h:=Blk.new (u.alloc (.cells #[.string sc,.string sr] 60)) #[.string tc,.string tr] 60;rwa [show (u.alloc (.cells #[.string sc,.string sr] 60)).heap.size=u.heap.size+1 by simp] at h:Blk ((u.alloc (.cells #[.string sc,.string sr] 60)).alloc (.cells #[.string tc,.string tr] 60)) (u.heap.size+1) #[.string tc,.string tr]))) (And.intro (((HB.out.1.alloc (.cells #[.string sc,.string sr] 60)).alloc (.cells #[.string tc,.string tr] 60)).drew) (((HB.out.2.2.alloc (by have h1:=HB.out.2.2.size;have h2:=HK.out;omega) (.cells #[.string sc,.string sr] 60)).alloc (by have h1:=HB.out.2.2.size;have h2:=HK.out;simp;omega) (.cells #[.string tc,.string tr] 60)).drew))))
    clear HB;have HB:=HN;clear HN
    generalize ((u.alloc (.cells #[.string sc,.string sr] 60)).alloc (.cells #[.string tc,.string tr] 60)).drew=W at *
    generalize u.heap.size=s at *
    clear e0 e1 f0 f1 g0 g1 i0 i1 k1 k2 m1 m2
    have l0:=(show World.cell? _ ⟨s,0,none⟩=some (.string sc) from HB.out.1.cell 0 _ rfl);have l1:=(show World.cell? _ ⟨s,1,none⟩=some (.string sr) from HB.out.1.cell 1 _ rfl);have fl0:=(show World.frozen? _ ⟨s,0,none⟩=false from HB.out.1.free 0);have fl1:=(show World.frozen? _ ⟨s,1,none⟩=false from HB.out.1.free 1);have h0:=(show World.cell? _ ⟨s+1,0,none⟩=some (.string tc) from HB.out.2.1.cell 0 _ rfl);have h1:=(show World.cell? _ ⟨s+1,1,none⟩=some (.string tr) from HB.out.2.1.cell 1 _ rfl);have fh0:=(show World.frozen? _ ⟨s+1,0,none⟩=false from HB.out.2.1.free 0);have fh1:=(show World.frozen? _ ⟨s+1,1,none⟩=false from HB.out.2.1.free 1)
    go_wp2_with fail
    refine (hO.out _ HB.out.2.2.2).mono ?_
    rintro e W2 ⟨rfl,b⟩
    have HN:=Lib.hid (And.intro (HB.out.1.next b) (And.intro (HB.out.2.1.next b) (And.intro (HB.out.2.2.1.next b) (HB.out.2.2.2.trans (b.mono (by have h1:=HB.out.2.2.2.size;have h2:=HK.out;omega))))));clear HB b l0 l1 h0 h1 fl0 fl1 fh0 fh1;have HB:=HN;clear HN;have l0:=(show World.cell? _ ⟨s,0,none⟩=some (.string sc) from HB.out.1.cell 0 _ rfl);have l1:=(show World.cell? _ ⟨s,1,none⟩=some (.string sr) from HB.out.1.cell 1 _ rfl);have fl0:=(show World.frozen? _ ⟨s,0,none⟩=false from HB.out.1.free 0);have fl1:=(show World.frozen? _ ⟨s,1,none⟩=false from HB.out.1.free 1);have h0:=(show World.cell? _ ⟨s+1,0,none⟩=some (.string tc) from HB.out.2.1.cell 0 _ rfl);have h1:=(show World.cell? _ ⟨s+1,1,none⟩=some (.string tr) from HB.out.2.1.cell 1 _ rfl);have fh0:=(show World.frozen? _ ⟨s+1,0,none⟩=false from HB.out.2.1.free 0);have fh1:=(show World.frozen? _ ⟨s+1,1,none⟩=false from HB.out.2.1.free 1)
    have xy:(s)≠(s+1):=by omega
    have yx:(s+1)≠(s):=by omega
    go_wp2_with fail
    have HN:=Lib.hid (And.intro ((HB.out.1.put2 (.string tc) (.string tr)).other2 xy (.string sc) (.string sr)) (And.intro ((HB.out.2.1.other2 yx (.string tc) (.string tr)).put2 (.string sc) (.string sr)) (And.intro ((HB.out.2.2.1.other2 (show k≠s by omega) (.string tc) (.string tr)).other2 (show k≠s+1 by omega) (.string sc) (.string sr)) (below_put2 (below_put2 HB.out.2.2.2 (l:=s) (by have h2:=HK.out;omega) (.string tc) (.string tr)) (l:=s+1) (by have h2:=HK.out;omega) (.string sc) (.string sr)))))
    clear HB l0 l1 h0 h1 fl0 fl1 fh0 fh1;have HB:=HN;clear HN
    generalize (((W2.setCell ⟨s,0,none⟩ (.string tc)).setCell ⟨s,1,none⟩ (.string tr)).setCell ⟨s+1,0,none⟩ (.string sc)).setCell ⟨s+1,1,none⟩ (.string sr)=W3 at *
    have l0:=(show World.cell? _ ⟨s,0,none⟩=some (.string tc) from HB.out.1.cell 0 _ rfl);have l1:=(show World.cell? _ ⟨s,1,none⟩=some (.string tr) from HB.out.1.cell 1 _ rfl);have fl0:=(show World.frozen? _ ⟨s,0,none⟩=false from HB.out.1.free 0);have fl1:=(show World.frozen? _ ⟨s,1,none⟩=false from HB.out.1.free 1);have h0:=(show World.cell? _ ⟨s+1,0,none⟩=some (.string sc) from HB.out.2.1.cell 0 _ rfl);have h1:=(show World.cell? _ ⟨s+1,1,none⟩=some (.string sr) from HB.out.2.1.cell 1 _ rfl);have fh0:=(show World.frozen? _ ⟨s+1,0,none⟩=false from HB.out.2.1.free 0);have fh1:=(show World.frozen? _ ⟨s+1,1,none⟩=false from HB.out.2.1.free 1)
    refine (hR.out _ HB.out.2.2.2).mono ?_
    rintro e W4 ⟨rfl,b⟩
    have HN:=Lib.hid (And.intro (HB.out.1.next b) (And.intro (HB.out.2.1.next b) (And.intro (HB.out.2.2.1.next b) (HB.out.2.2.2.trans (b.mono (by have h1:=HB.out.2.2.2.size;have h2:=HK.out;omega))))));clear HB b l0 l1 h0 h1 fl0 fl1 fh0 fh1;have HB:=HN;clear HN;have l0:=(show World.cell? _ ⟨s,0,none⟩=some (.string tc) from HB.out.1.cell 0 _ rfl);have l1:=(show World.cell? _ ⟨s,1,none⟩=some (.string tr) from HB.out.1.cell 1 _ rfl);have fl0:=(show World.frozen? _ ⟨s,0,none⟩=false from HB.out.1.free 0);have fl1:=(show World.frozen? _ ⟨s,1,none⟩=false from HB.out.1.free 1);have h0:=(show World.cell? _ ⟨s+1,0,none⟩=some (.string sc) from HB.out.2.1.cell 0 _ rfl);have h1:=(show World.cell? _ ⟨s+1,1,none⟩=some (.string sr) from HB.out.2.1.cell 1 _ rfl);have fh0:=(show World.frozen? _ ⟨s+1,0,none⟩=false from HB.out.2.1.free 0);have fh1:=(show World.frozen? _ ⟨s+1,1,none⟩=false from HB.out.2.1.free 1)
    go_wp2_with fail
    refine (hM.out _ HB.out.2.2.2).mono ?_
    rintro e W5 ⟨rfl,b⟩
    have HN:=Lib.hid (And.intro (HB.out.1.next b) (And.intro (HB.out.2.1.next b) (And.intro (HB.out.2.2.1.next b) (HB.out.2.2.2.trans (b.mono (by have h1:=HB.out.2.2.2.size;have h2:=HK.out;omega))))));clear HB b l0 l1 h0 h1 fl0 fl1 fh0 fh1;have HB:=HN;clear HN;have l0:=(show World.cell? _ ⟨s,0,none⟩=some (.string tc) from HB.out.1.cell 0 _ rfl);have l1:=(show World.cell? _ ⟨s,1,none⟩=some (.string tr) from HB.out.1.cell 1 _ rfl);have fl0:=(show World.frozen? _ ⟨s,0,none⟩=false from HB.out.1.free 0);have fl1:=(show World.frozen? _ ⟨s,1,none⟩=false from HB.out.1.free 1);have h0:=(show World.cell? _ ⟨s+1,0,none⟩=some (.string sc) from HB.out.2.1.cell 0 _ rfl);have h1:=(show World.cell? _ ⟨s+1,1,none⟩=some (.string sr) from HB.out.2.1.cell 1 _ rfl);have fh0:=(show World.frozen? _ ⟨s+1,0,none⟩=false from HB.out.2.1.free 0);have fh1:=(show World.frozen? _ ⟨s+1,1,none⟩=false from HB.out.2.1.free 1)
    go_wp2_with fail
    refine (hA.out _ HB.out.2.2.2).mono ?_
    rintro e W6 ⟨rfl,b⟩
    have HN:=Lib.hid (And.intro (HB.out.1.next b) (And.intro (HB.out.2.1.next b) (And.intro (HB.out.2.2.1.next b) (HB.out.2.2.2.trans (b.mono (by have h1:=HB.out.2.2.2.size;have h2:=HK.out;omega))))));clear HB b l0 l1 h0 h1 fl0 fl1 fh0 fh1;have HB:=HN;clear HN;have l0:=(show World.cell? _ ⟨s,0,none⟩=some (.string tc) from HB.out.1.cell 0 _ rfl);have l1:=(show World.cell? _ ⟨s,1,none⟩=some (.string tr) from HB.out.1.cell 1 _ rfl);have fl0:=(show World.frozen? _ ⟨s,0,none⟩=false from HB.out.1.free 0);have fl1:=(show World.frozen? _ ⟨s,1,none⟩=false from HB.out.1.free 1);have h0:=(show World.cell? _ ⟨s+1,0,none⟩=some (.string sc) from HB.out.2.1.cell 0 _ rfl);have h1:=(show World.cell? _ ⟨s+1,1,none⟩=some (.string sr) from HB.out.2.1.cell 1 _ rfl);have fh0:=(show World.frozen? _ ⟨s+1,0,none⟩=false from HB.out.2.1.free 0);have fh1:=(show World.frozen? _ ⟨s+1,1,none⟩=false from HB.out.2.1.free 1)
    have q0:=(HB.out.2.2.2.cell (p:=⟨bb,j*2,none⟩) HT.out.1).trans (HT.out.2.1 j (by omega))
    have q1:=(HB.out.2.2.2.cell (p:=⟨bb,j*2+1,none⟩) HT.out.1).trans (HT.out.2.2.1 j (by omega))
    have fq0:=(HB.out.2.2.2.frozen (p:=⟨bb,j*2,none⟩) HT.out.1).trans (HT.out.2.2.2 (j*2))
    have fq1:=(HB.out.2.2.2.frozen (p:=⟨bb,j*2+1,none⟩) HT.out.1).trans (HT.out.2.2.2 (j*2+1))
    go_wp2
    go_ret2
    have hbl:=HB.out.2.2.2
    rw [←HK.out] at hbl
    exact ⟨rfl,W6,hbl,by rw [E.out]⟩
   ·have HN:=Lib.hid (And.intro (Blk.drew ((by have h:=Blk.new (u.alloc (.cells #[.string tc,.string tr] 60)) #[.string sc,.string sr] 60;rwa [show (u.alloc (.cells #[.string tc,.string tr] 60)).heap.size=u.heap.size+1 by simp] at h:Blk ((u.alloc (.cells #[.string tc,.string tr] 60)).alloc (.cells #[.string sc,.string sr] 60)) (u.heap.size+1) #[.string sc,.string sr]))) (And.intro (Blk.drew ((Blk.new u #[.string tc,.string tr] 60).alloc (.cells #[.string sc,.string sr] 60))) (And.intro (((HB.out.1.alloc (.cells #[.string tc,.string tr] 60)).alloc (.cells #[.string sc,.string sr] 60)).drew) (((HB.out.2.2.alloc (by have h1:=HB.out.2.2.size;have h2:=HK.out;omega) (.cells #[.string tc,.string tr] 60)).alloc (by have h1:=HB.out.2.2.size;have h2:=HK.out;simp;omega) (.cells #[.string sc,.string sr] 60)).drew))))
    clear HB;have HB:=HN;clear HN
    generalize ((u.alloc (.cells #[.string tc,.string tr] 60)).alloc (.cells #[.string sc,.string sr] 60)).drew=W at *
    generalize u.heap.size=s at *
    clear e0 e1 f0 f1 g0 g1 i0 i1 k1 k2 m1 m2
    have l0:=(show World.cell? _ ⟨s+1,0,none⟩=some (.string sc) from HB.out.1.cell 0 _ rfl);have l1:=(show World.cell? _ ⟨s+1,1,none⟩=some (.string sr) from HB.out.1.cell 1 _ rfl);have fl0:=(show World.frozen? _ ⟨s+1,0,none⟩=false from HB.out.1.free 0);have fl1:=(show World.frozen? _ ⟨s+1,1,none⟩=false from HB.out.1.free 1);have h0:=(show World.cell? _ ⟨s,0,none⟩=some (.string tc) from HB.out.2.1.cell 0 _ rfl);have h1:=(show World.cell? _ ⟨s,1,none⟩=some (.string tr) from HB.out.2.1.cell 1 _ rfl);have fh0:=(show World.frozen? _ ⟨s,0,none⟩=false from HB.out.2.1.free 0);have fh1:=(show World.frozen? _ ⟨s,1,none⟩=false from HB.out.2.1.free 1)
    go_wp2_with fail
    refine (hO.out _ HB.out.2.2.2).mono ?_
    rintro e W2 ⟨rfl,b⟩
    have HN:=Lib.hid (And.intro (HB.out.1.next b) (And.intro (HB.out.2.1.next b) (And.intro (HB.out.2.2.1.next b) (HB.out.2.2.2.trans (b.mono (by have h1:=HB.out.2.2.2.size;have h2:=HK.out;omega))))));clear HB b l0 l1 h0 h1 fl0 fl1 fh0 fh1;have HB:=HN;clear HN;have l0:=(show World.cell? _ ⟨s+1,0,none⟩=some (.string sc) from HB.out.1.cell 0 _ rfl);have l1:=(show World.cell? _ ⟨s+1,1,none⟩=some (.string sr) from HB.out.1.cell 1 _ rfl);have fl0:=(show World.frozen? _ ⟨s+1,0,none⟩=false from HB.out.1.free 0);have fl1:=(show World.frozen? _ ⟨s+1,1,none⟩=false from HB.out.1.free 1);have h0:=(show World.cell? _ ⟨s,0,none⟩=some (.string tc) from HB.out.2.1.cell 0 _ rfl);have h1:=(show World.cell? _ ⟨s,1,none⟩=some (.string tr) from HB.out.2.1.cell 1 _ rfl);have fh0:=(show World.frozen? _ ⟨s,0,none⟩=false from HB.out.2.1.free 0);have fh1:=(show World.frozen? _ ⟨s,1,none⟩=false from HB.out.2.1.free 1)
    have xy:(s+1)≠(s):=by omega
    have yx:(s)≠(s+1):=by omega
    go_wp2_with fail
    have HN:=Lib.hid (And.intro ((HB.out.1.put2 (.string tc) (.string tr)).other2 xy (.string sc) (.string sr)) (And.intro ((HB.out.2.1.other2 yx (.string tc) (.string tr)).put2 (.string sc) (.string sr)) (And.intro ((HB.out.2.2.1.other2 (show k≠s+1 by omega) (.string tc) (.string tr)).other2 (show k≠s by omega) (.string sc) (.string sr)) (below_put2 (below_put2 HB.out.2.2.2 (l:=s+1) (by have h2:=HK.out;omega) (.string tc) (.string tr)) (l:=s) (by have h2:=HK.out;omega) (.string sc) (.string sr)))))
    clear HB l0 l1 h0 h1 fl0 fl1 fh0 fh1;have HB:=HN;clear HN
    generalize (((W2.setCell ⟨s+1,0,none⟩ (.string tc)).setCell ⟨s+1,1,none⟩ (.string tr)).setCell ⟨s,0,none⟩ (.string sc)).setCell ⟨s,1,none⟩ (.string sr)=W3 at *
    have l0:=(show World.cell? _ ⟨s+1,0,none⟩=some (.string tc) from HB.out.1.cell 0 _ rfl);have l1:=(show World.cell? _ ⟨s+1,1,none⟩=some (.string tr) from HB.out.1.cell 1 _ rfl);have fl0:=(show World.frozen? _ ⟨s+1,0,none⟩=false from HB.out.1.free 0);have fl1:=(show World.frozen? _ ⟨s+1,1,none⟩=false from HB.out.1.free 1);have h0:=(show World.cell? _ ⟨s,0,none⟩=some (.string sc) from HB.out.2.1.cell 0 _ rfl);have h1:=(show World.cell? _ ⟨s,1,none⟩=some (.string sr) from HB.out.2.1.cell 1 _ rfl);have fh0:=(show World.frozen? _ ⟨s,0,none⟩=false from HB.out.2.1.free 0);have fh1:=(show World.frozen? _ ⟨s,1,none⟩=false from HB.out.2.1.free 1)
    refine (hR.out _ HB.out.2.2.2).mono ?_
    rintro e W4 ⟨rfl,b⟩
    have HN:=Lib.hid (And.intro (HB.out.1.next b) (And.intro (HB.out.2.1.next b) (And.intro (HB.out.2.2.1.next b) (HB.out.2.2.2.trans (b.mono (by have h1:=HB.out.2.2.2.size;have h2:=HK.out;omega))))));clear HB b l0 l1 h0 h1 fl0 fl1 fh0 fh1;have HB:=HN;clear HN;have l0:=(show World.cell? _ ⟨s+1,0,none⟩=some (.string tc) from HB.out.1.cell 0 _ rfl);have l1:=(show World.cell? _ ⟨s+1,1,none⟩=some (.string tr) from HB.out.1.cell 1 _ rfl);have fl0:=(show World.frozen? _ ⟨s+1,0,none⟩=false from HB.out.1.free 0);have fl1:=(show World.frozen? _ ⟨s+1,1,none⟩=false from HB.out.1.free 1);have h0:=(show World.cell? _ ⟨s,0,none⟩=some (.string sc) from HB.out.2.1.cell 0 _ rfl);have h1:=(show World.cell? _ ⟨s,1,none⟩=some (.string sr) from HB.out.2.1.cell 1 _ rfl);have fh0:=(show World.frozen? _ ⟨s,0,none⟩=false from HB.out.2.1.free 0);have fh1:=(show World.frozen? _ ⟨s,1,none⟩=false from HB.out.2.1.free 1)
    go_wp2_with fail
    refine (hM.out _ HB.out.2.2.2).mono ?_
    rintro e W5 ⟨rfl,b⟩
    have HN:=Lib.hid (And.intro (HB.out.1.next b) (And.intro (HB.out.2.1.next b) (And.intro (HB.out.2.2.1.next b) (HB.out.2.2.2.trans (b.mono (by have h1:=HB.out.2.2.2.size;have h2:=HK.out;omega))))));clear HB b l0 l1 h0 h1 fl0 fl1 fh0 fh1;have HB:=HN;clear HN;have l0:=(show World.cell? _ ⟨s+1,0,none⟩=some (.string tc) from HB.out.1.cell 0 _ rfl);have l1:=(show World.cell? _ ⟨s+1,1,none⟩=some (.string tr) from HB.out.1.cell 1 _ rfl);have fl0:=(show World.frozen? _ ⟨s+1,0,none⟩=false from HB.out.1.free 0);have fl1:=(show World.frozen? _ ⟨s+1,1,none⟩=false from HB.out.1.free 1);have h0:=(show World.cell? _ ⟨s,0,none⟩=some (.string sc) from HB.out.2.1.cell 0 _ rfl);have h1:=(show World.cell? _ ⟨s,1,none⟩=some (.string sr) from HB.out.2.1.cell 1 _ rfl);have fh0:=(show World.frozen? _ ⟨s,0,none⟩=false from HB.out.2.1.free 0);have fh1:=(show World.frozen? _ ⟨s,1,none⟩=false from HB.out.2.1.free 1)
    go_wp2_with fail
    refine (hA.out _ HB.out.2.2.2).mono ?_
    rintro e W6 ⟨rfl,b⟩
    have HN:=Lib.hid (And.intro (HB.out.1.next b) (And.intro (HB.out.2.1.next b) (And.intro (HB.out.2.2.1.next b) (HB.out.2.2.2.trans (b.mono (by have h1:=HB.out.2.2.2.size;have h2:=HK.out;omega))))));clear HB b l0 l1 h0 h1 fl0 fl1 fh0 fh1;have HB:=HN;clear HN;have l0:=(show World.cell? _ ⟨s+1,0,none⟩=some (.string tc) from HB.out.1.cell 0 _ rfl);have l1:=(show World.cell? _ ⟨s+1,1,none⟩=some (.string tr) from HB.out.1.cell 1 _ rfl);have fl0:=(show World.frozen? _ ⟨s+1,0,none⟩=false from HB.out.1.free 0);have fl1:=(show World.frozen? _ ⟨s+1,1,none⟩=false from HB.out.1.free 1);have h0:=(show World.cell? _ ⟨s,0,none⟩=some (.string sc) from HB.out.2.1.cell 0 _ rfl);have h1:=(show World.cell? _ ⟨s,1,none⟩=some (.string sr) from HB.out.2.1.cell 1 _ rfl);have fh0:=(show World.frozen? _ ⟨s,0,none⟩=false from HB.out.2.1.free 0);have fh1:=(show World.frozen? _ ⟨s,1,none⟩=false from HB.out.2.1.free 1)
    have q0:=(HB.out.2.2.2.cell (p:=⟨bb,j*2,none⟩) HT.out.1).trans (HT.out.2.1 j (by omega))
    have q1:=(HB.out.2.2.2.cell (p:=⟨bb,j*2+1,none⟩) HT.out.1).trans (HT.out.2.2.1 j (by omega))
    have fq0:=(HB.out.2.2.2.frozen (p:=⟨bb,j*2,none⟩) HT.out.1).trans (HT.out.2.2.2 (j*2))
    have fq1:=(HB.out.2.2.2.frozen (p:=⟨bb,j*2+1,none⟩) HT.out.1).trans (HT.out.2.2.2 (j*2+1))
    go_wp2
    go_ret2
    have hbl:=HB.out.2.2.2
    rw [←HK.out] at hbl
    exact ⟨rfl,W6,hbl,by rw [E.out]⟩
end Go.Proofs.YtpkloolckbhdaaaGreatDoor.T
