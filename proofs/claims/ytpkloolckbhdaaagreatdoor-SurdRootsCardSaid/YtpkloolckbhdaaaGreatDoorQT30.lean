/- Parts of the proof of the text YtpkloolckbhdaaaGreatDoorQT38. -/
import Derived.OwnWalk
import Derived.RegionTactic
import Derived.ChangeAlike
import Derived.Test.YtpkloolckbhdaaaGreatDoorQT1
import Derived.Test.YtpkloolckbhdaaaGreatDoorQT29
set_option linter.all false
set_option maxRecDepth 100000
set_option maxHeartbeats 8000000
namespace Go.Proofs.YtpkloolckbhdaaaGreatDoor.T
open Go.Proofs.YtpkloolckbhdaaaGreatDoor Go Go.RowKit
theorem info_term:(Tryz.prog.info? 60).map (fun i=>(i.zero,i.size,i.bytes))=some (some (.agg #[.string ⟨#[]⟩,.string ⟨#[]⟩]),2,32):=by kernel_rfl
theorem cell_two_new (w:World) (a b:Value) (e:TypeId):∀ j u,[a,b][j]? = some u→(w.alloc (.cells #[a,b] e)).cell? ((⟨w.heap.size,0,none⟩:Addr).add j)=some u:=fun j u h=>by
 have ha:(⟨w.heap.size,0,none⟩:Addr).add j=⟨w.heap.size,j,none⟩:=by unfold Addr.add;split <;> simp_all
 rw [ha]
 exact (Blk.new w #[a,b] e).cell j u (by simpa using h)
theorem own_next {W W':World} {base:Nat} {T:TypeId} {s:Nat} {v:Value} {n:Nat} {xs:List Value} (h:W.ownsRow base T s v n xs) (g:Below W.heap.size W W'):W'.ownsRow base T s v n xs:=by
 refine ⟨h.1,?_⟩
 rcases h.2 with hn | ⟨k,cap,cur,e,hb,hg,rest⟩
 ·exact .inl hn
 ·exact .inr ⟨k,cap,cur,e,hb,by rw [g.block k (lt_of_block hg)];exact hg,rest⟩
theorem grown_below {w W:World} (h:Below w.heap.size w W) (r:Option Nat):w.grownBy W r:=⟨h.os,h.tape,h.output,h.size,fun k hk _=>h.block k hk⟩
theorem grown_trans {w W V:World} {r:Option Nat} (h:w.grownBy W r) (g:W.grownBy V r):w.grownBy V r :=
 ⟨g.os.trans h.os,g.tape.trans h.tape,g.output.trans h.output,Nat.le_trans h.size g.size,fun k hk hr=>(g.block k (Nat.lt_of_lt_of_le hk h.size) hr).trans (h.block k hk hr)⟩
theorem with_miss (bb n c q:Nat) (sc sr:Nat→ByteArray) (tc tr:ByteArray) (x:Nat→Int) (w:World)
  (hb:bb<w.heap.size) (hc0:∀ j,j<n→w.cell? ⟨bb,j*2,none⟩=some (.string (sc j))) (hc1:∀ j,j<n→w.cell? ⟨bb,j*2+1,none⟩=some (.string (sr j))) (base:Nat) (xs:List Value) (ho:w.ownsRow base 60 2 (.slice (some ⟨bb,0,none⟩) n c) n xs) (hbase:base≤w.heap.size) (hq:q=n) (hn:n≤1000)
  (hO:∀ j,j<n→∀ W,Below w.heap.size w W→Calls Tryz.prog 133 #[.string (sr j),.string tr] W fun e W'=>e = .returned (.int .i64 (x j))∧Below W.heap.size W W')
  (hRp:∀ j,j<n→0<x j→∀ W,Below w.heap.size w W→Calls Tryz.prog 134 #[.string (sr j),.string tr] W fun e W'=>e = .returned (.tuple #[.string ⟨#[]⟩,.bool false])∧Below W.heap.size W W')
  (hRn:∀ j,j<n→¬ 0<x j→∀ W,Below w.heap.size w W→Calls Tryz.prog 134 #[.string tr,.string (sr j)] W fun e W'=>e = .returned (.tuple #[.string ⟨#[]⟩,.bool false])∧Below W.heap.size W W')
  :
  Calls Tryz.prog 103 #[.slice (some ⟨bb,0,none⟩) n c,.agg #[.string tc,.string tr]] w fun e W'=>∃ v',e = .returned (.tuple #[v',.int .i64 0])∧W'.ownsRow base 60 2 v' (n+1) (xs ++ [.string tc,.string tr])∧w.grownBy W' (.slice (some ⟨bb,0,none⟩) n c:Value).ownBlock:=by
 have O:=Lib.hid (And.intro hO (And.intro hRp hRn));clear hO hRp hRn
 subst hq
 obtain ⟨i0,hi,hz0,hz1,hz2⟩:=info_parts info_term
 have HI:=Lib.hid (And.intro hi (And.intro hz0 (And.intro hz1 hz2)));clear hi hz0 hz1 hz2
 have HT:=Lib.hid (And.intro hb (And.intro hc0 (And.intro hc1 (And.intro ho hbase))))
 clear hb hc0 hc1
 clear ho hbase
 go_enter Tryz.func103,Tryz.ntmps103
 go_wp2
 have HB:=Lib.hid (And.intro (Blk.new w #[.string tc,.string tr] 60) ((Below.refl _ w).alloc (Nat.le_refl _) (.cells #[.string tc,.string tr] 60)))
 generalize w.alloc (.cells #[.string tc,.string tr] 60)=W0 at *
 generalize hk:w.heap.size=k at *
 have HK:=Lib.hid hk;clear hk
 go_loopw [16] (fun i wr=>∃ j:Nat,i = .int .i64 j∧j≤q∧Hid (Blk wr k #[.string tc,.string tr]∧Below k w wr)) (fun i _=>q - (intOf i).toNat)
 case atStart=>exact ⟨0,rfl,by omega,HB.out⟩
 case round =>
  clear HB
  obtain ⟨j,rfl,hj,HB⟩:=hrel
  by_cases hlt:j<q
  ·have hz:(j:Int)<q:=by omega
   have d0:=(HB.out.2.cell (p:=⟨bb,j*2,none⟩) HT.out.1).trans (HT.out.2.1 j (by omega))
   have d1:=(HB.out.2.cell (p:=⟨bb,j*2+1,none⟩) HT.out.1).trans (HT.out.2.2.1 j (by omega))
   have hO:=Lib.hid (O.out.1 j (by omega))
   by_cases hx:0<x j
   ·have hR:=Lib.hid (O.out.2.1 j hlt hx)
    generalize x j=xj at *
    generalize hsc:sc j=sc at *
    generalize hsr:sr j=sr at *
    clear hsc hsr
    go_wp2
    have HN:=Lib.hid (And.intro (HB.out.1.alloc (.cells #[.string sc,.string sr] 60)) (And.intro (Blk.new wr #[.string sc,.string sr] 60) (HB.out.2.alloc (by have h1:=HB.out.2.size;have h2:=HK.out;omega) (.cells #[.string sc,.string sr] 60))))
    clear HB d0 d1;have HB:=HN;clear HN
    generalize wr.alloc (.cells #[.string sc,.string sr] 60)=u at *
    generalize wr.heap.size=m at *
    have e0:=(show World.cell? _ ⟨k,0,none⟩=some (.string tc) from HB.out.1.cell 0 _ rfl)
    have e1:=(show World.cell? _ ⟨k,1,none⟩=some (.string tr) from HB.out.1.cell 1 _ rfl)
    have f0:=(show World.cell? _ ⟨m,0,none⟩=some (.string sc) from HB.out.2.1.cell 0 _ rfl)
    have f1:=(show World.cell? _ ⟨m,1,none⟩=some (.string sr) from HB.out.2.1.cell 1 _ rfl)
    have kn:k<u.heap.size:=HB.out.1.lt
    have mn:m<u.heap.size:=HB.out.2.1.lt
    have k1:k≠u.heap.size:=by omega
    have k2:k≠u.heap.size+1:=by omega
    have m1:m≠u.heap.size:=by omega
    have m2:m≠u.heap.size+1:=by omega
    have g0:=alc_d (alc e0 (o := .cells #[.string ⟨#[]⟩,.string ⟨#[]⟩] 60)) (o := .cells #[.string ⟨#[]⟩,.string ⟨#[]⟩] 60)
    have g1:=alc_d (alc e1 (o := .cells #[.string ⟨#[]⟩,.string ⟨#[]⟩] 60)) (o := .cells #[.string ⟨#[]⟩,.string ⟨#[]⟩] 60)
    have i0:=alc_d (alc f0 (o := .cells #[.string ⟨#[]⟩,.string ⟨#[]⟩] 60)) (o := .cells #[.string ⟨#[]⟩,.string ⟨#[]⟩] 60)
    have i1:=alc_d (alc f1 (o := .cells #[.string ⟨#[]⟩,.string ⟨#[]⟩] 60)) (o := .cells #[.string ⟨#[]⟩,.string ⟨#[]⟩] 60)
    go_region
    ·have HN:=Lib.hid (And.intro (Blk.drew ((Blk.new u #[.string sc,.string sr] 60).alloc (.cells #[.string tc,.string tr] 60))) (And.intro (Blk.drew ((by have h:=Blk.new (u.alloc (.cells #[.string sc,.string sr] 60)) #[.string tc,.string tr] 60;rwa [show (u.alloc (.cells #[.string sc,.string sr] 60)).heap.size=u.heap.size+1 by simp] at h:Blk ((u.alloc (.cells #[.string sc,.string sr] 60)).alloc (.cells #[.string tc,.string tr] 60)) (u.heap.size+1) #[.string tc,.string tr]))) (And.intro (((HB.out.1.alloc (.cells #[.string sc,.string sr] 60)).alloc (.cells #[.string tc,.string tr] 60)).drew) (((HB.out.2.2.alloc (by have h1:=HB.out.2.2.size;have h2:=HK.out;omega) (.cells #[.string sc,.string sr] 60)).alloc (by have h1:=HB.out.2.2.size;have h2:=HK.out;simp;omega) (.cells #[.string tc,.string tr] 60)).drew))))
     clear HB;have HB:=HN;clear HN
     generalize ((u.alloc (.cells #[.string sc,.string sr] 60)).alloc (.cells #[.string tc,.string tr] 60)).drew=W at *
     generalize u.heap.size=s at *
     clear e0 e1 f0 f1 g0 g1 i0 i1 k1 k2 m1 m2
     have l0:=(show World.cell? _ ⟨s,0,none⟩=some (.string sc) from HB.out.1.cell 0 _ rfl);have l1:=(show World.cell? _ ⟨s,1,none⟩=some (.string sr) from HB.out.1.cell 1 _ rfl);have fl0:=(show World.frozen? _ ⟨s,0,none⟩=false from HB.out.1.free 0);have fl1:=(show World.frozen? _ ⟨s,1,none⟩=false from HB.out.1.free 1);have h0:=(show World.cell? _ ⟨s+1,0,none⟩=some (.string tc) from HB.out.2.1.cell 0 _ rfl);have h1:=(show World.cell? _ ⟨s+1,1,none⟩=some (.string tr) from HB.out.2.1.cell 1 _ rfl);have fh0:=(show World.frozen? _ ⟨s+1,0,none⟩=false from HB.out.2.1.free 0);have fh1:=(show World.frozen? _ ⟨s+1,1,none⟩=false from HB.out.2.1.free 1)
     go_wp2_with fail
     refine (hO.out _ HB.out.2.2.2).mono ?_
     rintro e W2 ⟨rfl,b⟩
     have HN:=Lib.hid (And.intro (HB.out.1.next b) (And.intro (HB.out.2.1.next b) (And.intro (HB.out.2.2.1.next b) (HB.out.2.2.2.trans (b.mono (by have h1:=HB.out.2.2.2.size;have h2:=HK.out;omega))))));clear HB b l0 l1 h0 h1 fl0 fl1 fh0 fh1;have HB:=HN;clear HN;have l0:=(show World.cell? _ ⟨s,0,none⟩=some (.string sc) from HB.out.1.cell 0 _ rfl);have l1:=(show World.cell? _ ⟨s,1,none⟩=some (.string sr) from HB.out.1.cell 1 _ rfl);have fl0:=(show World.frozen? _ ⟨s,0,none⟩=false from HB.out.1.free 0);have fl1:=(show World.frozen? _ ⟨s,1,none⟩=false from HB.out.1.free 1);have h0:=(show World.cell? _ ⟨s+1,0,none⟩=some (.string tc) from HB.out.2.1.cell 0 _ rfl);have h1:=(show World.cell? _ ⟨s+1,1,none⟩=some (.string tr) from HB.out.2.1.cell 1 _ rfl);have fh0:=(show World.frozen? _ ⟨s+1,0,none⟩=false from HB.out.2.1.free 0);have fh1:=(show World.frozen? _ ⟨s+1,1,none⟩=false from HB.out.2.1.free 1)
     have xy:(s)≠(s+1):=by omega
     have yx:(s+1)≠(s):=by omega
     go_wp2_with fail
     have HN:=Lib.hid (And.intro ((HB.out.1.put2 (.string tc) (.string tr)).other2 xy (.string sc) (.string sr)) (And.intro ((HB.out.2.1.other2 yx (.string tc) (.string tr)).put2 (.string sc) (.string sr)) (And.intro ((HB.out.2.2.1.other2 (show k≠s by omega) (.string tc) (.string tr)).other2 (show k≠s+1 by omega) (.string sc) (.string sr)) (below_put2 (below_put2 HB.out.2.2.2 (l:=s) (by have h2:=HK.out;omega) (.string tc) (.string tr)) (l:=s+1) (by have h2:=HK.out;omega) (.string sc) (.string sr)))))
     clear HB l0 l1 h0 h1 fl0 fl1 fh0 fh1;have HB:=HN;clear HN
     generalize (((W2.setCell ⟨s,0,none⟩ (.string tc)).setCell ⟨s,1,none⟩ (.string tr)).setCell ⟨s+1,0,none⟩ (.string sc)).setCell ⟨s+1,1,none⟩ (.string sr)=W3 at *
     have l0:=(show World.cell? _ ⟨s,0,none⟩=some (.string tc) from HB.out.1.cell 0 _ rfl);have l1:=(show World.cell? _ ⟨s,1,none⟩=some (.string tr) from HB.out.1.cell 1 _ rfl);have fl0:=(show World.frozen? _ ⟨s,0,none⟩=false from HB.out.1.free 0);have fl1:=(show World.frozen? _ ⟨s,1,none⟩=false from HB.out.1.free 1);have h0:=(show World.cell? _ ⟨s+1,0,none⟩=some (.string sc) from HB.out.2.1.cell 0 _ rfl);have h1:=(show World.cell? _ ⟨s+1,1,none⟩=some (.string sr) from HB.out.2.1.cell 1 _ rfl);have fh0:=(show World.frozen? _ ⟨s+1,0,none⟩=false from HB.out.2.1.free 0);have fh1:=(show World.frozen? _ ⟨s+1,1,none⟩=false from HB.out.2.1.free 1)
     refine (hR.out _ HB.out.2.2.2).mono ?_
     rintro e W4 ⟨rfl,b⟩
     have HN:=Lib.hid (And.intro (HB.out.1.next b) (And.intro (HB.out.2.1.next b) (And.intro (HB.out.2.2.1.next b) (HB.out.2.2.2.trans (b.mono (by have h1:=HB.out.2.2.2.size;have h2:=HK.out;omega))))));clear HB b l0 l1 h0 h1 fl0 fl1 fh0 fh1;have HB:=HN;clear HN;have l0:=(show World.cell? _ ⟨s,0,none⟩=some (.string tc) from HB.out.1.cell 0 _ rfl);have l1:=(show World.cell? _ ⟨s,1,none⟩=some (.string tr) from HB.out.1.cell 1 _ rfl);have fl0:=(show World.frozen? _ ⟨s,0,none⟩=false from HB.out.1.free 0);have fl1:=(show World.frozen? _ ⟨s,1,none⟩=false from HB.out.1.free 1);have h0:=(show World.cell? _ ⟨s+1,0,none⟩=some (.string sc) from HB.out.2.1.cell 0 _ rfl);have h1:=(show World.cell? _ ⟨s+1,1,none⟩=some (.string sr) from HB.out.2.1.cell 1 _ rfl);have fh0:=(show World.frozen? _ ⟨s+1,0,none⟩=false from HB.out.2.1.free 0);have fh1:=(show World.frozen? _ ⟨s+1,1,none⟩=false from HB.out.2.1.free 1)
     go_wp2
     go_roundw
     case rel=>exact ⟨j+1,by go_num,by omega,HB.out.2.2⟩
     case measure=>simp [intOf];omega
    ·have HN:=Lib.hid (And.intro (Blk.drew ((by have h:=Blk.new (u.alloc (.cells #[.string tc,.string tr] 60)) #[.string sc,.string sr] 60;rwa [show (u.alloc (.cells #[.string tc,.string tr] 60)).heap.size=u.heap.size+1 by simp] at h:Blk ((u.alloc (.cells #[.string tc,.string tr] 60)).alloc (.cells #[.string sc,.string sr] 60)) (u.heap.size+1) #[.string sc,.string sr]))) (And.intro (Blk.drew ((Blk.new u #[.string tc,.string tr] 60).alloc (.cells #[.string sc,.string sr] 60))) (And.intro (((HB.out.1.alloc (.cells #[.string tc,.string tr] 60)).alloc (.cells #[.string sc,.string sr] 60)).drew) (((HB.out.2.2.alloc (by have h1:=HB.out.2.2.size;have h2:=HK.out;omega) (.cells #[.string tc,.string tr] 60)).alloc (by have h1:=HB.out.2.2.size;have h2:=HK.out;simp;omega) (.cells #[.string sc,.string sr] 60)).drew))))
     clear HB;have HB:=HN;clear HN
     generalize ((u.alloc (.cells #[.string tc,.string tr] 60)).alloc (.cells #[.string sc,.string sr] 60)).drew=W at *
     generalize u.heap.size=s at *
     clear e0 e1 f0 f1 g0 g1 i0 i1 k1 k2 m1 m2
     have l0:=(show World.cell? _ ⟨s+1,0,none⟩=some (.string sc) from HB.out.1.cell 0 _ rfl);have l1:=(show World.cell? _ ⟨s+1,1,none⟩=some (.string sr) from HB.out.1.cell 1 _ rfl);have fl0:=(show World.frozen? _ ⟨s+1,0,none⟩=false from HB.out.1.free 0);have fl1:=(show World.frozen? _ ⟨s+1,1,none⟩=false from HB.out.1.free 1);have h0:=(show World.cell? _ ⟨s,0,none⟩=some (.string tc) from HB.out.2.1.cell 0 _ rfl);have h1:=(show World.cell? _ ⟨s,1,none⟩=some (.string tr) from HB.out.2.1.cell 1 _ rfl);have fh0:=(show World.frozen? _ ⟨s,0,none⟩=false from HB.out.2.1.free 0);have fh1:=(show World.frozen? _ ⟨s,1,none⟩=false from HB.out.2.1.free 1)
     go_wp2_with fail
     refine (hO.out _ HB.out.2.2.2).mono ?_
     rintro e W2 ⟨rfl,b⟩
     have HN:=Lib.hid (And.intro (HB.out.1.next b) (And.intro (HB.out.2.1.next b) (And.intro (HB.out.2.2.1.next b) (HB.out.2.2.2.trans (b.mono (by have h1:=HB.out.2.2.2.size;have h2:=HK.out;omega))))));clear HB b l0 l1 h0 h1 fl0 fl1 fh0 fh1;have HB:=HN;clear HN;have l0:=(show World.cell? _ ⟨s+1,0,none⟩=some (.string sc) from HB.out.1.cell 0 _ rfl);have l1:=(show World.cell? _ ⟨s+1,1,none⟩=some (.string sr) from HB.out.1.cell 1 _ rfl);have fl0:=(show World.frozen? _ ⟨s+1,0,none⟩=false from HB.out.1.free 0);have fl1:=(show World.frozen? _ ⟨s+1,1,none⟩=false from HB.out.1.free 1);have h0:=(show World.cell? _ ⟨s,0,none⟩=some (.string tc) from HB.out.2.1.cell 0 _ rfl);have h1:=(show World.cell? _ ⟨s,1,none⟩=some (.string tr) from HB.out.2.1.cell 1 _ rfl);have fh0:=(show World.frozen? _ ⟨s,0,none⟩=false from HB.out.2.1.free 0);have fh1:=(show World.frozen? _ ⟨s,1,none⟩=false from HB.out.2.1.free 1)
     have xy:(s+1)≠(s):=by omega
     have yx:(s)≠(s+1):=by omega
     go_wp2_with fail
     have HN:=Lib.hid (And.intro ((HB.out.1.put2 (.string tc) (.string tr)).other2 xy (.string sc) (.string sr)) (And.intro ((HB.out.2.1.other2 yx (.string tc) (.string tr)).put2 (.string sc) (.string sr)) (And.intro ((HB.out.2.2.1.other2 (show k≠s+1 by omega) (.string tc) (.string tr)).other2 (show k≠s by omega) (.string sc) (.string sr)) (below_put2 (below_put2 HB.out.2.2.2 (l:=s+1) (by have h2:=HK.out;omega) (.string tc) (.string tr)) (l:=s) (by have h2:=HK.out;omega) (.string sc) (.string sr)))))
     clear HB l0 l1 h0 h1 fl0 fl1 fh0 fh1;have HB:=HN;clear HN
     generalize (((W2.setCell ⟨s+1,0,none⟩ (.string tc)).setCell ⟨s+1,1,none⟩ (.string tr)).setCell ⟨s,0,none⟩ (.string sc)).setCell ⟨s,1,none⟩ (.string sr)=W3 at *
     have l0:=(show World.cell? _ ⟨s+1,0,none⟩=some (.string tc) from HB.out.1.cell 0 _ rfl);have l1:=(show World.cell? _ ⟨s+1,1,none⟩=some (.string tr) from HB.out.1.cell 1 _ rfl);have fl0:=(show World.frozen? _ ⟨s+1,0,none⟩=false from HB.out.1.free 0);have fl1:=(show World.frozen? _ ⟨s+1,1,none⟩=false from HB.out.1.free 1);have h0:=(show World.cell? _ ⟨s,0,none⟩=some (.string sc) from HB.out.2.1.cell 0 _ rfl);have h1:=(show World.cell? _ ⟨s,1,none⟩=some (.string sr) from HB.out.2.1.cell 1 _ rfl);have fh0:=(show World.frozen? _ ⟨s,0,none⟩=false from HB.out.2.1.free 0);have fh1:=(show World.frozen? _ ⟨s,1,none⟩=false from HB.out.2.1.free 1)
     refine (hR.out _ HB.out.2.2.2).mono ?_
     rintro e W4 ⟨rfl,b⟩
     have HN:=Lib.hid (And.intro (HB.out.1.next b) (And.intro (HB.out.2.1.next b) (And.intro (HB.out.2.2.1.next b) (HB.out.2.2.2.trans (b.mono (by have h1:=HB.out.2.2.2.size;have h2:=HK.out;omega))))));clear HB b l0 l1 h0 h1 fl0 fl1 fh0 fh1;have HB:=HN;clear HN;have l0:=(show World.cell? _ ⟨s+1,0,none⟩=some (.string tc) from HB.out.1.cell 0 _ rfl);have l1:=(show World.cell? _ ⟨s+1,1,none⟩=some (.string tr) from HB.out.1.cell 1 _ rfl);have fl0:=(show World.frozen? _ ⟨s+1,0,none⟩=false from HB.out.1.free 0);have fl1:=(show World.frozen? _ ⟨s+1,1,none⟩=false from HB.out.1.free 1);have h0:=(show World.cell? _ ⟨s,0,none⟩=some (.string sc) from HB.out.2.1.cell 0 _ rfl);have h1:=(show World.cell? _ ⟨s,1,none⟩=some (.string sr) from HB.out.2.1.cell 1 _ rfl);have fh0:=(show World.frozen? _ ⟨s,0,none⟩=false from HB.out.2.1.free 0);have fh1:=(show World.frozen? _ ⟨s,1,none⟩=false from HB.out.2.1.free 1)
     go_wp2
     go_roundw
     case rel=>exact ⟨j+1,by go_num,by omega,HB.out.2.2⟩
     case measure=>simp [intOf];omega
   ·have hR:=Lib.hid (O.out.2.2 j hlt (by omega))
    generalize x j=xj at *
    generalize hsc:sc j=sc at *
    generalize hsr:sr j=sr at *
    clear hsc hsr
    go_wp2
    have HN:=Lib.hid (And.intro (HB.out.1.alloc (.cells #[.string sc,.string sr] 60)) (And.intro (Blk.new wr #[.string sc,.string sr] 60) (HB.out.2.alloc (by have h1:=HB.out.2.size;have h2:=HK.out;omega) (.cells #[.string sc,.string sr] 60))))
    clear HB d0 d1;have HB:=HN;clear HN
    generalize wr.alloc (.cells #[.string sc,.string sr] 60)=u at *
    generalize wr.heap.size=m at *
    have e0:=(show World.cell? _ ⟨k,0,none⟩=some (.string tc) from HB.out.1.cell 0 _ rfl)
    have e1:=(show World.cell? _ ⟨k,1,none⟩=some (.string tr) from HB.out.1.cell 1 _ rfl)
    have f0:=(show World.cell? _ ⟨m,0,none⟩=some (.string sc) from HB.out.2.1.cell 0 _ rfl)
    have f1:=(show World.cell? _ ⟨m,1,none⟩=some (.string sr) from HB.out.2.1.cell 1 _ rfl)
    have kn:k<u.heap.size:=HB.out.1.lt
    have mn:m<u.heap.size:=HB.out.2.1.lt
    have k1:k≠u.heap.size:=by omega
    have k2:k≠u.heap.size+1:=by omega
    have m1:m≠u.heap.size:=by omega
    have m2:m≠u.heap.size+1:=by omega
    have g0:=alc_d (alc e0 (o := .cells #[.string ⟨#[]⟩,.string ⟨#[]⟩] 60)) (o := .cells #[.string ⟨#[]⟩,.string ⟨#[]⟩] 60)
    have g1:=alc_d (alc e1 (o := .cells #[.string ⟨#[]⟩,.string ⟨#[]⟩] 60)) (o := .cells #[.string ⟨#[]⟩,.string ⟨#[]⟩] 60)
    have i0:=alc_d (alc f0 (o := .cells #[.string ⟨#[]⟩,.string ⟨#[]⟩] 60)) (o := .cells #[.string ⟨#[]⟩,.string ⟨#[]⟩] 60)
    have i1:=alc_d (alc f1 (o := .cells #[.string ⟨#[]⟩,.string ⟨#[]⟩] 60)) (o := .cells #[.string ⟨#[]⟩,.string ⟨#[]⟩] 60)
    go_region
    ·have HN:=Lib.hid (And.intro (Blk.drew ((Blk.new u #[.string sc,.string sr] 60).alloc (.cells #[.string tc,.string tr] 60))) (And.intro (Blk.drew ((by have h:=Blk.new (u.alloc (.cells #[.string sc,.string sr] 60)) #[.string tc,.string tr] 60;rwa [show (u.alloc (.cells #[.string sc,.string sr] 60)).heap.size=u.heap.size+1 by simp] at h:Blk ((u.alloc (.cells #[.string sc,.string sr] 60)).alloc (.cells #[.string tc,.string tr] 60)) (u.heap.size+1) #[.string tc,.string tr]))) (And.intro (((HB.out.1.alloc (.cells #[.string sc,.string sr] 60)).alloc (.cells #[.string tc,.string tr] 60)).drew) (((HB.out.2.2.alloc (by have h1:=HB.out.2.2.size;have h2:=HK.out;omega) (.cells #[.string sc,.string sr] 60)).alloc (by have h1:=HB.out.2.2.size;have h2:=HK.out;simp;omega) (.cells #[.string tc,.string tr] 60)).drew))))
     clear HB;have HB:=HN;clear HN
     generalize ((u.alloc (.cells #[.string sc,.string sr] 60)).alloc (.cells #[.string tc,.string tr] 60)).drew=W at *
     generalize u.heap.size=s at *
     clear e0 e1 f0 f1 g0 g1 i0 i1 k1 k2 m1 m2
     have l0:=(show World.cell? _ ⟨s,0,none⟩=some (.string sc) from HB.out.1.cell 0 _ rfl);have l1:=(show World.cell? _ ⟨s,1,none⟩=some (.string sr) from HB.out.1.cell 1 _ rfl);have fl0:=(show World.frozen? _ ⟨s,0,none⟩=false from HB.out.1.free 0);have fl1:=(show World.frozen? _ ⟨s,1,none⟩=false from HB.out.1.free 1);have h0:=(show World.cell? _ ⟨s+1,0,none⟩=some (.string tc) from HB.out.2.1.cell 0 _ rfl);have h1:=(show World.cell? _ ⟨s+1,1,none⟩=some (.string tr) from HB.out.2.1.cell 1 _ rfl);have fh0:=(show World.frozen? _ ⟨s+1,0,none⟩=false from HB.out.2.1.free 0);have fh1:=(show World.frozen? _ ⟨s+1,1,none⟩=false from HB.out.2.1.free 1)
     go_wp2_with fail
     refine (hO.out _ HB.out.2.2.2).mono ?_
     rintro e W2 ⟨rfl,b⟩
     have HN:=Lib.hid (And.intro (HB.out.1.next b) (And.intro (HB.out.2.1.next b) (And.intro (HB.out.2.2.1.next b) (HB.out.2.2.2.trans (b.mono (by have h1:=HB.out.2.2.2.size;have h2:=HK.out;omega))))));clear HB b l0 l1 h0 h1 fl0 fl1 fh0 fh1;have HB:=HN;clear HN;have l0:=(show World.cell? _ ⟨s,0,none⟩=some (.string sc) from HB.out.1.cell 0 _ rfl);have l1:=(show World.cell? _ ⟨s,1,none⟩=some (.string sr) from HB.out.1.cell 1 _ rfl);have fl0:=(show World.frozen? _ ⟨s,0,none⟩=false from HB.out.1.free 0);have fl1:=(show World.frozen? _ ⟨s,1,none⟩=false from HB.out.1.free 1);have h0:=(show World.cell? _ ⟨s+1,0,none⟩=some (.string tc) from HB.out.2.1.cell 0 _ rfl);have h1:=(show World.cell? _ ⟨s+1,1,none⟩=some (.string tr) from HB.out.2.1.cell 1 _ rfl);have fh0:=(show World.frozen? _ ⟨s+1,0,none⟩=false from HB.out.2.1.free 0);have fh1:=(show World.frozen? _ ⟨s+1,1,none⟩=false from HB.out.2.1.free 1)
     go_wp2_with fail
     refine (hR.out _ HB.out.2.2.2).mono ?_
     rintro e W4 ⟨rfl,b⟩
     have HN:=Lib.hid (And.intro (HB.out.1.next b) (And.intro (HB.out.2.1.next b) (And.intro (HB.out.2.2.1.next b) (HB.out.2.2.2.trans (b.mono (by have h1:=HB.out.2.2.2.size;have h2:=HK.out;omega))))));clear HB b l0 l1 h0 h1 fl0 fl1 fh0 fh1;have HB:=HN;clear HN;have l0:=(show World.cell? _ ⟨s,0,none⟩=some (.string sc) from HB.out.1.cell 0 _ rfl);have l1:=(show World.cell? _ ⟨s,1,none⟩=some (.string sr) from HB.out.1.cell 1 _ rfl);have fl0:=(show World.frozen? _ ⟨s,0,none⟩=false from HB.out.1.free 0);have fl1:=(show World.frozen? _ ⟨s,1,none⟩=false from HB.out.1.free 1);have h0:=(show World.cell? _ ⟨s+1,0,none⟩=some (.string tc) from HB.out.2.1.cell 0 _ rfl);have h1:=(show World.cell? _ ⟨s+1,1,none⟩=some (.string tr) from HB.out.2.1.cell 1 _ rfl);have fh0:=(show World.frozen? _ ⟨s+1,0,none⟩=false from HB.out.2.1.free 0);have fh1:=(show World.frozen? _ ⟨s+1,1,none⟩=false from HB.out.2.1.free 1)
     go_wp2
     go_roundw
     case rel=>exact ⟨j+1,by go_num,by omega,HB.out.2.2⟩
     case measure=>simp [intOf];omega
    ·have HN:=Lib.hid (And.intro (Blk.drew ((by have h:=Blk.new (u.alloc (.cells #[.string tc,.string tr] 60)) #[.string sc,.string sr] 60;rwa [show (u.alloc (.cells #[.string tc,.string tr] 60)).heap.size=u.heap.size+1 by simp] at h:Blk ((u.alloc (.cells #[.string tc,.string tr] 60)).alloc (.cells #[.string sc,.string sr] 60)) (u.heap.size+1) #[.string sc,.string sr]))) (And.intro (Blk.drew ((Blk.new u #[.string tc,.string tr] 60).alloc (.cells #[.string sc,.string sr] 60))) (And.intro (((HB.out.1.alloc (.cells #[.string tc,.string tr] 60)).alloc (.cells #[.string sc,.string sr] 60)).drew) (((HB.out.2.2.alloc (by have h1:=HB.out.2.2.size;have h2:=HK.out;omega) (.cells #[.string tc,.string tr] 60)).alloc (by have h1:=HB.out.2.2.size;have h2:=HK.out;simp;omega) (.cells #[.string sc,.string sr] 60)).drew))))
     clear HB;have HB:=HN;clear HN
     generalize ((u.alloc (.cells #[.string tc,.string tr] 60)).alloc (.cells #[.string sc,.string sr] 60)).drew=W at *
     generalize u.heap.size=s at *
     clear e0 e1 f0 f1 g0 g1 i0 i1 k1 k2 m1 m2
     have l0:=(show World.cell? _ ⟨s+1,0,none⟩=some (.string sc) from HB.out.1.cell 0 _ rfl);have l1:=(show World.cell? _ ⟨s+1,1,none⟩=some (.string sr) from HB.out.1.cell 1 _ rfl);have fl0:=(show World.frozen? _ ⟨s+1,0,none⟩=false from HB.out.1.free 0);have fl1:=(show World.frozen? _ ⟨s+1,1,none⟩=false from HB.out.1.free 1);have h0:=(show World.cell? _ ⟨s,0,none⟩=some (.string tc) from HB.out.2.1.cell 0 _ rfl);have h1:=(show World.cell? _ ⟨s,1,none⟩=some (.string tr) from HB.out.2.1.cell 1 _ rfl);have fh0:=(show World.frozen? _ ⟨s,0,none⟩=false from HB.out.2.1.free 0);have fh1:=(show World.frozen? _ ⟨s,1,none⟩=false from HB.out.2.1.free 1)
     go_wp2_with fail
     refine (hO.out _ HB.out.2.2.2).mono ?_
     rintro e W2 ⟨rfl,b⟩
     have HN:=Lib.hid (And.intro (HB.out.1.next b) (And.intro (HB.out.2.1.next b) (And.intro (HB.out.2.2.1.next b) (HB.out.2.2.2.trans (b.mono (by have h1:=HB.out.2.2.2.size;have h2:=HK.out;omega))))));clear HB b l0 l1 h0 h1 fl0 fl1 fh0 fh1;have HB:=HN;clear HN;have l0:=(show World.cell? _ ⟨s+1,0,none⟩=some (.string sc) from HB.out.1.cell 0 _ rfl);have l1:=(show World.cell? _ ⟨s+1,1,none⟩=some (.string sr) from HB.out.1.cell 1 _ rfl);have fl0:=(show World.frozen? _ ⟨s+1,0,none⟩=false from HB.out.1.free 0);have fl1:=(show World.frozen? _ ⟨s+1,1,none⟩=false from HB.out.1.free 1);have h0:=(show World.cell? _ ⟨s,0,none⟩=some (.string tc) from HB.out.2.1.cell 0 _ rfl);have h1:=(show World.cell? _ ⟨s,1,none⟩=some (.string tr) from HB.out.2.1.cell 1 _ rfl);have fh0:=(show World.frozen? _ ⟨s,0,none⟩=false from HB.out.2.1.free 0);have fh1:=(show World.frozen? _ ⟨s,1,none⟩=false from HB.out.2.1.free 1)
     go_wp2_with fail
     refine (hR.out _ HB.out.2.2.2).mono ?_
     rintro e W4 ⟨rfl,b⟩
     have HN:=Lib.hid (And.intro (HB.out.1.next b) (And.intro (HB.out.2.1.next b) (And.intro (HB.out.2.2.1.next b) (HB.out.2.2.2.trans (b.mono (by have h1:=HB.out.2.2.2.size;have h2:=HK.out;omega))))));clear HB b l0 l1 h0 h1 fl0 fl1 fh0 fh1;have HB:=HN;clear HN;have l0:=(show World.cell? _ ⟨s+1,0,none⟩=some (.string sc) from HB.out.1.cell 0 _ rfl);have l1:=(show World.cell? _ ⟨s+1,1,none⟩=some (.string sr) from HB.out.1.cell 1 _ rfl);have fl0:=(show World.frozen? _ ⟨s+1,0,none⟩=false from HB.out.1.free 0);have fl1:=(show World.frozen? _ ⟨s+1,1,none⟩=false from HB.out.1.free 1);have h0:=(show World.cell? _ ⟨s,0,none⟩=some (.string tc) from HB.out.2.1.cell 0 _ rfl);have h1:=(show World.cell? _ ⟨s,1,none⟩=some (.string tr) from HB.out.2.1.cell 1 _ rfl);have fh0:=(show World.frozen? _ ⟨s,0,none⟩=false from HB.out.2.1.free 0);have fh1:=(show World.frozen? _ ⟨s,1,none⟩=false from HB.out.2.1.free 1)
     go_wp2
     go_roundw
     case rel=>exact ⟨j+1,by go_num,by omega,HB.out.2.2⟩
     case measure=>simp [intOf];omega
  ·obtain rfl:j=q:=by omega
   have hz:¬ (j:Int)<j:=by omega
   clear O
   have e0:=(show World.cell? _ ⟨k,0,none⟩=some (.string tc) from HB.out.1.cell 0 _ rfl)
   have e1:=(show World.cell? _ ⟨k,1,none⟩=some (.string tr) from HB.out.1.cell 1 _ rfl)
   have HW:=Lib.hid (own_next HT.out.2.2.2.1 (by have h:=HB.out.2;rw [←HK.out] at h;exact h))
   have hbs:base≤wr.heap.size+1:=by have h1:=HB.out.2.size;have h2:=HT.out.2.2.2.2;have h3:=HK.out;omega
   go_wp2_with (at_builtin;refine wpList_append_own _ rfl _ _ 40 rfl base 60 i0 (.agg #[.string ⟨#[]⟩,.string ⟨#[]⟩]) 2 32 Tryz.underlying40 HI.out.1 HI.out.2.1 HI.out.2.2.1 HI.out.2.2.2 rfl (by decide) _ _ _ rfl (HW.out.alloc _) ⟨wr.heap.size,0,none⟩ 1 1 [.string tc,.string tr] rfl rfl (cell_two_new _ _ _ _) (by simp [Value.oneCell']) (by unfold maxLen;omega) (by omega) (by simp;omega) ?_;intro v' w3 hown' hgrow _)
   go_ret2
   have hbl:=HB.out.2
   rw [←HK.out] at hbl
   exact ⟨v',rfl,hown',grown_trans (grown_below (hbl.alloc hbl.size _) _) hgrow⟩
theorem with_nil (tc tr:ByteArray) (w:World) (base:Nat) (hbase:base≤w.heap.size) :
  Calls Tryz.prog 103 #[.slice none 0 0,.agg #[.string tc,.string tr]] w fun e W'=>∃ v',e = .returned (.tuple #[v',.int .i64 0])∧W'.ownsRow base 60 2 v' 1 ([.string tc,.string tr])∧w.grownBy W' (.slice none 0 0:Value).ownBlock:=by
 obtain ⟨i0,hi,hz0,hz1,hz2⟩:=info_parts info_term
 have HI:=Lib.hid (And.intro hi (And.intro hz0 (And.intro hz1 hz2)));clear hi hz0 hz1 hz2
 have HT:=Lib.hid (And.intro (World.ownsRow_nil w base 60 2) hbase);clear hbase
 go_enter Tryz.func103,Tryz.ntmps103
 go_wp2
 have HB:=Lib.hid (And.intro (Blk.new w #[.string tc,.string tr] 60) ((Below.refl _ w).alloc (Nat.le_refl _) (.cells #[.string tc,.string tr] 60)))
 generalize w.alloc (.cells #[.string tc,.string tr] 60)=W0 at *
 generalize hk:w.heap.size=k at *
 have HK:=Lib.hid hk;clear hk
 go_loopw [16] (fun i wr=>i = .int .i64 0∧Hid (Blk wr k #[.string tc,.string tr]∧Below k w wr)) (fun i _=>0)
 case atStart=>exact ⟨rfl,HB.out⟩
 case round =>
  clear HB
  obtain ⟨rfl,HB⟩:=hrel
  have e0:=(show World.cell? _ ⟨k,0,none⟩=some (.string tc) from HB.out.1.cell 0 _ rfl)
  have e1:=(show World.cell? _ ⟨k,1,none⟩=some (.string tr) from HB.out.1.cell 1 _ rfl)
  have HW:=Lib.hid (own_next HT.out.1 (by have h:=HB.out.2;rw [←HK.out] at h;exact h))
  have hbs:base≤wr.heap.size+1:=by have h1:=HB.out.2.size;have h2:=HT.out.2;have h3:=HK.out;omega
  go_wp2_with (at_builtin;refine wpList_append_own _ rfl _ _ 40 rfl base 60 i0 (.agg #[.string ⟨#[]⟩,.string ⟨#[]⟩]) 2 32 Tryz.underlying40 HI.out.1 HI.out.2.1 HI.out.2.2.1 HI.out.2.2.2 rfl (by decide) _ _ _ rfl (HW.out.alloc _) ⟨wr.heap.size,0,none⟩ 1 1 [.string tc,.string tr] rfl rfl (cell_two_new _ _ _ _) (by simp [Value.oneCell']) (by unfold maxLen;omega) (by omega) (by simp;omega) ?_;intro v' w3 hown' hgrow _)
  go_ret2
  have hbl:=HB.out.2
  rw [←HK.out] at hbl
  exact ⟨v',rfl,hown',grown_trans (grown_below (hbl.alloc hbl.size _) _) hgrow⟩
end Go.Proofs.YtpkloolckbhdaaaGreatDoor.T
