/- Parts of the proof. -/
import Derived.OwnWalk
import Derived.RegionTactic
import Derived.ChangeAlike
import Derived.Shelf.SlGeneric
import Derived.Shelf.SlicesE.Clone
import Derived.Shelf.Spec.SlicesGrow
import Derived.Shelf.SlicesQ.IndexFunc
import Derived.Shelf.SlSortCmp.WholeK
import Derived.Ground.SlgnProg
import Derived.Ground.SlgfProg
import Derived.Ground.SlsfProg
import Derived.Ground.Names8Prog
import Derived.Test.YtbhbhlfkdlfimaaGreatDoorProg
import Derived.Shelf.SlicesE.DeleteFunc
import Derived.Test.YtbhbhlfkdlfimaaGreatDoorQX21
set_option linter.all false
set_option maxRecDepth 100000
set_option maxHeartbeats 8000000
namespace Go.Proofs.YtbhbhlfkdlfimaaGreatDoor.T
open Go.Proofs.YtbhbhlfkdlfimaaGreatDoor Go Go.RowKit
theorem fq:(Tryz.prog.info? 43).map (fun i=>(i.zero,i.size,i.bytes))=some (some (.agg #[.string ⟨#[]⟩,.string ⟨#[]⟩]),2,32):=by kernel_rfl
theorem cell_two_new (w:World) (a b:Value) (e:TypeId):∀ j u,[a,b][j]? = some u→(w.alloc (.cells #[a,b] e)).cell? ((⟨w.heap.size,0,none⟩:Addr).add j)=some u:=fun j u h=>by
 have ha:(⟨w.heap.size,0,none⟩:Addr).add j=⟨w.heap.size,j,none⟩:=by unfold Addr.add;split <;> simp_all
 rw [ha]
 exact (Blk.new w #[a,b] e).cell j u (by simpa using h)
theorem py {W W':World} {base:Nat} {T:TypeId} {s:Nat} {v:Value} {n:Nat} {xs:List Value} (h:W.ownsRow base T s v n xs) (g:Below W.heap.size W W'):W'.ownsRow base T s v n xs:=by
 refine ⟨h.1,?_⟩
 rcases h.2 with hn | ⟨k,cap,cur,e,hb,hg,rest⟩
 ·exact .inl hn
 ·exact .inr ⟨k,cap,cur,e,hb,by rw [g.block k (lt_of_block hg)];exact hg,rest⟩
theorem m6 {w W:World} (h:Below w.heap.size w W) (r:Option Nat):w.grownBy W r:=⟨h.os,h.tape,h.output,h.size,fun k hk _=>h.block k hk⟩
theorem m9 {w W V:World} {r:Option Nat} (h:w.grownBy W r) (g:W.grownBy V r):w.grownBy V r :=
 ⟨g.os.trans h.os,g.tape.trans h.tape,g.output.trans h.output,Nat.le_trans h.size g.size,fun k hk hr=>(g.block k (Nat.lt_of_lt_of_le hk h.size) hr).trans (h.block k hk hr)⟩
theorem zv (bb n c q:Nat) (sc sr:Nat→ByteArray) (tc tr:ByteArray) (x:Nat→Int) (w:World)
  (hb:bb<w.heap.size) (hc0:∀ j,j<n→w.cell? ⟨bb,j*2,none⟩=some (.string (sc j))) (hc1:∀ j,j<n→w.cell? ⟨bb,j*2+1,none⟩=some (.string (sr j))) (base:Nat) (xs:List Value) (ho:w.ownsRow base 43 2 (.slice (some ⟨bb,0,none⟩) n c) n xs) (hbase:base≤w.heap.size) (hq:q=n) (hn:n≤1000)
  (hO:∀ j,j<n→∀ W,Below w.heap.size w W→Calls Tryz.prog 169 #[.string (sr j),.string tr] W fun e W'=>e = .returned (.int .i64 (x j))∧Below W.heap.size W W')
  (hRp:∀ j,j<n→0<x j→∀ W,Below w.heap.size w W→Calls Tryz.prog 170 #[.string (sr j),.string tr] W fun e W'=>e = .returned (.tuple #[.string ⟨#[]⟩,.bool false])∧Below W.heap.size W W')
  (hRn:∀ j,j<n→¬ 0<x j→∀ W,Below w.heap.size w W→Calls Tryz.prog 170 #[.string tr,.string (sr j)] W fun e W'=>e = .returned (.tuple #[.string ⟨#[]⟩,.bool false])∧Below W.heap.size W W')
  :
  Calls Tryz.prog 116 #[.slice (some ⟨bb,0,none⟩) n c,.agg #[.string tc,.string tr]] w fun e W'=>∃ v',e = .returned (.tuple #[v',.int .i64 0])∧W'.ownsRow base 43 2 v' (n+1) (xs ++ [.string tc,.string tr])∧w.grownBy W' (.slice (some ⟨bb,0,none⟩) n c:Value).ownBlock:=by
 have O:=Ha (Hb hO (Hb hRp hRn));clear hO hRp hRn
 subst hq
 obtain ⟨i0,hi,hz0,hz1,hz2⟩:=info_parts fq
 have HI:=Ha (Hb hi (Hb hz0 (Hb hz1 hz2)));clear hi hz0 hz1 hz2
 have HT:=Ha (Hb hb (Hb hc0 (Hb hc1 (Hb ho hbase))))
 clear hb hc0 hc1
 clear ho hbase
 go_enter Tryz.func116,Tryz.ntmps116
 go_wp2
 have HB:=Ha (Hb (Blk.new w #[.string tc,.string tr] 43) ((Below.refl _ w).alloc (Nat.le_refl _) (.cells #[.string tc,.string tr] 43)))
 generalize w.alloc (.cells #[.string tc,.string tr] 43)=W0 at *
 generalize hk:w.heap.size=k at *
 have HK:=Ha hk;clear hk
 go_loopw [16] (fun i wr=>∃ j:Nat,i = .int .i64 j∧j≤q∧Hid (Blk wr k #[.string tc,.string tr]∧Below k w wr)) (fun i _=>q - (intOf i).toNat)
 case atStart=>exact ⟨0,rfl,by omega,HB.out⟩
 case round =>
  clear HB
  obtain ⟨j,rfl,hj,HB⟩:=hrel
  by_cases hlt:j<q
  ·have hz:(j:Int)<q:=by omega
   have d0:=(HB.out.2.cell (p:=⟨bb,j*2,none⟩) HT.out.1).trans (HT.out.2.1 j (by omega))
   have d1:=(HB.out.2.cell (p:=⟨bb,j*2+1,none⟩) HT.out.1).trans (HT.out.2.2.1 j (by omega))
   have hO:=Ha (O.out.1 j (by omega))
   by_cases hx:0<x j
   ·have hR:=Ha (O.out.2.1 j hlt hx)
    generalize x j=xj at *
    generalize hsc:sc j=sc at *
    generalize hsr:sr j=sr at *
    clear hsc hsr
    go_wp2
    replace HB:=Q3.a HB sc sr 43
    clear d0 d1
    generalize wr.alloc (.cells #[.string sc,.string sr] 43)=u at *
    generalize wr.heap.size=m at *
    obtain ⟨e0,e1,f0,f1,⟨kn,mn⟩,⟨k1,k2,m1,m2⟩,g0,g1,i0,i1⟩:=Q3.p HB (.cells #[.string ⟨#[]⟩,.string ⟨#[]⟩] 43)
    go_region
    ·replace HB:=Q3.e HB sc sr tc tr 43
     generalize ((u.alloc (.cells #[.string sc,.string sr] 43)).alloc (.cells #[.string tc,.string tr] 43)).drew=W at *
     generalize u.heap.size=s at *
     clear e0 e1 f0 f1 g0 g1 i0 i1 k1 k2 m1 m2
     obtain ⟨l0,l1,fl0,fl1,h0,h1,fh0,fh1⟩:=Q4.f HB
     go_wp2_with fail
     refine (hO.out _ HB.out.2.2.2).mono ?_
     rintro e W2 ⟨rfl,b⟩
     replace HB:=Q4.n HB b;clear b l0 l1 h0 h1 fl0 fl1 fh0 fh1;obtain ⟨l0,l1,fl0,fl1,h0,h1,fh0,fh1⟩:=Q4.f HB
     go_wp2_with fail
     replace HB:=Q4.s HB (by omega) (by omega) (by omega)
     clear l0 l1 h0 h1 fl0 fl1 fh0 fh1
     generalize (((W2.setCell ⟨s,0,none⟩ (.string tc)).setCell ⟨s,1,none⟩ (.string tr)).setCell ⟨s+1,0,none⟩ (.string sc)).setCell ⟨s+1,1,none⟩ (.string sr)=W3 at *
     obtain ⟨l0,l1,fl0,fl1,h0,h1,fh0,fh1⟩:=Q4.f HB
     refine (hR.out _ HB.out.2.2.2).mono ?_
     rintro e W4 ⟨rfl,b⟩
     replace HB:=Q4.n HB b;clear b l0 l1 h0 h1 fl0 fl1 fh0 fh1;obtain ⟨l0,l1,fl0,fl1,h0,h1,fh0,fh1⟩:=Q4.f HB
     go_wp2
     go_roundw
     case rel=>exact ⟨j+1,by go_num,by omega,HB.out.2.2⟩
     case measure=>simp [intOf];omega
    ·replace HB:=Q4.r (Q3.e HB tc tr sc sr 43)
     generalize ((u.alloc (.cells #[.string tc,.string tr] 43)).alloc (.cells #[.string sc,.string sr] 43)).drew=W at *
     generalize u.heap.size=s at *
     clear e0 e1 f0 f1 g0 g1 i0 i1 k1 k2 m1 m2
     obtain ⟨l0,l1,fl0,fl1,h0,h1,fh0,fh1⟩:=Q4.f HB
     go_wp2_with fail
     refine (hO.out _ HB.out.2.2.2).mono ?_
     rintro e W2 ⟨rfl,b⟩
     replace HB:=Q4.n HB b;clear b l0 l1 h0 h1 fl0 fl1 fh0 fh1;obtain ⟨l0,l1,fl0,fl1,h0,h1,fh0,fh1⟩:=Q4.f HB
     go_wp2_with fail
     replace HB:=Q4.s HB (by omega) (by omega) (by omega)
     clear l0 l1 h0 h1 fl0 fl1 fh0 fh1
     generalize (((W2.setCell ⟨s+1,0,none⟩ (.string tc)).setCell ⟨s+1,1,none⟩ (.string tr)).setCell ⟨s,0,none⟩ (.string sc)).setCell ⟨s,1,none⟩ (.string sr)=W3 at *
     obtain ⟨l0,l1,fl0,fl1,h0,h1,fh0,fh1⟩:=Q4.f HB
     refine (hR.out _ HB.out.2.2.2).mono ?_
     rintro e W4 ⟨rfl,b⟩
     replace HB:=Q4.n HB b;clear b l0 l1 h0 h1 fl0 fl1 fh0 fh1;obtain ⟨l0,l1,fl0,fl1,h0,h1,fh0,fh1⟩:=Q4.f HB
     go_wp2
     go_roundw
     case rel=>exact ⟨j+1,by go_num,by omega,HB.out.2.2⟩
     case measure=>simp [intOf];omega
   ·have hR:=Ha (O.out.2.2 j hlt (by omega))
    generalize x j=xj at *
    generalize hsc:sc j=sc at *
    generalize hsr:sr j=sr at *
    clear hsc hsr
    go_wp2
    replace HB:=Q3.a HB sc sr 43
    clear d0 d1
    generalize wr.alloc (.cells #[.string sc,.string sr] 43)=u at *
    generalize wr.heap.size=m at *
    obtain ⟨e0,e1,f0,f1,⟨kn,mn⟩,⟨k1,k2,m1,m2⟩,g0,g1,i0,i1⟩:=Q3.p HB (.cells #[.string ⟨#[]⟩,.string ⟨#[]⟩] 43)
    go_region
    ·replace HB:=Q3.e HB sc sr tc tr 43
     generalize ((u.alloc (.cells #[.string sc,.string sr] 43)).alloc (.cells #[.string tc,.string tr] 43)).drew=W at *
     generalize u.heap.size=s at *
     clear e0 e1 f0 f1 g0 g1 i0 i1 k1 k2 m1 m2
     obtain ⟨l0,l1,fl0,fl1,h0,h1,fh0,fh1⟩:=Q4.f HB
     go_wp2_with fail
     refine (hO.out _ HB.out.2.2.2).mono ?_
     rintro e W2 ⟨rfl,b⟩
     replace HB:=Q4.n HB b;clear b l0 l1 h0 h1 fl0 fl1 fh0 fh1;obtain ⟨l0,l1,fl0,fl1,h0,h1,fh0,fh1⟩:=Q4.f HB
     go_wp2_with fail
     refine (hR.out _ HB.out.2.2.2).mono ?_
     rintro e W4 ⟨rfl,b⟩
     replace HB:=Q4.n HB b;clear b l0 l1 h0 h1 fl0 fl1 fh0 fh1;obtain ⟨l0,l1,fl0,fl1,h0,h1,fh0,fh1⟩:=Q4.f HB
     go_wp2
     go_roundw
     case rel=>exact ⟨j+1,by go_num,by omega,HB.out.2.2⟩
     case measure=>simp [intOf];omega
    ·replace HB:=Q4.r (Q3.e HB tc tr sc sr 43)
     generalize ((u.alloc (.cells #[.string tc,.string tr] 43)).alloc (.cells #[.string sc,.string sr] 43)).drew=W at *
     generalize u.heap.size=s at *
     clear e0 e1 f0 f1 g0 g1 i0 i1 k1 k2 m1 m2
     obtain ⟨l0,l1,fl0,fl1,h0,h1,fh0,fh1⟩:=Q4.f HB
     go_wp2_with fail
     refine (hO.out _ HB.out.2.2.2).mono ?_
     rintro e W2 ⟨rfl,b⟩
     replace HB:=Q4.n HB b;clear b l0 l1 h0 h1 fl0 fl1 fh0 fh1;obtain ⟨l0,l1,fl0,fl1,h0,h1,fh0,fh1⟩:=Q4.f HB
     go_wp2_with fail
     refine (hR.out _ HB.out.2.2.2).mono ?_
     rintro e W4 ⟨rfl,b⟩
     replace HB:=Q4.n HB b;clear b l0 l1 h0 h1 fl0 fl1 fh0 fh1;obtain ⟨l0,l1,fl0,fl1,h0,h1,fh0,fh1⟩:=Q4.f HB
     go_wp2
     go_roundw
     case rel=>exact ⟨j+1,by go_num,by omega,HB.out.2.2⟩
     case measure=>simp [intOf];omega
  ·obtain rfl:j=q:=by omega
   have hz:¬ (j:Int)<j:=by omega
   clear O
   have e0:=HB.out.1.cell 0 (.string tc) rfl
   have e1:=HB.out.1.cell 1 (.string tr) rfl
   have HW:=Ha (py HT.out.2.2.2.1 (by have h:=HB.out.2;rw [←HK.out] at h;exact h))
   have hbs:base≤wr.heap.size+1:=by have h1:=HB.out.2.size;have h2:=HT.out.2.2.2.2;have h3:=HK.out;omega
   go_wp2_with (at_builtin;refine wpList_append_own _ rfl _ _ 44 rfl base 43 i0 (.agg #[.string ⟨#[]⟩,.string ⟨#[]⟩]) 2 32 Tryz.underlying44 HI.out.1 HI.out.2.1 HI.out.2.2.1 HI.out.2.2.2 rfl (by decide) _ _ _ rfl (HW.out.alloc _) ⟨wr.heap.size,0,none⟩ 1 1 [.string tc,.string tr] rfl rfl (cell_two_new _ _ _ _) (by simp [Value.oneCell']) (by unfold maxLen;omega) (by omega) (by simp;omega) ?_;intro v' w3 hown' hgrow _)
   go_ret2
   have hbl:=HB.out.2
   rw [←HK.out] at hbl
   exact ⟨v',rfl,hown',m9 (m6 (hbl.alloc hbl.size _) _) hgrow⟩
theorem Bo (tc tr:ByteArray) (w:World) (base:Nat) (hbase:base≤w.heap.size) :
  Calls Tryz.prog 116 #[.slice none 0 0,.agg #[.string tc,.string tr]] w fun e W'=>∃ v',e = .returned (.tuple #[v',.int .i64 0])∧W'.ownsRow base 43 2 v' 1 ([.string tc,.string tr])∧w.grownBy W' (.slice none 0 0:Value).ownBlock:=by
 obtain ⟨i0,hi,hz0,hz1,hz2⟩:=info_parts fq
 have HI:=Ha (Hb hi (Hb hz0 (Hb hz1 hz2)));clear hi hz0 hz1 hz2
 have HT:=Ha (Hb (World.ownsRow_nil w base 43 2) hbase);clear hbase
 go_enter Tryz.func116,Tryz.ntmps116
 go_wp2
 have HB:=Ha (Hb (Blk.new w #[.string tc,.string tr] 43) ((Below.refl _ w).alloc (Nat.le_refl _) (.cells #[.string tc,.string tr] 43)))
 generalize w.alloc (.cells #[.string tc,.string tr] 43)=W0 at *
 generalize hk:w.heap.size=k at *
 have HK:=Ha hk;clear hk
 go_loopw [16] (fun i wr=>i = .int .i64 0∧Hid (Blk wr k #[.string tc,.string tr]∧Below k w wr)) (fun i _=>0)
 case atStart=>exact ⟨rfl,HB.out⟩
 case round =>
  clear HB
  obtain ⟨rfl,HB⟩:=hrel
  have e0:=HB.out.1.cell 0 (.string tc) rfl
  have e1:=HB.out.1.cell 1 (.string tr) rfl
  have HW:=Ha (py HT.out.1 (by have h:=HB.out.2;rw [←HK.out] at h;exact h))
  have hbs:base≤wr.heap.size+1:=by have h1:=HB.out.2.size;have h2:=HT.out.2;have h3:=HK.out;omega
  go_wp2_with (at_builtin;refine wpList_append_own _ rfl _ _ 44 rfl base 43 i0 (.agg #[.string ⟨#[]⟩,.string ⟨#[]⟩]) 2 32 Tryz.underlying44 HI.out.1 HI.out.2.1 HI.out.2.2.1 HI.out.2.2.2 rfl (by decide) _ _ _ rfl (HW.out.alloc _) ⟨wr.heap.size,0,none⟩ 1 1 [.string tc,.string tr] rfl rfl (cell_two_new _ _ _ _) (by simp [Value.oneCell']) (by unfold maxLen;omega) (by omega) (by simp;omega) ?_;intro v' w3 hown' hgrow _)
  go_ret2
  have hbl:=HB.out.2
  rw [←HK.out] at hbl
  exact ⟨v',rfl,hown',m9 (m6 (hbl.alloc hbl.size _) _) hgrow⟩
end Go.Proofs.YtbhbhlfkdlfimaaGreatDoor.T
namespace Go.Proofs.YtbhbhlfkdlfimaaGreatDoor.T
open Go.Proofs.YtbhbhlfkdlfimaaGreatDoor Go Go.RowKit
theorem x8 {t:Tm}:∀ {l:List Tm} {q:Nat},q<l.length→(∀ j,j<q→¬ fL (tat l j) t)→fL (tat l q) t→ins l t=l.set q (iG (tat l q) t)
 | [],_,h,_,_=>by simp at h
 | s::l,0,_,_,h=>by
  have h':fL s t:=h
  unfold ins;rw [if_pos h'];rfl
 | s::l,q+1,hq,hn,h=>by
  have h0:¬ fL s t:=hn 0 (by omega)
  unfold ins;rw [if_neg h0,List.set_cons_succ]
  exact congrArg (s :: ·) (x8 (by simpa using hq) (fun j hj=>hn (j+1) (by omega)) h)
theorem pz {t:Tm}:∀ {l:List Tm},(∀ j,j<l.length→¬ fL (tat l j) t)→ins l t=l ++ [t]
 | [],_=>rfl
 | s::l,hn=>by
  have h0:¬ fL s t:=hn 0 (by simp)
  unfold ins;rw [if_neg h0,List.cons_append]
  exact congrArg (s :: ·) (pz fun j hj=>hn (j+1) (by simpa using hj))
theorem zw (l:List Tm) (t:Tm):(∀ j,j<l.length→¬ fL (tat l j) t)∨∃ q,q<l.length∧(∀ j,j<q→¬ fL (tat l j) t)∧fL (tat l q) t:=by
 have key:∀ n,n≤l.length→(∀ j,j<n→¬ fL (tat l j) t)∨∃ q,q<l.length∧(∀ j,j<q→¬ fL (tat l j) t)∧fL (tat l q) t:=by
  intro n
  induction n with
  | zero=>exact fun _ => .inl fun j hj=>by omega
  | succ n ih =>
   intro hn
   rcases ih (by omega) with h | h
   ·by_cases k:fL (tat l n) t
    ·exact .inr ⟨n,by omega,h,k⟩
    ·refine .inl fun j hj => ?_
     by_cases e:j=n
     ·rw [e];exact k
     ·exact h j (by omega)
   ·exact .inr h
 exact key l.length (Nat.le_refl _)
theorem yc:∀ (l:List Tm) (q:Nat) (x:Tm),q<l.length→((tcs l).set (q*2) (.string (af x.1))).set (q*2+1) (.string (af x.2))=tcs (l.set q x)
 | [],_,_,h=>by simp at h
 | t::l,0,x,_=>rfl
 | t::l,q+1,x,h=>by
  have ih:=yc l q x (by simpa using h)
  rw [dp,List.set_cons_succ,dp,show (q+1)*2=q*2+1+1 by omega]
  show Value.string (af t.1)::Value.string (af t.2)::((tcs l).set (q*2) (.string (af x.1))).set (q*2+1) (.string (af x.2))=_
  rw [ih]
theorem heap_set {W:World} {k:Nat} {vs:Array Value} {t:TypeId} (h:W.heap[k]? = some (.cells vs t (0,0))) (j:Nat) (u:Value):(W.setCell ⟨k,j,none⟩ u).heap[k]? = some (.cells (vs.setIfInBounds j u) t (0,0)):=by
 have hlt:=lt_of_block h
 have h':W.heap[k] = .cells vs t (0,0):=by simpa [Array.getElem?_eq_getElem hlt] using h
 show (W.heap.modify k _)[k]? = _
 rw [Array.getElem?_eq_getElem (by simpa using hlt),Array.getElem_modify_self,h']
 rfl
theorem Ow.set {W:World} {base bb n c:Nat} {T:TypeId} {l:List Tm} (h:Ow W base T (.slice (some ⟨bb,0,none⟩) n c) l) (q:Nat) (hq:q<l.length) (x:Tm) :
  Ow ((W.setCell ⟨bb,q*2,none⟩ (.string (af x.1))).setCell ⟨bb,q*2+1,none⟩ (.string (af x.2))) base T (.slice (some ⟨bb,0,none⟩) n c) (l.set q x):=by
 refine ⟨by rw [fz],?_⟩
 rw [List.length_set]
 rcases h.2 with ⟨e,_⟩ | ⟨g,cap,cur,e,hb,hg,h1,h2,h3,h4⟩
 ·cases e
 ·cases e
  refine .inr ⟨bb,c,_,rfl,hb,heap_set (heap_set hg _ _) _ _,h1,h2,by simp [h3],?_⟩
  rw [←yc l q x hq,←h4]
  simp only [Array.toList_setIfInBounds,List.take_set]
theorem Ow.frozen {W:World} {base bb n c:Nat} {T:TypeId} {l:List Tm} (h:Ow W base T (.slice (some ⟨bb,0,none⟩) n c) l) (i:Nat):W.frozen? ⟨bb,i,none⟩=false:=by
 rcases h.2 with ⟨e,_⟩ | ⟨g,cap,cur,e,hb,hg,_⟩
 ·cases e
 ·cases e
  exact Blk.free ⟨T,hg⟩ i
def NT (t:Tm):Prop:=Bq 100 t.1∧∃ b:Nat,t.2=(b:Rat)∧Nrm b∧b<ak 20
theorem ui {a b k:Nat} (hb:0<b) (la:a<ak k) (lb:b<ak k) (h:bG ((a:Rat) / (b:Rat))):Bq k (bf ((a:Rat) / (b:Rat))):=by
 have b0:=cz hb
 have z0:(0:Rat)≤(a:Rat) / (b:Rat):=kw (aP a) b0
 have hz:J b a ((a:Rat) / (b:Rat)):=⟨a,by rw [Rat.intCast_natCast];exact Rat.div_mul_cancel (by grind),by simp⟩
 have p:=hz.parts hb
 generalize (a:Rat) / (b:Rat)=z at *
 have q:am z.den≠0:=fun e=>by have:=h.2;rw [e] at this;have:=z.den_pos;omega
 have e:bf z=Rat.divInt (am z.num.natAbs:Nat) ((am z.den:Nat):Int):=rfl
 rw [e]
 refine Bq.of_int (by omega) ?_ ?_
 ·show Int.natAbs _<_;rw [Int.natAbs_natCast];exact Nat.lt_of_le_of_lt (Nat.le_trans (nP _) p.1) la
 ·show Int.natAbs _<_;rw [Int.natAbs_natCast];exact Nat.lt_of_le_of_lt (Nat.le_trans (nP _) p.2) lb
theorem DI (l:List Tm) (t:Tm) (v:Value) (base:Nat) (w:World) (ho:Ow w base 43 v l) (hbase:base≤w.heap.size) (hl:l.length≤1000)
  (hN:∀ s∈l,NT s) (tN:NT t) (ht:Tab w) (ht2:aH w) :
  Calls Tryz.prog 116 #[v,.agg #[.string (af t.1),.string (af t.2)]] w fun e W'=>∃ v',e = .returned (.tuple #[v',.int .i64 0])∧Ow W' base 43 v' (ins l t)∧w.grownBy W' v.ownBlock:=by
 rcases ho.2 with ⟨rfl,hn⟩ | ⟨bb,c,cur,rfl,hb,hg,hc,_⟩
 ·have e:l = []:=List.eq_nil_of_length_eq_zero hn
  subst e
  exact (Bo (af t.1) (af t.2) w base hbase).mono fun e W' ⟨v',e1,e2,e3⟩=>⟨v',e1,e2,e3⟩
 have own:=ho
 obtain ⟨tb,a,ea,na,la⟩:=tN
 have lt:bb<w.heap.size:=lt_of_block hg
 have hcl:=World.ownsRow.cells (show w.ownsRow base 43 2 (.slice (some ⟨bb,0,none⟩) l.length c) l.length (tcs l) from ho) (g:=bb) rfl
 have ha:∀ j,(⟨bb,0,none⟩:Addr).add j=⟨bb,j,none⟩:=fun j=>by unfold Addr.add;split <;> simp_all
 have hc0:∀ j,j<l.length→w.cell? ⟨bb,j*2,none⟩=some (.string (af (tat l j).1)):=fun j hj=>by rw [←ha,Nat.mul_comm];exact hcl _ _ (fT l j hj).1
 have hc1:∀ j,j<l.length→w.cell? ⟨bb,j*2+1,none⟩=some (.string (af (tat l j).2)):=fun j hj=>by rw [←ha,Nat.mul_comm];exact hcl _ _ (fT l j hj).2
 have nt:∀ j,j<l.length→∃ b:Nat,(tat l j).2=(b:Rat)∧Nrm b∧b<ak 20∧Bq 100 (tat l j).1:=fun j hj=>by
  obtain ⟨h1,b,e,h2,h3⟩:=hN _ (bV hj);exact ⟨b,e,h2,h3,h1⟩
 have up:∀ {x:Nat},x<ak 20→x<ak 90:=fun h=>Nat.lt_of_lt_of_le h (aG (by decide))
 have ord:∀ j,j<l.length→∀ W,Below w.heap.size w W→Calls Tryz.prog 169 #[.string (af (tat l j).2),.string (af t.2)] W fun e W'=>e = .returned (.int .i64 (dn (tat l j).2 t.2))∧Below W.heap.size W W':=fun j hj W _=>by
  obtain ⟨b,eb,_,lb,_⟩:=nt j hj
  rw [eb,ea,dR,dR]
  have c1:=AQ b a W (aV (by decide) lb) (aV (by decide) la)
  have e1:dn ((b:Nat):Rat) ((a:Nat):Rat)=bF (b:Int) (a:Int):=by
   unfold dn;rw [Rat.num_natCast,Rat.num_natCast,Rat.den_natCast,Rat.den_natCast,Int.natCast_one,Int.mul_one,Int.mul_one]
  rwa [e1]
 have gt:∀ j,0<dn (tat l j).2 t.2↔t.2<(tat l j).2:=fun j=>by
  rcases kh (tat l j).2 t.2 with h | h | h
  ·rw [eO h];exact ⟨fun k=>by omega,fun k=>by grind⟩
  ·rw [h,dJ];exact ⟨fun k=>by omega,fun k=>by grind⟩
  ·rw [eU h];exact ⟨fun _=>h,fun _=>by decide⟩
 have lh:∀ j,(0<dn (tat l j).2 t.2→jZ (tat l j) t=t∧kv (tat l j) t=tat l j)∧(¬ 0<dn (tat l j).2 t.2→jZ (tat l j) t=tat l j∧kv (tat l j) t=t):=fun j=>by
  rw [gt j];unfold jZ kv
  exact ⟨fun h=>⟨if_pos h,if_pos h⟩,fun h=>⟨if_neg h,if_neg h⟩⟩
 have nop:∀ j,j<l.length→¬ fL (tat l j) t→0<dn (tat l j).2 t.2→∀ W,Below w.heap.size w W→Calls Tryz.prog 170 #[.string (af (tat l j).2),.string (af t.2)] W fun e W'=>e = .returned (.tuple #[.string ⟨#[]⟩,.bool false])∧Below W.heap.size W W':=fun j hj hr hx W hw=>by
  obtain ⟨b,eb,nb,lb,_⟩:=nt j hj
  obtain ⟨l1,l2⟩:=(lh j).1 hx
  unfold fL at hr;rw [l1,l2,eb,ea] at hr
  rw [eb,ea]
  exact pw b a W nb na (up lb) (up la) hr (ht.next hw) (ae ht2 hw)
 have non:∀ j,j<l.length→¬ fL (tat l j) t→¬ 0<dn (tat l j).2 t.2→∀ W,Below w.heap.size w W→Calls Tryz.prog 170 #[.string (af t.2),.string (af (tat l j).2)] W fun e W'=>e = .returned (.tuple #[.string ⟨#[]⟩,.bool false])∧Below W.heap.size W W':=fun j hj hr hx W hw=>by
  obtain ⟨b,eb,nb,lb,_⟩:=nt j hj
  obtain ⟨l1,l2⟩:=(lh j).2 hx
  unfold fL at hr;rw [l1,l2,eb,ea] at hr
  rw [eb,ea]
  exact pw a b W na nb (up la) (up lb) hr (ht.next hw) (ae ht2 hw)
 rcases zw l t with hm | ⟨q,hq,hm,hr⟩
 ·rw [pz hm]
  refine (zv bb l.length c l.length (fun j=>af (tat l j).1) (fun j=>af (tat l j).2) (af t.1) (af t.2) (fun j=>dn (tat l j).2 t.2) w lt hc0 hc1 base (tcs l) own hbase rfl hl
   ord (fun j hj hx=>nop j hj (hm j hj) hx) (fun j hj hx=>non j hj (hm j hj) hx)).mono fun e W' ⟨v',e1,e2,e3⟩=>⟨v',e1,?_,e3⟩
  unfold Ow
  rw [oT,List.length_append]
  exact e2
 ·rw [x8 hq hm hr]
  obtain ⟨b,eb,nb,lb,cb⟩:=nt q hq
  have fin:∀ W1,Below w.heap.size w W1→Ow ((W1.setCell ⟨bb,q*2,none⟩ (.string (af (iG (tat l q) t).1))).setCell ⟨bb,q*2+1,none⟩ (.string (af (iG (tat l q) t).2))) base 43 (.slice (some ⟨bb,0,none⟩) l.length c) (l.set q (iG (tat l q) t)) ∧
    w.grownBy ((W1.setCell ⟨bb,q*2,none⟩ (.string (af (iG (tat l q) t).1))).setCell ⟨bb,q*2+1,none⟩ (.string (af (iG (tat l q) t).2))) (some bb):=fun W1 hw=>by
   refine ⟨Ow.set (own.next hw) q hq _,?_⟩
   refine ⟨hw.os,hw.tape,hw.output,?_,fun k hk hne => ?_⟩
   ·have h1:∀ (V:World) (p:Addr) (u:Value),(V.setCell p u).heap.size=V.heap.size:=fun V p u=>by simp [World.setCell]
    rw [h1,h1];exact hw.size
   ·have ne:k≠bb:=fun e=>hne (by rw [e])
    rw [Below.heap_setCell _ _ _ _ ne,Below.heap_setCell _ _ _ _ ne];exact hw.block k hk
  by_cases hx:0<dn (tat l q).2 t.2
  ·obtain ⟨l1,l2⟩:=(lh q).1 hx
   have hr':=hr
   unfold fL at hr';rw [l1,l2,eb,ea] at hr'
   have rb:=ui na.1 lb la hr'
   have m1:=a8 cb rb (by decide)
   have a1:=cH tb m1.2.2 (by decide)
   have ec:iG (tat l q) t=(t.1+(tat l q).1*bf ((b:Rat) / (a:Rat)),t.2):=by
    unfold iG;rw [l1,l2,eb,ea]
   rw [ec] at fin ⊢
   refine (ws bb l.length c q (fun j=>af (tat l j).1) (fun j=>af (tat l j).2) (af t.1) (af t.2) (fun j=>dn (tat l j).2 t.2) w lt hc0 hc1 (own.frozen) hq hl
    (af (bf ((b:Rat) / (a:Rat)))) (af ((tat l q).1*bf ((b:Rat) / (a:Rat)))) (af (t.1+(tat l q).1*bf ((b:Rat) / (a:Rat)))) (af t.2) rfl hx
    ord (fun j hj hx=>nop j (by omega) (hm j hj) hx) (fun j hj hx=>non j (by omega) (hm j hj) hx)
    (fun W hw=>by rw [eb,ea];exact q9 b a W nb na (up lb) (up la) hr' (ht.next hw) (ae ht2 hw))
    (fun W hw=>by
     have c1:=gz (tat l q).1 (bf ((b:Rat) / (a:Rat))) W (cb.lim (by decide)) (rb.lim (by decide)) (ht.next hw) (ae ht2 hw)
     rwa [m1.1,m1.2.1] at c1)
    (fun W hw=>by
     have c1:=j5 t.1 ((tat l q).1*bf ((b:Rat) / (a:Rat))) W (tb.lim (by decide)) (m1.2.2.lim (by decide)) (ht.next hw) (ae ht2 hw)
     rwa [a1.1,a1.2.1] at c1)).mono fun e W' ⟨e1,W1,hw,e2⟩=>⟨_,e1,?_,?_⟩
   ·rw [e2];exact (fin W1 hw).1
   ·rw [e2];exact (fin W1 hw).2
  ·obtain ⟨l1,l2⟩:=(lh q).2 hx
   have hr':=hr
   unfold fL at hr';rw [l1,l2,eb,ea] at hr'
   have rb:=ui nb.1 la lb hr'
   have m1:=a8 tb rb (by decide)
   have a1:=cH cb m1.2.2 (by decide)
   have ec:iG (tat l q) t=((tat l q).1+t.1*bf ((a:Rat) / (b:Rat)),(tat l q).2):=by
    unfold iG;rw [l1,l2,eb,ea]
   rw [ec] at fin ⊢
   refine (wq bb l.length c q (fun j=>af (tat l j).1) (fun j=>af (tat l j).2) (af t.1) (af t.2) (fun j=>dn (tat l j).2 t.2) w lt hc0 hc1 (own.frozen) hq hl
    (af (bf ((a:Rat) / (b:Rat)))) (af (t.1*bf ((a:Rat) / (b:Rat)))) (af ((tat l q).1+t.1*bf ((a:Rat) / (b:Rat)))) (af (tat l q).2) rfl hx
    ord (fun j hj hx=>nop j (by omega) (hm j hj) hx) (fun j hj hx=>non j (by omega) (hm j hj) hx)
    (fun W hw=>by rw [eb,ea];exact q9 a b W na nb (up la) (up lb) hr' (ht.next hw) (ae ht2 hw))
    (fun W hw=>by
     have c1:=gz t.1 (bf ((a:Rat) / (b:Rat))) W (tb.lim (by decide)) (rb.lim (by decide)) (ht.next hw) (ae ht2 hw)
     rwa [m1.1,m1.2.1] at c1)
    (fun W hw=>by
     have c1:=j5 (tat l q).1 (t.1*bf ((a:Rat) / (b:Rat))) W (cb.lim (by decide)) (m1.2.2.lim (by decide)) (ht.next hw) (ae ht2 hw)
     rwa [a1.1,a1.2.1] at c1)).mono fun e W' ⟨e1,W1,hw,e2⟩=>⟨_,e1,?_,?_⟩
   ·rw [e2];exact (fin W1 hw).1
   ·rw [e2];exact (fin W1 hw).2
end Go.Proofs.YtbhbhlfkdlfimaaGreatDoor.T
namespace Go.Proofs.YtbhbhlfkdlfimaaGreatDoor.T
open Go.Proofs.YtbhbhlfkdlfimaaGreatDoor Go Go.RowKit
def St (B:Nat) (l:List Tm) (W:World):Prop:=∃ v,Blk W B #[v]∧Ow W (B+1) 43 v l
theorem St.next {B:Nat} {l:List Tm} {W W':World} (h:St B l W) (g:Below W.heap.size W W'):St B l W':=by
 obtain ⟨v,h1,h2⟩:=h;exact ⟨v,h1.next g,h2.next g⟩
theorem Ow.apart {W:World} {B:Nat} {T:TypeId} {v:Value} {l:List Tm} (h:Ow W (B+1) T v l):v.ownBlock≠some B:=by
 rcases h.2 with ⟨rfl,_⟩ | ⟨g,cap,cur,rfl,hb,_⟩
 ·simp [Value.ownBlock]
 ·simp [Value.ownBlock];omega
theorem Ow.low {W W':World} {B:Nat} {T:TypeId} {v:Value} {l:List Tm} (h:Ow W (B+1) T v l) (g:W.grownBy W' v.ownBlock) (hB:B<W.heap.size):Below B W W' :=
 ⟨g.os,g.tape,g.output,g.size,fun k hk=>g.block k (by omega) (by
  rcases h.2 with ⟨rfl,_⟩ | ⟨b,cap,cur,rfl,hb,_⟩
  ·simp [Value.ownBlock]
  ·simp [Value.ownBlock];omega)⟩
theorem rc {W W':World} {B:Nat} {vs:Array Value} {r:Option Nat} (h:Blk W B vs) (g:W.grownBy W' r) (hr:r≠some B):Blk W' B vs:=by
 have hl:=h.lt
 obtain ⟨t,e⟩:=h
 exact ⟨t,(g.block B hl (fun k=>hr k.symm)).trans e⟩
theorem sL (B n c:Nat) (p:Option Addr) (tc tr:ByteArray) (w:World) (Q:Value→World→Prop) (hb:Blk w B #[.slice p n c])
  (h1:Calls Tryz.prog 116 #[.slice p n c,.agg #[.string tc,.string tr]] (w.alloc (.cells #[.string tc,.string tr] 43)) fun e W'=>∃ p' n' c',e = .returned (.tuple #[.slice p' n' c',.int .i64 0])∧Blk W' B #[.slice p n c]∧Q (.slice p' n' c') (W'.setCell ⟨B,0,none⟩ (.slice p' n' c'))) :
  Calls Tryz.prog 115 #[.agg #[.string tc,.string tr],.pointer (some ⟨B,0,none⟩)] w fun e W'=>e = .returned (.int .i64 0)∧∃ v,Q v W':=by
 have O:=Ha h1;clear h1
 have e0:=(show World.cell? _ ⟨B,0,none⟩=some (.slice p n c) from (hb.alloc (.cells #[.string tc,.string tr] 43)).cell 0 _ rfl)
 clear hb
 go_enter Tryz.func115,Tryz.ntmps115
 go_wp2_with fail
 refine O.out.mono ?_
 rintro e w1 ⟨p',n',c',rfl,hb,hQ⟩
 have HQ:=Ha hQ;clear hQ
 have e0:=hb.cell 0 (.slice p n c) rfl
 have f0:=hb.free 0
 clear hb
 go_wp2
 go_ret
 exact ⟨rfl,_,HQ.out⟩
theorem wt (B:Nat) (l:List Tm) (t:Tm) (w:World) (hs:St B l w) (hl:l.length≤1000) (hN:∀ s∈l,NT s) (tN:NT t) (ht:Tab w) (ht2:aH w) :
  Calls Tryz.prog 115 #[.agg #[.string (af t.1),.string (af t.2)],.pointer (some ⟨B,0,none⟩)] w fun e W'=>e = .returned (.int .i64 0)∧St B (ins l t) W'∧Below B w W':=by
 obtain ⟨v,hb,ho⟩:=hs
 have hB:=hb.lt
 have b1:Below w.heap.size w (w.alloc (.cells #[.string (af t.1),.string (af t.2)] 43)):=(Below.refl _ w).alloc (Nat.le_refl _) _
 have ho1:=ho.next b1
 obtain ⟨p,c,rfl,_,_⟩:=ho.rd
 refine (sL B l.length c p _ _ w (fun v' W'=>St B (ins l t) W'∧Below B w W') hb ?_).mono fun e W' ⟨e1,_,e2⟩=>⟨e1,e2⟩
 refine (DI l t _ (B+1) _ ho1 (by simp;omega) hl hN tN (ht.next b1) (ae ht2 b1)).mono fun e W' ⟨v',e1,e2,e3⟩ => ?_
 obtain ⟨p',c',rfl,_,_⟩:=e2.rd
 have hb1:=hb.alloc (.cells #[.string (af t.1),.string (af t.2)] 43)
 have hb2:=rc hb1 e3 ho1.apart
 refine ⟨p',(ins l t).length,c',e1,hb2,⟨_,hb2.put1 _,?_⟩,?_⟩
 ·exact ownsRow_setCell_other e2 (by have:=e2.apart;exact this) _
 ·exact (((b1.mono (by omega)).trans (ho1.low e3 (by simp;omega))).setCell (p:=⟨B,0,none⟩) (Nat.le_refl _) _)
end Go.Proofs.YtbhbhlfkdlfimaaGreatDoor.T
namespace Go.Proofs.YtbhbhlfkdlfimaaGreatDoor.T
open Go.Proofs.YtbhbhlfkdlfimaaGreatDoor Go Go.RowKit
noncomputable def lB (t:Tm):Tm:=(t.1*nC t.2,((nN t.2:Nat):Rat))
noncomputable def stp (l:List Tm) (t:Tm):List Tm:=if t.1=0∨t.2=0 then l else ins l (lB t)
noncomputable def gth (g:List Tm):List Tm:=g.foldl stp []
theorem uj {g:List Tm} {j:Nat} (h:j<g.length):gth (g.take (j+1))=stp (gth (g.take j)) (tat g j):=by
 unfold gth
 rw [List.take_succ_eq_append_getElem h,List.foldl_append,dV h];rfl
theorem wu (b n c B:Nat) (cs rs nc nr:Nat→ByteArray) (zc zr:Nat→Bool) (w:World) (I:Nat→World→Prop) (h1000:n≤1000)
  (hzc:∀ j,j<n→((cs j).toList == [48])=zc j) (hzr:∀ j,j<n→((rs j).toList == [48])=zr j)
  (hI0:I 0 w) (hIn:∀ j W W',I j W→Below W.heap.size W W'→I j W')
  (hc:∀ j,j<n→∀ W,I j W→W.cell? ⟨b,j*2,none⟩=some (.string (cs j))∧W.cell? ⟨b,j*2+1,none⟩=some (.string (rs j)))
  (hs:∀ j,j<n→(zc j || zr j)=true→∀ W,I j W→I (j+1) W)
  (hm:∀ j,j<n→(zc j || zr j)=false→∀ W,I j W→Calls Tryz.prog 168 #[.agg #[.string (cs j),.string (rs j)]] W fun e W'=>e = .returned (.tuple #[.agg #[.string (nc j),.string (nr j)],.int .i64 0])∧Below W.heap.size W W')
  (hv:∀ j,j<n→(zc j || zr j)=false→∀ W,I j W→Calls Tryz.prog 115 #[.agg #[.string (nc j),.string (nr j)],.pointer (some ⟨B,0,none⟩)] W fun e W'=>e = .returned (.int .i64 0)∧I (j+1) W') :
  Calls Tryz.prog 114 #[.slice (some ⟨b,0,none⟩) n c,.func (.func 115) #[] #[.pointer (some ⟨B,0,none⟩)]] w fun e W'=>e = .returned (.int .i64 0)∧I n W':=by
 have eg:∀ args W,(callFunc 115 args).run Tryz.prog W = .ok (.enter 115 args) W:=enters_of Tryz.func115 (by kernel_rfl) rfl
 have O:=Ha (Hb hzc (Hb hzr (Hb hI0 (Hb hIn (Hb hc (Hb hs (Hb hm hv)))))));clear hzc hzr hI0 hIn hc hs hm hv
 go_enter Tryz.func114,Tryz.ntmps114
 go_wp2
 go_loopw [12] (fun i wr=>∃ j:Nat,i = .int .i64 j∧j≤n∧Hid (I j wr)) (fun i _=>n - (intOf i).toNat)
 case atStart=>exact ⟨0,rfl,by omega,O.out.2.2.1⟩
 case round =>
  obtain ⟨j,rfl,hj,HI⟩:=hrel
  by_cases hlt:j<n
  ·have hz:(j:Int)<n:=by omega
   obtain ⟨d0,d1⟩:=O.out.2.2.2.2.1 j hlt _ HI.out
   have HN:=Ha (O.out.2.2.2.1 j _ _ HI.out ((Below.refl _ wr).alloc (Nat.le_refl _) (.cells #[.string (cs j),.string (rs j)] 43)))
   have zc1:=O.out.1 j hlt
   have zr1:=O.out.2.1 j hlt
   have hs:=Ha (O.out.2.2.2.2.2.1 j hlt)
   have hm:=Ha (O.out.2.2.2.2.2.2.1 j hlt)
   have hv:=Ha (O.out.2.2.2.2.2.2.2 j hlt)
   have hIn:=Ha (O.out.2.2.2.1)
   clear O HI
   generalize zc j=x at *
   generalize zr j=y at *
   generalize cs j=cj at *
   generalize rs j=rj at *
   generalize nc j=ncj at *
   generalize nr j=nrj at *
   cases x
   ·cases y
    ·go_wp2_with fail
     have hk:=Blk.new wr #[.string cj,.string rj] 43
     generalize wr.alloc (.cells #[.string cj,.string rj] 43)=u at *
     generalize wr.heap.size=k at *
     clear d0 d1
     have e0:=hk.cell 0 (.string cj) rfl
     have e1:=hk.cell 1 (.string rj) rfl
     have HK:=Ha hk;clear hk
     go_wp2_with fail
     refine (hm.out rfl _ HN.out).mono ?_
     rintro e w2 ⟨rfl,bb⟩
     have HN2:=Ha (hIn.out j _ _ HN.out bb)
     clear HN bb e0 e1 HK
     go_wp2_with fail
     have HN3:=Ha (hIn.out j _ _ HN2.out ((Below.refl _ w2).alloc (Nat.le_refl _) (.cells #[.string ncj,.string nrj] 43)))
     have hk:=Blk.new w2 #[.string ncj,.string nrj] 43
     generalize w2.alloc (.cells #[.string ncj,.string nrj] 43)=u2 at *
     generalize w2.heap.size=k2 at *
     have e0:=hk.cell 0 (.string ncj) rfl
     have e1:=hk.cell 1 (.string nrj) rfl
     clear hk
     go_wp2_with fail
     refine (hv.out rfl _ HN3.out).mono ?_
     rintro e w3 ⟨rfl,hi⟩
     have HI:=Ha hi;clear hi
     go_wp2
     go_roundw
     case rel=>exact ⟨j+1,by go_num,by omega,HI.out⟩
     case measure=>simp [intOf];omega
    ·go_wp2
     go_roundw
     case rel=>exact ⟨j+1,by go_num,by omega,hs.out rfl _ HN.out⟩
     case measure=>simp [intOf];omega
   ·go_wp2
    go_roundw
    case rel=>exact ⟨j+1,by go_num,by omega,hs.out (by simp) _ HN.out⟩
    case measure=>simp [intOf];omega
  ·obtain rfl:j=n:=by omega
   have hz:¬ (j:Int)<j:=by omega
   go_wp2
   go_ret
   exact ⟨rfl,HI.out⟩
end Go.Proofs.YtbhbhlfkdlfimaaGreatDoor.T
namespace Go.Proofs.YtbhbhlfkdlfimaaGreatDoor.T
open Go.Proofs.YtbhbhlfkdlfimaaGreatDoor Go Go.RowKit
theorem yd (t:Tm):∀ l:List Tm,(ins l t).length≤l.length+1
 | []=>by simp [ins]
 | s::l=>by
  unfold ins
  split
  ·simp
  ·have:=yd t l
   simp only [List.length_cons];omega
theorem ye (g:List Tm):(gth g).length≤g.length:=by
 have key:∀ (g l:List Tm),(g.foldl stp l).length≤l.length+g.length:=by
  intro g
  induction g with
  | nil=>intro l;simp
  | cons t g ih =>
   intro l
   have h:=ih (stp l t)
   have h2:(stp l t).length≤l.length+1:=by
    unfold stp;split
    ·omega
    ·exact yd _ _
   simp only [List.foldl_cons,List.length_cons];omega
 have:=key g []
 simpa [gth] using this
structure Gv (g:List Tm):Prop where
 len:g.length≤256
 ok:∀ t∈g,0≤t.2∧Bq 90 t.2∧Bq 100 t.1
 nrm:∀ t∈g,t.1≠0→t.2≠0→Bq 90 (nC t.2)∧NT (lB t)
 pre:∀ j,j≤g.length→∀ s∈gth (g.take j),NT s
theorem zA (t:Tm) (w:World) (h0:0≤t.2) (h2:Bq 90 t.2) (hc:Bq 100 t.1) (hm:Bq 90 (nC t.2)) (hn:NT (lB t)) (ht:Tab w) (ht2:aH w) (hS:Sm w) :
  Calls Tryz.prog 168 #[.agg #[.string (af t.1),.string (af t.2)]] w fun e W'=>e = .returned (.tuple #[.agg #[.string (af (lB t).1),.string (af (lB t).2)],.int .i64 0])∧Below w.heap.size w W':=by
 obtain ⟨_,b,eb,_,lb⟩:=hn
 have eb':nN t.2=b:=Rat.natCast_inj.1 eb
 have lb':nN t.2<ak 20:=by rw [eb'];exact lb
 have m1:=a8 hc hm (by decide)
 have s2:(af (lB t).2).size≤90:=(pt (by decide)).2 (Nat.lt_of_lt_of_le lb' (aG (by decide)))
 refine uh _ _ (af (nC t.2)) (af (lB t).2) (af (lB t).1) w s2 (fun W hw => ?_) (fun W hw => ?_)
 ·have c:=uf t.2 W h0 h2 (ht.next hw) (ae ht2 hw) (hS.next hw)
  rwa [←dR] at c
 ·have c:=gz t.1 (nC t.2) W (hc.lim (by decide)) (hm.lim (by decide)) (ht.next hw) (ae ht2 hw)
  rwa [m1.1,m1.2.1] at c
theorem zB (p:Option Addr) (c B:Nat) (w:World) :
  Calls Tryz.prog 114 #[.slice p 0 c,.func (.func 115) #[] #[.pointer (some ⟨B,0,none⟩)]] w fun e W'=>e = .returned (.int .i64 0)∧W'=w:=by
 go_enter Tryz.func114,Tryz.ntmps114
 go_wp2
 go_rounds 1
 all_goals go_ret
 all_goals exact ⟨rfl,rfl⟩
theorem Fv (x:Rat):((af x).toList == [48])=decide (x=0):=by
 by_cases h:x=0
 ·rw [decide_eq_true h,h,gg];exact (sB _).2 rfl
 ·rw [decide_eq_false h];exact DG h
theorem pA (g:List Tm) (hg:Gv g) (B:Nat) (w0 w:World) (p:Option Addr) (n c:Nat) (hB:B=w0.heap.size) (h0:Below B w0 w) (hs:St B [] w) (hn:n=g.length) (hx:Rd w0 p g)
  (ht:Tab w0) (ht2:aH w0) (hS:Sm w0) :
  Calls Tryz.prog 114 #[.slice p n c,.func (.func 115) #[] #[.pointer (some ⟨B,0,none⟩)]] w fun e W'=>e = .returned (.int .i64 0)∧St B (gth g) W'∧Below B w0 W':=by
 have hlen:=hg.len
 rcases Nat.eq_zero_or_pos n with z | z
 ·have e:g = []:=List.eq_nil_of_length_eq_zero (by omega)
  subst e
  rw [z]
  exact (zB p c B w).mono fun e W' ⟨e1,e2⟩=>⟨e1,by rw [e2];exact hs,by rw [e2];exact h0⟩
 ·obtain ⟨b,rfl,tl⟩:=hx (by omega)
  have tb:∀ W,Below B w0 W→Tab W:=fun W h=>ht.next (by rw [←hB];exact h)
  have tb2:∀ W,Below B w0 W→aH W:=fun W h=>ae ht2 (by rw [←hB];exact h)
  have tb3:∀ W,Below B w0 W→Sm W:=fun W h=>hS.next (by rw [←hB];exact h)
  have flag:∀ j,(decide ((tat g j).1=0) || decide ((tat g j).2=0))=true↔((tat g j).1=0∨(tat g j).2=0):=fun j=>by simp
  refine (wu b n c B (fun j=>af (tat g j).1) (fun j=>af (tat g j).2) (fun j=>af (lB (tat g j)).1) (fun j=>af (lB (tat g j)).2)
   (fun j=>decide ((tat g j).1=0)) (fun j=>decide ((tat g j).2=0)) w (fun j W=>St B (gth (g.take j)) W∧Below B w0 W) (by omega)
   (fun j _=>Fv _) (fun j _=>Fv _) ⟨hs,h0⟩ (fun j W W' h k=>⟨h.1.next k,h.2.trans (k.mono (by have:=h.2.size;omega))⟩)
   (fun j hj W h=>⟨(h.2.cell (p:=⟨b,j*2,none⟩) (by have:=tl.lt;show b<B;omega)).trans (tl.c0 j (by omega)),(h.2.cell (p:=⟨b,j*2+1,none⟩) (by have:=tl.lt;show b<B;omega)).trans (tl.c1 j (by omega))⟩)
   (fun j hj hz W h => ?_) (fun j hj hz W h => ?_) (fun j hj hz W h => ?_)).mono fun e W' ⟨e1,e2,e3⟩=>⟨e1,?_,e3⟩
  ·refine ⟨?_,h.2⟩
   rw [uj (by omega)]
   unfold stp
   rw [if_pos ((flag j).1 hz)]
   exact h.1
  ·have nz:¬ ((tat g j).1=0∨(tat g j).2=0):=fun k=>by have:=(flag j).2 k;rw [hz] at this;cases this
   have hm:=bV (l:=g) (j:=j) (by omega)
   obtain ⟨a1,a2,a3⟩:=hg.ok _ hm
   obtain ⟨b1,b2⟩:=hg.nrm _ hm (fun k=>nz (.inl k)) (fun k=>nz (.inr k))
   exact zA _ W a1 a2 a3 b1 b2 (tb W h.2) (tb2 W h.2) (tb3 W h.2)
  ·have nz:¬ ((tat g j).1=0∨(tat g j).2=0):=fun k=>by have:=(flag j).2 k;rw [hz] at this;cases this
   have hm:=bV (l:=g) (j:=j) (by omega)
   obtain ⟨b1,b2⟩:=hg.nrm _ hm (fun k=>nz (.inl k)) (fun k=>nz (.inr k))
   have hl:=ye (g.take j)
   rw [List.length_take] at hl
   refine (wt B (gth (g.take j)) (lB (tat g j)) W h.1 (by omega) (hg.pre j (by omega)) b2 (tb W h.2) (tb2 W h.2)).mono fun e W' ⟨e1,e2,e3⟩=>⟨e1,?_,h.2.trans e3⟩
   rw [uj (by omega)]
   unfold stp
   rw [if_neg nz]
   exact e2
  ·rwa [hn,List.take_length] at e2
end Go.Proofs.YtbhbhlfkdlfimaaGreatDoor.T
namespace Go.Proofs
open Go.Shelf
def Tryz.laysGrow_ren:Go.Shelf.Ren:=⟨fun | 4=>206 | n=>n,fun | 22=>45 | 25=>43 | 3=>3 | 4=>4 | 9=>9 | 20=>20 | 0=>0 | n=>n,fun | n=>n⟩
theorem Tryz.laysGrow:Go.Proofs.Lays8.n4 Tryz.prog Tryz.laysGrow_ren:={
 mixed:=by kernel_rfl
 f4:=⟨Tryz.f206.name,by decide,Tryz.func206.trans (congrArg some (by kernel_rfl))⟩
 t0:=Tryz.underlying0
 a0:=Tryz.isAgg0
 z0:=Tryz.sizeOf0
 v0:=Tryz.zeroValue0
 t3:=Tryz.underlying3
 a3:=Tryz.isAgg3
 z3:=Tryz.sizeOf3
 v3:=Tryz.zeroValue3
 t4:=Tryz.underlying4
 a4:=Tryz.isAgg4
 z4:=Tryz.sizeOf4
 v4:=Tryz.zeroValue4
 t9:=Tryz.underlying9
 a9:=Tryz.isAgg9
 z9:=Tryz.sizeOf9
 v9:=Tryz.zeroValue9
 t20:=Tryz.underlying20
 a20:=Tryz.isAgg20
 z20:=Tryz.sizeOf20
 v20:=Tryz.zeroValue20
 t22:=Tryz.underlying45
 a22:=Tryz.isAgg45
 z22:=Tryz.sizeOf45
 v22:=Tryz.zeroValue45 }
def Tryz.laysIndexFunc_ren:Go.Shelf.Ren:=⟨fun | 6=>216 | n=>n,fun | 22=>44 | 23=>43 | 25=>221 | 3=>3 | 0=>0 | 4=>4 | n=>n,fun | n=>n⟩
theorem Tryz.laysIndexFunc:Go.Proofs.SlLaysH0.n6 Tryz.prog Tryz.laysIndexFunc_ren:={
 mixed:=by kernel_rfl
 f6:=⟨Tryz.f216.name,by decide,Tryz.func216.trans (congrArg some (by kernel_rfl))⟩
 t0:=Tryz.underlying0
 a0:=Tryz.isAgg0
 z0:=Tryz.sizeOf0
 v0:=Tryz.zeroValue0
 t3:=Tryz.underlying3
 a3:=Tryz.isAgg3
 z3:=Tryz.sizeOf3
 v3:=Tryz.zeroValue3
 t4:=Tryz.underlying4
 a4:=Tryz.isAgg4
 z4:=Tryz.sizeOf4
 v4:=Tryz.zeroValue4
 t22:=Tryz.underlying44
 a22:=Tryz.isAgg44
 z22:=Tryz.sizeOf44
 v22:=Tryz.zeroValue44
 t25:=Tryz.underlying221
 a25:=Tryz.isAgg221
 z25:=Tryz.sizeOf221
 v25:=Tryz.zeroValue221 }
def Tryz.laysContainsFunc_ren:Go.Shelf.Ren:=⟨fun | 8=>173 | 6=>216 | n=>n,fun | 22=>44 | 23=>43 | 25=>221 | 4=>4 | 3=>3 | 0=>0 | n=>n,fun | n=>n⟩
theorem Tryz.laysContainsFunc:Go.Proofs.SlLaysH0.n8 Tryz.prog Tryz.laysContainsFunc_ren:={
 mixed:=by kernel_rfl
 f6:=⟨Tryz.f216.name,by decide,Tryz.func216.trans (congrArg some (by kernel_rfl))⟩
 f8:=⟨Tryz.f173.name,by decide,Tryz.func173.trans (congrArg some (by kernel_rfl))⟩
 t0:=Tryz.underlying0
 a0:=Tryz.isAgg0
 z0:=Tryz.sizeOf0
 v0:=Tryz.zeroValue0
 t3:=Tryz.underlying3
 a3:=Tryz.isAgg3
 z3:=Tryz.sizeOf3
 v3:=Tryz.zeroValue3
 t4:=Tryz.underlying4
 a4:=Tryz.isAgg4
 z4:=Tryz.sizeOf4
 v4:=Tryz.zeroValue4
 t22:=Tryz.underlying44
 a22:=Tryz.isAgg44
 z22:=Tryz.sizeOf44
 v22:=Tryz.zeroValue44
 t25:=Tryz.underlying221
 a25:=Tryz.isAgg221
 z25:=Tryz.sizeOf221
 v25:=Tryz.zeroValue221 }
def Tryz.laysSortFunc_ren:Go.Shelf.Ren:=⟨fun | 6=>175 | 15=>105 | 14=>218 | 28=>155 | 29=>156 | 20=>249 | 21=>250 | 22=>251 | 23=>252 | 24=>253 | 25=>254 | 26=>255 | 27=>256 | 46=>279 | 47=>208 | 48=>209 | 49=>280 | 50=>281 | 57=>296 | n=>n,fun | 22=>44 | 24=>43 | 25=>224 | 3=>3 | 39=>156 | 0=>0 | 53=>206 | 55=>82 | 4=>4 | 46=>199 | 45=>198 | 50=>203 | 5=>5 | 9=>9 | 66=>258 | 70=>261 | 76=>288 | 77=>289 | n=>n,fun | n=>n⟩
theorem Tryz.laysSortFunc:Go.Proofs.SlLaysF0.n6 Tryz.prog Tryz.laysSortFunc_ren:={
 mixed:=by kernel_rfl
 f6:=⟨Tryz.f175.name,by decide,Tryz.func175.trans (congrArg some (by kernel_rfl))⟩
 f14:=⟨Tryz.f218.name,by decide,Tryz.func218.trans (congrArg some (by kernel_rfl))⟩
 f15:=Tryz.func105.trans (congrArg some (by kernel_rfl))
 f20:=⟨Tryz.f249.name,by decide,Tryz.func249.trans (congrArg some (by kernel_rfl))⟩
 f21:=⟨Tryz.f250.name,by decide,Tryz.func250.trans (congrArg some (by kernel_rfl))⟩
 f22:=⟨Tryz.f251.name,by decide,Tryz.func251.trans (congrArg some (by kernel_rfl))⟩
 f23:=⟨Tryz.f252.name,by decide,Tryz.func252.trans (congrArg some (by kernel_rfl))⟩
 f24:=⟨Tryz.f253.name,by decide,Tryz.func253.trans (congrArg some (by kernel_rfl))⟩
 f25:=⟨Tryz.f254.name,by decide,Tryz.func254.trans (congrArg some (by kernel_rfl))⟩
 f26:=⟨Tryz.f255.name,by decide,Tryz.func255.trans (congrArg some (by kernel_rfl))⟩
 f27:=⟨Tryz.f256.name,by decide,Tryz.func256.trans (congrArg some (by kernel_rfl))⟩
 f28:=Tryz.func155.trans (congrArg some (by kernel_rfl))
 f29:=Tryz.func156.trans (congrArg some (by kernel_rfl))
 f46:=⟨Tryz.f279.name,by decide,Tryz.func279.trans (congrArg some (by kernel_rfl))⟩
 f47:=Tryz.func208.trans (congrArg some (by kernel_rfl))
 f48:=Tryz.func209.trans (congrArg some (by kernel_rfl))
 f49:=⟨Tryz.f280.name,by decide,Tryz.func280.trans (congrArg some (by kernel_rfl))⟩
 f50:=⟨Tryz.f281.name,by decide,Tryz.func281.trans (congrArg some (by kernel_rfl))⟩
 f57:=⟨Tryz.f296.name,by decide,Tryz.func296.trans (congrArg some (by kernel_rfl))⟩
 t0:=Tryz.underlying0
 a0:=Tryz.isAgg0
 z0:=Tryz.sizeOf0
 v0:=Tryz.zeroValue0
 t3:=Tryz.underlying3
 a3:=Tryz.isAgg3
 z3:=Tryz.sizeOf3
 v3:=Tryz.zeroValue3
 t4:=Tryz.underlying4
 a4:=Tryz.isAgg4
 z4:=Tryz.sizeOf4
 v4:=Tryz.zeroValue4
 t5:=Tryz.underlying5
 a5:=Tryz.isAgg5
 z5:=Tryz.sizeOf5
 v5:=Tryz.zeroValue5
 t9:=Tryz.underlying9
 a9:=Tryz.isAgg9
 z9:=Tryz.sizeOf9
 v9:=Tryz.zeroValue9
 t22:=Tryz.underlying44
 a22:=Tryz.isAgg44
 z22:=Tryz.sizeOf44
 v22:=Tryz.zeroValue44
 t25:=Tryz.underlying224
 a25:=Tryz.isAgg224
 z25:=Tryz.sizeOf224
 v25:=Tryz.zeroValue224
 t39:=Tryz.underlying156
 a39:=Tryz.isAgg156
 z39:=Tryz.sizeOf156
 v39:=Tryz.zeroValue156
 t45:=Tryz.underlying198
 a45:=Tryz.isAgg198
 z45:=Tryz.sizeOf198
 v45:=Tryz.zeroValue198
 t46:=Tryz.underlying199
 a46:=Tryz.isAgg199
 z46:=Tryz.sizeOf199
 v46:=Tryz.zeroValue199
 t50:=Tryz.underlying203
 a50:=Tryz.isAgg203
 z50:=Tryz.sizeOf203
 v50:=Tryz.zeroValue203
 t53:=Tryz.underlying206
 a53:=Tryz.isAgg206
 z53:=Tryz.sizeOf206
 v53:=Tryz.zeroValue206
 t55:=Tryz.underlying82
 a55:=Tryz.isAgg82
 z55:=Tryz.sizeOf82
 v55:=Tryz.zeroValue82
 t66:=Tryz.underlying258
 a66:=Tryz.isAgg258
 z66:=Tryz.sizeOf258
 v66:=Tryz.zeroValue258
 t70:=Tryz.underlying261
 a70:=Tryz.isAgg261
 z70:=Tryz.sizeOf261
 v70:=Tryz.zeroValue261
 t76:=Tryz.underlying288
 a76:=Tryz.isAgg288
 z76:=Tryz.sizeOf288
 v76:=Tryz.zeroValue288
 t77:=Tryz.underlying289
 a77:=Tryz.isAgg289
 z77:=Tryz.sizeOf289
 v77:=Tryz.zeroValue289 }
end Go.Proofs
namespace Go.Proofs.YtbhbhlfkdlfimaaGreatDoor.T
open Go.Proofs.YtbhbhlfkdlfimaaGreatDoor Go Go.RowKit Go.Proofs
def nz (t:Tm):Bool:=decide (t.1≠0)
theorem rh (t:Tm) (w:World):Calls Tryz.prog 172 #[.agg #[.string (af t.1),.string (af t.2)]] w fun e W'=>e = .returned (.bool (!nz t))∧Below w.heap.size w W' :=
 wn _ _ _ w (by rw [Fv];unfold nz;by_cases h:t.1=0 <;> simp [h])
theorem Gj (w:World):PredBelow Tryz.prog 172 #[] (fun x:Tm => .agg (tc x).toArray) (fun x => !nz x) w:=fun W x hb =>
 (rh x W).mono fun e W' ⟨e1,e2⟩=>⟨e1,hb.trans (e2.mono hb.size)⟩
theorem eg1:∀ args w,(callFunc 172 args).run Tryz.prog w = .ok (.enter 172 args) w:=enters_of Tryz.func172 (by kernel_rfl) rfl
theorem sM (l:List Tm) (b n c:Nat) (w:World) (hn:n=l.length) (h1000:n≤1000) (ht:Tl w b l) :
  Calls Tryz.prog 216 #[.slice (some ⟨b,0,none⟩) n c,.func (.func 172) #[] #[]] w fun e W'=>e = .returned (.int .i64 (Lib.idxBy (fun _ y => !nz y) l default))∧Below w.heap.size w W':=by
 have h:=AnyQ.slices_IndexFunc Tryz.laysIndexFunc 2 Tryz.isAgg43 Tryz.sizeOf43 tc (fun _=>rfl) (fun x => !nz x) 172 #[] eg1 b 0 n c l w (Gj w) (by omega) (by omega) ht.lt (fun j hj i v hi=>by
  have e:l[j]! = tat l j:=by rw [getElem!_pos l j hj,dV hj]
  rw [e] at hi
  have h2:i=0∨i=1:=by
   have:=(List.getElem?_eq_some_iff.1 hi).1
   simp [tc] at this;omega
  rcases h2 with rfl | rfl
  ·cases hi
   simpa using ht.c0 j hj
  ·cases hi
   simpa using ht.c1 j hj)
 rw [hn,List.take_length] at h
 rw [hn]
 exact h
theorem j6 (p:Option Addr) (c:Nat) (f:Value) (w:World) :
  Calls Tryz.prog 216 #[.slice p 0 c,f] w fun e W'=>e = .returned (.int .i64 (-1))∧W'=w:=by
 go_enter Tryz.func216,Tryz.ntmps216
 go_wp2
 go_rounds 1
 all_goals go_ret
 all_goals exact ⟨rfl,rfl⟩
theorem j7 (v:Value) (w:World)
  (h1:Calls Tryz.prog 216 #[v,.func (.func 172) #[] #[]] w fun e W'=>e = .returned (.int .i64 (-1))∧Below w.heap.size w W') :
  Calls Tryz.prog 171 #[v,.func (.func 172) #[] #[]] w fun e W'=>e = .returned v∧Below w.heap.size w W':=by
 have O:=Ha h1;clear h1
 go_enter Tryz.func171,Tryz.ntmps171
 go_wp2_with fail
 refine O.out.mono ?_
 rintro e w1 ⟨rfl,b⟩
 have B:=Ha b;clear b
 go_wp2
 go_ret
 exact ⟨rfl,B.out⟩
theorem wv (n:Nat):(Builtin.zeroCells (Value.agg #[.string ⟨#[]⟩,.string ⟨#[]⟩]).cells n).toList=List.replicate (n*2) (.string ⟨#[]⟩):=by
 apply List.ext_getElem
 ·simp [Builtin.zeroCells,Value.cells]
 ·intro i h1 h2
  have h3:i % 2=0∨i % 2=1:=by omega
  simp [Builtin.zeroCells,Value.cells]
  rcases h3 with h | h <;> simp [h]
theorem ww (w:World) (ty:TypeId) (b o n c:Nat) (hn:0<n) (hc:∀ j,j<n*2→(w.cell? ⟨b,o+j,none⟩).isSome=true) (hf:∀ j,j<n*2→w.frozen? ⟨b,o+j,none⟩=false) :
  (Builtin.clear_ #[44] ty #[.slice (some ⟨b,o,none⟩) n c]).run Tryz.prog w = .ok (.tuple #[]) (w.setCells b o (List.replicate (n*2) (.string ⟨#[]⟩))):=by
 have hst:=run_storeCells_cells (P:=Tryz.prog) b o (List.replicate (n*2) (.string ⟨#[]⟩)) 0 w (by simpa using hc) (by simpa using hf) (by intro v hv';rw [List.eq_of_mem_replicate hv'];rfl)
 simp only [Nat.add_zero] at hst
 obtain ⟨m,rfl⟩:∃ m,n=m+1:=⟨n - 1,by omega⟩
 have hz:∀ w,(zeroValue 43).run Tryz.prog w = .ok (.agg #[.string ⟨#[]⟩,.string ⟨#[]⟩]) w:=Tryz.zeroValue43
 have hu:=run_underlying (P:=Tryz.prog) Tryz.underlying44
 simp [Builtin.clear_,hu,hz,wv,hst]
theorem lC (b:Nat):∀ (vs:List Value) (o:Nat) (W:World) (cur:Array Value) (t:TypeId),W.heap[b]? = some (.cells cur t (0,0)) →
  ∃ cur',(W.setCells b o vs).heap[b]? = some (.cells cur' t (0,0))∧cur'.size=cur.size∧∀ m,m≤o→cur'.toList.take m=cur.toList.take m
 | [],_,_,cur,_,h=>⟨cur,h,rfl,fun _ _=>rfl⟩
 | v::vs,o,W,cur,t,h=>by
  obtain ⟨cur',h1,h2,h3⟩:=lC b vs (o+1) (W.setCell ⟨b,o,none⟩ v) _ t (heap_set h o v)
  refine ⟨cur',h1,by rw [h2];simp,fun m hm => ?_⟩
  rw [h3 m (by omega),Array.toList_setIfInBounds,List.take_set]
  exact List.set_eq_of_length_le (by simp;omega)
structure Dl (w:World) (base b n c:Nat) (l:List Tm) (i j:Nat) (dk:List Tm) (wr:World):Prop where
 len:dk.length=n
 low:dk.take i=(l.take j).filter nz
 high:∀ m,j≤m→tat dk m=tat l m
 own:Ow wr base 43 (.slice (some ⟨b,0,none⟩) n c) dk
 below:Below base w wr
theorem Dl.grow {w wr W:World} {base b n c i j:Nat} {l dk:List Tm} (h:Dl w base b n c l i j dk wr) (g:Below wr.heap.size wr W) (hb:base≤w.heap.size):Dl w base b n c l i j dk W :=
 ⟨h.len,h.low,h.high,h.own.next g,h.below.trans (g.mono (Nat.le_trans hb h.below.size))⟩
theorem pB {l:List Tm} {j:Nat} (hj:j<l.length):(l.take (j+1)).filter nz=(l.take j).filter nz++(if nz (tat l j) then [tat l j] else []):=by
 rw [List.take_succ_eq_append_getElem hj,List.filter_append,dV hj]
 cases h:nz l[j] <;> simp [h]
theorem Dl.skip {w wr:World} {base b n c i j:Nat} {l dk:List Tm} (h:Dl w base b n c l i j dk wr) (hj:j<l.length) (hz:nz (tat l j)=false):Dl w base b n c l i (j+1) dk wr :=
 ⟨h.len,by rw [pB hj,hz,h.low];simp,fun m hm=>h.high m (by omega),h.own,h.below⟩
theorem Dl.keep {w wr:World} {base b n c i j:Nat} {l dk:List Tm} (h:Dl w base b n c l i j dk wr) (hj:j<l.length) (hi:i<j) (hn:l.length=n) (hz:nz (tat l j)=true) (hb:base≤b) :
  Dl w base b n c l (i+1) (j+1) (dk.set i (tat l j)) ((wr.setCell ⟨b,i*2,none⟩ (.string (af (tat l j).1))).setCell ⟨b,i*2+1,none⟩ (.string (af (tat l j).2))):=by
 have hl:=h.len
 refine ⟨by rw [List.length_set];exact hl,?_,fun m hm => ?_,h.own.set i (by omega) _,(h.below.setCell (p:=⟨b,i*2,none⟩) hb _).setCell (p:=⟨b,i*2+1,none⟩) hb _⟩
 ·rw [pB hj,hz,←h.low,if_pos rfl,List.take_succ_eq_append_getElem (by rw [List.length_set];omega),List.getElem_set_self,List.take_set,List.set_eq_of_length_le (by rw [List.length_take];omega)]
 ·have:tat (dk.set i (tat l j)) m=tat dk m:=by
   unfold tat;rw [List.getElem?_set_ne (by omega)]
  rw [this];exact h.high m (by omega)
theorem pC (l:List Tm) (b n c base k0:Nat) (w:World) (hn:n=l.length) (h1000:n≤1000) (hnc:n≤c) (hbase:base≤w.heap.size) (hbb:base≤b) (hk0:k0<n)
  (h1:Calls Tryz.prog 216 #[(.slice (some ⟨b,0,none⟩) n c),.func (.func 172) #[] #[]] w fun e W'=>e = .returned (.int .i64 k0)∧Below w.heap.size w W')
  (hD:Dl w base b n c l k0 (k0+1) l w) :
  Calls Tryz.prog 171 #[(.slice (some ⟨b,0,none⟩) n c),.func (.func 172) #[] #[]] w fun e W'=>∃ i dk W1,e = .returned (.slice (some ⟨b,0,none⟩) i c)∧i≤n∧Dl w base b n c l i n dk W1∧W'=W1.setCells b (i*2) (List.replicate ((n - i)*2) (.string ⟨#[]⟩)):=by
 have O:=Ha (Hb h1 (Hb hbase (Hb hbb hn)))
 have HD:=Ha hD
 have HC:=Ha hnc
 clear h1 hbase hbb hn hD hnc
 have eg:=eg1
 have ne1:((k0:Int) == -1)=false:=beq_eq_false_iff_ne.2 (by omega)
 go_enter Tryz.func171,Tryz.ntmps171
 go_wp2_with fail
 refine O.out.1.mono ?_
 rintro e w1 ⟨rfl,bb⟩
 have HB:=Ha (HD.out.grow bb O.out.2.1)
 clear HD bb
 go_wp2
 go_loopw [5,6] (fun s5 s6 wr=>∃ (i j:Nat) (dk:List Tm),s5 = .int .i64 i∧s6 = .int .i64 j∧i<j∧j≤n∧Hid (Dl w base b n c l i j dk wr)) (fun _ s6 _=>n - (intOf s6).toNat)
 case atStart=>exact ⟨k0,k0+1,l,rfl,by go_num,by omega,by omega,HB.out⟩
 case round =>
  clear HB
  obtain ⟨i,j,dk,rfl,rfl,hij,hjn,HB⟩:=hrel
  have tl:=Ha (show Tl wr b dk from by
   obtain ⟨p,c',e,r,_⟩:=HB.out.own.rd
   have hl:=HB.out.len
   obtain ⟨b',e',t⟩:=r (by omega)
   cases e;cases e';exact t)
  have hl:=Ha HB.out.len
  have fr:=Ha (fun m=>HB.out.own.frozen m)
  by_cases hlt:j<n
  ·have hz:(j:Int)<n:=by omega
   have d0:=tl.out.c0 j (by have:=hl.out;omega)
   have d1:=tl.out.c1 j (by have:=hl.out;omega)
   rw [HB.out.high j (Nat.le_refl _)] at d0 d1
   go_wp2_with fail
   have HN:=Ha (HB.out.grow ((Below.refl _ wr).alloc (Nat.le_refl _) (.cells #[.string (af (tat l j).1),.string (af (tat l j).2)] 43)) O.out.2.1)
   have hk:=Blk.new wr #[.string (af (tat l j).1),.string (af (tat l j).2)] 43
   clear HB tl fr d0 d1
   generalize wr.alloc (.cells #[.string (af (tat l j).1),.string (af (tat l j).2)] 43)=u at *
   generalize wr.heap.size=k at *
   have e0:=hk.cell 0 (.string (af (tat l j).1)) rfl
   have e1:=hk.cell 1 (.string (af (tat l j).2)) rfl
   have HK:=Ha hk;clear hk
   go_wp2_with fail
   refine (rh (tat l j) u).mono ?_
   rintro e w2 ⟨rfl,bb⟩
   have HM:=Ha (HN.out.grow bb O.out.2.1)
   have HK2:=Ha (HK.out.next bb)
   clear HN HK bb e0 e1
   have e0:=HK2.out.cell 0 (.string (af (tat l j).1)) rfl
   have e1:=HK2.out.cell 1 (.string (af (tat l j).2)) rfl
   have hx:=Ha (rfl:nz (tat l j)=nz (tat l j))
   cases hq:nz (tat l j)
   ·have HQ:=Ha (HM.out.skip (by have:=O.out.2.2.2;omega) hq)
    clear HM hx
    go_wp2
    go_roundw
    case rel=>exact ⟨i,j+1,dk,rfl,by go_num,by omega,by omega,HQ.out⟩
    case measure=>simp [intOf];omega
   ·have HQ:=Ha (HM.out.keep (by have:=O.out.2.2.2;omega) hij (by have:=O.out.2.2.2;omega) hq O.out.2.2.1)
    have tl:=Ha (show Tl w2 b dk from by
     obtain ⟨p,c',e,r,_⟩:=HM.out.own.rd
     have hl:=HM.out.len
     obtain ⟨b',e',t⟩:=r (by omega)
     cases e;cases e';exact t)
    have g0:=tl.out.c0 i (by have:=hl.out;omega)
    have g1:=tl.out.c1 i (by have:=hl.out;omega)
    have f0:=HM.out.own.frozen (i*2)
    have f1:=HM.out.own.frozen (i*2+1)
    have hzi:(i:Int)<n:=by omega
    clear HM hx
    go_wp2
    go_roundw
    case rel=>exact ⟨i+1,j+1,_,by go_num,by go_num,by omega,by omega,HQ.out⟩
    case measure=>simp [intOf];omega
  ·obtain rfl:j=n:=by omega
   have hz:¬ (j:Int)<j:=by omega
   have s1:i≤j:=by omega
   have s2:j≤c:=HC.out
   have s3:i≤c:=by omega
   have hcl:∀ ty,(Builtin.clear_ #[44] ty #[.slice (some ⟨b,i*2,none⟩) (j - i) (c - i)]).run Tryz.prog wr = .ok (.tuple #[]) (wr.setCells b (i*2) (List.replicate ((j - i)*2) (.string ⟨#[]⟩))):=fun ty =>
    ww wr ty b (i*2) (j - i) (c - i) (by omega) (fun m hm=>by
     have h2:(i*2+m) % 2=0∨(i*2+m) % 2=1:=by omega
     rcases h2 with h | h
     ·have:=tl.out.c0 ((i*2+m) / 2) (by have:=hl.out;omega)
      rw [show (i*2+m) / 2*2=i*2+m by omega] at this
      rw [this];rfl
     ·have:=tl.out.c1 ((i*2+m) / 2) (by have:=hl.out;omega)
      rw [show (i*2+m) / 2*2+1=i*2+m by omega] at this
      rw [this];rfl) (fun m _=>fr.out _)
   go_wp2
   go_ret
   exact ⟨i,rfl,s1,dk,wr,HB.out,rfl⟩
end Go.Proofs.YtbhbhlfkdlfimaaGreatDoor.T
