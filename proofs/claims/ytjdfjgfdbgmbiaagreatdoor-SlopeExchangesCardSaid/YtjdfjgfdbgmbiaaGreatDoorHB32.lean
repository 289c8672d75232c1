/- Parts of the proof of the text YtjdfjgfdbgmbiaaGreatDoorHB39. -/
import Derived.OwnWalk
import Derived.RegionTactic
import Derived.ChangeAlike
import Derived.Test.YtjdfjgfdbgmbiaaGreatDoorHB1
import Derived.Test.YtjdfjgfdbgmbiaaGreatDoorHB31
set_option linter.all false
set_option maxRecDepth 100000
set_option maxHeartbeats 8000000
namespace Go.Proofs.YtjdfjgfdbgmbiaaGreatDoor.T
open Go.Proofs.YtjdfjgfdbgmbiaaGreatDoor Go Go.RowKit
theorem info_term:(Tryz.prog.info? 50).map (fun i=>(i.zero,i.size,i.bytes))=some (some (.agg #[.string ⟨#[]⟩,.string ⟨#[]⟩]),2,32):=by kernel_rfl
theorem cell_two_new (w:World) (a b:Value) (e:TypeId):∀ j u,[a,b][j]? = some u→(w.alloc (.cells #[a,b] e)).cell? ((⟨w.heap.size,0,none⟩:Addr).add j)=some u:=fun j u h=>by
 have ha:(⟨w.heap.size,0,none⟩:Addr).add j=⟨w.heap.size,j,none⟩:=by unfold Addr.add;split <;> simp_all
 rw [ha]
 exact (Blk.new w #[a,b] e).cell j u (by simpa using h)
theorem own_next {W W':World} {base:Nat} {T:TypeId} {s:Nat} {v:Value} {n:Nat} {xs:List Value} (h:W.ownsRow base T s v n xs) (g:Below W.heap.size W W'):W'.ownsRow base T s v n xs:=by
 refine ⟨h.1,?_⟩
 rcases h.2 with hn | ⟨k,cap,cur,e,hb,hg,rest⟩
 ·exact .inl hn
 ·exact .inr ⟨k,cap,cur,e,hb,by rw [g.block k (lt_of_block hg)];exact hg,rest⟩
theorem grown_below {w W:World} (h:Below w.heap.size w W) (r:Option Nat):w.grownBy W r:=⟨h.os,h.tape,h.output,h.size,fun k hk _=>h.block k hk⟩
theorem grown_trans {w W V:World} {r:Option Nat} (h:w.grownBy W r) (g:W.grownBy V r):w.grownBy V r :=
 ⟨g.os.trans h.os,g.tape.trans h.tape,g.output.trans h.output,Nat.le_trans h.size g.size,fun k hk hr=>(g.block k (Nat.lt_of_lt_of_le hk h.size) hr).trans (h.block k hk hr)⟩
theorem with_miss (bb n c q:Nat) (sc sr:Nat→ByteArray) (tc tr:ByteArray) (x:Nat→Int) (w:World)
  (hb:bb<w.heap.size) (hc0:∀ j,j<n→w.cell? ⟨bb,j*2,none⟩=some (.string (sc j))) (hc1:∀ j,j<n→w.cell? ⟨bb,j*2+1,none⟩=some (.string (sr j))) (base:Nat) (xs:List Value) (ho:w.ownsRow base 50 2 (.slice (some ⟨bb,0,none⟩) n c) n xs) (hbase:base≤w.heap.size) (hq:q=n) (hn:n≤1000)
  (hO:∀ j,j<n→∀ W,Below w.heap.size w W→Calls Tryz.prog 111 #[.string (sr j),.string tr] W fun e W'=>e = .returned (.int .i64 (x j))∧Below W.heap.size W W')
  (hRp:∀ j,j<n→0<x j→∀ W,Below w.heap.size w W→Calls Tryz.prog 112 #[.string (sr j),.string tr] W fun e W'=>e = .returned (.tuple #[.string ⟨#[]⟩,.bool false])∧Below W.heap.size W W')
  (hRn:∀ j,j<n→¬ 0<x j→∀ W,Below w.heap.size w W→Calls Tryz.prog 112 #[.string tr,.string (sr j)] W fun e W'=>e = .returned (.tuple #[.string ⟨#[]⟩,.bool false])∧Below W.heap.size W W')
  :
  Calls Tryz.prog 88 #[.slice (some ⟨bb,0,none⟩) n c,.agg #[.string tc,.string tr]] w fun e W'=>∃ v',e = .returned (.tuple #[v',.int .i64 0])∧W'.ownsRow base 50 2 v' (n+1) (xs ++ [.string tc,.string tr])∧w.grownBy W' (.slice (some ⟨bb,0,none⟩) n c:Value).ownBlock:=by
 have O:=Lib.hid (And.intro hO (And.intro hRp hRn));clear hO hRp hRn
 subst hq
 obtain ⟨i0,hi,hz0,hz1,hz2⟩:=info_parts info_term
 have HI:=Lib.hid (And.intro hi (And.intro hz0 (And.intro hz1 hz2)));clear hi hz0 hz1 hz2
 have HT:=Lib.hid (And.intro hb (And.intro hc0 (And.intro hc1 (And.intro ho hbase))))
 clear hb hc0 hc1
 clear ho hbase
 go_enter Tryz.func88,Tryz.ntmps88
 go_wp2
 have HB:=Lib.hid (And.intro (Blk.new w #[.string tc,.string tr] 50) ((Below.refl _ w).alloc (Nat.le_refl _) (.cells #[.string tc,.string tr] 50)))
 generalize w.alloc (.cells #[.string tc,.string tr] 50)=W0 at *
 generalize hk:w.heap.size=k at *
 have HK:=Lib.hid hk;clear hk
 go_loopw [16] (fun i wr=>∃ j:Nat,i = .int .i64 j∧j≤q∧Hid (Blk wr k #[.string tc,.string tr]∧Below k w wr)) (fun i _=>q - (intOf i).toNat)
 case atStart=>exact ⟨0,rfl,by omega,HB.out⟩
 case round =>
  clear HB
  obtain ⟨j,rfl,hj,HB⟩:=hrel
  by_cases hlt:j<q
  ·have hz:(j:Int)<q:=by omega
   have d0:=(HB.out.2.cell (p:=⟨bb,j*2,none⟩) HT.out.1).trans (HT.out.2.1 j (by omega))
   have d1:=(HB.out.2.cell (p:=⟨bb,j*2+1,none⟩) HT.out.1).trans (HT.out.2.2.1 j (by omega))
   have hO:=Lib.hid (O.out.1 j (by omega))
   by_cases hx:0<x j
   ·have hR:=Lib.hid (O.out.2.1 j hlt hx)
    generalize x j=xj at *
    generalize hsc:sc j=sc at *
    generalize hsr:sr j=sr at *
    clear hsc hsr
    go_wp2
    replace HB:=Q3.a HB sc sr 50
    clear d0 d1
    generalize wr.alloc (.cells #[.string sc,.string sr] 50)=u at *
    generalize wr.heap.size=m at *
    obtain ⟨e0,e1,f0,f1,⟨kn,mn⟩,⟨k1,k2,m1,m2⟩,g0,g1,i0,i1⟩:=Q3.p HB (.cells #[.string ⟨#[]⟩,.string ⟨#[]⟩] 50)
    go_region
    ·replace HB:=Q3.e HB sc sr tc tr 50
     generalize ((u.alloc (.cells #[.string sc,.string sr] 50)).alloc (.cells #[.string tc,.string tr] 50)).drew=W at *
     generalize u.heap.size=s at *
     clear e0 e1 f0 f1 g0 g1 i0 i1 k1 k2 m1 m2
     obtain ⟨l0,l1,fl0,fl1,h0,h1,fh0,fh1⟩:=Q4.f HB
     go_wp2_with fail
     refine (hO.out _ HB.out.2.2.2).mono ?_
     rintro e W2 ⟨rfl,b⟩
     replace HB:=Q4.n HB b;clear b l0 l1 h0 h1 fl0 fl1 fh0 fh1;obtain ⟨l0,l1,fl0,fl1,h0,h1,fh0,fh1⟩:=Q4.f HB
     go_wp2_with fail
     replace HB:=Q4.s HB (by omega) (by omega) (by omega)
     clear l0 l1 h0 h1 fl0 fl1 fh0 fh1
     generalize (((W2.setCell ⟨s,0,none⟩ (.string tc)).setCell ⟨s,1,none⟩ (.string tr)).setCell ⟨s+1,0,none⟩ (.string sc)).setCell ⟨s+1,1,none⟩ (.string sr)=W3 at *
     obtain ⟨l0,l1,fl0,fl1,h0,h1,fh0,fh1⟩:=Q4.f HB
     refine (hR.out _ HB.out.2.2.2).mono ?_
     rintro e W4 ⟨rfl,b⟩
     replace HB:=Q4.n HB b;clear b l0 l1 h0 h1 fl0 fl1 fh0 fh1;obtain ⟨l0,l1,fl0,fl1,h0,h1,fh0,fh1⟩:=Q4.f HB
     go_wp2
     go_roundw
     case rel=>exact ⟨j+1,by go_num,by omega,HB.out.2.2⟩
     case measure=>simp [intOf];omega
    ·replace HB:=Q4.r (Q3.e HB tc tr sc sr 50)
     generalize ((u.alloc (.cells #[.string tc,.string tr] 50)).alloc (.cells #[.string sc,.string sr] 50)).drew=W at *
     generalize u.heap.size=s at *
     clear e0 e1 f0 f1 g0 g1 i0 i1 k1 k2 m1 m2
     obtain ⟨l0,l1,fl0,fl1,h0,h1,fh0,fh1⟩:=Q4.f HB
     go_wp2_with fail
     refine (hO.out _ HB.out.2.2.2).mono ?_
     rintro e W2 ⟨rfl,b⟩
     replace HB:=Q4.n HB b;clear b l0 l1 h0 h1 fl0 fl1 fh0 fh1;obtain ⟨l0,l1,fl0,fl1,h0,h1,fh0,fh1⟩:=Q4.f HB
     go_wp2_with fail
     replace HB:=Q4.s HB (by omega) (by omega) (by omega)
     clear l0 l1 h0 h1 fl0 fl1 fh0 fh1
     generalize (((W2.setCell ⟨s+1,0,none⟩ (.string tc)).setCell ⟨s+1,1,none⟩ (.string tr)).setCell ⟨s,0,none⟩ (.string sc)).setCell ⟨s,1,none⟩ (.string sr)=W3 at *
     obtain ⟨l0,l1,fl0,fl1,h0,h1,fh0,fh1⟩:=Q4.f HB
     refine (hR.out _ HB.out.2.2.2).mono ?_
     rintro e W4 ⟨rfl,b⟩
     replace HB:=Q4.n HB b;clear b l0 l1 h0 h1 fl0 fl1 fh0 fh1;obtain ⟨l0,l1,fl0,fl1,h0,h1,fh0,fh1⟩:=Q4.f HB
     go_wp2
     go_roundw
     case rel=>exact ⟨j+1,by go_num,by omega,HB.out.2.2⟩
     case measure=>simp [intOf];omega
   ·have hR:=Lib.hid (O.out.2.2 j hlt (by omega))
    generalize x j=xj at *
    generalize hsc:sc j=sc at *
    generalize hsr:sr j=sr at *
    clear hsc hsr
    go_wp2
    replace HB:=Q3.a HB sc sr 50
    clear d0 d1
    generalize wr.alloc (.cells #[.string sc,.string sr] 50)=u at *
    generalize wr.heap.size=m at *
    obtain ⟨e0,e1,f0,f1,⟨kn,mn⟩,⟨k1,k2,m1,m2⟩,g0,g1,i0,i1⟩:=Q3.p HB (.cells #[.string ⟨#[]⟩,.string ⟨#[]⟩] 50)
    go_region
    ·replace HB:=Q3.e HB sc sr tc tr 50
     generalize ((u.alloc (.cells #[.string sc,.string sr] 50)).alloc (.cells #[.string tc,.string tr] 50)).drew=W at *
     generalize u.heap.size=s at *
     clear e0 e1 f0 f1 g0 g1 i0 i1 k1 k2 m1 m2
     obtain ⟨l0,l1,fl0,fl1,h0,h1,fh0,fh1⟩:=Q4.f HB
     go_wp2_with fail
     refine (hO.out _ HB.out.2.2.2).mono ?_
     rintro e W2 ⟨rfl,b⟩
     replace HB:=Q4.n HB b;clear b l0 l1 h0 h1 fl0 fl1 fh0 fh1;obtain ⟨l0,l1,fl0,fl1,h0,h1,fh0,fh1⟩:=Q4.f HB
     go_wp2_with fail
     refine (hR.out _ HB.out.2.2.2).mono ?_
     rintro e W4 ⟨rfl,b⟩
     replace HB:=Q4.n HB b;clear b l0 l1 h0 h1 fl0 fl1 fh0 fh1;obtain ⟨l0,l1,fl0,fl1,h0,h1,fh0,fh1⟩:=Q4.f HB
     go_wp2
     go_roundw
     case rel=>exact ⟨j+1,by go_num,by omega,HB.out.2.2⟩
     case measure=>simp [intOf];omega
    ·replace HB:=Q4.r (Q3.e HB tc tr sc sr 50)
     generalize ((u.alloc (.cells #[.string tc,.string tr] 50)).alloc (.cells #[.string sc,.string sr] 50)).drew=W at *
     generalize u.heap.size=s at *
     clear e0 e1 f0 f1 g0 g1 i0 i1 k1 k2 m1 m2
     obtain ⟨l0,l1,fl0,fl1,h0,h1,fh0,fh1⟩:=Q4.f HB
     go_wp2_with fail
     refine (hO.out _ HB.out.2.2.2).mono ?_
     rintro e W2 ⟨rfl,b⟩
     replace HB:=Q4.n HB b;clear b l0 l1 h0 h1 fl0 fl1 fh0 fh1;obtain ⟨l0,l1,fl0,fl1,h0,h1,fh0,fh1⟩:=Q4.f HB
     go_wp2_with fail
     refine (hR.out _ HB.out.2.2.2).mono ?_
     rintro e W4 ⟨rfl,b⟩
     replace HB:=Q4.n HB b;clear b l0 l1 h0 h1 fl0 fl1 fh0 fh1;obtain ⟨l0,l1,fl0,fl1,h0,h1,fh0,fh1⟩:=Q4.f HB
     go_wp2
     go_roundw
     case rel=>exact ⟨j+1,by go_num,by omega,HB.out.2.2⟩
     case measure=>simp [intOf];omega
  ·obtain rfl:j=q:=by omega
   have hz:¬ (j:Int)<j:=by omega
   clear O
   have e0:=(show World.cell? _ ⟨k,0,none⟩=some (.string tc) from HB.out.1.cell 0 _ rfl)
   have e1:=(show World.cell? _ ⟨k,1,none⟩=some (.string tr) from HB.out.1.cell 1 _ rfl)
   have HW:=Lib.hid (own_next HT.out.2.2.2.1 (by have h:=HB.out.2;rw [←HK.out] at h;exact h))
   have hbs:base≤wr.heap.size+1:=by have h1:=HB.out.2.size;have h2:=HT.out.2.2.2.2;have h3:=HK.out;omega
   go_wp2_with (at_builtin;refine wpList_append_own _ rfl _ _ 25 rfl base 50 i0 (.agg #[.string ⟨#[]⟩,.string ⟨#[]⟩]) 2 32 Tryz.underlying25 HI.out.1 HI.out.2.1 HI.out.2.2.1 HI.out.2.2.2 rfl (by decide) _ _ _ rfl (HW.out.alloc _) ⟨wr.heap.size,0,none⟩ 1 1 [.string tc,.string tr] rfl rfl (cell_two_new _ _ _ _) (by simp [Value.oneCell']) (by unfold maxLen;omega) (by omega) (by simp;omega) ?_;intro v' w3 hown' hgrow _)
   go_ret2
   have hbl:=HB.out.2
   rw [←HK.out] at hbl
   exact ⟨v',rfl,hown',grown_trans (grown_below (hbl.alloc hbl.size _) _) hgrow⟩
theorem with_nil (tc tr:ByteArray) (w:World) (base:Nat) (hbase:base≤w.heap.size) :
  Calls Tryz.prog 88 #[.slice none 0 0,.agg #[.string tc,.string tr]] w fun e W'=>∃ v',e = .returned (.tuple #[v',.int .i64 0])∧W'.ownsRow base 50 2 v' 1 ([.string tc,.string tr])∧w.grownBy W' (.slice none 0 0:Value).ownBlock:=by
 obtain ⟨i0,hi,hz0,hz1,hz2⟩:=info_parts info_term
 have HI:=Lib.hid (And.intro hi (And.intro hz0 (And.intro hz1 hz2)));clear hi hz0 hz1 hz2
 have HT:=Lib.hid (And.intro (World.ownsRow_nil w base 50 2) hbase);clear hbase
 go_enter Tryz.func88,Tryz.ntmps88
 go_wp2
 have HB:=Lib.hid (And.intro (Blk.new w #[.string tc,.string tr] 50) ((Below.refl _ w).alloc (Nat.le_refl _) (.cells #[.string tc,.string tr] 50)))
 generalize w.alloc (.cells #[.string tc,.string tr] 50)=W0 at *
 generalize hk:w.heap.size=k at *
 have HK:=Lib.hid hk;clear hk
 go_loopw [16] (fun i wr=>i = .int .i64 0∧Hid (Blk wr k #[.string tc,.string tr]∧Below k w wr)) (fun i _=>0)
 case atStart=>exact ⟨rfl,HB.out⟩
 case round =>
  clear HB
  obtain ⟨rfl,HB⟩:=hrel
  have e0:=(show World.cell? _ ⟨k,0,none⟩=some (.string tc) from HB.out.1.cell 0 _ rfl)
  have e1:=(show World.cell? _ ⟨k,1,none⟩=some (.string tr) from HB.out.1.cell 1 _ rfl)
  have HW:=Lib.hid (own_next HT.out.1 (by have h:=HB.out.2;rw [←HK.out] at h;exact h))
  have hbs:base≤wr.heap.size+1:=by have h1:=HB.out.2.size;have h2:=HT.out.2;have h3:=HK.out;omega
  go_wp2_with (at_builtin;refine wpList_append_own _ rfl _ _ 25 rfl base 50 i0 (.agg #[.string ⟨#[]⟩,.string ⟨#[]⟩]) 2 32 Tryz.underlying25 HI.out.1 HI.out.2.1 HI.out.2.2.1 HI.out.2.2.2 rfl (by decide) _ _ _ rfl (HW.out.alloc _) ⟨wr.heap.size,0,none⟩ 1 1 [.string tc,.string tr] rfl rfl (cell_two_new _ _ _ _) (by simp [Value.oneCell']) (by unfold maxLen;omega) (by omega) (by simp;omega) ?_;intro v' w3 hown' hgrow _)
  go_ret2
  have hbl:=HB.out.2
  rw [←HK.out] at hbl
  exact ⟨v',rfl,hown',grown_trans (grown_below (hbl.alloc hbl.size _) _) hgrow⟩
end Go.Proofs.YtjdfjgfdbgmbiaaGreatDoor.T
namespace Go.Proofs.YtjdfjgfdbgmbiaaGreatDoor.T
open Go.Proofs.YtjdfjgfdbgmbiaaGreatDoor Go Go.RowKit
theorem ins_hit {t:Tm}:∀ {l:List Tm} {q:Nat},q<l.length→(∀ j,j<q→¬ rel2 (tat l j) t)→rel2 (tat l q) t→ins l t=l.set q (comb (tat l q) t)
 | [],_,h,_,_=>by simp at h
 | s::l,0,_,_,h=>by
  have h':rel2 s t:=h
  unfold ins;rw [if_pos h'];rfl
 | s::l,q+1,hq,hn,h=>by
  have h0:¬ rel2 s t:=hn 0 (by omega)
  unfold ins;rw [if_neg h0,List.set_cons_succ]
  exact congrArg (s :: ·) (ins_hit (by simpa using hq) (fun j hj=>hn (j+1) (by omega)) h)
theorem ins_miss {t:Tm}:∀ {l:List Tm},(∀ j,j<l.length→¬ rel2 (tat l j) t)→ins l t=l ++ [t]
 | [],_=>rfl
 | s::l,hn=>by
  have h0:¬ rel2 s t:=hn 0 (by simp)
  unfold ins;rw [if_neg h0,List.cons_append]
  exact congrArg (s :: ·) (ins_miss fun j hj=>hn (j+1) (by simpa using hj))
theorem first_rel (l:List Tm) (t:Tm):(∀ j,j<l.length→¬ rel2 (tat l j) t)∨∃ q,q<l.length∧(∀ j,j<q→¬ rel2 (tat l j) t)∧rel2 (tat l q) t:=by
 have key:∀ n,n≤l.length→(∀ j,j<n→¬ rel2 (tat l j) t)∨∃ q,q<l.length∧(∀ j,j<q→¬ rel2 (tat l j) t)∧rel2 (tat l q) t:=by
  intro n
  induction n with
  | zero=>exact fun _ => .inl fun j hj=>by omega
  | succ n ih =>
   intro hn
   rcases ih (by omega) with h | h
   ·by_cases k:rel2 (tat l n) t
    ·exact .inr ⟨n,by omega,h,k⟩
    ·refine .inl fun j hj => ?_
     by_cases e:j=n
     ·rw [e];exact k
     ·exact h j (by omega)
   ·exact .inr h
 exact key l.length (Nat.le_refl _)
theorem tcs_set:∀ (l:List Tm) (q:Nat) (x:Tm),q<l.length→((tcs l).set (q*2) (.string (strQ x.1))).set (q*2+1) (.string (strQ x.2))=tcs (l.set q x)
 | [],_,_,h=>by simp at h
 | t::l,0,x,_=>rfl
 | t::l,q+1,x,h=>by
  have ih:=tcs_set l q x (by simpa using h)
  rw [tcs_cons,List.set_cons_succ,tcs_cons,show (q+1)*2=q*2+1+1 by omega]
  show Value.string (strQ t.1)::Value.string (strQ t.2)::((tcs l).set (q*2) (.string (strQ x.1))).set (q*2+1) (.string (strQ x.2))=_
  rw [ih]
theorem heap_set {W:World} {k:Nat} {vs:Array Value} {t:TypeId} (h:W.heap[k]? = some (.cells vs t (0,0))) (j:Nat) (u:Value):(W.setCell ⟨k,j,none⟩ u).heap[k]? = some (.cells (vs.setIfInBounds j u) t (0,0)):=by
 have hlt:=lt_of_block h
 have h':W.heap[k] = .cells vs t (0,0):=by simpa [Array.getElem?_eq_getElem hlt] using h
 show (W.heap.modify k _)[k]? = _
 rw [Array.getElem?_eq_getElem (by simpa using hlt),Array.getElem_modify_self,h']
 rfl
theorem Ow.set {W:World} {base bb n c:Nat} {T:TypeId} {l:List Tm} (h:Ow W base T (.slice (some ⟨bb,0,none⟩) n c) l) (q:Nat) (hq:q<l.length) (x:Tm) :
  Ow ((W.setCell ⟨bb,q*2,none⟩ (.string (strQ x.1))).setCell ⟨bb,q*2+1,none⟩ (.string (strQ x.2))) base T (.slice (some ⟨bb,0,none⟩) n c) (l.set q x):=by
 refine ⟨by rw [tcs_len],?_⟩
 rw [List.length_set]
 rcases h.2 with ⟨e,_⟩ | ⟨g,cap,cur,e,hb,hg,h1,h2,h3,h4⟩
 ·cases e
 ·cases e
  refine .inr ⟨bb,c,_,rfl,hb,heap_set (heap_set hg _ _) _ _,h1,h2,by simp [h3],?_⟩
  rw [←tcs_set l q x hq,←h4]
  simp only [Array.toList_setIfInBounds,List.take_set]
theorem Ow.frozen {W:World} {base bb n c:Nat} {T:TypeId} {l:List Tm} (h:Ow W base T (.slice (some ⟨bb,0,none⟩) n c) l) (i:Nat):W.frozen? ⟨bb,i,none⟩=false:=by
 rcases h.2 with ⟨e,_⟩ | ⟨g,cap,cur,e,hb,hg,_⟩
 ·cases e
 ·cases e
  exact Blk.free ⟨T,hg⟩ i
def NT (t:Tm):Prop:=Bq 100 t.1∧∃ b:Nat,t.2=(b:Rat)∧Nrm b∧b<tenTo 20
theorem NT.pos {t:Tm} (h:NT t):0<t.2:=by obtain ⟨_,b,e,nb,_⟩:=h;rw [e];exact nat_pos nb.1
theorem rootR_bq {a b k:Nat} (hb:0<b) (la:a<tenTo k) (lb:b<tenTo k) (h:bothS ((a:Rat) / (b:Rat))):Bq k (rootR ((a:Rat) / (b:Rat))):=by
 have b0:=nat_pos hb
 have z0:(0:Rat)≤(a:Rat) / (b:Rat):=div_nn (castn_nonneg a) b0
 have hz:J b a ((a:Rat) / (b:Rat)):=⟨a,by rw [Rat.intCast_natCast];exact Rat.div_mul_cancel (by grind),by simp⟩
 have p:=hz.parts hb
 generalize (a:Rat) / (b:Rat)=z at *
 have q:rootN z.den≠0:=fun e=>by have:=h.2;rw [e] at this;have:=z.den_pos;omega
 have e:rootR z=Rat.divInt (rootN z.num.natAbs:Nat) ((rootN z.den:Nat):Int):=rfl
 rw [e]
 refine Bq.of_int (by omega) ?_ ?_
 ·show Int.natAbs _<_;rw [Int.natAbs_natCast];exact Nat.lt_of_le_of_lt (Nat.le_trans (root_le _) p.1) la
 ·show Int.natAbs _<_;rw [Int.natAbs_natCast];exact Nat.lt_of_le_of_lt (Nat.le_trans (root_le _) p.2) lb
theorem with_ok (l:List Tm) (t:Tm) (v:Value) (base:Nat) (w:World) (ho:Ow w base 50 v l) (hbase:base≤w.heap.size) (hl:l.length≤1000)
  (hN:∀ s∈l,NT s) (tN:NT t) (ht:Tab w) (ht2:Tab64 w) :
  Calls Tryz.prog 88 #[v,.agg #[.string (strQ t.1),.string (strQ t.2)]] w fun e W'=>∃ v',e = .returned (.tuple #[v',.int .i64 0])∧Ow W' base 50 v' (ins l t)∧w.grownBy W' v.ownBlock:=by
 rcases ho.2 with ⟨rfl,hn⟩ | ⟨bb,c,cur,rfl,hb,hg,hc,_⟩
 ·have e:l = []:=List.eq_nil_of_length_eq_zero hn
  subst e
  exact (with_nil (strQ t.1) (strQ t.2) w base hbase).mono fun e W' ⟨v',e1,e2,e3⟩=>⟨v',e1,e2,e3⟩
 have own:=ho
 obtain ⟨tb,a,ea,na,la⟩:=tN
 have lt:bb<w.heap.size:=lt_of_block hg
 have hcl:=World.ownsRow.cells (show w.ownsRow base 50 2 (.slice (some ⟨bb,0,none⟩) l.length c) l.length (tcs l) from ho) (g:=bb) rfl
 have ha:∀ j,(⟨bb,0,none⟩:Addr).add j=⟨bb,j,none⟩:=fun j=>by unfold Addr.add;split <;> simp_all
 have hc0:∀ j,j<l.length→w.cell? ⟨bb,j*2,none⟩=some (.string (strQ (tat l j).1)):=fun j hj=>by rw [←ha,Nat.mul_comm];exact hcl _ _ (tcs_at l j hj).1
 have hc1:∀ j,j<l.length→w.cell? ⟨bb,j*2+1,none⟩=some (.string (strQ (tat l j).2)):=fun j hj=>by rw [←ha,Nat.mul_comm];exact hcl _ _ (tcs_at l j hj).2
 have nt:∀ j,j<l.length→∃ b:Nat,(tat l j).2=(b:Rat)∧Nrm b∧b<tenTo 20∧Bq 100 (tat l j).1:=fun j hj=>by
  obtain ⟨h1,b,e,h2,h3⟩:=hN _ (tat_mem hj);exact ⟨b,e,h2,h3,h1⟩
 have up:∀ {x:Nat},x<tenTo 20→x<tenTo 90:=fun h=>Nat.lt_of_lt_of_le h (tenTo_mono (by decide))
 have ord:∀ j,j<l.length→∀ W,Below w.heap.size w W→Calls Tryz.prog 111 #[.string (strQ (tat l j).2),.string (strQ t.2)] W fun e W'=>e = .returned (.int .i64 (cmpQ (tat l j).2 t.2))∧Below W.heap.size W W':=fun j hj W _=>by
  obtain ⟨b,eb,_,lb,_⟩:=nt j hj
  rw [eb,ea,strQ_nat,strQ_nat]
  have c1:=sorder b a W (ten_lim (by decide) lb) (ten_lim (by decide) la)
  have e1:cmpQ ((b:Nat):Rat) ((a:Nat):Rat)=cmpZ (b:Int) (a:Int):=by
   unfold cmpQ;rw [Rat.num_natCast,Rat.num_natCast,Rat.den_natCast,Rat.den_natCast,Int.natCast_one,Int.mul_one,Int.mul_one]
  rwa [e1]
 have gt:∀ j,0<cmpQ (tat l j).2 t.2↔t.2<(tat l j).2:=fun j=>by
  rcases ratTri (tat l j).2 t.2 with h | h | h
  ·rw [cmpQ_lt h];exact ⟨fun k=>by omega,fun k=>by grind⟩
  ·rw [h,cmpQ_eq];exact ⟨fun k=>by omega,fun k=>by grind⟩
  ·rw [cmpQ_gt h];exact ⟨fun _=>h,fun _=>by decide⟩
 have lh:∀ j,(0<cmpQ (tat l j).2 t.2→loT2 (tat l j) t=t∧hiT2 (tat l j) t=tat l j)∧(¬ 0<cmpQ (tat l j).2 t.2→loT2 (tat l j) t=tat l j∧hiT2 (tat l j) t=t):=fun j=>by
  rw [gt j];unfold loT2 hiT2
  exact ⟨fun h=>⟨if_pos h,if_pos h⟩,fun h=>⟨if_neg h,if_neg h⟩⟩
 have nop:∀ j,j<l.length→¬ rel2 (tat l j) t→0<cmpQ (tat l j).2 t.2→∀ W,Below w.heap.size w W→Calls Tryz.prog 112 #[.string (strQ (tat l j).2),.string (strQ t.2)] W fun e W'=>e = .returned (.tuple #[.string ⟨#[]⟩,.bool false])∧Below W.heap.size W W':=fun j hj hr hx W hw=>by
  obtain ⟨b,eb,nb,lb,_⟩:=nt j hj
  obtain ⟨l1,l2⟩:=(lh j).1 hx
  unfold rel2 at hr;rw [l1,l2,eb,ea] at hr
  rw [eb,ea]
  exact ratio_no b a W nb na (up lb) (up la) hr (ht.next hw) (TabQ_next ht2 hw)
 have non:∀ j,j<l.length→¬ rel2 (tat l j) t→¬ 0<cmpQ (tat l j).2 t.2→∀ W,Below w.heap.size w W→Calls Tryz.prog 112 #[.string (strQ t.2),.string (strQ (tat l j).2)] W fun e W'=>e = .returned (.tuple #[.string ⟨#[]⟩,.bool false])∧Below W.heap.size W W':=fun j hj hr hx W hw=>by
  obtain ⟨b,eb,nb,lb,_⟩:=nt j hj
  obtain ⟨l1,l2⟩:=(lh j).2 hx
  unfold rel2 at hr;rw [l1,l2,eb,ea] at hr
  rw [eb,ea]
  exact ratio_no a b W na nb (up la) (up lb) hr (ht.next hw) (TabQ_next ht2 hw)
 rcases first_rel l t with hm | ⟨q,hq,hm,hr⟩
 ·rw [ins_miss hm]
  refine (with_miss bb l.length c l.length (fun j=>strQ (tat l j).1) (fun j=>strQ (tat l j).2) (strQ t.1) (strQ t.2) (fun j=>cmpQ (tat l j).2 t.2) w lt hc0 hc1 base (tcs l) own hbase rfl hl
   ord (fun j hj hx=>nop j hj (hm j hj) hx) (fun j hj hx=>non j hj (hm j hj) hx)).mono fun e W' ⟨v',e1,e2,e3⟩=>⟨v',e1,?_,e3⟩
  unfold Ow
  rw [tcs_append,List.length_append]
  exact e2
 ·rw [ins_hit hq hm hr]
  obtain ⟨b,eb,nb,lb,cb⟩:=nt q hq
  have fin:∀ W1,Below w.heap.size w W1→Ow ((W1.setCell ⟨bb,q*2,none⟩ (.string (strQ (comb (tat l q) t).1))).setCell ⟨bb,q*2+1,none⟩ (.string (strQ (comb (tat l q) t).2))) base 50 (.slice (some ⟨bb,0,none⟩) l.length c) (l.set q (comb (tat l q) t)) ∧
    w.grownBy ((W1.setCell ⟨bb,q*2,none⟩ (.string (strQ (comb (tat l q) t).1))).setCell ⟨bb,q*2+1,none⟩ (.string (strQ (comb (tat l q) t).2))) (some bb):=fun W1 hw=>by
   refine ⟨Ow.set (own.next hw) q hq _,?_⟩
   refine ⟨hw.os,hw.tape,hw.output,?_,fun k hk hne => ?_⟩
   ·have h1:∀ (V:World) (p:Addr) (u:Value),(V.setCell p u).heap.size=V.heap.size:=fun V p u=>by simp [World.setCell]
    rw [h1,h1];exact hw.size
   ·have ne:k≠bb:=fun e=>hne (by rw [e])
    rw [Below.heap_setCell _ _ _ _ ne,Below.heap_setCell _ _ _ _ ne];exact hw.block k hk
  by_cases hx:0<cmpQ (tat l q).2 t.2
  ·obtain ⟨l1,l2⟩:=(lh q).1 hx
   have hr':=hr
   unfold rel2 at hr';rw [l1,l2,eb,ea] at hr'
   have rb:=rootR_bq na.1 lb la hr'
   have m1:=qmul_ok cb rb (by decide)
   have a1:=qadd_ok tb m1.2.2 (by decide)
   have ec:comb (tat l q) t=(t.1+(tat l q).1*rootR ((b:Rat) / (a:Rat)),t.2):=by
    unfold comb;rw [l1,l2,eb,ea]
   rw [ec] at fin ⊢
   refine (with_hit_p bb l.length c q (fun j=>strQ (tat l j).1) (fun j=>strQ (tat l j).2) (strQ t.1) (strQ t.2) (fun j=>cmpQ (tat l j).2 t.2) w lt hc0 hc1 (own.frozen) hq hl
    (strQ (rootR ((b:Rat) / (a:Rat)))) (strQ ((tat l q).1*rootR ((b:Rat) / (a:Rat)))) (strQ (t.1+(tat l q).1*rootR ((b:Rat) / (a:Rat)))) (strQ t.2) rfl hx
    ord (fun j hj hx=>nop j (by omega) (hm j hj) hx) (fun j hj hx=>non j (by omega) (hm j hj) hx)
    (fun W hw=>by rw [eb,ea];exact ratio_yes b a W nb na (up lb) (up la) hr' (ht.next hw) (TabQ_next ht2 hw))
    (fun W hw=>by
     have c1:=Mul_q (tat l q).1 (rootR ((b:Rat) / (a:Rat))) W (cb.lim (by decide)) (rb.lim (by decide)) (ht.next hw) (TabQ_next ht2 hw)
     rwa [m1.1,m1.2.1] at c1)
    (fun W hw=>by
     have c1:=Add_q t.1 ((tat l q).1*rootR ((b:Rat) / (a:Rat))) W (tb.lim (by decide)) (m1.2.2.lim (by decide)) (ht.next hw) (TabQ_next ht2 hw)
     rwa [a1.1,a1.2.1] at c1)).mono fun e W' ⟨e1,W1,hw,e2⟩=>⟨_,e1,?_,?_⟩
   ·rw [e2];exact (fin W1 hw).1
   ·rw [e2];exact (fin W1 hw).2
  ·obtain ⟨l1,l2⟩:=(lh q).2 hx
   have hr':=hr
   unfold rel2 at hr';rw [l1,l2,eb,ea] at hr'
   have rb:=rootR_bq nb.1 la lb hr'
   have m1:=qmul_ok tb rb (by decide)
   have a1:=qadd_ok cb m1.2.2 (by decide)
   have ec:comb (tat l q) t=((tat l q).1+t.1*rootR ((a:Rat) / (b:Rat)),(tat l q).2):=by
    unfold comb;rw [l1,l2,eb,ea]
   rw [ec] at fin ⊢
   refine (with_hit_n bb l.length c q (fun j=>strQ (tat l j).1) (fun j=>strQ (tat l j).2) (strQ t.1) (strQ t.2) (fun j=>cmpQ (tat l j).2 t.2) w lt hc0 hc1 (own.frozen) hq hl
    (strQ (rootR ((a:Rat) / (b:Rat)))) (strQ (t.1*rootR ((a:Rat) / (b:Rat)))) (strQ ((tat l q).1+t.1*rootR ((a:Rat) / (b:Rat)))) (strQ (tat l q).2) rfl hx
    ord (fun j hj hx=>nop j (by omega) (hm j hj) hx) (fun j hj hx=>non j (by omega) (hm j hj) hx)
    (fun W hw=>by rw [eb,ea];exact ratio_yes a b W na nb (up la) (up lb) hr' (ht.next hw) (TabQ_next ht2 hw))
    (fun W hw=>by
     have c1:=Mul_q t.1 (rootR ((a:Rat) / (b:Rat))) W (tb.lim (by decide)) (rb.lim (by decide)) (ht.next hw) (TabQ_next ht2 hw)
     rwa [m1.1,m1.2.1] at c1)
    (fun W hw=>by
     have c1:=Add_q (tat l q).1 (t.1*rootR ((a:Rat) / (b:Rat))) W (cb.lim (by decide)) (m1.2.2.lim (by decide)) (ht.next hw) (TabQ_next ht2 hw)
     rwa [a1.1,a1.2.1] at c1)).mono fun e W' ⟨e1,W1,hw,e2⟩=>⟨_,e1,?_,?_⟩
   ·rw [e2];exact (fin W1 hw).1
   ·rw [e2];exact (fin W1 hw).2
end Go.Proofs.YtjdfjgfdbgmbiaaGreatDoor.T
namespace Go.Proofs.YtjdfjgfdbgmbiaaGreatDoor.T
open Go.Proofs.YtjdfjgfdbgmbiaaGreatDoor Go Go.RowKit
def St (B:Nat) (l:List Tm) (W:World):Prop:=∃ v,Blk W B #[v]∧Ow W (B+1) 50 v l
theorem St.next {B:Nat} {l:List Tm} {W W':World} (h:St B l W) (g:Below W.heap.size W W'):St B l W':=by
 obtain ⟨v,h1,h2⟩:=h;exact ⟨v,h1.next g,h2.next g⟩
theorem Ow.apart {W:World} {B:Nat} {T:TypeId} {v:Value} {l:List Tm} (h:Ow W (B+1) T v l):v.ownBlock≠some B:=by
 rcases h.2 with ⟨rfl,_⟩ | ⟨g,cap,cur,rfl,hb,_⟩
 ·simp [Value.ownBlock]
 ·simp [Value.ownBlock];omega
theorem Ow.low {W W':World} {B:Nat} {T:TypeId} {v:Value} {l:List Tm} (h:Ow W (B+1) T v l) (g:W.grownBy W' v.ownBlock) (hB:B<W.heap.size):Below B W W' :=
 ⟨g.os,g.tape,g.output,g.size,fun k hk=>g.block k (by omega) (by
  rcases h.2 with ⟨rfl,_⟩ | ⟨b,cap,cur,rfl,hb,_⟩
  ·simp [Value.ownBlock]
  ·simp [Value.ownBlock];omega)⟩
theorem blk_grown {W W':World} {B:Nat} {vs:Array Value} {r:Option Nat} (h:Blk W B vs) (g:W.grownBy W' r) (hr:r≠some B):Blk W' B vs:=by
 have hl:=h.lt
 obtain ⟨t,e⟩:=h
 exact ⟨t,(g.block B hl (fun k=>hr k.symm)).trans e⟩
theorem visitor_core (B n c:Nat) (p:Option Addr) (tc tr:ByteArray) (w:World) (Q:Value→World→Prop) (hb:Blk w B #[.slice p n c])
  (h1:Calls Tryz.prog 88 #[.slice p n c,.agg #[.string tc,.string tr]] (w.alloc (.cells #[.string tc,.string tr] 50)) fun e W'=>∃ p' n' c',e = .returned (.tuple #[.slice p' n' c',.int .i64 0])∧Blk W' B #[.slice p n c]∧Q (.slice p' n' c') (W'.setCell ⟨B,0,none⟩ (.slice p' n' c'))) :
  Calls Tryz.prog 87 #[.agg #[.string tc,.string tr],.pointer (some ⟨B,0,none⟩)] w fun e W'=>e = .returned (.int .i64 0)∧∃ v,Q v W':=by
 have O:=Lib.hid h1;clear h1
 have e0:=(show World.cell? _ ⟨B,0,none⟩=some (.slice p n c) from (hb.alloc (.cells #[.string tc,.string tr] 50)).cell 0 _ rfl)
 clear hb
 go_enter Tryz.func87,Tryz.ntmps87
 go_wp2_with fail
 refine O.out.mono ?_
 rintro e w1 ⟨p',n',c',rfl,hb,hQ⟩
 have HQ:=Lib.hid hQ;clear hQ
 have e0:=(show World.cell? _ ⟨B,0,none⟩=some (.slice p n c) from hb.cell 0 _ rfl)
 have f0:=(show World.frozen? _ ⟨B,0,none⟩=false from hb.free 0)
 clear hb
 go_wp2
 go_ret
 exact ⟨rfl,_,HQ.out⟩
theorem visitor_ok (B:Nat) (l:List Tm) (t:Tm) (w:World) (hs:St B l w) (hl:l.length≤1000) (hN:∀ s∈l,NT s) (tN:NT t) (ht:Tab w) (ht2:Tab64 w) :
  Calls Tryz.prog 87 #[.agg #[.string (strQ t.1),.string (strQ t.2)],.pointer (some ⟨B,0,none⟩)] w fun e W'=>e = .returned (.int .i64 0)∧St B (ins l t) W'∧Below B w W':=by
 obtain ⟨v,hb,ho⟩:=hs
 have hB:=hb.lt
 have b1:Below w.heap.size w (w.alloc (.cells #[.string (strQ t.1),.string (strQ t.2)] 50)):=(Below.refl _ w).alloc (Nat.le_refl _) _
 have ho1:=ho.next b1
 obtain ⟨p,c,rfl,_,_⟩:=ho.rd
 refine (visitor_core B l.length c p _ _ w (fun v' W'=>St B (ins l t) W'∧Below B w W') hb ?_).mono fun e W' ⟨e1,_,e2⟩=>⟨e1,e2⟩
 refine (with_ok l t _ (B+1) _ ho1 (by simp;omega) hl hN tN (ht.next b1) (TabQ_next ht2 b1)).mono fun e W' ⟨v',e1,e2,e3⟩ => ?_
 obtain ⟨p',c',rfl,_,_⟩:=e2.rd
 have hb1:=hb.alloc (.cells #[.string (strQ t.1),.string (strQ t.2)] 50)
 have hb2:=blk_grown hb1 e3 ho1.apart
 refine ⟨p',(ins l t).length,c',e1,hb2,⟨_,hb2.put1 _,?_⟩,?_⟩
 ·exact ownsRow_setCell_other e2 (by have:=e2.apart;exact this) _
 ·exact (((b1.mono (by omega)).trans (ho1.low e3 (by simp;omega))).setCell (p:=⟨B,0,none⟩) (Nat.le_refl _) _)
end Go.Proofs.YtjdfjgfdbgmbiaaGreatDoor.T
namespace Go.Proofs.YtjdfjgfdbgmbiaaGreatDoor.T
open Go.Proofs.YtjdfjgfdbgmbiaaGreatDoor Go Go.RowKit
noncomputable def nrmT (t:Tm):Tm:=(t.1*nC t.2,((nN t.2:Nat):Rat))
noncomputable def stp (l:List Tm) (t:Tm):List Tm:=if t.1=0∨t.2=0 then l else ins l (nrmT t)
noncomputable def gth (g:List Tm):List Tm:=g.foldl stp []
theorem gth_take {g:List Tm} {j:Nat} (h:j<g.length):gth (g.take (j+1))=stp (gth (g.take j)) (tat g j):=by
 unfold gth
 rw [List.take_succ_eq_append_getElem h,List.foldl_append,tat_get h];rfl
theorem visit_core (b n c B:Nat) (cs rs nc nr:Nat→ByteArray) (zc zr:Nat→Bool) (w:World) (I:Nat→World→Prop) (h1000:n≤1000)
  (hzc:∀ j,j<n→((cs j).toList == [48])=zc j) (hzr:∀ j,j<n→((rs j).toList == [48])=zr j)
  (hI0:I 0 w) (hIn:∀ j W W',I j W→Below W.heap.size W W'→I j W')
  (hc:∀ j,j<n→∀ W,I j W→W.cell? ⟨b,j*2,none⟩=some (.string (cs j))∧W.cell? ⟨b,j*2+1,none⟩=some (.string (rs j)))
  (hs:∀ j,j<n→(zc j || zr j)=true→∀ W,I j W→I (j+1) W)
  (hm:∀ j,j<n→(zc j || zr j)=false→∀ W,I j W→Calls Tryz.prog 113 #[.agg #[.string (cs j),.string (rs j)]] W fun e W'=>e = .returned (.tuple #[.agg #[.string (nc j),.string (nr j)],.int .i64 0])∧Below W.heap.size W W')
  (hv:∀ j,j<n→(zc j || zr j)=false→∀ W,I j W→Calls Tryz.prog 87 #[.agg #[.string (nc j),.string (nr j)],.pointer (some ⟨B,0,none⟩)] W fun e W'=>e = .returned (.int .i64 0)∧I (j+1) W') :
  Calls Tryz.prog 86 #[.slice (some ⟨b,0,none⟩) n c,.func (.func 87) #[] #[.pointer (some ⟨B,0,none⟩)]] w fun e W'=>e = .returned (.int .i64 0)∧I n W':=by
 have eg:∀ args W,(callFunc 87 args).run Tryz.prog W = .ok (.enter 87 args) W:=enters_of Tryz.func87 (by kernel_rfl) rfl
 have O:=Lib.hid (And.intro hzc (And.intro hzr (And.intro hI0 (And.intro hIn (And.intro hc (And.intro hs (And.intro hm hv)))))));clear hzc hzr hI0 hIn hc hs hm hv
 go_enter Tryz.func86,Tryz.ntmps86
 go_wp2
 go_loopw [12] (fun i wr=>∃ j:Nat,i = .int .i64 j∧j≤n∧Hid (I j wr)) (fun i _=>n - (intOf i).toNat)
 case atStart=>exact ⟨0,rfl,by omega,O.out.2.2.1⟩
 case round =>
  obtain ⟨j,rfl,hj,HI⟩:=hrel
  by_cases hlt:j<n
  ·have hz:(j:Int)<n:=by omega
   obtain ⟨d0,d1⟩:=O.out.2.2.2.2.1 j hlt _ HI.out
   have HN:=Lib.hid (O.out.2.2.2.1 j _ _ HI.out ((Below.refl _ wr).alloc (Nat.le_refl _) (.cells #[.string (cs j),.string (rs j)] 50)))
   have zc1:=O.out.1 j hlt
   have zr1:=O.out.2.1 j hlt
   have hs:=Lib.hid (O.out.2.2.2.2.2.1 j hlt)
   have hm:=Lib.hid (O.out.2.2.2.2.2.2.1 j hlt)
   have hv:=Lib.hid (O.out.2.2.2.2.2.2.2 j hlt)
   have hIn:=Lib.hid (O.out.2.2.2.1)
   clear O HI
   generalize zc j=x at *
   generalize zr j=y at *
   generalize cs j=cj at *
   generalize rs j=rj at *
   generalize nc j=ncj at *
   generalize nr j=nrj at *
   cases x
   ·cases y
    ·go_wp2_with fail
     have hk:=Blk.new wr #[.string cj,.string rj] 50
     generalize wr.alloc (.cells #[.string cj,.string rj] 50)=u at *
     generalize wr.heap.size=k at *
     clear d0 d1
     have e0:=(show World.cell? _ ⟨k,0,none⟩=some (.string cj) from hk.cell 0 _ rfl)
     have e1:=(show World.cell? _ ⟨k,1,none⟩=some (.string rj) from hk.cell 1 _ rfl)
     have HK:=Lib.hid hk;clear hk
     go_wp2_with fail
     refine (hm.out rfl _ HN.out).mono ?_
     rintro e w2 ⟨rfl,bb⟩
     have HN2:=Lib.hid (hIn.out j _ _ HN.out bb)
     clear HN bb e0 e1 HK
     go_wp2_with fail
     have HN3:=Lib.hid (hIn.out j _ _ HN2.out ((Below.refl _ w2).alloc (Nat.le_refl _) (.cells #[.string ncj,.string nrj] 50)))
     have hk:=Blk.new w2 #[.string ncj,.string nrj] 50
     generalize w2.alloc (.cells #[.string ncj,.string nrj] 50)=u2 at *
     generalize w2.heap.size=k2 at *
     have e0:=(show World.cell? _ ⟨k2,0,none⟩=some (.string ncj) from hk.cell 0 _ rfl)
     have e1:=(show World.cell? _ ⟨k2,1,none⟩=some (.string nrj) from hk.cell 1 _ rfl)
     clear hk
     go_wp2_with fail
     refine (hv.out rfl _ HN3.out).mono ?_
     rintro e w3 ⟨rfl,hi⟩
     have HI:=Lib.hid hi;clear hi
     go_wp2
     go_roundw
     case rel=>exact ⟨j+1,by go_num,by omega,HI.out⟩
     case measure=>simp [intOf];omega
    ·go_wp2
     go_roundw
     case rel=>exact ⟨j+1,by go_num,by omega,hs.out rfl _ HN.out⟩
     case measure=>simp [intOf];omega
   ·go_wp2
    go_roundw
    case rel=>exact ⟨j+1,by go_num,by omega,hs.out (by simp) _ HN.out⟩
    case measure=>simp [intOf];omega
  ·obtain rfl:j=n:=by omega
   have hz:¬ (j:Int)<j:=by omega
   go_wp2
   go_ret
   exact ⟨rfl,HI.out⟩
end Go.Proofs.YtjdfjgfdbgmbiaaGreatDoor.T
namespace Go.Proofs.YtjdfjgfdbgmbiaaGreatDoor.T
open Go.Proofs.YtjdfjgfdbgmbiaaGreatDoor Go Go.RowKit
theorem ins_len (t:Tm):∀ l:List Tm,(ins l t).length≤l.length+1
 | []=>by simp [ins]
 | s::l=>by
  unfold ins
  split
  ·simp
  ·have:=ins_len t l
   simp only [List.length_cons];omega
theorem gth_len (g:List Tm):(gth g).length≤g.length:=by
 have key:∀ (g l:List Tm),(g.foldl stp l).length≤l.length+g.length:=by
  intro g
  induction g with
  | nil=>intro l;simp
  | cons t g ih =>
   intro l
   have h:=ih (stp l t)
   have h2:(stp l t).length≤l.length+1:=by
    unfold stp;split
    ·omega
    ·exact ins_len _ _
   simp only [List.foldl_cons,List.length_cons];omega
 have:=key g []
 simpa [gth] using this
structure Gv (g:List Tm):Prop where
 len:g.length≤256
 ok:∀ t∈g,0≤t.2∧Bq 90 t.2∧Bq 100 t.1
 nrm:∀ t∈g,t.1≠0→t.2≠0→Bq 90 (nC t.2)∧NT (nrmT t)
 pre:∀ j,j≤g.length→∀ s∈gth (g.take j),NT s
theorem normal_ok (t:Tm) (w:World) (h0:0≤t.2) (h2:Bq 90 t.2) (hc:Bq 100 t.1) (hm:Bq 90 (nC t.2)) (hn:NT (nrmT t)) (ht:Tab w) (ht2:Tab64 w) (hS:Sm w) :
  Calls Tryz.prog 113 #[.agg #[.string (strQ t.1),.string (strQ t.2)]] w fun e W'=>e = .returned (.tuple #[.agg #[.string (strQ (nrmT t).1),.string (strQ (nrmT t).2)],.int .i64 0])∧Below w.heap.size w W':=by
 obtain ⟨_,b,eb,_,lb⟩:=hn
 have eb':nN t.2=b:=Rat.natCast_inj.1 eb
 have lb':nN t.2<tenTo 20:=by rw [eb'];exact lb
 have m1:=qmul_ok hc hm (by decide)
 have s2:(strQ (nrmT t).2).size≤90:=(sizeN (by decide)).2 (Nat.lt_of_lt_of_le lb' (tenTo_mono (by decide)))
 refine normal_core _ _ (strQ (nC t.2)) (strQ (nrmT t).2) (strQ (nrmT t).1) w s2 (fun W hw => ?_) (fun W hw => ?_)
 ·have c:=Normal_q t.2 W h0 h2 (ht.next hw) (TabQ_next ht2 hw) (hS.next hw)
  rwa [←strQ_nat] at c
 ·have c:=Mul_q t.1 (nC t.2) W (hc.lim (by decide)) (hm.lim (by decide)) (ht.next hw) (TabQ_next ht2 hw)
  rwa [m1.1,m1.2.1] at c
theorem visit_nil (p:Option Addr) (c B:Nat) (w:World) :
  Calls Tryz.prog 86 #[.slice p 0 c,.func (.func 87) #[] #[.pointer (some ⟨B,0,none⟩)]] w fun e W'=>e = .returned (.int .i64 0)∧W'=w:=by
 go_enter Tryz.func86,Tryz.ntmps86
 go_wp2
 go_rounds 1
 all_goals go_ret
 all_goals exact ⟨rfl,rfl⟩
theorem is0Q (x:Rat):((strQ x).toList == [48])=decide (x=0):=by
 by_cases h:x=0
 ·rw [decide_eq_true h,h,strQ_zero];exact (is0_iff _).2 rfl
 ·rw [decide_eq_false h];exact nz48 h
theorem visitNormal_ok (g:List Tm) (hg:Gv g) (B:Nat) (w0 w:World) (p:Option Addr) (n c:Nat) (hB:B=w0.heap.size) (h0:Below B w0 w) (hs:St B [] w) (hn:n=g.length) (hx:Rd w0 p g)
  (ht:Tab w0) (ht2:Tab64 w0) (hS:Sm w0) :
  Calls Tryz.prog 86 #[.slice p n c,.func (.func 87) #[] #[.pointer (some ⟨B,0,none⟩)]] w fun e W'=>e = .returned (.int .i64 0)∧St B (gth g) W'∧Below B w0 W':=by
 have hlen:=hg.len
 rcases Nat.eq_zero_or_pos n with z | z
 ·have e:g = []:=List.eq_nil_of_length_eq_zero (by omega)
  subst e
  rw [z]
  exact (visit_nil p c B w).mono fun e W' ⟨e1,e2⟩=>⟨e1,by rw [e2];exact hs,by rw [e2];exact h0⟩
 ·obtain ⟨b,rfl,tl⟩:=hx (by omega)
  have tb:∀ W,Below B w0 W→Tab W:=fun W h=>ht.next (by rw [←hB];exact h)
  have tb2:∀ W,Below B w0 W→Tab64 W:=fun W h=>TabQ_next ht2 (by rw [←hB];exact h)
  have tb3:∀ W,Below B w0 W→Sm W:=fun W h=>hS.next (by rw [←hB];exact h)
  have flag:∀ j,(decide ((tat g j).1=0) || decide ((tat g j).2=0))=true↔((tat g j).1=0∨(tat g j).2=0):=fun j=>by simp
  refine (visit_core b n c B (fun j=>strQ (tat g j).1) (fun j=>strQ (tat g j).2) (fun j=>strQ (nrmT (tat g j)).1) (fun j=>strQ (nrmT (tat g j)).2)
   (fun j=>decide ((tat g j).1=0)) (fun j=>decide ((tat g j).2=0)) w (fun j W=>St B (gth (g.take j)) W∧Below B w0 W) (by omega)
   (fun j _=>is0Q _) (fun j _=>is0Q _) ⟨hs,h0⟩ (fun j W W' h k=>⟨h.1.next k,h.2.trans (k.mono (by have:=h.2.size;omega))⟩)
   (fun j hj W h=>⟨(h.2.cell (p:=⟨b,j*2,none⟩) (by have:=tl.lt;show b<B;omega)).trans (tl.c0 j (by omega)),(h.2.cell (p:=⟨b,j*2+1,none⟩) (by have:=tl.lt;show b<B;omega)).trans (tl.c1 j (by omega))⟩)
   (fun j hj hz W h => ?_) (fun j hj hz W h => ?_) (fun j hj hz W h => ?_)).mono fun e W' ⟨e1,e2,e3⟩=>⟨e1,?_,e3⟩
  ·refine ⟨?_,h.2⟩
   rw [gth_take (by omega)]
   unfold stp
   rw [if_pos ((flag j).1 hz)]
   exact h.1
  ·have nz:¬ ((tat g j).1=0∨(tat g j).2=0):=fun k=>by have:=(flag j).2 k;rw [hz] at this;cases this
   have hm:=tat_mem (l:=g) (j:=j) (by omega)
   obtain ⟨a1,a2,a3⟩:=hg.ok _ hm
   obtain ⟨b1,b2⟩:=hg.nrm _ hm (fun k=>nz (.inl k)) (fun k=>nz (.inr k))
   exact normal_ok _ W a1 a2 a3 b1 b2 (tb W h.2) (tb2 W h.2) (tb3 W h.2)
  ·have nz:¬ ((tat g j).1=0∨(tat g j).2=0):=fun k=>by have:=(flag j).2 k;rw [hz] at this;cases this
   have hm:=tat_mem (l:=g) (j:=j) (by omega)
   obtain ⟨b1,b2⟩:=hg.nrm _ hm (fun k=>nz (.inl k)) (fun k=>nz (.inr k))
   have hl:=gth_len (g.take j)
   rw [List.length_take] at hl
   refine (visitor_ok B (gth (g.take j)) (nrmT (tat g j)) W h.1 (by omega) (hg.pre j (by omega)) b2 (tb W h.2) (tb2 W h.2)).mono fun e W' ⟨e1,e2,e3⟩=>⟨e1,?_,h.2.trans e3⟩
   rw [gth_take (by omega)]
   unfold stp
   rw [if_neg nz]
   exact e2
  ·rwa [hn,List.take_length] at e2
end Go.Proofs.YtjdfjgfdbgmbiaaGreatDoor.T
