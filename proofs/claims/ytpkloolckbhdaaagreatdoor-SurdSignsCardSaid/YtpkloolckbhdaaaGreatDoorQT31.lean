/- Parts of the proof of the text YtpkloolckbhdaaaGreatDoorQT38. -/
import Derived.Shelf.SlGeneric
import Derived.Shelf.SlicesE.Clone
import Derived.Shelf.Spec.SlicesGrow
import Derived.Shelf.SlicesQ.IndexFunc
import Derived.Shelf.SlSortCmp.WholeK
import Derived.Ground.SlgnProg
import Derived.Ground.SlgfProg
import Derived.Ground.SlsfProg
import Derived.Ground.Names8Prog
import Derived.Test.YtpkloolckbhdaaaGreatDoorProg
import Derived.Test.YtpkloolckbhdaaaGreatDoorQT1
import Derived.Test.YtpkloolckbhdaaaGreatDoorQT30
set_option linter.all false
set_option maxRecDepth 100000
set_option maxHeartbeats 8000000
namespace Go.Proofs.YtpkloolckbhdaaaGreatDoor.T
open Go.Proofs.YtpkloolckbhdaaaGreatDoor Go Go.RowKit
theorem ins_hit {t:Tm}:∀ {l:List Tm} {q:Nat},q<l.length→(∀ j,j<q→¬ rel2 (tat l j) t)→rel2 (tat l q) t→ins l t=l.set q (comb (tat l q) t)
 | [],_,h,_,_=>by simp at h
 | s::l,0,_,_,h=>by
  have h':rel2 s t:=h
  unfold ins;rw [if_pos h'];rfl
 | s::l,q+1,hq,hn,h=>by
  have h0:¬ rel2 s t:=hn 0 (by omega)
  unfold ins;rw [if_neg h0,List.set_cons_succ]
  exact congrArg (s :: ·) (ins_hit (by simpa using hq) (fun j hj=>hn (j+1) (by omega)) h)
theorem ins_miss {t:Tm}:∀ {l:List Tm},(∀ j,j<l.length→¬ rel2 (tat l j) t)→ins l t=l ++ [t]
 | [],_=>rfl
 | s::l,hn=>by
  have h0:¬ rel2 s t:=hn 0 (by simp)
  unfold ins;rw [if_neg h0,List.cons_append]
  exact congrArg (s :: ·) (ins_miss fun j hj=>hn (j+1) (by simpa using hj))
theorem first_rel (l:List Tm) (t:Tm):(∀ j,j<l.length→¬ rel2 (tat l j) t)∨∃ q,q<l.length∧(∀ j,j<q→¬ rel2 (tat l j) t)∧rel2 (tat l q) t:=by
 have key:∀ n,n≤l.length→(∀ j,j<n→¬ rel2 (tat l j) t)∨∃ q,q<l.length∧(∀ j,j<q→¬ rel2 (tat l j) t)∧rel2 (tat l q) t:=by
  intro n
  induction n with
  | zero=>exact fun _ => .inl fun j hj=>by omega
  | succ n ih =>
   intro hn
   rcases ih (by omega) with h | h
   ·by_cases k:rel2 (tat l n) t
    ·exact .inr ⟨n,by omega,h,k⟩
    ·refine .inl fun j hj => ?_
     by_cases e:j=n
     ·rw [e];exact k
     ·exact h j (by omega)
   ·exact .inr h
 exact key l.length (Nat.le_refl _)
theorem tcs_set:∀ (l:List Tm) (q:Nat) (x:Tm),q<l.length→((tcs l).set (q*2) (.string (strQ x.1))).set (q*2+1) (.string (strQ x.2))=tcs (l.set q x)
 | [],_,_,h=>by simp at h
 | t::l,0,x,_=>rfl
 | t::l,q+1,x,h=>by
  have ih:=tcs_set l q x (by simpa using h)
  rw [tcs_cons,List.set_cons_succ,tcs_cons,show (q+1)*2=q*2+1+1 by omega]
  show Value.string (strQ t.1)::Value.string (strQ t.2)::((tcs l).set (q*2) (.string (strQ x.1))).set (q*2+1) (.string (strQ x.2))=_
  rw [ih]
theorem heap_set {W:World} {k:Nat} {vs:Array Value} {t:TypeId} (h:W.heap[k]? = some (.cells vs t (0,0))) (j:Nat) (u:Value):(W.setCell ⟨k,j,none⟩ u).heap[k]? = some (.cells (vs.setIfInBounds j u) t (0,0)):=by
 have hlt:=lt_of_block h
 have h':W.heap[k] = .cells vs t (0,0):=by simpa [Array.getElem?_eq_getElem hlt] using h
 show (W.heap.modify k _)[k]? = _
 rw [Array.getElem?_eq_getElem (by simpa using hlt),Array.getElem_modify_self,h']
 rfl
theorem Ow.set {W:World} {base bb n c:Nat} {T:TypeId} {l:List Tm} (h:Ow W base T (.slice (some ⟨bb,0,none⟩) n c) l) (q:Nat) (hq:q<l.length) (x:Tm) :
  Ow ((W.setCell ⟨bb,q*2,none⟩ (.string (strQ x.1))).setCell ⟨bb,q*2+1,none⟩ (.string (strQ x.2))) base T (.slice (some ⟨bb,0,none⟩) n c) (l.set q x):=by
 refine ⟨by rw [tcs_len],?_⟩
 rw [List.length_set]
 rcases h.2 with ⟨e,_⟩ | ⟨g,cap,cur,e,hb,hg,h1,h2,h3,h4⟩
 ·cases e
 ·cases e
  refine .inr ⟨bb,c,_,rfl,hb,heap_set (heap_set hg _ _) _ _,h1,h2,by simp [h3],?_⟩
  rw [←tcs_set l q x hq,←h4]
  simp only [Array.toList_setIfInBounds,List.take_set]
theorem Ow.frozen {W:World} {base bb n c:Nat} {T:TypeId} {l:List Tm} (h:Ow W base T (.slice (some ⟨bb,0,none⟩) n c) l) (i:Nat):W.frozen? ⟨bb,i,none⟩=false:=by
 rcases h.2 with ⟨e,_⟩ | ⟨g,cap,cur,e,hb,hg,_⟩
 ·cases e
 ·cases e
  exact Blk.free ⟨T,hg⟩ i
def NT (t:Tm):Prop:=Bq 100 t.1∧∃ b:Nat,t.2=(b:Rat)∧Nrm b∧b<tenTo 20
theorem rootR_bq {a b k:Nat} (hb:0<b) (la:a<tenTo k) (lb:b<tenTo k) (h:bothS ((a:Rat) / (b:Rat))):Bq k (rootR ((a:Rat) / (b:Rat))):=by
 have b0:=nat_pos hb
 have z0:(0:Rat)≤(a:Rat) / (b:Rat):=div_nn (castn_nonneg a) b0
 have hz:J b a ((a:Rat) / (b:Rat)):=⟨a,by rw [Rat.intCast_natCast];exact Rat.div_mul_cancel (by grind),by simp⟩
 have p:=hz.parts hb
 generalize (a:Rat) / (b:Rat)=z at *
 have q:rootN z.den≠0:=fun e=>by have:=h.2;rw [e] at this;have:=z.den_pos;omega
 have e:rootR z=Rat.divInt (rootN z.num.natAbs:Nat) ((rootN z.den:Nat):Int):=rfl
 rw [e]
 refine Bq.of_int (by omega) ?_ ?_
 ·show Int.natAbs _<_;rw [Int.natAbs_natCast];exact Nat.lt_of_le_of_lt (Nat.le_trans (root_le _) p.1) la
 ·show Int.natAbs _<_;rw [Int.natAbs_natCast];exact Nat.lt_of_le_of_lt (Nat.le_trans (root_le _) p.2) lb
theorem with_ok (l:List Tm) (t:Tm) (v:Value) (base:Nat) (w:World) (ho:Ow w base 60 v l) (hbase:base≤w.heap.size) (hl:l.length≤1000)
  (hN:∀ s∈l,NT s) (tN:NT t) (ht:Tab w) (ht2:Tab64 w) :
  Calls Tryz.prog 103 #[v,.agg #[.string (strQ t.1),.string (strQ t.2)]] w fun e W'=>∃ v',e = .returned (.tuple #[v',.int .i64 0])∧Ow W' base 60 v' (ins l t)∧w.grownBy W' v.ownBlock:=by
 rcases ho.2 with ⟨rfl,hn⟩ | ⟨bb,c,cur,rfl,hb,hg,hc,_⟩
 ·have e:l = []:=List.eq_nil_of_length_eq_zero hn
  subst e
  exact (with_nil (strQ t.1) (strQ t.2) w base hbase).mono fun e W' ⟨v',e1,e2,e3⟩=>⟨v',e1,e2,e3⟩
 have own:=ho
 obtain ⟨tb,a,ea,na,la⟩:=tN
 have lt:bb<w.heap.size:=lt_of_block hg
 have hcl:=World.ownsRow.cells (show w.ownsRow base 60 2 (.slice (some ⟨bb,0,none⟩) l.length c) l.length (tcs l) from ho) (g:=bb) rfl
 have ha:∀ j,(⟨bb,0,none⟩:Addr).add j=⟨bb,j,none⟩:=fun j=>by unfold Addr.add;split <;> simp_all
 have hc0:∀ j,j<l.length→w.cell? ⟨bb,j*2,none⟩=some (.string (strQ (tat l j).1)):=fun j hj=>by rw [←ha,Nat.mul_comm];exact hcl _ _ (tcs_at l j hj).1
 have hc1:∀ j,j<l.length→w.cell? ⟨bb,j*2+1,none⟩=some (.string (strQ (tat l j).2)):=fun j hj=>by rw [←ha,Nat.mul_comm];exact hcl _ _ (tcs_at l j hj).2
 have nt:∀ j,j<l.length→∃ b:Nat,(tat l j).2=(b:Rat)∧Nrm b∧b<tenTo 20∧Bq 100 (tat l j).1:=fun j hj=>by
  obtain ⟨h1,b,e,h2,h3⟩:=hN _ (tat_mem hj);exact ⟨b,e,h2,h3,h1⟩
 have up:∀ {x:Nat},x<tenTo 20→x<tenTo 90:=fun h=>Nat.lt_of_lt_of_le h (tenTo_mono (by decide))
 have ord:∀ j,j<l.length→∀ W,Below w.heap.size w W→Calls Tryz.prog 133 #[.string (strQ (tat l j).2),.string (strQ t.2)] W fun e W'=>e = .returned (.int .i64 (cmpQ (tat l j).2 t.2))∧Below W.heap.size W W':=fun j hj W _=>by
  obtain ⟨b,eb,_,lb,_⟩:=nt j hj
  rw [eb,ea,strQ_nat,strQ_nat]
  have c1:=sorder b a W (ten_lim (by decide) lb) (ten_lim (by decide) la)
  have e1:cmpQ ((b:Nat):Rat) ((a:Nat):Rat)=cmpZ (b:Int) (a:Int):=by
   unfold cmpQ;rw [Rat.num_natCast,Rat.num_natCast,Rat.den_natCast,Rat.den_natCast,Int.natCast_one,Int.mul_one,Int.mul_one]
  rwa [e1]
 have gt:∀ j,0<cmpQ (tat l j).2 t.2↔t.2<(tat l j).2:=fun j=>by
  rcases ratTri (tat l j).2 t.2 with h | h | h
  ·rw [cmpQ_lt h];exact ⟨fun k=>by omega,fun k=>by grind⟩
  ·rw [h,cmpQ_eq];exact ⟨fun k=>by omega,fun k=>by grind⟩
  ·rw [cmpQ_gt h];exact ⟨fun _=>h,fun _=>by decide⟩
 have lh:∀ j,(0<cmpQ (tat l j).2 t.2→loT2 (tat l j) t=t∧hiT2 (tat l j) t=tat l j)∧(¬ 0<cmpQ (tat l j).2 t.2→loT2 (tat l j) t=tat l j∧hiT2 (tat l j) t=t):=fun j=>by
  rw [gt j];unfold loT2 hiT2
  exact ⟨fun h=>⟨if_pos h,if_pos h⟩,fun h=>⟨if_neg h,if_neg h⟩⟩
 have nop:∀ j,j<l.length→¬ rel2 (tat l j) t→0<cmpQ (tat l j).2 t.2→∀ W,Below w.heap.size w W→Calls Tryz.prog 134 #[.string (strQ (tat l j).2),.string (strQ t.2)] W fun e W'=>e = .returned (.tuple #[.string ⟨#[]⟩,.bool false])∧Below W.heap.size W W':=fun j hj hr hx W hw=>by
  obtain ⟨b,eb,nb,lb,_⟩:=nt j hj
  obtain ⟨l1,l2⟩:=(lh j).1 hx
  unfold rel2 at hr;rw [l1,l2,eb,ea] at hr
  rw [eb,ea]
  exact ratio_no b a W nb na (up lb) (up la) hr (ht.next hw) (TabQ_next ht2 hw)
 have non:∀ j,j<l.length→¬ rel2 (tat l j) t→¬ 0<cmpQ (tat l j).2 t.2→∀ W,Below w.heap.size w W→Calls Tryz.prog 134 #[.string (strQ t.2),.string (strQ (tat l j).2)] W fun e W'=>e = .returned (.tuple #[.string ⟨#[]⟩,.bool false])∧Below W.heap.size W W':=fun j hj hr hx W hw=>by
  obtain ⟨b,eb,nb,lb,_⟩:=nt j hj
  obtain ⟨l1,l2⟩:=(lh j).2 hx
  unfold rel2 at hr;rw [l1,l2,eb,ea] at hr
  rw [eb,ea]
  exact ratio_no a b W na nb (up la) (up lb) hr (ht.next hw) (TabQ_next ht2 hw)
 rcases first_rel l t with hm | ⟨q,hq,hm,hr⟩
 ·rw [ins_miss hm]
  refine (with_miss bb l.length c l.length (fun j=>strQ (tat l j).1) (fun j=>strQ (tat l j).2) (strQ t.1) (strQ t.2) (fun j=>cmpQ (tat l j).2 t.2) w lt hc0 hc1 base (tcs l) own hbase rfl hl
   ord (fun j hj hx=>nop j hj (hm j hj) hx) (fun j hj hx=>non j hj (hm j hj) hx)).mono fun e W' ⟨v',e1,e2,e3⟩=>⟨v',e1,?_,e3⟩
  unfold Ow
  rw [tcs_append,List.length_append]
  exact e2
 ·rw [ins_hit hq hm hr]
  obtain ⟨b,eb,nb,lb,cb⟩:=nt q hq
  have fin:∀ W1,Below w.heap.size w W1→Ow ((W1.setCell ⟨bb,q*2,none⟩ (.string (strQ (comb (tat l q) t).1))).setCell ⟨bb,q*2+1,none⟩ (.string (strQ (comb (tat l q) t).2))) base 60 (.slice (some ⟨bb,0,none⟩) l.length c) (l.set q (comb (tat l q) t)) ∧
    w.grownBy ((W1.setCell ⟨bb,q*2,none⟩ (.string (strQ (comb (tat l q) t).1))).setCell ⟨bb,q*2+1,none⟩ (.string (strQ (comb (tat l q) t).2))) (some bb):=fun W1 hw=>by
   refine ⟨Ow.set (own.next hw) q hq _,?_⟩
   refine ⟨hw.os,hw.tape,hw.output,?_,fun k hk hne => ?_⟩
   ·have h1:∀ (V:World) (p:Addr) (u:Value),(V.setCell p u).heap.size=V.heap.size:=fun V p u=>by simp [World.setCell]
    rw [h1,h1];exact hw.size
   ·have ne:k≠bb:=fun e=>hne (by rw [e])
    rw [Below.heap_setCell _ _ _ _ ne,Below.heap_setCell _ _ _ _ ne];exact hw.block k hk
  by_cases hx:0<cmpQ (tat l q).2 t.2
  ·obtain ⟨l1,l2⟩:=(lh q).1 hx
   have hr':=hr
   unfold rel2 at hr';rw [l1,l2,eb,ea] at hr'
   have rb:=rootR_bq na.1 lb la hr'
   have m1:=qmul_ok cb rb (by decide)
   have a1:=qadd_ok tb m1.2.2 (by decide)
   have ec:comb (tat l q) t=(t.1+(tat l q).1*rootR ((b:Rat) / (a:Rat)),t.2):=by
    unfold comb;rw [l1,l2,eb,ea]
   rw [ec] at fin ⊢
   refine (with_hit_p bb l.length c q (fun j=>strQ (tat l j).1) (fun j=>strQ (tat l j).2) (strQ t.1) (strQ t.2) (fun j=>cmpQ (tat l j).2 t.2) w lt hc0 hc1 (own.frozen) hq hl
    (strQ (rootR ((b:Rat) / (a:Rat)))) (strQ ((tat l q).1*rootR ((b:Rat) / (a:Rat)))) (strQ (t.1+(tat l q).1*rootR ((b:Rat) / (a:Rat)))) (strQ t.2) rfl hx
    ord (fun j hj hx=>nop j (by omega) (hm j hj) hx) (fun j hj hx=>non j (by omega) (hm j hj) hx)
    (fun W hw=>by rw [eb,ea];exact ratio_yes b a W nb na (up lb) (up la) hr' (ht.next hw) (TabQ_next ht2 hw))
    (fun W hw=>by
     have c1:=Mul_q (tat l q).1 (rootR ((b:Rat) / (a:Rat))) W (cb.lim (by decide)) (rb.lim (by decide)) (ht.next hw) (TabQ_next ht2 hw)
     rwa [m1.1,m1.2.1] at c1)
    (fun W hw=>by
     have c1:=Add_q t.1 ((tat l q).1*rootR ((b:Rat) / (a:Rat))) W (tb.lim (by decide)) (m1.2.2.lim (by decide)) (ht.next hw) (TabQ_next ht2 hw)
     rwa [a1.1,a1.2.1] at c1)).mono fun e W' ⟨e1,W1,hw,e2⟩=>⟨_,e1,?_,?_⟩
   ·rw [e2];exact (fin W1 hw).1
   ·rw [e2];exact (fin W1 hw).2
  ·obtain ⟨l1,l2⟩:=(lh q).2 hx
   have hr':=hr
   unfold rel2 at hr';rw [l1,l2,eb,ea] at hr'
   have rb:=rootR_bq nb.1 la lb hr'
   have m1:=qmul_ok tb rb (by decide)
   have a1:=qadd_ok cb m1.2.2 (by decide)
   have ec:comb (tat l q) t=((tat l q).1+t.1*rootR ((a:Rat) / (b:Rat)),(tat l q).2):=by
    unfold comb;rw [l1,l2,eb,ea]
   rw [ec] at fin ⊢
   refine (with_hit_n bb l.length c q (fun j=>strQ (tat l j).1) (fun j=>strQ (tat l j).2) (strQ t.1) (strQ t.2) (fun j=>cmpQ (tat l j).2 t.2) w lt hc0 hc1 (own.frozen) hq hl
    (strQ (rootR ((a:Rat) / (b:Rat)))) (strQ (t.1*rootR ((a:Rat) / (b:Rat)))) (strQ ((tat l q).1+t.1*rootR ((a:Rat) / (b:Rat)))) (strQ (tat l q).2) rfl hx
    ord (fun j hj hx=>nop j (by omega) (hm j hj) hx) (fun j hj hx=>non j (by omega) (hm j hj) hx)
    (fun W hw=>by rw [eb,ea];exact ratio_yes a b W na nb (up la) (up lb) hr' (ht.next hw) (TabQ_next ht2 hw))
    (fun W hw=>by
     have c1:=Mul_q t.1 (rootR ((a:Rat) / (b:Rat))) W (tb.lim (by decide)) (rb.lim (by decide)) (ht.next hw) (TabQ_next ht2 hw)
     rwa [m1.1,m1.2.1] at c1)
    (fun W hw=>by
     have c1:=Add_q (tat l q).1 (t.1*rootR ((a:Rat) / (b:Rat))) W (cb.lim (by decide)) (m1.2.2.lim (by decide)) (ht.next hw) (TabQ_next ht2 hw)
     rwa [a1.1,a1.2.1] at c1)).mono fun e W' ⟨e1,W1,hw,e2⟩=>⟨_,e1,?_,?_⟩
   ·rw [e2];exact (fin W1 hw).1
   ·rw [e2];exact (fin W1 hw).2
end Go.Proofs.YtpkloolckbhdaaaGreatDoor.T
namespace Go.Proofs.YtpkloolckbhdaaaGreatDoor.T
open Go.Proofs.YtpkloolckbhdaaaGreatDoor Go Go.RowKit
def St (B:Nat) (l:List Tm) (W:World):Prop:=∃ v,Blk W B #[v]∧Ow W (B+1) 60 v l
theorem St.next {B:Nat} {l:List Tm} {W W':World} (h:St B l W) (g:Below W.heap.size W W'):St B l W':=by
 obtain ⟨v,h1,h2⟩:=h;exact ⟨v,h1.next g,h2.next g⟩
theorem Ow.apart {W:World} {B:Nat} {T:TypeId} {v:Value} {l:List Tm} (h:Ow W (B+1) T v l):v.ownBlock≠some B:=by
 rcases h.2 with ⟨rfl,_⟩ | ⟨g,cap,cur,rfl,hb,_⟩
 ·simp [Value.ownBlock]
 ·simp [Value.ownBlock];omega
theorem Ow.low {W W':World} {B:Nat} {T:TypeId} {v:Value} {l:List Tm} (h:Ow W (B+1) T v l) (g:W.grownBy W' v.ownBlock) (hB:B<W.heap.size):Below B W W' :=
 ⟨g.os,g.tape,g.output,g.size,fun k hk=>g.block k (by omega) (by
  rcases h.2 with ⟨rfl,_⟩ | ⟨b,cap,cur,rfl,hb,_⟩
  ·simp [Value.ownBlock]
  ·simp [Value.ownBlock];omega)⟩
theorem blk_grown {W W':World} {B:Nat} {vs:Array Value} {r:Option Nat} (h:Blk W B vs) (g:W.grownBy W' r) (hr:r≠some B):Blk W' B vs:=by
 have hl:=h.lt
 obtain ⟨t,e⟩:=h
 exact ⟨t,(g.block B hl (fun k=>hr k.symm)).trans e⟩
theorem visitor_core (B n c:Nat) (p:Option Addr) (tc tr:ByteArray) (w:World) (Q:Value→World→Prop) (hb:Blk w B #[.slice p n c])
  (h1:Calls Tryz.prog 103 #[.slice p n c,.agg #[.string tc,.string tr]] (w.alloc (.cells #[.string tc,.string tr] 60)) fun e W'=>∃ p' n' c',e = .returned (.tuple #[.slice p' n' c',.int .i64 0])∧Blk W' B #[.slice p n c]∧Q (.slice p' n' c') (W'.setCell ⟨B,0,none⟩ (.slice p' n' c'))) :
  Calls Tryz.prog 102 #[.agg #[.string tc,.string tr],.pointer (some ⟨B,0,none⟩)] w fun e W'=>e = .returned (.int .i64 0)∧∃ v,Q v W':=by
 have O:=Lib.hid h1;clear h1
 have e0:=(show World.cell? _ ⟨B,0,none⟩=some (.slice p n c) from (hb.alloc (.cells #[.string tc,.string tr] 60)).cell 0 _ rfl)
 clear hb
 go_enter Tryz.func102,Tryz.ntmps102
 go_wp2_with fail
 refine O.out.mono ?_
 rintro e w1 ⟨p',n',c',rfl,hb,hQ⟩
 have HQ:=Lib.hid hQ;clear hQ
 have e0:=(show World.cell? _ ⟨B,0,none⟩=some (.slice p n c) from hb.cell 0 _ rfl)
 have f0:=(show World.frozen? _ ⟨B,0,none⟩=false from hb.free 0)
 clear hb
 go_wp2
 go_ret
 exact ⟨rfl,_,HQ.out⟩
theorem visitor_ok (B:Nat) (l:List Tm) (t:Tm) (w:World) (hs:St B l w) (hl:l.length≤1000) (hN:∀ s∈l,NT s) (tN:NT t) (ht:Tab w) (ht2:Tab64 w) :
  Calls Tryz.prog 102 #[.agg #[.string (strQ t.1),.string (strQ t.2)],.pointer (some ⟨B,0,none⟩)] w fun e W'=>e = .returned (.int .i64 0)∧St B (ins l t) W'∧Below B w W':=by
 obtain ⟨v,hb,ho⟩:=hs
 have hB:=hb.lt
 have b1:Below w.heap.size w (w.alloc (.cells #[.string (strQ t.1),.string (strQ t.2)] 60)):=(Below.refl _ w).alloc (Nat.le_refl _) _
 have ho1:=ho.next b1
 obtain ⟨p,c,rfl,_,_⟩:=ho.rd
 refine (visitor_core B l.length c p _ _ w (fun v' W'=>St B (ins l t) W'∧Below B w W') hb ?_).mono fun e W' ⟨e1,_,e2⟩=>⟨e1,e2⟩
 refine (with_ok l t _ (B+1) _ ho1 (by simp;omega) hl hN tN (ht.next b1) (TabQ_next ht2 b1)).mono fun e W' ⟨v',e1,e2,e3⟩ => ?_
 obtain ⟨p',c',rfl,_,_⟩:=e2.rd
 have hb1:=hb.alloc (.cells #[.string (strQ t.1),.string (strQ t.2)] 60)
 have hb2:=blk_grown hb1 e3 ho1.apart
 refine ⟨p',(ins l t).length,c',e1,hb2,⟨_,hb2.put1 _,?_⟩,?_⟩
 ·exact ownsRow_setCell_other e2 (by have:=e2.apart;exact this) _
 ·exact (((b1.mono (by omega)).trans (ho1.low e3 (by simp;omega))).setCell (p:=⟨B,0,none⟩) (Nat.le_refl _) _)
end Go.Proofs.YtpkloolckbhdaaaGreatDoor.T
namespace Go.Proofs.YtpkloolckbhdaaaGreatDoor.T
open Go.Proofs.YtpkloolckbhdaaaGreatDoor Go Go.RowKit
noncomputable def nrmT (t:Tm):Tm:=(t.1*nC t.2,((nN t.2:Nat):Rat))
noncomputable def stp (l:List Tm) (t:Tm):List Tm:=if t.1=0∨t.2=0 then l else ins l (nrmT t)
noncomputable def gth (g:List Tm):List Tm:=g.foldl stp []
theorem gth_take {g:List Tm} {j:Nat} (h:j<g.length):gth (g.take (j+1))=stp (gth (g.take j)) (tat g j):=by
 unfold gth
 rw [List.take_succ_eq_append_getElem h,List.foldl_append,tat_get h];rfl
theorem visit_core (b n c B:Nat) (cs rs nc nr:Nat→ByteArray) (zc zr:Nat→Bool) (w:World) (I:Nat→World→Prop) (h1000:n≤1000)
  (hzc:∀ j,j<n→((cs j).toList == [48])=zc j) (hzr:∀ j,j<n→((rs j).toList == [48])=zr j)
  (hI0:I 0 w) (hIn:∀ j W W',I j W→Below W.heap.size W W'→I j W')
  (hc:∀ j,j<n→∀ W,I j W→W.cell? ⟨b,j*2,none⟩=some (.string (cs j))∧W.cell? ⟨b,j*2+1,none⟩=some (.string (rs j)))
  (hs:∀ j,j<n→(zc j || zr j)=true→∀ W,I j W→I (j+1) W)
  (hm:∀ j,j<n→(zc j || zr j)=false→∀ W,I j W→Calls Tryz.prog 135 #[.agg #[.string (cs j),.string (rs j)]] W fun e W'=>e = .returned (.tuple #[.agg #[.string (nc j),.string (nr j)],.int .i64 0])∧Below W.heap.size W W')
  (hv:∀ j,j<n→(zc j || zr j)=false→∀ W,I j W→Calls Tryz.prog 102 #[.agg #[.string (nc j),.string (nr j)],.pointer (some ⟨B,0,none⟩)] W fun e W'=>e = .returned (.int .i64 0)∧I (j+1) W') :
  Calls Tryz.prog 101 #[.slice (some ⟨b,0,none⟩) n c,.func (.func 102) #[] #[.pointer (some ⟨B,0,none⟩)]] w fun e W'=>e = .returned (.int .i64 0)∧I n W':=by
 have eg:∀ args W,(callFunc 102 args).run Tryz.prog W = .ok (.enter 102 args) W:=enters_of Tryz.func102 (by kernel_rfl) rfl
 have O:=Lib.hid (And.intro hzc (And.intro hzr (And.intro hI0 (And.intro hIn (And.intro hc (And.intro hs (And.intro hm hv)))))));clear hzc hzr hI0 hIn hc hs hm hv
 go_enter Tryz.func101,Tryz.ntmps101
 go_wp2
 go_loopw [12] (fun i wr=>∃ j:Nat,i = .int .i64 j∧j≤n∧Hid (I j wr)) (fun i _=>n - (intOf i).toNat)
 case atStart=>exact ⟨0,rfl,by omega,O.out.2.2.1⟩
 case round =>
  obtain ⟨j,rfl,hj,HI⟩:=hrel
  by_cases hlt:j<n
  ·have hz:(j:Int)<n:=by omega
   obtain ⟨d0,d1⟩:=O.out.2.2.2.2.1 j hlt _ HI.out
   have HN:=Lib.hid (O.out.2.2.2.1 j _ _ HI.out ((Below.refl _ wr).alloc (Nat.le_refl _) (.cells #[.string (cs j),.string (rs j)] 60)))
   have zc1:=O.out.1 j hlt
   have zr1:=O.out.2.1 j hlt
   have hs:=Lib.hid (O.out.2.2.2.2.2.1 j hlt)
   have hm:=Lib.hid (O.out.2.2.2.2.2.2.1 j hlt)
   have hv:=Lib.hid (O.out.2.2.2.2.2.2.2 j hlt)
   have hIn:=Lib.hid (O.out.2.2.2.1)
   clear O HI
   generalize zc j=x at *
   generalize zr j=y at *
   generalize cs j=cj at *
   generalize rs j=rj at *
   generalize nc j=ncj at *
   generalize nr j=nrj at *
   cases x
   ·cases y
    ·go_wp2_with fail
     have hk:=Blk.new wr #[.string cj,.string rj] 60
     generalize wr.alloc (.cells #[.string cj,.string rj] 60)=u at *
     generalize wr.heap.size=k at *
     clear d0 d1
     have e0:=(show World.cell? _ ⟨k,0,none⟩=some (.string cj) from hk.cell 0 _ rfl)
     have e1:=(show World.cell? _ ⟨k,1,none⟩=some (.string rj) from hk.cell 1 _ rfl)
     have HK:=Lib.hid hk;clear hk
     go_wp2_with fail
     refine (hm.out rfl _ HN.out).mono ?_
     rintro e w2 ⟨rfl,bb⟩
     have HN2:=Lib.hid (hIn.out j _ _ HN.out bb)
     clear HN bb e0 e1 HK
     go_wp2_with fail
     have HN3:=Lib.hid (hIn.out j _ _ HN2.out ((Below.refl _ w2).alloc (Nat.le_refl _) (.cells #[.string ncj,.string nrj] 60)))
     have hk:=Blk.new w2 #[.string ncj,.string nrj] 60
     generalize w2.alloc (.cells #[.string ncj,.string nrj] 60)=u2 at *
     generalize w2.heap.size=k2 at *
     have e0:=(show World.cell? _ ⟨k2,0,none⟩=some (.string ncj) from hk.cell 0 _ rfl)
     have e1:=(show World.cell? _ ⟨k2,1,none⟩=some (.string nrj) from hk.cell 1 _ rfl)
     clear hk
     go_wp2_with fail
     refine (hv.out rfl _ HN3.out).mono ?_
     rintro e w3 ⟨rfl,hi⟩
     have HI:=Lib.hid hi;clear hi
     go_wp2
     go_roundw
     case rel=>exact ⟨j+1,by go_num,by omega,HI.out⟩
     case measure=>simp [intOf];omega
    ·go_wp2
     go_roundw
     case rel=>exact ⟨j+1,by go_num,by omega,hs.out rfl _ HN.out⟩
     case measure=>simp [intOf];omega
   ·go_wp2
    go_roundw
    case rel=>exact ⟨j+1,by go_num,by omega,hs.out (by simp) _ HN.out⟩
    case measure=>simp [intOf];omega
  ·obtain rfl:j=n:=by omega
   have hz:¬ (j:Int)<j:=by omega
   go_wp2
   go_ret
   exact ⟨rfl,HI.out⟩
end Go.Proofs.YtpkloolckbhdaaaGreatDoor.T
namespace Go.Proofs.YtpkloolckbhdaaaGreatDoor.T
open Go.Proofs.YtpkloolckbhdaaaGreatDoor Go Go.RowKit
theorem ins_len (t:Tm):∀ l:List Tm,(ins l t).length≤l.length+1
 | []=>by simp [ins]
 | s::l=>by
  unfold ins
  split
  ·simp
  ·have:=ins_len t l
   simp only [List.length_cons];omega
theorem gth_len (g:List Tm):(gth g).length≤g.length:=by
 have key:∀ (g l:List Tm),(g.foldl stp l).length≤l.length+g.length:=by
  intro g
  induction g with
  | nil=>intro l;simp
  | cons t g ih =>
   intro l
   have h:=ih (stp l t)
   have h2:(stp l t).length≤l.length+1:=by
    unfold stp;split
    ·omega
    ·exact ins_len _ _
   simp only [List.foldl_cons,List.length_cons];omega
 have:=key g []
 simpa [gth] using this
structure Gv (g:List Tm):Prop where
 len:g.length≤256
 ok:∀ t∈g,0≤t.2∧Bq 90 t.2∧Bq 100 t.1
 nrm:∀ t∈g,t.1≠0→t.2≠0→Bq 90 (nC t.2)∧NT (nrmT t)
 pre:∀ j,j≤g.length→∀ s∈gth (g.take j),NT s
theorem normal_ok (t:Tm) (w:World) (h0:0≤t.2) (h2:Bq 90 t.2) (hc:Bq 100 t.1) (hm:Bq 90 (nC t.2)) (hn:NT (nrmT t)) (ht:Tab w) (ht2:Tab64 w) (hS:Sm w) :
  Calls Tryz.prog 135 #[.agg #[.string (strQ t.1),.string (strQ t.2)]] w fun e W'=>e = .returned (.tuple #[.agg #[.string (strQ (nrmT t).1),.string (strQ (nrmT t).2)],.int .i64 0])∧Below w.heap.size w W':=by
 obtain ⟨_,b,eb,_,lb⟩:=hn
 have eb':nN t.2=b:=Rat.natCast_inj.1 eb
 have lb':nN t.2<tenTo 20:=by rw [eb'];exact lb
 have m1:=qmul_ok hc hm (by decide)
 have s2:(strQ (nrmT t).2).size≤90:=(sizeN (by decide)).2 (Nat.lt_of_lt_of_le lb' (tenTo_mono (by decide)))
 refine normal_core _ _ (strQ (nC t.2)) (strQ (nrmT t).2) (strQ (nrmT t).1) w s2 (fun W hw => ?_) (fun W hw => ?_)
 ·have c:=Normal_q t.2 W h0 h2 (ht.next hw) (TabQ_next ht2 hw) (hS.next hw)
  rwa [←strQ_nat] at c
 ·have c:=Mul_q t.1 (nC t.2) W (hc.lim (by decide)) (hm.lim (by decide)) (ht.next hw) (TabQ_next ht2 hw)
  rwa [m1.1,m1.2.1] at c
theorem visit_nil (p:Option Addr) (c B:Nat) (w:World) :
  Calls Tryz.prog 101 #[.slice p 0 c,.func (.func 102) #[] #[.pointer (some ⟨B,0,none⟩)]] w fun e W'=>e = .returned (.int .i64 0)∧W'=w:=by
 go_enter Tryz.func101,Tryz.ntmps101
 go_wp2
 go_rounds 1
 all_goals go_ret
 all_goals exact ⟨rfl,rfl⟩
theorem is0Q (x:Rat):((strQ x).toList == [48])=decide (x=0):=by
 by_cases h:x=0
 ·rw [decide_eq_true h,h,strQ_zero];exact (is0_iff _).2 rfl
 ·rw [decide_eq_false h];exact nz48 h
theorem visitNormal_ok (g:List Tm) (hg:Gv g) (B:Nat) (w0 w:World) (p:Option Addr) (n c:Nat) (hB:B=w0.heap.size) (h0:Below B w0 w) (hs:St B [] w) (hn:n=g.length) (hx:Rd w0 p g)
  (ht:Tab w0) (ht2:Tab64 w0) (hS:Sm w0) :
  Calls Tryz.prog 101 #[.slice p n c,.func (.func 102) #[] #[.pointer (some ⟨B,0,none⟩)]] w fun e W'=>e = .returned (.int .i64 0)∧St B (gth g) W'∧Below B w0 W':=by
 have hlen:=hg.len
 rcases Nat.eq_zero_or_pos n with z | z
 ·have e:g = []:=List.eq_nil_of_length_eq_zero (by omega)
  subst e
  rw [z]
  exact (visit_nil p c B w).mono fun e W' ⟨e1,e2⟩=>⟨e1,by rw [e2];exact hs,by rw [e2];exact h0⟩
 ·obtain ⟨b,rfl,tl⟩:=hx (by omega)
  have tb:∀ W,Below B w0 W→Tab W:=fun W h=>ht.next (by rw [←hB];exact h)
  have tb2:∀ W,Below B w0 W→Tab64 W:=fun W h=>TabQ_next ht2 (by rw [←hB];exact h)
  have tb3:∀ W,Below B w0 W→Sm W:=fun W h=>hS.next (by rw [←hB];exact h)
  have flag:∀ j,(decide ((tat g j).1=0) || decide ((tat g j).2=0))=true↔((tat g j).1=0∨(tat g j).2=0):=fun j=>by simp
  refine (visit_core b n c B (fun j=>strQ (tat g j).1) (fun j=>strQ (tat g j).2) (fun j=>strQ (nrmT (tat g j)).1) (fun j=>strQ (nrmT (tat g j)).2)
   (fun j=>decide ((tat g j).1=0)) (fun j=>decide ((tat g j).2=0)) w (fun j W=>St B (gth (g.take j)) W∧Below B w0 W) (by omega)
   (fun j _=>is0Q _) (fun j _=>is0Q _) ⟨hs,h0⟩ (fun j W W' h k=>⟨h.1.next k,h.2.trans (k.mono (by have:=h.2.size;omega))⟩)
   (fun j hj W h=>⟨(h.2.cell (p:=⟨b,j*2,none⟩) (by have:=tl.lt;show b<B;omega)).trans (tl.c0 j (by omega)),(h.2.cell (p:=⟨b,j*2+1,none⟩) (by have:=tl.lt;show b<B;omega)).trans (tl.c1 j (by omega))⟩)
   (fun j hj hz W h => ?_) (fun j hj hz W h => ?_) (fun j hj hz W h => ?_)).mono fun e W' ⟨e1,e2,e3⟩=>⟨e1,?_,e3⟩
  ·refine ⟨?_,h.2⟩
   rw [gth_take (by omega)]
   unfold stp
   rw [if_pos ((flag j).1 hz)]
   exact h.1
  ·have nz:¬ ((tat g j).1=0∨(tat g j).2=0):=fun k=>by have:=(flag j).2 k;rw [hz] at this;cases this
   have hm:=tat_mem (l:=g) (j:=j) (by omega)
   obtain ⟨a1,a2,a3⟩:=hg.ok _ hm
   obtain ⟨b1,b2⟩:=hg.nrm _ hm (fun k=>nz (.inl k)) (fun k=>nz (.inr k))
   exact normal_ok _ W a1 a2 a3 b1 b2 (tb W h.2) (tb2 W h.2) (tb3 W h.2)
  ·have nz:¬ ((tat g j).1=0∨(tat g j).2=0):=fun k=>by have:=(flag j).2 k;rw [hz] at this;cases this
   have hm:=tat_mem (l:=g) (j:=j) (by omega)
   obtain ⟨b1,b2⟩:=hg.nrm _ hm (fun k=>nz (.inl k)) (fun k=>nz (.inr k))
   have hl:=gth_len (g.take j)
   rw [List.length_take] at hl
   refine (visitor_ok B (gth (g.take j)) (nrmT (tat g j)) W h.1 (by omega) (hg.pre j (by omega)) b2 (tb W h.2) (tb2 W h.2)).mono fun e W' ⟨e1,e2,e3⟩=>⟨e1,?_,h.2.trans e3⟩
   rw [gth_take (by omega)]
   unfold stp
   rw [if_neg nz]
   exact e2
  ·rwa [hn,List.take_length] at e2
end Go.Proofs.YtpkloolckbhdaaaGreatDoor.T
namespace Go.Proofs
open Go.Shelf
def Tryz.laysGrow_ren:Go.Shelf.Ren:=⟨fun | 4=>105 | n=>n,fun | 22=>41 | 25=>60 | 3=>3 | 4=>4 | 9=>9 | 20=>20 | 0=>0 | n=>n,fun | n=>n⟩
theorem Tryz.laysGrow:Go.Proofs.Lays8.n4 Tryz.prog Tryz.laysGrow_ren:={
 mixed:=by kernel_rfl
 f4:=⟨Tryz.f105.name,by decide,Tryz.func105.trans (congrArg some (by kernel_rfl))⟩
 t0:=Tryz.underlying0
 a0:=Tryz.isAgg0
 z0:=Tryz.sizeOf0
 v0:=Tryz.zeroValue0
 t3:=Tryz.underlying3
 a3:=Tryz.isAgg3
 z3:=Tryz.sizeOf3
 v3:=Tryz.zeroValue3
 t4:=Tryz.underlying4
 a4:=Tryz.isAgg4
 z4:=Tryz.sizeOf4
 v4:=Tryz.zeroValue4
 t9:=Tryz.underlying9
 a9:=Tryz.isAgg9
 z9:=Tryz.sizeOf9
 v9:=Tryz.zeroValue9
 t20:=Tryz.underlying20
 a20:=Tryz.isAgg20
 z20:=Tryz.sizeOf20
 v20:=Tryz.zeroValue20
 t22:=Tryz.underlying41
 a22:=Tryz.isAgg41
 z22:=Tryz.sizeOf41
 v22:=Tryz.zeroValue41 }
def Tryz.laysIndexFunc_ren:Go.Shelf.Ren:=⟨fun | 6=>182 | n=>n,fun | 22=>40 | 23=>60 | 25=>190 | 3=>3 | 0=>0 | 4=>4 | n=>n,fun | n=>n⟩
theorem Tryz.laysIndexFunc:Go.Proofs.SlLaysH0.n6 Tryz.prog Tryz.laysIndexFunc_ren:={
 mixed:=by kernel_rfl
 f6:=⟨Tryz.f182.name,by decide,Tryz.func182.trans (congrArg some (by kernel_rfl))⟩
 t0:=Tryz.underlying0
 a0:=Tryz.isAgg0
 z0:=Tryz.sizeOf0
 v0:=Tryz.zeroValue0
 t3:=Tryz.underlying3
 a3:=Tryz.isAgg3
 z3:=Tryz.sizeOf3
 v3:=Tryz.zeroValue3
 t4:=Tryz.underlying4
 a4:=Tryz.isAgg4
 z4:=Tryz.sizeOf4
 v4:=Tryz.zeroValue4
 t22:=Tryz.underlying40
 a22:=Tryz.isAgg40
 z22:=Tryz.sizeOf40
 v22:=Tryz.zeroValue40
 t25:=Tryz.underlying190
 a25:=Tryz.isAgg190
 z25:=Tryz.sizeOf190
 v25:=Tryz.zeroValue190 }
def Tryz.laysContainsFunc_ren:Go.Shelf.Ren:=⟨fun | 8=>139 | 6=>182 | n=>n,fun | 22=>40 | 23=>60 | 25=>190 | 4=>4 | 3=>3 | 0=>0 | n=>n,fun | n=>n⟩
theorem Tryz.laysContainsFunc:Go.Proofs.SlLaysH0.n8 Tryz.prog Tryz.laysContainsFunc_ren:={
 mixed:=by kernel_rfl
 f6:=⟨Tryz.f182.name,by decide,Tryz.func182.trans (congrArg some (by kernel_rfl))⟩
 f8:=⟨Tryz.f139.name,by decide,Tryz.func139.trans (congrArg some (by kernel_rfl))⟩
 t0:=Tryz.underlying0
 a0:=Tryz.isAgg0
 z0:=Tryz.sizeOf0
 v0:=Tryz.zeroValue0
 t3:=Tryz.underlying3
 a3:=Tryz.isAgg3
 z3:=Tryz.sizeOf3
 v3:=Tryz.zeroValue3
 t4:=Tryz.underlying4
 a4:=Tryz.isAgg4
 z4:=Tryz.sizeOf4
 v4:=Tryz.zeroValue4
 t22:=Tryz.underlying40
 a22:=Tryz.isAgg40
 z22:=Tryz.sizeOf40
 v22:=Tryz.zeroValue40
 t25:=Tryz.underlying190
 a25:=Tryz.isAgg190
 z25:=Tryz.sizeOf190
 v25:=Tryz.zeroValue190 }
def Tryz.laysSortFunc_ren:Go.Shelf.Ren:=⟨fun | 6=>140 | 15=>184 | 14=>183 | 28=>225 | 29=>188 | 20=>217 | 21=>218 | 22=>219 | 23=>220 | 24=>221 | 25=>222 | 26=>223 | 27=>224 | 46=>249 | 47=>250 | 48=>251 | 49=>252 | 50=>253 | 57=>264 | n=>n,fun | 22=>40 | 24=>60 | 25=>198 | 3=>3 | 39=>123 | 0=>0 | 53=>173 | 55=>176 | 4=>4 | 46=>271 | 45=>270 | 50=>275 | 5=>5 | 9=>9 | 66=>293 | 70=>296 | 76=>310 | 77=>311 | n=>n,fun | n=>n⟩
theorem Tryz.laysSortFunc:Go.Proofs.SlLaysF0.n6 Tryz.prog Tryz.laysSortFunc_ren:={
 mixed:=by kernel_rfl
 f6:=⟨Tryz.f140.name,by decide,Tryz.func140.trans (congrArg some (by kernel_rfl))⟩
 f14:=⟨Tryz.f183.name,by decide,Tryz.func183.trans (congrArg some (by kernel_rfl))⟩
 f15:=Tryz.func184.trans (congrArg some (by kernel_rfl))
 f20:=⟨Tryz.f217.name,by decide,Tryz.func217.trans (congrArg some (by kernel_rfl))⟩
 f21:=⟨Tryz.f218.name,by decide,Tryz.func218.trans (congrArg some (by kernel_rfl))⟩
 f22:=⟨Tryz.f219.name,by decide,Tryz.func219.trans (congrArg some (by kernel_rfl))⟩
 f23:=⟨Tryz.f220.name,by decide,Tryz.func220.trans (congrArg some (by kernel_rfl))⟩
 f24:=⟨Tryz.f221.name,by decide,Tryz.func221.trans (congrArg some (by kernel_rfl))⟩
 f25:=⟨Tryz.f222.name,by decide,Tryz.func222.trans (congrArg some (by kernel_rfl))⟩
 f26:=⟨Tryz.f223.name,by decide,Tryz.func223.trans (congrArg some (by kernel_rfl))⟩
 f27:=⟨Tryz.f224.name,by decide,Tryz.func224.trans (congrArg some (by kernel_rfl))⟩
 f28:=Tryz.func225.trans (congrArg some (by kernel_rfl))
 f29:=Tryz.func188.trans (congrArg some (by kernel_rfl))
 f46:=⟨Tryz.f249.name,by decide,Tryz.func249.trans (congrArg some (by kernel_rfl))⟩
 f47:=Tryz.func250.trans (congrArg some (by kernel_rfl))
 f48:=Tryz.func251.trans (congrArg some (by kernel_rfl))
 f49:=⟨Tryz.f252.name,by decide,Tryz.func252.trans (congrArg some (by kernel_rfl))⟩
 f50:=⟨Tryz.f253.name,by decide,Tryz.func253.trans (congrArg some (by kernel_rfl))⟩
 f57:=⟨Tryz.f264.name,by decide,Tryz.func264.trans (congrArg some (by kernel_rfl))⟩
 t0:=Tryz.underlying0
 a0:=Tryz.isAgg0
 z0:=Tryz.sizeOf0
 v0:=Tryz.zeroValue0
 t3:=Tryz.underlying3
 a3:=Tryz.isAgg3
 z3:=Tryz.sizeOf3
 v3:=Tryz.zeroValue3
 t4:=Tryz.underlying4
 a4:=Tryz.isAgg4
 z4:=Tryz.sizeOf4
 v4:=Tryz.zeroValue4
 t5:=Tryz.underlying5
 a5:=Tryz.isAgg5
 z5:=Tryz.sizeOf5
 v5:=Tryz.zeroValue5
 t9:=Tryz.underlying9
 a9:=Tryz.isAgg9
 z9:=Tryz.sizeOf9
 v9:=Tryz.zeroValue9
 t22:=Tryz.underlying40
 a22:=Tryz.isAgg40
 z22:=Tryz.sizeOf40
 v22:=Tryz.zeroValue40
 t25:=Tryz.underlying198
 a25:=Tryz.isAgg198
 z25:=Tryz.sizeOf198
 v25:=Tryz.zeroValue198
 t39:=Tryz.underlying123
 a39:=Tryz.isAgg123
 z39:=Tryz.sizeOf123
 v39:=Tryz.zeroValue123
 t45:=Tryz.underlying270
 a45:=Tryz.isAgg270
 z45:=Tryz.sizeOf270
 v45:=Tryz.zeroValue270
 t46:=Tryz.underlying271
 a46:=Tryz.isAgg271
 z46:=Tryz.sizeOf271
 v46:=Tryz.zeroValue271
 t50:=Tryz.underlying275
 a50:=Tryz.isAgg275
 z50:=Tryz.sizeOf275
 v50:=Tryz.zeroValue275
 t53:=Tryz.underlying173
 a53:=Tryz.isAgg173
 z53:=Tryz.sizeOf173
 v53:=Tryz.zeroValue173
 t55:=Tryz.underlying176
 a55:=Tryz.isAgg176
 z55:=Tryz.sizeOf176
 v55:=Tryz.zeroValue176
 t66:=Tryz.underlying293
 a66:=Tryz.isAgg293
 z66:=Tryz.sizeOf293
 v66:=Tryz.zeroValue293
 t70:=Tryz.underlying296
 a70:=Tryz.isAgg296
 z70:=Tryz.sizeOf296
 v70:=Tryz.zeroValue296
 t76:=Tryz.underlying310
 a76:=Tryz.isAgg310
 z76:=Tryz.sizeOf310
 v76:=Tryz.zeroValue310
 t77:=Tryz.underlying311
 a77:=Tryz.isAgg311
 z77:=Tryz.sizeOf311
 v77:=Tryz.zeroValue311 }
end Go.Proofs
