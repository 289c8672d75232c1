/- Parts of the proof of the text YtjdfjgfdbgmbiaaGreatDoorHB39. -/
import Derived.OwnWalk
import Derived.Laws.AppendOwnNone
import Derived.Test.YtjdfjgfdbgmbiaaGreatDoorHB1
import Derived.Test.YtjdfjgfdbgmbiaaGreatDoorHB30
import Derived.Test.YtjdfjgfdbgmbiaaGreatDoorHB33
set_option linter.all false
set_option maxRecDepth 100000
set_option maxHeartbeats 8000000
namespace Go.Proofs.YtjdfjgfdbgmbiaaGreatDoor.T
open Go.Proofs.YtjdfjgfdbgmbiaaGreatDoor Go Go.RowKit
theorem app_ap {ops:Array Oper} {rest:List Oper} {o:Oper} {a:Act} {Q:Exit→Act→World→Prop} {w:World} (hgd:o.guard=none) (s x:Operand)
  (ho:o.op = .call { callee := .builtin .append,args := #[s,x],argTypes := #[26,26] })
  (base:Nat) (v:Value) (n:Nat) (zs:List Value) (hs:a.eval s=v) (hown:w.ownsRow base 50 2 v n zs) (p:Option Addr) (m c:Nat) (ys:List Value) (hx:a.eval x = .slice p m c) (hv:Ap w p m c ys) (hl:n+m≤4096) (hbase:base≤w.heap.size)
  (h:∀ v' w',w'.ownsRow base 50 2 v' (n+m) (zs++ys)→Below base w w'→wpList Tryz.prog ops Q rest (a.put o.dst v') w'):wpList Tryz.prog ops Q (o::rest) a w:=by
 obtain ⟨i0,hi,hz0,hz1,hz2⟩:=info_parts info_term
 obtain ⟨v1,v2,v3⟩:=hv
 rcases v3 with ⟨rfl,rfl,rfl⟩ | ⟨b,rfl,v3⟩
 ·have e0:ys = []:=List.eq_nil_of_length_eq_zero (by omega)
  subst e0
  exact wpList_append_own_none hgd s x 26 ho base 50 i0 2 Tryz.underlying26 hi v n zs hs hown hx (h v w (by rw [List.append_nil];exact hown) (Below.refl _ _))
 ·refine wpList_append_own _ hgd s x 26 ho base 50 i0 (.agg #[.string ⟨#[]⟩,.string ⟨#[]⟩]) 2 32 Tryz.underlying26 hi hz0 hz1 hz2 rfl (by decide) v n zs hs hown ⟨b,0,none⟩ m c ys hx v1 v3 v2 (by unfold maxLen;omega) (by omega) hbase ?_
  intro v' w' hown' hgrow _
  exact h v' w' hown' ((Below.refl base w).grown hgrow hbase (fun k hk=>(hown.lt k hk).1))
theorem concat_ok (p1 p2:Option Addr) (n1 n2 c1 c2 bs:Nat) (xs1 xs2:List Value) (w:World) (hb:Blk w bs #[.slice p1 n1 c1,.slice p2 n2 c2]) (h1:Ap w p1 n1 c1 xs1) (h2:Ap w p2 n2 c2 xs2) (l1:n1≤1000) (l2:n2≤1000) :
  Calls Tryz.prog 74 #[.slice (some ⟨bs,0,none⟩) 2 2] w fun e W'=>∃ v,e = .returned v∧W'.ownsRow w.heap.size 50 2 v (n1+n2) (xs1++xs2)∧Below w.heap.size w W':=by
 obtain ⟨i0,hi,hz0,hz1,hz2⟩:=info_parts info_term
 have HI:=Lib.hid (And.intro hi (And.intro hz0 (And.intro hz1 hz2)));clear hi hz0 hz1 hz2
 have hG:=grow_ok (n1+n2) w (by omega)
 rw [Int.natCast_add] at hG
 have O:=Lib.hid hG;clear hG
 have e0:=hb.cell 0 _ rfl
 have e1:=hb.cell 1 _ rfl
 have HT:=Lib.hid (And.intro hb (And.intro h1 h2));clear hb h1 h2
 have y1:¬ (n1:Int)<0:=by omega
 have y2:¬ (n1:Int)+n2<0:=by omega
 go_enter Tryz.func74,Tryz.ntmps74
 go_wp2
 go_loopw [3,11] (fun x y wr=>((x = .int .i64 0∧y = .int .i64 0)∨(x = .int .i64 n1∧y = .int .i64 1)∨(x = .int .i64 ((n1:Int)+n2)∧y = .int .i64 2))∧wr=w) (fun _ y _=>2 - (intOf y).toNat)
 case atStart=>exact ⟨.inl ⟨rfl,rfl⟩,rfl⟩
 case round =>
  obtain ⟨hrel,hwr⟩:=hrel
  cases hwr
  rcases hrel with ⟨rfl,rfl⟩ | ⟨rfl,rfl⟩ | ⟨rfl,rfl⟩
  ·go_wp2
   go_roundw
   case rel=>exact ⟨.inr (.inl ⟨rfl,rfl⟩),trivial⟩
   case measure=>simp [intOf]
  ·go_wp2
   go_roundw
   case rel=>exact ⟨.inr (.inr ⟨rfl,rfl⟩),trivial⟩
   case measure=>simp [intOf]
  ·go_wp2_with fail
   refine O.out.mono ?_
   rintro e' W1 ⟨v,rfl,hv,hB⟩
   have HB:=Lib.hid (And.intro hv hB);clear hv hB
   have HT1:=Lib.hid (And.intro (HT.out.1.next HB.out.2) (And.intro (HT.out.2.1.next HB.out.2) (HT.out.2.2.next HB.out.2)))
   go_wp2
   go_loopw [6,27] (fun x y wr=>∃ (j k:Nat) (ys:List Value),y = .int .i64 j∧Hid ((j=0∧k=0∧ys = [])∨(j=1∧k=n1∧ys=xs1)∨(j=2∧k=n1+n2∧ys=xs1++xs2))∧Hid (wr.ownsRow w.heap.size 50 2 x k ys∧Below w.heap.size w wr)) (fun _ y _=>2 - (intOf y).toNat)
   case atStart=>exact ⟨0,0,[],rfl,.inl ⟨rfl,rfl,rfl⟩,HB.out⟩
   case round =>
    obtain ⟨j,k,ys,rfl,hj,hI⟩:=hrel
    rcases hj.out with ⟨rfl,rfl,rfl⟩ | ⟨rfl,rfl,rfl⟩ | ⟨rfl,rfl,rfl⟩
    ·have g0:wr.cell? ⟨bs,0,none⟩=some (.slice p1 n1 c1):=(hI.out.2.cell (p:=⟨bs,0,none⟩) HT.out.1.lt).trans (HT.out.1.cell 0 _ rfl)
     have HS:=Lib.hid (HT.out.2.1.next hI.out.2)
     go_wp2_with (at_builtin;refine app_ap rfl _ _ rfl w.heap.size _ _ _ rfl hI.out.1 p1 n1 c1 xs1 rfl HS.out (by omega) hI.out.2.size ?_;intro v' w2 q1 q2;have HO:=Lib.hid (And.intro q1 (hI.out.2.trans q2));clear q1 q2)
     go_roundw
     case rel=>exact ⟨1,_,_,rfl,.inr (.inl ⟨rfl,by omega,by simp⟩),HO.out⟩
     case measure=>simp [intOf]
    ·have g0:wr.cell? ⟨bs,1,none⟩=some (.slice p2 n2 c2):=(hI.out.2.cell (p:=⟨bs,1,none⟩) HT.out.1.lt).trans (HT.out.1.cell 1 _ rfl)
     have HS:=Lib.hid (HT.out.2.2.next hI.out.2)
     go_wp2_with (at_builtin;refine app_ap rfl _ _ rfl w.heap.size _ _ _ rfl hI.out.1 p2 n2 c2 xs2 rfl HS.out (by omega) hI.out.2.size ?_;intro v' w2 q1 q2;have HO:=Lib.hid (And.intro q1 (hI.out.2.trans q2));clear q1 q2)
     go_roundw
     case rel=>exact ⟨2,_,_,rfl,.inr (.inr ⟨rfl,rfl,rfl⟩),HO.out⟩
     case measure=>simp [intOf]
    ·go_wp2
     go_ret
     exact ⟨_,rfl,hI.out.1,hI.out.2⟩
end Go.Proofs.YtjdfjgfdbgmbiaaGreatDoor.T
namespace Go.Proofs.YtjdfjgfdbgmbiaaGreatDoor.T
open Go.Proofs.YtjdfjgfdbgmbiaaGreatDoor Go Go.RowKit
noncomputable def fin (g:List Tm):List Tm:=(gth g).filter nz
theorem gathered_core (p:Option Addr) (n c:Nat) (w:World) (Q:Value→World→Prop)
  (hV:Calls Tryz.prog 86 #[.slice p n c,.func (.func 87) #[] #[.pointer (some ⟨w.heap.size,0,none⟩)]] (w.alloc (.cells #[.slice none 0 0] 25)) fun e W'=>e = .returned (.int .i64 0)∧∃ p' n' c',W'.cell? ⟨w.heap.size,0,none⟩=some (.slice p' n' c') ∧
   ∀ W2,Below W'.heap.size W' W2→Calls Tryz.prog 89 #[.slice p' n' c'] W2 fun e W'=>∃ v',e = .returned (.tuple #[v',.int .i64 0])∧Q v' W') :
  Calls Tryz.prog 59 #[.slice p n c] w fun e W'=>∃ v',e = .returned (.tuple #[v',.int .i64 0])∧Q v' W':=by
 have O:=Lib.hid hV;clear hV
 go_enter Tryz.func59,Tryz.ntmps59
 go_wp2_with fail
 refine O.out.mono ?_
 rintro e W1 ⟨rfl,p',n',c',hc,h⟩
 have H:=Lib.hid h;clear h
 go_wp2_with fail
 refine (H.out _ (Below.refl _ _)).mono ?_
 rintro e W2 ⟨v',rfl,hq⟩
 have HQ:=Lib.hid hq;clear hq
 go_wp2
 go_ret2
 exact ⟨_,rfl,HQ.out⟩
structure Fit (F:List Tm):Prop where
 len:F.length≤16
 ok:∀ t∈F,Bq 60 t.1∧∃ m:Nat,t.2=(m:Rat)∧m<tenTo 40
theorem gathered_ok (g:List Tm) (hg:Gv g) (hF:Fit (fin g)) (p:Option Addr) (n c:Nat) (w:World) (hn:n=g.length) (hx:Rd w p g) (ht:Tab w) (ht2:Tab64 w) (hS:Sm w) :
  Calls Tryz.prog 59 #[.slice p n c] w fun e W'=>∃ v',e = .returned (.tuple #[v',.int .i64 0])∧Sorted2 (fin g) w.heap.size w v' W':=by
 have b1:Below w.heap.size w (w.alloc (.cells #[.slice none 0 0] 25)):=(Below.refl _ w).alloc (Nat.le_refl _) _
 have s1:St w.heap.size [] (w.alloc (.cells #[.slice none 0 0] 25)):=⟨_,Blk.new w _ _,World.ownsRow_nil _ _ _ _⟩
 refine gathered_core p n c w _ ((visitNormal_ok g hg w.heap.size w _ p n c rfl b1 s1 hn hx ht ht2 hS).mono fun e W1 ⟨e1,⟨v,hb,ho⟩,b2⟩ => ?_)
 have hl:=hg.len
 have hgl:=gth_len g
 obtain ⟨p',c',rfl,_,_⟩:=ho.rd
 refine ⟨e1,p',_,c',hb.cell 0 _ rfl,fun W2 h2 => ?_⟩
 have hs:=hb.lt
 refine (surdOf_ok (gth g) _ (w.heap.size+1) W2 (ho.next h2) (by have:=h2.size;omega) (by omega) hF.len hF.ok).mono fun e W3 ⟨v',e2,l',q,n',c'',e3,p1,p2,p3,p4⟩ => ?_
 refine ⟨v',e2,l',q,n',c'',e3,p1,p2,p3,?_⟩
 exact (b2.trans (h2.mono (by omega))).trans (p4.mono (by omega))
theorem clone_ok (p:Option Addr) (n c:Nat) (xs:List Value) (w:World) (h:Ap w p n c xs) (hl:n≤1000) :
  Calls Tryz.prog 102 #[.slice p n c] w fun e W'=>∃ v,e = .returned v∧W'.ownsRow w.heap.size 50 2 v n xs∧Below w.heap.size w W':=by
 have q22:∀ (w:World) (a:Option Addr) (n c n' c':Nat),(binOp .eql 26 (.slice a n c) (.slice none n' c')).run Tryz.prog w = .ok (.bool a.isNone) w:=fun w a n c n' c'=>Lib.run_eql_slice_nil w _ _ a n c n' c' Tryz.underlying26
 have HV:=Lib.hid h
 cases p with
 | none =>
  have hx:Hid (n=0∧xs = []):=by
   obtain ⟨h1,_,h3⟩:=h
   rcases h3 with ⟨_,e2,_⟩ | ⟨b,e1,_⟩
   ·exact ⟨e2,List.eq_nil_of_length_eq_zero (by omega)⟩
   ·cases e1
  clear h
  go_enter Tryz.func102,Tryz.ntmps102
  go_wp2
  go_ret
  exact ⟨_,rfl,by rw [hx.out.1,hx.out.2];exact World.ownsRow_nil _ _ _ _,Below.refl _ _⟩
 | some ad =>
  clear h
  have hB:=Below.refl w.heap.size w
  go_enter Tryz.func102,Tryz.ntmps102
  go_wp2_with (at_builtin;refine app_ap rfl _ _ rfl w.heap.size _ 0 [] rfl (World.ownsRow_made w #[] 0 (Nat.le_refl _) (Nat.zero_le _) (by simp)) (some ad) n c xs rfl ?qc1 ?qc3 ?qc4 ?_)
  case qc1=>exact HV.out.next (hB.alloc (Nat.le_refl _) _)
  case qc3=>omega
  case qc4=>simp
  intro v' w1 hown hgrow
  have HO:=Lib.hid (And.intro hown ((hB.alloc (Nat.le_refl _) _).trans hgrow));clear hown hgrow hB
  go_wp2
  go_ret
  exact ⟨_,rfl,HO.out.1,HO.out.2⟩
end Go.Proofs.YtjdfjgfdbgmbiaaGreatDoor.T
namespace Go.Proofs.YtjdfjgfdbgmbiaaGreatDoor.T
open Go.Proofs.YtjdfjgfdbgmbiaaGreatDoor Go Go.RowKit
theorem tcs_set0:∀ (l:List Tm) (q:Nat) (y:Rat),q<l.length→(tcs l).set (q*2) (.string (strQ y))=tcs (l.set q (y,(tat l q).2))
 | [],_,_,h=>by simp at h
 | t::l,0,y,_=>rfl
 | t::l,q+1,y,h=>by
  have ih:=tcs_set0 l q y (by simpa using h)
  rw [tcs_cons,List.set_cons_succ,tcs_cons,show (q+1)*2=q*2+1+1 by omega]
  show Value.string (strQ t.1)::Value.string (strQ t.2)::(tcs l).set (q*2) (.string (strQ y))=_
  rw [ih];rfl
theorem Ow.set0 {W:World} {base bb n c:Nat} {T:TypeId} {l:List Tm} (h:Ow W base T (.slice (some ⟨bb,0,none⟩) n c) l) (q:Nat) (hq:q<l.length) (y:Rat) :
  Ow (W.setCell ⟨bb,q*2,none⟩ (.string (strQ y))) base T (.slice (some ⟨bb,0,none⟩) n c) (l.set q (y,(tat l q).2)):=by
 refine ⟨by rw [tcs_len],?_⟩
 rw [List.length_set]
 rcases h.2 with ⟨e,_⟩ | ⟨g,cap,cur,e,hb,hg,h1,h2,h3,h4⟩
 ·cases e
 ·cases e
  refine .inr ⟨bb,c,_,rfl,hb,heap_set hg _ _,h1,h2,by simp [h3],?_⟩
  rw [←tcs_set0 l q y hq,←h4]
  simp only [Array.toList_setIfInBounds,List.take_set]
theorem scaled_core (b n c:Nat) (cs rs ms:Nat→ByteArray) (k:ByteArray) (w:World) (I:Nat→Nat→Nat→World→Prop) (h1000:n≤1000)
  (hC:Calls Tryz.prog 102 #[.slice (some ⟨b,0,none⟩) n c] w fun e W'=>∃ bb cb,e = .returned (.slice (some ⟨bb,0,none⟩) n cb)∧n≤cb∧I bb cb 0 W')
  (hIn:∀ bb cb j W W',I bb cb j W→Below W.heap.size W W'→I bb cb j W')
  (hc:∀ bb cb j,j<n→∀ W,I bb cb j W→W.cell? ⟨b,j*2,none⟩=some (.string (cs j))∧W.cell? ⟨b,j*2+1,none⟩=some (.string (rs j)))
  (hm:∀ bb cb j,j<n→∀ W,I bb cb j W→Calls Tryz.prog 24 #[.string (cs j),.string k] W fun e W'=>e = .returned (.tuple #[.string (ms j),.int .i64 0])∧Below W.heap.size W W')
  (hs:∀ bb cb j,j<n→∀ W,I bb cb j W→W.frozen? ⟨bb,j*2,none⟩=false∧(∃ u,W.cell? ⟨bb,j*2,none⟩=some u)∧I bb cb (j+1) (W.setCell ⟨bb,j*2,none⟩ (.string (ms j)))) :
  Calls Tryz.prog 73 #[.slice (some ⟨b,0,none⟩) n c,.string k] w fun e W'=>∃ bb cb,e = .returned (.tuple #[.slice (some ⟨bb,0,none⟩) n cb,.int .i64 0])∧I bb cb n W':=by
 have O:=Lib.hid (And.intro hC (And.intro hIn (And.intro hc (And.intro hm hs))));clear hC hIn hc hm hs
 go_enter Tryz.func73,Tryz.ntmps73
 go_wp2_with fail
 refine O.out.1.mono ?_
 rintro e W1 ⟨bb,cb,rfl,hcb,h⟩
 have H:=Lib.hid h;clear h
 go_wp2
 go_loopw [14] (fun i wr=>∃ j:Nat,i = .int .i64 j∧j≤n∧Hid (I bb cb j wr)) (fun i _=>n - (intOf i).toNat)
 case atStart=>exact ⟨0,rfl,by omega,H.out⟩
 case round =>
  clear H
  obtain ⟨j,rfl,hj,HI⟩:=hrel
  by_cases hlt:j<n
  ·have hz:(j:Int)<n:=by omega
   have hzb:(j:Int)<cb:=by omega
   obtain ⟨d0,d1⟩:=O.out.2.2.1 bb cb j hlt _ HI.out
   have HN:=Lib.hid (O.out.2.1 bb cb j _ _ HI.out ((Below.refl _ wr).alloc (Nat.le_refl _) (.cells #[.string (cs j),.string (rs j)] 50)))
   have hm:=Lib.hid (O.out.2.2.2.1 bb cb j hlt)
   have hs:=Lib.hid (O.out.2.2.2.2 bb cb j hlt)
   have hIn:=Lib.hid (O.out.2.1 bb cb)
   clear O HI
   generalize cs j=cj at *
   generalize rs j=rj at *
   generalize ms j=mj at *
   go_wp2_with fail
   have hk:=Blk.new wr #[.string cj,.string rj] 50
   generalize wr.alloc (.cells #[.string cj,.string rj] 50)=u at *
   generalize wr.heap.size=k at *
   clear d0 d1
   have e0:=(show World.cell? _ ⟨k,0,none⟩=some (.string cj) from hk.cell 0 _ rfl)
   clear hk
   go_wp2_with fail
   refine (hm.out _ HN.out).mono ?_
   rintro e w2 ⟨rfl,bd⟩
   have hi2:=hIn.out j _ _ HN.out bd
   obtain ⟨f0,⟨u2,c0⟩,hi3⟩:=hs.out _ hi2
   have HI3:=Lib.hid hi3
   clear HN bd e0 hi2 hi3
   go_wp2
   go_roundw
   case rel=>exact ⟨j+1,by go_num,by omega,HI3.out⟩
   case measure=>simp [intOf];omega
  ·have ej:j=n:=by omega
   rw [ej] at HI
   have hz:¬ (j:Int)<n:=by omega
   go_wp2
   go_ret2
   exact ⟨_,_,rfl,HI.out⟩
theorem scaled_nil (p:Option Addr) (c:Nat) (k:ByteArray) (w:World) (Q:Value→World→Prop)
  (hC:Calls Tryz.prog 102 #[.slice p 0 c] w fun e W'=>∃ p' c',e = .returned (.slice p' 0 c')∧Q (.slice p' 0 c') W') :
  Calls Tryz.prog 73 #[.slice p 0 c,.string k] w fun e W'=>∃ v,e = .returned (.tuple #[v,.int .i64 0])∧Q v W':=by
 have O:=Lib.hid hC;clear hC
 go_enter Tryz.func73,Tryz.ntmps73
 go_wp2_with fail
 refine O.out.mono ?_
 rintro e W1 ⟨p',c',rfl,h⟩
 have H:=Lib.hid h;clear h
 go_wp2
 go_rounds 1
 all_goals go_ret2
 all_goals exact ⟨_,rfl,H.out⟩
def mulT (k:Rat) (t:Tm):Tm:=(t.1*k,t.2)
def mp (k:Rat):Nat→List Tm→List Tm
 | 0,l=>l
 | _+1,[] => []
 | j+1,t::l=>mulT k t::mp k j l
theorem mp_len (k:Rat):∀ (j:Nat) (l:List Tm),(mp k j l).length=l.length
 | 0,l=>rfl
 | _+1,[]=>rfl
 | j+1,t::l=>by rw [mp,List.length_cons,mp_len k j l,List.length_cons]
theorem mp_set (k:Rat):∀ (j:Nat) (l:List Tm),j<l.length→(mp k j l).set j ((tat l j).1*k,(tat (mp k j l) j).2)=mp k (j+1) l
 | _,[],h=>by simp at h
 | 0,t::l,_=>by cases l <;> rfl
 | j+1,t::l,h=>by
  have ih:=mp_set k j l (by simpa using h)
  show mulT k t::(mp k j l).set j ((tat l j).1*k,(tat (mp k j l) j).2)=mulT k t::mp k (j+1) l
  rw [ih]
theorem mp_all (k:Rat):∀ l:List Tm,mp k l.length l=l.map (mulT k)
 | []=>rfl
 | t::l=>by
  show mulT k t::mp k l.length l=_
  rw [mp_all k l];rfl
theorem Ow.cell0 {W:World} {base bb n c:Nat} {T:TypeId} {l:List Tm} (h:Ow W base T (.slice (some ⟨bb,0,none⟩) n c) l) (j:Nat) (hj:j<l.length):W.cell? ⟨bb,j*2,none⟩=some (.string (strQ (tat l j).1)):=by
 have hcl:=World.ownsRow.cells h (g:=bb) rfl
 have ha:∀ j,(⟨bb,0,none⟩:Addr).add j=⟨bb,j,none⟩:=fun j=>by unfold Addr.add;split <;> simp_all
 rw [←ha,Nat.mul_comm];exact hcl _ _ (tcs_at l j hj).1
theorem scaled_ok (l:List Tm) (k:Rat) (p:Option Addr) (n c:Nat) (w:World) (h:Sr w p n c l) (h1000:n≤1000) (hk:Bq 60 k) (hB:∀ t∈l,Bq 60 t.1) (ht:Tab w) (ht2:Tab64 w) :
  Calls Tryz.prog 73 #[.slice p n c,.string (strQ k)] w fun e W'=>∃ v,e = .returned (.tuple #[v,.int .i64 0])∧Ow W' w.heap.size 50 v (l.map (mulT k))∧Below w.heap.size w W':=by
 have hn:=h.1
 have hC:=clone_ok p n c (tcs l) w h.ap h1000
 rcases Nat.eq_zero_or_pos n with z | z
 ·have e:l = []:=List.eq_nil_of_length_eq_zero (by omega)
  subst e
  subst z
  exact scaled_nil p c (strQ k) w (fun v W'=>Ow W' w.heap.size 50 v []∧Below w.heap.size w W') (hC.mono fun e W' ⟨v,e1,o,b⟩=>by
   obtain ⟨p',c',e2,_,_⟩:=(show Ow W' w.heap.size 50 v [] from o).rd
   subst e2
   exact ⟨p',c',e1,o,b⟩)
 ·obtain ⟨b,rfl,tl⟩:=h.rd (by omega)
  have fin:=scaled_core b n c (fun j=>strQ (tat l j).1) (fun j=>strQ (tat l j).2) (fun j=>strQ ((tat l j).1*k)) (strQ k) w
   (fun bb cb j W=>Ow W w.heap.size 50 (.slice (some ⟨bb,0,none⟩) n cb) (mp k j l)∧w.heap.size≤bb∧Below w.heap.size w W) h1000
   (hC.mono fun e W' ⟨v,e1,o,b⟩=>by
    have o2:Ow W' w.heap.size 50 v l:=by unfold Ow;rw [←hn];exact o
    have o1:=o2
    rcases o1.2 with ⟨_,hz⟩ | ⟨g,cap,cur,rfl,hb,hg,h1,_⟩
    ·omega
    ·rw [hn]
     exact ⟨g,cap,e1,h1,by show Ow _ _ _ _ l;exact o2,hb,b⟩)
   (fun bb cb j W W' ⟨h1,h2,h3⟩ hb=>⟨h1.next hb,h2,h3.trans (hb.mono h3.size)⟩)
   (fun bb cb j hj W ⟨h1,h2,h3⟩=>⟨(h3.cell (p:=⟨b,j*2,none⟩) tl.lt).trans (tl.c0 j (by omega)),(h3.cell (p:=⟨b,j*2+1,none⟩) tl.lt).trans (tl.c1 j (by omega))⟩)
   (fun bb cb j hj W ⟨h1,h2,h3⟩=>by
    have hb1:=hB _ (tat_mem (l:=l) (j:=j) (by omega))
    have m1:=qmul_ok hb1 hk (by decide)
    have c:=Mul_q (tat l j).1 k W (hb1.lim (by decide)) (hk.lim (by decide)) (ht.next h3) (TabQ_next ht2 h3)
    rwa [m1.1,m1.2.1] at c)
   (fun bb cb j hj W ⟨h1,h2,h3⟩=>by
    have hl:=mp_len k j l
    refine ⟨h1.frozen _,⟨_,h1.cell0 j (by omega)⟩,?_,h2,h3.setCell (p:=⟨bb,j*2,none⟩) h2 _⟩
    have:=h1.set0 j (by omega) ((tat l j).1*k)
    rwa [mp_set k j l (by omega)] at this)
  refine fin.mono fun e W' ⟨bb,cb,e1,o,_,b⟩=>⟨_,e1,?_,b⟩
  rw [hn,mp_all] at o
  rw [hn];exact o
end Go.Proofs.YtjdfjgfdbgmbiaaGreatDoor.T
namespace Go.Proofs.YtjdfjgfdbgmbiaaGreatDoor.T
open Go.Proofs.YtjdfjgfdbgmbiaaGreatDoor Go Go.RowKit
theorem co_null {m c:Rat} (hm:0<m):co m (c,0)=0:=by
 have:=co_yes (m:=m) (r:=0) c hm (by decide)
 rw [show (0:Rat)*0*m=0 by grind] at this
 rw [this];grind
theorem nN_pos' (q:Rat):(0:Rat)<((nN q:Nat):Rat):=nat_pos (nN_pos q)
theorem co_nrm {m:Rat} (hm:0<m) (t:Tm) (h:0≤t.2):co m (nrmT t)=co m t:=by
 obtain ⟨c,q⟩:=t
 have e:=nC_sq h
 show co m (c*nC q,((nN q:Nat):Rat))=_
 rw [←co_out c hm (nN_pos' q) (nC_nonneg q)]
 show co m (c,nC q*nC q*((nN q:Nat):Rat))=_
 rw [e]
theorem nrmT_pos (t:Tm):0<(nrmT t).2:=nN_pos' t.2
theorem stp_red {l:List Tm} (h:Red l) (t:Tm):Red (stp l t):=by
 unfold stp
 split
 ·exact h
 ·exact ins_red (nrmT_pos t) h
theorem stp_vl {m:Rat} (hm:0<m) {l:List Tm} (h:Red l) (t:Tm) (ht:0≤t.2):vl m (stp l t)=vl m l+co m t:=by
 unfold stp
 split
 ·next z =>
  obtain ⟨c,q⟩:=t
  rcases z with z | z
  ·have:c=0:=z
   subst this;rw [co_zero];grind
  ·have:q=0:=z
   subst this;rw [co_null hm];grind
 ·rw [vl_ins hm (nrmT_pos t) h.1,co_nrm hm t ht]
theorem fold_red:∀ (g l:List Tm),Red l→Red (g.foldl stp l)
 | [],_,h=>h
 | t::g,l,h=>fold_red g (stp l t) (stp_red h t)
theorem fold_vl {m:Rat} (hm:0<m):∀ (g l:List Tm),Red l→(∀ t∈g,0≤t.2)→vl m (g.foldl stp l)=vl m l+vl m g
 | [],l,_,_=>by show vl m l=vl m l+0;grind
 | t::g,l,h,k=>by
  show vl m (g.foldl stp (stp l t))=vl m l+(co m t+vl m g)
  rw [fold_vl hm g (stp l t) (stp_red h t) fun s hs=>k s (List.mem_cons_of_mem _ hs),stp_vl hm h t (k t List.mem_cons_self)];grind
theorem red_nil:Red []:=⟨fun _ h=>(by cases h),List.Pairwise.nil⟩
theorem gth_red (g:List Tm):Red (gth g):=fold_red g [] red_nil
theorem gth_vl {m:Rat} (hm:0<m) (g:List Tm) (h:∀ t∈g,0≤t.2):vl m (gth g)=vl m g:=by
 show vl m (g.foldl stp [])=_
 rw [fold_vl hm g [] red_nil h]
 show (0:Rat)+_=_
 grind
theorem fin_red (g:List Tm):Red (fin g):=(gth_red g).filter _
theorem fin_vl {m:Rat} (hm:0<m) (g:List Tm) (h:∀ t∈g,0≤t.2):vl m (fin g)=vl m g:=by
 rw [←gth_vl hm g h];exact vl_filter m (gth g)
theorem fin_ne {g:List Tm} {t:Tm} (h:t∈fin g):t.1≠0:=by
 have:=(List.mem_filter.1 h).2
 simpa [nz] using this
theorem stp_root {l:List Tm} (h:Red l) (t:Tm) {s:Tm} (hs:s∈stp l t):(∃ r∈l,s.2=r.2)∨(t.1≠0∧t.2≠0∧s.2=((nN t.2:Nat):Rat)):=by
 unfold stp at hs
 split at hs
 ·exact .inl ⟨s,hs,rfl⟩
 ·next z =>
  rcases (ins_mem (nrmT_pos t) h.1 s hs).2.2 with k | k
  ·exact .inr ⟨fun e=>z (.inl e),fun e=>z (.inr e),k⟩
  ·exact .inl k
theorem fold_root:∀ (g l:List Tm),Red l→∀ s∈g.foldl stp l,(∃ r∈l,s.2=r.2)∨∃ t∈g,t.1≠0∧t.2≠0∧s.2=((nN t.2:Nat):Rat)
 | [],_,_,s,hs => .inl ⟨s,hs,rfl⟩
 | t::g,l,h,s,hs=>by
  rcases fold_root g (stp l t) (stp_red h t) s hs with ⟨r,hr,e⟩ | ⟨r,hr,e⟩
  ·rcases stp_root h t hr with ⟨r',hr',e'⟩ | e'
   ·exact .inl ⟨r',hr',e.trans e'⟩
   ·exact .inr ⟨t,List.mem_cons_self,e'.1,e'.2.1,e.trans e'.2.2⟩
  ·exact .inr ⟨r,List.mem_cons_of_mem _ hr,e⟩
theorem gth_root {g:List Tm} {s:Tm} (hs:s∈gth g):∃ t∈g,t.1≠0∧t.2≠0∧s.2=((nN t.2:Nat):Rat):=by
 rcases fold_root g [] red_nil s hs with ⟨r,hr,_⟩ | h
 ·cases hr
 ·exact h
theorem filter_two {α:Type} (p:α→Bool):∀ l:List α,(l.filter p).length+(l.filter fun s => !p s).length=l.length
 | []=>rfl
 | t::l=>by
  have ih:=filter_two p l
  by_cases h:p t=true
  ·rw [List.filter_cons_of_pos h,List.filter_cons_of_neg (by simp [h])];simp only [List.length_cons];omega
  ·rw [List.filter_cons_of_neg h,List.filter_cons_of_pos (by simpa using h)];simp only [List.length_cons];omega
theorem red_len:∀ (C l:List Rat),(l.Pairwise fun s t=>¬ Rl s t)→(∀ s∈l,∃ c∈C,Rl s c)→l.length≤C.length
 | [],[],_,_=>Nat.le_refl _
 | [],s::l,_,h=>by obtain ⟨c,hc,_⟩:=h s List.mem_cons_self;cases hc
 | c::C,l,hp,h=>by
  classical
  have h1:(l.filter fun s=>decide (Rl s c)).length≤1:=by
   have hp':=hp.filter (fun s=>decide (Rl s c))
   match hq:l.filter fun s=>decide (Rl s c) with
   | []=>simp
   | [_]=>simp
   | a::b::r =>
    rw [hq] at hp'
    have ha:a∈l.filter fun s=>decide (Rl s c):=by rw [hq];exact List.mem_cons_self
    have hb:b∈l.filter fun s=>decide (Rl s c):=by rw [hq];exact List.mem_cons_of_mem _ List.mem_cons_self
    have a1:Rl a c:=by simpa using (List.mem_filter.1 ha).2
    have b1:Rl b c:=by simpa using (List.mem_filter.1 hb).2
    exact absurd (a1.trans b1.symm) ((List.pairwise_cons.1 hp').1 b List.mem_cons_self)
  have h2:=red_len C (l.filter fun s => !decide (Rl s c)) (hp.filter _) fun s hs=>by
   obtain ⟨m1,m2⟩:=List.mem_filter.1 hs
   obtain ⟨d,hd,e⟩:=h s m1
   rcases List.mem_cons.1 hd with rfl | hd
   ·simp [e] at m2
   ·exact ⟨d,hd,e⟩
  have h3:=filter_two (fun s=>decide (Rl s c)) l
  rw [List.length_cons]
  omega
theorem fin_good {g:List Tm} (hg:Gv g) (hl:(fin g).length≤16) (hB:∀ t∈fin g,Bq 60 t.1) {l':List Tm} (hp:l'.Perm (fin g)) (hs:l'.Pairwise fun s t=>s.2≤t.2):Good l':=by
 have hr:Red l':=(fin_red g).perm hp.symm
 have hN:=hg.pre g.length (Nat.le_refl _)
 rw [List.take_length] at hN
 refine ⟨by rw [hp.length_eq];exact hl,fun t ht => ?_,?_,hr.2⟩
 ·have h1:=hp.subset ht
  obtain ⟨_,b,e,nb,lb⟩:=hN t (List.mem_filter.1 h1).1
  exact ⟨fin_ne h1,hB t h1,b,e,nb,Nat.lt_of_lt_of_le lb (tenTo_mono (by decide))⟩
 ·refine (hs.and hr.2).imp fun {s t} ⟨h1,h2⟩ => ?_
  exact Rat.lt_of_le_of_ne h1 fun h=>absurd (by rw [h];exact Rl.refl _) h2
end Go.Proofs.YtjdfjgfdbgmbiaaGreatDoor.T
namespace Go.Proofs.YtjdfjgfdbgmbiaaGreatDoor.T
open Go.Proofs.YtjdfjgfdbgmbiaaGreatDoor Go Go.RowKit
theorem Check_core (l:List Tm) (p:Option Addr) (n c:Nat) (w:World) (hn:n=l.length) (h16:n≤16) (hc:n≤c) (hx:Rd w p l)
  (h1:∀ j,j<l.length→∀ W,Below w.heap.size w W→Calls Tryz.prog 84 #[.agg #[.string (strQ (tat l j).1),.string (strQ (tat l j).2)]] W fun e W'=>e = .returned (.int .i64 0)∧Below W.heap.size W W')
  (h2:∀ j,j<l.length→∀ W,Below w.heap.size w W→Calls Tryz.prog 85 #[.string (strQ (tat l j).2),.slice p j c] W fun e W'=>e = .returned (.int .i64 0)∧Below W.heap.size W W') :
  Calls Tryz.prog 53 #[.slice p n c] w fun e W'=>e = .returned (.int .i64 0)∧Below w.heap.size w W':=by
 rw [←hn] at h1 h2
 rcases n with _ | m
 ·clear hx h1 h2 hn hc
  go_enter Tryz.func53,Tryz.ntmps53
  go_wp2
  go_rounds 1
  all_goals go_ret
  all_goals exact ⟨rfl,Below.refl _ _⟩
 ·obtain ⟨b,rfl,ht⟩:=hx (by omega)
  have O:=Lib.hid (And.intro h1 h2);clear h1 h2
  have HT:=Lib.hid (And.intro ht.lt (And.intro (fun j (hj:j<m+1)=>ht.c0 j (by omega)) (fun j (hj:j<m+1)=>ht.c1 j (by omega))))
  have y1:¬ (16:Int)<m+1:=by omega
  have HC:=Lib.hid hc
  clear hx ht hn hc
  go_enter Tryz.func53,Tryz.ntmps53
  go_wp2
  go_loopw [12] (fun i wr=>∃ j:Nat,i = .int .i64 j∧j≤m+1∧Hid (Below w.heap.size w wr)) (fun i _=>m+1 - (intOf i).toNat)
  case atStart=>exact ⟨0,rfl,by omega,Below.refl _ _⟩
  case round =>
   obtain ⟨j,rfl,hj,HB⟩:=hrel
   by_cases hlt:j<m+1
   ·have hz:(j:Int)<m+1:=by omega
    have d0:=(HB.out.cell (p:=⟨b,j*2,none⟩) HT.out.1).trans (HT.out.2.1 j hlt)
    have d1:=(HB.out.cell (p:=⟨b,j*2+1,none⟩) HT.out.1).trans (HT.out.2.2 j hlt)
    go_wp2_with fail
    have HN:=Lib.hid (And.intro (Blk.new wr #[.string (strQ (tat l j).1),.string (strQ (tat l j).2)] 50) (HB.out.alloc HB.out.size (.cells #[.string (strQ (tat l j).1),.string (strQ (tat l j).2)] 50)))
    clear HB;have HB:=HN;clear HN
    generalize wr.alloc (.cells #[.string (strQ (tat l j).1),.string (strQ (tat l j).2)] 50)=u at *
    generalize wr.heap.size=k at *
    have e0:=(show World.cell? _ ⟨k,0,none⟩=some (.string (strQ (tat l j).1)) from HB.out.1.cell 0 _ rfl);have e1:=(show World.cell? _ ⟨k,1,none⟩=some (.string (strQ (tat l j).2)) from HB.out.1.cell 1 _ rfl)
    refine (O.out.1 j hlt _ HB.out.2).mono ?_
    rintro e w' ⟨rfl,b⟩
    have HN:=Lib.hid (And.intro (HB.out.1.next b) (HB.out.2.trans (b.mono HB.out.2.size)));clear HB b;have HB:=HN;clear HN;have e0:=(show World.cell? _ ⟨k,0,none⟩=some (.string (strQ (tat l j).1)) from HB.out.1.cell 0 _ rfl);have e1:=(show World.cell? _ ⟨k,1,none⟩=some (.string (strQ (tat l j).2)) from HB.out.1.cell 1 _ rfl)
    clear d0 d1
    have sl:j≤c:=by have:=HC.out;omega
    have sl2:(j:Int)≤c:=by omega
    go_wp2
    have HD:=Lib.hid (And.intro HB.out.1.drew HB.out.2.drew);clear HB;have HB:=HD;clear HD
    have e0:=(show World.cell? _ ⟨k,0,none⟩=some (.string (strQ (tat l j).1)) from HB.out.1.cell 0 _ rfl);have e1:=(show World.cell? _ ⟨k,1,none⟩=some (.string (strQ (tat l j).2)) from HB.out.1.cell 1 _ rfl)
    go_region_held3 (fun w'=>w'.cell? ⟨k,1,none⟩=some (.string (strQ (tat l j).2))) (first | exact e1 | (go_keep;done))
     (first | (go_at_call 85;refine (O.out.2 j hlt _ HB.out.2).mono ?_;rintro e w4 ⟨rfl,b⟩;have HN:=Lib.hid (And.intro (HB.out.1.next b) (HB.out.2.trans (b.mono HB.out.2.size)));clear HB b;have HB:=HN;clear HN;have e0:=(show World.cell? _ ⟨k,0,none⟩=some (.string (strQ (tat l j).1)) from HB.out.1.cell 0 _ rfl);have e1:=(show World.cell? _ ⟨k,1,none⟩=some (.string (strQ (tat l j).2)) from HB.out.1.cell 1 _ rfl)))
    all_goals
     have e0:=(show World.cell? _ ⟨k,0,none⟩=some (.string (strQ (tat l j).1)) from HB.out.1.cell 0 _ rfl);have e1:=(show World.cell? _ ⟨k,1,none⟩=some (.string (strQ (tat l j).2)) from HB.out.1.cell 1 _ rfl)
     go_wp2
     go_roundw
     case rel=>exact ⟨j+1,by go_num,by omega,HB.out.2⟩
     case measure=>simp [intOf];omega
   ·have hz:¬ (j:Int)<m+1:=by omega
    go_wp2
    go_ret
    exact ⟨rfl,HB.out⟩
structure Sd (W:World) (p:Option Addr) (n c:Nat) (l:List Tm):Prop where
 good:Good l
 len:n=l.length
 cap:n≤c
 rd:Rd W p l
theorem Sd.next {W W':World} {p:Option Addr} {n c:Nat} {l:List Tm} (h:Sd W p n c l) (g:Below W.heap.size W W'):Sd W' p n c l:=⟨h.good,h.len,h.cap,h.rd.next g⟩
theorem Check_good (l:List Tm) (p:Option Addr) (n c:Nat) (w:World) (h:Sd w p n c l) (ht:Tab w) (ht2:Tab64 w) (hS:Sm w) :
  Calls Tryz.prog 53 #[.slice p n c] w fun e W'=>e = .returned (.int .i64 0)∧Below w.heap.size w W':=by
 have hl:=h.good.len
 have hn:=h.len
 exact Check_core l p n c w hn (by omega) h.cap h.rd
  (fun j hj W hw=>checkTerm_ok _ W (h.good.ok _ (tat_mem hj)) (ht.next hw) (TabQ_next ht2 hw) (hS.next hw))
  (fun j hj W hw=>checkPlace_ok l h.good j hj p c W (h.rd.next hw) (ht.next hw) (TabQ_next ht2 hw))
theorem areSurds_core (b n:Nat) (P:Nat→Option Addr) (N C:Nat→Nat) (w:World) (h16:n≤16) (hb:b<w.heap.size)
  (hc:∀ j,j<n→w.cell? ⟨b,j,none⟩=some (.slice (P j) (N j) (C j)))
  (h1:∀ j,j<n→∀ W,Below w.heap.size w W→Calls Tryz.prog 53 #[.slice (P j) (N j) (C j)] W fun e W'=>e = .returned (.int .i64 0)∧Below W.heap.size W W') :
  Calls Tryz.prog 40 #[.slice (some ⟨b,0,none⟩) n n] w fun e W'=>e = .returned (.bool true)∧Below w.heap.size w W':=by
 have O:=Lib.hid (And.intro hc h1);clear hc h1
 go_enter Tryz.func40,Tryz.ntmps40
 go_wp2
 go_loopw [7] (fun i wr=>∃ j:Nat,i = .int .i64 j∧j≤n∧Hid (Below w.heap.size w wr)) (fun i _=>n - (intOf i).toNat)
 case atStart=>exact ⟨0,rfl,by omega,Below.refl _ _⟩
 case round =>
  obtain ⟨j,rfl,hj,HB⟩:=hrel
  by_cases hlt:j<n
  ·have d0:=(HB.out.cell (p:=⟨b,j,none⟩) hb).trans (O.out.1 j hlt)
   have hr:=Lib.hid (O.out.2 j hlt _ HB.out)
   generalize P j=pj at *
   generalize N j=nj at *
   generalize C j=cj at *
   go_wp2_with fail
   refine hr.out.mono ?_
   rintro e w' ⟨rfl,b⟩
   have HB2:=Lib.hid (HB.out.trans (b.mono HB.out.size));clear b HB hr
   go_wp2
   go_roundw
   case rel=>exact ⟨j+1,by go_num,by omega,HB2.out⟩
   case measure=>simp [intOf];omega
  ·have he:j=n:=by omega
   go_wp2
   go_ret
   exact ⟨rfl,HB.out⟩
theorem areSurds_1 (b : Nat) (p : Option Addr) (n c : Nat) (l : List Tm) (w : World) (hb : Blk w b #[.slice p n c]) (h : Sd w p n c l) (ht : Tab w) (ht2 : Tab64 w) (hS : Sm w) :
   Calls Tryz.prog 40 #[.slice (some ⟨b, 0, none⟩) 1 1] w fun e W' => e = .returned (.bool true) ∧ Below w.heap.size w W' :=
 areSurds_core b 1 (fun _ => p) (fun _ => n) (fun _ => c) w (by decide) hb.lt
   (fun j hj => by obtain rfl : j = 0 := by omega
                   exact hb.cell 0 _ rfl)
   (fun _ _ W hw => Check_good l p n c W (h.next hw) (ht.next hw) (TabQ_next ht2 hw) (hS.next hw))
theorem areSurds_2 (b:Nat) (p p':Option Addr) (n c n' c':Nat) (l l':List Tm) (w:World) (hb:Blk w b #[.slice p n c,.slice p' n' c']) (h:Sd w p n c l) (h':Sd w p' n' c' l') (ht:Tab w) (ht2:Tab64 w) (hS:Sm w) :
  Calls Tryz.prog 40 #[.slice (some ⟨b,0,none⟩) 2 2] w fun e W'=>e = .returned (.bool true)∧Below w.heap.size w W' :=
 areSurds_core b 2 (fun j=>if j=0 then p else p') (fun j=>if j=0 then n else n') (fun j=>if j=0 then c else c') w (by decide) hb.lt
  (fun j hj=>by
   have h2:j=0∨j=1:=by omega
   rcases h2 with rfl | rfl
   ·exact hb.cell 0 _ rfl
   ·exact hb.cell 1 _ rfl)
  (fun j hj W hw=>by
   have h2:j=0∨j=1:=by omega
   rcases h2 with rfl | rfl
   ·exact Check_good l p n c W (h.next hw) (ht.next hw) (TabQ_next ht2 hw) (hS.next hw)
   ·exact Check_good l' p' n' c' W (h'.next hw) (ht.next hw) (TabQ_next ht2 hw) (hS.next hw))
end Go.Proofs.YtjdfjgfdbgmbiaaGreatDoor.T
namespace Go.Proofs.YtjdfjgfdbgmbiaaGreatDoor.T
open Go.Proofs.YtjdfjgfdbgmbiaaGreatDoor Go Go.RowKit
structure Su (W:World) (p:Option Addr) (n c:Nat) (l:List Tm):Prop where
 good:Good l
 sr:Sr W p n c l
theorem Su.sd {W:World} {p:Option Addr} {n c:Nat} {l:List Tm} (h:Su W p n c l):Sd W p n c l:=⟨h.good,h.sr.1,h.sr.2.1,h.sr.rd⟩
theorem Su.next {W W':World} {p:Option Addr} {n c:Nat} {l:List Tm} (h:Su W p n c l) (g:Below W.heap.size W W'):Su W' p n c l:=⟨h.good,h.sr.next g⟩
def Rs (g:List Tm) (B:Nat) (w:World) (e:Ending) (W':World):Prop :=
 ∃ p n c l,e = .returned (.tuple #[.slice p n c,.int .i64 0])∧l.Perm (fin g)∧Su W' p n c l∧Below B w W'
structure Gd (g:List Tm):Prop where
 gv:Gv g
 len:(fin g).length≤16
 bq:∀ t∈fin g,Bq 60 t.1
theorem gathered_su (g:List Tm) (hg:Gd g) (p:Option Addr) (n c:Nat) (w:World) (hn:n=g.length) (hx:Rd w p g) (ht:Tab w) (ht2:Tab64 w) (hS:Sm w) :
  Calls Tryz.prog 59 #[.slice p n c] w fun e W'=>Rs g w.heap.size w e W':=by
 have hN:=hg.gv.pre g.length (Nat.le_refl _)
 rw [List.take_length] at hN
 refine (gathered_ok g hg.gv ⟨hg.len,fun t ht=>⟨hg.bq t ht,?_⟩⟩ p n c w hn hx ht ht2 hS).mono fun e W' ⟨v',e1,l',p',n',c',e2,q1,q2,q3,q4⟩ => ?_
 ·obtain ⟨_,b,e,_,lb⟩:=hN t (List.mem_filter.1 ht).1
  exact ⟨b,e,Nat.lt_of_lt_of_le lb (tenTo_mono (by decide))⟩
 ·subst e2
  exact ⟨p',n',c',l',e1,q1,⟨fin_good hg.gv hg.len hg.bq q1 q2,q3⟩,q4⟩
theorem Rs.of {g:List Tm} {B B':Nat} {w w' W':World} {e:Ending} (h:Rs g B' w' e W') (h1:Below B w w') (h2:B≤B'):∃ v,e = .returned (.tuple #[v,.int .i64 0])∧Rs g B w (.returned (.tuple #[v,.int .i64 0])) W':=by
 obtain ⟨p,n,c,l,e1,q1,q2,q3⟩:=h
 exact ⟨_,e1,p,n,c,l,rfl,q1,q2,h1.trans (q3.mono h2)⟩
theorem Rs.to {g:List Tm} {B:Nat} {w W':World} {e:Ending} (h:∃ v,e = .returned (.tuple #[v,.int .i64 0])∧Rs g B w (.returned (.tuple #[v,.int .i64 0])) W'):Rs g B w e W':=by
 obtain ⟨v,rfl,h⟩:=h;exact h
theorem concat_sr {l k:List Tm} {p p':Option Addr} {n n' c c' b:Nat} {W:World} (hb:Blk W b #[.slice p n c,.slice p' n' c']) (h:Sr W p n c l) (h':Sr W p' n' c' k) (l1:n≤1000) (l2:n'≤1000) :
  Calls Tryz.prog 74 #[.slice (some ⟨b,0,none⟩) 2 2] W fun e W'=>∃ v,e = .returned v∧Ow W' W.heap.size 50 v (l++k)∧Below W.heap.size W W':=by
 have a2:=h.1;have a4:=h'.1
 refine (concat_ok p p' n n' c c' b (tcs l) (tcs k) W hb h.ap h'.ap l1 l2).mono fun e W' ⟨v,e1,o,b1⟩=>⟨v,e1,?_,b1⟩
 unfold Ow
 rw [List.length_append,←a2,←a4,tcs_append];exact o
theorem Su.le {W:World} {p:Option Addr} {n c:Nat} {l:List Tm} (h:Su W p n c l):n≤16:=by
 have a1:=h.good.len;have a2:=h.sr.1;omega
theorem Ow.sr {W:World} {base:Nat} {T:TypeId} {v:Value} {l:List Tm} (h:Ow W base T v l):∃ p c,v = .slice p l.length c∧Sr W p l.length c l:=by
 have o:=h
 obtain ⟨p,c,rfl,rd,hn⟩:=h.rd
 rcases o.2 with ⟨e,hz⟩ | ⟨g,cap,cur,e,_,hg,hc,_⟩
 ·have el:=List.eq_nil_of_length_eq_zero hz
  subst el
  cases e
  exact ⟨none,0,rfl,rfl,Nat.le_refl _,.inl ⟨rfl,rfl,rfl⟩⟩
 ·cases e
  refine ⟨_,_,rfl,rfl,hc,.inr ⟨g,rfl,fun k => ?_⟩⟩
  obtain ⟨b,e,t⟩:=rd k
  cases e;exact t
theorem difference_core (p p':Option Addr) (n c n' c':Nat) (w:World) (Q:Value→World→Prop)
  (hA:Calls Tryz.prog 73 #[.slice p' n' c',.string ⟨#[45,49]⟩] w fun e W=>∃ q m d,e = .returned (.tuple #[.slice q m d,.int .i64 0]) ∧
   ∀ b,Blk (W.alloc (.cells #[.slice p n c,.slice q m d] 26)) b #[.slice p n c,.slice q m d]→Calls Tryz.prog 74 #[.slice (some ⟨b,0,none⟩) 2 2] (W.alloc (.cells #[.slice p n c,.slice q m d] 26)) fun e W'=>∃ v,e = .returned v ∧
   Calls Tryz.prog 59 #[v] W' fun e W''=>∃ v,e = .returned (.tuple #[v,.int .i64 0])∧Q v W'') :
  Calls Tryz.prog 42 #[.slice p n c,.slice p' n' c'] w fun e W'=>∃ v,e = .returned (.tuple #[v,.int .i64 0])∧Q v W':=by
 have O:=Lib.hid hA;clear hA
 go_enter Tryz.func42,Tryz.ntmps42
 go_wp2_with fail
 refine O.out.mono ?_
 rintro e W1 ⟨q,m,d,rfl,h⟩
 have H:=Lib.hid h;clear h
 go_wp2_with fail
 refine (H.out _ (Blk.new W1 _ _)).mono ?_
 rintro e W2 ⟨v,rfl,h⟩
 have H2:=Lib.hid h;clear h
 go_wp2_with fail
 refine H2.out.mono ?_
 rintro e W3 ⟨v',rfl,hq⟩
 have HQ:=Lib.hid hq;clear hq
 go_wp2
 go_ret2
 exact ⟨_,rfl,HQ.out⟩
theorem strQ_m1:strQ (-1:Rat)=⟨#[45,49]⟩:=by decide+kernel
theorem difference_ok (l k:List Tm) (p p':Option Addr) (n n' c c':Nat) (w:World) (h:Su w p n c l) (h':Su w p' n' c' k) (hg:Gd (l++k.map (mulT (-1)))) (ht:Tab w) (ht2:Tab64 w) (hS:Sm w) :
  Calls Tryz.prog 42 #[.slice p n c,.slice p' n' c'] w fun e W'=>Rs (l++k.map (mulT (-1))) w.heap.size w e W':=by
 refine (difference_core p p' n c n' c' w (fun v W'=>Rs (l++k.map (mulT (-1))) w.heap.size w (.returned (.tuple #[v,.int .i64 0])) W') ?_).mono fun e W' h=>Rs.to h
 have q1:Bq 60 (-1:Rat):=(J.int (-1)).bq (by decide) (by decide+kernel) (by decide+kernel)
 have sc:=scaled_ok k (-1) p' n' c' w h'.sr (by have:=h'.le;omega) q1 (fun t ht=>(h'.good.ok t ht).2.1) ht ht2
 rw [strQ_m1] at sc
 refine sc.mono fun e W1 ⟨v,e1,o,b1⟩ => ?_
 obtain ⟨q,d,rfl,hs⟩:=o.sr
 refine ⟨q,_,d,e1,fun b hb => ?_⟩
 have b2:Below W1.heap.size W1 (W1.alloc (.cells #[.slice p n c,.slice q (k.map (mulT (-1))).length d] 26)):=(Below.refl _ _).alloc (Nat.le_refl _) _
 have b3:=b1.trans (b2.mono b1.size)
 refine (concat_sr hb (h.next b3).sr (hs.next b2) (by have:=h.le;omega) (by have:=h'.le;have:=h'.sr.1;rw [List.length_map];omega)).mono fun e W' ⟨v,e1,o,b4⟩=>⟨v,e1,?_⟩
 obtain ⟨q,d,rfl,rd,_⟩:=o.rd
 have b5:=b3.trans (b4.mono b3.size)
 exact (gathered_su _ hg q _ d W' rfl rd (ht.next b5) (TabQ_next ht2 b5) (hS.next b5)).mono fun e W'' r=>r.of b5 b5.size
end Go.Proofs.YtjdfjgfdbgmbiaaGreatDoor.T
