/- Parts of the proof. -/
import Derived.Laws.CopyOwn
import Derived.Laws.Rows
import Derived.Laws.Tables
import Derived.DeepKeys
import Derived.Test.YtbhbhlfkdlfimaaGreatDoorQX23
set_option linter.all false
set_option maxRecDepth 100000
set_option maxHeartbeats 8000000
namespace Go.Proofs.YtbhbhlfkdlfimaaGreatDoor
namespace T
open Go.RowKit
structure Su (W:World) (p:Option Addr) (n c:Nat) (l:List Tm):Prop where
 good:Good l
 sr:Sr W p n c l
theorem Su.sd {W:World} {p:Option Addr} {n c:Nat} {l:List Tm} (h:Su W p n c l):Sd W p n c l:=⟨h.good,h.sr.1,h.sr.2.1,h.sr.rd⟩
theorem Su.next {W W':World} {p:Option Addr} {n c:Nat} {l:List Tm} (h:Su W p n c l) (g:Below W.heap.size W W'):Su W' p n c l:=⟨h.good,h.sr.next g⟩
def Rs (g:List Tm) (B:Nat) (w:World) (e:Ending) (W':World):Prop :=
 ∃ p n c l,e = .returned (.tuple #[.slice p n c,.int .i64 0])∧l.Perm (fin g)∧Su W' p n c l∧Below B w W'
structure Gd (g:List Tm):Prop where
 gv:Gv g
 len:(fin g).length≤16
 bq:∀ t∈fin g,Bq 60 t.1
theorem nh (g:List Tm) (hg:Gd g) (p:Option Addr) (n c:Nat) (w:World) (hn:n=g.length) (hx:Rd w p g) (ht:Tab w) (ht2:aH w) (hS:Sm w) :
  Calls Tryz.prog 69 #[.slice p n c] w fun e W'=>Rs g w.heap.size w e W':=by
 have hN:=hg.gv.pre g.length (Nat.le_refl _)
 rw [List.take_length] at hN
 refine (uo g hg.gv ⟨hg.len,fun t ht=>⟨hg.bq t ht,?_⟩⟩ p n c w hn hx ht ht2 hS).mono fun e W' ⟨v',e1,l',p',n',c',e2,q1,q2,q3,q4⟩ => ?_
 ·obtain ⟨_,b,e,_,lb⟩:=hN t (List.mem_filter.1 ht).1
  exact ⟨b,e,Nat.lt_of_lt_of_le lb (aG (by decide))⟩
 ·subst e2
  exact ⟨p',n',c',l',e1,q1,⟨Bz hg.gv hg.len hg.bq q1 q2,q3⟩,q4⟩
theorem Rs.of {g:List Tm} {B B':Nat} {w w' W':World} {e:Ending} (h:Rs g B' w' e W') (h1:Below B w w') (h2:B≤B'):∃ v,e = .returned (.tuple #[v,.int .i64 0])∧Rs g B w (.returned (.tuple #[v,.int .i64 0])) W':=by
 obtain ⟨p,n,c,l,e1,q1,q2,q3⟩:=h
 exact ⟨_,e1,p,n,c,l,rfl,q1,q2,h1.trans (q3.mono h2)⟩
theorem Rs.to {g:List Tm} {B:Nat} {w W':World} {e:Ending} (h:∃ v,e = .returned (.tuple #[v,.int .i64 0])∧Rs g B w (.returned (.tuple #[v,.int .i64 0])) W'):Rs g B w e W':=by
 obtain ⟨v,rfl,h⟩:=h;exact h
theorem zH {l k:List Tm} {p p':Option Addr} {n n' c c' b:Nat} {W:World} (hb:Blk W b #[.slice p n c,.slice p' n' c']) (h:Sr W p n c l) (h':Sr W p' n' c' k) (l1:n≤1000) (l2:n'≤1000) :
  Calls Tryz.prog 146 #[.slice (some ⟨b,0,none⟩) 2 2] W fun e W'=>∃ v,e = .returned v∧Ow W' W.heap.size 43 v (l++k)∧Below W.heap.size W W':=by
 have a2:=h.1;have a4:=h'.1
 refine (zF p p' n n' c c' b (tcs l) (tcs k) W hb h.ap h'.ap l1 l2).mono fun e W' ⟨v,e1,o,b1⟩=>⟨v,e1,?_,b1⟩
 unfold Ow
 rw [List.length_append,←a2,←a4,oT];exact o
theorem Su.le {W:World} {p:Option Addr} {n c:Nat} {l:List Tm} (h:Su W p n c l):n≤16:=by
 have a1:=h.good.len;have a2:=h.sr.1;omega
theorem Ow.sr {W:World} {base:Nat} {T:TypeId} {v:Value} {l:List Tm} (h:Ow W base T v l):∃ p c,v = .slice p l.length c∧Sr W p l.length c l:=by
 have o:=h
 obtain ⟨p,c,rfl,rd,hn⟩:=h.rd
 rcases o.2 with ⟨e,hz⟩ | ⟨g,cap,cur,e,_,hg,hc,_⟩
 ·have el:=List.eq_nil_of_length_eq_zero hz
  subst el
  cases e
  exact ⟨none,0,rfl,rfl,Nat.le_refl _,.inl ⟨rfl,rfl,rfl⟩⟩
 ·cases e
  refine ⟨_,_,rfl,rfl,hc,.inr ⟨g,rfl,fun k => ?_⟩⟩
  obtain ⟨b,e,t⟩:=rd k
  cases e;exact t
theorem nH (p p':Option Addr) (n c n' c':Nat) (w:World) (Q:Value→World→Prop)
  (hA:Calls Tryz.prog 204 #[.slice p' n' c',.string ⟨#[45,49]⟩] w fun e W=>∃ q m d,e = .returned (.tuple #[.slice q m d,.int .i64 0]) ∧
   ∀ b,Blk (W.alloc (.cells #[.slice p n c,.slice q m d] 45)) b #[.slice p n c,.slice q m d]→Calls Tryz.prog 146 #[.slice (some ⟨b,0,none⟩) 2 2] (W.alloc (.cells #[.slice p n c,.slice q m d] 45)) fun e W'=>∃ v,e = .returned v ∧
   Calls Tryz.prog 69 #[v] W' fun e W''=>∃ v,e = .returned (.tuple #[v,.int .i64 0])∧Q v W'') :
  Calls Tryz.prog 181 #[.slice p n c,.slice p' n' c'] w fun e W'=>∃ v,e = .returned (.tuple #[v,.int .i64 0])∧Q v W':=by
 have O:=Ha hA;clear hA
 go_enter Tryz.func181,Tryz.ntmps181
 go_wp2_with fail
 refine O.out.mono ?_
 rintro e W1 ⟨q,m,d,rfl,h⟩
 have H:=Ha h;clear h
 go_wp2_with fail
 refine (H.out _ (Blk.new W1 _ _)).mono ?_
 rintro e W2 ⟨v,rfl,h⟩
 have H2:=Ha h;clear h
 go_wp2_with fail
 refine H2.out.mono ?_
 rintro e W3 ⟨v',rfl,hq⟩
 have HQ:=Ha hq;clear hq
 go_wp2
 go_ret2
 exact ⟨_,rfl,HQ.out⟩
theorem DO:af (-1:Rat)=⟨#[45,49]⟩:=by decide+kernel
theorem qC (l k:List Tm) (p p':Option Addr) (n n' c c':Nat) (w:World) (h:Su w p n c l) (h':Su w p' n' c' k) (hg:Gd (l++k.map (mulT (-1)))) (ht:Tab w) (ht2:aH w) (hS:Sm w) :
  Calls Tryz.prog 181 #[.slice p n c,.slice p' n' c'] w fun e W'=>Rs (l++k.map (mulT (-1))) w.heap.size w e W':=by
 refine (nH p p' n c n' c' w (fun v W'=>Rs (l++k.map (mulT (-1))) w.heap.size w (.returned (.tuple #[v,.int .i64 0])) W') ?_).mono fun e W' h=>Rs.to h
 have q1:Bq 60 (-1:Rat):=(J.int (-1)).bq (by decide) (by decide+kernel) (by decide+kernel)
 have sc:=zG k (-1) p' n' c' w h'.sr (by have:=h'.le;omega) q1 (fun t ht=>(h'.good.ok t ht).2.1) ht ht2
 rw [DO] at sc
 refine sc.mono fun e W1 ⟨v,e1,o,b1⟩ => ?_
 obtain ⟨q,d,rfl,hs⟩:=o.sr
 refine ⟨q,_,d,e1,fun b hb => ?_⟩
 have b2:Below W1.heap.size W1 (W1.alloc (.cells #[.slice p n c,.slice q (k.map (mulT (-1))).length d] 45)):=(Below.refl _ _).alloc (Nat.le_refl _) _
 have b3:=b1.trans (b2.mono b1.size)
 refine (zH hb (h.next b3).sr (hs.next b2) (by have:=h.le;omega) (by have:=h'.le;have:=h'.sr.1;rw [List.length_map];omega)).mono fun e W' ⟨v,e1,o,b4⟩=>⟨v,e1,?_⟩
 obtain ⟨q,d,rfl,rd,_⟩:=o.rd
 have b5:=b3.trans (b4.mono b3.size)
 exact (nh _ hg q _ d W' rfl rd (ht.next b5) (ae ht2 b5) (hS.next b5)).mono fun e W'' r=>r.of b5 b5.size
end T
namespace T
open Go.RowKit
theorem wC {P:Program} (w:World) (dT sT ty elem:TypeId) (g dLen dCap:Nat) (sp:Option Addr) (sLen sCap k:Nat) (cur:Array Value) (t:TypeId) (cs:List Value)
  (hu:P.underlying dT=some (.slice elem)) (hs:(P.info? elem).map (·.size)=some k)
  (hg:w.heap[g]? = some (.cells cur t (0,0))) (hn:cs.length=Nat.min sLen dLen*k)
  (hsp:(sp=none∧cs = [])∨∃ a,sp=some a∧∀ j v,cs[j]? = some v→w.cell? (a.add j)=some v) (hfit:cs.length≤cur.size) (h1:∀ v∈cs,v.oneCell'=true) :
  (Builtin.copy_ #[dT,sT] ty #[.slice (some ⟨g,0,none⟩) dLen dCap,.slice sp sLen sCap]).run P w =
   .ok (goInt (Nat.min sLen dLen)) (w.setRow g (cs++cur.toList.drop cs.length).toArray):=by
 have hst:=run_storeCells_at P g 0 t cs 0 cur w hg (by simpa using hfit) h1
 simp only [Nat.add_zero,Nat.zero_add,List.take_zero,List.nil_append] at hst
 cases hq:P.info? elem with
 | none=>simp [hq] at hs
 | some i =>
  have hi:i.size=k:=by simpa [hq] using hs
  rcases hsp with ⟨rfl,rfl⟩ | ⟨a,rfl,hsrc⟩
  ·simp [Builtin.copy_,run_underlying hu,Builtin.lenOf,Builtin.firstCells,sizeOf,typeInfo,hq,hi] at hst ⊢
   simp [hst]
  ·have hl:=run_loadCells_list (P:=P) w a cs hsrc
   rw [hn] at hl
   simp [Builtin.copy_,run_underlying hu,Builtin.lenOf,Builtin.firstCells,sizeOf,typeInfo,hq,hi,hl,hst]
theorem qD {P:Program} {w:World} {ops:Array Oper} {rest:List Oper} {o:Oper} {a:Act} {Q:Exit→Act→World→Prop} (hgd:o.guard=none) (d s:Operand) (dT sT:TypeId)
  (ho:o.op = .call { callee := .builtin .copy,args := #[d,s],argTypes := #[dT,sT] }) (elem:TypeId) (hu:P.underlying dT=some (.slice elem)) (k:Nat) (hsz:(P.info? elem).map (·.size)=some k)
  (g dLen dCap:Nat) (sp:Option Addr) (sLen sCap:Nat) (hd:a.eval d = .slice (some ⟨g,0,none⟩) dLen dCap) (hs:a.eval s = .slice sp sLen sCap)
  (cur:Array Value) (t:TypeId) (hg:w.heap[g]? = some (.cells cur t (0,0))) (cs:List Value) (hn:cs.length=Nat.min sLen dLen*k)
  (hsp:(sp=none∧cs = [])∨∃ a,sp=some a∧∀ j v,cs[j]? = some v→w.cell? (a.add j)=some v) (hfit:cs.length≤cur.size) (h1:∀ v∈cs,v.oneCell'=true)
  (h:∀ w',w'.heap[g]? = some (.cells (cs++cur.toList.drop cs.length).toArray t (0,0))→(∀ q,q≠g→w'.heap[q]? = w.heap[q]?)→(∀ B w0,B≤g→Below B w0 w→Below B w0 w')→wpList P ops Q rest (a.put o.dst (goInt (Nat.min sLen dLen))) w'):wpList P ops Q (o::rest) a w:=by
 refine wpList_plain hgd fun K hK => ?_
 have hrun:=wC (P:=P) w dT sT o.type elem g dLen dCap sp sLen sCap k cur t cs hu hsz hg hn hsp hfit h1
 unfold Oper.wp
 simp [execOp,ho,resolve,invoke,builtin,hd,hs,hrun,Result.andThen]
 exact hK _ _ (h _ (setRow_heap w g cur _ t _ hg) (fun q hq=>setRow_other w g q _ hq) fun B w0 hB hb=>below_setRow hb hB _)
def pad (l:List Tm):List Value:=tcs l++List.replicate (32 - l.length*2) (.string ⟨#[]⟩)
theorem sR {l:List Tm} (h:l.length≤16):(pad l).length=32:=by
 unfold pad
 rw [List.length_append,fz,List.length_replicate];omega
theorem DP (l:List Tm):∀ v∈pad l,∃ s,v = .string s:=fun v hv=>by
 unfold pad tcs at hv
 rcases List.mem_append.1 hv with h | h
 ·obtain ⟨t,_,h⟩:=List.mem_flatMap.1 h
  unfold tc at h
  simp only [List.mem_cons,List.mem_nil_iff,or_false] at h
  rcases h with rfl | rfl <;> exact ⟨_,rfl⟩
 ·exact ⟨_,(List.mem_replicate.1 h).2⟩
theorem yj (l:List Tm):∀ v∈pad l,v.oneCell'=true:=fun v hv=>by obtain ⟨s,rfl⟩:=DP l v hv;rfl
def blank:Array Value:=Array.replicate 32 (.string ⟨#[]⟩)
theorem wD {l:List Tm} (h:l.length≤16):tcs l++blank.toList.drop (tcs l).length=pad l:=by
 unfold pad blank
 rw [fz,Array.toList_replicate,List.drop_replicate]
theorem kB:(Tryz.prog.info? 230).map (·.size)=some 32:=by kernel_rfl
theorem zI:(Tryz.prog.info? 43).map (·.size)=some 2:=by kernel_rfl
theorem Fy {W:World} {p:Option Addr} {n c:Nat} {xs:List Value} (h:Ap W p n c xs):(p=none∧xs = [])∨∃ a,p=some a∧∀ j v,xs[j]? = some v→W.cell? (a.add j)=some v:=by
 obtain ⟨h1,_,h3⟩:=h
 rcases h3 with ⟨e1,e2,_⟩ | ⟨b,e1,h4⟩
 ·exact .inl ⟨e1,List.eq_nil_of_length_eq_zero (by omega)⟩
 ·exact .inr ⟨_,e1,h4⟩
theorem pJ (l:List Tm) (p:Option Addr) (n c:Nat) (w:World) (h:Sr w p n c l) (h16:l.length≤16) :
  Calls Tryz.prog 180 #[.slice p n c] w fun e W'=>e = .returned (.agg (pad l).toArray)∧Below w.heap.size w W':=by
 have hn:=h.1
 have HN:=Ha (show (tcs l).length=Nat.min n 16*2 by rw [fz,hn];show _=min l.length 16*2;rw [Nat.min_eq_left h16])
 have HS:=Ha (fun W (hW:Below w.heap.size w W)=>Fy (h.next hW).ap)
 have HF:=Ha (show (tcs l).length≤blank.size by rw [fz];show _≤(Array.replicate 32 _).size;rw [Array.size_replicate];omega)
 have HO:=Ha (show ∀ v∈tcs l,v.oneCell'=true from fun v hv=>yj l v (List.mem_append.2 (.inl hv)))
 have HP:=Ha (show (pad l).toArray.size=32 from by rw [List.size_toArray,sR h16])
 have HQ:=Ha (show (pad l).toArray.all (·.oneCell')=true from by rw [Array.all_eq_true_iff_forall_mem];intro v hv;exact yj l v (by simpa using hv))
 have HD:=Ha (wD h16)
 have HB0:=Ha (Below.refl w.heap.size w)
 clear h h16 hn
 go_enter Tryz.func180,Tryz.ntmps180
 go_wp2_with (refine qD rfl _ _ 44 45 rfl 43 Tryz.underlying44 2 zI (w.heap.size+1) 16 16 p n c rfl rfl blank 230 (heap_alloc2_new w _ _) (tcs l) HN.out (HS.out _ ((HB0.out.alloc (Nat.le_refl _) _).alloc (by simp) _)) HF.out HO.out ?_)
 intro w2 q1 q2 q3
 rw [HD.out] at q1
 have q5:=(q2 w.heap.size (by omega)).trans ((heap_alloc_old _ _ (by simp)).trans (heap_alloc_new w _))
 have q6:=q3 w.heap.size w (by omega) ((HB0.out.alloc (Nat.le_refl _) _).alloc (by simp) _)
 have HW:=Ha (Hb q1 (Hb q5 q6));clear q1 q2 q3 q5 q6
 go_wp2_with (first | (refine wpList_load_row rfl 230 _ rfl (w.heap.size+1) rfl _ _ _ _ HW.out.1 Tryz.underlying230 rfl (by rw [HP.out];exact kB) ?_) | (refine wpList_store_row rfl 230 _ _ rfl w.heap.size _ rfl rfl _ _ HW.out.2.1 (by rw [HP.out];exact kB) (by rw [HP.out];rfl) HQ.out ?_))
 refine bodyPost_ret (v := .agg (pad l).toArray) (results_cell_row Tryz.results180 _ _ w.heap.size _ _ (0,0) _ rfl (setRow_heap _ _ _ _ _ _ HW.out.2.1) Tryz.underlying230 rfl (by rw [HP.out];exact kB)) rfl ?_
 exact ⟨rfl,below_setRow HW.out.2.2 (Nat.le_refl _) _⟩
end T
namespace T
open Go.RowKit
theorem repeatL_one (c:UInt8):∀ n,Lib.repeatL [c] n=List.replicate n c
 | 0=>rfl
 | n+1=>by
  show [c]++Lib.repeatL [c] n=_
  rw [repeatL_one c n,List.replicate_succ];rfl
theorem j9:∀ n,Lib.decDigits (10 ^ n)=49::List.replicate n 48
 | 0=>by rw [Nat.pow_zero,Lib.decDigits_one (by decide)];rfl
 | n+1=>by
  have h:¬ 10 ^ (n+1)<10:=by
   have:=cY n
   have e:ak n=10 ^ n:=rfl
   rw [Nat.pow_succ];omega
  rw [Lib.decDigits,dif_neg h,show 10 ^ (n+1) / 10=10 ^ n by rw [Nat.pow_succ];omega,show 10 ^ (n+1) % 10=0 by rw [Nat.pow_succ];omega,j9 n,List.replicate_succ']
  rfl
theorem uu (n:Nat):(⟨#[49]⟩:ByteArray)++⟨(List.replicate n 48).toArray⟩=aa ((ak n:Nat):Int):=by
 apply aU
 rw [aF,Lib.itoa_nonneg]
 rw [ByteArray.data_append,show ak n=10 ^ n from rfl,j9]
 simp
theorem FA (n:Nat) (w:World) (h:n≤1000) :
  Calls Tryz.prog 123 #[.string ⟨#[48]⟩,.int .i64 n] w fun e W'=>e = .returned (.string ⟨(List.replicate n 48).toArray⟩)∧Below w.heap.size w W':=by
 match n,h with
 | 0,_=>exact (Tryz.strings_Repeat_zero ⟨#[48]⟩ w).mono fun e W' ⟨a,b⟩=>⟨a,by rw [b];exact Below.refl _ _⟩
 | 1,_=>exact (Tryz.strings_Repeat_one ⟨#[48]⟩ w).mono fun e W' ⟨a,b⟩=>⟨a,by rw [b];exact Below.refl _ _⟩
 | n+2,h =>
  have c:=Tryz.strings_Repeat_main ⟨#[48]⟩ (n+2) w (by omega) (by omega) (by show 1*(n+2)≤_;omega) (by decide)
  rwa [show (⟨#[48]⟩:ByteArray).data.toList = [48] from rfl,repeatL_one] at c
end T
namespace T
open Go.Proofs.YtbhbhlfkdlfimaaGreatDoor Go
theorem iU {x:Nat} (hx:0<x):∀ k,Lib.decDigits (x*10 ^ k)=Lib.decDigits x++List.replicate k 48
 | 0=>by rw [Nat.pow_zero,Nat.mul_one];simp
 | k+1=>by
  have hp:0<x*10 ^ k:=Nat.mul_pos hx (Nat.pow_pos (by decide))
  have e:x*10 ^ (k+1)=x*10 ^ k*10:=by rw [Nat.pow_succ,Nat.mul_assoc]
  have h:¬ x*10 ^ (k+1)<10:=by omega
  rw [Lib.decDigits,dif_neg h,show x*10 ^ (k+1) / 10=x*10 ^ k by omega,show x*10 ^ (k+1) % 10=0 by omega,iU hx k,List.replicate_succ',List.append_assoc]
  rfl
theorem wE {x:Nat} (hx:0<x) (k:Nat):aa (x:Int)++⟨(List.replicate k 48).toArray⟩=aa ((x*ak k:Nat):Int):=by
 apply aU
 rw [aF,Lib.itoa_nonneg,ByteArray.data_append,Array.toList_append,aF,Lib.itoa_nonneg,show ak k=10 ^ k from rfl,iU hx]
def rdN (c:Rat) (r p:Nat):Nat:=c.num.natAbs*c.num.natAbs*r*ak (2*p)
noncomputable def rdS (c:Rat) (r p:Nat):Nat:=am (rdN c r p / (c.den*c.den))
noncomputable def rdZ (c:Rat) (r p:Nat):Int:=if 0≤c.num then (rdS c r p:Int) else if rdS c r p*rdS c r p*(c.den*c.den)=rdN c r p then -(rdS c r p:Int) else -((rdS c r p:Int)+1)
noncomputable def rdT (p:Nat) (t:Tm):Int:=rdZ t.1 t.2.num.natAbs p
noncomputable def sml (p:Nat) (l:List Tm):Nat→Int
 | 0=>0
 | j+1=>sml p l j+rdT p (tat l j)
noncomputable def dec (p:Nat) (l:List Tm):Int:=if 0<sml p l l.length then 1 else if sml p l l.length+l.length≤0 then -1 else 0
noncomputable def sgV (l:List Tm):Int:=if l.length=0 then 0 else if dec 4 l≠0 then dec 4 l else dec 64 l
noncomputable def sgE (l:List Tm):Int:=if l.length=0 then 0 else if dec 4 l≠0 then 0 else if dec 64 l≠0 then 0 else 4
theorem BA {c:Rat} {r p:Nat} (hc:Bq 60 c) (hr:r<ak 40) (hp:p≤64):rdN c r p<ak 288:=by
 have h1:c.num.natAbs*c.num.natAbs<ak 60*ak 60:=Nat.mul_lt_mul'' hc.1 hc.1
 have h2:c.num.natAbs*c.num.natAbs*r<ak 60*ak 60*ak 40:=Nat.mul_lt_mul'' h1 hr
 have h3:ak (2*p)≤ak 128:=aG (by omega)
 have h4:c.num.natAbs*c.num.natAbs*r*ak (2*p)≤c.num.natAbs*c.num.natAbs*r*ak 128:=Nat.mul_le_mul_left _ h3
 have h5:c.num.natAbs*c.num.natAbs*r*ak 128<ak 60*ak 60*ak 40*ak 128:=Nat.mul_lt_mul_of_pos_right h2 (cY 128)
 rw [←cE,←cE,←cE] at h5
 exact Nat.lt_of_le_of_lt h4 h5
theorem root_lt {n k:Nat} (h:n<ak (2*k)):am n<ak k:=by
 have:=(bZ n).1
 rcases Nat.lt_or_ge (am n) (ak k) with l | l
 ·exact l
 ·exfalso
  have h2:=Nat.mul_le_mul l l
  rw [←cE,show k+k=2*k by omega] at h2
  omega
theorem BC {c:Rat} {r p:Nat} (hc:Bq 60 c) (hr:r<ak 40) (hp:p≤64):rdS c r p<ak 144 :=
 root_lt (Nat.lt_of_le_of_lt (Nat.div_le_self _ _) (BA hc hr hp))
theorem BD {c:Rat} {r p:Nat} (hc:Bq 60 c) (hr:r<ak 40) (hp:p≤64):(rdZ c r p).natAbs≤ak 144:=by
 have:=BC hc hr hp
 unfold rdZ
 split
 ·omega
 ·split <;> omega
theorem BE {p:Nat} {l:List Tm} (h:∀ t∈l,(rdT p t).natAbs≤ak 144):∀ j,j≤l.length→(sml p l j).natAbs≤j*ak 144
 | 0,_=>by simp [sml]
 | j+1,hj=>by
  have ih:=BE h j (by omega)
  have h1:=h _ (bV (l:=l) (j:=j) (by omega))
  have h2:=Int.natAbs_add_le (sml p l j) (rdT p (tat l j))
  rw [Nat.succ_mul]
  show (sml p l j+rdT p (tat l j)).natAbs≤_
  omega
end T
namespace T
open Go.Proofs.YtbhbhlfkdlfimaaGreatDoor Go.Lib
def uT (n:Nat):Rat:=⟨1,ak n,Nat.ne_of_gt (cY n),Nat.coprime_one_left _⟩
theorem EF (n:Nat):uT n=mkRat 1 (ak n):=Rat.mk_eq_mkRat ..
theorem FB (n:Nat):uT n*((ak n:Nat):Rat)=1:=by
 rw [EF,Rat.mkRat_eq_div,Rat.intCast_one]
 exact Rat.div_mul_cancel (by have:=cY n;have:=Rat.natCast_lt_natCast (a:=0).2 this;grind)
theorem BF (n:Nat):0<uT n:=by
 refine Rat.lt_of_le_of_ne (Rat.num_nonneg.1 (show (0:Int)≤1 by decide)) fun h => ?_
 have:=FB n
 rw [←h,Rat.zero_mul] at this
 exact absurd this (by decide)
end T
namespace T
open Go.Proofs.YtbhbhlfkdlfimaaGreatDoor Go.Lib
noncomputable def upR (n d:Nat):Nat:=if am (n / d)*am (n / d)*d=n then am (n / d) else am (n / d)+1
noncomputable def loN (q:Rat) (n:Nat):Nat:=flN q (uT n)
noncomputable def hiN (q:Rat) (n:Nat):Nat:=upR (uN q (uT n)) (uD q (uT n))
noncomputable def loT (q:Rat) (n:Nat):Rat:=((loN q n:Nat):Rat)*uT n
noncomputable def hiT (q:Rat) (n:Nat):Rat:=((hiN q n:Nat):Rat)*uT n
theorem Gk (q:Rat) (n:Nat):(hiN q n=loN q n∧loN q n*loN q n*uD q (uT n)=uN q (uT n))∨(hiN q n=loN q n+1∧¬ loN q n*loN q n*uD q (uT n)=uN q (uT n)):=by
 unfold hiN upR loN flN
 by_cases k:am (uN q (uT n) / uD q (uT n))*am (uN q (uT n) / uD q (uT n))*uD q (uT n)=uN q (uT n)
 ·rw [if_pos k];exact .inl ⟨rfl,k⟩
 ·rw [if_neg k];exact .inr ⟨rfl,k⟩
end T
namespace T
open Go.RowKit
theorem js {a b:Nat} (h:a<b):ak a<ak b:=Nat.pow_lt_pow_right (by decide) h
theorem EG (n:Nat):(uT n).num=1∧(uT n).den=ak n:=⟨rfl,rfl⟩
theorem EH {n k:Nat} (h:n<k):Bq k (uT n):=⟨Nat.lt_of_lt_of_le (by decide:1<10) (show ak 1≤ak k from aG (by omega)),js h⟩
theorem pK (n:Nat):(⟨(List.replicate n 48).toArray⟩:ByteArray).size=n:=by show (List.replicate n (48:UInt8)).toArray.size=n;simp
theorem uv (n:Nat) (w:World) (h:n≤100) :
  Calls Tryz.prog 257 #[.agg #[.string ⟨#[49]⟩,.string ((⟨#[49]⟩:ByteArray)++⟨(List.replicate n 48).toArray⟩)]] w fun e W'=>e = .returned (.string (af (uT n)))∧Below w.heap.size w W':=by
 have c:=rU 1 (ak n:Nat) w (by have:=cY n;omega) (by rw [show Int.natAbs 1=1 from rfl];exact Nat.coprime_one_left _) (fw (by decide)) (aq.2 (js (by omega)))
 have e1:Rat.divInt 1 (ak n:Nat)=uT n:=(EF n).symm
 rw [e1,show aa 1=⟨#[49]⟩ from iO 1 [49] bU,←uu] at c
 exact c
theorem sS (s u nu du lo up ml mu rp:ByteArray) (n:Nat) (w:World) (hn:n≤100) (hrp:rp.size=n)
  (o1:∀ (b:Nat) W,Sl W b [s]→Below w.heap.size w W→Calls Tryz.prog 244 #[.slice (some ⟨b,0,none⟩) 1 1] W fun e W'=>e = .returned (.int .i64 0)∧Below W.heap.size W W')
  (o2:∀ (b:Nat) W,Sl W b [s]→Below w.heap.size w W→Calls Tryz.prog 245 #[.slice (some ⟨b,0,none⟩) 1 1] W fun e W'=>e = .returned (.int .i64 0)∧Below W.heap.size W W')
  (o3:∀ W,Below w.heap.size w W→Calls Tryz.prog 123 #[.string ⟨#[48]⟩,.int .i64 n] W fun e W'=>e = .returned (.string rp)∧Below W.heap.size W W')
  (o4:∀ W,Below w.heap.size w W→Calls Tryz.prog 257 #[.agg #[.string ⟨#[49]⟩,.string ((⟨#[49]⟩:ByteArray)++rp)]] W fun e W'=>e = .returned (.string u)∧Below W.heap.size W W')
  (o5:∀ W,Below w.heap.size w W→Calls Tryz.prog 258 #[.string s,.string u] W fun e W'=>e = .returned (.agg #[.string nu,.string du])∧Below W.heap.size W W')
  (o6:∀ W,Below w.heap.size w W→Calls Tryz.prog 259 #[.agg #[.string nu,.string du]] W fun e W'=>e = .returned (.string lo)∧Below W.heap.size W W')
  (o7:∀ W,Below w.heap.size w W→Calls Tryz.prog 260 #[.agg #[.string nu,.string du]] W fun e W'=>e = .returned (.string up)∧Below W.heap.size W W')
  (o8:∀ W,Below w.heap.size w W→Calls Tryz.prog 261 #[.string lo,.string u] W fun e W'=>e = .returned (.string ml)∧Below W.heap.size W W')
  (o9:∀ W,Below w.heap.size w W→Calls Tryz.prog 261 #[.string up,.string u] W fun e W'=>e = .returned (.string mu)∧Below W.heap.size W W') :
  Calls Tryz.prog 220 #[.string s,.int .i64 n] w fun e W'=>e = .returned (.tuple #[.agg #[.string ml,.string mu],.int .i64 0])∧Below w.heap.size w W':=by
 have O:=Ha (Hb o1 (Hb o2 (Hb o3 (Hb o4 (Hb o5 (Hb o6 (Hb o7 (Hb o8 (Hb o9 True.intro)))))))));clear o1 o2 o3 o4 o5 o6 o7 o8 o9
 have n1:¬ (n:Int)<0:=by omega
 have n2:¬ (100:Int)<(n:Int):=by omega
 have n3:¬ (9223372036854775807:Int)<1+(rp.size:Int):=by omega
 clear hn
 go_enter Tryz.func220,Tryz.ntmps220
 go_wp2_with fail
 have hbx:Bxs w w.heap.size [[.string ⟨#[]⟩,.string ⟨#[]⟩],[.string s]] ((w.alloc (.cells #[.string ⟨#[]⟩,.string ⟨#[]⟩] 60)).alloc (.cells #[.string s] 30)):=((Bxs.nil w w (Below.refl _ _)).push rfl [.string ⟨#[]⟩,.string ⟨#[]⟩] 60).push (by simp) [.string s] 30
 have hbk:Blk ((w.alloc (.cells #[.string ⟨#[]⟩,.string ⟨#[]⟩] 60)).alloc (.cells #[.string s] 30)) w.heap.size #[.string ⟨#[]⟩,.string ⟨#[]⟩]:=(Blk.new w #[.string ⟨#[]⟩,.string ⟨#[]⟩] 60).alloc _
 generalize ((w.alloc (.cells #[.string ⟨#[]⟩,.string ⟨#[]⟩] 60)).alloc (.cells #[.string s] 30))=W0 at *
 generalize hk:w.heap.size=k at *
 have hS:Sl W0 (k+1) [s]:=⟨by have:=hbx.size;simp at this;omega,fun j hj=>by
  obtain rfl:j=0:=by simp at hj;omega
  exact hbx.cells 1 _ rfl 0 _ rfl⟩
 have hbl:=hbx.below
 rw [hk] at hbl
 have HB:=Ha (Hb hbk hbl)
 have HK:=Ha hk
 clear hbx hbk hbl hk
 refine (O.out.1 _ _ hS HB.out.2).mono ?_
 rintro e v1 ⟨rfl,b⟩
 replace HB:=Kc HB b;clear b
 clear hS
 go_wp2_with fail
 have hS:=Sl.new1 v1 s 30
 have HN:=Ha (Hb (HB.out.1.alloc (.cells #[.string s] 30)) (HB.out.2.alloc (by have h1:=HB.out.2.size;have h2:=HK.out;omega) (.cells #[.string s] 30)))
 clear HB;have HB:=HN;clear HN
 generalize v1.alloc (.cells #[.string s] 30)=v2 at *
 generalize v1.heap.size=k1 at hS ⊢
 refine (O.out.2.1 _ _ hS HB.out.2).mono ?_
 rintro e v3 ⟨rfl,b⟩
 replace HB:=Kc HB b;clear b
 clear hS
 go_wp2_with fail
 have hS:=Blk.new v3 #[.int .i64 0,.int .i64 0] 26
 have HN:=Ha (Hb (HB.out.1.alloc (.cells #[.int .i64 0,.int .i64 0] 26)) (HB.out.2.alloc (by have h1:=HB.out.2.size;have h2:=HK.out;omega) (.cells #[.int .i64 0,.int .i64 0] 26)))
 clear HB;have HB:=HN;clear HN
 generalize v3.alloc (.cells #[.int .i64 0,.int .i64 0] 26)=v4 at *
 generalize v3.heap.size=k3 at hS ⊢
 refine (pf _ 0 0 v4 hS).mono ?_
 rintro e v5 ⟨rfl,b⟩
 rw [if_pos rfl]
 replace HB:=Kc HB b;clear b
 clear hS
 go_wp2_with fail
 refine (O.out.2.2.1 _ HB.out.2).mono ?_
 rintro e v ⟨rfl,b⟩
 replace HB:=Kc HB b;clear b
 go_wp2_with fail
 refine (O.out.2.2.2.1 _ HB.out.2).mono ?_
 rintro e v ⟨rfl,b⟩
 replace HB:=Kc HB b;clear b
 go_wp2_with fail
 refine (O.out.2.2.2.2.1 _ HB.out.2).mono ?_
 rintro e v ⟨rfl,b⟩
 replace HB:=Kc HB b;clear b
 go_wp2
 have hlt:=HB.out.1.lt
 have hle:=HB.out.2.size
 have HN:=Ha (Hb (HB.out.1.alloc (.cells #[.string nu,.string du] 295)) (Hb (Blk.new v #[.string nu,.string du] 295) (HB.out.2.alloc (by have h1:=HB.out.2.size;have h2:=HK.out;omega) (.cells #[.string nu,.string du] 295))))
 clear HB
 have HB:=HN;clear HN
 generalize v.alloc (.cells #[.string nu,.string du] 295)=W3 at *
 generalize v.heap.size=m at *
 have HD:=Ha (Hb HB.out.1.drew (Hb HB.out.2.1.drew HB.out.2.2.drew));clear HB;have HB:=HD;clear HD
 have e00:=HB.out.1.cell 0 (.string ⟨#[]⟩) rfl;have f00:=HB.out.1.free 0;have e01:=HB.out.1.cell 1 (.string ⟨#[]⟩) rfl;have f01:=HB.out.1.free 1;have e10:=HB.out.2.1.cell 0 (.string nu) rfl;have e11:=HB.out.2.1.cell 1 (.string du) rfl
 go_region_held3 (fun w'=>w'.cell? ⟨m,0,none⟩=some (.string nu)∧w'.cell? ⟨m,1,none⟩=some (.string du)) (first | exact ⟨e10,e11⟩ | (go_keep;done) | ((try dsimp only);(refine ⟨?_,?_⟩ <;> (exact jb (by omega) (by assumption)))))
  (first | (go_at_call 259;refine (O.out.2.2.2.2.2.1 _ (HB.out.2.2)).mono ?_;rintro e w4 ⟨rfl,b⟩;replace HB:=Kd HB b;clear b;have e00:=HB.out.1.cell 0 (.string ⟨#[]⟩) rfl;have f00:=HB.out.1.free 0;have e01:=HB.out.1.cell 1 (.string ⟨#[]⟩) rfl;have f01:=HB.out.1.free 1;have e10:=HB.out.2.1.cell 0 (.string nu) rfl;have e11:=HB.out.2.1.cell 1 (.string du) rfl) | (go_at_call 260;refine (O.out.2.2.2.2.2.2.1 _ (HB.out.2.2)).mono ?_;rintro e w4 ⟨rfl,b⟩;replace HB:=Kd HB b;clear b;have e00:=HB.out.1.cell 0 (.string ⟨#[]⟩) rfl;have f00:=HB.out.1.free 0;have e01:=HB.out.1.cell 1 (.string ⟨#[]⟩) rfl;have f01:=HB.out.1.free 1;have e10:=HB.out.2.1.cell 0 (.string nu) rfl;have e11:=HB.out.2.1.cell 1 (.string du) rfl))
 all_goals
  have e00:=HB.out.1.cell 0 (.string ⟨#[]⟩) rfl;have f00:=HB.out.1.free 0;have e01:=HB.out.1.cell 1 (.string ⟨#[]⟩) rfl;have f01:=HB.out.1.free 1;have e10:=HB.out.2.1.cell 0 (.string nu) rfl;have e11:=HB.out.2.1.cell 1 (.string du) rfl
  go_wp2_with fail
  refine (O.out.2.2.2.2.2.2.2.1 _ HB.out.2.2).mono ?_
  rintro e w5 ⟨rfl,b⟩
  replace HB:=Kd HB b;clear b;have e00:=HB.out.1.cell 0 (.string ⟨#[]⟩) rfl;have f00:=HB.out.1.free 0;have e01:=HB.out.1.cell 1 (.string ⟨#[]⟩) rfl;have f01:=HB.out.1.free 1;have e10:=HB.out.2.1.cell 0 (.string nu) rfl;have e11:=HB.out.2.1.cell 1 (.string du) rfl
  go_wp2_with fail
  refine (O.out.2.2.2.2.2.2.2.2.1 _ HB.out.2.2).mono ?_
  rintro e w6 ⟨rfl,b⟩
  replace HB:=Kd HB b;clear b;have e00:=HB.out.1.cell 0 (.string ⟨#[]⟩) rfl;have f00:=HB.out.1.free 0;have e01:=HB.out.1.cell 1 (.string ⟨#[]⟩) rfl;have f01:=HB.out.1.free 1;have e10:=HB.out.2.1.cell 0 (.string nu) rfl;have e11:=HB.out.2.1.cell 1 (.string du) rfl
  obtain ⟨g0,g1⟩:=vM e00 e01 (.string ml) (.string mu)
  go_wp2
  refine bodyPost_ret (v := .tuple #[.agg #[.string ml,.string mu],.int .i64 0]) (by simp [results,Tryz.results220,go_sem,g0,g1]) rfl ?_
  refine ⟨rfl,?_⟩
  have hbl:=bi (l:=k) HB.out.2.2 (by have:=HK.out;omega) (.string ml) (.string mu)
  rw [←HK.out] at hbl
  rw [←HK.out]
  exact hbl
theorem Gl {q:Rat} {n j k:Nat} (hq:Bq j q) (hu:Bq k (uT n)):loN q n<ak (j+k+k)∧hiN q n<ak (j+k+k+1):=by
 have a:loN q n<ak (j+k+k):=Nat.lt_of_le_of_lt di (Nat.lt_of_le_of_lt (Nat.div_le_self _ _) (Bl hq hu))
 refine ⟨a,?_⟩
 have:=ez (j+k+k)
 have:=cY (j+k+k)
 rcases Gk q n with ⟨e,_⟩ | ⟨e,_⟩ <;> omega
theorem zJ (q:Rat) (n j k:Nat) (w:World) (h0:0≤q) (hn:n≤100) (hq:Bq j q) (hk:n<k) (hj:j≤90) (hb:j+k+k+1+k≤300) (ht:Tab w) (ht2:aH w) :
  Calls Tryz.prog 220 #[.string (af q),.int .i64 n] w fun e W'=>e = .returned (.tuple #[.agg #[.string (af (loT q n)),.string (af (hiT q n))],.int .i64 0])∧Below w.heap.size w W':=by
 have h9:=hq.up hj
 have hu:=EH hk
 have u0:=BF n
 have hd:=Fp q u0
 obtain ⟨b1,b2⟩:=Gl hq hu
 have o2:=fun (b:Nat) W (hx:Sl W b [af q]) (_:Below w.heap.size w W)=>iI b [af q] W (by simp) hx
 rw [nn1 h0] at o2
 exact sS (af q) (af (uT n)) (aa (uN q (uT n):Nat)) (aa (uD q (uT n):Nat)) (aa (loN q n:Nat)) (aa (hiN q n:Nat)) (af (loT q n)) (af (hiT q n)) ⟨(List.replicate n 48).toArray⟩ n w hn (pK n)
  (fun b W hx h=>qZ b q W h9 hx (ht.next h) (ae ht2 h)) o2
  (fun W _=>FA n W (by omega)) (fun W _=>uv n W hn)
  (fun W h=>Bk q (uT n) j k W h0 u0 hq hu (by omega) (ht.next h))
  (fun W h=>qO _ _ W (aV (by omega) (Bl hq hu)) (aV (by omega) (EE hq hu)) hd (ht.next h))
  (fun W h=>Dy _ _ W (aV (by omega) (Bl hq hu)) (aV (by omega) (EE hq hu)) hd (ht.next h))
  (fun W h=>qY (loN q n) (uT n) (j+k+k) k W b1 (by omega) hu (by omega) (ht.next h) (ae ht2 h))
  (fun W h=>qY (hiN q n) (uT n) (j+k+k+1) k W b2 (by omega) hu (by omega) (ht.next h) (ae ht2 h))
end T
namespace T
open Go.RowKit
theorem wF (a b r:ByteArray) (e0:Int) (w:World)
  (h:Calls Tryz.prog 288 #[.string a,.string b] w fun e W'=>e = .returned (.tuple #[.string r,.int .i64 e0])∧Below w.heap.size w W') :
  Calls Tryz.prog 265 #[.string a,.string b] w fun e W'=>e = .returned (.string r)∧Below w.heap.size w W':=by
 have C:=Ha h;clear h
 go_enter Tryz.func265,Tryz.ntmps265
 go_wp2_with fail
 refine C.out.mono ?_
 rintro e w1 ⟨rfl,b⟩
 have H1:=Ha b;clear b
 go_wp2
 go_ret
 exact ⟨rfl,H1.out⟩
theorem uw (a b r:ByteArray) (e0:Int) (w:World)
  (h:Calls Tryz.prog 295 #[.string a,.string b] w fun e W'=>e = .returned (.tuple #[.string r,.int .i64 e0])∧Below w.heap.size w W') :
  Calls Tryz.prog 289 #[.string a,.string b] w fun e W'=>e = .returned (.string r)∧Below w.heap.size w W':=by
 have C:=Ha h;clear h
 go_enter Tryz.func289,Tryz.ntmps289
 go_wp2_with fail
 refine C.out.mono ?_
 rintro e w1 ⟨rfl,b⟩
 have H1:=Ha b;clear b
 go_wp2
 go_ret
 exact ⟨rfl,H1.out⟩
theorem BG (x y:Int) (w:World) (hx:short x) (hy:short y) (hz:short (x+y)) (ht:Tab w) :
  Calls Tryz.prog 265 #[.string (aa x),.string (aa y)] w fun e W'=>e = .returned (.string (aa (x+y)))∧Below w.heap.size w W' :=
 wF _ _ _ _ w (yC x y w hx hy hz ht)
theorem mz (x y:Int) (w:World) (hx:short x) (hy:short y) (hz:short (x*y)) (ht:Tab w) :
  Calls Tryz.prog 289 #[.string (aa x),.string (aa y)] w fun e W'=>e = .returned (.string (aa (x*y)))∧Below w.heap.size w W' :=
 uw _ _ _ _ w (yD x y w hx hy hz ht)
theorem ni (s:ByteArray) (w:World) :
  Calls Tryz.prog 267 #[.string s] w fun e W'=>e = .returned (.bool (aw s.data.toList))∧Below w.heap.size w W':=by
 have c:=fun W=>Tryz.strings_HasPrefix s ⟨#[45]⟩ W
 rw [show (⟨#[45]⟩:ByteArray).data.toList = [45] from rfl,iE] at c
 have C:=Ha c;clear c
 generalize aw s.data.toList=b at *
 go_enter Tryz.func267,Tryz.ntmps267
 go_wp2_with fail
 refine (C.out _).mono ?_
 rintro e w1 ⟨rfl,rfl⟩
 go_wp2
 go_ret
 exact ⟨rfl,Below.refl _ _⟩
theorem nI (s:ByteArray) (z n:Bool) (w:World) (hz:(s.toList == [48])=z)
  (h1:∀ W,Below w.heap.size w W→Calls Tryz.prog 267 #[.string s] W fun e W'=>e = .returned (.bool n)∧Below W.heap.size W W') :
  Calls Tryz.prog 224 #[.string s] w fun e W'=>e = .returned (.bool (!z && !n))∧Below w.heap.size w W':=by
 have C:=Ha h1;clear h1
 cases z
 ·go_enter Tryz.func224,Tryz.ntmps224
  go_wp2_with fail
  refine (C.out _ (Below.refl _ _)).mono ?_
  rintro e w1 ⟨rfl,b⟩
  have H1:=Ha b;clear b
  go_wp2
  go_ret
  exact ⟨by simp,H1.out⟩
 ·go_enter Tryz.func224,Tryz.ntmps224
  go_wp2
  go_ret
  exact ⟨by simp,Below.refl _ _⟩
theorem rk (x:Int) (w:World) :
  Calls Tryz.prog 224 #[.string (aa x)] w fun e W'=>e = .returned (.bool (decide (0<x)))∧Below w.heap.size w W':=by
 have hz:((aa x).toList == [48])=decide (x=0):=by
  by_cases h:x=0
  ·subst h;rw [show aa 0=⟨#[48]⟩ from by decide+kernel,(sB _).2 rfl];rfl
  ·rw [xi h,decide_eq_false h]
 refine (nI (aa x) _ (aw (aa x).data.toList) w hz (fun W _=>ni _ W)).mono fun e W' ⟨e1,b⟩=>⟨?_,b⟩
 rw [e1,iw]
 have:(!decide (x=0) && !decide (x<0))=decide (0<x):=by
  rcases Int.lt_trichotomy x 0 with h | h | h
  ·rw [decide_eq_true h,decide_eq_false (by omega:¬ 0<x)];simp
  ·subst h;rfl
  ·rw [decide_eq_false (by omega:¬ x=0),decide_eq_false (by omega:¬ x<0),decide_eq_true h];rfl
 rw [this]
theorem sU (f:ByteArray→ByteArray→ByteArray) (c r n d zz bl rest rt ss sd r1 m:ByteArray) (pl:Nat) (e1 e2 e3:Int) (ng q:Bool) (w:World) (hsz:(f (f n n) r).size+zz.size≤10000) (hq:(sd.toList==(f (f n n) r++zz).toList)=q)
  (o1:∀ W,Below w.heap.size w W→Calls Tryz.prog 13 #[.string c] W fun e W'=>e = .returned (.tuple #[.string n,.string d,.int .i64 e1])∧Below W.heap.size W W')
  (o2:∀ a b W,((a=n∧b=n)∨(a=f n n∧b=r)∨(a=d∧b=d))→Below w.heap.size w W→Calls Tryz.prog 289 #[.string a,.string b] W fun e W'=>e = .returned (.string (f a b))∧Below W.heap.size W W')
  (o3:∀ W,Below w.heap.size w W→Calls Tryz.prog 123 #[.string ⟨#[48]⟩,.int .i64 (IntKind.i64.wrap (2*pl))] W fun e W'=>e = .returned (.string zz)∧Below W.heap.size W W')
  (o4:∀ W,Below w.heap.size w W→Calls Tryz.prog 222 #[.string (f (f n n) r++zz),.string (f d d)] W fun e W'=>e = .returned (.tuple #[.string bl,.string rest,.int .i64 e2])∧Below W.heap.size W W')
  (o5:∀ W,Below w.heap.size w W→Calls Tryz.prog 290 #[.string bl] W fun e W'=>e = .returned (.tuple #[.string rt,.int .i64 e3])∧Below W.heap.size W W')
  (o6:∀ W,Below w.heap.size w W→Calls Tryz.prog 267 #[.string n] W fun e W'=>e = .returned (.bool ng)∧Below W.heap.size W W')
  (o7:ng=true→(∀ W,Below w.heap.size w W→Calls Tryz.prog 289 #[.string rt,.string rt] W fun e W'=>e = .returned (.string ss)∧Below W.heap.size W W') ∧
   (∀ W,Below w.heap.size w W→Calls Tryz.prog 289 #[.string ss,.string (f d d)] W fun e W'=>e = .returned (.string sd)∧Below W.heap.size W W') ∧
   (q=false→∀ W,Below w.heap.size w W→Calls Tryz.prog 265 #[.string rt,.string ⟨#[49]⟩] W fun e W'=>e = .returned (.string r1)∧Below W.heap.size W W') ∧
   (∀ W,Below w.heap.size w W→Calls Tryz.prog 289 #[.string ⟨#[45,49]⟩,.string (if q then rt else r1)] W fun e W'=>e = .returned (.string m)∧Below W.heap.size W W')) :
  Calls Tryz.prog 266 #[.agg #[.string c,.string r],.int .i64 pl] w fun e W'=>e = .returned (.string (if ng then m else rt))∧Below w.heap.size w W':=by
 have O:=Ha (Hb o1 (Hb o2 (Hb o3 (Hb o4 (Hb o5 (Hb o6 o7))))));clear o1 o2 o3 o4 o5 o6 o7
 have y1:¬ (9223372036854775807:Int)<(f (f n n) r).size+zz.size:=by omega
 have y5:¬ (9223372036854775807<(f (f n n) r).size+zz.size):=by omega
 clear hsz
 go_enter Tryz.func266,Tryz.ntmps266
 go_wp2_with fail
 have HB:=Ha (Hb (Blk.new w #[.string c,.string r] 43) ((Below.refl _ w).alloc (Nat.le_refl _) (.cells #[.string c,.string r] 43)))
 generalize w.alloc (.cells #[.string c,.string r] 43)=W0 at *
 generalize hk:w.heap.size=k at *
 have HK:=Ha hk;clear hk
 have e0:=HB.out.1.cell 0 (.string c) rfl;have e1:=HB.out.1.cell 1 (.string r) rfl
 refine (O.out.1 _ HB.out.2).mono ?_
 rintro e v1 ⟨rfl,b⟩
 replace HB:=Kc HB b;clear b
 have e0:=HB.out.1.cell 0 (.string c) rfl;have e1:=HB.out.1.cell 1 (.string r) rfl
 go_wp2
 have HD:=Ha (Hb HB.out.1.drew HB.out.2.drew);clear HB;have HB:=HD;clear HD
 have e0:=HB.out.1.cell 0 (.string c) rfl;have e1:=HB.out.1.cell 1 (.string r) rfl
 go_region_held3 (fun w'=>w'.cell? ⟨k,1,none⟩=some (.string r)) (first | exact e1 | (go_keep;done))
  (first | (go_at_call 289;with_reducible refine Calls.mono (O.out.2.1 _ _ _ ?_ HB.out.2) ?_;(first | exact .inl ⟨rfl,rfl⟩ | exact .inr (.inl ⟨rfl,rfl⟩) | exact .inr (.inr ⟨rfl,rfl⟩));rintro e w4 ⟨rfl,b⟩;replace HB:=Kc HB b;clear b;have e0:=HB.out.1.cell 0 (.string c) rfl;have e1:=HB.out.1.cell 1 (.string r) rfl) | (go_at_call 123;refine Calls.mono (O.out.2.2.1 _ HB.out.2) ?_;rintro e w4 ⟨rfl,b⟩;replace HB:=Kc HB b;clear b;have e0:=HB.out.1.cell 0 (.string c) rfl;have e1:=HB.out.1.cell 1 (.string r) rfl))
 all_goals
  have e0:=HB.out.1.cell 0 (.string c) rfl;have e1:=HB.out.1.cell 1 (.string r) rfl
  go_wp2_with fail
  refine (O.out.2.2.2.1 _ HB.out.2).mono ?_
  rintro e v ⟨rfl,b⟩
  replace HB:=Kc HB b;clear b
  go_wp2_with fail
  refine (O.out.2.2.2.2.1 _ HB.out.2).mono ?_
  rintro e v ⟨rfl,b⟩
  replace HB:=Kc HB b;clear b
  go_wp2_with fail
  refine (O.out.2.2.2.2.2.1 _ HB.out.2).mono ?_
  rintro e v ⟨rfl,b⟩
  replace HB:=Kc HB b;clear b
  cases ng
  ·go_wp2
   go_ret
   have hb:=HB.out.2
   rw [←HK.out] at hb
   exact ⟨rfl,hb⟩
  ·have OO:=Ha (O.out.2.2.2.2.2.2 rfl);clear O
   go_wp2_with fail
   refine (OO.out.1 _ HB.out.2).mono ?_
   rintro e v ⟨rfl,b⟩
   replace HB:=Kc HB b;clear b
   go_wp2_with fail
   refine (OO.out.2.1 _ HB.out.2).mono ?_
   rintro e v ⟨rfl,b⟩
   replace HB:=Kc HB b;clear b
   cases q
   ·go_wp2_with fail
    refine (OO.out.2.2.1 trivial _ HB.out.2).mono ?_
    rintro e v ⟨rfl,b⟩
    replace HB:=Kc HB b;clear b
    go_wp2_with fail
    refine (OO.out.2.2.2 _ HB.out.2).mono ?_
    rintro e v ⟨rfl,b⟩
    replace HB:=Kc HB b;clear b
    go_wp2
    go_ret
    have hb:=HB.out.2
    rw [←HK.out] at hb
    exact ⟨rfl,hb⟩
   ·go_wp2_with fail
    refine (OO.out.2.2.2 _ HB.out.2).mono ?_
    rintro e v ⟨rfl,b⟩
    replace HB:=Kc HB b;clear b
    go_wp2
    go_ret
    have hb:=HB.out.2
    rw [←HK.out] at hb
    exact ⟨rfl,hb⟩
theorem Gm {p:Nat} (h:p≤64):IntKind.i64.wrap (2*(p:Int))=2*(p:Int):=by rw [IntKind.wrap_i64];omega
theorem lD {k:Nat} {x:Int} (h:x.natAbs<ak k) (hk:k≤300):short x:=Nat.lt_of_lt_of_le h (aG hk)
theorem wG (t:Tm) (p:Nat) (w:World) (h:GT t) (hp:p≤64) (ht:Tab w) (ht2:aH w) :
  Calls Tryz.prog 266 #[.agg #[.string (af t.1),.string (af t.2)],.int .i64 p] w fun e W'=>e = .returned (.string (aa (rdT p t)))∧Below w.heap.size w W':=by
 obtain ⟨c0,cb,b,eb,nb,lb⟩:=h
 obtain ⟨c,q⟩:=t
 change c≠0 at c0
 change Bq 60 c at cb
 have eb':q=(b:Rat):=eb
 subst eb'
 have er:rdT p (c,(b:Rat))=rdZ c b p:=by show rdZ c ((b:Nat):Rat).num.natAbs p=_;rw [fM]
 rw [er]
 have hn0:c.num≠0:=fun z=>c0 (Rat.num_eq_zero.1 z)
 have l1:=cb.1
 have l2:=cb.2
 have N1:short c.num:=lD l1 (by decide)
 have D1:short (c.den:Int):=aq.2 (aV (by decide) l2)
 have B1:short (b:Int):=aq.2 (aV (by decide) lb)
 have hnn:c.num*c.num=((c.num.natAbs*c.num.natAbs:Nat):Int):=Int.natAbs_mul_self.symm
 have hnr:c.num*c.num*(b:Int)=((c.num.natAbs*c.num.natAbs*b:Nat):Int):=by rw [hnn,←Int.natCast_mul]
 have hdd:(c.den:Int)*(c.den:Int)=((c.den*c.den:Nat):Int):=by rw [Int.natCast_mul]
 have pN:0<c.num.natAbs*c.num.natAbs*b:=Nat.mul_pos (Nat.mul_pos (by omega) (by omega)) nb.1
 have pD:0<c.den*c.den:=Nat.mul_pos c.den_pos c.den_pos
 have z1:=wE pN (2*p)
 have eN:c.num.natAbs*c.num.natAbs*b*ak (2*p)=rdN c b p:=rfl
 rw [eN] at z1
 have s1:=BA cb lb hp
 have s2:c.num.natAbs*c.num.natAbs*b<ak 160:=by
  have h1:c.num.natAbs*c.num.natAbs<ak 60*ak 60:=Nat.mul_lt_mul'' l1 l1
  have h2:c.num.natAbs*c.num.natAbs*b<ak 60*ak 60*ak 40:=Nat.mul_lt_mul'' h1 lb
  rwa [←cE,←cE] at h2
 have s3:c.num.natAbs*c.num.natAbs<ak 120:=by
  have h1:c.num.natAbs*c.num.natAbs<ak 60*ak 60:=Nat.mul_lt_mul'' l1 l1
  rwa [←cE] at h1
 have s4:c.den*c.den<ak 120:=by
  have h1:c.den*c.den<ak 60*ak 60:=Nat.mul_lt_mul'' l2 l2
  rwa [←cE] at h1
 have s5:=BC cb lb hp
 have hdiv:((rdN c b p:Nat):Int).fdiv ((c.den*c.den:Nat):Int)=((rdN c b p / (c.den*c.den):Nat):Int):=by
  rw [Int.fdiv_eq_ediv_of_nonneg _ (Int.natCast_nonneg _),Int.natCast_ediv]
 have s6:rdS c b p*rdS c b p<ak 288:=by
  have h1:rdS c b p*rdS c b p<ak 144*ak 144:=Nat.mul_lt_mul'' s5 s5
  rwa [←cE] at h1
 have s7:rdS c b p*rdS c b p*(c.den*c.den)≤rdN c b p:=by
  have h1:rdS c b p*rdS c b p≤rdN c b p / (c.den*c.den):=(bZ _).1
  exact Nat.le_trans (Nat.mul_le_mul_right _ h1) (Nat.div_mul_le_self _ _)
 have hrt:∀ W,Below w.heap.size w W→Calls Tryz.prog 290 #[.string (aa ((rdN c b p / (c.den*c.den):Nat):Int))] W fun e W'=>e = .returned (.tuple #[.string (aa (rdS c b p:Nat)),.int .i64 0])∧Below W.heap.size W W':=fun W hW=>by
  have:=vk ((rdN c b p / (c.den*c.den):Nat):Int) W (Int.natCast_nonneg _) (aq.2 (aV (by decide) (Nat.lt_of_le_of_lt (Nat.div_le_self _ _) s1))) (ht.next hW)
  rwa [Int.natAbs_natCast] at this
 have hsz:(aa ((c.num.natAbs*c.num.natAbs*b:Nat):Int)).size+(⟨(List.replicate (2*p) 48).toArray⟩:ByteArray).size≤10000:=by
  have h1:=aM (z:=((c.num.natAbs*c.num.natAbs*b:Nat):Int)) (aq.2 (aV (by decide) s2))
  rw [show (⟨(List.replicate (2*p) (48:UInt8)).toArray⟩:ByteArray).size=2*p from pK (2*p)];omega
 obtain ⟨f,hf⟩:∃ f:ByteArray→ByteArray→ByteArray,∀ x y:Int,f (aa x) (aa y)=aa (x*y):=⟨fun a b=>aa (valOf a.data.toList*valOf b.data.toList),fun x y=>by show aa (valOf (aa x).data.toList*valOf (aa y).data.toList)=_;rw [bo,bo]⟩
 have er2:af ((b:Nat):Rat)=aa (b:Int):=by rw [←ji,Rat.intCast_natCast]
 have f1:f (aa c.num) (aa c.num)=aa (c.num*c.num):=hf _ _
 have f2:f (f (aa c.num) (aa c.num)) (aa (b:Int))=aa ((c.num.natAbs*c.num.natAbs*b:Nat):Int):=by rw [f1,hf,hnr]
 have f3:f (aa (c.den:Int)) (aa (c.den:Int))=aa ((c.den*c.den:Nat):Int):=by rw [hf,hdd]
 rw [er2]
 have key:=sU f (af c) (aa (b:Int)) (aa c.num) (aa (c.den:Int)) ⟨(List.replicate (2*p) 48).toArray⟩
  (aa ((rdN c b p / (c.den*c.den):Nat):Int)) (aa (((rdN c b p:Nat):Int).fmod ((c.den*c.den:Nat):Int))) (aa (rdS c b p:Nat)) (aa ((rdS c b p*rdS c b p:Nat):Int)) (aa ((rdS c b p*rdS c b p*(c.den*c.den):Nat):Int)) (aa ((rdS c b p:Int)+1))
  (aa (-1*(if rdS c b p*rdS c b p*(c.den*c.den)=rdN c b p then (rdS c b p:Int) else (rdS c b p:Int)+1))) p 0 0 0 (decide (c.num<0)) (decide (rdS c b p*rdS c b p*(c.den*c.den)=rdN c b p)) w (by rw [f2];exact hsz)
  (by
    rw [f2,z1]
    by_cases e:rdS c b p*rdS c b p*(c.den*c.den)=rdN c b p
    ·rw [decide_eq_true e,e];simp
    ·rw [decide_eq_false e,Bool.eq_false_iff]
     intro k
     have k2:=congrArg (fun s:ByteArray=>valOf s.data.toList) (aU (by rw [←ByteArray.toList_eq,←ByteArray.toList_eq];simpa using k):aa ((rdS c b p*rdS c b p*(c.den*c.den):Nat):Int)=aa ((rdN c b p:Nat):Int))
     simp only [bo] at k2
     exact e (Int.natCast_inj.1 k2))
  (fun W hW=>nQ c W (cb.lim (by decide)) (ht.next hW) (ae ht2 hW))
  (fun a b' W hx hW=>by
   rcases hx with ⟨rfl,rfl⟩ | ⟨rfl,rfl⟩ | ⟨rfl,rfl⟩
   ·rw [f1];exact mz c.num c.num W N1 N1 (by rw [hnn];exact aq.2 (aV (by decide) s3)) (ht.next hW)
   ·have:=mz (c.num*c.num) (b:Int) W (by rw [hnn];exact aq.2 (aV (by decide) s3)) B1 (by rw [hnr];exact aq.2 (aV (by decide) s2)) (ht.next hW)
    rw [hnr] at this
    rw [f2,f1];exact this
   ·have:=mz (c.den:Int) (c.den:Int) W D1 D1 (by rw [hdd];exact aq.2 (aV (by decide) s4)) (ht.next hW)
    rw [hdd] at this
    rw [f3];exact this)
  (fun W _=>by
   have:=FA (2*p) W (by omega)
   rwa [show ((2*p:Nat):Int)=IntKind.i64.wrap (2*(p:Int)) by rw [Gm hp];omega] at this)
  (fun W hW=>by
   rw [f2,f3,z1]
   have:=jD ((rdN c b p:Nat):Int) ((c.den*c.den:Nat):Int) W (aq.2 (aV (by decide) s1)) (aq.2 (aV (by decide) s4)) (by omega) (ht.next hW)
   rwa [hdiv] at this)
  hrt
  (fun W hW=>by
   have:=ni (aa c.num) W
   rwa [iw] at this)
  (fun _=>⟨fun W hW => ?_,fun W hW => ?_,fun _ W hW => ?_,fun W hW => ?_⟩)
 ·refine key.mono fun e W' ⟨e1,b1⟩=>⟨?_,b1⟩
  rw [e1]
  unfold rdZ
  by_cases n0:c.num<0
  ·have h2:(-1*(if rdS c b p*rdS c b p*(c.den*c.den)=rdN c b p then (rdS c b p:Int) else (rdS c b p:Int)+1))=if rdS c b p*rdS c b p*(c.den*c.den)=rdN c b p then -(rdS c b p:Int) else -((rdS c b p:Int)+1):=by split <;> omega
   rw [if_neg (show ¬ 0≤c.num by omega),h2,if_pos (show decide (c.num<0)=true from decide_eq_true n0)]
  ·rw [if_pos (show 0≤c.num by omega),if_neg (show ¬ decide (c.num<0)=true by rw [decide_eq_false n0];decide)]
 ·have:=mz (rdS c b p:Nat) (rdS c b p:Nat) W (aq.2 (aV (by decide) s5)) (aq.2 (aV (by decide) s5)) (by rw [←Int.natCast_mul];exact aq.2 (aV (by decide) s6)) (ht.next hW)
  rwa [←Int.natCast_mul] at this
 ·have:=mz ((rdS c b p*rdS c b p:Nat):Int) ((c.den*c.den:Nat):Int) W (aq.2 (aV (by decide) s6)) (aq.2 (aV (by decide) s4)) (by rw [←Int.natCast_mul];exact aq.2 (aV (by decide) (Nat.lt_of_le_of_lt s7 s1))) (ht.next hW)
  rw [←Int.natCast_mul] at this
  rw [f3];exact this
 ·have h2:((rdS c b p:Nat):Int)+1=((rdS c b p+1:Nat):Int):=by omega
  have h3:rdS c b p+1<ak 145:=by have e145:ak 145=10*ak 144:=ez 144;have:=cY 144;omega
  have:=BG (rdS c b p:Nat) 1 W (aq.2 (aV (by decide) s5)) (fw (by decide)) (by rw [h2];exact aq.2 (aV (by decide) h3)) (ht.next hW)
  rwa [Aw] at this
 ·have h3:rdS c b p+1<ak 145:=by have e145:ak 145=10*ak 144:=ez 144;have:=cY 144;omega
  have e:(if decide (rdS c b p*rdS c b p*(c.den*c.den)=rdN c b p)=true then aa (rdS c b p:Nat) else aa ((rdS c b p:Int)+1))=aa (if rdS c b p*rdS c b p*(c.den*c.den)=rdN c b p then (rdS c b p:Int) else (rdS c b p:Int)+1):=by
   by_cases k:rdS c b p*rdS c b p*(c.den*c.den)=rdN c b p
   ·rw [if_pos (by simpa using k),if_pos k]
   ·rw [if_neg (by simpa using k),if_neg k]
  rw [e]
  have hx:((if rdS c b p*rdS c b p*(c.den*c.den)=rdN c b p then (rdS c b p:Int) else (rdS c b p:Int)+1)).natAbs<ak 145:=by split <;> omega
  generalize (if rdS c b p*rdS c b p*(c.den*c.den)=rdN c b p then (rdS c b p:Int) else (rdS c b p:Int)+1)=x at hx ⊢
  have:=mz (-1) x W (fw (by decide)) (lD hx (by decide)) (lD (k:=145) (by rw [Int.neg_mul,Int.one_mul,Int.natAbs_neg];exact hx) (by decide)) (ht.next hW)
  rwa [show aa (-1)=⟨#[45,49]⟩ from by decide+kernel] at this
end T
namespace T
open Go.RowKit
theorem zK (p:Option Addr) (c:Nat) (w:World)
  (hA:∀ W b,Below w.heap.size w W→Blk W b #[.slice p 0 c]→Calls Tryz.prog 67 #[.slice (some ⟨b,0,none⟩) 1 1] W fun e W'=>e = .returned (.bool true)∧Below W.heap.size W W') :
  Calls Tryz.prog 27 #[.slice p 0 c] w fun e W'=>e = .returned (.tuple #[.string ⟨#[48]⟩,.bool true,.int .i64 0])∧Below w.heap.size w W':=by
 have O:=Ha hA;clear hA
 go_enter Tryz.func27,Tryz.ntmps27
 go_wp2_with fail
 refine (O.out _ _ ((Below.refl _ w).alloc (Nat.le_refl _) _) (Blk.new w _ _)).mono ?_
 rintro e W1 ⟨rfl,b⟩
 have B1:=Ha (((Below.refl _ w).alloc (Nat.le_refl _) (.cells #[.slice p 0 c] 45)).trans (b.mono (by simp)))
 clear b
 go_wp2
 go_ret3
 exact ⟨rfl,B1.out⟩
theorem zL (g c:Nat) (tc tr:ByteArray) (z:Bool) (w:World)
  (hA:∀ W b,Below w.heap.size w W→Blk W b #[.slice (some ⟨g,0,none⟩) 1 c]→Calls Tryz.prog 67 #[.slice (some ⟨b,0,none⟩) 1 1] W fun e W'=>e = .returned (.bool true)∧Below W.heap.size W W') (hz:(tr.toList == [49])=z)
  (hc:w.cell? ⟨g,0,none⟩=some (.string tc)∧w.cell? ⟨g,1,none⟩=some (.string tr)) :
  Calls Tryz.prog 27 #[.slice (some ⟨g,0,none⟩) 1 c] w fun e W'=>e = .returned (.tuple #[if z then .string tc else .string ⟨#[]⟩,.bool z,.int .i64 0])∧Below w.heap.size w W':=by
 have O:=Ha hA;clear hA
 go_enter Tryz.func27,Tryz.ntmps27
 go_wp2_with fail
 refine (O.out _ _ ((Below.refl _ w).alloc (Nat.le_refl _) _) (Blk.new w _ _)).mono ?_
 rintro e W1 ⟨rfl,b⟩
 have B1:=Ha (((Below.refl _ w).alloc (Nat.le_refl _) (.cells #[.slice (some ⟨g,0,none⟩) 1 c] 45)).trans (b.mono (by simp)))
 clear b
 obtain ⟨c0,c1⟩:=hc
 have d0:W1.cell? ⟨g,0,none⟩=some (.string tc):=(B1.out.cell (p:=⟨g,0,none⟩) (World.block_lt_of_cell? w _ c0)).trans c0
 have d1:W1.cell? ⟨g,1,none⟩=some (.string tr):=(B1.out.cell (p:=⟨g,1,none⟩) (World.block_lt_of_cell? w _ c1)).trans c1
 clear c0 c1
 cases z
 ·go_wp2
  go_ret3
  exact ⟨rfl,B1.out⟩
 ·go_wp2
  go_ret3
  exact ⟨rfl,B1.out⟩
theorem wH (p:Option Addr) (n c:Nat) (w:World)
  (hA:∀ W b,Below w.heap.size w W→Blk W b #[.slice p n c]→Calls Tryz.prog 67 #[.slice (some ⟨b,0,none⟩) 1 1] W fun e W'=>e = .returned (.bool true)∧Below W.heap.size W W') (hn:2≤n) :
  Calls Tryz.prog 27 #[.slice p n c] w fun e W'=>e = .returned (.tuple #[.string ⟨#[]⟩,.bool false,.int .i64 0])∧Below w.heap.size w W':=by
 have O:=Ha hA;clear hA
 have h0:¬ (n:Int)=0:=by omega
 have h1:¬ (n:Int)=1:=by omega
 go_enter Tryz.func27,Tryz.ntmps27
 go_wp2_with fail
 refine (O.out _ _ ((Below.refl _ w).alloc (Nat.le_refl _) _) (Blk.new w _ _)).mono ?_
 rintro e W1 ⟨rfl,b⟩
 have B1:=Ha (((Below.refl _ w).alloc (Nat.le_refl _) (.cells #[.slice p n c] 45)).trans (b.mono (by simp)))
 clear b
 go_wp2
 go_ret3
 exact ⟨rfl,B1.out⟩
end T
end Go.Proofs.YtbhbhlfkdlfimaaGreatDoor
