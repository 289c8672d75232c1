/- Parts of the proof of the text YtjdfjgfdbgmbiaaGreatDoorHB39. -/
import Derived.RangeFuncNested
import Derived.RangeFuncBound
import Derived.RangeFuncCalls
import Derived.RangeFuncLeaves
import Derived.RangeFuncBox
import Derived.Shelf.Abstract
import Derived.OwnWalkIn
import Derived.TacticsInMore
import Derived.LoopNIn
import Derived.LoopIn
import Derived.Maps.AppendAt
import Derived.RegionIn
import Derived.Shelf.RegionOpen
import Derived.Test.YtjdfjgfdbgmbiaaGreatDoorHB1
import Derived.Test.YtjdfjgfdbgmbiaaGreatDoorHB26
import Derived.Test.YtjdfjgfdbgmbiaaGreatDoorHB37
set_option linter.all false
set_option maxRecDepth 100000
set_option maxHeartbeats 8000000
namespace Go.Proofs.YtjdfjgfdbgmbiaaGreatDoor
open Go.RowKit Go.Shelf
theorem grown_below {a b:World} (h:Below a.heap.size a b):a.grownBy b none:=⟨h.os,h.tape,h.output,h.size,fun k hk _=>h.block k hk⟩
def atS (xs:List ByteArray) (j:Nat):ByteArray:=xs[j]?.getD ⟨#[]⟩
theorem atS_get {xs:List ByteArray} {j:Nat} (h:j<xs.length):atS xs j=xs[j]:=by unfold atS;rw [List.getElem?_eq_getElem h];rfl
theorem atS_mem {xs:List ByteArray} {j:Nat} (h:j<xs.length):atS xs j∈xs:=by rw [atS_get h];exact List.getElem_mem h
theorem take_at {xs:List ByteArray} {j:Nat} (h:j<xs.length):xs.take (j+1)=xs.take j ++ [atS xs j]:=by rw [atS_get h,List.take_succ_eq_append_getElem h]
def StrsAt (n:Nat) (W:World) (sv:Value) (xs:List ByteArray):Prop :=
 (∃ p cap,sv = .slice p 0 cap∧xs = [])∨∃ b off cap,sv = .slice (some ⟨b,off,none⟩) xs.length cap∧b<n∧xs.length≤cap∧cap≤maxLen∧∀ j,j<xs.length→W.cell? ⟨b,off+j,none⟩=some (.string (atS xs j))
theorem StrsAt.up {n m:Nat} {A:World} {sv:Value} {xs:List ByteArray} (h:StrsAt n A sv xs) (hn:n≤m):StrsAt m A sv xs:=by
 rcases h with h | ⟨k,off,cap,e,hb,h1⟩
 ·exact .inl h
 ·exact .inr ⟨k,off,cap,e,by omega,h1⟩
theorem checked_any (v:Value) (w:World) (hv:∃ p n c,v = .slice p n c) :
  Calls Tryz.prog 108 #[v] w fun e w'=>e = .returned (.func (.func 134) #[] #[.pointer (some ⟨w.heap.size,0,none⟩)])∧w'=w.alloc (.cells #[v] 117):=by
 obtain ⟨p,n,c,rfl⟩:=hv
 go_enter Tryz.func108,Tryz.ntmps108
 go_wp2
 go_ret
 exact ⟨rfl,rfl⟩
section
attribute [local go_sem] Oper.semAt_some
theorem checked1_in (n:Nat) (hn:1≤n) (W0:World) (l Bs b off cap:Nat) (xs:List ByteArray) (hl:xs.length≤4096) (hs:∀ s∈xs,s.size≤maxLen) (hb:b<W0.heap.size) (ht:Tab W0) (ht2:Tab64 W0) (J Jx:List ByteArray→World→Prop)
  (hY:∀ pre x W1,J pre W1→pre.length<xs.length→YieldAt Fence.wide (n - 1) Tryz.prog l #[.string x,.int .i64 (chkQ x.data.toList)] W1 fun e W' =>
   (e = .returned (.bool true)∧J (pre ++ [x]) W'∧Below W0.heap.size W1 W')∨(e = .returned (.bool false)∧Jx (pre ++ [x]) W'))
  (W:World) (hJ:AbidesFrom W.heap.size J) (hW:Below W0.heap.size W0 W) (hBs:W.cell? ⟨Bs,0,none⟩=some (.slice (some ⟨b,off,none⟩) xs.length cap)) (hc:∀ j,j<xs.length→W0.cell? ⟨b,off+j,none⟩=some (.string (atS xs j))) (h0:J [] W) :
  CallsIn Fence.wide n Tryz.prog 134 #[.func (.yield l) #[] #[],.pointer (some ⟨Bs,0,none⟩)] W fun e W'=>(∃ v,e = .returned v) ∧
   ((∃ ys,ys=xs∧J ys W')∨(∃ pre,(∃ k,k≤xs.length∧pre=xs.take k)∧Jx pre W')):=by
 have HY:=Lib.hid hY;clear hY
 have HC:=Lib.hid (And.intro hs hc);clear hs hc
 have HT:=Lib.hid (And.intro ht ht2);clear ht ht2
 have HJ:=Lib.hid hJ;clear hJ
 have HW:=Lib.hid hW;clear hW
 have H0:=Lib.hid h0;clear h0
 refine callsIn_of_wp Tryz.func134 rfl trivial ?_ rfl
 simp only [Tryz.ntmps134,List.size_toArray,List.length_cons,List.length_nil,Nat.reduceAdd,Nat.reduceSub,Array.replicate_succ,Array.replicate_zero,List.push_toArray,List.append_toArray,List.nil_append,List.cons_append]
 gi_wp2
 gi_loopw [7] (fun i wr=>∃ k:Nat,k≤xs.length∧i = .int .i64 k∧Hid (J (xs.take k) wr∧Below W0.heap.size W0 wr))
  (fun i _=>xs.length - (intOf i).toNat)
 case atStart=>exact ⟨0,Nat.zero_le _,rfl,H0.out,HW.out⟩
 case round =>
  obtain ⟨k,hk,rfl,hJs⟩:=hrel
  by_cases hlt:k<xs.length
  ·have hck:=(hJs.out.2.cell (p:=⟨b,off+k,none⟩) hb).trans (HC.out.2 k hlt)
   have C:=Lib.hid (checkQ_any (atS xs k) wr (HC.out.1 _ (atS_mem hlt)) (HT.out.1.next hJs.out.2) (TabQ_next HT.out.2 hJs.out.2))
   have hsn:=Lib.hid (take_at hlt)
   have hlen:=Lib.hid (show (xs.take k).length<xs.length by rw [List.length_take];omega)
   have HYk:=Lib.hid (fun W1 (h:J (xs.take k) W1)=>HY.out (xs.take k) (atS xs k) W1 h hlen.out)
   generalize atS xs k=s at *
   gi_wp2_with fail
   refine ⟨trivial,?_⟩
   refine (callsIn_wide.2 C.out).mono ?_
   rintro e w' ⟨rfl,b1⟩
   have hJ2:=Lib.hid (HJ.out (xs.take k) wr w' none hJs.out.1 (grown_below b1) (fun r e=>by cases e))
   have hB2:=Lib.hid (hJs.out.2.trans (b1.mono hJs.out.2.size))
   clear b1 C hck hJs
   obtain ⟨fn,tmps,assign,body,hy,hR⟩:=HYk.out w' hJ2.out
   have HR:=Lib.hid hR;clear hR
   generalize chkQ s.data.toList=c at *
   gi_wp2
   refine HR.out.mono ?_
   clear HR
   rintro e W3 (⟨rfl,hJ3,hk3⟩ | ⟨rfl,hJx3⟩)
   ·gi_wp2
    go_roundw
    case rel=>exact ⟨k+1,by omega,by simp,by show J (xs.take (k+1)) _∧_;rw [hsn.out];exact ⟨hJ3,hB2.out.trans hk3⟩⟩
    case measure=>simp [intOf];omega
   ·gi_wp2
    refine bodyPost_ret (results_none rfl _ _ _) rfl ?_
    exact ⟨⟨_,rfl⟩,.inr ⟨_,⟨k+1,by omega,hsn.out.symm⟩,hJx3⟩⟩
  ·have hx:Hid (xs.take k=xs):=List.take_of_length_le (by omega)
   gi_wp2
   go_end0
   exact ⟨⟨_,rfl⟩,.inl ⟨_,hx.out,hJs.out.1⟩⟩
theorem checked1_nil (n:Nat) (l Bs:Nat) (p:Option Addr) (cap:Nat) (J:List ByteArray→World→Prop) (W:World) (hBs:W.cell? ⟨Bs,0,none⟩=some (.slice p 0 cap)) (h0:J [] W) :
  CallsIn Fence.wide n Tryz.prog 134 #[.func (.yield l) #[] #[],.pointer (some ⟨Bs,0,none⟩)] W fun e W'=>(∃ v,e = .returned v)∧J [] W':=by
 have H0:=Lib.hid h0;clear h0
 refine callsIn_of_wp Tryz.func134 rfl trivial ?_ rfl
 simp only [Tryz.ntmps134,List.size_toArray,List.length_cons,List.length_nil,Nat.reduceAdd,Nat.reduceSub,Array.replicate_succ,Array.replicate_zero,List.push_toArray,List.append_toArray,List.nil_append,List.cons_append]
 gi_wp2
 gi_loopw [7] (fun i wr=>i = .int .i64 0∧Hid (J [] wr)) (fun _ _=>0)
 case atStart=>exact ⟨rfl,H0.out⟩
 case round =>
  obtain ⟨rfl,hJs⟩:=hrel
  gi_wp2
  go_end0
  exact ⟨⟨_,rfl⟩,hJs.out⟩
theorem checked_stops (n:Nat) (hn:1≤n) (W0:World) (Bs:Nat) (sv:Value) (xs:List ByteArray) (hl:xs.length≤4096) (hs:∀ s∈xs,s.size≤maxLen) (ht:Tab W0) (ht2:Tab64 W0) (w:World) (hBs:Bs<w.heap.size) (hw:Below W0.heap.size W0 w)
  (hc:w.cell? ⟨Bs,0,none⟩=some sv) (hI:StrsAt W0.heap.size W0 sv xs) :
  SeqStopsK Fence.wide n Tryz.prog 134 #[.pointer (some ⟨Bs,0,none⟩)] (fun x:ByteArray => #[Value.string x,Value.int .i64 (chkQ x.data.toList)]) (Below W0.heap.size) (fun ys=>ys=xs) (fun pre=>∃ k,k≤xs.length∧pre=xs.take k) xs.length w:=fun l J Jx W hW hJ _ hY h0=>by
 have hc':=(hW.cell (p:=⟨Bs,0,none⟩) hBs).trans hc
 rcases hI with ⟨p,cap,rfl,rfl⟩ | ⟨b,off,cap,rfl,hb,_,_,hcs⟩
 ·exact (checked1_nil n l Bs p cap J W hc' h0).mono fun e W' ⟨he,hj⟩=>⟨he,.inl ⟨_,rfl,hj⟩⟩
 ·exact checked1_in n hn W0 l Bs b off cap xs hl hs hb ht ht2 J Jx hY W hJ (hw.trans (hW.mono hw.size)) hc' hcs h0
end
def sumS (xs:List ByteArray):Option Rat:=xs.foldl (fun o s=>o.bind fun t=>if qaddE t (rat s)=0 then some (t+rat s) else none) (some 0)
theorem sumS_snoc (xs:List ByteArray) (s:ByteArray):sumS (xs ++ [s])=(sumS xs).bind fun t=>if qaddE t (rat s)=0 then some (t+rat s) else none:=by
 unfold sumS;rw [List.foldl_append];rfl
def oB:Option Rat→ByteArray
 | none=>⟨#[]⟩
 | some t=>strQ t
def oE:Option Rat→Int
 | none=>4
 | some _=>0
theorem qadd_E0 {x y:Rat} (h:qaddE x y=0):qaddB x y=strQ (x+y)∧Sq (x+y):=by
 unfold qaddE lowE at h
 unfold qaddB lowB
 by_cases hc:crossOK x y
 ·rw [if_pos hc] at h ⊢
  by_cases hs:short (x.num*y.den+y.num*x.den)∧short ((x.den:Int)*y.den)
  ·rw [if_pos hs,add_int]
   exact ⟨rfl,by rw [←add_int];exact (Bq.of_int (k:=300) (den_ne x y) hs.1 hs.2).lim (Nat.le_refl _)⟩
  ·rw [if_neg hs] at h;cases h
 ·rw [if_neg hc] at h;cases h
theorem qadd_E4 {x y:Rat} (h:qaddE x y≠0):qaddB x y=⟨#[]⟩∧qaddE x y=4:=by
 unfold qaddE lowE at h ⊢
 unfold qaddB lowB
 by_cases hc:crossOK x y
 ·rw [if_pos hc] at h ⊢
  rw [if_pos hc]
  by_cases hs:short (x.num*y.den+y.num*x.den)∧short ((x.den:Int)*y.den)
  ·rw [if_pos hs] at h;exact absurd rfl h
  ·rw [if_neg hs,if_neg hs];exact ⟨rfl,rfl⟩
 ·rw [if_neg hc,if_neg hc];exact ⟨rfl,rfl⟩
theorem sq_zero:Sq 0:=(Bq_zero.lim (by decide))
theorem sumS_step (o:Option Rat) (s:ByteArray) (t:Rat) (h:o=some t):qaddB t (rat s)=oB (o.bind fun t=>if qaddE t (rat s)=0 then some (t+rat s) else none)∧qaddE t (rat s)=oE (o.bind fun t=>if qaddE t (rat s)=0 then some (t+rat s) else none):=by
 subst h
 rw [Option.bind_some]
 by_cases h:qaddE t (rat s)=0
 ·rw [if_pos h];exact ⟨(qadd_E0 h).1,h⟩
 ·rw [if_neg h];exact qadd_E4 h
theorem sumS_sq:∀ (xs:List ByteArray) (o:Option Rat),(∀ t,o=some t→Sq t)→∀ t,xs.foldl (fun o s=>o.bind fun t=>if qaddE t (rat s)=0 then some (t+rat s) else none) o=some t→Sq t
 | [],o,h,t,e=>h t e
 | s::r,o,h,t,e=>by
  refine sumS_sq r _ (fun t' e' => ?_) t e
  cases o with
  | none=>cases e'
  | some u =>
   have e2:=e'
   dsimp only at e2
   rw [Option.bind_some] at e2
   by_cases hq:qaddE u (rat s)=0
   ·rw [if_pos hq] at e2
    rw [←Option.some.inj e2];exact (qadd_E0 hq).2
   ·rw [if_neg hq] at e2;cases e2
theorem sumS_ok {xs:List ByteArray} {t:Rat} (h:sumS xs=some t):Sq t:=sumS_sq xs (some 0) (fun t e=>by rw [←Option.some.inj e];exact sq_zero) t h
def badC (xs:List ByteArray):Int:=xs.foldr (fun s c=>if chkQ s.data.toList=0 then c else chkQ s.data.toList) 0
theorem badC_ok {xs:List ByteArray} (h:∀ s∈xs,chkQ s.data.toList=0):badC xs=0:=by
 induction xs with
 | nil=>rfl
 | cons s t ih =>
  show (if chkQ s.data.toList=0 then badC t else _)=0
  rw [if_pos (h s (List.mem_cons_self ..))]
  exact ih fun x hx=>h x (List.mem_cons_of_mem _ hx)
theorem badC_bad {ini r:List ByteArray} {s:ByteArray} (h:∀ x∈ini,chkQ x.data.toList=0) (hs:chkQ s.data.toList≠0):badC (ini++s::r)=chkQ s.data.toList:=by
 induction ini with
 | nil=>show (if chkQ s.data.toList=0 then badC r else _)=_;rw [if_neg hs]
 | cons x t ih =>
  show (if chkQ x.data.toList=0 then badC (t++s::r) else _)=_
  rw [if_pos (h x (List.mem_cons_self ..))]
  exact ih fun y hy=>h y (List.mem_cons_of_mem _ hy)
def sumB (xs:List ByteArray):ByteArray:=if badC xs=0 then oB (sumS xs) else ⟨#[]⟩
def sumE (xs:List ByteArray):Int:=if badC xs=0 then oE (sumS xs) else badC xs
def lastC (xs:List ByteArray):Int:=match xs.getLast? with
 | some s=>chkQ s.data.toList
 | none=>0
theorem lastC_snoc (xs:List ByteArray) (s:ByteArray):lastC (xs ++ [s])=chkQ s.data.toList:=by unfold lastC;rw [List.getLast?_append];rfl
def stB (pre:List ByteArray):Value := .string (oB (sumS pre))
def stE (pre:List ByteArray):Value := .int .i64 (oE (sumS pre))
def laE (pre:List ByteArray):Value := .int .i64 (lastC pre)
theorem sumB_all {xs:List ByteArray} (h:∀ s∈xs,chkQ s.data.toList=0):sumB xs=oB (sumS xs)∧sumE xs=oE (sumS xs):=by
 unfold sumB sumE;rw [if_pos (badC_ok h),if_pos (badC_ok h)];exact ⟨rfl,rfl⟩
theorem sumB_bad {xs pre:List ByteArray} {k:Nat} (hk:pre=xs.take k) (h:∀ s∈pre.dropLast,chkQ s.data.toList=0) (hl:lastC pre≠0):sumB xs=⟨#[]⟩∧sumE xs=lastC pre:=by
 have hb:badC xs=lastC pre:=by
  have hne:pre ≠ []:=fun e=>by rw [e] at hl;exact hl rfl
  have e1:pre=pre.dropLast ++ [pre.getLast hne]:=(List.dropLast_concat_getLast hne).symm
  have e2:lastC pre=chkQ (pre.getLast hne).data.toList:=by unfold lastC;rw [List.getLast?_eq_some_getLast hne]
  have e3:xs=pre.dropLast++pre.getLast hne::xs.drop k:=by
   have e4:pre++xs.drop k=xs:=by rw [hk];exact List.take_append_drop k xs
   rw [e1,List.append_assoc] at e4
   exact e4.symm
  rw [e3,badC_bad h (by rw [←e2];exact hl),e2]
 unfold sumB sumE
 rw [hb,if_neg hl,if_neg hl];exact ⟨rfl,rfl⟩
section
attribute [local go_sem] Oper.semAt_some
theorem Sum_any (p:Option Addr) (cap:Nat) (xs:List ByteArray) (w:World) (hv:StrsAt w.heap.size w (.slice p xs.length cap) xs) (hl:xs.length≤4096) (hs:∀ s∈xs,s.size≤maxLen) (ht:Tab w) (ht2:Tab64 w) :
  Calls Tryz.prog 83 #[.slice p xs.length cap] w fun e W'=>e = .returned (.tuple #[.string (sumB xs),.int .i64 (sumE xs)])∧Below w.heap.size w W':=by
 refine (callsIn_wide (n:=9)).1 ?_
 have HV:=Lib.hid (And.intro hv (And.intro hs (And.intro ht ht2)));clear hv hs ht ht2
 have hl':¬ (4096:Int)<xs.length:=by omega
 refine callsIn_of_wp_marks Tryz.func83 rfl trivial ?_ rfl
 simp only [Tryz.ntmps83,List.size_toArray,List.length_cons,List.length_nil,Nat.reduceAdd,Nat.reduceSub,Array.replicate_succ,Array.replicate_zero,List.push_toArray,List.append_toArray,List.nil_append,List.cons_append]
 gi_wp2_with fail
 refine ⟨trivial,?_⟩
 refine (callsIn_wide.2 (checked_any _ _ ⟨_,_,_,rfl⟩)).mono ?_
 rintro e W1 ⟨rfl,rfl⟩
 gi_wp2
 have b0:=((((Boxed.new w 22 (.string ⟨#[]⟩)).alloc (.cells #[.int .i64 0] 27)).alloc (.cells #[.string ⟨#[48]⟩] 22)).alloc (.cells #[.int .i64 0] 27)).alloc (.cells #[.slice p xs.length cap] 117)
 have b1:=(((Boxed.new (w.alloc (.cells #[.string ⟨#[]⟩] 22)) 27 (.int .i64 0)).alloc (.cells #[.string ⟨#[48]⟩] 22)).alloc (.cells #[.int .i64 0] 27)).alloc (.cells #[.slice p xs.length cap] 117)
 have b2:=((Boxed.new ((w.alloc (.cells #[.string ⟨#[]⟩] 22)).alloc (.cells #[.int .i64 0] 27)) 22 (.string ⟨#[48]⟩)).alloc (.cells #[.int .i64 0] 27)).alloc (.cells #[.slice p xs.length cap] 117)
 have b3:=(Boxed.new (((w.alloc (.cells #[.string ⟨#[]⟩] 22)).alloc (.cells #[.int .i64 0] 27)).alloc (.cells #[.string ⟨#[48]⟩] 22)) 27 (.int .i64 0)).alloc (.cells #[.slice p xs.length cap] 117)
 have b4:=Boxed.new ((((w.alloc (.cells #[.string ⟨#[]⟩] 22)).alloc (.cells #[.int .i64 0] 27)).alloc (.cells #[.string ⟨#[48]⟩] 22)).alloc (.cells #[.int .i64 0] 27)) 117 (.slice p xs.length cap)
 simp only [World.size_alloc] at b1 b2 b3 b4
 have hB0:Below w.heap.size w (((((w.alloc (.cells #[.string ⟨#[]⟩] 22)).alloc (.cells #[.int .i64 0] 27)).alloc (.cells #[.string ⟨#[48]⟩] 22)).alloc (.cells #[.int .i64 0] 27)).alloc (.cells #[.slice p xs.length cap] 117)) :=
  (((((Below.refl _ w).alloc (Nat.le_refl _) _).alloc (by simp) _).alloc (by simp;omega) _).alloc (by simp;omega) _).alloc (by simp;omega) _
 have hsz:(((((w.alloc (.cells #[.string ⟨#[]⟩] 22)).alloc (.cells #[.int .i64 0] 27)).alloc (.cells #[.string ⟨#[48]⟩] 22)).alloc (.cells #[.int .i64 0] 27)).alloc (.cells #[.slice p xs.length cap] 117)).heap.size=w.heap.size+1+1+1+1+1:=by simp
 generalize ((((w.alloc (.cells #[.string ⟨#[]⟩] 22)).alloc (.cells #[.int .i64 0] 27)).alloc (.cells #[.string ⟨#[48]⟩] 22)).alloc (.cells #[.int .i64 0] 27)).alloc (.cells #[.slice p xs.length cap] 117)=W5 at *
 have HB:=Lib.hid (And.intro hB0 (And.intro hsz (And.intro b0 (And.intro b1 (And.intro b2 (And.intro b3 b4))))));clear b0 b1 b2 b3 b4 hB0 hsz
 refine wpIn_rangeFunc_ownG rfl (by omega) (gf:=134) (lb := #[.pointer (some ⟨w.heap.size+1+1+1+1,0,none⟩)]) rfl trivial (enters_of Tryz.func134 (by kernel_rfl) rfl)
  (checked_stops (9 - 1) (by omega) w (w.heap.size+1+1+1+1) (.slice p xs.length cap) xs hl HV.out.2.1 HV.out.2.2.1 HV.out.2.2.2 W5 (by rw [HB.out.2.1];omega) HB.out.1 HB.out.2.2.2.2.2.2.cell HV.out.1) belowK_t (belowK_b (by rw [HB.out.2.1];omega)) (Below.refl _ _) (fun _=>rfl)
  (fun pre W=>(((Boxed W w.heap.size 22 (.string ⟨#[]⟩)∧Boxed W (w.heap.size+1) 27 (.int .i64 0))∧(Boxed W (w.heap.size+1+1) 22 (stB pre)∧Boxed W (w.heap.size+1+1+1) 27 (stE pre)))∧∀ s∈pre,chkQ s.data.toList=0)∧Below w.heap.size w W)
  (fun c pre W=>((c = .ret∧lastC pre≠0∧∀ s∈pre.dropLast,chkQ s.data.toList=0)∧(Boxed W w.heap.size 22 (.string ⟨#[]⟩)∧Boxed W (w.heap.size+1) 27 (laE pre)))∧Below w.heap.size w W)
  (OwnFrom.and (OwnFrom.and (OwnFrom.and (OwnFrom.and (Own.from (boxed_own _ _ (fun _ => .string ⟨#[]⟩)) _) (Own.from (boxed_own _ _ (fun _ => .int .i64 0)) _)) (OwnFrom.and (Own.from (boxed_own _ _ stB) _) (Own.from (boxed_own _ _ stE) _))) (ownFrom_pure _ _)) (ownFrom_below (Nat.le_refl _) (by rw [HB.out.2.1];omega)))
  (fun c=>OwnFrom.and (OwnFrom.and (ownFrom_pure _ _) (OwnFrom.and (Own.from (boxed_own _ _ (fun _ => .string ⟨#[]⟩)) _) (Own.from (boxed_own _ _ laE) _))) (ownFrom_below (Nat.le_refl _) (by rw [HB.out.2.1];omega)))
  ⟨⟨⟨⟨HB.out.2.2.1,HB.out.2.2.2.1⟩,⟨by have:=HB.out.2.2.2.2.1;rwa [show stB [] = .string ⟨#[48]⟩ from congrArg Value.string strQ_zero],HB.out.2.2.2.2.2.1⟩⟩,fun _ h=>by cases h⟩,HB.out.1⟩
  (fun x=>{ tmps := #[.slice p xs.length cap,undef,.pointer (some ⟨w.heap.size,0,none⟩),.pointer (some ⟨w.heap.size+1,0,none⟩),.pointer (some ⟨w.heap.size+1+1,0,none⟩),.pointer (some ⟨w.heap.size+1+1+1,0,none⟩),.string x,.int .i64 (chkQ x.data.toList),.slice p xs.length cap,.int .i64 xs.length,.bool false,.slice p xs.length cap,.func (.func 134) #[] #[.pointer (some ⟨w.heap.size+1+1+1+1,0,none⟩)],.string x,.int .i64 (chkQ x.data.toList),undef,undef,undef,undef,undef,undef,undef,undef,undef,undef,undef,undef,undef],defers := [] }) ?assign ?body ?done ?stop
 case assign =>
  intro l x W K hK
  gi_wp2
  exact hK
 case body =>
  rintro l pre x W ⟨⟨⟨⟨h0,h1⟩,⟨h2,h3⟩⟩,hp⟩,hB⟩ hlt
  have HH:=Lib.hid (And.intro h0 (And.intro h1 (And.intro h2 (And.intro h3 (And.intro hp hB)))))
  clear h0 h1 h2 h3 hp hB
  have HX:=Lib.hid (show ∀ c,chkQ x.data.toList=c→chkQ x.data.toList=c from fun _ h=>h)
  by_cases hx:chkQ x.data.toList=0
  ·have HX0:=Lib.hid hx
   rw [hx]
   clear hx
   have hc2:=HH.out.2.2.1.cell
   have hc3:=HH.out.2.2.2.1.cell
   have hf2:=HH.out.2.2.1.frozen
   have hf3:=HH.out.2.2.2.1.frozen
   unfold stB at hc2
   unfold stE at hc3
   have hsn:=sumS_snoc pre x
   cases hs:sumS pre with
   | none =>
    rw [hs] at hc2 hc3 hsn
    have HS:=Lib.hid (And.intro hs hsn);clear hs hsn
    change _=some (Value.int .i64 4) at hc3
    clear hc2 hf2 hf3
    gi_wp2
    have e1:stB (pre ++ [x])=stB pre:=by unfold stB;rw [HS.out.2,HS.out.1];rfl
    have e2:stE (pre ++ [x])=stE pre:=by unfold stE;rw [HS.out.2,HS.out.1];rfl
    exact ⟨KeepsFrom.refl _ _,Below.refl _ _,⟨⟨⟨⟨HH.out.1,HH.out.2.1⟩,⟨by rw [e1];exact HH.out.2.2.1,by rw [e2];exact HH.out.2.2.2.1⟩⟩,fun s hs=>(List.mem_append.1 hs).elim (HH.out.2.2.2.2.1 s) (fun e=>by rw [List.mem_singleton.1 e];exact HX0.out)⟩,HH.out.2.2.2.2.2⟩⟩
   | some t =>
    rw [hs] at hc2 hc3
    change _=some (Value.int .i64 0) at hc3
    change _=some (Value.string (strQ t)) at hc2
    obtain ⟨g1,g2⟩:=sumS_step (sumS pre) x t hs
    have HS:=Lib.hid (show stB (pre ++ [x]) = .string (qaddB t (rat x))∧stE (pre ++ [x]) = .int .i64 (qaddE t (rat x)) from ⟨by unfold stB;rw [hsn,←g1],by unfold stE;rw [hsn,←g2]⟩)
    have C:=Add_q t (rat x) W (sumS_ok hs) (chkQ_sq HX0.out) (HV.out.2.2.1.next HH.out.2.2.2.2.2) (TabQ_next HV.out.2.2.2 HH.out.2.2.2.2.2)
    rw [chkQ_str HX0.out] at C
    have C:=Lib.hid C
    clear hs hsn g1 g2
    generalize strQ t=st at *
    generalize qaddB t (rat x)=rb at *
    generalize qaddE t (rat x)=re at *
    gi_wp2_with fail
    refine ⟨trivial,?_⟩
    refine (CallsIn.inRound l (callsIn_wide.2 C.out)).mono ?_
    rintro e w' ⟨rfl,b⟩
    clear hc2 hc3 hf2 hf3 C
    have g:=grown_below b
    have HG:=Lib.hid (And.intro (HH.out.1.kept g (by simp)) (And.intro (HH.out.2.1.kept g (by simp)) (And.intro (HH.out.2.2.1.kept g (by simp)) (And.intro (HH.out.2.2.2.1.kept g (by simp)) (And.intro (KeepsFrom.of_grownBy (B:=W5.heap.size) g (fun j e=>by cases e)) b)))))
    clear g b
    have hc2:=HG.out.2.2.1.cell
    have hc3:=HG.out.2.2.2.1.cell
    have hf2:=HG.out.2.2.1.frozen
    have hf3:=HG.out.2.2.2.1.frozen
    gi_wp2
    refine ⟨HG.out.2.2.2.2.1.trans (((KeepsOthers.setCell _ _ _).from _).trans ((KeepsOthers.setCell _ _ _).from _)),((HG.out.2.2.2.2.2.mono HH.out.2.2.2.2.2.size).setCell (p:=⟨w.heap.size+1+1,0,none⟩) (by show w.heap.size≤w.heap.size+1+1;omega) _).setCell (p:=⟨w.heap.size+1+1+1,0,none⟩) (by show w.heap.size≤w.heap.size+1+1+1;omega) _,⟨⟨⟨⟨(HG.out.1.other (by omega) _).other (by omega) _,(HG.out.2.1.other (by omega) _).other (by omega) _⟩,⟨?_,?_⟩⟩,fun s hs=>(List.mem_append.1 hs).elim (HH.out.2.2.2.2.1 s) (fun e=>by rw [List.mem_singleton.1 e];exact HX0.out)⟩,?_⟩⟩
    ·rw [HS.out.1];exact (HG.out.2.2.1.set _).other (by omega) _
    ·rw [HS.out.2];exact (HG.out.2.2.2.1.other (by omega) _).set _
    ·exact HH.out.2.2.2.2.2.trans (((HG.out.2.2.2.2.2.mono HH.out.2.2.2.2.2.size).setCell (p:=⟨w.heap.size+1+1,0,none⟩) (by show w.heap.size≤w.heap.size+1+1;omega) _).setCell (p:=⟨w.heap.size+1+1+1,0,none⟩) (by show w.heap.size≤w.heap.size+1+1+1;omega) _)
  ·have hl:=lastC_snoc pre x
   generalize chkQ x.data.toList=c at *
   have HL:=Lib.hid (And.intro hl hx)
   have n1:(c==0)=false:=by rw [beq_eq_false_iff_ne];exact hx
   have n2:(c != 0)=true:=by rw [bne_iff_ne];exact hx
   clear hl hx HX
   have hc0:=HH.out.1.cell
   have hc1:=HH.out.2.1.cell
   have hf0:=HH.out.1.frozen
   have hf1:=HH.out.2.1.frozen
   gi_wp2
   refine ⟨((KeepsOthers.setCell _ _ _).from _).trans ((KeepsOthers.setCell _ _ _).from _),⟨⟨⟨rfl,by rw [HL.out.1];exact HL.out.2,fun s hs=>HH.out.2.2.2.2.1 s (by simpa using hs)⟩,⟨(HH.out.1.set _).other (by omega) _,?_⟩⟩,(HH.out.2.2.2.2.2.setCell (p:=⟨w.heap.size,0,none⟩) (Nat.le_refl _) _).setCell (p:=⟨w.heap.size+1,0,none⟩) (by show w.heap.size≤w.heap.size+1;omega) _⟩⟩
   unfold laE;rw [HL.out.1];exact (HH.out.2.1.other (by omega) _).set _
 case done =>
  rintro D ys W hD rfl ⟨⟨⟨⟨h0,h1⟩,⟨h2,h3⟩⟩,hp⟩,hB⟩ hK
  have HH:=Lib.hid (And.intro h0 (And.intro h1 (And.intro h2 (And.intro h3 (And.intro hp (And.intro hB (And.intro hK hD)))))))
  clear h0 h1 h2 h3 hp hB hK hD
  have hc2:=HH.out.2.2.1.cell
  have hc3:=HH.out.2.2.2.1.cell
  have hf0:=HH.out.1.frozen
  have hf1:=HH.out.2.1.frozen
  have hc0:=HH.out.1.cell
  have hc1:=HH.out.2.1.cell
  unfold stB at hc2
  unfold stE at hc3
  have hmx:Tryz.prog.follows .mixedOrders=true:=by kernel_rfl
  gi_wp2
  gi_region_with_o (fail)
  all_goals
   gi_wp2
   have g0:=(HH.out.1.set (.string (oB (sumS ys)))).other (B':=w.heap.size+1) (by omega) (.int .i64 (oE (sumS ys)))
   have g1:=(HH.out.2.1.other (B':=w.heap.size) (by omega) (.string (oB (sumS ys)))).set (.int .i64 (oE (sumS ys)))
   have hK':=((KeepsOthers.setCell W ⟨w.heap.size,0,none⟩ (.string (oB (sumS ys)))).trans (KeepsOthers.setCell _ ⟨w.heap.size+1,0,none⟩ (.int .i64 (oE (sumS ys))))).same D _ HH.out.2.2.2.2.2.2.1 rfl
   have hBB:=(HH.out.2.2.2.2.2.1.setCell (p:=⟨w.heap.size,0,none⟩) (Nat.le_refl _) (.string (oB (sumS ys)))).setCell (p:=⟨w.heap.size+1,0,none⟩) (by show w.heap.size≤w.heap.size+1;omega) (.int .i64 (oE (sumS ys)))
   have hBB2:=hBB.drew
   have k0:World.cell? (World.drew ((W.setCell ⟨w.heap.size,0,none⟩ (.string (oB (sumS ys)))).setCell ⟨w.heap.size+1,0,none⟩ (.int .i64 (oE (sumS ys))))) ⟨w.heap.size,0,none⟩=some (.string (oB (sumS ys))):=g0.cell
   have k1:World.cell? (World.drew ((W.setCell ⟨w.heap.size,0,none⟩ (.string (oB (sumS ys)))).setCell ⟨w.heap.size+1,0,none⟩ (.int .i64 (oE (sumS ys))))) ⟨w.heap.size+1,0,none⟩=some (.int .i64 (oE (sumS ys))):=g1.cell
   have hKd:(World.drew ((W.setCell ⟨w.heap.size,0,none⟩ (.string (oB (sumS ys)))).setCell ⟨w.heap.size+1,0,none⟩ (.int .i64 (oE (sumS ys))))).heap[D]? = some (.deferred (some [])):=hK'
   refine ⟨by simp,.inl ⟨_,_,rfl,run_takeDeferred hKd,?_⟩⟩
   have hc5:=cell_kept k0 (grownBy_putObj' _ D (.deferred none)) (fun r e=>by cases e;exact ⟨_,hKd,rfl⟩)
   have hc6:=cell_kept k1 (grownBy_putObj' _ D (.deferred none)) (fun r e=>by cases e;exact ⟨_,hKd,rfl⟩)
   refine ⟨.tuple #[.string (oB (sumS ys)),.int .i64 (oE (sumS ys))],?_,by rw [(sumB_all HH.out.2.2.2.2.1).1,(sumB_all HH.out.2.2.2.2.1).2],hBB2.trans (belowK_b (w:=w) (Nat.le_refl _) _ D _ _ (by have:=HH.out.2.2.2.2.2.2.2;rw [HB.out.2.1] at this;omega) hKd rfl rfl)⟩
   simp [results,Tryz.f83,go_sem,hc5,hc6]
 case stop =>
  rintro D c pre W hD ⟨k,hk,hpre⟩ ⟨⟨⟨rfl,hl0,hok⟩,⟨h0,h1⟩⟩,hB⟩ hK
  have hc0:=h0.cell
  have hc1:=h1.cell
  have HS:=Lib.hid (sumB_bad hpre hok hl0)
  have HH:=Lib.hid (And.intro hB (And.intro hK hD))
  clear hpre hok hl0 hB hD
  gi_wp2
  refine ⟨by simp,.inl ⟨_,_,rfl,run_takeDeferred hK,?_⟩⟩
  have hc5:=cell_kept hc0 (grownBy_putObj' _ D (.deferred none)) (fun r e=>by cases e;exact ⟨_,hK,rfl⟩)
  have hc6:=cell_kept hc1 (grownBy_putObj' _ D (.deferred none)) (fun r e=>by cases e;exact ⟨_,hK,rfl⟩)
  unfold laE at hc6
  refine ⟨.tuple #[.string ⟨#[]⟩,.int .i64 (lastC pre)],?_,by rw [HS.out.1,HS.out.2],HH.out.1.trans (belowK_b (w:=w) (Nat.le_refl _) W D _ _ (by have:=HH.out.2.2;rw [HB.out.2.1] at this;omega) hK rfl rfl)⟩
  simp [results,Tryz.f83,go_sem,hc5,hc6]
end
end Go.Proofs.YtjdfjgfdbgmbiaaGreatDoor
namespace Go.Proofs.YtjdfjgfdbgmbiaaGreatDoor.T
open Go.Proofs.YtjdfjgfdbgmbiaaGreatDoor Go Go.RowKit
theorem nrm_small {r:Nat} (h0:0<r) (h:∀ c,c<r+1→2≤c→¬ c*c∣r):Nrm r:=by
 obtain ⟨c,e,lc⟩:=nC_nat r
 have s:=nC_sq (q:=(r:Rat)) (castn_nonneg r)
 rw [e,←Rat.natCast_mul,←Rat.natCast_mul] at s
 have s2:=Rat.natCast_inj.1 s
 have c1:c=1:=by
  rcases Nat.lt_or_ge c 2 with l | l
  ·have:c≠0:=fun z=>by rw [z] at s2;simp at s2;omega
   omega
  ·exact absurd ⟨_,s2.symm⟩ (h c (by omega) l)
 refine ⟨h0,by rw [e,c1];rfl,?_⟩
 rw [c1] at s2;omega
theorem nrm1:Nrm 1:=nrm_small (by decide) (by decide)
theorem nrm2:Nrm 2:=nrm_small (by decide) (by decide)
theorem nrm3:Nrm 3:=nrm_small (by decide) (by decide)
theorem rl_eq {a b:Nat} (ha:Nrm a) (hb:Nrm b) (la:a<10000) (lb:b<10000) (h:Rl (a:Rat) (b:Rat)):a=b:=nrm_ratio ha hb la lb ((both_rl (nat_pos ha.1) (nat_pos hb.1)).2 h)
def Lt (g:List Tm):Prop:=∀ t∈g,t.1≠0∧∃ b:Nat,t.2=(b:Rat)∧Nrm b∧b<10000
theorem lt_red {g:List Tm} (h:Lt g) (hd:g.Pairwise fun s t=>s.2≠t.2):Red g:=by
 refine ⟨fun t ht => ?_,?_⟩
 ·obtain ⟨_,b,e,nb,_⟩:=h t ht
  rw [e];exact nat_pos nb.1
 ·refine hd.imp_of_mem fun {s t} hs ht n r=>n ?_
  obtain ⟨_,a,ea,na,la⟩:=h s hs
  obtain ⟨_,b,eb,nb,lb⟩:=h t ht
  rw [ea,eb] at r ⊢
  rw [rl_eq na nb la lb r]
theorem lt_good {g:List Tm} (h:Lt g) (hB:∀ t∈g,Bq 60 t.1) (hl:g.length≤16) (hd:g.Pairwise fun s t=>s.2<t.2):Good g:=by
 refine ⟨hl,fun t ht => ?_,hd,(lt_red h (hd.imp fun {s t} k e=>by rw [e] at k;exact Rat.lt_irrefl k)).2⟩
 obtain ⟨c0,b,e,nb,lb⟩:=h t ht
 exact ⟨c0,hB t ht,b,e,nb,Nat.lt_of_lt_of_le lb (by decide+kernel)⟩
theorem lit_good {c:Rat} {q:Nat} (hc:c≠0) (hB:Bq 60 c) (hq:Nrm q) (lq:q<10000):Good [(c,(q:Rat))] :=
 lt_good (fun t ht=>by obtain rfl:=List.mem_singleton.1 ht;exact ⟨hc,q,rfl,hq,lq⟩) (fun t ht=>by obtain rfl:=List.mem_singleton.1 ht;exact hB) (by simp) (List.pairwise_singleton _ _)
end Go.Proofs.YtjdfjgfdbgmbiaaGreatDoor.T
namespace Go.Proofs.YtjdfjgfdbgmbiaaGreatDoor.T
open Go.Proofs.YtjdfjgfdbgmbiaaGreatDoor Go Go.RowKit
theorem sq1:strQ (1:Rat)=⟨#[49]⟩:=strQ_one
theorem sq2:strQ (2:Rat)=⟨#[50]⟩:=by decide+kernel
theorem sq3:strQ (3:Rat)=⟨#[51]⟩:=by decide+kernel
def Sv (W:World) (l:List Tm) (v:Value):Prop:=∃ p n c,v = .slice p n c∧Su W p n c l
theorem Sv.next {W W':World} {l:List Tm} {v:Value} (h:Sv W l v) (g:Below W.heap.size W W'):Sv W' l v:=by
 obtain ⟨p,n,c,e,s⟩:=h
 exact ⟨p,n,c,e,s.next g⟩
theorem Rs.only {g l:List Tm} {w W':World} {e:Ending} {B:Nat} (h:Rs g B w e W') (ho:∀ r,r.Perm (T.fin g)→Good r→r=l):∃ v,e = .returned (.tuple #[v,.int .i64 0])∧Sv W' l v∧Below B w W':=by
 obtain ⟨p,n,c,r,e1,hp,hs,hb⟩:=h
 obtain rfl:=ho r hp hs.good
 exact ⟨_,e1,⟨p,n,c,rfl,hs⟩,hb⟩
theorem lit_su {W:World} {b:Nat} {x q:Rat} (hg:Good [(x,q)]) (h:Blk W b #[.string (strQ x),.string (strQ q)]):Su W (some ⟨b,0,none⟩) 1 1 [(x,q)]:=Su.lit hg (Tl.lit1 x q h) 1 (by simp)
end Go.Proofs.YtjdfjgfdbgmbiaaGreatDoor.T
namespace Go.Proofs.YtjdfjgfdbgmbiaaGreatDoor.T
open Go.Proofs.YtjdfjgfdbgmbiaaGreatDoor Go Go.RowKit
structure Pq (p:Rat):Prop where
 n0:0≤p
 num:p.num.natAbs≤65535
 den:p.den≤2304
theorem cN_le (p:Rat):cN p≤p.num.natAbs:=by
 unfold cN
 split
 ·exact root_le _
 ·rename_i h
  obtain ⟨e,p1,p2,_⟩:=strips_spec primes primes_2 (num_pos_of h)
  generalize (strips primes p.num.natAbs).1=x at *
  generalize (strips primes p.num.natAbs).2=y at *
  have h1:x*1≤x*(x*y):=Nat.mul_le_mul_left x (Nat.mul_pos p1 p2)
  rw [e,Nat.mul_assoc];omega
theorem cD_le (p:Rat):cD p≤p.den:=by
 unfold cD
 split
 ·exact root_le _
 ·obtain ⟨e,p1,p2,_⟩:=strips_spec primes primes_2 p.den_pos
  generalize (strips primes p.den).1=x at *
  generalize (strips primes p.den).2=y at *
  have h1:x*y*1≤x*y*x:=Nat.mul_le_mul_left _ p1
  have h2:x*x*y=x*y*x:=by rw [Nat.mul_assoc,Nat.mul_comm]
  rw [e,h2];omega
theorem nNq_le {p:Rat} (h:Pq p):nN p≤150992640:=by
 unfold nN
 split
 ·decide
 ·rename_i hb
  have n0:=num_pos_of hb
  obtain ⟨_,_,_,d1,_⟩:=strips_spec primes primes_2 n0
  obtain ⟨_,_,_,d2,_⟩:=strips_spec primes primes_2 p.den_pos
  have l1:=Nat.le_of_dvd n0 d1
  have l2:=Nat.le_of_dvd p.den_pos d2
  exact Nat.mul_le_mul (Nat.le_trans l1 h.num) (Nat.le_trans l2 h.den)
theorem nC_J (p:Rat):J (cD p) (cN p) (nC p):=by
 refine ⟨cN p,?_,by simp⟩
 have d0:=nat_pos (cD_pos p)
 unfold nC
 rw [Rat.mkRat_eq_div,Rat.intCast_natCast,Rat.div_mul_cancel (by grind)]
noncomputable def Sq1 (p:Rat):List Tm:=if p=0 then [] else [(nC p,((nN p:Nat):Rat))]
theorem sq1_mem {p:Rat} {t:Tm} (h:t∈Sq1 p):p≠0∧t=(nC p,((nN p:Nat):Rat)):=by
 unfold Sq1 at h
 split at h
 ·cases h
 ·rename_i z;exact ⟨z,List.mem_singleton.1 h⟩
theorem sq1_len (p:Rat):(Sq1 p).length≤1:=by unfold Sq1;split <;> simp
def Nm (g:List Tm):Prop:=∀ t∈g,t.1≠0∧∃ b:Nat,t.2=(b:Rat)∧Nrm b
theorem gth_id2:∀ (g l:List Tm),Red (l++g)→Nm g→g.foldl stp l=l++g
 | [],l,_,_=>by simp
 | t::g,l,hr,hg=>by
  obtain ⟨c0,b,e,nb⟩:=hg t List.mem_cons_self
  have ht:nrmT t=t:=by
   obtain ⟨c,q⟩:=t
   have e':q=(b:Rat):=e
   subst e'
   show (c*nC (b:Rat),((nN (b:Rat):Nat):Rat))=(c,(b:Rat))
   rw [nb.2.1,nb.2.2,Rat.mul_one]
  have hl:=(List.pairwise_append.1 hr.2).2.2
  have st:stp l t=l ++ [t]:=by
   unfold stp
   rw [if_neg (fun z=>z.elim c0 fun z=>by have:=nat_pos nb.1;rw [e] at z;grind),ht]
   refine ins_miss fun j hj r => ?_
   have hm:=tat_mem hj
   exact hl _ hm t List.mem_cons_self ((rel2_iff (hr.1 _ (List.mem_append.2 (.inl hm))) (hr.1 t (by simp))).1 r).symm
  show g.foldl stp (stp l t)=_
  rw [st,gth_id2 g (l ++ [t]) (by rw [List.append_assoc];exact hr) fun s hs=>hg s (List.mem_cons_of_mem _ hs),List.append_assoc];rfl
theorem fin_id2 {g:List Tm} (h:Nm g) (hr:Red g):T.fin g=g:=by
 have e:gth g=g:=by
  have:=gth_id2 g [] (by rw [List.nil_append];exact hr) h
  rwa [List.nil_append] at this
 unfold T.fin
 rw [e]
 refine List.filter_eq_self.2 fun t ht => ?_
 unfold nz
 exact decide_eq_true (h t ht).1
theorem rd_fl {c:Rat} {n P:Nat} (hc:0≤c.num):∃ x:Nat,rdZ c n P=x∧x*x*(c.den*c.den)≤rdN c n P∧rdN c n P<(x+1)*(x+1)*(c.den*c.den):=by
 have hd:0<c.den*c.den:=Nat.mul_pos c.den_pos c.den_pos
 obtain ⟨h1,h2⟩:=rootN_is (rdN c n P / (c.den*c.den))
 refine ⟨rdS c n P,by unfold rdZ;rw [if_pos hc],?_,?_⟩
 ·exact Nat.le_trans (Nat.mul_le_mul_right _ h1) (Nat.div_mul_le_self _ _)
 ·exact (Nat.div_lt_iff_lt_mul hd).1 h2
theorem rd_ce {c:Rat} {n P:Nat} (hc:c.num<0) (hn:0<n):∃ y:Nat,1≤y∧rdZ c n P = -(y:Int)∧(y - 1)*(y - 1)*(c.den*c.den)<rdN c n P∧rdN c n P≤y*y*(c.den*c.den):=by
 have hd:0<c.den*c.den:=Nat.mul_pos c.den_pos c.den_pos
 have N0:0<rdN c n P:=Nat.mul_pos (Nat.mul_pos (Nat.mul_pos (by omega) (by omega)) hn) (tenTo_pos _)
 obtain ⟨h1,h2⟩:=rootN_is (rdN c n P / (c.den*c.den))
 have h3:rdS c n P*rdS c n P*(c.den*c.den)≤rdN c n P:=Nat.le_trans (Nat.mul_le_mul_right _ h1) (Nat.div_mul_le_self _ _)
 have h4:rdN c n P<(rdS c n P+1)*(rdS c n P+1)*(c.den*c.den):=(Nat.div_lt_iff_lt_mul hd).1 h2
 by_cases e:rdS c n P*rdS c n P*(c.den*c.den)=rdN c n P
 ·have s0:1≤rdS c n P:=Nat.pos_of_ne_zero fun z=>by rw [z] at e;simp at e;omega
  refine ⟨rdS c n P,s0,by unfold rdZ;rw [if_neg (by omega),if_pos e],?_,by rw [e];exact Nat.le_refl _⟩
  rw [←e]
  refine Nat.mul_lt_mul_of_pos_right ?_ hd
  exact Nat.mul_lt_mul'' (by omega) (by omega)
 ·refine ⟨rdS c n P+1,by omega,by unfold rdZ;rw [if_neg (by omega),if_neg e];omega,?_,by omega⟩
  rw [Nat.add_sub_cancel]
  omega
theorem sg_single {e:Rat} {m:Nat} (h0:e≠0) (hB:Bq 60 e) (hm:0<m):sgV [(e,(m:Rat))]=(if e<0 then -1 else 1)∧sgE [(e,(m:Rat))]=0:=by
 have en:e.num≠0:=fun z=>h0 (Rat.num_eq_zero.1 z)
 have s:∀ p,sml p [(e,(m:Rat))] 1=rdZ e m p:=fun p=>by
  show 0+rdT p (e,(m:Rat))=_
  unfold rdT
  rw [natR_num,Int.zero_add]
 have l : [(e,(m:Rat))].length=1:=rfl
 by_cases neg:e<0
 ·have nn:e.num<0:=by
   have:=Rat.num_nonneg (q:=e)
   rcases Int.lt_or_le e.num 0 with k | k
   ·exact k
   ·have:=this.1 k;grind
  obtain ⟨y,y1,ey,_⟩:=rd_ce (P:=4) nn hm
  have d:dec 4 [(e,(m:Rat))] = -1:=by
   unfold dec
   rw [l,s,ey,if_neg (by omega),if_pos (by omega)]
  unfold sgV sgE
  rw [d,l,if_pos neg]
  exact ⟨rfl,rfl⟩
 ·have nn:0≤e.num:=Rat.num_nonneg.2 (by grind)
  obtain ⟨x,ex,_,x2⟩:=rd_fl (P:=64) (n:=m) nn
  obtain ⟨u,eu,_,_⟩:=rd_fl (P:=4) (n:=m) nn
  have x0:0<x:=Nat.pos_of_ne_zero fun z=>by
   rw [z] at x2
   have d2:e.den*e.den<tenTo 60*tenTo 60:=Nat.mul_lt_mul'' hB.2 hB.2
   have t1:tenTo 60*tenTo 60≤tenTo (2*64):=by rw [←tenTo_add];exact tenTo_mono (by decide)
   have n1:1*tenTo (2*64)≤e.num.natAbs*e.num.natAbs*m*tenTo (2*64):=Nat.mul_le_mul_right _ (Nat.mul_pos (Nat.mul_pos (by omega) (by omega)) hm)
   have:rdN e m 64=e.num.natAbs*e.num.natAbs*m*tenTo (2*64):=rfl
   omega
  have d64:dec 64 [(e,(m:Rat))]=1:=by
   unfold dec
   rw [l,s,ex,if_pos (by omega)]
  have d4:dec 4 [(e,(m:Rat))]=1∨dec 4 [(e,(m:Rat))]=0:=by
   unfold dec
   rw [l,s,eu]
   by_cases k:(0:Int)<u
   ·rw [if_pos k];exact .inl rfl
   ·rw [if_neg k,if_neg (by omega)];exact .inr rfl
  unfold sgV sgE
  rw [l,if_neg neg,d64]
  rcases d4 with d | d <;> rw [d] <;> exact ⟨rfl,rfl⟩
end Go.Proofs.YtjdfjgfdbgmbiaaGreatDoor.T
