/- Parts of the proof of the text YtjdfjgfdbgmbiaaGreatDoorHB39. -/
import Derived.StillTailTactics
import Derived.OneCell
import Derived.WalkKit
import Derived.Test.YtjdfjgfdbgmbiaaGreatDoorHB1
import Derived.Test.YtjdfjgfdbgmbiaaGreatDoorHB16
import Derived.Test.YtjdfjgfdbgmbiaaGreatDoorHB17
import Derived.Test.YtjdfjgfdbgmbiaaGreatDoorHB5
set_option linter.all false
set_option maxRecDepth 100000
set_option maxHeartbeats 8000000
namespace Go.Proofs.YtjdfjgfdbgmbiaaGreatDoor
open Go.RowKit
def MOK (x:Int):Prop:=x=tooL∨x.natAbs<4611686018427387904
theorem timesM_ok (a b:Int):MOK (timesM a b):=by
 unfold timesM
 split
 ·exact .inr (by assumption)
 ·exact .inl rfl
theorem still {f:FuncId} {args:Array Value} {v:Value} {w:World} (h:Calls Tryz.prog f args w fun e W'=>e = .returned v∧w=W'):Calls Tryz.prog f args w fun e W'=>e = .returned v∧W'=w:=h.mono fun _ _ h=>⟨h.1,h.2.symm⟩
def plusM (x y:Int):Int:=if x=tooL∨y=tooL then tooL else x+y
theorem mach_plusM (x y:Int) (w:World) (hx:MOK x) (hy:MOK y) :
  Calls Tryz.prog 296 #[.int .i64 x,.int .i64 y] w fun e W'=>e = .returned (.int .i64 (plusM x y))∧w=W':=by
 unfold plusM
 by_cases h1:x=tooL
 ·subst h1
  rw [if_pos (.inl rfl)]
  exact mach_plus1 y w
 ·by_cases h2:y=tooL
  ·subst h2
   rw [if_pos (.inr rfl)]
   exact mach_plus2 x w
  ·rw [if_neg (by rintro (h | h);exact h1 h;exact h2 h)]
   have h3:=hx.resolve_left h1
   have h4:=hy.resolve_left h2
   exact mach_plus x y w (by omega) (by omega) (by omega) (by omega) (by omega) (by omega)
def B18 (x:Int):Prop:=x.natAbs<1000000000000000000
theorem B18.lo {x:Int} (h:B18 x) : -9223372036854775808<x:=by unfold B18 at h;omega
theorem B18.hi {x:Int} (h:B18 x):x≤9223372036854775807:=by unfold B18 at h;omega
theorem mth_times (n:Nat) (x:Int) (W:World):(method (n+1) 61 (.int .i64 x) "kingpost/rational.times").run Tryz.prog W = .ok (297,.int .i64 x) W:=by kernel_rfl
theorem mth_plus (n:Nat) (x:Int) (W:World):(method (n+1) 61 (.int .i64 x) "kingpost/rational.plus").run Tryz.prog W = .ok (296,.int .i64 x) W:=by kernel_rfl
theorem sumM_any (a b c d:Int) (w:World) (ha:B18 a) (hb:B18 b) (hc:B18 c) (hd:B18 d) :
  Calls Tryz.prog 37 #[.agg #[.int .i64 a,.int .i64 b],.agg #[.int .i64 c,.int .i64 d]] w fun e W'=>e = .returned (.agg #[.int .i64 (plusM (timesM a d) (timesM c b)),.int .i64 (timesM b d)])∧Below w.heap.size w W':=by
 have c1:=fun W=>still (mach_times a d W ha.lo ha.hi hd.lo hd.hi)
 have c2:=fun W=>still (mach_times c b W hc.lo hc.hi hb.lo hb.hi)
 have c3:=fun W=>still (mach_times b d W hb.lo hb.hi hd.lo hd.hi)
 have c4:=fun W=>still (mach_plusM (timesM a d) (timesM c b) W (timesM_ok a d) (timesM_ok c b))
 generalize timesM a d=t1 at *
 generalize timesM c b=t2 at *
 generalize timesM b d=t3 at *
 generalize plusM t1 t2=s at *
 have C:=Lib.hid (And.intro c1 (And.intro c2 (And.intro c3 c4)))
 clear c1 c2 c3 c4 ha hb hc hd
 go_enter Tryz.func37,Tryz.ntmps37
 go_wp2
 have hbx:=boxes_new w (.int .i64 a) (.int .i64 b) (.int .i64 c) (.int .i64 d) (.int .i64 0) (.int .i64 0) 83
 generalize ((w.alloc (.cells #[.int .i64 a,.int .i64 b] 83)).alloc (.cells #[.int .i64 c,.int .i64 d] 83)).alloc (.cells #[.int .i64 0,.int .i64 0] 83)=W0 at *
 generalize hk:w.heap.size=k at *
 have HK:=Lib.hid hk;clear hk
 have HBD:=Lib.hid hbx.drew
 clear hbx
 obtain ⟨c1,c2,c3,c4,c5,c6,f5,f6,_,_⟩:=HBD.out
 have m1:=mth_times
 have m2:=mth_plus
 have en1:∀ args W,(callFunc 297 args).run Tryz.prog W = .ok (.enter 297 args) W:=enters_of Tryz.func297 (by kernel_rfl) rfl
 have en2:∀ args W,(callFunc 296 args).run Tryz.prog W = .ok (.enter 296 args) W:=enters_of Tryz.func296 (by kernel_rfl) rfl
 go_still_tail 20,(by kernel_rfl)
 still_call (C.out.1 _)
 repeat still_step
 still_call (C.out.2.1 _)
 repeat still_step
 still_call (C.out.2.2.2 _)
 repeat still_step
 still_call (C.out.2.2.1 _)
 repeat still_step
 refine wpStill_nil ?_
 change wpList _ _ _ _ _ W0.drew
 clear c1 c2 c3 c4
 generalize W0.drew=W2 at *
 obtain ⟨g5,g6⟩:=two_back c5 c6 (.int .i64 s) (.int .i64 t3)
 go_wp2
 refine bodyPost_ret (v := .agg #[.int .i64 s,.int .i64 t3]) (by simp [results,Tryz.results37,go_sem,g5,g6]) rfl ?_
 refine ⟨rfl,?_⟩
 rw [HK.out]
 exact ((HBD.out.below).setCell (p:=⟨k+1+1,0,none⟩) (by show k≤k+1+1;omega) _).setCell (p:=⟨k+1+1,1,none⟩) (by show k≤k+1+1;omega) _
theorem fitM_any (a b:Int) (w:World) :
  Calls Tryz.prog 78 #[.agg #[.int .i64 a,.int .i64 b]] w fun e W'=>e = .returned (.int .i64 (if a=tooL∨b=tooL then 4 else 0))∧Below w.heap.size w W':=by
 have c1:=fun W=>mach_err a W
 have C:=Lib.hid (And.intro c1 (fun W=>mach_err b W))
 clear c1
 by_cases ha:a=tooL
 ·rw [if_pos ha] at C
  rw [if_pos (.inl ha)]
  clear ha
  go_enter Tryz.func78,Tryz.ntmps78
  go_wp2_with fail
  refine (C.out.1 _).mono ?_
  rintro e w' ⟨rfl,rfl⟩
  go_wp2
  go_ret
  exact ⟨rfl,(Below.refl _ w).alloc (Nat.le_refl _) _⟩
 ·rw [if_neg ha] at C
  have hr:(if a=tooL∨b=tooL then (4:Int) else 0)=if b=tooL then 4 else 0:=by
   by_cases hb:b=tooL
   ·rw [if_pos (.inr hb),if_pos hb]
   ·rw [if_neg (by rintro (h | h);exact ha h;exact hb h),if_neg hb]
  rw [hr]
  clear ha hr
  generalize (if b=tooL then (4:Int) else 0)=r at *
  go_enter Tryz.func78,Tryz.ntmps78
  go_wp2_with fail
  refine (C.out.1 _).mono ?_
  rintro e w' ⟨rfl,rfl⟩
  go_wp2_with fail
  refine (C.out.2 _).mono ?_
  rintro e w' ⟨rfl,rfl⟩
  go_wp2
  go_ret
  exact ⟨rfl,(Below.refl _ w).alloc (Nat.le_refl _) _⟩
def bN (s:ByteArray):ByteArray:=⟨(cutN s.data.toList).toArray⟩
def bD (s:ByteArray):ByteArray:=⟨(cutD s.data.toList).toArray⟩
theorem bN_data (s:ByteArray):(bN s).data.toList=cutN s.data.toList:=by simp [bN]
theorem bD_data (s:ByteArray):(bD s).data.toList=cutD s.data.toList:=by simp [bD]
theorem bytes_ext {s t:ByteArray} (h:s.data.toList=t.data.toList):s=t:=by
 cases s;cases t;congr 1;exact Array.ext' h
theorem bN_size (s:ByteArray):(bN s).size≤s.size:=by rw [←size_len,bN_data,←size_len];exact cutN_le _
theorem bD_size (s:ByteArray) (h:0<s.size):(bD s).size≤s.size:=by
 rw [←size_len,bD_data,←size_len]
 rcases cut_eq s.data.toList with ⟨_,_,h2⟩ | ⟨_,h2⟩
 ·rw [h2,size_len];exact h
 ·have:=congrArg List.length h2
  simp only [List.length_append,List.length_cons] at this;omega
theorem cut_no {s:ByteArray} (h:hasS s.data.toList=false):bN s=s∧bD s=⟨#[49]⟩:=by
 rcases cut_eq s.data.toList with ⟨_,h2,h3⟩ | ⟨h2,_⟩
 ·exact ⟨bytes_ext (by rw [bN_data];exact h2.symm),bytes_ext (by rw [bD_data,h3])⟩
 ·rw [h] at h2;cases h2
theorem cutN_ns (l:List UInt8):(47:UInt8) ∉ cutN l:=by
 unfold cutN
 induction l with
 | nil=>simp
 | cons a t ih =>
  by_cases ha:a=47
  ·subst ha;rw [List.takeWhile_cons_of_neg (by decide)];simp
  ·rw [List.takeWhile_cons_of_pos (by simpa using ha),List.mem_cons,not_or]
   exact ⟨fun e=>ha e.symm,ih⟩
theorem cut_yes {s:ByteArray} (h:hasS s.data.toList=true):Lib.indexByte s.data.toList 47=((bN s).size:Int)∧s.extract 0 (bN s).size=bN s∧s.extract ((bN s).size+1) s.size=bD s∧(bN s).size+1≤s.size:=by
 rcases cut_eq s.data.toList with ⟨h2,_,_⟩ | ⟨_,h2⟩
 ·rw [h] at h2;cases h2
 ·have hns:=cutN_ns s.data.toList
  have hl:(bN s).size=(cutN s.data.toList).length:=by rw [←size_len,bN_data]
  have hlen:=congrArg List.length h2
  simp only [List.length_append,List.length_cons] at hlen
  rw [size_len] at hlen
  have hbn:=bN_data s
  have hbd:=bD_data s
  rw [hl]
  generalize cutN s.data.toList=n at *
  generalize cutD s.data.toList=d at *
  refine ⟨?_,?_,?_,by omega⟩
  ·rw [h2];exact indexByte_at (c:=47) d hns
  ·apply bytes_ext
   rw [Lib.extract_data,hbn,h2]
   simp
  ·apply bytes_ext
   rw [Lib.extract_data,hbd,List.take_of_length_le (by rw [List.length_drop,size_len];omega),h2,List.drop_append,List.drop_eq_nil_of_le (by omega)]
   simp
def bA (s:ByteArray):ByteArray:=if hasS s.data.toList then bD s else ⟨#[]⟩
theorem sCut_any (s:ByteArray) (w:World) (hs:s.size≤maxLen) :
  Calls Tryz.prog 149 #[.string s,.string ⟨#[47]⟩] w fun e W'=>e = .returned (.tuple #[.string (bN s),.string (bA s),.bool (hasS s.data.toList)])∧Below w.heap.size w W':=by
 unfold maxLen at hs
 have ci:=fun W=>Tryz.stringslite_Index_one s 47 W
 cases h:hasS s.data.toList
 ·have hn:(47:UInt8) ∉ s.data.toList:=by unfold hasS at h;simpa using h
  rw [indexByte_no hn] at ci
  obtain ⟨e1,_⟩:=cut_no h
  rw [e1,show bA s=⟨#[]⟩ by unfold bA;rw [h];rfl]
  have C:=Lib.hid ci
  clear ci hn h e1
  go_enter Tryz.func149,Tryz.ntmps149
  go_wp2_with fail
  refine (C.out _).mono ?_
  rintro e w' ⟨rfl,rfl⟩
  go_wp2
  go_ret3
  exact ⟨rfl,Below.refl _ _⟩
 ·obtain ⟨e1,e2,e3,e4⟩:=cut_yes h
  rw [e1] at ci
  rw [show bA s=bD s by unfold bA;rw [h];rfl]
  have C:=Lib.hid ci
  clear ci h e1
  generalize (bN s).size=k at *
  go_enter Tryz.func149,Tryz.ntmps149
  go_wp2_with fail
  refine (C.out _).mono ?_
  rintro e w' ⟨rfl,rfl⟩
  go_wp2
  go_quiet (fail)
  go_wp2
  go_ret3
  exact ⟨rfl,⟨rfl,rfl,rfl,Nat.le_refl _,fun _ _=>rfl⟩⟩
theorem strCut_any (s:ByteArray) (w:World) (hs:s.size≤maxLen) :
  Calls Tryz.prog 124 #[.string s,.string ⟨#[47]⟩] w fun e W'=>e = .returned (.tuple #[.string (bN s),.string (bA s),.bool (hasS s.data.toList)])∧Below w.heap.size w W':=by
 have C:=Lib.hid (fun W=>sCut_any s W hs)
 clear hs
 generalize bN s=n at *
 generalize bA s=d at *
 generalize hasS s.data.toList=b at *
 go_enter Tryz.func124,Tryz.ntmps124
 go_wp2_with fail
 refine (C.out _).mono ?_
 rintro e w' ⟨rfl,hb⟩
 have B:=Lib.hid hb;clear hb
 go_wp2
 go_ret3
 exact ⟨rfl,B.out⟩
theorem cut_any (s:ByteArray) (w:World) (hs:s.size≤maxLen) :
  Calls Tryz.prog 98 #[.string s] w fun e W'=>e = .returned (.tuple #[.string (bN s),.string (bD s),.bool (hasS s.data.toList)])∧Below w.heap.size w W':=by
 have C:=Lib.hid (fun W=>strCut_any s W hs)
 clear hs
 cases h:hasS s.data.toList
 ·obtain ⟨e1,e2⟩:=cut_no h
  rw [e1,h] at C
  rw [e1,e2]
  clear e1 e2 h
  generalize bA s=d at *
  go_enter Tryz.func98,Tryz.ntmps98
  go_wp2_with fail
  refine (C.out _).mono ?_
  rintro e w' ⟨rfl,hb⟩
  have B:=Lib.hid hb;clear hb
  go_wp2
  go_ret3
  exact ⟨rfl,B.out⟩
 ·rw [show bA s=bD s by unfold bA;rw [h];rfl,h] at C
  clear h
  generalize bN s=n at *
  generalize bD s=d at *
  go_enter Tryz.func98,Tryz.ntmps98
  go_wp2_with fail
  refine (C.out _).mono ?_
  rintro e w' ⟨rfl,hb⟩
  have B:=Lib.hid hb;clear hb
  go_wp2
  go_ret3
  exact ⟨rfl,B.out⟩
def mOK (l:List UInt8):Bool:=dOK (cutN l) && (!hasS l || (dOK (cutD l) && decide (1<valOf (cutD l)) && decide (Nat.gcd (valOf (cutN l)).natAbs (valOf (cutD l)).natAbs=1)))
theorem dOK_parts {l:List UInt8} (h:dOK l=true):chk l=0∧B18 (valOf l):=by
 unfold dOK at h
 simp only [Bool.and_eq_true,beq_iff_eq,decide_eq_true_eq] at h
 refine ⟨h.1,?_⟩
 unfold B18
 rw [valOf_abs]
 exact natOf_18 _ (chk_dig h.1) h.2
theorem mOK_chk {l:List UInt8} (h:mOK l=true):chkQ l=0∧B18 (valOf (cutN l))∧B18 (valOf (cutD l)):=by
 unfold mOK at h
 simp only [Bool.and_eq_true,Bool.or_eq_true,Bool.not_eq_true',decide_eq_true_eq] at h
 obtain ⟨h1,h2⟩:=h
 obtain ⟨k1,b1⟩:=dOK_parts h1
 cases hs:hasS l
 ·have hd:cutD l = [49]:=by unfold cutD;rw [hs];rfl
  have k2:chk (cutD l)=0:=by rw [hd];decide
  refine ⟨?_,b1,by rw [hd,valOf_one];unfold B18;decide⟩
  have hf:formQ l=true:=by unfold formQ;rw [k1,k2,hs,hd];rfl
  unfold chkQ
  rw [hf,if_neg (by decide),if_neg (by rw [k1,k2];simp),if_pos (by rw [hd,natOf_one,Nat.gcd_one_right])]
 ·rcases h2 with h2 | ⟨⟨h3,h4⟩,h5⟩
  ·rw [hs] at h2;cases h2
  ·obtain ⟨k2,b2⟩:=dOK_parts h3
   have hneg:isNeg (cutD l)=false:=by rw [isNeg_val k2];exact decide_eq_false (by omega)
   have h48:cutD l ≠ [48]:=fun e=>by rw [e] at h4;revert h4;decide
   have h49:(cutD l == [49])=false:=by rw [beq_eq_false_iff_ne];intro e;rw [e,valOf_one] at h4;omega
   refine ⟨?_,b1,b2⟩
   have hf:formQ l=true:=by unfold formQ;rw [k1,k2,hneg,h49,Bool.and_false];simp [h48]
   unfold chkQ
   rw [hf,if_neg (by decide),if_neg (by rw [k1,k2];simp),if_pos (by rw [←natOf_val hneg,Int.natAbs_natCast] at h5;exact h5)]
structure Cell2 (w:World) (k:Nat) (x0 x1:Value) (W:World):Prop where
 c0:W.cell? ⟨k,0,none⟩=some x0
 c1:W.cell? ⟨k,1,none⟩=some x1
 f0:W.frozen? ⟨k,0,none⟩=false
 f1:W.frozen? ⟨k,1,none⟩=false
 size:k<W.heap.size
 lo:w.heap.size≤k
 below:Below w.heap.size w W
theorem Cell2.new (w:World) (x0 x1:Value) (t:TypeId):Cell2 w w.heap.size x0 x1 (w.alloc (.cells #[x0,x1] t)) :=
 ⟨by go_cell,by go_cell,by simp [go_sem],by simp [go_sem],by simp,Nat.le_refl _,(Below.refl _ w).alloc (Nat.le_refl _) _⟩
theorem Cell2.next {w:World} {k:Nat} {x0 x1:Value} {W W':World} (h:Cell2 w k x0 x1 W) (b:Below W.heap.size W W'):Cell2 w k x0 x1 W' :=
 ⟨(b.cell (p:=⟨k,0,none⟩) h.size).trans h.c0,(b.cell (p:=⟨k,1,none⟩) h.size).trans h.c1,(b.frozen (p:=⟨k,0,none⟩) h.size).trans h.f0,(b.frozen (p:=⟨k,1,none⟩) h.size).trans h.f1,
  Nat.lt_of_lt_of_le h.size b.size,h.lo,h.below.trans (b.mono h.below.size)⟩
theorem Cell2.put {w:World} {k:Nat} {x0 x1:Value} {W:World} (h:Cell2 w k x0 x1 W) (u v:Value):Below w.heap.size w ((W.setCell ⟨k,0,none⟩ u).setCell ⟨k,1,none⟩ v) :=
 (h.below.setCell (p:=⟨k,0,none⟩) h.lo _).setCell (p:=⟨k,1,none⟩) h.lo _
theorem TabQ_next {w W:World} (h:Tab64 w) (b:Below w.heap.size w W):Tab64 W:=fun j hj=>by
 have h1:=h j hj
 have hl:=World.block_lt_of_cell? w _ h1
 exact (b.cell (p:=⟨1,j,none⟩) hl).trans h1
theorem readMachine_bad (s:ByteArray) (w:World) (hs:s.size≤maxLen) (h:dOK (cutN s.data.toList)=false) :
  Calls Tryz.prog 97 #[.string s] w fun e W'=>(∃ x y,e = .returned (.tuple #[.agg #[.int .i64 x,.int .i64 y],.bool false]))∧Below w.heap.size w W':=by
 have cc:=fun W=>cut_any s W hs
 have r1:=fun W=>readDigits_any (bN s) W (Nat.le_trans (bN_size s) hs)
 rw [bN_data] at r1
 rw [h] at r1
 have C:=Lib.hid (And.intro cc (And.intro r1 trivial))
 clear cc r1 h hs
 generalize bN s=n at *
 generalize bD s=d at *
 generalize hasS s.data.toList=f at *
 generalize dVal (cutN s.data.toList)=x at *
 go_enter Tryz.func97,Tryz.ntmps97
 go_wp2_with fail
 have hb:=Cell2.new w (.int .i64 0) (.int .i64 0) 83
 generalize w.alloc (.cells #[.int .i64 0,.int .i64 0] 83)=W0 at *
 generalize hk:w.heap.size=k at *
 have HK:=Lib.hid hk;clear hk
 have HB:=Lib.hid hb;clear hb
 refine (C.out.1 _).mono ?_
 rintro e w1 ⟨rfl,b⟩
 have HB1:=Lib.hid (HB.out.next b);clear b HB
 go_wp2_with fail
 refine (C.out.2.1 _).mono ?_
 rintro e w' ⟨rfl,rfl⟩
 obtain ⟨c0,c1,f0,f1,_,_,_⟩:=HB1.out
 obtain ⟨g0,g1⟩:=two_back c0 c1 (.int .i64 0) (.int .i64 0)
 go_wp2
 refine bodyPost_ret (v := .tuple #[.agg #[.int .i64 0,.int .i64 0],.bool false]) (by simp [results,Tryz.results97,go_sem,g0,g1]) rfl ?_
 exact ⟨⟨_,_,rfl⟩,by rw [HK.out];have:=HB1.out.put (.int .i64 0) (.int .i64 0);rwa [HK.out] at this⟩
theorem readMachine_int (s:ByteArray) (w:World) (hs:s.size≤maxLen) (h:dOK (cutN s.data.toList)=true) (hf:hasS s.data.toList=false) :
  Calls Tryz.prog 97 #[.string s] w fun e W'=>e = .returned (.tuple #[.agg #[.int .i64 (valOf (cutN s.data.toList)),.int .i64 1],.bool true])∧Below w.heap.size w W':=by
 have cc:=fun W=>cut_any s W hs
 have r1:=fun W=>readDigits_any (bN s) W (Nat.le_trans (bN_size s) hs)
 rw [bN_data] at r1
 rw [h,dVal_ok h] at r1
 rw [hf] at cc
 have C:=Lib.hid (And.intro cc (And.intro r1 trivial))
 clear cc r1 h hs hf
 generalize bN s=n at *
 generalize bD s=d at *
 generalize valOf (cutN s.data.toList)=x at *
 go_enter Tryz.func97,Tryz.ntmps97
 go_wp2_with fail
 have hb:=Cell2.new w (.int .i64 0) (.int .i64 0) 83
 generalize w.alloc (.cells #[.int .i64 0,.int .i64 0] 83)=W0 at *
 generalize hk:w.heap.size=k at *
 have HK:=Lib.hid hk;clear hk
 have HB:=Lib.hid hb;clear hb
 refine (C.out.1 _).mono ?_
 rintro e w1 ⟨rfl,b⟩
 have HB1:=Lib.hid (HB.out.next b);clear b HB
 go_wp2_with fail
 refine (C.out.2.1 _).mono ?_
 rintro e w' ⟨rfl,rfl⟩
 obtain ⟨c0,c1,f0,f1,_,_,_⟩:=HB1.out
 obtain ⟨g0,g1⟩:=two_back c0 c1 (.int .i64 x) (.int .i64 1)
 go_wp2
 refine bodyPost_ret (v := .tuple #[.agg #[.int .i64 x,.int .i64 1],.bool true]) (by simp [results,Tryz.results97,go_sem,g0,g1]) rfl ?_
 exact ⟨rfl,by rw [HK.out];have:=HB1.out.put (.int .i64 x) (.int .i64 1);rwa [HK.out] at this⟩
theorem readMachine_frac (s:ByteArray) (w:World) (hs:s.size≤maxLen) (h:dOK (cutN s.data.toList)=true) (hf:hasS s.data.toList=true) (hd:dOK (cutD s.data.toList)=true) (h1:1<valOf (cutD s.data.toList)) (ht:Tab64 w) :
  Calls Tryz.prog 97 #[.string s] w fun e W'=>e = .returned (.tuple #[.agg #[.int .i64 (valOf (cutN s.data.toList)),.int .i64 (valOf (cutD s.data.toList))],.bool (Nat.gcd (valOf (cutN s.data.toList)).natAbs (valOf (cutD s.data.toList)).natAbs==1)])∧Below w.heap.size w W':=by
 have cc:=fun W=>cut_any s W hs
 have r1:=fun W=>readDigits_any (bN s) W (Nat.le_trans (bN_size s) hs)
 rw [bN_data] at r1
 have hsz:0<s.size:=by
  rcases Nat.eq_zero_or_pos s.size with h0 | h0
  ·rw [data_nil h0] at hf;cases hf
  ·exact h0
 have r2:=fun W=>readDigits_any (bD s) W (Nat.le_trans (bD_size s hsz) hs)
 rw [bD_data,hd,dVal_ok hd] at r2
 rw [h,dVal_ok h] at r1
 rw [hf] at cc
 have hx:=(dOK_parts h).2
 have hy:=(dOK_parts hd).2
 have cg:=fun W (hW:Below w.heap.size w W)=>mach_divisor (valOf (cutN s.data.toList)) (valOf (cutD s.data.toList)) W hx.lo hx.hi hy.lo hy.hi (TabQ_next ht hW)
 have C:=Lib.hid (And.intro cc (And.intro r1 (And.intro r2 cg)))
 clear cc r1 r2 cg h hs hf hd hx hy ht hsz
 generalize bN s=n at *
 generalize bD s=d at *
 generalize valOf (cutN s.data.toList)=x at *
 generalize valOf (cutD s.data.toList)=y at *
 generalize Nat.gcd x.natAbs y.natAbs=g at *
 go_enter Tryz.func97,Tryz.ntmps97
 go_wp2_with fail
 have hb:=Cell2.new w (.int .i64 0) (.int .i64 0) 83
 generalize w.alloc (.cells #[.int .i64 0,.int .i64 0] 83)=W0 at *
 generalize hk:w.heap.size=k at *
 have HK:=Lib.hid hk;clear hk
 have HB:=Lib.hid hb;clear hb
 refine (C.out.1 _).mono ?_
 rintro e w1 ⟨rfl,b⟩
 have HB1:=Lib.hid (HB.out.next b);clear b HB
 go_wp2_with fail
 refine (C.out.2.1 _).mono ?_
 rintro e w' ⟨rfl,rfl⟩
 go_wp2_with fail
 refine (C.out.2.2.1 _).mono ?_
 rintro e w' ⟨rfl,rfl⟩
 go_wp2_with fail
 refine (C.out.2.2.2 _ (by have:=HB1.out.below;rwa [HK.out] at this)).mono ?_
 rintro e w' ⟨rfl,rfl⟩
 have hgd:((g:Int)==1)=(g==1):=by
  by_cases hg:g=1
  ·subst hg;rfl
  ·rw [show (g==1)=false by simpa using hg,beq_eq_false_iff_ne];omega
 obtain ⟨c0,c1,f0,f1,_,_,_⟩:=HB1.out
 obtain ⟨g0,g1⟩:=two_back c0 c1 (.int .i64 x) (.int .i64 y)
 go_wp2
 refine bodyPost_ret (v := .tuple #[.agg #[.int .i64 x,.int .i64 y],.bool (g==1)]) (by simp [results,Tryz.results97,go_sem,g0,g1]) rfl ?_
 exact ⟨rfl,by rw [HK.out];have:=HB1.out.put (.int .i64 x) (.int .i64 y);rwa [HK.out] at this⟩
theorem readMachine_nod (s:ByteArray) (w:World) (hs:s.size≤maxLen) (h:dOK (cutN s.data.toList)=true) (hf:hasS s.data.toList=true) (hd:¬ (dOK (cutD s.data.toList)=true∧1<valOf (cutD s.data.toList))) :
  Calls Tryz.prog 97 #[.string s] w fun e W'=>(∃ x y,e = .returned (.tuple #[.agg #[.int .i64 x,.int .i64 y],.bool false]))∧Below w.heap.size w W':=by
 have cc:=fun W=>cut_any s W hs
 have r1:=fun W=>readDigits_any (bN s) W (Nat.le_trans (bN_size s) hs)
 rw [bN_data] at r1
 have hsz:0<s.size:=by
  rcases Nat.eq_zero_or_pos s.size with h0 | h0
  ·rw [data_nil h0] at hf;cases hf
  ·exact h0
 have r2:=fun W=>readDigits_any (bD s) W (Nat.le_trans (bD_size s hsz) hs)
 rw [bD_data] at r2
 rw [h,dVal_ok h] at r1
 rw [hf] at cc
 have hq:dOK (cutD s.data.toList)=false∨(dOK (cutD s.data.toList)=true∧¬ (1:Int)<dVal (cutD s.data.toList)):=by
  cases hc:dOK (cutD s.data.toList)
  ·exact .inl rfl
  ·refine .inr ⟨rfl,fun q=>hd ⟨hc,?_⟩⟩
   rwa [dVal_ok hc] at q
 have C:=Lib.hid (And.intro cc (And.intro r1 (And.intro r2 trivial)))
 clear cc r1 r2 h hs hf hd hsz
 generalize bN s=n at *
 generalize bD s=d at *
 generalize valOf (cutN s.data.toList)=x at *
 generalize dVal (cutD s.data.toList)=y at *
 generalize dOK (cutD s.data.toList)=o at *
 rcases hq with rfl | ⟨rfl,hy⟩
 ·go_enter Tryz.func97,Tryz.ntmps97
  go_wp2_with fail
  have hb:=Cell2.new w (.int .i64 0) (.int .i64 0) 83
  generalize w.alloc (.cells #[.int .i64 0,.int .i64 0] 83)=W0 at *
  generalize hk:w.heap.size=k at *
  have HK:=Lib.hid hk;clear hk
  have HB:=Lib.hid hb;clear hb
  refine (C.out.1 _).mono ?_
  rintro e w1 ⟨rfl,b⟩
  have HB1:=Lib.hid (HB.out.next b);clear b HB
  go_wp2_with fail
  refine (C.out.2.1 _).mono ?_
  rintro e w' ⟨rfl,rfl⟩
  go_wp2_with fail
  refine (C.out.2.2.1 _).mono ?_
  rintro e w' ⟨rfl,rfl⟩
  obtain ⟨c0,c1,f0,f1,_,_,_⟩:=HB1.out
  obtain ⟨g0,g1⟩:=two_back c0 c1 (.int .i64 x) (.int .i64 y)
  go_wp2
  refine bodyPost_ret (v := .tuple #[.agg #[.int .i64 x,.int .i64 y],.bool false]) (by simp [results,Tryz.results97,go_sem,g0,g1]) rfl ?_
  exact ⟨⟨_,_,rfl⟩,by rw [HK.out];have:=HB1.out.put (.int .i64 x) (.int .i64 y);rwa [HK.out] at this⟩
 ·go_enter Tryz.func97,Tryz.ntmps97
  go_wp2_with fail
  have hb:=Cell2.new w (.int .i64 0) (.int .i64 0) 83
  generalize w.alloc (.cells #[.int .i64 0,.int .i64 0] 83)=W0 at *
  generalize hk:w.heap.size=k at *
  have HK:=Lib.hid hk;clear hk
  have HB:=Lib.hid hb;clear hb
  refine (C.out.1 _).mono ?_
  rintro e w1 ⟨rfl,b⟩
  have HB1:=Lib.hid (HB.out.next b);clear b HB
  go_wp2_with fail
  refine (C.out.2.1 _).mono ?_
  rintro e w' ⟨rfl,rfl⟩
  go_wp2_with fail
  refine (C.out.2.2.1 _).mono ?_
  rintro e w' ⟨rfl,rfl⟩
  obtain ⟨c0,c1,f0,f1,_,_,_⟩:=HB1.out
  obtain ⟨g0,g1⟩:=two_back c0 c1 (.int .i64 x) (.int .i64 y)
  go_wp2
  refine bodyPost_ret (v := .tuple #[.agg #[.int .i64 x,.int .i64 y],.bool false]) (by simp [results,Tryz.results97,go_sem,g0,g1]) rfl ?_
  exact ⟨⟨_,_,rfl⟩,by rw [HK.out];have:=HB1.out.put (.int .i64 x) (.int .i64 y);rwa [HK.out] at this⟩
theorem readMachine_ok (s:ByteArray) (w:World) (hs:s.size≤maxLen) (h:mOK s.data.toList=true) (ht:Tab64 w) :
  Calls Tryz.prog 97 #[.string s] w fun e W'=>e = .returned (.tuple #[.agg #[.int .i64 (valOf (cutN s.data.toList)),.int .i64 (valOf (cutD s.data.toList))],.bool true])∧Below w.heap.size w W':=by
 have h':=h
 unfold mOK at h'
 simp only [Bool.and_eq_true,Bool.or_eq_true,Bool.not_eq_true',decide_eq_true_eq] at h'
 obtain ⟨h1,h2⟩:=h'
 cases hf:hasS s.data.toList
 ·have c:=readMachine_int s w hs h1 hf
  have hd:cutD s.data.toList = [49]:=by unfold cutD;rw [hf];rfl
  rw [hd,valOf_one];exact c
 ·rcases h2 with h2 | ⟨⟨h3,h4⟩,h5⟩
  ·rw [hf] at h2;cases h2
  ·have c:=readMachine_frac s w hs h1 hf h3 h4 ht
   rwa [show (Nat.gcd (valOf (cutN s.data.toList)).natAbs (valOf (cutD s.data.toList)).natAbs==1)=true by simpa using h5] at c
theorem readMachine_no (s:ByteArray) (w:World) (hs:s.size≤maxLen) (h:mOK s.data.toList=false) (ht:Tab64 w) :
  Calls Tryz.prog 97 #[.string s] w fun e W'=>(∃ x y,e = .returned (.tuple #[.agg #[.int .i64 x,.int .i64 y],.bool false]))∧Below w.heap.size w W':=by
 cases h1:dOK (cutN s.data.toList)
 ·exact readMachine_bad s w hs h1
 ·cases hf:hasS s.data.toList
  ·exfalso;unfold mOK at h;rw [h1,hf] at h;cases h
  ·by_cases hd:dOK (cutD s.data.toList)=true∧1<valOf (cutD s.data.toList)
   ·have c:=readMachine_frac s w hs h1 hf hd.1 hd.2 ht
    have hg:(Nat.gcd (valOf (cutN s.data.toList)).natAbs (valOf (cutD s.data.toList)).natAbs==1)=false:=by
     unfold mOK at h
     rw [h1,hf,hd.1,decide_eq_true hd.2] at h
     simpa using h
    rw [hg] at c
    exact c.mono fun e W' ⟨he,hb⟩=>⟨⟨_,_,he⟩,hb⟩
   ·exact readMachine_nod s w hs h1 hf hd
structure Bxs (w:World) (k:Nat) (L:List (List Value)) (W:World):Prop where
 cells:∀ i xs,L[i]? = some xs→∀ j v,xs[j]? = some v→W.cell? ⟨k+i,j,none⟩=some v
 frozen:∀ i,i<L.length→∀ j,W.frozen? ⟨k+i,j,none⟩=false
 size:k+L.length≤W.heap.size
 lo:w.heap.size≤k
 below:Below w.heap.size w W
theorem Bxs.next {w:World} {k:Nat} {L:List (List Value)} {W W':World} (h:Bxs w k L W) (b:Below W.heap.size W W'):Bxs w k L W' :=
 ⟨fun i xs hi j v hj=>(b.cell (p:=⟨k+i,j,none⟩) (by have:=(List.getElem?_eq_some_iff.1 hi).1;have:=h.size;show k+i<_;omega)).trans (h.cells i xs hi j v hj),
  fun i hi j=>(b.frozen (p:=⟨k+i,j,none⟩) (by have:=h.size;show k+i<_;omega)).trans (h.frozen i hi j),Nat.le_trans h.size b.size,h.lo,h.below.trans (b.mono h.below.size)⟩
theorem Bxs.push {w:World} {k:Nat} {L:List (List Value)} {W:World} (h:Bxs w k L W) (hs:W.heap.size=k+L.length) (xs:List Value) (t:TypeId):Bxs w k (L ++ [xs]) (W.alloc (.cells xs.toArray t)):=by
 have hb:Below W.heap.size W (W.alloc (.cells xs.toArray t)):=(Below.refl _ W).alloc (Nat.le_refl _) _
 have h2:=h.next hb
 have hnew:(W.alloc (.cells xs.toArray t)).heap[k+L.length]? = some (.cells xs.toArray t (0,0)):=by rw [←hs];exact heap_alloc_new W _
 refine ⟨fun i ys hi j v hj => ?_,fun i hi j => ?_,by simp;omega,h2.lo,h2.below⟩
 ·by_cases hl:i<L.length
  ·rw [List.getElem?_append_left hl] at hi
   exact h2.cells i ys hi j v hj
  ·rw [List.getElem?_append_right (by omega)] at hi
   have hi0:i=L.length:=by
    have:=(List.getElem?_eq_some_iff.1 hi).1
    simp at this;omega
   subst hi0
   rw [Nat.sub_self] at hi
   have:xs=ys:=Option.some.inj hi
   subst this
   rw [cell_of_row _ _ j _ _ _ hnew]
   simpa using hj
 ·by_cases hl:i<L.length
  ·exact h2.frozen i hl j
  ·rw [List.length_append,List.length_singleton] at hi
   have hi0:i=L.length:=by omega
   subst hi0
   exact frozen_no hnew
theorem Bxs.nil (w W:World) (b:Below w.heap.size w W):Bxs w W.heap.size [] W :=
 ⟨fun i xs hi=>by simp at hi,fun i hi=>by simp at hi,by simp,b.size,b⟩
end Go.Proofs.YtjdfjgfdbgmbiaaGreatDoor
namespace Go.Proofs.YtjdfjgfdbgmbiaaGreatDoor
open Go Go.RowKit
def Blk (W:World) (k:Nat) (vs:Array Value):Prop:=∃ t,W.heap[k]? = some (.cells vs t (0,0))
theorem Blk.lt {W:World} {k:Nat} {vs:Array Value} (h:Blk W k vs):k<W.heap.size:=by
 obtain ⟨t,h⟩:=h;exact lt_of_block h
theorem Blk.cell {W:World} {k:Nat} {vs:Array Value} (h:Blk W k vs) (j:Nat) (v:Value) (hj:vs[j]? = some v):W.cell? ⟨k,j,none⟩=some v:=by
 obtain ⟨t,h⟩:=h;unfold World.cell?; simp only [h];simpa using hj
theorem Blk.free {W:World} {k:Nat} {vs:Array Value} (h:Blk W k vs) (j:Nat):W.frozen? ⟨k,j,none⟩=false:=by
 obtain ⟨t,h⟩:=h;unfold World.frozen?; simp only [h];simp
theorem Blk.new (W:World) (vs:Array Value) (t:TypeId):Blk (W.alloc (.cells vs t)) W.heap.size vs:=⟨t,heap_alloc_new W _⟩
theorem Blk.alloc {W:World} {k:Nat} {vs:Array Value} (h:Blk W k vs) (o:Obj):Blk (W.alloc o) k vs:=by
 obtain ⟨t,e⟩:=h;exact ⟨t,by rw [Below.heap_alloc _ _ _ (lt_of_block e)];exact e⟩
theorem Blk.next {W W':World} {k:Nat} {vs:Array Value} (h:Blk W k vs) (b:Below W.heap.size W W'):Blk W' k vs:=by
 obtain ⟨t,e⟩:=h;exact ⟨t,by rw [b.block k (lt_of_block e)];exact e⟩
theorem Blk.drew {W:World} {k:Nat} {vs:Array Value} (h:Blk W k vs):Blk W.drew k vs:=h
theorem Blk.other {W:World} {k:Nat} {vs:Array Value} (h:Blk W k vs) {p:Addr} (hp:k≠p.block) (u:Value):Blk (W.setCell p u) k vs:=by
 obtain ⟨t,e⟩:=h;exact ⟨t,by rw [Below.heap_setCell _ _ _ _ hp];exact e⟩
theorem Blk.set {W:World} {k:Nat} {vs:Array Value} (h:Blk W k vs) (j:Nat) (u:Value):Blk (W.setCell ⟨k,j,none⟩ u) k (vs.setIfInBounds j u):=by
 obtain ⟨t,h⟩:=h
 refine ⟨t,?_⟩
 have hlt:=lt_of_block h
 have h':W.heap[k] = .cells vs t (0,0):=by simpa [Array.getElem?_eq_getElem hlt] using h
 show (W.heap.modify k _)[k]? = _
 rw [Array.getElem?_eq_getElem (by simpa using hlt),Array.getElem_modify_self,h']
 rfl
theorem Blk.put1 {W:World} {k:Nat} {a:Value} (h:Blk W k #[a]) (x:Value):Blk (W.setCell ⟨k,0,none⟩ x) k #[x]:=h.set 0 x
theorem Blk.put2 {W:World} {k:Nat} {a b:Value} (h:Blk W k #[a,b]) (x y:Value):Blk ((W.setCell ⟨k,0,none⟩ x).setCell ⟨k,1,none⟩ y) k #[x,y]:=(h.set 0 x).set 1 y
theorem Blk.put4 {W:World} {k:Nat} {a b c d:Value} (h:Blk W k #[a,b,c,d]) (x y z u:Value):Blk ((((W.setCell ⟨k,0,none⟩ x).setCell ⟨k,1,none⟩ y).setCell ⟨k,2,none⟩ z).setCell ⟨k,3,none⟩ u) k #[x,y,z,u]:=(((h.set 0 x).set 1 y).set 2 z).set 3 u
theorem Blk.other2 {W:World} {k l:Nat} {vs:Array Value} (h:Blk W k vs) (hp:k≠l) (x y:Value):Blk ((W.setCell ⟨l,0,none⟩ x).setCell ⟨l,1,none⟩ y) k vs:=(h.other hp x).other hp y
theorem below_put2 {B:Nat} {a W:World} (h:Below B a W) {l:Nat} (hl:B≤l) (x y:Value):Below B a ((W.setCell ⟨l,0,none⟩ x).setCell ⟨l,1,none⟩ y):=(h.setCell (p:=⟨l,0,none⟩) hl x).setCell (p:=⟨l,1,none⟩) hl y
theorem below_put4 {B:Nat} {a W:World} (h:Below B a W) {l:Nat} (hl:B≤l) (x y z u:Value):Below B a ((((W.setCell ⟨l,0,none⟩ x).setCell ⟨l,1,none⟩ y).setCell ⟨l,2,none⟩ z).setCell ⟨l,3,none⟩ u):=(((h.setCell (p:=⟨l,0,none⟩) hl x).setCell (p:=⟨l,1,none⟩) hl y).setCell (p:=⟨l,2,none⟩) hl z).setCell (p:=⟨l,3,none⟩) hl u
structure BB (w:World) (k:Nat) (vs:Array Value) (W:World):Prop where
 blk:Blk W k vs
 lo:w.heap.size≤k
 below:Below w.heap.size w W
theorem BB.new (w:World) (vs:Array Value) (t:TypeId):BB w w.heap.size vs (w.alloc (.cells vs t)):=⟨Blk.new w vs t,Nat.le_refl _,(Below.refl _ w).alloc (Nat.le_refl _) _⟩
theorem BB.next {w:World} {k:Nat} {vs:Array Value} {W W':World} (h:BB w k vs W) (b:Below W.heap.size W W'):BB w k vs W':=⟨h.blk.next b,h.lo,h.below.trans (b.mono h.below.size)⟩
theorem BB.put2 {w:World} {k:Nat} {a b:Value} {W:World} (h:BB w k #[a,b] W) (x y:Value):BB w k #[x,y] ((W.setCell ⟨k,0,none⟩ x).setCell ⟨k,1,none⟩ y):=⟨h.blk.put2 x y,h.lo,below_put2 h.below h.lo x y⟩
theorem BB.put4 {w:World} {k:Nat} {a b c d:Value} {W:World} (h:BB w k #[a,b,c,d] W) (x y z u:Value):BB w k #[x,y,z,u] ((((W.setCell ⟨k,0,none⟩ x).setCell ⟨k,1,none⟩ y).setCell ⟨k,2,none⟩ z).setCell ⟨k,3,none⟩ u):=⟨h.blk.put4 x y z u,h.lo,below_put4 h.below h.lo x y z u⟩
end Go.Proofs.YtjdfjgfdbgmbiaaGreatDoor
namespace Go.Proofs.YtjdfjgfdbgmbiaaGreatDoor.T
open Go.Proofs.YtjdfjgfdbgmbiaaGreatDoor Go.RowKit Go.Lib
theorem prefix_neg (l:List UInt8):Lib.hasPrefix l [45]=isNeg l:=by
 unfold Lib.hasPrefix isNeg
 cases l with
 | nil=>rfl
 | cons a t=>simp [List.isPrefixOf];exact BEq.comm
theorem trim_neg (l:List UInt8):Lib.trimPrefix l [45]=szL l:=by
 unfold Lib.trimPrefix szL
 rw [prefix_neg]
 cases isNeg l <;> simp
def szB (s:ByteArray):ByteArray:=⟨(szL s.data.toList).toArray⟩
theorem szB_str (z:Int):szB (strB z)=strB (z.natAbs:Nat):=by
 apply bytes_ext
 unfold szB
 rw [strB_data,strB_data]
 show szL (itoa z)=itoa _
 rw [szL_itoa,Lib.itoa_nonneg]
theorem twoB {w:World} {b:Nat} {x0 x1:Value} (c0:w.cell? ⟨b,0,none⟩=some x0) (c1:w.cell? ⟨b,1,none⟩=some x1) (X Y:Value) :
  ((w.setCell ⟨b,0,none⟩ X).setCell ⟨b,1,none⟩ Y).cell? ⟨b,0,none⟩=some X∧((w.setCell ⟨b,0,none⟩ X).setCell ⟨b,1,none⟩ Y).cell? ⟨b,1,none⟩=some Y:=by
 refine ⟨by go_cell,by go_cell⟩
theorem oneg_any (s:ByteArray) (w:World) :
  Calls Tryz.prog 218 #[.string s] w fun e W'=>e = .returned (.bool (isNeg s.data.toList))∧Below w.heap.size w W':=by
 have c:=fun W=>Tryz.strings_HasPrefix s ⟨#[45]⟩ W
 rw [show (⟨#[45]⟩:ByteArray).data.toList = [45] from rfl,prefix_neg] at c
 have C:=Lib.hid c;clear c
 generalize isNeg s.data.toList=b at *
 go_enter Tryz.func218,Tryz.ntmps218
 go_wp2_with fail
 refine (C.out _).mono ?_
 rintro e w' ⟨rfl,rfl⟩
 go_wp2
 go_ret
 exact ⟨rfl,Below.refl _ _⟩
theorem oparts_any (s:ByteArray) (w:World) (hs:s.size≤maxLen) :
  Calls Tryz.prog 174 #[.string s] w fun e W'=>e = .returned (.agg #[.string (bN s),.string (bD s)])∧Below w.heap.size w W':=by
 have C:=Lib.hid (fun W=>strCut_any s W hs)
 clear hs
 cases h:hasS s.data.toList
 ·obtain ⟨e1,e2⟩:=cut_no h
  rw [e1,h] at C
  rw [e1,e2]
  clear e1 e2 h
  generalize bA s=d at *
  go_enter Tryz.func174,Tryz.ntmps174
  go_wp2_with fail
  have hbx:Bxs w w.heap.size [[.string ⟨#[]⟩,.string ⟨#[]⟩]] (w.alloc (.cells #[.string ⟨#[]⟩,.string ⟨#[]⟩] 219)):=((Bxs.nil w w (Below.refl _ _)).push rfl [.string ⟨#[]⟩,.string ⟨#[]⟩] 219)
  generalize (w.alloc (.cells #[.string ⟨#[]⟩,.string ⟨#[]⟩] 219))=W0 at *
  generalize hk:w.heap.size=k at *
  have HK:=Lib.hid hk;clear hk
  have HB:=Lib.hid hbx
  clear hbx
  have e00:=(show World.cell? _ ⟨k,0,none⟩=some (.string ⟨#[]⟩) from HB.out.cells 0 _ rfl 0 _ rfl)
  have f00:=(show World.frozen? _ ⟨k,0,none⟩=false from HB.out.frozen 0 (by simp) 0)
  have e01:=(show World.cell? _ ⟨k,1,none⟩=some (.string ⟨#[]⟩) from HB.out.cells 0 _ rfl 1 _ rfl)
  have f01:=(show World.frozen? _ ⟨k,1,none⟩=false from HB.out.frozen 0 (by simp) 1)
  refine (C.out _).mono ?_
  rintro e w' ⟨rfl,b⟩
  have HN:=Lib.hid (HB.out.next b);clear HB b;have HB:=HN;clear HN;have e00:=(show World.cell? _ ⟨k,0,none⟩=some (.string ⟨#[]⟩) from HB.out.cells 0 _ rfl 0 _ rfl);have f00:=(show World.frozen? _ ⟨k,0,none⟩=false from HB.out.frozen 0 (by simp) 0);have e01:=(show World.cell? _ ⟨k,1,none⟩=some (.string ⟨#[]⟩) from HB.out.cells 0 _ rfl 1 _ rfl);have f01:=(show World.frozen? _ ⟨k,1,none⟩=false from HB.out.frozen 0 (by simp) 1)
  obtain ⟨g0,g1⟩:=twoB e00 e01 (.string s) (.string ⟨#[49]⟩)
  go_wp2
  refine bodyPost_ret (v := .agg #[.string s,.string ⟨#[49]⟩]) (by simp [results,Tryz.results174,go_sem,g0,g1]) rfl ?_
  refine ⟨rfl,?_⟩
  have hbl:=HB.out.below
  rw [HK.out] at hbl ⊢
  exact below_put2 hbl (by omega) _ _
 ·rw [show bA s=bD s by unfold bA;rw [h];rfl,h] at C
  clear h
  generalize bN s=n at *
  generalize bD s=d at *
  go_enter Tryz.func174,Tryz.ntmps174
  go_wp2_with fail
  have hbx:Bxs w w.heap.size [[.string ⟨#[]⟩,.string ⟨#[]⟩]] (w.alloc (.cells #[.string ⟨#[]⟩,.string ⟨#[]⟩] 219)):=((Bxs.nil w w (Below.refl _ _)).push rfl [.string ⟨#[]⟩,.string ⟨#[]⟩] 219)
  generalize (w.alloc (.cells #[.string ⟨#[]⟩,.string ⟨#[]⟩] 219))=W0 at *
  generalize hk:w.heap.size=k at *
  have HK:=Lib.hid hk;clear hk
  have HB:=Lib.hid hbx
  clear hbx
  have e00:=(show World.cell? _ ⟨k,0,none⟩=some (.string ⟨#[]⟩) from HB.out.cells 0 _ rfl 0 _ rfl)
  have f00:=(show World.frozen? _ ⟨k,0,none⟩=false from HB.out.frozen 0 (by simp) 0)
  have e01:=(show World.cell? _ ⟨k,1,none⟩=some (.string ⟨#[]⟩) from HB.out.cells 0 _ rfl 1 _ rfl)
  have f01:=(show World.frozen? _ ⟨k,1,none⟩=false from HB.out.frozen 0 (by simp) 1)
  refine (C.out _).mono ?_
  rintro e w' ⟨rfl,b⟩
  have HN:=Lib.hid (HB.out.next b);clear HB b;have HB:=HN;clear HN;have e00:=(show World.cell? _ ⟨k,0,none⟩=some (.string ⟨#[]⟩) from HB.out.cells 0 _ rfl 0 _ rfl);have f00:=(show World.frozen? _ ⟨k,0,none⟩=false from HB.out.frozen 0 (by simp) 0);have e01:=(show World.cell? _ ⟨k,1,none⟩=some (.string ⟨#[]⟩) from HB.out.cells 0 _ rfl 1 _ rfl);have f01:=(show World.frozen? _ ⟨k,1,none⟩=false from HB.out.frozen 0 (by simp) 1)
  obtain ⟨g0,g1⟩:=twoB e00 e01 (.string n) (.string d)
  go_wp2
  refine bodyPost_ret (v := .agg #[.string n,.string d]) (by simp [results,Tryz.results174,go_sem,g0,g1]) rfl ?_
  refine ⟨rfl,?_⟩
  have hbl:=HB.out.below
  rw [HK.out] at hbl ⊢
  exact below_put2 hbl (by omega) _ _
theorem number_core1 (a:ByteArray) (w:World) :
  Calls Tryz.prog 221 #[.agg #[.string a,.string ⟨#[49]⟩]] w fun e W'=>e = .returned (.string a)∧Below w.heap.size w W':=by
 go_enter Tryz.func221,Tryz.ntmps221
 go_wp2
 go_ret
 exact ⟨rfl,by go_grown⟩
theorem number_core (a b:ByteArray) (w:World) (hb:(b.toList == [49])=false) (h1:a.size≤301) (h2:b.size≤301) :
  Calls Tryz.prog 221 #[.agg #[.string a,.string b]] w fun e W'=>e = .returned (.string (a++⟨#[47]⟩++b))∧Below w.heap.size w W':=by
 go_enter Tryz.func221,Tryz.ntmps221
 go_wp2
 go_ret
 exact ⟨rfl,by go_grown⟩
theorem slash_str3 (a b:Int):(⟨(Lib.itoa a++47::Lib.itoa b).toArray⟩:ByteArray)=strB a++⟨#[47]⟩++strB b:=by
 apply bytes_ext
 rw [ByteArray.data_append,ByteArray.data_append]
 simp [strB_data]
theorem str_is1 (d:Int):((strB d).toList == [49])=decide (d=1):=by
 rw [ByteArray.toList_eq,strB_data]
 by_cases h:d=1
 ·subst h;rw [decide_eq_true rfl,itoa_one];rfl
 ·rw [decide_eq_false h,beq_eq_false_iff_ne]
  intro e
  exact h (itoa_inj (e.trans itoa_one.symm))
theorem onumber (n d:Int) (w:World) (hd:0<d) (hc:Nat.Coprime n.natAbs d.natAbs) (h1:short n) (h2:short d) :
  Calls Tryz.prog 221 #[.agg #[.string (strB n),.string (strB d)]] w fun e W'=>e = .returned (.string (strQ (Rat.divInt n d)))∧Below w.heap.size w W':=by
 have e:strQ (Rat.divInt n d)=if d=1 then strB n else strB n++⟨#[47]⟩++strB d:=by
  obtain ⟨k,rfl⟩:∃ k:Nat,d=k:=⟨d.natAbs,by omega⟩
  have k0:k≠0:=by omega
  have hq:Rat.divInt n (k:Int)=⟨n,k,k0,hc⟩:=by
   rw [Rat.mk_eq_divInt]
  rw [hq]
  unfold strQ itoaQ
  show (⟨(if k=1 then itoa n else itoa n++47::itoa (k:Int)).toArray⟩:ByteArray)=_
  by_cases h:k=1
  ·rw [if_pos h,if_pos (by omega)];rfl
  ·rw [if_neg h,if_neg (by omega)];exact slash_str3 _ _
 rw [e]
 by_cases h:d=1
 ·rw [if_pos h,h,show strB 1=⟨#[49]⟩ from str_of 1 [49] itoa_one]
  exact number_core1 _ w
 ·rw [if_neg h]
  exact number_core _ _ w (by rw [str_is1];exact decide_eq_false h) (strB_size h1) (strB_size h2)
theorem nat_short {n:Nat}:short (n:Int)↔n<lim:=by unfold short;rw [Int.natAbs_natCast]
theorem nat_fdiv (n d:Nat):(n:Int).fdiv d=((n / d:Nat):Int):=by
 rw [Int.fdiv_eq_ediv_of_nonneg _ (by omega),Int.natCast_ediv]
theorem nat_fmod (n d:Nat):(n:Int).fmod d=((n % d:Nat):Int):=by
 rw [Int.fmod_eq_emod_of_nonneg _ (by omega),Int.natCast_emod]
end Go.Proofs.YtjdfjgfdbgmbiaaGreatDoor.T
