/- Parts of the proof of the text YtjdfjgfdbgmbiaaGreatDoorHB39. -/
import Derived.Laws.CopyOwn
import Derived.Laws.Rows
import Derived.Laws.Tables
import Derived.DeepKeys
import Derived.Test.YtjdfjgfdbgmbiaaGreatDoorHB1
import Derived.Test.YtjdfjgfdbgmbiaaGreatDoorHB26
import Derived.Test.YtjdfjgfdbgmbiaaGreatDoorHB29
import Derived.Test.YtjdfjgfdbgmbiaaGreatDoorHB30
import Derived.Test.YtjdfjgfdbgmbiaaGreatDoorHB34
set_option linter.all false
set_option maxRecDepth 100000
set_option maxHeartbeats 8000000
namespace Go.Proofs.YtjdfjgfdbgmbiaaGreatDoor.T
open Go.Proofs.YtjdfjgfdbgmbiaaGreatDoor Go Go.RowKit
theorem run_copy_k {P:Program} (w:World) (dT sT ty elem:TypeId) (g dLen dCap:Nat) (sp:Option Addr) (sLen sCap k:Nat) (cur:Array Value) (t:TypeId) (cs:List Value)
  (hu:P.underlying dT=some (.slice elem)) (hs:(P.info? elem).map (·.size)=some k)
  (hg:w.heap[g]? = some (.cells cur t (0,0))) (hn:cs.length=Nat.min sLen dLen*k)
  (hsp:(sp=none∧cs = [])∨∃ a,sp=some a∧∀ j v,cs[j]? = some v→w.cell? (a.add j)=some v) (hfit:cs.length≤cur.size) (h1:∀ v∈cs,v.oneCell'=true) :
  (Builtin.copy_ #[dT,sT] ty #[.slice (some ⟨g,0,none⟩) dLen dCap,.slice sp sLen sCap]).run P w =
   .ok (goInt (Nat.min sLen dLen)) (w.setRow g (cs++cur.toList.drop cs.length).toArray):=by
 have hst:=run_storeCells_at P g 0 t cs 0 cur w hg (by simpa using hfit) h1
 simp only [Nat.add_zero,Nat.zero_add,List.take_zero,List.nil_append] at hst
 cases hq:P.info? elem with
 | none=>simp [hq] at hs
 | some i =>
  have hi:i.size=k:=by simpa [hq] using hs
  rcases hsp with ⟨rfl,rfl⟩ | ⟨a,rfl,hsrc⟩
  ·simp [Builtin.copy_,run_underlying hu,Builtin.lenOf,Builtin.firstCells,sizeOf,typeInfo,hq,hi] at hst ⊢
   simp [hst]
  ·have hl:=run_loadCells_list (P:=P) w a cs hsrc
   rw [hn] at hl
   simp [Builtin.copy_,run_underlying hu,Builtin.lenOf,Builtin.firstCells,sizeOf,typeInfo,hq,hi,hl,hst]
theorem wpList_copy_k {P:Program} {w:World} {ops:Array Oper} {rest:List Oper} {o:Oper} {a:Act} {Q:Exit→Act→World→Prop} (hgd:o.guard=none) (d s:Operand) (dT sT:TypeId)
  (ho:o.op = .call { callee := .builtin .copy,args := #[d,s],argTypes := #[dT,sT] }) (elem:TypeId) (hu:P.underlying dT=some (.slice elem)) (k:Nat) (hsz:(P.info? elem).map (·.size)=some k)
  (g dLen dCap:Nat) (sp:Option Addr) (sLen sCap:Nat) (hd:a.eval d = .slice (some ⟨g,0,none⟩) dLen dCap) (hs:a.eval s = .slice sp sLen sCap)
  (cur:Array Value) (t:TypeId) (hg:w.heap[g]? = some (.cells cur t (0,0))) (cs:List Value) (hn:cs.length=Nat.min sLen dLen*k)
  (hsp:(sp=none∧cs = [])∨∃ a,sp=some a∧∀ j v,cs[j]? = some v→w.cell? (a.add j)=some v) (hfit:cs.length≤cur.size) (h1:∀ v∈cs,v.oneCell'=true)
  (h:∀ w',w'.heap[g]? = some (.cells (cs++cur.toList.drop cs.length).toArray t (0,0))→(∀ q,q≠g→w'.heap[q]? = w.heap[q]?)→(∀ B w0,B≤g→Below B w0 w→Below B w0 w')→wpList P ops Q rest (a.put o.dst (goInt (Nat.min sLen dLen))) w'):wpList P ops Q (o::rest) a w:=by
 refine wpList_plain hgd fun K hK => ?_
 have hrun:=run_copy_k (P:=P) w dT sT o.type elem g dLen dCap sp sLen sCap k cur t cs hu hsz hg hn hsp hfit h1
 unfold Oper.wp
 simp [execOp,ho,resolve,invoke,builtin,hd,hs,hrun,Result.andThen]
 exact hK _ _ (h _ (setRow_heap w g cur _ t _ hg) (fun q hq=>setRow_other w g q _ hq) fun B w0 hB hb=>below_setRow hb hB _)
def pad (l:List Tm):List Value:=tcs l++List.replicate (32 - l.length*2) (.string ⟨#[]⟩)
theorem pad_len {l:List Tm} (h:l.length≤16):(pad l).length=32:=by
 unfold pad
 rw [List.length_append,tcs_len,List.length_replicate];omega
theorem pad_str (l:List Tm):∀ v∈pad l,∃ s,v = .string s:=fun v hv=>by
 unfold pad tcs at hv
 rcases List.mem_append.1 hv with h | h
 ·obtain ⟨t,_,h⟩:=List.mem_flatMap.1 h
  unfold tc at h
  simp only [List.mem_cons,List.mem_nil_iff,or_false] at h
  rcases h with rfl | rfl <;> exact ⟨_,rfl⟩
 ·exact ⟨_,(List.mem_replicate.1 h).2⟩
theorem pad_one (l:List Tm):∀ v∈pad l,v.oneCell'=true:=fun v hv=>by obtain ⟨s,rfl⟩:=pad_str l v hv;rfl
def blank:Array Value:=Array.replicate 32 (.string ⟨#[]⟩)
theorem blank_drop {l:List Tm} (h:l.length≤16):tcs l++blank.toList.drop (tcs l).length=pad l:=by
 unfold pad blank
 rw [tcs_len,Array.toList_replicate,List.drop_replicate]
theorem parts_info:(Tryz.prog.info? 71).map (·.size)=some 32:=by kernel_rfl
theorem term_size:(Tryz.prog.info? 50).map (·.size)=some 2:=by kernel_rfl
theorem ap_src {W:World} {p:Option Addr} {n c:Nat} {xs:List Value} (h:Ap W p n c xs):(p=none∧xs = [])∨∃ a,p=some a∧∀ j v,xs[j]? = some v→W.cell? (a.add j)=some v:=by
 obtain ⟨h1,_,h3⟩:=h
 rcases h3 with ⟨e1,e2,_⟩ | ⟨b,e1,h4⟩
 ·exact .inl ⟨e1,List.eq_nil_of_length_eq_zero (by omega)⟩
 ·exact .inr ⟨_,e1,h4⟩
theorem partsOf_ok (l:List Tm) (p:Option Addr) (n c:Nat) (w:World) (h:Sr w p n c l) (h16:l.length≤16) :
  Calls Tryz.prog 41 #[.slice p n c] w fun e W'=>e = .returned (.agg (pad l).toArray)∧Below w.heap.size w W':=by
 have hn:=h.1
 have HN:=Lib.hid (show (tcs l).length=Nat.min n 16*2 by rw [tcs_len,hn];show _=min l.length 16*2;rw [Nat.min_eq_left h16])
 have HS:=Lib.hid (fun W (hW:Below w.heap.size w W)=>ap_src (h.next hW).ap)
 have HF:=Lib.hid (show (tcs l).length≤blank.size by rw [tcs_len];show _≤(Array.replicate 32 _).size;rw [Array.size_replicate];omega)
 have HO:=Lib.hid (show ∀ v∈tcs l,v.oneCell'=true from fun v hv=>pad_one l v (List.mem_append.2 (.inl hv)))
 have HP:=Lib.hid (show (pad l).toArray.size=32 from by rw [List.size_toArray,pad_len h16])
 have HQ:=Lib.hid (show (pad l).toArray.all (·.oneCell')=true from by rw [Array.all_eq_true_iff_forall_mem];intro v hv;exact pad_one l v (by simpa using hv))
 have HD:=Lib.hid (blank_drop h16)
 have HB0:=Lib.hid (Below.refl w.heap.size w)
 clear h h16 hn
 go_enter Tryz.func41,Tryz.ntmps41
 go_wp2_with (refine wpList_copy_k rfl _ _ 25 26 rfl 50 Tryz.underlying25 2 term_size (w.heap.size+1) 16 16 p n c rfl rfl blank 71 (heap_alloc2_new w _ _) (tcs l) HN.out (HS.out _ ((HB0.out.alloc (Nat.le_refl _) _).alloc (by simp) _)) HF.out HO.out ?_)
 intro w2 q1 q2 q3
 rw [HD.out] at q1
 have q5:=(q2 w.heap.size (by omega)).trans ((heap_alloc_old _ _ (by simp)).trans (heap_alloc_new w _))
 have q6:=q3 w.heap.size w (by omega) ((HB0.out.alloc (Nat.le_refl _) _).alloc (by simp) _)
 have HW:=Lib.hid (And.intro q1 (And.intro q5 q6));clear q1 q2 q3 q5 q6
 go_wp2_with (first | (refine wpList_load_row rfl 71 _ rfl (w.heap.size+1) rfl _ _ _ _ HW.out.1 Tryz.underlying71 rfl (by rw [HP.out];exact parts_info) ?_) | (refine wpList_store_row rfl 71 _ _ rfl w.heap.size _ rfl rfl _ _ HW.out.2.1 (by rw [HP.out];exact parts_info) (by rw [HP.out];rfl) HQ.out ?_))
 refine bodyPost_ret (v := .agg (pad l).toArray) (results_cell_row Tryz.results41 _ _ w.heap.size _ _ (0,0) _ rfl (setRow_heap _ _ _ _ _ _ HW.out.2.1) Tryz.underlying71 rfl (by rw [HP.out];exact parts_info)) rfl ?_
 exact ⟨rfl,below_setRow HW.out.2.2 (Nat.le_refl _) _⟩
end Go.Proofs.YtjdfjgfdbgmbiaaGreatDoor.T
namespace Go.Proofs.YtjdfjgfdbgmbiaaGreatDoor.T
open Go.Proofs.YtjdfjgfdbgmbiaaGreatDoor Go Go.RowKit
theorem repeatL_one (c:UInt8):∀ n,Lib.repeatL [c] n=List.replicate n c
 | 0=>rfl
 | n+1=>by
  show [c]++Lib.repeatL [c] n=_
  rw [repeatL_one c n,List.replicate_succ];rfl
theorem rep0 (n:Nat) (w:World) (h:n≤1000) :
  Calls Tryz.prog 131 #[.string ⟨#[48]⟩,.int .i64 n] w fun e W'=>e = .returned (.string ⟨(List.replicate n 48).toArray⟩)∧Below w.heap.size w W':=by
 match n,h with
 | 0,_=>exact (Tryz.strings_Repeat_zero ⟨#[48]⟩ w).mono fun e W' ⟨a,b⟩=>⟨a,by rw [b];exact Below.refl _ _⟩
 | 1,_=>exact (Tryz.strings_Repeat_one ⟨#[48]⟩ w).mono fun e W' ⟨a,b⟩=>⟨a,by rw [b];exact Below.refl _ _⟩
 | n+2,h =>
  have c:=Tryz.strings_Repeat_main ⟨#[48]⟩ (n+2) w (by omega) (by omega) (by show 1*(n+2)≤_;omega) (by decide)
  rwa [show (⟨#[48]⟩:ByteArray).data.toList = [48] from rfl,repeatL_one] at c
end Go.Proofs.YtjdfjgfdbgmbiaaGreatDoor.T
namespace Go.Proofs.YtjdfjgfdbgmbiaaGreatDoor.T
open Go.Proofs.YtjdfjgfdbgmbiaaGreatDoor Go
theorem decDigits_zeros {x:Nat} (hx:0<x):∀ k,Lib.decDigits (x*10 ^ k)=Lib.decDigits x++List.replicate k 48
 | 0=>by rw [Nat.pow_zero,Nat.mul_one];simp
 | k+1=>by
  have hp:0<x*10 ^ k:=Nat.mul_pos hx (Nat.pow_pos (by decide))
  have e:x*10 ^ (k+1)=x*10 ^ k*10:=by rw [Nat.pow_succ,Nat.mul_assoc]
  have h:¬ x*10 ^ (k+1)<10:=by omega
  rw [Lib.decDigits,dif_neg h,show x*10 ^ (k+1) / 10=x*10 ^ k by omega,show x*10 ^ (k+1) % 10=0 by omega,decDigits_zeros hx k,List.replicate_succ',List.append_assoc]
  rfl
theorem strB_zeros {x:Nat} (hx:0<x) (k:Nat):strB (x:Int)++⟨(List.replicate k 48).toArray⟩=strB ((x*tenTo k:Nat):Int):=by
 apply bytes_ext
 rw [strB_data,Lib.itoa_nonneg,ByteArray.data_append,Array.toList_append,strB_data,Lib.itoa_nonneg,show tenTo k=10 ^ k from rfl,decDigits_zeros hx]
def rdN (c:Rat) (r p:Nat):Nat:=c.num.natAbs*c.num.natAbs*r*tenTo (2*p)
noncomputable def rdS (c:Rat) (r p:Nat):Nat:=rootN (rdN c r p / (c.den*c.den))
noncomputable def rdZ (c:Rat) (r p:Nat):Int:=if 0≤c.num then (rdS c r p:Int) else if rdS c r p*rdS c r p*(c.den*c.den)=rdN c r p then -(rdS c r p:Int) else -((rdS c r p:Int)+1)
noncomputable def rdT (p:Nat) (t:Tm):Int:=rdZ t.1 t.2.num.natAbs p
noncomputable def sml (p:Nat) (l:List Tm):Nat→Int
 | 0=>0
 | j+1=>sml p l j+rdT p (tat l j)
noncomputable def dec (p:Nat) (l:List Tm):Int:=if 0<sml p l l.length then 1 else if sml p l l.length+l.length≤0 then -1 else 0
noncomputable def sgV (l:List Tm):Int:=if l.length=0 then 0 else if dec 4 l≠0 then dec 4 l else dec 64 l
noncomputable def sgE (l:List Tm):Int:=if l.length=0 then 0 else if dec 4 l≠0 then 0 else if dec 64 l≠0 then 0 else 4
theorem rdN_lt {c:Rat} {r p:Nat} (hc:Bq 60 c) (hr:r<tenTo 40) (hp:p≤64):rdN c r p<tenTo 288:=by
 have h1:c.num.natAbs*c.num.natAbs<tenTo 60*tenTo 60:=Nat.mul_lt_mul'' hc.1 hc.1
 have h2:c.num.natAbs*c.num.natAbs*r<tenTo 60*tenTo 60*tenTo 40:=Nat.mul_lt_mul'' h1 hr
 have h3:tenTo (2*p)≤tenTo 128:=tenTo_mono (by omega)
 have h4:c.num.natAbs*c.num.natAbs*r*tenTo (2*p)≤c.num.natAbs*c.num.natAbs*r*tenTo 128:=Nat.mul_le_mul_left _ h3
 have h5:c.num.natAbs*c.num.natAbs*r*tenTo 128<tenTo 60*tenTo 60*tenTo 40*tenTo 128:=Nat.mul_lt_mul_of_pos_right h2 (tenTo_pos 128)
 rw [←tenTo_add,←tenTo_add,←tenTo_add] at h5
 exact Nat.lt_of_le_of_lt h4 h5
theorem root_lt {n k:Nat} (h:n<tenTo (2*k)):rootN n<tenTo k:=by
 have:=(rootN_is n).1
 rcases Nat.lt_or_ge (rootN n) (tenTo k) with l | l
 ·exact l
 ·exfalso
  have h2:=Nat.mul_le_mul l l
  rw [←tenTo_add,show k+k=2*k by omega] at h2
  omega
theorem rdS_lt {c:Rat} {r p:Nat} (hc:Bq 60 c) (hr:r<tenTo 40) (hp:p≤64):rdS c r p<tenTo 144 :=
 root_lt (Nat.lt_of_le_of_lt (Nat.div_le_self _ _) (rdN_lt hc hr hp))
theorem rdZ_le {c:Rat} {r p:Nat} (hc:Bq 60 c) (hr:r<tenTo 40) (hp:p≤64):(rdZ c r p).natAbs≤tenTo 144:=by
 have:=rdS_lt hc hr hp
 unfold rdZ
 split
 ·omega
 ·split <;> omega
theorem sml_le {p:Nat} {l:List Tm} (h:∀ t∈l,(rdT p t).natAbs≤tenTo 144):∀ j,j≤l.length→(sml p l j).natAbs≤j*tenTo 144
 | 0,_=>by simp [sml]
 | j+1,hj=>by
  have ih:=sml_le h j (by omega)
  have h1:=h _ (tat_mem (l:=l) (j:=j) (by omega))
  have h2:=Int.natAbs_add_le (sml p l j) (rdT p (tat l j))
  rw [Nat.succ_mul]
  show (sml p l j+rdT p (tat l j)).natAbs≤_
  omega
end Go.Proofs.YtjdfjgfdbgmbiaaGreatDoor.T
namespace Go.Proofs.YtjdfjgfdbgmbiaaGreatDoor.T
open Go.Proofs.YtjdfjgfdbgmbiaaGreatDoor Go.Lib
end Go.Proofs.YtjdfjgfdbgmbiaaGreatDoor.T
namespace Go.Proofs.YtjdfjgfdbgmbiaaGreatDoor.T
open Go.Proofs.YtjdfjgfdbgmbiaaGreatDoor Go.Lib
end Go.Proofs.YtjdfjgfdbgmbiaaGreatDoor.T
namespace Go.Proofs.YtjdfjgfdbgmbiaaGreatDoor.T
open Go.Proofs.YtjdfjgfdbgmbiaaGreatDoor Go Go.RowKit
theorem tenTo_lt {a b:Nat} (h:a<b):tenTo a<tenTo b:=Nat.pow_lt_pow_right (by decide) h
theorem rep_size (n:Nat):(⟨(List.replicate n 48).toArray⟩:ByteArray).size=n:=by show (List.replicate n (48:UInt8)).toArray.size=n;simp
end Go.Proofs.YtjdfjgfdbgmbiaaGreatDoor.T
namespace Go.Proofs.YtjdfjgfdbgmbiaaGreatDoor.T
open Go.Proofs.YtjdfjgfdbgmbiaaGreatDoor Go Go.RowKit
theorem splus_core (a b r:ByteArray) (e0:Int) (w:World)
  (h:Calls Tryz.prog 128 #[.string a,.string b] w fun e W'=>e = .returned (.tuple #[.string r,.int .i64 e0])∧Below w.heap.size w W') :
  Calls Tryz.prog 104 #[.string a,.string b] w fun e W'=>e = .returned (.string r)∧Below w.heap.size w W':=by
 have C:=Lib.hid h;clear h
 go_enter Tryz.func104,Tryz.ntmps104
 go_wp2_with fail
 refine C.out.mono ?_
 rintro e w1 ⟨rfl,b⟩
 have H1:=Lib.hid b;clear b
 go_wp2
 go_ret
 exact ⟨rfl,H1.out⟩
theorem stimes_core (a b r:ByteArray) (e0:Int) (w:World)
  (h:Calls Tryz.prog 162 #[.string a,.string b] w fun e W'=>e = .returned (.tuple #[.string r,.int .i64 e0])∧Below w.heap.size w W') :
  Calls Tryz.prog 130 #[.string a,.string b] w fun e W'=>e = .returned (.string r)∧Below w.heap.size w W':=by
 have C:=Lib.hid h;clear h
 go_enter Tryz.func130,Tryz.ntmps130
 go_wp2_with fail
 refine C.out.mono ?_
 rintro e w1 ⟨rfl,b⟩
 have H1:=Lib.hid b;clear b
 go_wp2
 go_ret
 exact ⟨rfl,H1.out⟩
theorem splus (x y:Int) (w:World) (hx:short x) (hy:short y) (hz:short (x+y)) (ht:Tab w) :
  Calls Tryz.prog 104 #[.string (strB x),.string (strB y)] w fun e W'=>e = .returned (.string (strB (x+y)))∧Below w.heap.size w W' :=
 splus_core _ _ _ _ w (Add_str x y w hx hy hz ht)
theorem stimes (x y:Int) (w:World) (hx:short x) (hy:short y) (hz:short (x*y)) (ht:Tab w) :
  Calls Tryz.prog 130 #[.string (strB x),.string (strB y)] w fun e W'=>e = .returned (.string (strB (x*y)))∧Below w.heap.size w W' :=
 stimes_core _ _ _ _ w (Mul_str x y w hx hy hz ht)
theorem sisNegative (s:ByteArray) (w:World) :
  Calls Tryz.prog 106 #[.string s] w fun e W'=>e = .returned (.bool (isNeg s.data.toList))∧Below w.heap.size w W':=by
 have c:=fun W=>Tryz.strings_HasPrefix s ⟨#[45]⟩ W
 rw [show (⟨#[45]⟩:ByteArray).data.toList = [45] from rfl,prefix_neg] at c
 have C:=Lib.hid c;clear c
 generalize isNeg s.data.toList=b at *
 go_enter Tryz.func106,Tryz.ntmps106
 go_wp2_with fail
 refine (C.out _).mono ?_
 rintro e w1 ⟨rfl,rfl⟩
 go_wp2
 go_ret
 exact ⟨rfl,Below.refl _ _⟩
theorem isPositive_core (s:ByteArray) (z n:Bool) (w:World) (hz:(s.toList == [48])=z)
  (h1:∀ W,Below w.heap.size w W→Calls Tryz.prog 106 #[.string s] W fun e W'=>e = .returned (.bool n)∧Below W.heap.size W W') :
  Calls Tryz.prog 76 #[.string s] w fun e W'=>e = .returned (.bool (!z && !n))∧Below w.heap.size w W':=by
 have C:=Lib.hid h1;clear h1
 cases z
 ·go_enter Tryz.func76,Tryz.ntmps76
  go_wp2_with fail
  refine (C.out _ (Below.refl _ _)).mono ?_
  rintro e w1 ⟨rfl,b⟩
  have H1:=Lib.hid b;clear b
  go_wp2
  go_ret
  exact ⟨by simp,H1.out⟩
 ·go_enter Tryz.func76,Tryz.ntmps76
  go_wp2
  go_ret
  exact ⟨by simp,Below.refl _ _⟩
theorem spositive (x:Int) (w:World) :
  Calls Tryz.prog 76 #[.string (strB x)] w fun e W'=>e = .returned (.bool (decide (0<x)))∧Below w.heap.size w W':=by
 have hz:((strB x).toList == [48])=decide (x=0):=by
  by_cases h:x=0
  ·subst h;rw [show strB 0=⟨#[48]⟩ from by decide+kernel,(is0_iff _).2 rfl];rfl
  ·rw [strB_not48 h,decide_eq_false h]
 refine (isPositive_core (strB x) _ (isNeg (strB x).data.toList) w hz (fun W _=>sisNegative _ W)).mono fun e W' ⟨e1,b⟩=>⟨?_,b⟩
 rw [e1,strB_neg]
 have:(!decide (x=0) && !decide (x<0))=decide (0<x):=by
  rcases Int.lt_trichotomy x 0 with h | h | h
  ·rw [decide_eq_true h,decide_eq_false (by omega:¬ 0<x)];simp
  ·subst h;rfl
  ·rw [decide_eq_false (by omega:¬ x=0),decide_eq_false (by omega:¬ x<0),decide_eq_true h];rfl
 rw [this]
theorem rounded_core (f:ByteArray→ByteArray→ByteArray) (c r n d zz bl rest rt ss sd r1 m:ByteArray) (pl:Nat) (e1 e2 e3:Int) (ng q:Bool) (w:World) (hsz:(f (f n n) r).size+zz.size≤10000) (hq:(sd.toList==(f (f n n) r++zz).toList)=q)
  (o1:∀ W,Below w.heap.size w W→Calls Tryz.prog 129 #[.string c] W fun e W'=>e = .returned (.tuple #[.string n,.string d,.int .i64 e1])∧Below W.heap.size W W')
  (o2:∀ a b W,((a=n∧b=n)∨(a=f n n∧b=r)∨(a=d∧b=d))→Below w.heap.size w W→Calls Tryz.prog 130 #[.string a,.string b] W fun e W'=>e = .returned (.string (f a b))∧Below W.heap.size W W')
  (o3:∀ W,Below w.heap.size w W→Calls Tryz.prog 131 #[.string ⟨#[48]⟩,.int .i64 (IntKind.i64.wrap (2*pl))] W fun e W'=>e = .returned (.string zz)∧Below W.heap.size W W')
  (o4:∀ W,Below w.heap.size w W→Calls Tryz.prog 132 #[.string (f (f n n) r++zz),.string (f d d)] W fun e W'=>e = .returned (.tuple #[.string bl,.string rest,.int .i64 e2])∧Below W.heap.size W W')
  (o5:∀ W,Below w.heap.size w W→Calls Tryz.prog 133 #[.string bl] W fun e W'=>e = .returned (.tuple #[.string rt,.int .i64 e3])∧Below W.heap.size W W')
  (o6:∀ W,Below w.heap.size w W→Calls Tryz.prog 106 #[.string n] W fun e W'=>e = .returned (.bool ng)∧Below W.heap.size W W')
  (o7:ng=true→(∀ W,Below w.heap.size w W→Calls Tryz.prog 130 #[.string rt,.string rt] W fun e W'=>e = .returned (.string ss)∧Below W.heap.size W W') ∧
   (∀ W,Below w.heap.size w W→Calls Tryz.prog 130 #[.string ss,.string (f d d)] W fun e W'=>e = .returned (.string sd)∧Below W.heap.size W W') ∧
   (q=false→∀ W,Below w.heap.size w W→Calls Tryz.prog 104 #[.string rt,.string ⟨#[49]⟩] W fun e W'=>e = .returned (.string r1)∧Below W.heap.size W W') ∧
   (∀ W,Below w.heap.size w W→Calls Tryz.prog 130 #[.string ⟨#[45,49]⟩,.string (if q then rt else r1)] W fun e W'=>e = .returned (.string m)∧Below W.heap.size W W')) :
  Calls Tryz.prog 105 #[.agg #[.string c,.string r],.int .i64 pl] w fun e W'=>e = .returned (.string (if ng then m else rt))∧Below w.heap.size w W':=by
 have O:=Lib.hid (And.intro o1 (And.intro o2 (And.intro o3 (And.intro o4 (And.intro o5 (And.intro o6 o7))))));clear o1 o2 o3 o4 o5 o6 o7
 have y1:¬ (9223372036854775807:Int)<(f (f n n) r).size+zz.size:=by omega
 have y5:¬ (9223372036854775807<(f (f n n) r).size+zz.size):=by omega
 clear hsz
 go_enter Tryz.func105,Tryz.ntmps105
 go_wp2_with fail
 have HB:=Lib.hid (And.intro (Blk.new w #[.string c,.string r] 50) ((Below.refl _ w).alloc (Nat.le_refl _) (.cells #[.string c,.string r] 50)))
 generalize w.alloc (.cells #[.string c,.string r] 50)=W0 at *
 generalize hk:w.heap.size=k at *
 have HK:=Lib.hid hk;clear hk
 have e0:=(show World.cell? _ ⟨k,0,none⟩=some (.string c) from HB.out.1.cell 0 _ rfl);have e1:=(show World.cell? _ ⟨k,1,none⟩=some (.string r) from HB.out.1.cell 1 _ rfl)
 refine (O.out.1 _ HB.out.2).mono ?_
 rintro e v1 ⟨rfl,b⟩
 have HN:=Lib.hid (And.intro (HB.out.1.next b) (HB.out.2.trans (b.mono (by have h1:=HB.out.2.size;have h2:=HK.out;omega))));clear HB b;have HB:=HN;clear HN
 have e0:=(show World.cell? _ ⟨k,0,none⟩=some (.string c) from HB.out.1.cell 0 _ rfl);have e1:=(show World.cell? _ ⟨k,1,none⟩=some (.string r) from HB.out.1.cell 1 _ rfl)
 go_wp2
 have HD:=Lib.hid (And.intro HB.out.1.drew HB.out.2.drew);clear HB;have HB:=HD;clear HD
 have e0:=(show World.cell? _ ⟨k,0,none⟩=some (.string c) from HB.out.1.cell 0 _ rfl);have e1:=(show World.cell? _ ⟨k,1,none⟩=some (.string r) from HB.out.1.cell 1 _ rfl)
 go_region_held3 (fun w'=>w'.cell? ⟨k,1,none⟩=some (.string r)) (first | exact e1 | (go_keep;done))
  (first | (go_at_call 130;with_reducible refine Calls.mono (O.out.2.1 _ _ _ ?_ HB.out.2) ?_;(first | exact .inl ⟨rfl,rfl⟩ | exact .inr (.inl ⟨rfl,rfl⟩) | exact .inr (.inr ⟨rfl,rfl⟩));rintro e w4 ⟨rfl,b⟩;have HN:=Lib.hid (And.intro (HB.out.1.next b) (HB.out.2.trans (b.mono (by have h1:=HB.out.2.size;have h2:=HK.out;omega))));clear HB b;have HB:=HN;clear HN;have e0:=(show World.cell? _ ⟨k,0,none⟩=some (.string c) from HB.out.1.cell 0 _ rfl);have e1:=(show World.cell? _ ⟨k,1,none⟩=some (.string r) from HB.out.1.cell 1 _ rfl)) | (go_at_call 131;refine Calls.mono (O.out.2.2.1 _ HB.out.2) ?_;rintro e w4 ⟨rfl,b⟩;have HN:=Lib.hid (And.intro (HB.out.1.next b) (HB.out.2.trans (b.mono (by have h1:=HB.out.2.size;have h2:=HK.out;omega))));clear HB b;have HB:=HN;clear HN;have e0:=(show World.cell? _ ⟨k,0,none⟩=some (.string c) from HB.out.1.cell 0 _ rfl);have e1:=(show World.cell? _ ⟨k,1,none⟩=some (.string r) from HB.out.1.cell 1 _ rfl)))
 all_goals
  have e0:=(show World.cell? _ ⟨k,0,none⟩=some (.string c) from HB.out.1.cell 0 _ rfl);have e1:=(show World.cell? _ ⟨k,1,none⟩=some (.string r) from HB.out.1.cell 1 _ rfl)
  go_wp2_with fail
  refine (O.out.2.2.2.1 _ HB.out.2).mono ?_
  rintro e v ⟨rfl,b⟩
  have HN:=Lib.hid (And.intro (HB.out.1.next b) (HB.out.2.trans (b.mono (by have h1:=HB.out.2.size;have h2:=HK.out;omega))));clear HB b;have HB:=HN;clear HN
  go_wp2_with fail
  refine (O.out.2.2.2.2.1 _ HB.out.2).mono ?_
  rintro e v ⟨rfl,b⟩
  have HN:=Lib.hid (And.intro (HB.out.1.next b) (HB.out.2.trans (b.mono (by have h1:=HB.out.2.size;have h2:=HK.out;omega))));clear HB b;have HB:=HN;clear HN
  go_wp2_with fail
  refine (O.out.2.2.2.2.2.1 _ HB.out.2).mono ?_
  rintro e v ⟨rfl,b⟩
  have HN:=Lib.hid (And.intro (HB.out.1.next b) (HB.out.2.trans (b.mono (by have h1:=HB.out.2.size;have h2:=HK.out;omega))));clear HB b;have HB:=HN;clear HN
  cases ng
  ·go_wp2
   go_ret
   have hb:=HB.out.2
   rw [←HK.out] at hb
   exact ⟨rfl,hb⟩
  ·have OO:=Lib.hid (O.out.2.2.2.2.2.2 rfl);clear O
   go_wp2_with fail
   refine (OO.out.1 _ HB.out.2).mono ?_
   rintro e v ⟨rfl,b⟩
   have HN:=Lib.hid (And.intro (HB.out.1.next b) (HB.out.2.trans (b.mono (by have h1:=HB.out.2.size;have h2:=HK.out;omega))));clear HB b;have HB:=HN;clear HN
   go_wp2_with fail
   refine (OO.out.2.1 _ HB.out.2).mono ?_
   rintro e v ⟨rfl,b⟩
   have HN:=Lib.hid (And.intro (HB.out.1.next b) (HB.out.2.trans (b.mono (by have h1:=HB.out.2.size;have h2:=HK.out;omega))));clear HB b;have HB:=HN;clear HN
   cases q
   ·go_wp2_with fail
    refine (OO.out.2.2.1 trivial _ HB.out.2).mono ?_
    rintro e v ⟨rfl,b⟩
    have HN:=Lib.hid (And.intro (HB.out.1.next b) (HB.out.2.trans (b.mono (by have h1:=HB.out.2.size;have h2:=HK.out;omega))));clear HB b;have HB:=HN;clear HN
    go_wp2_with fail
    refine (OO.out.2.2.2 _ HB.out.2).mono ?_
    rintro e v ⟨rfl,b⟩
    have HN:=Lib.hid (And.intro (HB.out.1.next b) (HB.out.2.trans (b.mono (by have h1:=HB.out.2.size;have h2:=HK.out;omega))));clear HB b;have HB:=HN;clear HN
    go_wp2
    go_ret
    have hb:=HB.out.2
    rw [←HK.out] at hb
    exact ⟨rfl,hb⟩
   ·go_wp2_with fail
    refine (OO.out.2.2.2 _ HB.out.2).mono ?_
    rintro e v ⟨rfl,b⟩
    have HN:=Lib.hid (And.intro (HB.out.1.next b) (HB.out.2.trans (b.mono (by have h1:=HB.out.2.size;have h2:=HK.out;omega))));clear HB b;have HB:=HN;clear HN
    go_wp2
    go_ret
    have hb:=HB.out.2
    rw [←HK.out] at hb
    exact ⟨rfl,hb⟩
theorem wrap2 {p:Nat} (h:p≤64):IntKind.i64.wrap (2*(p:Int))=2*(p:Int):=by rw [IntKind.wrap_i64];omega
theorem Root_at {k:Nat} {x:Int} (h:x.natAbs<tenTo k) (hk:k≤300):short x:=Nat.lt_of_lt_of_le h (tenTo_mono hk)
theorem rounded_ok (t:Tm) (p:Nat) (w:World) (h:GT t) (hp:p≤64) (ht:Tab w) (ht2:Tab64 w) :
  Calls Tryz.prog 105 #[.agg #[.string (strQ t.1),.string (strQ t.2)],.int .i64 p] w fun e W'=>e = .returned (.string (strB (rdT p t)))∧Below w.heap.size w W':=by
 obtain ⟨c0,cb,b,eb,nb,lb⟩:=h
 obtain ⟨c,q⟩:=t
 change c≠0 at c0
 change Bq 60 c at cb
 have eb':q=(b:Rat):=eb
 subst eb'
 have er:rdT p (c,(b:Rat))=rdZ c b p:=by show rdZ c ((b:Nat):Rat).num.natAbs p=_;rw [natR_num]
 rw [er]
 have hn0:c.num≠0:=fun z=>c0 (Rat.num_eq_zero.1 z)
 have l1:=cb.1
 have l2:=cb.2
 have N1:short c.num:=Root_at l1 (by decide)
 have D1:short (c.den:Int):=nat_short.2 (ten_lim (by decide) l2)
 have B1:short (b:Int):=nat_short.2 (ten_lim (by decide) lb)
 have hnn:c.num*c.num=((c.num.natAbs*c.num.natAbs:Nat):Int):=Int.natAbs_mul_self.symm
 have hnr:c.num*c.num*(b:Int)=((c.num.natAbs*c.num.natAbs*b:Nat):Int):=by rw [hnn,←Int.natCast_mul]
 have hdd:(c.den:Int)*(c.den:Int)=((c.den*c.den:Nat):Int):=by rw [Int.natCast_mul]
 have pN:0<c.num.natAbs*c.num.natAbs*b:=Nat.mul_pos (Nat.mul_pos (by omega) (by omega)) nb.1
 have pD:0<c.den*c.den:=Nat.mul_pos c.den_pos c.den_pos
 have z1:=strB_zeros pN (2*p)
 have eN:c.num.natAbs*c.num.natAbs*b*tenTo (2*p)=rdN c b p:=rfl
 rw [eN] at z1
 have s1:=rdN_lt cb lb hp
 have s2:c.num.natAbs*c.num.natAbs*b<tenTo 160:=by
  have h1:c.num.natAbs*c.num.natAbs<tenTo 60*tenTo 60:=Nat.mul_lt_mul'' l1 l1
  have h2:c.num.natAbs*c.num.natAbs*b<tenTo 60*tenTo 60*tenTo 40:=Nat.mul_lt_mul'' h1 lb
  rwa [←tenTo_add,←tenTo_add] at h2
 have s3:c.num.natAbs*c.num.natAbs<tenTo 120:=by
  have h1:c.num.natAbs*c.num.natAbs<tenTo 60*tenTo 60:=Nat.mul_lt_mul'' l1 l1
  rwa [←tenTo_add] at h1
 have s4:c.den*c.den<tenTo 120:=by
  have h1:c.den*c.den<tenTo 60*tenTo 60:=Nat.mul_lt_mul'' l2 l2
  rwa [←tenTo_add] at h1
 have s5:=rdS_lt cb lb hp
 have hdiv:((rdN c b p:Nat):Int).fdiv ((c.den*c.den:Nat):Int)=((rdN c b p / (c.den*c.den):Nat):Int):=by
  rw [Int.fdiv_eq_ediv_of_nonneg _ (Int.natCast_nonneg _),Int.natCast_ediv]
 have s6:rdS c b p*rdS c b p<tenTo 288:=by
  have h1:rdS c b p*rdS c b p<tenTo 144*tenTo 144:=Nat.mul_lt_mul'' s5 s5
  rwa [←tenTo_add] at h1
 have s7:rdS c b p*rdS c b p*(c.den*c.den)≤rdN c b p:=by
  have h1:rdS c b p*rdS c b p≤rdN c b p / (c.den*c.den):=(rootN_is _).1
  exact Nat.le_trans (Nat.mul_le_mul_right _ h1) (Nat.div_mul_le_self _ _)
 have hrt:∀ W,Below w.heap.size w W→Calls Tryz.prog 133 #[.string (strB ((rdN c b p / (c.den*c.den):Nat):Int))] W fun e W'=>e = .returned (.tuple #[.string (strB (rdS c b p:Nat)),.int .i64 0])∧Below W.heap.size W W':=fun W hW=>by
  have:=Root_str ((rdN c b p / (c.den*c.den):Nat):Int) W (Int.natCast_nonneg _) (nat_short.2 (ten_lim (by decide) (Nat.lt_of_le_of_lt (Nat.div_le_self _ _) s1))) (ht.next hW)
  rwa [Int.natAbs_natCast] at this
 have hsz:(strB ((c.num.natAbs*c.num.natAbs*b:Nat):Int)).size+(⟨(List.replicate (2*p) 48).toArray⟩:ByteArray).size≤10000:=by
  have h1:=strB_size (z:=((c.num.natAbs*c.num.natAbs*b:Nat):Int)) (nat_short.2 (ten_lim (by decide) s2))
  rw [show (⟨(List.replicate (2*p) (48:UInt8)).toArray⟩:ByteArray).size=2*p from rep_size (2*p)];omega
 obtain ⟨f,hf⟩:∃ f:ByteArray→ByteArray→ByteArray,∀ x y:Int,f (strB x) (strB y)=strB (x*y):=⟨fun a b=>strB (valOf a.data.toList*valOf b.data.toList),fun x y=>by show strB (valOf (strB x).data.toList*valOf (strB y).data.toList)=_;rw [strB_val,strB_val]⟩
 have er2:strQ ((b:Nat):Rat)=strB (b:Int):=by rw [←strQ_int,Rat.intCast_natCast]
 have f1:f (strB c.num) (strB c.num)=strB (c.num*c.num):=hf _ _
 have f2:f (f (strB c.num) (strB c.num)) (strB (b:Int))=strB ((c.num.natAbs*c.num.natAbs*b:Nat):Int):=by rw [f1,hf,hnr]
 have f3:f (strB (c.den:Int)) (strB (c.den:Int))=strB ((c.den*c.den:Nat):Int):=by rw [hf,hdd]
 rw [er2]
 have key:=rounded_core f (strQ c) (strB (b:Int)) (strB c.num) (strB (c.den:Int)) ⟨(List.replicate (2*p) 48).toArray⟩
  (strB ((rdN c b p / (c.den*c.den):Nat):Int)) (strB (((rdN c b p:Nat):Int).fmod ((c.den*c.den:Nat):Int))) (strB (rdS c b p:Nat)) (strB ((rdS c b p*rdS c b p:Nat):Int)) (strB ((rdS c b p*rdS c b p*(c.den*c.den):Nat):Int)) (strB ((rdS c b p:Int)+1))
  (strB (-1*(if rdS c b p*rdS c b p*(c.den*c.den)=rdN c b p then (rdS c b p:Int) else (rdS c b p:Int)+1))) p 0 0 0 (decide (c.num<0)) (decide (rdS c b p*rdS c b p*(c.den*c.den)=rdN c b p)) w (by rw [f2];exact hsz)
  (by
    rw [f2,z1]
    by_cases e:rdS c b p*rdS c b p*(c.den*c.den)=rdN c b p
    ·rw [decide_eq_true e,e];simp
    ·rw [decide_eq_false e,Bool.eq_false_iff]
     intro k
     have k2:=congrArg (fun s:ByteArray=>valOf s.data.toList) (bytes_ext (by rw [←ByteArray.toList_eq,←ByteArray.toList_eq];simpa using k):strB ((rdS c b p*rdS c b p*(c.den*c.den):Nat):Int)=strB ((rdN c b p:Nat):Int))
     simp only [strB_val] at k2
     exact e (Int.natCast_inj.1 k2))
  (fun W hW=>Parts_q c W (cb.lim (by decide)) (ht.next hW) (TabQ_next ht2 hW))
  (fun a b' W hx hW=>by
   rcases hx with ⟨rfl,rfl⟩ | ⟨rfl,rfl⟩ | ⟨rfl,rfl⟩
   ·rw [f1];exact stimes c.num c.num W N1 N1 (by rw [hnn];exact nat_short.2 (ten_lim (by decide) s3)) (ht.next hW)
   ·have:=stimes (c.num*c.num) (b:Int) W (by rw [hnn];exact nat_short.2 (ten_lim (by decide) s3)) B1 (by rw [hnr];exact nat_short.2 (ten_lim (by decide) s2)) (ht.next hW)
    rw [hnr] at this
    rw [f2,f1];exact this
   ·have:=stimes (c.den:Int) (c.den:Int) W D1 D1 (by rw [hdd];exact nat_short.2 (ten_lim (by decide) s4)) (ht.next hW)
    rw [hdd] at this
    rw [f3];exact this)
  (fun W _=>by
   have:=rep0 (2*p) W (by omega)
   rwa [show ((2*p:Nat):Int)=IntKind.i64.wrap (2*(p:Int)) by rw [wrap2 hp];omega] at this)
  (fun W hW=>by
   rw [f2,f3,z1]
   have:=Divide_strs ((rdN c b p:Nat):Int) ((c.den*c.den:Nat):Int) W (nat_short.2 (ten_lim (by decide) s1)) (nat_short.2 (ten_lim (by decide) s4)) (by omega) (ht.next hW)
   rwa [hdiv] at this)
  hrt
  (fun W hW=>by
   have:=sisNegative (strB c.num) W
   rwa [strB_neg] at this)
  (fun _=>⟨fun W hW => ?_,fun W hW => ?_,fun _ W hW => ?_,fun W hW => ?_⟩)
 ·refine key.mono fun e W' ⟨e1,b1⟩=>⟨?_,b1⟩
  rw [e1]
  unfold rdZ
  by_cases n0:c.num<0
  ·have h2:(-1*(if rdS c b p*rdS c b p*(c.den*c.den)=rdN c b p then (rdS c b p:Int) else (rdS c b p:Int)+1))=if rdS c b p*rdS c b p*(c.den*c.den)=rdN c b p then -(rdS c b p:Int) else -((rdS c b p:Int)+1):=by split <;> omega
   rw [if_neg (show ¬ 0≤c.num by omega),h2,if_pos (show decide (c.num<0)=true from decide_eq_true n0)]
  ·rw [if_pos (show 0≤c.num by omega),if_neg (show ¬ decide (c.num<0)=true by rw [decide_eq_false n0];decide)]
 ·have:=stimes (rdS c b p:Nat) (rdS c b p:Nat) W (nat_short.2 (ten_lim (by decide) s5)) (nat_short.2 (ten_lim (by decide) s5)) (by rw [←Int.natCast_mul];exact nat_short.2 (ten_lim (by decide) s6)) (ht.next hW)
  rwa [←Int.natCast_mul] at this
 ·have:=stimes ((rdS c b p*rdS c b p:Nat):Int) ((c.den*c.den:Nat):Int) W (nat_short.2 (ten_lim (by decide) s6)) (nat_short.2 (ten_lim (by decide) s4)) (by rw [←Int.natCast_mul];exact nat_short.2 (ten_lim (by decide) (Nat.lt_of_le_of_lt s7 s1))) (ht.next hW)
  rw [←Int.natCast_mul] at this
  rw [f3];exact this
 ·have h2:((rdS c b p:Nat):Int)+1=((rdS c b p+1:Nat):Int):=by omega
  have h3:rdS c b p+1<tenTo 145:=by have e145:tenTo 145=10*tenTo 144:=tenTo_succ 144;have:=tenTo_pos 144;omega
  have:=splus (rdS c b p:Nat) 1 W (nat_short.2 (ten_lim (by decide) s5)) (small_lim (by decide)) (by rw [h2];exact nat_short.2 (ten_lim (by decide) h3)) (ht.next hW)
  rwa [strB_one] at this
 ·have h3:rdS c b p+1<tenTo 145:=by have e145:tenTo 145=10*tenTo 144:=tenTo_succ 144;have:=tenTo_pos 144;omega
  have e:(if decide (rdS c b p*rdS c b p*(c.den*c.den)=rdN c b p)=true then strB (rdS c b p:Nat) else strB ((rdS c b p:Int)+1))=strB (if rdS c b p*rdS c b p*(c.den*c.den)=rdN c b p then (rdS c b p:Int) else (rdS c b p:Int)+1):=by
   by_cases k:rdS c b p*rdS c b p*(c.den*c.den)=rdN c b p
   ·rw [if_pos (by simpa using k),if_pos k]
   ·rw [if_neg (by simpa using k),if_neg k]
  rw [e]
  have hx:((if rdS c b p*rdS c b p*(c.den*c.den)=rdN c b p then (rdS c b p:Int) else (rdS c b p:Int)+1)).natAbs<tenTo 145:=by split <;> omega
  generalize (if rdS c b p*rdS c b p*(c.den*c.den)=rdN c b p then (rdS c b p:Int) else (rdS c b p:Int)+1)=x at hx ⊢
  have:=stimes (-1) x W (small_lim (by decide)) (Root_at hx (by decide)) (Root_at (k:=145) (by rw [Int.neg_mul,Int.one_mul,Int.natAbs_neg];exact hx) (by decide)) (ht.next hW)
  rwa [show strB (-1)=⟨#[45,49]⟩ from by decide+kernel] at this
end Go.Proofs.YtjdfjgfdbgmbiaaGreatDoor.T
namespace Go.Proofs.YtjdfjgfdbgmbiaaGreatDoor.T
open Go.Proofs.YtjdfjgfdbgmbiaaGreatDoor Go Go.RowKit
theorem Value_nil (p:Option Addr) (c:Nat) (w:World)
  (hA:∀ W b,Below w.heap.size w W→Blk W b #[.slice p 0 c]→Calls Tryz.prog 40 #[.slice (some ⟨b,0,none⟩) 1 1] W fun e W'=>e = .returned (.bool true)∧Below W.heap.size W W') :
  Calls Tryz.prog 34 #[.slice p 0 c] w fun e W'=>e = .returned (.tuple #[.string ⟨#[48]⟩,.bool true,.int .i64 0])∧Below w.heap.size w W':=by
 have O:=Lib.hid hA;clear hA
 go_enter Tryz.func34,Tryz.ntmps34
 go_wp2_with fail
 refine (O.out _ _ ((Below.refl _ w).alloc (Nat.le_refl _) _) (Blk.new w _ _)).mono ?_
 rintro e W1 ⟨rfl,b⟩
 have B1:=Lib.hid (((Below.refl _ w).alloc (Nat.le_refl _) (.cells #[.slice p 0 c] 26)).trans (b.mono (by simp)))
 clear b
 go_wp2
 go_ret3
 exact ⟨rfl,B1.out⟩
theorem Value_one (g c:Nat) (tc tr:ByteArray) (z:Bool) (w:World)
  (hA:∀ W b,Below w.heap.size w W→Blk W b #[.slice (some ⟨g,0,none⟩) 1 c]→Calls Tryz.prog 40 #[.slice (some ⟨b,0,none⟩) 1 1] W fun e W'=>e = .returned (.bool true)∧Below W.heap.size W W') (hz:(tr.toList == [49])=z)
  (hc:w.cell? ⟨g,0,none⟩=some (.string tc)∧w.cell? ⟨g,1,none⟩=some (.string tr)) :
  Calls Tryz.prog 34 #[.slice (some ⟨g,0,none⟩) 1 c] w fun e W'=>e = .returned (.tuple #[if z then .string tc else .string ⟨#[]⟩,.bool z,.int .i64 0])∧Below w.heap.size w W':=by
 have O:=Lib.hid hA;clear hA
 go_enter Tryz.func34,Tryz.ntmps34
 go_wp2_with fail
 refine (O.out _ _ ((Below.refl _ w).alloc (Nat.le_refl _) _) (Blk.new w _ _)).mono ?_
 rintro e W1 ⟨rfl,b⟩
 have B1:=Lib.hid (((Below.refl _ w).alloc (Nat.le_refl _) (.cells #[.slice (some ⟨g,0,none⟩) 1 c] 26)).trans (b.mono (by simp)))
 clear b
 obtain ⟨c0,c1⟩:=hc
 have d0:W1.cell? ⟨g,0,none⟩=some (.string tc):=(B1.out.cell (p:=⟨g,0,none⟩) (World.block_lt_of_cell? w _ c0)).trans c0
 have d1:W1.cell? ⟨g,1,none⟩=some (.string tr):=(B1.out.cell (p:=⟨g,1,none⟩) (World.block_lt_of_cell? w _ c1)).trans c1
 clear c0 c1
 cases z
 ·go_wp2
  go_ret3
  exact ⟨rfl,B1.out⟩
 ·go_wp2
  go_ret3
  exact ⟨rfl,B1.out⟩
theorem Value_more (p:Option Addr) (n c:Nat) (w:World)
  (hA:∀ W b,Below w.heap.size w W→Blk W b #[.slice p n c]→Calls Tryz.prog 40 #[.slice (some ⟨b,0,none⟩) 1 1] W fun e W'=>e = .returned (.bool true)∧Below W.heap.size W W') (hn:2≤n) :
  Calls Tryz.prog 34 #[.slice p n c] w fun e W'=>e = .returned (.tuple #[.string ⟨#[]⟩,.bool false,.int .i64 0])∧Below w.heap.size w W':=by
 have O:=Lib.hid hA;clear hA
 have h0:¬ (n:Int)=0:=by omega
 have h1:¬ (n:Int)=1:=by omega
 go_enter Tryz.func34,Tryz.ntmps34
 go_wp2_with fail
 refine (O.out _ _ ((Below.refl _ w).alloc (Nat.le_refl _) _) (Blk.new w _ _)).mono ?_
 rintro e W1 ⟨rfl,b⟩
 have B1:=Lib.hid (((Below.refl _ w).alloc (Nat.le_refl _) (.cells #[.slice p n c] 26)).trans (b.mono (by simp)))
 clear b
 go_wp2
 go_ret3
 exact ⟨rfl,B1.out⟩
end Go.Proofs.YtjdfjgfdbgmbiaaGreatDoor.T
