/- Parts of the proof of the text YtjdfjgfdbgmbiaaGreatDoorHB39. -/
import Derived.Lib.SmallJoins
import Derived.RangeFuncNested
import Derived.RangeFuncBound
import Derived.RangeFuncCalls
import Derived.RangeFuncLeaves
import Derived.RangeFuncBox
import Derived.Shelf.Abstract
import Derived.OwnWalkIn
import Derived.TacticsInMore
import Derived.LoopNIn
import Derived.LoopIn
import Derived.Test.YtjdfjgfdbgmbiaaGreatDoorHB1
import Derived.Test.YtjdfjgfdbgmbiaaGreatDoorHB18
import Derived.Test.YtjdfjgfdbgmbiaaGreatDoorHB22
import Derived.Test.YtjdfjgfdbgmbiaaGreatDoorHB23
import Derived.Test.YtjdfjgfdbgmbiaaGreatDoorHB26
set_option linter.all false
set_option maxRecDepth 100000
set_option maxHeartbeats 8000000
namespace Go.Proofs.YtjdfjgfdbgmbiaaGreatDoor.T
open Go.Proofs.YtjdfjgfdbgmbiaaGreatDoor Go Go.RowKit
theorem isNormal_core (r:ByteArray) (w:World)
  (h1:∀ W,Below w.heap.size w W→Calls Tryz.prog 136 #[.string r] W fun e W'=>e = .returned (.tuple #[.string ⟨#[49]⟩,.string r,.int .i64 0])∧Below W.heap.size W W') :
  Calls Tryz.prog 110 #[.string r] w fun e W'=>e = .returned (.bool true)∧Below w.heap.size w W':=by
 have O:=Lib.hid h1;clear h1
 go_enter Tryz.func110,Tryz.ntmps110
 go_wp2_with fail
 refine (O.out _ (Below.refl _ _)).mono ?_
 rintro e v1 ⟨rfl,b⟩
 have B:=Lib.hid b;clear b
 go_wp2
 go_ret
 exact ⟨rfl,B.out⟩
theorem ratio_same (p:ByteArray) (w:World) :
  Calls Tryz.prog 112 #[.string p,.string p] w fun e W'=>e = .returned (.tuple #[.string ⟨#[49]⟩,.bool true])∧Below w.heap.size w W':=by
 go_enter Tryz.func112,Tryz.ntmps112
 go_wp2
 go_ret2
 exact ⟨rfl,Below.refl _ _⟩
theorem ratio_short (p q:ByteArray) (w:World) (hne:(p.toList==q.toList)=false) (hp:p.size≤4) (hq:q.size≤4) :
  Calls Tryz.prog 112 #[.string p,.string q] w fun e W'=>e = .returned (.tuple #[.string ⟨#[]⟩,.bool false])∧Below w.heap.size w W':=by
 have y1:¬ (4:Int)<p.size:=by omega
 have y2:¬ (4:Int)<q.size:=by omega
 clear hp hq
 go_enter Tryz.func112,Tryz.ntmps112
 go_wp2
 go_ret2
 exact ⟨rfl,Below.refl _ _⟩
theorem ratio_long (p q c:ByteArray) (f:Bool) (w:World) (hne:(p.toList==q.toList)=false) (hs:4<p.size∨4<q.size) (hp:p.size≤1000) (hq:q.size≤1000)
  (h1:∀ W,Below w.heap.size w W→Calls Tryz.prog 139 #[.string p,.string q] W fun e W'=>e = .returned (.tuple #[.string c,.bool f,.int .i64 0])∧Below W.heap.size W W') :
  Calls Tryz.prog 112 #[.string p,.string q] w fun e W'=>e = .returned (.tuple #[.string c,.bool f])∧Below w.heap.size w W':=by
 have O:=Lib.hid h1;clear h1
 by_cases k:4<p.size
 ·have y1:(4:Int)<p.size:=by omega
  clear k hs hp hq
  go_enter Tryz.func112,Tryz.ntmps112
  go_wp2_with fail
  refine (O.out _ (Below.refl _ _)).mono ?_
  rintro e v1 ⟨rfl,b⟩
  have B:=Lib.hid b;clear b
  go_wp2
  go_ret2
  exact ⟨rfl,B.out⟩
 ·have y1:¬ (4:Int)<p.size:=by omega
  have y2:(4:Int)<q.size:=by omega
  clear k hs hp hq
  go_enter Tryz.func112,Tryz.ntmps112
  go_wp2_with fail
  refine (O.out _ (Below.refl _ _)).mono ?_
  rintro e v1 ⟨rfl,b⟩
  have B:=Lib.hid b;clear b
  go_wp2
  go_ret2
  exact ⟨rfl,B.out⟩
theorem checkTerm_core (c r:ByteArray) (w:World) (hz:(c.toList == [48])=false)
  (h1:∀ W,Below w.heap.size w W→Calls Tryz.prog 93 #[.agg #[.string c,.string r]] W fun e W'=>e = .returned (.int .i64 0)∧Below W.heap.size W W')
  (h2:∀ W,Below w.heap.size w W→Calls Tryz.prog 109 #[.agg #[.string c,.string r]] W fun e W'=>e = .returned (.bool false)∧Below W.heap.size W W')
  (h3:∀ W,Below w.heap.size w W→Calls Tryz.prog 110 #[.string r] W fun e W'=>e = .returned (.bool true)∧Below W.heap.size W W') :
  Calls Tryz.prog 84 #[.agg #[.string c,.string r]] w fun e W'=>e = .returned (.int .i64 0)∧Below w.heap.size w W':=by
 have O:=Lib.hid (And.intro h1 (And.intro h2 h3));clear h1 h2 h3
 go_enter Tryz.func84,Tryz.ntmps84
 go_wp2_with fail
 have HB:=Lib.hid (And.intro (Blk.new w #[.string c,.string r] 50) ((Below.refl _ w).alloc (Nat.le_refl _) (.cells #[.string c,.string r] 50)))
 generalize w.alloc (.cells #[.string c,.string r] 50)=W0 at *
 generalize hk:w.heap.size=k at *
 have HK:=Lib.hid hk;clear hk
 have e0:=(show World.cell? _ ⟨k,0,none⟩=some (.string c) from HB.out.1.cell 0 _ rfl);have e1:=(show World.cell? _ ⟨k,1,none⟩=some (.string r) from HB.out.1.cell 1 _ rfl)
 refine (O.out.1 _ HB.out.2).mono ?_
 rintro e v1 ⟨rfl,b⟩
 have HN:=Lib.hid (And.intro (HB.out.1.next b) (HB.out.2.trans (b.mono (by have h1:=HB.out.2.size;have h2:=HK.out;omega))));clear HB b;have HB:=HN;clear HN;have e0:=(show World.cell? _ ⟨k,0,none⟩=some (.string c) from HB.out.1.cell 0 _ rfl);have e1:=(show World.cell? _ ⟨k,1,none⟩=some (.string r) from HB.out.1.cell 1 _ rfl)
 go_wp2_with fail
 refine (O.out.2.1 _ HB.out.2).mono ?_
 rintro e v2 ⟨rfl,b⟩
 have HN:=Lib.hid (And.intro (HB.out.1.next b) (HB.out.2.trans (b.mono (by have h1:=HB.out.2.size;have h2:=HK.out;omega))));clear HB b;have HB:=HN;clear HN;have e0:=(show World.cell? _ ⟨k,0,none⟩=some (.string c) from HB.out.1.cell 0 _ rfl);have e1:=(show World.cell? _ ⟨k,1,none⟩=some (.string r) from HB.out.1.cell 1 _ rfl)
 go_wp2_with fail
 refine (O.out.2.2 _ HB.out.2).mono ?_
 rintro e v3 ⟨rfl,b⟩
 have HN:=Lib.hid (And.intro (HB.out.1.next b) (HB.out.2.trans (b.mono (by have h1:=HB.out.2.size;have h2:=HK.out;omega))));clear HB b;have HB:=HN;clear HN;have e0:=(show World.cell? _ ⟨k,0,none⟩=some (.string c) from HB.out.1.cell 0 _ rfl);have e1:=(show World.cell? _ ⟨k,1,none⟩=some (.string r) from HB.out.1.cell 1 _ rfl)
 go_wp2
 go_ret
 have hb:=HB.out.2
 rw [←HK.out] at hb
 exact ⟨rfl,hb⟩
theorem checkPlace_core (r:ByteArray) (l:List Tm) (p:Option Addr) (n c:Nat) (w:World) (hn:n=l.length) (h100:n≤100) (hx:Rd w p l) (x:Int) (hx0:0<x)
  (h1:∀ j,j<l.length→∀ W,Below w.heap.size w W→Calls Tryz.prog 111 #[.string r,.string (strQ (tat l j).2)] W fun e W'=>e = .returned (.int .i64 x)∧Below W.heap.size W W')
  (h2:∀ j,j<l.length→∀ W,Below w.heap.size w W→Calls Tryz.prog 112 #[.string r,.string (strQ (tat l j).2)] W fun e W'=>e = .returned (.tuple #[.string ⟨#[]⟩,.bool false])∧Below W.heap.size W W') :
  Calls Tryz.prog 85 #[.string r,.slice p n c] w fun e W'=>e = .returned (.int .i64 0)∧Below w.heap.size w W':=by
 rw [←hn] at h1 h2
 have O:=Lib.hid (And.intro h1 h2);clear h1 h2
 rcases n with _ | m
 ·clear hx O hn
  go_enter Tryz.func85,Tryz.ntmps85
  go_wp2
  go_rounds 1
  all_goals go_ret
  all_goals exact ⟨rfl,Below.refl _ _⟩
 ·obtain ⟨b,rfl,ht⟩:=hx (by omega)
  have HT:=Lib.hid (And.intro ht.lt (And.intro (fun j (hj:j<m+1)=>ht.c0 j (by omega)) (fun j (hj:j<m+1)=>ht.c1 j (by omega))))
  have y0:¬ x≤0:=by omega
  have y1:(0:Int)<m+1:=by omega
  have d1:=ht.c1 m (by omega)
  clear hx ht hn
  go_enter Tryz.func85,Tryz.ntmps85
  go_wp2_with fail
  refine (O.out.1 m (by omega) _ (Below.refl _ _)).mono ?_
  rintro e v1 ⟨rfl,bb⟩
  have B:=Lib.hid bb;clear bb d1
  go_wp2
  go_loopw [26] (fun i wr=>∃ j:Nat,i = .int .i64 j∧j≤m+1∧Hid (Below w.heap.size w wr)) (fun i _=>m+1 - (intOf i).toNat)
  case atStart=>exact ⟨0,rfl,by omega,B.out⟩
  case round =>
   obtain ⟨j,rfl,hj,HB⟩:=hrel
   by_cases hlt:j<m+1
   ·have hz:(j:Int)<m+1:=by omega
    have d0:=(HB.out.cell (p:=⟨b,j*2,none⟩) HT.out.1).trans (HT.out.2.1 j hlt)
    have d1:=(HB.out.cell (p:=⟨b,j*2+1,none⟩) HT.out.1).trans (HT.out.2.2 j hlt)
    go_wp2_with fail
    have hk:=Blk.new wr #[.string (strQ (tat l j).1),.string (strQ (tat l j).2)] 50
    have HN:=Lib.hid (HB.out.alloc HB.out.size (.cells #[.string (strQ (tat l j).1),.string (strQ (tat l j).2)] 50))
    clear HB
    generalize wr.alloc (.cells #[.string (strQ (tat l j).1),.string (strQ (tat l j).2)] 50)=u at *
    generalize wr.heap.size=k at *
    have e1:=(show World.cell? _ ⟨k,1,none⟩=some (.string (strQ (tat l j).2)) from hk.cell 1 _ rfl)
    go_wp2_with fail
    refine (O.out.2 j (by omega) _ HN.out).mono ?_
    rintro e w' ⟨rfl,bb⟩
    have HB2:=Lib.hid (HN.out.trans (bb.mono HN.out.size));clear bb HN
    go_wp2
    go_roundw
    case rel=>exact ⟨j+1,by go_num,by omega,HB2.out⟩
    case measure=>simp [intOf];omega
   ·have hz:¬ (j:Int)<m+1:=by omega
    go_wp2
    go_ret
    exact ⟨rfl,HB.out⟩
end Go.Proofs.YtjdfjgfdbgmbiaaGreatDoor.T
namespace Go.Proofs.YtjdfjgfdbgmbiaaGreatDoor.T
open Go.Proofs.YtjdfjgfdbgmbiaaGreatDoor Go.RowKit Go.Lib Go.Shelf Go.Sort Go
theorem parseM (M:Nat) (hM:M<18446744073709551616):∀ (l:List UInt8) (acc:Nat),(∀ c∈l,isDig c=true)→acc*10 ^ l.length+natOf l≤M→Lib.parseUintM M acc l = .ok (acc*10 ^ l.length+natOf l)
 | [],acc,_,_=>by rw [List.length_nil,Nat.pow_zero,Nat.mul_one,natOf_nil,Nat.add_zero];rfl
 | c::r,acc,h,hb=>by
  have hc:=isDig_b (h c (by simp))
  have hN:acc*10 ^ (c::r).length+natOf (c::r)=(acc*10+(c.toNat - 48))*10 ^ r.length+natOf r:=by
   rw [natOf_cons',List.length_cons,Nat.pow_succ,Nat.add_mul,Nat.mul_assoc acc 10,Nat.mul_comm 10 (10 ^ r.length)];omega
  rw [hN] at hb ⊢
  have hp:1≤10 ^ r.length:=Nat.pos_of_ne_zero (by simp)
  have hge:acc*10+(c.toNat - 48)≤(acc*10+(c.toNat - 48))*10 ^ r.length:=Nat.le_mul_of_pos_right _ hp
  unfold Lib.parseUintM
  rw [if_pos hc,if_neg (by omega),if_neg (by omega)]
  exact parseM M hM r _ (fun x hx=>h x (by simp [hx])) hb
theorem parse_dec {m:Nat} (h:m<18446744073709551616):Lib.parseUintB 64 (decDigits m) = .ok m:=by
 unfold Lib.parseUintB
 rw [if_neg (decDigits_ne m),parseM _ (by decide) _ 0 (decDigits_dig m) (by rw [natOf_dec];omega),natOf_dec]
 simp
theorem parse_u (m:Nat) (w:World) (h:m<18446744073709551616) :
  Calls Tryz.prog 248 #[.string (strB (m:Nat)),.int .i64 10,.int .i64 64] w fun e W'=>e = .returned (.tuple #[.int .u64 m,.nilIface])∧Below w.heap.size w W':=by
 have hs:(strB (m:Nat)).size≤301:=strB_size (small_lim (by rw [Int.natAbs_natCast];omega))
 refine (Tryz.strconv_ParseUint_10_at64_ok (strB (m:Nat)) (by omega) m (by rw [strB_data,Lib.itoa_nonneg,parse_dec h]) w).mono ?_
 rintro e W' ⟨he,rfl | rfl⟩
 ·exact ⟨he,Below.refl _ _⟩
 ·exact ⟨he,Go.Joins.below_bytesWorld _ _ _ _ (Nat.le_refl _)⟩
theorem fmt_in (u:Nat) (hu:u<18446744073709551616) (w:World) (ht:Tab w) :
  Calls Tryz.prog 261 #[.int .u64 u,.int .i64 10] w fun e W'=>e = .returned (.string (strB (u:Nat)))∧Below w.heap.size w W':=by
 have hstr:strB (u:Nat)=⟨(Lib.decDigits u).toArray⟩:=by unfold strB;rw [Lib.itoa_nonneg]
 rw [hstr]
 clear hstr
 by_cases hs:u<100
 ·have C:=Lib.hid (fun W=>Tryz.internal_strconv_small u hs W)
  have iu:(u:Int)<100:=by omega
  have i0:(0:Int)≤u:=by omega
  clear hs
  generalize (⟨(Lib.decDigits u).toArray⟩:ByteArray)=r at *
  go_enter Tryz.func261,Tryz.ntmps261
  go_wp2_with fail
  refine (C.out _).mono ?_
  rintro e w' ⟨rfl,rfl⟩
  go_wp2
  go_ret
  exact ⟨rfl,Below.refl _ _⟩
 ·have hu1:1≤u:=by omega
  have iu:¬ (u:Int)<100:=by omega
  have hnd20:Lib.nDigits u≤20:=by have:=Lib.numDigits_eq u hu1 hu;split at this <;> omega
  have hsl:∀ W,(Instr.sliceAt 178 (.pointer (some ⟨w.heap.size,0,none⟩)) none (some (.int .i64 (Lib.nDigits u:Int))) none).run Tryz.prog W = .ok (.slice (some ⟨w.heap.size,0,none⟩) (Lib.nDigits u) 24) W:=fun W=>by
   rw [run_sliceAt_array_h W 178 ⟨w.heap.size,0,none⟩ (by kernel_rfl) .i64 (Lib.nDigits u:Int) (by omega) (by rw [show Tryz.prog.arrayLen 178=24 by kernel_rfl];omega)]
   rw [show Tryz.prog.arrayLen 178=24 by kernel_rfl]
   go_simp
  have hH0:=Lib.holds_zero0 w 178 (Lib.nDigits u) (by omega)
  have hfmt:=Tryz.internal_strconv_formatBase10 w.heap.size 0 24 u (Array.replicate (Lib.nDigits u) 0) (w.alloc (.cells Lib.zeros24 178)) hH0 (by rw [Array.size_replicate];exact Lib.lt_pow_nDigits u) hu (by rw [Array.size_replicate];omega)
  rw [Array.size_replicate] at hfmt
  have hnum:=Tryz.internal_strconv_numDigits u hu1 hu (w.alloc (.cells Lib.zeros24 178)) (Lib.tabIs_alloc ht _)
  have HH:=Lib.hid (And.intro hH0 (And.intro hfmt hnum))
  clear hH0 hfmt hnum
  go_enter Tryz.func261,Tryz.ntmps261
  go_wp2_with fail
  refine HH.out.2.2.mono ?_
  rintro e w' ⟨rfl,rfl⟩
  go_wp2_with fail
  refine HH.out.2.1.mono ?_
  rintro e w' ⟨rfl,k,v',dk,rfl,hF⟩
  have hcv:(convert 152 9 (.slice (some ⟨w.heap.size,0,none⟩) (Lib.nDigits u) 24)).run Tryz.prog ((putRow (fun (b:UInt8)=>Value.int .u8 (b.toNat:Int)) (w.alloc (.cells Lib.zeros24 178)) w.heap.size 0 dk).drewN k) = .ok (.string ⟨(Lib.decDigits u).toArray⟩) ((putRow (fun (b:UInt8)=>Value.int .u8 (b.toNat:Int)) (w.alloc (.cells Lib.zeros24 178)) w.heap.size 0 dk).drewN k):=by
   have h:=run_convert_bytes_back (P:=Tryz.prog) ((putRow (fun (b:UInt8)=>Value.int .u8 (b.toNat:Int)) (w.alloc (.cells Lib.zeros24 178)) w.heap.size 0 dk).drewN k) 152 9 5 ⟨w.heap.size,0,none⟩ 24 (Lib.decDigits u) Tryz.underlying152 Tryz.underlying5 Tryz.underlying9 (fun j hj=>by
    rw [Lib.row_is_numeral hF j hj,Lib.add_plain,World.cell?_drewN]
    exact cell?_putRow (fun (b:UInt8)=>Value.int .u8 (b.toNat:Int)) _ w.heap.size 0 _ dk HH.out.1 (by rw [hF.size,Array.size_replicate]) j (by rw [hF.size];rw [Lib.decDigits_length] at hj;exact hj))
   rw [Lib.decDigits_length] at h
   exact h
  obtain ⟨os,eo⟩:=Lib.fin_at w (.cells Lib.zeros24 178) dk k 0
  have hbl:Below w.heap.size w ((putRow (fun (b:UInt8)=>Value.int .u8 (b.toNat:Int)) (w.alloc (.cells Lib.zeros24 178)) w.heap.size 0 dk).drewN k):=by rw [eo];exact Lib.below_grow _ _ (Nat.le_refl _) _ _
  generalize (putRow (fun (b:UInt8)=>Value.int .u8 (b.toNat:Int)) (w.alloc (.cells Lib.zeros24 178)) w.heap.size 0 dk).drewN k=W2 at *
  have HB:=Lib.hid hbl
  clear hbl eo
  go_wp2
  go_ret
  exact ⟨rfl,HB.out⟩
theorem fmt_u (u:Nat) (hu:u<18446744073709551616) (w:World) (ht:Tab w) :
  Calls Tryz.prog 250 #[.int .u64 u,.int .i64 10] w fun e W'=>e = .returned (.string (strB (u:Nat)))∧Below w.heap.size w W':=by
 have C:=Lib.hid (fmt_in u hu w ht);clear ht
 generalize strB (u:Nat)=r at *
 go_enter Tryz.func250,Tryz.ntmps250
 go_wp2_with fail
 refine C.out.mono ?_
 rintro e w' ⟨rfl,b⟩
 have B1:=Lib.hid b;clear b
 go_wp2
 go_ret
 exact ⟨rfl,B1.out⟩
end Go.Proofs.YtjdfjgfdbgmbiaaGreatDoor.T
namespace Go.Proofs.YtjdfjgfdbgmbiaaGreatDoor.T
open Go Go.RowKit Go.Shelf
variable {P:Program} {F:Fence} {n:Nat}
structure Kb (b:Nat) (A B:World):Prop where
 size:A.heap.size≤B.heap.size
 same:∀ k o,b≤k→A.heap[k]? = some o→o.isCells=true→B.heap[k]? = some o
theorem Kb.refl (b:Nat) (A:World):Kb b A A:=⟨Nat.le_refl _,fun _ _ _ h _=>h⟩
theorem Kb.trans {b:Nat} {A B C:World} (h:Kb b A B) (k:Kb b B C):Kb b A C:=⟨Nat.le_trans h.size k.size,fun i o hb hi hc=>k.same i o hb (h.same i o hb hi hc) hc⟩
theorem Kb.put {b:Nat} {A:World} {l:Nat} {o o':Obj} (hl:A.heap[l]? = some o) (ho:o.isCells=false):Kb b A (A.putObj l o') :=
 ⟨by simp,fun k u _ hk hc=>by
  have hne:k≠l:=fun e=>by rw [e,hl] at hk;cases hk;rw [ho] at hc;cases hc
  exact (World.putObj_heap_other hne).trans hk⟩
theorem Kb.of_below {b:Nat} {A B:World} (h:Below A.heap.size A B):Kb b A B :=
 ⟨h.size,fun k o _ hk _=>(h.block k (Array.getElem?_eq_some_iff.1 hk).1).trans hk⟩
theorem Kb.cell_below {b:Nat} {A:World} {p:Addr} (hp:p.block<b) (v:Value):Kb b A (A.setCell p v) :=
 ⟨by simp [World.setCell],fun k o hb hk _=>(Below.heap_setCell _ _ _ _ (by omega)).trans hk⟩
theorem grownB {a b:World} (h:Below a.heap.size a b):a.grownBy b none:=⟨h.os,h.tape,h.output,h.size,fun k hk _=>h.block k hk⟩
theorem Kb.of_grown {b:Nat} {A B:World} (h:A.grownBy B none):Kb b A B :=
 ⟨h.size,fun k o _ hk _=>(h.block k (Array.getElem?_eq_some_iff.1 hk).1 (fun e=>by cases e)).trans hk⟩
theorem Kb.alloc (b:Nat) (A:World) (o:Obj):Kb b A (A.alloc o):=Kb.of_below ((Below.refl _ A).alloc (Nat.le_refl _) o)
def Hands {α:Type} (F:Fence) (n:Nat) (P:Program) (g:Nat) (fs:Array Value) (encs:α→Array Value) (xs:List α) (w:World):Prop :=
 ∀ (l:Nat) (J Jx:List α→World→Prop) (W:World),Below w.heap.size w W→(∀ s A o,J s A→J s (A.alloc o))→(∀ s A,J s A→J s A.drew) →
  (∀ pre x r W1,xs=pre++x::r→J pre W1→YieldAt F (n - 1) P l (encs x) W1 fun e W' =>
   (e = .returned (.bool true)∧J (pre ++ [x]) W'∧(r ≠ []→Kb w.heap.size W1 W'))∨(e = .returned (.bool false)∧Jx (pre ++ [x]) W')) →
  J [] W→CallsIn F n P g (fs ++ #[.func (.yield l) #[] #[]]) W fun e W'=>(∃ v,e = .returned v)∧(J xs W'∨∃ pre r,xs=pre++r∧Jx pre W')
theorem range_mv {α:Type} {g:Operand} {ps:Array Tmp} {assign body:Code} {Q:Exit→Act→World→Prop} {a:Act} {w:World}
  (hro:F.round=none) (h1:1≤n) {gf:Nat} {fs:Array Value} (hg:a.eval g = .func (.func gf) fs #[]) (hFg:F.fn gf) (eg:∀ args w,(callFunc gf args).run P w = .ok (.enter gf args) w)
  {encs:α→Array Value} {xs:List α} (hh:Hands F (n - 1) P gf fs encs xs w) (hps:∀ x,(encs x).size=ps.size) (sc:Code) (hsc:sc = .ret∨∃ id,sc = .exit id)
  (I Ix:List α→World→Prop) (hI:OwnFrom w.heap.size I) (hIx:OwnFrom w.heap.size Ix) (hId:∀ s A,I s A→I s A.drew) (h0:I [] w) (a₁:α→Act)
  (hassign:∀ (l:Nat) (x:α) (W:World) (K:Act→World→Prop),K (a₁ x) W →
   assign.wpIn (F.inRound l) (n - 1 - 1) P (Exit.then K (fun _ _ _=>False)) { tmps:=(ps.zip (encs x)).foldl (fun t (p,v)=>t.setIfInBounds p v) a.tmps,defers := [] } W)
  (hbody:∀ (l:Nat) (pre:List α) (x:α) (r:List α) (W:World),w.heap.size≤W.heap.size→xs=pre++x::r→I pre W →
   body.wpIn (F.inRound l) (n - 1 - 1) P (ownPostG w.heap.size (fun A B=>r ≠ []→Kb w.heap.size A B) I (fun c s W=>c=sc∧Ix s W) (pre ++ [x]) W) (a₁ x) W)
  (hdone:∀ (D:Nat) (W:World),w.heap.size≤D→I xs W→W.heap[D]? = some (.deferred (some []))→Q .normal { a with defers:={ target := .collected D,args := #[] }::a.defers } W)
  (hstop:∀ (D:Nat) (pre r:List α) (W:World),w.heap.size≤D→xs=pre++r→Ix pre W→W.heap[D]? = some (.deferred (some []))→sc.wpIn F n P Q { a with defers:={ target := .collected D,args := #[] }::a.defers } W) :
  (Code.rangeFunc g ps assign body).wpIn F n P Q a w:=by
 refine wpIn_rangeFunc fun fn hfn => ?_
 rw [hro]
 let R:LoopState→Option Code→Obj:=fun s p => .loop { state:=s,pending:=p,fn:=fn,tmps:=a.tmps,params:=ps,assign:=assign,body:=body,defers:=w.heap.size }
 have nc:∀ s p,(R s p).isCells=false:=fun _ _=>rfl
 let W1:=(w.alloc (.deferred (some []))).alloc (R .ready none)
 have z1:W1.heap.size=w.heap.size+2:=by simp [W1]
 let own:LoopState→Option Code→World→Prop:=fun s p W=>W.heap[w.heap.size+1]? = some (R s p)∧W.heap[w.heap.size]? = some (.deferred (some []))
 have own_lt:∀ {s p W},own s p W→w.heap.size+1<W.heap.size:=fun h=>(Array.getElem?_eq_some_iff.1 h.1).1
 have own_put:∀ {s p W} (s':LoopState) (p':Option Code),own s p W→own s' p' (W.putObj (w.heap.size+1) (R s' p')):=fun s' p' h =>
  ⟨World.putObj_heap_same (own_lt h),(World.putObj_heap_other (by omega)).trans h.2⟩
 have own_alloc:∀ {s p W} (o:Obj),own s p W→own s p (W.alloc o):=fun o h =>
  ⟨(Below.heap_alloc _ o _ (own_lt h)).trans h.1,(Below.heap_alloc _ o _ (by have:=own_lt h;omega)).trans h.2⟩
 have own_keeps:∀ {s p W W'},KeepsFrom w.heap.size W W'→own s p W→own s p W':=fun hk h=>⟨hk.same _ _ (by omega) h.1 rfl,hk.same _ _ (Nat.le_refl _) h.2 rfl⟩
 have own1:own .ready none W1:=by
  refine ⟨?_,?_⟩
  ·have:=World.alloc_heap_new (w.alloc (.deferred (some []))) (R .ready none)
   rwa [World.size_alloc] at this
  ·exact (Below.heap_alloc _ _ _ (by simp)).trans (World.alloc_heap_new w _)
 refine ⟨w.heap.size+1,[{ target := .collected w.heap.size,args := #[] }],W1,{ target := .fn (.func gf) #[],args:=fs ++ #[.func (.yield (w.heap.size+1)) #[] #[]] },W1,gf,
  fs ++ #[.func (.yield (w.heap.size+1)) #[] #[]],W1,run_enterLoop_outer _ _ _ _ _,?_,?_,?_,fun _=>h1,?_⟩
 ·simp only [resolve,hg]
  simp [go_sem]
 ·intro f' hf'
  simp [Target.leads] at hf'
  subst hf';exact hFg
 ·simp [invoke,go_sem,eg]
 have run:CallsIn F (n - 1) P gf (fs ++ #[.func (.yield (w.heap.size+1)) #[] #[]]) W1 fun e W'=>(∃ v,e = .returned v) ∧
   ((I xs W'∧own .ready none W')∨∃ pre r,xs=pre++r∧(Ix pre W'∧own .done (some sc) W')):=by
  refine hh (w.heap.size+1) (fun s W=>I s W∧own .ready none W) (fun s W=>Ix s W∧own .done (some sc) W) W1 ((((Below.refl _ w).alloc (Nat.le_refl _) _).alloc (by simp) _))
   (fun s A o h=>⟨hI.alloc o h.1,own_alloc o h.2⟩) (fun s A h=>⟨hId s A h.1,h.2⟩) ?_ ⟨hI.alloc _ (hI.alloc _ h0),own1⟩
  rintro pre x r W hx ⟨hi,ho⟩
  have lt:=own_lt ho
  refine ⟨fn,_,assign,body,run_yield (P:=P) (args:=encs x) ho.1 (hps x),roundIn_of_wpIn hfn (hassign _ x W _ ?_)⟩
  refine ⟨_,run_beginRound ho.1 rfl,?_⟩
  have hb:=own_put .busy none ho
  have k1:Kb w.heap.size W (W.putObj (w.heap.size+1) (R .busy none)):=Kb.put ho.1 rfl
  refine wpIn_mono (hbody _ pre x r (W.putObj (w.heap.size+1) (R .busy none)) (by have:=own_lt hb;omega) hx (hI.putObj _ hi (by omega) ho.1 rfl)) ?_
  intro e a3 W3 hp
  cases e with
  | normal =>
   obtain ⟨h3,h4,h5⟩:=hp
   have ho3:=own_keeps h3 hb
   exact ⟨_,_,run_endRound none ho3.1,.inl ⟨rfl,⟨hI.putObj _ h5 (by omega) ho3.1 rfl,own_put .ready none ho3⟩,fun hr=>k1.trans ((h4 hr).trans (Kb.put ho3.1 rfl))⟩⟩
  | ret =>
   obtain ⟨h3,h4,h5⟩:=hp
   subst h4
   have ho3:=own_keeps h3 hb
   exact ⟨_,_,run_endRound (some .ret) ho3.1,.inr ⟨rfl,hIx.putObj _ h5 (by omega) ho3.1 rfl,own_put .done (some .ret) ho3⟩⟩
  | exit id =>
   obtain ⟨h3,h4,h5⟩:=hp
   subst h4
   have ho3:=own_keeps h3 hb
   exact ⟨_,_,run_endRound (some (.exit id)) ho3.1,.inr ⟨rfl,hIx.putObj _ h5 (by omega) ho3.1 rfl,own_put .done (some (.exit id)) ho3⟩⟩
  | goto t =>
   obtain ⟨_,h4,_⟩:=hp
   rcases hsc with rfl | ⟨id,rfl⟩ <;> cases h4
  | panic ch=>exact hp.elim
  | outgrown=>exact hp.elim
 refine run.mono ?_
 rintro e W2 ⟨⟨v,rfl⟩,(⟨hi,ho⟩ | ⟨pre,r,hx,hi,ho⟩)⟩
 ·exact ⟨none,_,run_endLoop ho.1 (by simp),hdone _ _ (Nat.le_refl _) (hI.putObj _ hi (by omega) ho.1 rfl) ((World.putObj_heap_other (by omega)).trans ho.2)⟩
 ·exact ⟨some sc,_,run_endLoop ho.1 (by simp),hstop _ pre r _ (Nat.le_refl _) hx (hIx.putObj _ hi (by omega) ho.1 rfl) ((World.putObj_heap_other (by omega)).trans ho.2)⟩
end Go.Proofs.YtjdfjgfdbgmbiaaGreatDoor.T
namespace Go.Proofs.YtjdfjgfdbgmbiaaGreatDoor.T
open Go.Proofs.YtjdfjgfdbgmbiaaGreatDoor Go Go.RowKit Go.Shelf
def A25:Array Value := #[.int .u64 2,.int .u64 3,.int .u64 5,.int .u64 7,.int .u64 11,.int .u64 13,.int .u64 17,.int .u64 19,.int .u64 23,.int .u64 29,.int .u64 31,.int .u64 37,.int .u64 41,.int .u64 43,.int .u64 47,.int .u64 53,.int .u64 59,.int .u64 61,.int .u64 67,.int .u64 71,.int .u64 73,.int .u64 79,.int .u64 83,.int .u64 89,.int .u64 97]
def Sm (w:World):Prop:=∃ t fr,w.heap[4]? = some (.cells A25 t fr)
theorem Sm.next {w W:World} (h:Sm w) (b:Below w.heap.size w W):Sm W:=by
 obtain ⟨t,fr,h⟩:=h
 exact ⟨t,fr,(b.block _ (Array.getElem?_eq_some_iff.1 h).1).trans h⟩
theorem wpListIn_load_row {F:Fence} {n:Nat} {P:Program} {w:World} {ops:Array Oper} {rest:List Oper} {o:Oper} {a:Act} {Q:Exit→Act→World→Prop} (hgd:o.guard=none) (ty:TypeId) (x:Operand) (ho:o.op = .load ty x)
  (v:Value) (hx:(Instr.loadAt ty (a.eval x)).run P w = .ok v w) (h:wpListIn F n P ops Q rest (a.put o.dst v) w):wpListIn F n P ops Q (o::rest) a w:=by
 refine wpListIn_plain hgd fun K hK => ?_
 unfold Oper.wpIn
 refine ⟨by simp [Oper.about,ho],?_⟩
 rw [Oper.semAt_plain F _ _ (by rw [ho];intro c hc';cases hc')]
 simp [execOp,ho,hx,Result.andThen]
 exact hK _ _ h
theorem load25 {W:World} (h:Sm W):(Instr.loadAt 299 (.pointer (some ⟨4,0,none⟩))).run Tryz.prog W = .ok (.agg A25) W:=by
 obtain ⟨t,fr,h⟩:=h
 simp only [Instr.loadAt,Instr.sureAddr,Sem.run_bind,Sem.run_pure,Result.andThen_ok]
 exact run_loadVar_row W _ t 299 A25 fr _ h Tryz.underlying299 rfl (by kernel_rfl)
theorem idx_0 (W:World):(Instr.index 299 (.agg A25) (.int .i64 0)).run Tryz.prog W = .ok (.int .u64 2) W:=by kernel_rfl
theorem idx_1 (W:World):(Instr.index 299 (.agg A25) (.int .i64 1)).run Tryz.prog W = .ok (.int .u64 3) W:=by kernel_rfl
theorem idx_2 (W:World):(Instr.index 299 (.agg A25) (.int .i64 2)).run Tryz.prog W = .ok (.int .u64 5) W:=by kernel_rfl
theorem idx_3 (W:World):(Instr.index 299 (.agg A25) (.int .i64 3)).run Tryz.prog W = .ok (.int .u64 7) W:=by kernel_rfl
theorem idx_4 (W:World):(Instr.index 299 (.agg A25) (.int .i64 4)).run Tryz.prog W = .ok (.int .u64 11) W:=by kernel_rfl
theorem idx_5 (W:World):(Instr.index 299 (.agg A25) (.int .i64 5)).run Tryz.prog W = .ok (.int .u64 13) W:=by kernel_rfl
theorem idx_6 (W:World):(Instr.index 299 (.agg A25) (.int .i64 6)).run Tryz.prog W = .ok (.int .u64 17) W:=by kernel_rfl
theorem idx_7 (W:World):(Instr.index 299 (.agg A25) (.int .i64 7)).run Tryz.prog W = .ok (.int .u64 19) W:=by kernel_rfl
theorem idx_8 (W:World):(Instr.index 299 (.agg A25) (.int .i64 8)).run Tryz.prog W = .ok (.int .u64 23) W:=by kernel_rfl
theorem idx_9 (W:World):(Instr.index 299 (.agg A25) (.int .i64 9)).run Tryz.prog W = .ok (.int .u64 29) W:=by kernel_rfl
theorem idx_10 (W:World):(Instr.index 299 (.agg A25) (.int .i64 10)).run Tryz.prog W = .ok (.int .u64 31) W:=by kernel_rfl
theorem idx_11 (W:World):(Instr.index 299 (.agg A25) (.int .i64 11)).run Tryz.prog W = .ok (.int .u64 37) W:=by kernel_rfl
theorem idx_12 (W:World):(Instr.index 299 (.agg A25) (.int .i64 12)).run Tryz.prog W = .ok (.int .u64 41) W:=by kernel_rfl
theorem idx_13 (W:World):(Instr.index 299 (.agg A25) (.int .i64 13)).run Tryz.prog W = .ok (.int .u64 43) W:=by kernel_rfl
theorem idx_14 (W:World):(Instr.index 299 (.agg A25) (.int .i64 14)).run Tryz.prog W = .ok (.int .u64 47) W:=by kernel_rfl
theorem idx_15 (W:World):(Instr.index 299 (.agg A25) (.int .i64 15)).run Tryz.prog W = .ok (.int .u64 53) W:=by kernel_rfl
theorem idx_16 (W:World):(Instr.index 299 (.agg A25) (.int .i64 16)).run Tryz.prog W = .ok (.int .u64 59) W:=by kernel_rfl
theorem idx_17 (W:World):(Instr.index 299 (.agg A25) (.int .i64 17)).run Tryz.prog W = .ok (.int .u64 61) W:=by kernel_rfl
theorem idx_18 (W:World):(Instr.index 299 (.agg A25) (.int .i64 18)).run Tryz.prog W = .ok (.int .u64 67) W:=by kernel_rfl
theorem idx_19 (W:World):(Instr.index 299 (.agg A25) (.int .i64 19)).run Tryz.prog W = .ok (.int .u64 71) W:=by kernel_rfl
theorem idx_20 (W:World):(Instr.index 299 (.agg A25) (.int .i64 20)).run Tryz.prog W = .ok (.int .u64 73) W:=by kernel_rfl
theorem idx_21 (W:World):(Instr.index 299 (.agg A25) (.int .i64 21)).run Tryz.prog W = .ok (.int .u64 79) W:=by kernel_rfl
theorem idx_22 (W:World):(Instr.index 299 (.agg A25) (.int .i64 22)).run Tryz.prog W = .ok (.int .u64 83) W:=by kernel_rfl
theorem idx_23 (W:World):(Instr.index 299 (.agg A25) (.int .i64 23)).run Tryz.prog W = .ok (.int .u64 89) W:=by kernel_rfl
theorem idx_24 (W:World):(Instr.index 299 (.agg A25) (.int .i64 24)).run Tryz.prog W = .ok (.int .u64 97) W:=by kernel_rfl
theorem idx25 (k x:Nat) (h:primes[k]? = some x) (W:World) :
  (Instr.index 299 (.agg A25) (.int .i64 (k:Int))).run Tryz.prog W = .ok (.int .u64 (x:Int)) W:=by
 have hk:k<25:=(List.getElem?_eq_some_iff.1 h).1
 match k,h,hk with
 | 0,h,_=>obtain rfl:=Option.some.inj (show some 2=some x from h);exact idx_0 W
 | 1,h,_=>obtain rfl:=Option.some.inj (show some 3=some x from h);exact idx_1 W
 | 2,h,_=>obtain rfl:=Option.some.inj (show some 5=some x from h);exact idx_2 W
 | 3,h,_=>obtain rfl:=Option.some.inj (show some 7=some x from h);exact idx_3 W
 | 4,h,_=>obtain rfl:=Option.some.inj (show some 11=some x from h);exact idx_4 W
 | 5,h,_=>obtain rfl:=Option.some.inj (show some 13=some x from h);exact idx_5 W
 | 6,h,_=>obtain rfl:=Option.some.inj (show some 17=some x from h);exact idx_6 W
 | 7,h,_=>obtain rfl:=Option.some.inj (show some 19=some x from h);exact idx_7 W
 | 8,h,_=>obtain rfl:=Option.some.inj (show some 23=some x from h);exact idx_8 W
 | 9,h,_=>obtain rfl:=Option.some.inj (show some 29=some x from h);exact idx_9 W
 | 10,h,_=>obtain rfl:=Option.some.inj (show some 31=some x from h);exact idx_10 W
 | 11,h,_=>obtain rfl:=Option.some.inj (show some 37=some x from h);exact idx_11 W
 | 12,h,_=>obtain rfl:=Option.some.inj (show some 41=some x from h);exact idx_12 W
 | 13,h,_=>obtain rfl:=Option.some.inj (show some 43=some x from h);exact idx_13 W
 | 14,h,_=>obtain rfl:=Option.some.inj (show some 47=some x from h);exact idx_14 W
 | 15,h,_=>obtain rfl:=Option.some.inj (show some 53=some x from h);exact idx_15 W
 | 16,h,_=>obtain rfl:=Option.some.inj (show some 59=some x from h);exact idx_16 W
 | 17,h,_=>obtain rfl:=Option.some.inj (show some 61=some x from h);exact idx_17 W
 | 18,h,_=>obtain rfl:=Option.some.inj (show some 67=some x from h);exact idx_18 W
 | 19,h,_=>obtain rfl:=Option.some.inj (show some 71=some x from h);exact idx_19 W
 | 20,h,_=>obtain rfl:=Option.some.inj (show some 73=some x from h);exact idx_20 W
 | 21,h,_=>obtain rfl:=Option.some.inj (show some 79=some x from h);exact idx_21 W
 | 22,h,_=>obtain rfl:=Option.some.inj (show some 83=some x from h);exact idx_22 W
 | 23,h,_=>obtain rfl:=Option.some.inj (show some 89=some x from h);exact idx_23 W
 | 24,h,_=>obtain rfl:=Option.some.inj (show some 97=some x from h);exact idx_24 W
theorem split_at {k x:Nat} (h:primes[k]? = some x):primes=primes.take k++x::primes.drop (k+1)∧primes.take (k+1)=primes.take k ++ [x]:=by
 obtain ⟨hk,e⟩:=List.getElem?_eq_some_iff.1 h
 refine ⟨?_,?_⟩
 ·rw [←e,List.getElem_cons_drop];exact (List.take_append_drop k primes).symm
 ·rw [List.take_succ_eq_append_getElem hk,e]
theorem pr_small {x:Nat} (h:x∈primes):2≤x∧x≤97:=by
 revert x;decide
theorem sq_small {x:Nat} (h:x∈primes):x*x≤9409:=by
 have:=(pr_small h).2
 exact Nat.mul_le_mul this this
section
attribute [local go_sem] Oper.semAt_some
theorem primes_hands (n:Nat) (w:World) (hn:1≤n) (hS:Sm w) :
  Hands Fence.wide n Tryz.prog 249 #[] (fun p:Nat => #[Value.int .u64 (p:Int),Value.int .u64 ((p:Int)*(p:Int))]) primes w:=by
 intro l J Jx W hb hJa hJd hY h0
 have hSW:=hS.next hb
 have hload:=load25 hSW
 have HI:=Lib.hid idx25
 have HY:=Lib.hid hY
 have H0:=Lib.hid h0
 clear hY h0 hSW hS hb hJa hJd
 refine callsIn_of_wp Tryz.func249 rfl trivial ?_ rfl
 simp only [Tryz.ntmps249,List.size_toArray,List.length_cons,List.length_nil,Nat.reduceAdd,Nat.reduceSub,Array.replicate_succ,Array.replicate_zero,List.push_toArray,List.append_toArray,List.nil_append,List.cons_append]
 gi_wp2_with (refine wpListIn_load_row rfl 299 _ rfl _ hload ?_)
 clear hload
 generalize A25=A at *
 gi_loopw [5] (fun i wr=>∃ k:Nat,k≤25∧i = .int .i64 k∧Hid (J (primes.take k) wr)) (fun i _=>25 - (RowKit.intOf i).toNat)
 case atStart=>exact ⟨0,by omega,rfl,H0⟩
 case round =>
  clear H0
  obtain ⟨k,hk,rfl,hJs⟩:=hrel
  by_cases hlt:k<25
  ·obtain ⟨x,hx⟩:∃ x,primes[k]? = some x:=⟨_,List.getElem?_eq_getElem hlt⟩
   have hidx:=HI.out k x hx
   have hmem:x∈primes:=List.mem_of_getElem? hx
   obtain ⟨s1,s2⟩:=split_at hx
   obtain ⟨fn,tmps,assign,body,hy,hR⟩:=HY.out (primes.take k) x (primes.drop (k+1)) wr s1 hJs.out
   have hmul:IntKind.u64.wrap ((x:Int)*(x:Int))=(x:Int)*(x:Int):=by
    rw [IntKind.wrap_u64]
    have h1:=sq_small hmem
    have h2:((x*x:Nat):Int)=(x:Int)*(x:Int):=Int.natCast_mul x x
    omega
   have HR:=Lib.hid hR;clear hR
   have HS:=Lib.hid s2;clear s1 s2 hx hmem
   try dsimp only at hy
   generalize (x:Int)=z at *
   gi_wp2
   refine HR.out.mono ?_
   clear HR
   rintro e W3 (⟨rfl,hJ3,hk3⟩ | ⟨rfl,hJx3⟩)
   ·have HJ:=Lib.hid hJ3;clear hJ3 hk3
    gi_wp2
    go_roundw
    case rel=>exact ⟨k+1,by omega,by simp,by show J _ _;rw [HS.out];exact HJ.out⟩
    case measure=>simp [RowKit.intOf];omega
   ·have HJ:=Lib.hid hJx3;clear hJx3
    gi_wp2
    refine bodyPost_ret (results_none rfl _ _ _) rfl ?_
    exact ⟨⟨_,rfl⟩,.inr ⟨_,primes.drop (k+1),by rw [←HS.out,List.take_append_drop],HJ.out⟩⟩
  ·have hx:Hid (primes.take k=primes):=Lib.hid (List.take_of_length_le (by show 25≤k;omega))
   gi_wp2
   go_end0
   exact ⟨⟨_,rfl⟩,.inl (by have:=hJs.out;rwa [hx.out] at this)⟩
end
end Go.Proofs.YtjdfjgfdbgmbiaaGreatDoor.T
