/- Parts of the proof of the text YtocalfjfjjljnaaGreatDoorZO44. -/
import Derived.Test.YtocalfjfjjljnaaGreatDoorZO1
import Derived.Test.YtocalfjfjjljnaaGreatDoorZO11
import Derived.Test.YtocalfjfjjljnaaGreatDoorZO28
set_option linter.all false
set_option maxRecDepth 100000
set_option maxHeartbeats 8000000
namespace Go.Proofs.YtocalfjfjjljnaaGreatDoor
namespace R
open Go.RowKit
theorem Aq (k:Nat):∀ n:Nat,pad k (n % 10 ^ k)=pad k n:=by
 induction k with
 | zero=>intro n;simp [pad]
 | succ k ih =>
  intro n
  rw [jv,jv]
  have h1:n % 10 ^ (k+1) / 10 ^ k=n / 10 ^ k % 10:=by rw [Nat.pow_succ];exact Nat.mod_mul_right_div_self _ _ _
  rw [h1,Nat.mod_mod]
  congr 1
  rw [←ih (n % 10 ^ (k+1)),←ih n,Nat.mod_mod_of_dvd _ (Nat.pow_dvd_pow 10 (Nat.le_succ k))]
theorem Ar {q:Nat} (h:q<10):Lib.decDigits q = [UInt8.ofNat (48+q)]:=by
 rw [Lib.decDigits,dif_pos h]
theorem As {c n:Nat} (h1:10 ^ c≤n) (h2:n<10 ^ (c+1)):pad (c+1) n=Lib.decDigits n:=by
 have hq:0<n / 10 ^ c:=Nat.div_pos h1 (Nat.pow_pos (by decide))
 have hq2:n / 10 ^ c<10:=by rw [Nat.div_lt_iff_lt_mul (Nat.pow_pos (by decide))];rw [Nat.pow_succ,Nat.mul_comm] at h2;exact h2
 have e:n / 10 ^ c*10 ^ c+n % 10 ^ c=n:=by rw [Nat.mul_comm];exact Nat.div_add_mod _ _
 conv=>rhs;rw [←e]
 rw [oJ c _ _ hq (Nat.mod_lt _ (Nat.pow_pos (by decide))),Ar hq2,jv,Aq,Nat.mod_eq_of_lt hq2]
 rfl
theorem tR (x j:Nat) (hj:j≤5):x % 1000000 / 10 ^ j % 10=x / 10 ^ j % 10:=by
 rcases show j=0∨j=1∨j=2∨j=3∨j=4∨j=5 by omega with rfl | rfl | rfl | rfl | rfl | rfl <;> omega
theorem qo (i:Nat):B ^ i=10 ^ (6*i):=by rw [Nat.pow_mul];rfl
theorem Au (k:Nat) (h:300≤k):lim≤10 ^ k:=ay h
theorem Ei (i j:Nat) (h:i≤j):B ^ i≤B ^ j:=Nat.pow_le_pow_right cS h
theorem ym (n i j:Nat) (hj:j≤5):(dg n).getD i 0 / 10 ^ j % 10=n / 10 ^ (6*i+j) % 10:=by
 rw [dt,dS,tR _ _ hj,show (1000000:Nat) ^ i=B ^ i from rfl,qo,Nat.pow_add,Nat.div_div_eq_div_mul]
def RowB (w:World) (g:Nat) (l:List Nat):Prop:=w.heap[g]? = some (.cells (gA l).toArray 5 (0,0))
theorem RowB.cell {w:World} {g:Nat} {l:List Nat} (h:RowB w g l) {i:Nat} (hi:i<l.length):w.cell? ⟨g,i,none⟩=some (.int .u8 (l.getD i 0:Nat)):=by
 rw [cell_of_row w g i _ _ (0,0) h]
 simp [gA,hi]
theorem RowB.frozen {w:World} {g:Nat} {l:List Nat} (h:RowB w g l) (i:Nat):w.frozen? ⟨g,i,none⟩=false:=by
 unfold RowB at h
 simp [World.frozen?, h]
theorem RowB.set {w:World} {g:Nat} {l:List Nat} (h:RowB w g l) (i:Nat) (x:Nat):RowB (w.setCell ⟨g,i,none⟩ (.int .u8 (x:Nat))) g (l.set i x):=by
 unfold RowB at h ⊢
 simp [World.setCell,Array.getElem?_modify,h,gA,List.map_set]
theorem RowB.lt {w:World} {g:Nat} {l:List Nat} (h:RowB w g l):g<w.heap.size:=(Array.getElem?_eq_some_iff.1 h).1
theorem r6 (n:Nat):(madeCells (Value.int .u8 0).cells (n*1)).toList=gA (List.replicate n 0):=by
 rw [Nat.mul_one]
 have h:(Value.int .u8 0).cells = #[.int .u8 0]:=by simp [Value.cells]
 rw [h,toList_madeCells_one]
 simp [gA]
theorem RowB.of_made {w:World} {base g n:Nat} (h:w.ownsRow base 5 1 (.slice (some ⟨g,0,none⟩) n n) n (madeCells (Value.int .u8 0).cells (n*1)).toList):RowB w g (List.replicate n 0):=by
 rcases h.2 with ⟨h1,_⟩ | ⟨g',cap,cur,h1,_,hh,_,_,hsz,htk⟩
 ·cases h1
 ·simp only [Value.slice.injEq,Option.some.injEq,Addr.mk.injEq,true_and,and_true] at h1
  obtain ⟨rfl,rfl⟩:=h1
  rw [r6,List.take_of_length_le (by simp [hsz])] at htk
  unfold RowB
  rw [hh,←htk]
theorem wy {L:List Nat} {M k n:Nat} (hk:k<M) (hL:L.length=M) (h:L.drop (M - k)=nums (pad k n)) :
  (L.set (M - (k+1)) (48+n / 10 ^ k % 10)).drop (M - (k+1))=nums (pad (k+1) n):=by
 rw [sQ (by omega),show M - (k+1)+1=M - k by omega,h,jv]
 show _=(UInt8.ofNat (48+n / 10 ^ k % 10)).toNat::nums (pad k n)
 rw [toNat_ofNat _ (Nat.mod_lt _ (by decide))]
theorem iL {M n t:Nat} (h:t<M):(nums (pad M n)).getD t 0=48+n / 10 ^ (M - 1 - t) % 10:=by
 have hl:t<(nums (pad M n)).length:=by simp [nums,cL,h]
 rw [getD_lt hl]
 simp only [nums,pad,List.getElem_map,List.getElem_range]
 exact toNat_ofNat _ (Nat.mod_lt _ (by decide))
structure WS (w:World) (k:Nat) (neg:Bool) (sv:Value) (b off m:Nat) (l:List Nat) (L:List Nat) (wr:World):Prop where
 c0:wr.cell? ⟨k,0,none⟩=some (.bool neg)
 c1:wr.cell? ⟨k,1,none⟩=some sv
 lim:∀ i,i<m→wr.cell? ⟨b,off+i,none⟩=some (.int .i64 (l.getD i 0:Nat))
 row:RowB wr (k+1) L
 bel:Below k w wr
 kb:b<k
theorem WS.set {w:World} {k:Nat} {neg:Bool} {sv:Value} {b off m:Nat} {l L:List Nat} {wr:World} (h:WS w k neg sv b off m l L wr) (i x:Nat):WS w k neg sv b off m l (L.set i x) (wr.setCell ⟨k+1,i,none⟩ (.int .u8 (x:Nat))):=by
 have hk:=h.kb
 refine ⟨(World.cell?_of_block (Below.heap_setCell _ _ _ _ (by show k≠k+1;omega))).trans h.c0,(World.cell?_of_block (Below.heap_setCell _ _ _ _ (by show k≠k+1;omega))).trans h.c1,fun j hj=>(World.cell?_of_block (Below.heap_setCell _ _ _ _ (by show b≠k+1;omega))).trans (h.lim j hj),h.row.set i x,h.bel.setCell (p:=⟨k+1,i,none⟩) (by show k≤k+1;omega) _,hk⟩
theorem wA (neg:Bool) (v:Value) (n:Nat) (w:World) (h:IsNat w v n) (hn:(dg n).length≤10000) (h0:n≠0) :
  Calls Tryz.prog 107 #[.agg #[.bool neg,v]] w fun e W'=>e = .returned (.string (aa (ak neg n)))∧Below w.heap.size w W':=by
 obtain ⟨i0,hi,hz0,hz1,hz2⟩:=info_parts fu
 have HI:=Ha (Hb hi (Hb hz0 (Hb hz1 hz2)));clear hi hz0 hz1 hz2
 have hlen:=a6 h0
 have hnB:n<B ^ (dg n).length:=(an n _).1 (Nat.le_refl _)
 rw [qo] at hnB
 have HDG:=Ha (fun i j hj=>ym n i j hj)
 have hdl:=Ha (fun i=>(aq n).getD i)
 obtain ⟨p,cap,rfl,hcp,hcp2,h3⟩:=h
 obtain ⟨b,off,rfl,hc⟩:=h3 (fun e=>h0 ((dd n).1 e))
 have HC:=Ha hc
 have HZ:=Ha (oK neg h0)
 clear h3 hc
 obtain ⟨m,hm⟩:∃ m,(dg n).length=m:=⟨_,rfl⟩
 rw [hm] at hlen hnB hn hcp HC ⊢
 obtain ⟨M,hM⟩:∃ M,6*m=M:=⟨_,rfl⟩
 rw [hM] at hnB
 have eM:(6:Int)*(m:Int)=(M:Int):=by omega
 have hne:((m:Int)==0)=false:=by rw [beq_eq_false_iff_ne];omega
 have HNB:=Ha hnB
 clear hm hnB
 have hB0:Below (w.heap.size+1) (w.alloc (.cells #[.bool neg,.slice (some ⟨b,off,none⟩) m cap] 126)) (w.alloc (.cells #[.bool neg,.slice (some ⟨b,off,none⟩) m cap] 126)):=Below.refl _ _
 have HB0:=Ha hB0
 clear hB0
 go_enter Tryz.func107,Tryz.ntmps107
 go_wp2_with (at_make;refine wpList_make_full _ rfl _ _ 141 rfl (w.heap.size+1) 5 i0 (.int .u8 0) 1 Tryz.underlying141 HI.out.1 HI.out.2.1 HI.out.2.2.1 .i64 .i64 _ _ M rfl rfl (by omega) (by omega) (by rw [HI.out.2.2.2];omega) (by unfold maxLen;omega) (by simp) ?_;intro w1 hown hgrow)
 have hrow:=RowB.of_made hown
 have hb1:=HB0.out.grown hgrow (by simp) (fun k e=>by cases e)
 obtain ⟨d0,d1⟩:=fZ hb1
 have hbl:b<w.heap.size:=World.block_lt_of_cell? w _ (HC.out 0 hlen)
 simp only [World.size_alloc] at hrow
 have HW:=Ha (show WS w w.heap.size neg (.slice (some ⟨b,off,none⟩) m cap) b off m (dg n) (List.replicate M 0) w1 from
  ⟨d0,d1,fun i hi=>jw hb1 (HC.out i hi),hrow,((Below.refl _ w).alloc (Nat.le_refl _) _).trans (hb1.mono (by omega)),hbl⟩)
 clear hown hgrow hrow hb1 d0 d1 hbl HB0 HC
 generalize hk:w.heap.size=k at *
 have HK:=Ha hk;clear hk
 go_loopw [4] (fun v4 wr=>∃ (i:Nat) (L:List Nat),i≤m∧v4 = .int .i64 i∧L.length=M∧Hid (WS w k neg (.slice (some ⟨b,off,none⟩) m cap) b off m (dg n) L wr)∧Hid (L.drop (M - 6*i)=nums (pad (6*i) n)))
  (fun v4 _=>m - (intOf v4).toNat)
 case atStart=>exact ⟨0,List.replicate M 0,Nat.zero_le _,rfl,List.length_replicate,HW.out,by show _=_;rw [List.drop_eq_nil_of_le (by rw [List.length_replicate];omega)];rfl⟩
 case round =>
  clear HW
  obtain ⟨i,L,him,rfl,hL,hS,hpad⟩:=hrel
  by_cases hi:i<m
  ·have hdb:=hdl.out i
   have hcl:=hS.out.lim i hi
   have HDI:=Ha (fun j hj=>HDG.out i j hj)
   generalize (dg n).getD i 0=d at *
   have c1:=hS.out.c1
   have hi':(i:Int)<(m:Int):=by omega
   obtain ⟨wo,hwo⟩:∃ wo:World,wo=wr:=⟨_,rfl⟩
   subst hwo
   go_wp2
   clear c1 hcl
   go_loopw [5,6] (fun v5 v6 wr=>∃ (j:Nat) (L:List Nat),j≤6∧v6 = .int .i64 ((j:Int)+1)∧v5 = .int .i64 (d / 10 ^ j:Nat)∧L.length=M∧Hid (WS w k neg (.slice (some ⟨b,off,none⟩) m cap) b off m (dg n) L wr)∧Hid (L.drop (M - (6*i+j))=nums (pad (6*i+j) n)))
    (fun _ v6 _=>7 - (intOf v6).toNat)
   case atStart=>exact ⟨0,L,Nat.zero_le _,rfl,by rw [Nat.pow_zero,Nat.div_one],hL,hS,hpad⟩
   case round =>
    clear hL hS hpad L
    obtain ⟨j,L,hj6,rfl,rfl,hL,hS,hpad⟩:=hrel
    by_cases hj:j<6
    ·have hq:d / 10 ^ j≤d:=Nat.div_le_self _ _
     have HQ:=Ha (show d / 10 ^ j / 10=d / 10 ^ (j+1) by rw [Nat.pow_succ,Nat.div_div_eq_div_mul])
     have HD10:=Ha (HDI.out j (by omega))
     have hst:=wy (L:=L) (M:=M) (k:=6*i+j) (n:=n) (by omega) hL hpad.out
     rw [←HD10.out] at hst
     generalize d / 10 ^ j=q at *
     obtain ⟨pp,hpp⟩:∃ pp,M - (6*i+j+1)=pp:=⟨_,rfl⟩
     have ep:(M:Int) - 6*(i:Int) - ((j:Int)+1)=(pp:Int):=by omega
     have epb:(pp:Int)<(M:Int):=by omega
     rw [hpp] at hst
     have ex:(48:Int)+(q:Int) % 10=((48+q % 10:Nat):Int):=by omega
     have hxb:48+q % 10≤57:=by omega
     have hj':(j:Int)+1≤6:=by omega
     have co:=hS.out.row.cell (i:=pp) (by omega)
     have fo:=hS.out.row.frozen pp
     have HS2:=Ha (Hb (hS.out.set pp (48+q % 10)) (Hb hst hpp))
     generalize 48+q % 10=x at *
     clear hpad hst hpp HD10
     go_wp2
     go_roundw
     case rel =>
      refine ⟨j+1,L.set pp x,by omega,by go_num,?_,by rw [List.length_set];exact hL,HS2.out.1,?_⟩
      ·rw [←HQ.out];go_num
      ·show _=_
       have:=HS2.out.2.1
       rw [←Nat.add_assoc,HS2.out.2.2];exact this
     case measure=>simp [intOf];omega
    ·obtain rfl:j=6:=by omega
     go_wp2
     go_roundw
     case rel=>exact ⟨i+1,L,by omega,by go_num,hL,hS.out,by rw [Nat.mul_add];exact hpad.out⟩
     case measure=>simp [intOf];omega
  ·obtain rfl:i=m:=by omega
   have hLp:L=nums (pad M n):=by have:=hpad.out;rwa [hM,Nat.sub_self,List.drop_zero] at this
   subst hLp
   have c1:=hS.out.c1
   have c0:=hS.out.c0
   clear hpad hi
   go_wp2
   go_loop [3] (fun v3=>∃ t c:Nat,t+c=M∧v3 = .slice (some ⟨k+1,t,none⟩) c c∧Hid (n<10 ^ c)) (fun v3=>lenOf v3)
   case atStart=>exact ⟨0,M,by omega,rfl,HNB.out⟩
   case round =>
    obtain ⟨t,c,htc,rfl,hnc⟩:=hrel
    have hc0:0<c:=by
     rcases Nat.eq_zero_or_pos c with h | h
     ·exfalso;have:=hnc.out;rw [h,Nat.pow_zero] at this;omega
     ·exact h
    obtain ⟨c',rfl⟩:∃ c',c=c'+1:=⟨c - 1,by omega⟩
    have hx:=iL (M:=M) (n:=n) (t:=t) (by omega)
    rw [show M - 1 - t=c' by omega] at hx
    have hq10:n / 10 ^ c'<10:=by rw [Nat.div_lt_iff_lt_mul (Nat.pow_pos (by decide))];have:=hnc.out;rwa [Nat.pow_succ,Nat.mul_comm] at this
    rw [Nat.mod_eq_of_lt hq10] at hx
    have hcell:=hS.out.row.cell (i:=t) (by rw [show (nums (pad M n)).length=M by simp [nums,cL]];omega)
    rw [hx] at hcell
    have hc1:(0:Int)<((c'+1:Nat):Int):=by omega
    have HC1:=Ha (show ((c'+1:Nat):Int) - 1=(c':Int) by omega)
    by_cases hz:n / 10 ^ c'=0
    ·have hlt:n<10 ^ c':=by
      rcases Nat.lt_or_ge n (10 ^ c') with h | h
      ·exact h
      ·exfalso;have:=Nat.div_pos h (Nat.pow_pos (a:=10) (by decide));omega
     have hcp:0<c':=by
      rcases Nat.eq_zero_or_pos c' with h | h
      ·exfalso;rw [h,Nat.pow_zero] at hlt;omega
      ·exact h
     rw [hz] at hcell
     have hc2:(1:Int)<((c'+1:Nat):Int):=by omega
     have hcn:¬ c'+1=1:=by omega
     have HLT:=Ha hlt
     clear hx hz hq10 hnc hlt
     clear c0 c1
     go_wp2
     exact ⟨⟨t+1,c',by omega,rfl,HLT.out⟩,by simp [lenOf]⟩
    ·have hge:10 ^ c'≤n:=by
      rcases Nat.lt_or_ge n (10 ^ c') with h | h
      ·exact absurd (Nat.div_eq_of_lt h) hz
      ·exact h
     have HX:=Ha (As hge hnc.out)
     have hconv:=run_convert_bytes_back (P:=Tryz.prog) wr 141 9 5 ⟨k+1,t,none⟩ (c'+1) (pad (c'+1) n) Tryz.underlying141 Tryz.underlying5 Tryz.underlying9 (fun j hj=>by
      rw [cL] at hj
      rw [addr_add,hS.out.row.cell (i:=t+j) (by rw [show (nums (pad M n)).length=M by simp [nums,cL]];omega),iL (by omega)]
      have h2:=iL (M:=c'+1) (n:=n) (t:=j) hj
      rw [getD_lt (by simp [nums,cL];exact hj)] at h2
      simp only [nums,List.getElem_map] at h2
      rw [h2,show M - 1 - (t+j)=c'+1 - 1 - j by omega])
     rw [cL] at hconv
     have hq48:48<48+n / 10 ^ c':=by have:=Nat.pos_of_ne_zero hz;omega
     have hq57:48+n / 10 ^ c'≤57:=by omega
     have HBEL:=Ha (show Below w.heap.size w wr by rw [HK.out];exact hS.out.bel)
     generalize 48+n / 10 ^ c'=x at *
     have hx48:((x:Int)==48)=false:=by rw [beq_eq_false_iff_ne];omega
     have hXl:(pad (c'+1) n).length≤60000:=by rw [cL];omega
     generalize pad (c'+1) n=X at *
     clear hx hz hq10 hge hnc hq48 hS
     cases neg
     ·go_wp2
      go_ret
      refine ⟨?_,HBEL.out⟩
      show Ending.returned (.string ⟨X.toArray⟩)=_
      unfold aa
      rw [HZ.out,HX.out];rfl
     ·go_wp2
      go_ret
      refine ⟨?_,HBEL.out⟩
      show Ending.returned (.string (⟨#[45]⟩++⟨X.toArray⟩))=_
      unfold aa
      rw [HZ.out,←HX.out]
      rfl
theorem bc (neg:Bool) (v:Value) (n:Nat) (w:World) (h:IsNat w v n) (hn:(dg n).length≤10000) :
  Calls Tryz.prog 107 #[.agg #[.bool neg,v]] w fun e W'=>e = .returned (.string (aa (ak neg n)))∧Below w.heap.size w W':=by
 by_cases h0:n=0
 ·subst h0
  obtain ⟨p,cap,rfl⟩:=h.shape
  have hl:(dg 0).length=0:=by rw [av];rfl
  have hz:aa (ak neg 0)=⟨#[48]⟩:=by
   have:ak neg 0=0:=by unfold ak;cases neg <;> rfl
   rw [this];exact rn
  rw [hl,hz]
  clear h hn hl hz
  go_enter Tryz.func107,Tryz.ntmps107
  go_wp2
  go_ret
  exact ⟨rfl,(Below.refl _ _).alloc (Nat.le_refl _) _⟩
 ·exact wA neg v n w h hn h0
end R
namespace R
open Go.RowKit
theorem r7 (s:ByteArray) (k:Nat) (h:k<s.size):s[k]=s.data.toList[k]'(by rw [ac];exact h):=rfl
theorem Av (s:ByteArray) (hn:af s.data.toList=true) (j:Nat) (hj:j+1<s.size):∃ h:j<(szL s.data.toList).length,s[j+1]=(szL s.data.toList)[j]:=by
 have h1:szL s.data.toList=s.data.toList.tail:=by unfold szL;rw [if_pos hn]
 have h2:j<(szL s.data.toList).length:=by rw [h1,List.length_tail,ac];omega
 refine ⟨h2,?_⟩
 rw [r7 s (j+1) hj]
 simp only [h1,List.getElem_tail]
theorem Aw (s:ByteArray) (hn:af s.data.toList=false) (j:Nat) (hj:j<s.size):∃ h:j<(szL s.data.toList).length,s[j]=(szL s.data.toList)[j]:=by
 have h1:szL s.data.toList=s.data.toList:=by unfold szL;rw [hn];rfl
 have h2:j<(szL s.data.toList).length:=by rw [h1,ac];omega
 refine ⟨h2,?_⟩
 rw [r7 s j hj]
 simp only [h1]
theorem iV (l:List UInt8) (j:Nat) (h:j<l.length):ad (l.take (j+1))=ad (l.take j)*10+(l[j].toNat - 48):=by
 rw [List.take_succ_eq_append_getElem h,bH]
theorem dK (l:List UInt8) (h:∀ c∈l,aj c=true) (k:Nat) (hk:k≤17):ad (l.take k)<100000000000000000 :=
 Nat.lt_of_lt_of_le (j4 l h k) (Nat.le_trans (Nat.pow_le_pow_right (by decide) hk) (by decide))
theorem mm (s:ByteArray) (w:World) (hs:s.size≤17) (hc:chk s.data.toList=0) :
  Calls Tryz.prog 144 #[.string s] w fun e w'=>e = .returned (.tuple #[.int .i64 (valOf s.data.toList),.bool true])∧w=w':=by
 have hd:=cP hc
 have hpos:0<s.size:=by
  rcases Nat.eq_zero_or_pos s.size with h | h
  ·have:s.data.toList = []:=List.eq_nil_of_length_eq_zero (by rw [ac];exact h)
   rw [this] at hc;simp [chk,szL,af] at hc
  ·exact h
 have hb:=au hpos
 have hv:=cF s.data.toList
 have HD:=Ha hd
 have hsl:=dT s.data.toList
 rw [ac] at hsl
 clear hc hd
 by_cases hn:af s.data.toList=true
 ·rw [hn] at hb
  rw [if_pos hn] at hv
  have HV:=Ha hv
  have HG:=Ha (Av s hn)
  have hl:(szL s.data.toList).length+1=s.size:=by unfold szL;rw [if_pos hn,List.length_tail,ac];omega
  have HL:=Ha hl
  clear hv hn hl hsl
  generalize szL s.data.toList=l at *
  go_enter Tryz.func144,Tryz.ntmps144
  go_wp2
  go_loop [4,5] (fun x y=>∃ i:Nat,i≤s.size∧y = .int .i64 i∧x = .int .i64 (ad (l.take (i - 1)):Nat)) (fun _ y=>s.size - (intOf y).toNat)
  case atStart=>exact ⟨0,Nat.zero_le _,rfl,rfl⟩
  case round =>
   obtain ⟨i,hi,rfl,rfl⟩:=hrel
   by_cases hlt:i<s.size
   ·cases i with
    | zero =>
     have h45:((s[0].toNat:Int) != 45)=false:=by simpa using hb
     go_wp2
     go_round
     case rel=>exact ⟨1,by omega,rfl,rfl⟩
     case measure=>simp [intOf];omega
    | succ j =>
     obtain ⟨hjl,hjg⟩:=HG.out j hlt
     have hc:=(ao l[j]).1 (HD.out _ (List.getElem_mem _))
     rw [←hjg] at hc
     have h45:((s[j+1].toNat:Int) != 45)=true:=by rw [bne_iff_ne];omega
     have hn18:=dK l HD.out j (by have:=HL.out;omega)
     have HS:=Ha (iV l j hjl)
     have HJ:=Ha hjg
     rw [show j+1 - 1=j by omega]
     clear hjg
     obtain ⟨n,hn⟩:∃ n,ad (l.take j)=n:=⟨_,rfl⟩
     rw [hn] at hn18 ⊢
     have HN:=Ha hn
     clear hn
     go_wp2
     go_round
     case rel=>exact ⟨j+1+1,by omega,by go_num,by rw [show j+1+1 - 1=j+1 by omega,HS.out,HN.out,←HJ.out];go_num⟩
     case measure=>simp [intOf];omega
   ·have hn18:=dK l HD.out (i - 1) (by omega)
    have HE:=Ha (show ad (l.take (i - 1))=ad l by rw [List.take_of_length_le (by have:=HL.out;omega)])
    generalize ad (l.take (i - 1))=n at *
    go_wp2
    go_ret2
    exact ⟨by rw [HV.out,←HE.out];rfl,rfl⟩
 ·have hn':af s.data.toList=false:=by simpa using hn
  rw [hn'] at hb
  rw [if_neg hn] at hv
  have HV:=Ha hv
  have HG:=Ha (Aw s hn')
  have hl:(szL s.data.toList).length=s.size:=by unfold szL;rw [hn',if_neg (by simp),ac]
  have HL:=Ha hl
  clear hv hn hn' hl hsl
  generalize szL s.data.toList=l at *
  go_enter Tryz.func144,Tryz.ntmps144
  go_wp2
  go_loop [4,5] (fun x y=>∃ i:Nat,i≤s.size∧y = .int .i64 i∧x = .int .i64 (ad (l.take i):Nat)) (fun _ y=>s.size - (intOf y).toNat)
  case atStart=>exact ⟨0,Nat.zero_le _,rfl,rfl⟩
  case round =>
   obtain ⟨j,hi,rfl,rfl⟩:=hrel
   by_cases hlt:j<s.size
   ·obtain ⟨hjl,hjg⟩:=HG.out j hlt
    have hc:=(ao l[j]).1 (HD.out _ (List.getElem_mem _))
    rw [←hjg] at hc
    have h45:((s[j].toNat:Int) != 45)=true:=by rw [bne_iff_ne];omega
    have hn18:=dK l HD.out j (by have:=HL.out;omega)
    have HS:=Ha (iV l j hjl)
    have HJ:=Ha hjg
    clear hjg
    obtain ⟨n,hn⟩:∃ n,ad (l.take j)=n:=⟨_,rfl⟩
    rw [hn] at hn18 ⊢
    have HN:=Ha hn
    clear hn
    go_wp2
    go_round
    case rel=>exact ⟨j+1,by omega,by go_num,by rw [HS.out,HN.out,←HJ.out];go_num⟩
    case measure=>simp [intOf];omega
   ·have hn18:=dK l HD.out j (by omega)
    have HE:=Ha (show ad (l.take j)=ad l by rw [List.take_of_length_le (by have:=HL.out;omega)])
    generalize ad (l.take j)=n at *
    go_wp2
    go_ret2
    exact ⟨by rw [HV.out,←HE.out];rfl,rfl⟩
theorem r8 (s:ByteArray) (w:World) (hs:17<s.size) (_hm:s.size≤maxLen) :
  Calls Tryz.prog 144 #[.string s] w fun e w'=>e = .returned (.tuple #[.int .i64 0,.bool false])∧w=w':=by
 go_enter Tryz.func144,Tryz.ntmps144
 go_wp2
 go_ret2
 exact ⟨rfl,rfl⟩
theorem ls (a b:ByteArray) (w:World) (ha:a.size≤17) (hb:b.size≤17) (ca:chk a.data.toList=0) (cb:chk b.data.toList=0) :
  Calls Tryz.prog 102 #[.string a,.string b] w fun e w'=>e = .returned (.tuple #[.int .i64 (valOf a.data.toList),.int .i64 (valOf b.data.toList),.bool true])∧w=w':=by
 have C:=Ha (Hb (mm a w ha ca) (mm b w hb cb))
 clear ca cb ha hb
 generalize valOf a.data.toList=x at *
 generalize valOf b.data.toList=y at *
 go_enter Tryz.func102,Tryz.ntmps102
 go_wp2_with fail
 refine C.out.1.mono ?_
 rintro e w' ⟨rfl,rfl⟩
 go_wp2_with fail
 refine C.out.2.mono ?_
 rintro e w' ⟨rfl,rfl⟩
 go_wp2
 go_ret3
 exact ⟨rfl,rfl⟩
theorem qp (a b:ByteArray) (w:World) (h:¬ (a.size≤17∧b.size≤17)) (ca:chk a.data.toList=0) (ma:a.size≤maxLen) (mb:b.size≤maxLen) :
  Calls Tryz.prog 102 #[.string a,.string b] w fun e w'=>∃ x y:Int,e = .returned (.tuple #[.int .i64 x,.int .i64 y,.bool false])∧w=w':=by
 by_cases ha:a.size≤17
 ·have C:=Ha (Hb (mm a w ha ca) (r8 b w (by omega) mb))
  clear ca ha h
  generalize valOf a.data.toList=x at *
  go_enter Tryz.func102,Tryz.ntmps102
  go_wp2_with fail
  refine C.out.1.mono ?_
  rintro e w' ⟨rfl,rfl⟩
  go_wp2_with fail
  refine C.out.2.mono ?_
  rintro e w' ⟨rfl,rfl⟩
  go_wp2
  go_ret3
  exact ⟨x,0,rfl,rfl⟩
 ·have C:=Ha (r8 a w (by omega) ma)
  clear ca h
  go_enter Tryz.func102,Tryz.ntmps102
  go_wp2_with fail
  refine C.out.mono ?_
  rintro e w' ⟨rfl,rfl⟩
  go_wp2
  go_ret3
  exact ⟨0,0,rfl,rfl⟩
theorem gr (a b:ByteArray) (w:World) (ha:a.size≤maxLen) (hb:b.size≤maxLen) :
  Calls Tryz.prog 101 #[.string a,.string b] w fun e w'=>e = .returned (.int .i64 (bo a.data.toList b.data.toList))∧w=w':=by
 have C:=Ha (Hb (fun W=>iQ a W ha) (fun W=>iQ b W hb))
 generalize hx:chk a.data.toList=x at *
 have HX:=Ha hx;clear hx
 by_cases h0:(x==0)=true
 ·have hn:(x != 0)=false:=by simpa using h0
  go_enter Tryz.func101,Tryz.ntmps101
  go_wp2_with fail
  refine (C.out.1 _).mono ?_
  rintro e w' ⟨rfl,rfl⟩
  go_wp2_with fail
  refine (C.out.2 _).mono ?_
  rintro e w' ⟨rfl,rfl⟩
  go_wp2
  go_ret
  exact ⟨ah (by unfold bo;rw [HX.out,if_pos (by simpa using h0)]),rfl⟩
 ·have hn:(x != 0)=true:=by simpa using h0
  go_enter Tryz.func101,Tryz.ntmps101
  go_wp2_with fail
  refine (C.out.1 _).mono ?_
  rintro e w' ⟨rfl,rfl⟩
  go_wp2
  go_ret
  exact ⟨ah (by unfold bo;rw [HX.out,if_neg (by simpa using h0)]),rfl⟩
end R
namespace R
open Go.RowKit
theorem dQ (va vb:Value) (a b:Nat) (w:World) (ha:IsNat w va a) (hb:IsNat w vb b) (h0:b≠0) (hla:(dg a).length≤50000) (hlb:(dg b).length≤50000) :
  Calls Tryz.prog 104 #[va,vb] w fun e W'=>∃ q r,e = .returned (.tuple #[q,r])∧IsNat W' q (a / b)∧IsNat W' r (a % b)∧Fresh w.heap.size q∧Fresh w.heap.size r∧Below w.heap.size w W':=by
 have hp:=a6 h0
 by_cases h1:(dg b).length=1
 ·have hb1:b<1000000:=by have:=(an b 1).1 (by omega);rwa [Nat.pow_one] at this
  have hd:(dg b).getD 0 0=b:=by rw [jj h0 hb1];rfl
  have cs:=wv va (dg a) b w ha (aq a) (by omega) (by omega) hb1
  rw [ar] at cs
  have CS:=Ha cs
  obtain ⟨pa,ca,rfl⟩:=ha.shape
  obtain ⟨pb,cb,rfl⟩:=hb.shape
  obtain ⟨bb,off,rfl,hc⟩:∃ bb off,pb=some ⟨bb,off,none⟩∧w.cell? ⟨bb,off,none⟩=some (.int .i64 (b:Nat)):=by
   obtain ⟨p',cap',he,_,_,h3⟩:=hb
   obtain ⟨bb,off,e,hc⟩:=h3 (by intro e;rw [e] at h1;simp at h1)
   simp only [Value.slice.injEq] at he
   exact ⟨bb,off,he.1.trans e,by have:=hc 0 (by omega);rwa [hd,Nat.add_zero] at this⟩
  rw [h1]
  clear cs ha hb hla hlb h0 hp hd h1
  generalize (dg a).length=la at *
  go_enter Tryz.func104,Tryz.ntmps104
  go_wp2_with fail
  refine CS.out.mono ?_
  rintro e W' ⟨q,r,rfl,h1,h2,h3,h4,h5⟩
  obtain ⟨pq,cq,rfl⟩:=h1.shape
  obtain ⟨pr,cr,rfl⟩:=h2.shape
  have H:=Ha (Hb h1 (Hb h2 (Hb h3 (Hb h4 h5))))
  clear CS h1 h2 h3 h4 h5 hc
  generalize (dg (a / b)).length=lq at *
  generalize (dg (a % b)).length=lr at *
  go_wp2
  go_ret2
  exact ⟨_,_,rfl,H.out⟩
 ·obtain ⟨n,hn⟩:∃ n,(dg b).length=n+2:=⟨(dg b).length - 2,by omega⟩
  exact rZ va vb a b n w ha hb hn hla (by omega)
theorem gF {n:Nat} (h:n<lim):(dg n).length≤50:=by
 have q:=Au (6*50) (by decide)
 have r:=Nat.le_trans q (Nat.le_of_eq (qo 50).symm)
 exact (an n 50).2 (Nat.lt_of_lt_of_le h r)
theorem yn (u v:Value) (w:World):(Instr.field 126 (.agg #[u,v]) 1).run Tryz.prog w = .ok v w:=by kernel_rfl
theorem Ax (a b:ByteArray) (w:World) (ha:a.size≤maxLen) (hb:b.size≤maxLen) (hc:bo a.data.toList b.data.toList≠0) :
  Calls Tryz.prog 77 #[.string a,.string b] w fun e W'=>e = .returned (.tuple #[.string ⟨#[]⟩,.int .i64 (bo a.data.toList b.data.toList)])∧w=W':=by
 have C:=Ha (gr a b w ha hb)
 generalize bo a.data.toList b.data.toList=c at *
 have hn:(c != 0)=true:=by rw [bne_iff_ne];exact hc
 clear hc
 go_enter Tryz.func77,Tryz.ntmps77
 go_wp2_with fail
 refine C.out.mono ?_
 rintro e w' ⟨rfl,rfl⟩
 go_wp2
 go_ret2
 exact ⟨rfl,rfl⟩
theorem Cu (a b:ByteArray) (w:World) (k1:chk a.data.toList=0) (k2:chk b.data.toList=0) (ht:Tab w) :
  Calls Tryz.prog 77 #[.string a,.string b] w fun e W'=>e = .returned (.tuple #[.string (aa (Nat.gcd (ad (szL a.data.toList)) (ad (szL b.data.toList)):Nat)),.int .i64 0])∧Below w.heap.size w W':=by
 have s1:=bQ k1
 have s2:=bQ k2
 have hc2:bo a.data.toList b.data.toList=0:=by unfold bo;rw [if_pos k1];exact k2
 have cb:=gr a b w (by unfold maxLen;omega) (by unfold maxLen;omega)
 rw [hc2] at cb
 have CB:=Ha cb
 clear cb hc2
 by_cases hs:a.size≤17∧b.size≤17
 ·have ct:=ls a b w hs.1 hs.2 k1 k2
  have b1:=bX k1 (by rw [ac];omega)
  have b2:=bX k2 (by rw [ac];omega)
  have e1:=gi a.data.toList
  have e2:=gi b.data.toList
  rw [←e1,←e2]
  have CT:=Ha ct
  have hg:Nat.gcd (valOf a.data.toList).natAbs (valOf b.data.toList).natAbs<1000000000000000000:=by
   by_cases h0:(valOf a.data.toList).natAbs=0
   ·rw [h0,Nat.gcd_zero_left];omega
   ·exact Nat.lt_of_le_of_lt (Nat.gcd_le_left _ (by omega)) (by omega)
  clear ct e1 e2 k1 k2 hs s1 s2
  generalize valOf a.data.toList=x at *
  generalize valOf b.data.toList=y at *
  obtain ⟨G,hG⟩:∃ G,Nat.gcd x.natAbs y.natAbs=G:=⟨_,rfl⟩
  rw [hG] at hg ⊢
  have HG:=Ha hG
  have ci:=fun W (h:Below w.heap.size w W)=>jy (G:Nat) W (by omega) (by omega) (ht.next h)
  have CI:=Ha ci
  have HT:=Ha ht
  clear hG ht ci
  go_enter Tryz.func77,Tryz.ntmps77
  go_wp2_with fail
  refine CB.out.mono ?_
  rintro e w' ⟨rfl,rfl⟩
  go_wp2_with fail
  refine CT.out.mono ?_
  rintro e w' ⟨rfl,rfl⟩
  clear CB CT
  go_wp2
  go_loopw [7,8] (fun u v wr=>∃ x' y':Int,u = .int .i64 x'∧v = .int .i64 y' ∧ -1000000000000000000<x'∧x'<1000000000000000000 ∧ -1000000000000000000<y'∧y'<1000000000000000000∧Hid (Nat.gcd x'.natAbs y'.natAbs=G)∧Hid (Below w.heap.size w wr))
   (fun _ v _=>(intOf v).natAbs)
  case atStart=>exact ⟨x,y,rfl,rfl,b1.1,b1.2,b2.1,b2.2,HG.out,Below.refl _ _⟩
  case round =>
   clear b1 b2
   obtain ⟨x',y',rfl,rfl,q1,q2,q3,q4,hg',hB⟩:=hrel
   by_cases h0:y'=0
   ·subst h0
    have hx:(x'.natAbs:Int)=(G:Int):=by have:=hg'.out;rw [Int.natAbs_zero,Nat.gcd_zero_right] at this;omega
    have hm:max x' (-x')=(G:Int):=by omega
    have CW:=Ha (CI.out wr hB.out)
    clear hx hg' CI
    go_wp2_with fail
    refine CW.out.mono ?_
    rintro e w' ⟨rfl,hb⟩
    have HB2:=Ha (hB.out.trans (hb.mono hB.out.size))
    clear hb CW
    go_wp2
    go_ret2
    exact ⟨rfl,HB2.out⟩
   ·have hne:(y' != 0)=true:=by rw [bne_iff_ne];exact h0
    have hz:(y'==0)=false:=by rw [beq_eq_false_iff_ne];exact h0
    have hm:=qt x' y' q1 q2
    have hab:=Int.natAbs_tmod x' y'
    have hlt:(x'.tmod y').natAbs<y'.natAbs:=by rw [hab];exact Nat.mod_lt _ (by omega)
    have hg2:Hid (Nat.gcd y'.natAbs (x'.tmod y').natAbs=G):=by
     show _=_
     rw [hab,←hg'.out,Nat.gcd_comm x'.natAbs,Nat.gcd_rec y'.natAbs x'.natAbs,Nat.gcd_comm]
    have HLT:=Ha hlt
    clear hab hlt hg'
    go_wp2
    go_quiet (fail)
    generalize x'.tmod y'=z at *
    go_wp2
    go_roundw
    case rel=>exact ⟨y',z,rfl,rfl,q3,q4,hm.1,hm.2,hg2,hB.out.trans (Below.drewK _ _ _)⟩
    case measure=>exact HLT.out
 ·obtain ⟨zx,zy,ct⟩:∃ zx zy:Int,True:=⟨0,0,trivial⟩
  have ct:=qp a b w hs k1 (by unfold maxLen;omega) (by unfold maxLen;omega)
  have n1:=bW k1
  have n2:=bW k2
  have r1:=fun W=>bP a W (by omega) k1
  have r2:=fun W=>bP b W (by omega) k2
  generalize af a.data.toList=na at *
  generalize af b.data.toList=nb at *
  generalize ad (szL a.data.toList)=x at *
  generalize ad (szL b.data.toList)=y at *
  have lx:=gF n1
  have ly:=gF n2
  obtain ⟨M,hM⟩:∃ M,max x y=M:=⟨_,rfl⟩
  have hML:(dg M).length≤50:=by
   rw [←hM]
   rcases Nat.le_total x y with h | h
   ·rw [Nat.max_eq_right h];exact ly
   ·rw [Nat.max_eq_left h];exact lx
  have hxM:x≤M:=by omega
  have hyM:y≤M:=by omega
  obtain ⟨G,hG⟩:∃ G,Nat.gcd x y=G:=⟨_,rfl⟩
  rw [hG]
  have HG:=Ha hG
  have HML:=Ha hML
  have CT:=Ha ct
  have CR:=Ha (Hb r1 r2)
  clear hG hM r1 r2 ct k1 k2 hs s1 s2 n1 n2 lx ly hML
  go_enter Tryz.func77,Tryz.ntmps77
  go_wp2_with fail
  refine CB.out.mono ?_
  rintro e w' ⟨rfl,rfl⟩
  go_wp2_with fail
  refine CT.out.mono ?_
  rintro e w' ⟨tx,ty,rfl,rfl⟩
  clear CB CT
  go_wp2_with fail
  refine (CR.out.1 _).mono ?_
  rintro e w1 ⟨va,rfl,hva,_,hb1⟩
  obtain ⟨pa,ca,rfl⟩:=hva.shape
  have H1:=Ha (Hb hva hb1)
  clear hva hb1
  have fd1:=fun W=>yn (.bool na) (.slice pa (dg x).length ca) W
  generalize hlx:(dg x).length=lx at *
  have HLX:=Ha hlx
  clear hlx
  go_wp2_with fail
  clear fd1
  refine (CR.out.2 _).mono ?_
  rintro e w2 ⟨vb,rfl,hvb,_,hb2⟩
  obtain ⟨pb,cb,rfl⟩:=hvb.shape
  have H2:=Ha (Hb (H1.out.1.next hb2) (Hb hvb (H1.out.2.trans (hb2.mono H1.out.2.size))))
  clear hvb hb2 H1 CR
  have fd2:=fun W=>yn (.bool nb) (.slice pb (dg y).length cb) W
  generalize hly:(dg y).length=ly at *
  have HLY:=Ha hly
  clear hly
  go_wp2
  clear fd2
  go_loopw [10,11] (fun u v wr=>∃ (x' y' lx ly:Nat) (pa pb:Option Addr) (ca cb:Nat),u = .slice pa lx ca∧v = .slice pb ly cb∧Hid (lx=(dg x').length)∧Hid (ly=(dg y').length)∧x'≤M∧y'≤M∧Hid (IsNat wr u x')∧Hid (IsNat wr v y')∧Hid (Nat.gcd x' y'=G)∧Hid (Below w.heap.size w wr))
   (fun _ v wr=>bG wr v)
  case atStart=>exact ⟨x,y,lx,ly,pa,pb,ca,cb,rfl,rfl,HLX.out.symm,HLY.out.symm,hxM,hyM,H2.out.1,H2.out.2.1,HG.out,H2.out.2.2⟩
  case round =>
   clear H2 HG HLX HLY hxM hyM
   obtain ⟨x',y',lx',ly',pa',pb',ca',cb',rfl,rfl,hlx,hly,mx,my,h1,h2,hg,hB⟩:=hrel
   by_cases h0:y'=0
   ·subst h0
    obtain rfl:ly'=0:=by have:=hly.out;rwa [av] at this
    obtain rfl:x'=G:=by have:=hg.out;rwa [Nat.gcd_zero_right] at this
    have cw:=bc false _ x' wr h1.out (Nat.le_trans (aE mx) (by have:=HML.out;omega))
    rw [show ak false x'=(x':Int) from rfl] at cw
    have CW:=Ha cw
    clear cw
    go_wp2_with fail
    refine CW.out.mono ?_
    rintro e w' ⟨rfl,hb⟩
    have HB2:=Ha (hB.out.trans (hb.mono hB.out.size))
    clear hb CW
    go_wp2
    go_ret2
    exact ⟨rfl,HB2.out⟩
   ·have hlp:0<ly':=by rw [hly.out];exact a6 h0
    have cd:=dQ _ _ x' y' wr h1.out h2.out h0 (Nat.le_trans (aE mx) (by have:=HML.out;omega)) (Nat.le_trans (aE my) (by have:=HML.out;omega))
    have CD:=Ha cd
    have hm:=Nat.mod_lt x' (show 0<y' by omega)
    have HV:=Ha (aX h2.out)
    clear cd h0
    go_wp2_with fail
    refine CD.out.mono ?_
    rintro e w3 ⟨q,r,rfl,hq,hr,_,_,hb3⟩
    obtain ⟨pq,cq,rfl⟩:=hq.shape
    obtain ⟨pr,cr,rfl⟩:=hr.shape
    have H3:=Ha (Hb (h2.out.next hb3) (Hb hr (hB.out.trans (hb3.mono hB.out.size))))
    clear CD hq hr hb3
    generalize (dg (x' / y')).length=lq at *
    go_wp2
    go_roundw
    case rel=>exact ⟨y',x' % y',ly',_,pb',pr,cb',cr,rfl,rfl,hly,rfl,my,by omega,H3.out.1,H3.out.2.1,by show _=_;rw [←hg.out,Nat.gcd_comm y',←Nat.gcd_rec,Nat.gcd_comm],H3.out.2.2⟩
    case measure =>
     show bG w3 _<bG wr _
     rw [HV.out,aX H3.out.2.1];exact hm
end R
end Go.Proofs.YtocalfjfjjljnaaGreatDoor
