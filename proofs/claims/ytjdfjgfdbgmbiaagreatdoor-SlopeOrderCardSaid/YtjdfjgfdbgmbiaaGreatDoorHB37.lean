/- Parts of the proof of the text YtjdfjgfdbgmbiaaGreatDoorHB39. -/
import Derived.Test.YtjdfjgfdbgmbiaaGreatDoorHB1
import Derived.Test.YtjdfjgfdbgmbiaaGreatDoorHB34
import Derived.Test.YtjdfjgfdbgmbiaaGreatDoorHB35
import Derived.Test.YtjdfjgfdbgmbiaaGreatDoorHB36
set_option linter.all false
set_option maxRecDepth 100000
set_option maxHeartbeats 8000000
namespace Go.Proofs.YtjdfjgfdbgmbiaaGreatDoor.T
open Go.Proofs.YtjdfjgfdbgmbiaaGreatDoor Go Go.RowKit
theorem bounds_core (b n c pl:Nat) (cs rs ds ss:Nat→ByteArray) (sn tl:ByteArray) (w:World) (h100:n≤100) (h0:ss 0=⟨#[48]⟩) (hb:b<w.heap.size)
  (hc:∀ j,j<n→w.cell? ⟨b,j*2,none⟩=some (.string (cs j))∧w.cell? ⟨b,j*2+1,none⟩=some (.string (rs j)))
  (hr:∀ j,j<n→∀ W,Below w.heap.size w W→Calls Tryz.prog 105 #[.agg #[.string (cs j),.string (rs j)],.int .i64 pl] W fun e W'=>e = .returned (.string (ds j))∧Below W.heap.size W W')
  (hp:∀ j,j<n→∀ W,Below w.heap.size w W→Calls Tryz.prog 104 #[.string (ss j),.string (ds j)] W fun e W'=>e = .returned (.string (ss (j+1)))∧Below W.heap.size W W')
  (hi:∀ W,Below w.heap.size w W→Calls Tryz.prog 62 #[.int .i64 n] W fun e W'=>e = .returned (.string sn)∧Below W.heap.size W W')
  (hf:∀ W,Below w.heap.size w W→Calls Tryz.prog 104 #[.string (ss n),.string sn] W fun e W'=>e = .returned (.string tl)∧Below W.heap.size W W') :
  Calls Tryz.prog 75 #[.slice (some ⟨b,0,none⟩) n c,.int .i64 pl] w fun e W'=>e = .returned (.tuple #[.string (ss n),.string tl])∧Below w.heap.size w W':=by
 have O:=Lib.hid (And.intro hc (And.intro hr (And.intro hp (And.intro hi hf))));clear hc hr hp hi hf
 go_enter Tryz.func75,Tryz.ntmps75
 go_wp2
 go_loopw [6,11] (fun s i wr=>∃ j:Nat,s = .string (ss j)∧i = .int .i64 j∧j≤n∧Hid (Below w.heap.size w wr)) (fun _ i _=>n - (intOf i).toNat)
 case atStart=>exact ⟨0,by rw [h0],rfl,by omega,Below.refl _ _⟩
 case round =>
  obtain ⟨j,rfl,rfl,hj,HB⟩:=hrel
  by_cases hlt:j<n
  ·have hz:(j:Int)<n:=by omega
   have d0:=(HB.out.cell (p:=⟨b,j*2,none⟩) hb).trans (O.out.1 j hlt).1
   have d1:=(HB.out.cell (p:=⟨b,j*2+1,none⟩) hb).trans (O.out.1 j hlt).2
   have hr:=Lib.hid (O.out.2.1 j hlt)
   have hp:=Lib.hid (O.out.2.2.1 j hlt)
   clear h0
   generalize cs j=cj at *
   generalize rs j=rj at *
   generalize ds j=dj at *
   generalize hsj:ss j=sj at *
   generalize hsk:ss (j+1)=sk at *
   have HS:=Lib.hid hsk;clear hsk hsj
   go_wp2_with fail
   have HN:=Lib.hid (And.intro (Blk.new wr #[.string cj,.string rj] 50) (HB.out.alloc HB.out.size (.cells #[.string cj,.string rj] 50)))
   clear HB;have HB:=HN;clear HN
   generalize wr.alloc (.cells #[.string cj,.string rj] 50)=u at *
   generalize wr.heap.size=k at *
   clear d0 d1
   have e0:=(show World.cell? _ ⟨k,0,none⟩=some (.string cj) from HB.out.1.cell 0 _ rfl);have e1:=(show World.cell? _ ⟨k,1,none⟩=some (.string rj) from HB.out.1.cell 1 _ rfl)
   go_wp2_with fail
   refine (hr.out _ HB.out.2).mono ?_
   rintro e w2 ⟨rfl,b2⟩
   have HN:=Lib.hid (HB.out.2.trans (b2.mono HB.out.2.size));clear HB b2 e0 e1;have HB:=HN;clear HN
   go_wp2_with fail
   refine (hp.out _ HB.out).mono ?_
   rintro e w3 ⟨rfl,b3⟩
   have HN:=Lib.hid (HB.out.trans (b3.mono HB.out.size));clear HB b3;have HB:=HN;clear HN
   go_wp2
   go_roundw
   case rel=>exact ⟨j+1,by rw [HS.out],by go_num,by omega,HB.out⟩
   case measure=>simp [intOf];omega
  ·have ej:j=n:=by omega
   have hz:¬ (j:Int)<n:=by omega
   rw [ej]
   clear hlt hj h0 ej hz
   have hz:¬ (n:Int)<n:=by omega
   go_wp2_with fail
   refine (O.out.2.2.2.1 _ HB.out).mono ?_
   rintro e w2 ⟨rfl,b2⟩
   have HN:=Lib.hid (HB.out.trans (b2.mono HB.out.size));clear HB b2;have HB:=HN;clear HN
   go_wp2_with fail
   refine (O.out.2.2.2.2 _ HB.out).mono ?_
   rintro e w3 ⟨rfl,b3⟩
   have HN:=Lib.hid (HB.out.trans (b3.mono HB.out.size));clear HB b3;have HB:=HN;clear HN
   go_wp2
   go_ret2
   exact ⟨rfl,HB.out⟩
theorem sml_short {p:Nat} {l:List Tm} (h:Good l) (hp:p≤64) (j:Nat) (hj:j≤l.length):(sml p l j).natAbs<tenTo 146:=by
 have b:=sml_le (p:=p) (l:=l) (fun t ht=>by
  obtain ⟨_,cb,b,eb,nb,lb⟩:=h.ok t ht
  unfold rdT
  rw [eb,natR_num]
  exact rdZ_le cb lb hp) j hj
 have h16:=h.len
 have h2:j*tenTo 144≤16*tenTo 144:=Nat.mul_le_mul_right _ (by omega)
 have e1:tenTo 145=10*tenTo 144:=tenTo_succ 144
 have e2:tenTo 146=10*tenTo 145:=tenTo_succ 145
 have:=tenTo_pos 144
 omega
theorem bounds_ok (l:List Tm) (p:Nat) (b n c:Nat) (w:World) (h:Good l) (hn:n=l.length) (tl:Tl w b l) (hp:p≤64) (ht:Tab w) (ht2:Tab64 w) :
  Calls Tryz.prog 75 #[.slice (some ⟨b,0,none⟩) n c,.int .i64 p] w fun e W'=>e = .returned (.tuple #[.string (strB (sml p l n)),.string (strB (sml p l n+n))])∧Below w.heap.size w W':=by
 have h16:=h.len
 have up:∀ {z:Int},z.natAbs<tenTo 146→short z:=fun h=>Root_at h (by decide)
 refine bounds_core b n c p (fun j=>strQ (tat l j).1) (fun j=>strQ (tat l j).2) (fun j=>strB (rdT p (tat l j))) (fun j=>strB (sml p l j)) (strB (n:Int)) _ w (by omega) (by show strB 0=_;decide+kernel) tl.lt
  (fun j hj=>⟨tl.c0 j (by omega),tl.c1 j (by omega)⟩) (fun j hj W hW=>rounded_ok _ p W (h.ok _ (tat_mem (by omega))) hp (ht.next hW) (TabQ_next ht2 hW)) (fun j hj W hW => ?_) (fun W hW => ?_) (fun W hW => ?_)
 ·have h1:=sml_short h hp j (by omega)
  have h2:=sml_short h hp (j+1) (by omega)
  obtain ⟨_,cb,b,eb,nb,lb⟩:=h.ok _ (tat_mem (l:=l) (j:=j) (by omega))
  have h3:(rdT p (tat l j)).natAbs≤tenTo 144:=by
   unfold rdT
   rw [eb,natR_num]
   exact rdZ_le cb lb hp
  have:=tenTo_lt (show 144<146 by decide)
  exact splus _ _ W (up h1) (up (by omega)) (up h2) (ht.next hW)
 ·exact Itoa_any (n:Int) W (by omega) (by omega) (ht.next hW)
 ·have h1:=sml_short h hp n (by omega)
  have h2:(sml p l n+n).natAbs<tenTo 147:=by have e147:tenTo 147=10*tenTo 146:=tenTo_succ 146;have:tenTo 2<tenTo 146:=tenTo_lt (show 2<146 by decide);have e2:tenTo 2=100:=rfl;omega
  exact splus _ _ W (up h1) (small_lim (by omega)) (Root_at h2 (by decide)) (ht.next hW)
theorem idx2_0 (W:World):(Instr.index 107 (.agg #[.int .i64 4,.int .i64 64]) (.int .i64 0)).run Tryz.prog W = .ok (.int .i64 4) W:=by kernel_rfl
theorem idx2_1 (W:World):(Instr.index 107 (.agg #[.int .i64 4,.int .i64 64]) (.int .i64 1)).run Tryz.prog W = .ok (.int .i64 64) W:=by kernel_rfl
theorem sign_core (p:Option Addr) (n c:Nat) (lo hi:Nat→ByteArray) (lp hp:Nat→Bool) (w:World) (h0:0<n)
  (hB:∀ q:Nat,(q=4∨q=64)→∀ W,Below w.heap.size w W→Calls Tryz.prog 75 #[.slice p n c,.int .i64 q] W fun e W'=>e = .returned (.tuple #[.string (lo q),.string (hi q)])∧Below W.heap.size W W')
  (hL:∀ q:Nat,(q=4∨q=64)→∀ W,Below w.heap.size w W→Calls Tryz.prog 76 #[.string (lo q)] W fun e W'=>e = .returned (.bool (lp q))∧Below W.heap.size W W')
  (hH:∀ q:Nat,(q=4∨q=64)→∀ W,Below w.heap.size w W→Calls Tryz.prog 76 #[.string (hi q)] W fun e W'=>e = .returned (.bool (hp q))∧Below W.heap.size W W') :
  Calls Tryz.prog 43 #[.slice p n c] w fun e W'=>e = .returned (if lp 4 then .tuple #[.int .i64 1,.int .i64 0] else if hp 4=false then .tuple #[.int .i64 (-1),.int .i64 0] else if lp 64 then .tuple #[.int .i64 1,.int .i64 0] else if hp 64=false then .tuple #[.int .i64 (-1),.int .i64 0] else .tuple #[.int .i64 0,.int .i64 4])∧Below w.heap.size w W':=by
 have O:=Lib.hid (And.intro (hB 4 (.inl rfl)) (And.intro (hL 4 (.inl rfl)) (hH 4 (.inl rfl))))
 have O2:=Lib.hid (And.intro (hB 64 (.inr rfl)) (And.intro (hL 64 (.inr rfl)) (hH 64 (.inr rfl))))
 clear hB hL hH
 generalize lo 4=lo4 at *
 generalize hi 4=hi4 at *
 generalize lo 64=lo6 at *
 generalize hi 64=hi6 at *
 generalize lp 4=lp4 at *
 generalize hp 4=hp4 at *
 generalize lp 64=lp6 at *
 generalize hp 64=hp6 at *
 have y0:¬ (n:Int)=0:=by omega
 have y0b:((n:Int)==0)=false:=by simpa using y0
 clear h0
 have HB:=Lib.hid (Below.refl w.heap.size w)
 go_enter Tryz.func43,Tryz.ntmps43
 go_wp2
 go_loopw [12] (fun i wr=>∃ j:Nat,i = .int .i64 j∧j≤2∧Hid (((1≤j→lp4=false∧hp4=true)∧(2≤j→lp6=false∧hp6=true))∧Below w.heap.size w wr)) (fun i _=>2 - (intOf i).toNat)
 case atStart=>exact ⟨0,rfl,by omega,⟨fun h=>by omega,fun h=>by omega⟩,HB.out⟩
 case round =>
  clear HB
  obtain ⟨j,rfl,hj,HK⟩:=hrel
  have HB:=Lib.hid HK.out.2
  have hj3:j=0∨j=1∨j=2:=by omega
  rcases hj3 with rfl | rfl | rfl
  ·clear HK hj
   have ix:=idx2_0 wr
   go_wp2_with fail
   refine (O.out.1 _ HB.out).mono ?_
   rintro e w1 ⟨rfl,b⟩
   have HN:=Lib.hid (HB.out.trans (b.mono HB.out.size));clear HB b;have HB:=HN;clear HN
   go_wp2_with fail
   refine (O.out.2.1 _ HB.out).mono ?_
   rintro e w2 ⟨rfl,b⟩
   have HN:=Lib.hid (HB.out.trans (b.mono HB.out.size));clear HB b;have HB:=HN;clear HN
   cases lp4
   ·go_wp2_with fail
    refine (O.out.2.2 _ HB.out).mono ?_
    rintro e w3 ⟨rfl,b⟩
    have HN:=Lib.hid (HB.out.trans (b.mono HB.out.size));clear HB b;have HB:=HN;clear HN
    cases hp4
    ·go_wp2
     go_ret2
     exact ⟨rfl,HB.out⟩
    ·go_wp2
     go_roundw
     case rel=>exact ⟨1,by go_num,by omega,⟨fun _=>⟨trivial,trivial⟩,fun h=>by omega⟩,HB.out⟩
     case measure=>simp [intOf]
   ·go_wp2
    go_ret2
    exact ⟨rfl,HB.out⟩
  ·obtain ⟨rfl,rfl⟩:=HK.out.1.1 (by omega)
   clear HK hj
   have ix:=idx2_1 wr
   go_wp2_with fail
   refine (O2.out.1 _ HB.out).mono ?_
   rintro e w1 ⟨rfl,b⟩
   have HN:=Lib.hid (HB.out.trans (b.mono HB.out.size));clear HB b;have HB:=HN;clear HN
   go_wp2_with fail
   refine (O2.out.2.1 _ HB.out).mono ?_
   rintro e w2 ⟨rfl,b⟩
   have HN:=Lib.hid (HB.out.trans (b.mono HB.out.size));clear HB b;have HB:=HN;clear HN
   cases lp6
   ·go_wp2_with fail
    refine (O2.out.2.2 _ HB.out).mono ?_
    rintro e w3 ⟨rfl,b⟩
    have HN:=Lib.hid (HB.out.trans (b.mono HB.out.size));clear HB b;have HB:=HN;clear HN
    cases hp6
    ·go_wp2
     go_ret2
     exact ⟨rfl,HB.out⟩
    ·go_wp2
     go_roundw
     case rel=>exact ⟨2,by go_num,by omega,⟨fun _=>⟨trivial,trivial⟩,fun _=>⟨trivial,trivial⟩⟩,HB.out⟩
     case measure=>simp [intOf]
   ·go_wp2
    go_ret2
    exact ⟨rfl,HB.out⟩
  ·obtain ⟨rfl,rfl⟩:=HK.out.1.1 (by omega)
   obtain ⟨rfl,rfl⟩:=HK.out.1.2 (by omega)
   clear HK hj
   go_wp2
   go_ret2
   exact ⟨rfl,HB.out⟩
theorem sign_nil (p:Option Addr) (c:Nat) (w:World) :
  Calls Tryz.prog 43 #[.slice p 0 c] w fun e W'=>e = .returned (.tuple #[.int .i64 0,.int .i64 0])∧Below w.heap.size w W':=by
 go_enter Tryz.func43,Tryz.ntmps43
 go_wp2
 go_ret2
 exact ⟨rfl,Below.refl _ _⟩
theorem sign_ok (l:List Tm) (p:Option Addr) (n c:Nat) (w:World) (h:Su w p n c l) (ht:Tab w) (ht2:Tab64 w) :
  Calls Tryz.prog 43 #[.slice p n c] w fun e W'=>e = .returned (.tuple #[.int .i64 (sgV l),.int .i64 (sgE l)])∧Below w.heap.size w W':=by
 have hn:=h.sr.1
 rcases Nat.eq_zero_or_pos n with z | z
 ·unfold sgV sgE
  rw [if_pos (by omega),if_pos (by omega),z]
  exact sign_nil p c w
 ·obtain ⟨b,e1,t1⟩:=h.at
  obtain rfl:=e1 z
  have tl:=t1 z
  refine (sign_core (some ⟨b,0,none⟩) n c (fun q=>strB (sml q l n)) (fun q=>strB (sml q l n+n)) (fun q=>decide (0<sml q l n)) (fun q=>decide (0<sml q l n+n)) w z
   (fun (q:Nat) hq W hW=>bounds_ok l q b n c W h.good hn (tl.next hW) (by omega) (ht.next hW) (TabQ_next ht2 hW)) (fun q _ W _=>spositive _ W) (fun q _ W _=>spositive _ W)).mono fun e W' ⟨e2,b2⟩=>⟨?_,b2⟩
  rw [e2]
  unfold sgV sgE dec
  rw [←hn,if_neg (by omega:¬ n=0),if_neg (by omega:¬ n=0)]
  have dd:∀ x:Int,(decide (0<x)=false)=(x≤0):=fun x=>by simp
  simp only [dd,decide_eq_true_eq]
  by_cases a1:0<sml 4 l n
  ·simp [a1]
  ·by_cases a2:sml 4 l n+n≤0
   ·simp [a1,a2]
   ·by_cases a3:0<sml 64 l n
    ·simp [a1,a2,a3]
    ·by_cases a4:sml 64 l n+n≤0
     ·simp [a1,a2,a3,a4]
     ·simp [a1,a2,a3,a4]
end Go.Proofs.YtjdfjgfdbgmbiaaGreatDoor.T
namespace Go.Proofs.YtjdfjgfdbgmbiaaGreatDoor.T
open Go.Proofs.YtjdfjgfdbgmbiaaGreatDoor Go Go.RowKit
def litOf:Value→Lit
 | .string s => .string s.data.toList
 | _ => .bool false
theorem mapM_some {α:Type} {f:Nat→Option α} {g:Nat→α}:∀ (is:List Nat),(∀ i∈is,f i=some (g i))→is.mapM f=some (is.map g)
 | [],_=>rfl
 | i::is,h=>by
  rw [List.mapM_cons,h i List.mem_cons_self,mapM_some is fun j hj=>h j (List.mem_cons_of_mem _ hj)];rfl
theorem chunks:∀ (n:Nat) (cs:List Value),cs.length=n*2→((List.range n).map fun i=>((cs.drop (i*2)).take 2).map litOf).flatten=cs.map litOf
 | 0,cs,h=>by
  obtain rfl:=List.eq_nil_of_length_eq_zero (by omega:cs.length=0);rfl
 | n+1,[],h=>by simp at h
 | n+1,[_],h=>by simp at h;omega
 | n+1,x::y::cs,h=>by
  have ih:=chunks n cs (by simp at h;omega)
  have e:((List.range n).map ((fun i=>(((x::y::cs).drop (i*2)).take 2).map litOf) ∘ Nat.succ))=(List.range n).map fun i=>((cs.drop (i*2)).take 2).map litOf:=by
   refine List.map_congr_left fun i _ => ?_
   show (((x::y::cs).drop ((i+1)*2)).take 2).map litOf=_
   rw [show (i+1)*2=i*2+1+1 by omega];rfl
  rw [List.range_succ_eq_map,List.map_cons,List.flatten_cons,List.map_map,e,ih];rfl
theorem cells_num:Tryz.prog.cellsOf 22=1:=by kernel_rfl
theorem cells_term:Tryz.prog.cellsOf 50=2:=by kernel_rfl
theorem cells_arr:Tryz.prog.cellsOf 69=32:=by kernel_rfl
theorem guard_parts:Tryz.prog.eqGuardType Tryz.prog.depth 71=false:=by kernel_rfl
theorem kl_num (s:ByteArray) (h:s.size≤maxLen):Tryz.prog.keyLits 1 22 [.string s]=some [.string s.data.toList]:=by
 simp [Program.keyLits,Tryz.underlying22,h]
theorem kl_term (x y:ByteArray) (hx:x.size≤maxLen) (hy:y.size≤maxLen):Tryz.prog.keyLits 2 50 [.string x,.string y]=some [.string x.data.toList,.string y.data.toList]:=by
 have h1:=kl_num x hx
 have h2:=kl_num y hy
 unfold Program.keyLits
 simp [Tryz.underlying50,cells_term,cells_num,h1,h2]
theorem kl_arr (cs:List Value) (hl:cs.length=32) (hs:∀ v∈cs,∃ s:ByteArray,v = .string s∧s.size≤maxLen):Tryz.prog.keyLits 3 69 cs=some (cs.map litOf):=by
 have key:∀ i∈List.range 16,Tryz.prog.keyLits 2 50 ((cs.drop (i*2)).take 2)=some (((cs.drop (i*2)).take 2).map litOf):=fun i hi=>by
  have hi:=List.mem_range.1 hi
  have e:(cs.drop (i*2)).take 2 = [cs[i*2]'(by omega),cs[i*2+1]'(by omega)]:=by
   rw [List.drop_eq_getElem_cons (by omega),List.take_succ_cons,List.drop_eq_getElem_cons (by omega),List.take_succ_cons,List.take_zero]
  rw [e]
  obtain ⟨x,ex,lx⟩:=hs _ (List.getElem_mem (l:=cs) (n:=i*2) (by omega))
  obtain ⟨y,ey,ly⟩:=hs _ (List.getElem_mem (l:=cs) (n:=i*2+1) (by omega))
  rw [ex,ey]
  exact kl_term x y lx ly
 unfold Program.keyLits
 simp only [Tryz.underlying69,cells_arr,cells_term,hl,if_true]
 rw [mapM_some _ key]
 show some _=_
 rw [chunks 16 cs hl]
theorem key_arr:Tryz.prog.keyTypeAt 3 69=true:=by kernel_rfl
theorem eql_parts (cs ds:List Value) (hl:cs.length=32) (hl':ds.length=32) (hs:∀ v∈cs,∃ s:ByteArray,v = .string s∧s.size≤maxLen) (hs':∀ v∈ds,∃ s:ByteArray,v = .string s∧s.size≤maxLen) :
  ∃ r:Bool,(r=true↔cs.map litOf=ds.map litOf)∧∀ W,(Op.equalIn 9999 69 (.agg (cs.toArray.extract 0 32)) (.agg (ds.toArray.extract 0 32))).run Tryz.prog W = .ok r W:=by
 classical
 have ex:∀ xs:List Value,xs.length=32→xs.toArray.extract 0 32=xs.toArray:=fun xs hx=>by
  apply Array.ext'
  simp [List.take_of_length_le (show xs.length≤32 by omega)]
 refine ⟨decide (cs.map litOf=ds.map litOf),by simp,fun W => ?_⟩
 have fm:∀ xs:List Value,xs.length=32→(Value.agg xs.toArray).formed Tryz.prog 69=true:=fun xs hx=>by
  simp [Value.formed,Tryz.underlying69,cells_arr,hx]
 obtain ⟨r,hr,hiff⟩:=run_equalIn_deep (P:=Tryz.prog) 9996 3 69 key_arr W 3 3 (.agg cs.toArray) (.agg ds.toArray) _ _ (fm cs hl) (fm ds hl') (by show Tryz.prog.keyLits 3 _ cs.toArray.toList=_;rw [List.toList_toArray];exact kl_arr cs hl hs) (by show Tryz.prog.keyLits 3 _ ds.toArray.toList=_;rw [List.toList_toArray];exact kl_arr ds hl' hs')
 rw [ex cs hl,ex ds hl',show (9999:Nat)=9996+3 from rfl,hr]
 have:r=decide (cs.map litOf=ds.map litOf):=by
  by_cases k:cs.map litOf=ds.map litOf
  ·rw [decide_eq_true k];exact hiff.2 k
  ·rw [decide_eq_false k];exact Bool.eq_false_iff.2 fun h=>k (hiff.1 h)
 rw [this]
theorem strQ_ne0 (x:Rat):strQ x≠⟨#[]⟩:=fun h=>by
 have:=strQ_pos x
 rw [h] at this
 exact absurd this (by decide)
theorem litOf_str {x y:ByteArray} (h:litOf (.string x)=litOf (.string y)):x=y:=by
 have:x.data.toList=y.data.toList:=by simpa [litOf] using h
 exact bytes_ext this
theorem pad_inj:∀ (l k:List Tm) (a b:Nat),(tcs l++List.replicate a (Value.string ⟨#[]⟩)).map litOf=(tcs k++List.replicate b (Value.string ⟨#[]⟩)).map litOf→l=k
 | [],[],_,_,_=>rfl
 | [],t::k,a,b,h=>by
  exfalso
  rw [tcs_nil,List.nil_append,tcs_cons] at h
  cases a with
  | zero=>simp at h
  | succ a =>
   rw [List.replicate_succ,List.map_cons,List.cons_append,List.map_cons] at h
   exact strQ_ne0 t.1 (litOf_str (List.cons.inj h).1).symm
 | t::l,[],a,b,h=>by
  exfalso
  rw [tcs_nil,List.nil_append,tcs_cons] at h
  cases b with
  | zero=>simp at h
  | succ b =>
   rw [List.replicate_succ,List.map_cons,List.cons_append,List.map_cons] at h
   exact strQ_ne0 t.1 (litOf_str (List.cons.inj h).1)
 | t::l,s::k,a,b,h=>by
  rw [tcs_cons,tcs_cons] at h
  simp only [List.cons_append,List.map_cons] at h
  obtain ⟨h1,h2⟩:=List.cons.inj h
  obtain ⟨h2,h3⟩:=List.cons.inj h2
  have e1:=strQ_inj (litOf_str h1)
  have e2:=strQ_inj (litOf_str h2)
  rw [pad_inj l k a b (by rw [List.map_append,List.map_append] at h3 ⊢; exact h3),show t=(t.1,t.2) from rfl,e1,e2]
theorem pad_sz {l:List Tm} (h:∀ t∈l,Bq 60 t.1∧Bq 60 t.2):∀ v∈pad l,∃ s:ByteArray,v = .string s∧s.size≤maxLen:=fun v hv=>by
 unfold pad tcs at hv
 rcases List.mem_append.1 hv with h1 | h1
 ·obtain ⟨t,ht,h1⟩:=List.mem_flatMap.1 h1
  unfold tc at h1
  simp only [List.mem_cons,List.mem_nil_iff,or_false] at h1
  rcases h1 with rfl | rfl
  ·exact ⟨_,rfl,(show Sq t.1 from (h t ht).1.lim (by decide)).size⟩
  ·exact ⟨_,rfl,(show Sq t.2 from (h t ht).2.lim (by decide)).size⟩
 ·exact ⟨_,(List.mem_replicate.1 h1).2,by decide⟩
theorem Compare_core (p p':Option Addr) (n c n' c':Nat) (xs ys:Array Value) (q:Bool) (x y:Int) (w:World)
  (hA:∀ W b,Below w.heap.size w W→Blk W b #[.slice p n c,.slice p' n' c']→Calls Tryz.prog 40 #[.slice (some ⟨b,0,none⟩) 2 2] W fun e W'=>e = .returned (.bool true)∧Below W.heap.size W W')
  (hP:∀ W,Below w.heap.size w W→Calls Tryz.prog 41 #[.slice p n c] W fun e W'=>e = .returned (.agg xs)∧Below W.heap.size W W')
  (hP':∀ W,Below w.heap.size w W→Calls Tryz.prog 41 #[.slice p' n' c'] W fun e W'=>e = .returned (.agg ys)∧Below W.heap.size W W')
  (hE:∀ W,(Op.equalIn 9999 69 (.agg (xs.extract 0 32)) (.agg (ys.extract 0 32))).run Tryz.prog W = .ok q W)
  (hq:q=true→x=0∧y=0)
  (hD:q=false→∀ W,Below w.heap.size w W→Calls Tryz.prog 42 #[.slice p n c,.slice p' n' c'] W fun e W''=>∃ v,e = .returned (.tuple #[v,.int .i64 0])∧Below w.heap.size w W'' ∧
   Calls Tryz.prog 43 #[v] W'' fun e W3=>e = .returned (.tuple #[.int .i64 x,.int .i64 y])∧Below W''.heap.size W'' W3) :
  Calls Tryz.prog 14 #[.slice p n c,.slice p' n' c'] w fun e W'=>e = .returned (.tuple #[.int .i64 x,.int .i64 y])∧Below w.heap.size w W':=by
 have O:=Lib.hid (And.intro hA (And.intro hP (And.intro hP' hD)));clear hA hP hP' hD
 have HG:=Lib.hid guard_parts
 go_enter Tryz.func14,Tryz.ntmps14
 go_wp2_with fail
 refine (O.out.1 _ _ ((Below.refl _ w).alloc (Nat.le_refl _) _) (Blk.new w _ _)).mono ?_
 rintro e W1 ⟨rfl,b⟩
 have HB:=Lib.hid (((Below.refl _ w).alloc (Nat.le_refl _) (.cells #[.slice p n c,.slice p' n' c'] 26)).trans (b.mono (by simp)))
 clear b
 go_wp2_with fail
 refine (O.out.2.1 _ HB.out).mono ?_
 rintro e W2 ⟨rfl,b⟩
 have HN:=Lib.hid (HB.out.trans (b.mono HB.out.size));clear HB b;have HB:=HN;clear HN
 go_wp2_with fail
 refine (O.out.2.2.1 _ HB.out).mono ?_
 rintro e W3 ⟨rfl,b⟩
 have HN:=Lib.hid (HB.out.trans (b.mono HB.out.size));clear HB b;have HB:=HN;clear HN
 have g1:=fun W=>run_eqGuard_agg (P:=Tryz.prog) W .eql 71
 have hE3:=hE W3
 clear hE
 cases q
 ·have HD:=Lib.hid (O.out.2.2.2 rfl);clear O hq
  go_wp2_with fail
  refine (HD.out _ HB.out).mono ?_
  rintro e W4 ⟨v,rfl,b4,h4⟩
  have H4:=Lib.hid (And.intro b4 h4);clear b4 h4 HB HD
  go_wp2_with fail
  refine H4.out.2.mono ?_
  rintro e W5 ⟨rfl,b⟩
  have HN:=Lib.hid (H4.out.1.trans (b.mono H4.out.1.size));clear H4 b
  go_wp2
  go_ret2
  exact ⟨rfl,HN.out⟩
 ·obtain ⟨rfl,rfl⟩:=hq rfl
  clear hq O
  go_wp2
  go_ret2
  exact ⟨rfl,HB.out⟩
theorem sum_perm {f:Tm→Int} {l k:List Tm} (h:l.Perm k):(l.map f).sum=(k.map f).sum:=by
 induction h with
 | nil=>rfl
 | cons t _ ih=>rw [List.map_cons,List.map_cons,List.sum_cons,List.sum_cons,ih]
 | swap s t l=>simp only [List.map_cons,List.sum_cons];omega
 | trans _ _ a b=>exact a.trans b
theorem sml_sum (p:Nat) (l:List Tm):∀ j,j≤l.length→sml p l j=((l.take j).map (rdT p)).sum
 | 0,_=>rfl
 | j+1,hj=>by
  rw [List.take_succ_eq_append_getElem (by omega),List.map_append,List.sum_append]
  show sml p l j+rdT p (tat l j)=_
  rw [sml_sum p l j (by omega),tat_get (by omega)]
  simp
theorem sml_all (p:Nat) (l:List Tm):sml p l l.length=(l.map (rdT p)).sum:=by
 rw [sml_sum p l _ (Nat.le_refl _),List.take_length]
theorem sg_perm {l k:List Tm} (h:l.Perm k):sgV l=sgV k∧sgE l=sgE k:=by
 have d:∀ p,dec p l=dec p k:=fun p=>by
  unfold dec
  rw [sml_all,sml_all,sum_perm h,h.length_eq]
 unfold sgV sgE
 rw [d,d,h.length_eq]
 exact ⟨rfl,rfl⟩
theorem Compare_ok (l k:List Tm) (p p':Option Addr) (n n' c c':Nat) (w:World) (h:Su w p n c l) (h':Su w p' n' c' k) (hg:Gd (l++k.map (mulT (-1)))) (ht:Tab w) (ht2:Tab64 w) (hS:Sm w) :
  Calls Tryz.prog 14 #[.slice p n c,.slice p' n' c'] w fun e W'=>e = .returned (.tuple #[.int .i64 (sgV (T.fin (l++k.map (mulT (-1))))),.int .i64 (sgE (T.fin (l++k.map (mulT (-1)))))])∧Below w.heap.size w W':=by
 have hl:=h.good.len
 have hk:=h'.good.len
 have bl:∀ {l:List Tm},Good l→∀ t∈l,Bq 60 t.1∧Bq 60 t.2:=fun {l} g t ht=>by
  obtain ⟨_,b,x,e,_,lx⟩:=g.ok t ht
  exact ⟨b,by rw [e];exact (bqN lx (by decide)).up (by decide)⟩
 obtain ⟨q,hq,hE⟩:=eql_parts (pad l) (pad k) (pad_len hl) (pad_len hk) (pad_sz (bl h.good)) (pad_sz (bl h'.good))
 refine Compare_core p p' n c n' c' (pad l).toArray (pad k).toArray q _ _ w (fun W b hW hb=>areSurds_2 b p p' n c n' c' l k W hb (h.next hW).sd (h'.next hW).sd (ht.next hW) (TabQ_next ht2 hW) (hS.next hW))
  (fun W hW=>partsOf_ok l p n c W (h.next hW).sr hl) (fun W hW=>partsOf_ok k p' n' c' W (h'.next hW).sr hk) hE (fun e => ?_) (fun _ W hW => ?_)
 ·have e2:=pad_inj l k _ _ (hq.1 e)
  subst e2
  have nn:∀ t∈l,0≤t.2:=fun t ht=>Rat.le_of_lt (h.good.Red.1 t ht)
  rw [diff_nil nn nn fun _ _=>rfl]
  exact ⟨rfl,rfl⟩
 ·refine (difference_ok l k p p' n n' c c' W (h.next hW) (h'.next hW) hg (ht.next hW) (TabQ_next ht2 hW) (hS.next hW)).mono fun e W2 ⟨p2,n2,c2,r,e2,hp,hs,hb⟩ => ?_
  have hb2:=hW.trans (hb.mono hW.size)
  refine ⟨_,e2,hb2,?_⟩
  have:=sign_ok r p2 n2 c2 W2 hs (ht.next hb2) (TabQ_next ht2 hb2)
  rwa [(sg_perm hp).1,(sg_perm hp).2] at this
end Go.Proofs.YtjdfjgfdbgmbiaaGreatDoor.T
namespace Go.Proofs.YtjdfjgfdbgmbiaaGreatDoor.T
open Go.Proofs.YtjdfjgfdbgmbiaaGreatDoor Go Go.RowKit
theorem checkGiven_core (c r:ByteArray) (w:World) (hr:isNeg r.data.toList=false)
  (h1:∀ W,Below w.heap.size w W→Calls Tryz.prog 93 #[.agg #[.string c,.string r]] W fun e W'=>e = .returned (.int .i64 0)∧Below W.heap.size W W') :
  Calls Tryz.prog 63 #[.agg #[.string c,.string r]] w fun e W'=>e = .returned (.int .i64 0)∧Below w.heap.size w W':=by
 have p:=fun W=>Tryz.strings_HasPrefix r ⟨#[45]⟩ W
 rw [show (⟨#[45]⟩:ByteArray).data.toList = [45] from rfl,prefix_neg,hr] at p
 have O:=Lib.hid (And.intro h1 p);clear h1 p hr
 go_enter Tryz.func63,Tryz.ntmps63
 go_wp2_with fail
 have HB:=Lib.hid (And.intro (Blk.new w #[.string c,.string r] 50) ((Below.refl _ w).alloc (Nat.le_refl _) (.cells #[.string c,.string r] 50)))
 generalize w.alloc (.cells #[.string c,.string r] 50)=W0 at *
 generalize hk:w.heap.size=k at *
 have HK:=Lib.hid hk;clear hk
 have e0:=(show World.cell? _ ⟨k,0,none⟩=some (.string c) from HB.out.1.cell 0 _ rfl);have e1:=(show World.cell? _ ⟨k,1,none⟩=some (.string r) from HB.out.1.cell 1 _ rfl)
 refine (O.out.1 _ HB.out.2).mono ?_
 rintro e v1 ⟨rfl,b⟩
 have HN:=Lib.hid (And.intro (HB.out.1.next b) (HB.out.2.trans (b.mono (by have h1:=HB.out.2.size;have h2:=HK.out;omega))));clear HB b;have HB:=HN;clear HN
 have e0:=(show World.cell? _ ⟨k,0,none⟩=some (.string c) from HB.out.1.cell 0 _ rfl);have e1:=(show World.cell? _ ⟨k,1,none⟩=some (.string r) from HB.out.1.cell 1 _ rfl)
 go_wp2_with fail
 refine (O.out.2 _).mono ?_
 rintro e v2 ⟨rfl,rfl⟩
 go_wp2
 go_ret
 have hb:=HB.out.2
 rw [←HK.out] at hb
 exact ⟨rfl,hb⟩
theorem Make_core (b n c:Nat) (cs rs:Nat→ByteArray) (w:World) (h256:n≤256) (Q:Value→World→Prop) (hb:b<w.heap.size)
  (hc:∀ j,j<n→w.cell? ⟨b,j*2,none⟩=some (.string (cs j))∧w.cell? ⟨b,j*2+1,none⟩=some (.string (rs j)))
  (h1:∀ j,j<n→∀ W,Below w.heap.size w W→Calls Tryz.prog 63 #[.agg #[.string (cs j),.string (rs j)]] W fun e W'=>e = .returned (.int .i64 0)∧Below W.heap.size W W')
  (hG:∀ W,Below w.heap.size w W→Calls Tryz.prog 59 #[.slice (some ⟨b,0,none⟩) n c] W fun e W''=>∃ v,e = .returned (.tuple #[v,.int .i64 0])∧Q v W'') :
  Calls Tryz.prog 28 #[.slice (some ⟨b,0,none⟩) n c] w fun e W'=>∃ v,e = .returned (.tuple #[v,.int .i64 0])∧Q v W':=by
 have O:=Lib.hid (And.intro hc (And.intro h1 hG));clear hc h1 hG
 have y1:¬ (256:Int)<n:=by omega
 go_enter Tryz.func28,Tryz.ntmps28
 go_wp2
 go_loopw [12] (fun i wr=>∃ j:Nat,i = .int .i64 j∧j≤n∧Hid (Below w.heap.size w wr)) (fun i _=>n - (intOf i).toNat)
 case atStart=>exact ⟨0,rfl,by omega,Below.refl _ _⟩
 case round =>
  obtain ⟨j,rfl,hj,HB⟩:=hrel
  by_cases hlt:j<n
  ·have hz:(j:Int)<n:=by omega
   have d0:=(HB.out.cell (p:=⟨b,j*2,none⟩) hb).trans (O.out.1 j hlt).1
   have d1:=(HB.out.cell (p:=⟨b,j*2+1,none⟩) hb).trans (O.out.1 j hlt).2
   have hr:=Lib.hid (O.out.2.1 j hlt)
   generalize cs j=cj at *
   generalize rs j=rj at *
   go_wp2_with fail
   have HN:=Lib.hid (And.intro (Blk.new wr #[.string cj,.string rj] 50) (HB.out.alloc HB.out.size (.cells #[.string cj,.string rj] 50)))
   clear HB;have HB:=HN;clear HN
   generalize wr.alloc (.cells #[.string cj,.string rj] 50)=u at *
   generalize wr.heap.size=k at *
   clear d0 d1
   have e0:=(show World.cell? _ ⟨k,0,none⟩=some (.string cj) from HB.out.1.cell 0 _ rfl);have e1:=(show World.cell? _ ⟨k,1,none⟩=some (.string rj) from HB.out.1.cell 1 _ rfl)
   go_wp2_with fail
   refine (hr.out _ HB.out.2).mono ?_
   rintro e w2 ⟨rfl,b2⟩
   have HN:=Lib.hid (HB.out.2.trans (b2.mono HB.out.2.size));clear HB b2 e0 e1;have HB:=HN;clear HN
   go_wp2
   go_roundw
   case rel=>exact ⟨j+1,by go_num,by omega,HB.out⟩
   case measure=>simp [intOf];omega
  ·have hz:¬ (j:Int)<n:=by omega
   clear hlt hj
   go_wp2_with fail
   refine (O.out.2.2 _ HB.out).mono ?_
   rintro e W3 ⟨v',rfl,hq⟩
   have HQ:=Lib.hid hq;clear hq
   go_wp2
   go_ret2
   exact ⟨_,rfl,HQ.out⟩
theorem neg_no {x:Rat} (h:0≤x):isNeg (strQ x).data.toList=false:=by
 rw [strQ_neg];exact decide_eq_false (by grind)
theorem Make_ok (l:List Tm) (b c:Nat) (w:World) (tl:Tl w b l) (hg:Gd l) (hB:∀ t∈l,Bq 60 t.1∧Bq 60 t.2) (ht:Tab w) (ht2:Tab64 w) (hS:Sm w) :
  Calls Tryz.prog 28 #[.slice (some ⟨b,0,none⟩) l.length c] w fun e W'=>Rs l w.heap.size w e W':=by
 refine (Make_core b l.length c (fun j=>strQ (tat l j).1) (fun j=>strQ (tat l j).2) w hg.gv.len (fun v W'=>Rs l w.heap.size w (.returned (.tuple #[v,.int .i64 0])) W') tl.lt
  (fun j hj=>⟨tl.c0 j hj,tl.c1 j hj⟩) (fun j hj W hW => ?_) (fun W hW => ?_)).mono fun e W' h=>Rs.to h
 ·have hm:=tat_mem (l:=l) (j:=j) hj
  obtain ⟨b1,b2⟩:=hB _ hm
  refine checkGiven_core _ _ W (neg_no (hg.gv.ok _ hm).1) (fun W2 h2=>checkNumbers_core _ _ W2 fun s W3 hs h3 => ?_)
  rcases hs with rfl | rfl
  ·exact Check_q _ W3 (b1.lim (by decide)) (((ht.next hW).next h2).next h3) (TabQ_next (TabQ_next (TabQ_next ht2 hW) h2) h3)
  ·exact Check_q _ W3 (b2.lim (by decide)) (((ht.next hW).next h2).next h3) (TabQ_next (TabQ_next (TabQ_next ht2 hW) h2) h3)
 ·exact (gathered_su l hg _ _ c W rfl (fun _=>⟨b,rfl,tl.next hW⟩) (ht.next hW) (TabQ_next ht2 hW) (hS.next hW)).mono fun e W'' r=>r.of hW hW.size
theorem Tl.lit1 {W:World} {b:Nat} (x q:Rat) (h:Blk W b #[.string (strQ x),.string (strQ q)]):Tl W b [(x,q)] :=
 ⟨h.lt,fun j hj=>by
  obtain rfl:j=0:=by simp at hj;omega
  exact h.cell 0 _ rfl,fun j hj=>by
  obtain rfl:j=0:=by simp at hj;omega
  exact h.cell 1 _ rfl⟩
theorem Su.lit {W:World} {b:Nat} {l:List Tm} (hg:Good l) (h:Tl W b l) (c:Nat) (hc:l.length≤c):Su W (some ⟨b,0,none⟩) l.length c l:=⟨hg,rfl,hc,.inr ⟨b,rfl,fun _=>h⟩⟩
end Go.Proofs.YtjdfjgfdbgmbiaaGreatDoor.T
namespace Go.Proofs.YtjdfjgfdbgmbiaaGreatDoor.T
open Go.Proofs.YtjdfjgfdbgmbiaaGreatDoor Go Go.RowKit
theorem Same_core (b b' n c c':Nat) (cs rs:Nat→ByteArray) (w:World) (h16:n≤16) (hc1:n≤c) (hc2:n≤c') (hb:b<w.heap.size∧b'<w.heap.size)
  (hc:∀ j,j<n→w.cell? ⟨b,j*2,none⟩=some (.string (cs j))∧w.cell? ⟨b,j*2+1,none⟩=some (.string (rs j)))
  (hd:∀ j,j<n→w.cell? ⟨b',j*2,none⟩=some (.string (cs j))∧w.cell? ⟨b',j*2+1,none⟩=some (.string (rs j))) :
  Calls Tryz.prog 23 #[.slice (some ⟨b,0,none⟩) n c,.slice (some ⟨b',0,none⟩) n c'] w fun e W'=>e = .returned (.bool true)∧Below w.heap.size w W':=by
 have O:=Lib.hid (And.intro hc hd);clear hc hd
 have HB0:=Lib.hid (Below.refl w.heap.size w)
 go_enter Tryz.func23,Tryz.ntmps23
 go_wp2
 go_loopw [5] (fun i wr=>∃ j:Nat,i = .int .i64 j∧j≤n∧Hid (Below w.heap.size w wr)) (fun i _=>n - (intOf i).toNat)
 case atStart=>exact ⟨0,rfl,by omega,HB0⟩
 case round =>
  obtain ⟨j,rfl,hj,HB⟩:=hrel
  clear HB0
  by_cases hlt:j<n
  ·have hz:(j:Int)<n:=by omega
   have hz1:(j:Int)<c:=by omega
   have hz2:(j:Int)<c':=by omega
   have hz3:(0:Int)≤j:=by omega
   have d0:=(HB.out.drew.cell (p:=⟨b,j*2,none⟩) hb.1).trans (O.out.1 j hlt).1
   have d1:=(HB.out.drew.cell (p:=⟨b,j*2+1,none⟩) hb.1).trans (O.out.1 j hlt).2
   have f0:=(HB.out.drew.cell (p:=⟨b',j*2,none⟩) hb.2).trans (O.out.2 j hlt).1
   have f1:=(HB.out.drew.cell (p:=⟨b',j*2+1,none⟩) hb.2).trans (O.out.2 j hlt).2
   generalize cs j=cj at *
   generalize rs j=rj at *
   go_wp2
   go_region_held3 (fun w'=>(w'.cell? ⟨b,j*2,none⟩=some (.string cj)∧w'.cell? ⟨b,j*2+1,none⟩=some (.string rj))∧w'.cell? ⟨b',j*2,none⟩=some (.string cj)∧w'.cell? ⟨b',j*2+1,none⟩=some (.string rj)) (first | exact ⟨⟨d0,d1⟩,f0,f1⟩ | (go_keep;done)) (fail)
   all_goals
    go_wp2
    go_roundw
    case rel=>exact ⟨j+1,by go_num,by omega,HB.out.drew⟩
    case measure=>simp [intOf];omega
  ·have hz:¬ (j:Int)<n:=by omega
   go_wp2
   go_ret
   exact ⟨rfl,HB.out⟩
theorem Same_nil (p p':Option Addr) (c c':Nat) (w:World) :
  Calls Tryz.prog 23 #[.slice p 0 c,.slice p' 0 c'] w fun e W'=>e = .returned (.bool true)∧Below w.heap.size w W':=by
 go_enter Tryz.func23,Tryz.ntmps23
 go_wp2
 go_rounds 1
 all_goals go_ret
 all_goals exact ⟨rfl,Below.refl _ _⟩
theorem Same_ok (l:List Tm) (p p':Option Addr) (n n' c c':Nat) (w:World) (h:Su w p n c l) (h':Su w p' n' c' l) :
  Calls Tryz.prog 23 #[.slice p n c,.slice p' n' c'] w fun e W'=>e = .returned (.bool true)∧Below w.heap.size w W':=by
 have hn:=h.sr.1
 have hn':=h'.sr.1
 have hl:=h.good.len
 obtain rfl:n=n':=by omega
 rcases Nat.eq_zero_or_pos n with z | z
 ·rw [z];exact Same_nil p p' c c' w
 ·obtain ⟨b,e1,t1⟩:=h.at
  obtain ⟨b',e2,t2⟩:=h'.at
  obtain rfl:=e1 z
  obtain rfl:=e2 z
  exact Same_core b b' n c c' (fun j=>strQ (tat l j).1) (fun j=>strQ (tat l j).2) w (by omega) h.sr.2.1 h'.sr.2.1 ⟨(t1 z).lt,(t2 z).lt⟩ (fun j hj=>⟨(t1 z).c0 j (by omega),(t1 z).c1 j (by omega)⟩) (fun j hj=>⟨(t2 z).c0 j (by omega),(t2 z).c1 j (by omega)⟩)
end Go.Proofs.YtjdfjgfdbgmbiaaGreatDoor.T
