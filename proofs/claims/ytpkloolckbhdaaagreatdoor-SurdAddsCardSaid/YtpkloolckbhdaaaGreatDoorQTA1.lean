/- Parts of the proof of the text YtpkloolckbhdaaaGreatDoorQTA6. -/
import Derived.Test.YtpkloolckbhdaaaGreatDoorQT1
import Derived.Test.YtpkloolckbhdaaaGreatDoorQT38
set_option linter.all false
set_option maxRecDepth 100000
set_option maxHeartbeats 8000000
namespace Go.Proofs.YtpkloolckbhdaaaGreatDoor.T
open Go.Proofs.YtpkloolckbhdaaaGreatDoor Go Go.RowKit Go.WideShapes
structure Wf8 (A C E B D F N M:Int):Prop where
 a:(Lit.int .i8 A).wf=true
 c:(Lit.int .i8 C).wf=true
 e:(Lit.int .i8 E).wf=true
 b:(Lit.int .u8 B).wf=true
 d:(Lit.int .u8 D).wf=true
 f:(Lit.int .u8 F).wf=true
 n:(Lit.int .u8 N).wf=true
 m:(Lit.int .u8 M).wf=true
theorem cells_i8:Tryz.prog.cellsOf 37=1:=by kernel_rfl
theorem cells_u8:Tryz.prog.cellsOf 5=1:=by kernel_rfl
theorem cells_small:Tryz.prog.cellsOf 39=8:=by kernel_rfl
theorem open_small {H:Type} {enc:TypeId × Value→H} {w:World} {base:Nat} {sp:Nat→Bool} {held:Bool} {r:Reach} {b0:Nat} {v:Value} {d:DataW H} {ps:List MemPlace}
  (hval:Value.okWide Tryz.prog w r b0 39 v) (hd:DataW.Trod enc Tryz.prog w base sp held 39 v d ps) :
  ∃ A C E B D F N M:Int,v = .agg #[.int .i8 A,.int .i8 C,.int .i8 E,.int .u8 B,.int .u8 D,.int .u8 F,.int .u8 N,.int .u8 M]∧ps = []∧Wf8 A C E B D F N M:=by
 obtain ⟨cs,rfl,hsz⟩:=okWide_struct Tryz.underlying39 hval
 rw [cells_small] at hsz
 obtain ⟨fuel,hy⟩:=hd
 obtain ⟨ys,m,_,hx,_,hlen,hf⟩:=DataW.trod_struct Tryz.underlying39 hy
 obtain ⟨l,hl⟩:∃ l,l=cs.toList:=⟨_,rfl⟩
 have hl8:l.length=8:=by rw [hl,Array.length_toList];exact hsz
 have e:(Value.agg cs).cells.toList=l:=hl.symm
 rw [e] at hf
 have hc:cs=l.toArray:=by rw [hl]
 match l,hl8,ys,hlen with
 | [a0,a1,a2,a3,a4,a5,a6,a7],_,[y0,y1,y2,y3,y4,y5,y6,y7],_ =>
  have h0:=hf 0 _ rfl
  have h1:=hf 1 _ rfl
  have h2:=hf 2 _ rfl
  have h3:=hf 3 _ rfl
  have h4:=hf 4 _ rfl
  have h5:=hf 5 _ rfl
  have h6:=hf 6 _ rfl
  have h7:=hf 7 _ rfl
  simp [cells_i8,cells_u8] at h0 h1 h2 h3 h4 h5 h6 h7
  obtain ⟨A,e0,x0,s0⟩:=DataW.trod_int Tryz.underlying37 h0
  obtain ⟨C,e1,x1,s1⟩:=DataW.trod_int Tryz.underlying37 h1
  obtain ⟨E,e2,x2,s2⟩:=DataW.trod_int Tryz.underlying37 h2
  obtain ⟨B,e3,x3,s3⟩:=DataW.trod_int Tryz.underlying5 h3
  obtain ⟨D,e4,x4,s4⟩:=DataW.trod_int Tryz.underlying5 h4
  obtain ⟨F,e5,x5,s5⟩:=DataW.trod_int Tryz.underlying5 h5
  obtain ⟨N,e6,x6,s6⟩:=DataW.trod_int Tryz.underlying5 h6
  obtain ⟨M,e7,x7,s7⟩:=DataW.trod_int Tryz.underlying5 h7
  refine ⟨A,C,E,B,D,F,N,M,?_,?_,⟨s0,s1,s2,s3,s4,s5,s6,s7⟩⟩
  ·rw [hc]
   simp at e0 e1 e2 e3 e4 e5 e6 e7
   rw [e0,e1,e2,e3,e4,e5,e6,e7]
  ·have:=congrArg Prod.snd hx
   rw [show (d,ps).2=ps from rfl] at this
   rw [this,x0,x1,x2,x3,x4,x5,x6,x7];rfl
theorem bd_i8 {n:Int} (h:(Lit.int .i8 n).wf=true) : -128≤n∧n≤127:=by
 simpa [Lit.wf,IntKind.min,IntKind.max,IntKind.signed,IntKind.bits] using h
theorem bd_u8 {n:Int} (h:(Lit.int .u8 n).wf=true):∃ k:Nat,n=k∧k≤255:=by
 have:0≤n∧n≤255:=by simpa [Lit.wf,IntKind.min,IntKind.max,IntKind.signed,IntKind.bits] using h
 exact ⟨n.toNat,by omega,by omega⟩
theorem Wf8.sp {A C E B D F N M:Int} (h:Wf8 A C E B D F N M):∃ B' D' F' N' M':Nat,B=B'∧D=D'∧F=F'∧N=N'∧M=M'∧Sp A C E B' D' F' N' M':=by
 obtain ⟨B',eB,lB⟩:=bd_u8 h.b
 obtain ⟨D',eD,lD⟩:=bd_u8 h.d
 obtain ⟨F',eF,lF⟩:=bd_u8 h.f
 obtain ⟨N',eN,lN⟩:=bd_u8 h.n
 obtain ⟨M',eM,lM⟩:=bd_u8 h.m
 exact ⟨B',D',F',N',M',eB,eD,eF,eN,eM,bd_i8 h.a,bd_i8 h.c,bd_i8 h.e,⟨lB,lD,lF⟩,lN,lM⟩
end Go.Proofs.YtpkloolckbhdaaaGreatDoor.T
namespace Go.Proofs.YtpkloolckbhdaaaGreatDoor.T
open Go.Proofs.YtpkloolckbhdaaaGreatDoor Go Go.RowKit
theorem max3_4 (W:World):(Builtin.max_ #[28,28,28] 28 #[.int .i64 0,.int .i64 0,.int .i64 0]).run Tryz.prog W = .ok (.int .i64 0) W:=by kernel_rfl
theorem max4_4 (W:World):(Builtin.max_ #[28,28,28,28] 28 #[.int .i64 0,.int .i64 0,.int .i64 0,.int .i64 0]).run Tryz.prog W = .ok (.int .i64 0) W:=by kernel_rfl
def CC (N1 M1 N2 M2 N3 M3:Nat):List Rat:=cls N1 M1++cls N2 M2++cls N3 M3
theorem cc16 (N1 M1 N2 M2 N3 M3:Nat):(CC N1 M1 N2 M2 N3 M3).length≤16:=by show 9≤16;decide
theorem cc1 {N1 M1 N2 M2 N3 M3:Nat}:∀ c∈cls N1 M1,c∈CC N1 M1 N2 M2 N3 M3:=fun c h=>List.mem_append.2 (.inl (List.mem_append.2 (.inl h)))
theorem cc2 {N1 M1 N2 M2 N3 M3:Nat}:∀ c∈cls N2 M2,c∈CC N1 M1 N2 M2 N3 M3:=fun c h=>List.mem_append.2 (.inl (List.mem_append.2 (.inr h)))
theorem cc3 {N1 M1 N2 M2 N3 M3:Nat}:∀ c∈cls N3 M3,c∈CC N1 M1 N2 M2 N3 M3:=fun c h=>List.mem_append.2 (.inr h)
theorem same_c {C:List Rat}:∀ c∈C,c∈C:=fun _ h=>h
theorem lt60 {Ln:Nat} (h:Ln≤24):(Ln+Ln)*(M0*(255*255))<tenTo 60:=Nat.lt_of_le_of_lt (Nat.mul_le_mul_right _ (show Ln+Ln≤48 by omega)) (by decide+kernel)
theorem SurdAdds_main (A1 C1 E1:Int) (B1 D1 F1 N1 M1:Nat) (A2 C2 E2:Int) (B2 D2 F2 N2 M2:Nat) (A3 C3 E3:Int) (B3 D3 F3 N3 M3:Nat) (w:World) (s1:Sp A1 C1 E1 B1 D1 F1 N1 M1) (s2:Sp A2 C2 E2 B2 D2 F2 N2 M2) (s3:Sp A3 C3 E3 B3 D3 F3 N3 M3) (ht:Tab w) (ht2:Tab64 w) (hS:Sm w) :
  Calls Tryz.prog 4 #[.agg #[.int .i8 A1,.int .i8 C1,.int .i8 E1,.int .u8 B1,.int .u8 D1,.int .u8 F1,.int .u8 N1,.int .u8 M1],.agg #[.int .i8 A2,.int .i8 C2,.int .i8 E2,.int .u8 B2,.int .u8 D2,.int .u8 F2,.int .u8 N2,.int .u8 M2],.agg #[.int .i8 A3,.int .i8 C3,.int .i8 E3,.int .u8 B3,.int .u8 D3,.int .u8 F3,.int .u8 N3,.int .u8 M3]] w fun e W'=>e = .returned (.bool true)∧Below w.heap.size w W':=by
 have T:=Lib.hid (fun W (h:Below w.heap.size w W)=>And.intro (ht.next h) (And.intro (TabQ_next ht2 h) (hS.next h)));clear ht ht2 hS
 have S1:=Lib.hid s1
 have S2:=Lib.hid s2
 have S3:=Lib.hid s3
 clear s1 s2 s3
 have hm3:=max3_4
 have hm4:=max4_4
 have hbx:Bxs w w.heap.size [[.int .i8 A1,.int .i8 C1,.int .i8 E1,.int .u8 B1,.int .u8 D1,.int .u8 F1,.int .u8 N1,.int .u8 M1],[.int .i8 A2,.int .i8 C2,.int .i8 E2,.int .u8 B2,.int .u8 D2,.int .u8 F2,.int .u8 N2,.int .u8 M2],[.int .i8 A3,.int .i8 C3,.int .i8 E3,.int .u8 B3,.int .u8 D3,.int .u8 F3,.int .u8 N3,.int .u8 M3]] (((w.alloc (.cells #[.int .i8 A1,.int .i8 C1,.int .i8 E1,.int .u8 B1,.int .u8 D1,.int .u8 F1,.int .u8 N1,.int .u8 M1] 39)).alloc (.cells #[.int .i8 A2,.int .i8 C2,.int .i8 E2,.int .u8 B2,.int .u8 D2,.int .u8 F2,.int .u8 N2,.int .u8 M2] 39)).alloc (.cells #[.int .i8 A3,.int .i8 C3,.int .i8 E3,.int .u8 B3,.int .u8 D3,.int .u8 F3,.int .u8 N3,.int .u8 M3] 39)):=((((Bxs.nil w w (Below.refl _ _)).push rfl [.int .i8 A1,.int .i8 C1,.int .i8 E1,.int .u8 B1,.int .u8 D1,.int .u8 F1,.int .u8 N1,.int .u8 M1] 39).push (by simp) [.int .i8 A2,.int .i8 C2,.int .i8 E2,.int .u8 B2,.int .u8 D2,.int .u8 F2,.int .u8 N2,.int .u8 M2] 39).push (by simp) [.int .i8 A3,.int .i8 C3,.int .i8 E3,.int .u8 B3,.int .u8 D3,.int .u8 F3,.int .u8 N3,.int .u8 M3] 39)
 have HB:=Lib.hid hbx;clear hbx
 go_enter Tryz.func4,Tryz.ntmps4
 go_wp2_with fail
 generalize (((w.alloc (.cells #[.int .i8 A1,.int .i8 C1,.int .i8 E1,.int .u8 B1,.int .u8 D1,.int .u8 F1,.int .u8 N1,.int .u8 M1] 39)).alloc (.cells #[.int .i8 A2,.int .i8 C2,.int .i8 E2,.int .u8 B2,.int .u8 D2,.int .u8 F2,.int .u8 N2,.int .u8 M2] 39)).alloc (.cells #[.int .i8 A3,.int .i8 C3,.int .i8 E3,.int .u8 B3,.int .u8 D3,.int .u8 F3,.int .u8 N3,.int .u8 M3] 39))=W0 at *
 refine (of_sv A1 C1 E1 B1 D1 F1 N1 M1 _ S1.out (T.out _ HB.out.below).1 (T.out _ HB.out.below).2.1 (T.out _ HB.out.below).2.2).mono ?_
 rintro e W ⟨v1,rfl,s,b⟩
 have HN:=Lib.hid (HB.out.next b)
 have O1:=Lib.hid (s)
 clear s
 clear HB b;have HB:=HN;clear HN
 have e0:=(show World.cell? _ ⟨w.heap.size+1,0,none⟩=some (.int .i8 A2) from HB.out.cells 1 _ rfl 0 _ rfl)
 have e1:=(show World.cell? _ ⟨w.heap.size+1,1,none⟩=some (.int .i8 C2) from HB.out.cells 1 _ rfl 1 _ rfl)
 have e2:=(show World.cell? _ ⟨w.heap.size+1,2,none⟩=some (.int .i8 E2) from HB.out.cells 1 _ rfl 2 _ rfl)
 have e3:=(show World.cell? _ ⟨w.heap.size+1,3,none⟩=some (.int .u8 B2) from HB.out.cells 1 _ rfl 3 _ rfl)
 have e4:=(show World.cell? _ ⟨w.heap.size+1,4,none⟩=some (.int .u8 D2) from HB.out.cells 1 _ rfl 4 _ rfl)
 have e5:=(show World.cell? _ ⟨w.heap.size+1,5,none⟩=some (.int .u8 F2) from HB.out.cells 1 _ rfl 5 _ rfl)
 have e6:=(show World.cell? _ ⟨w.heap.size+1,6,none⟩=some (.int .u8 N2) from HB.out.cells 1 _ rfl 6 _ rfl)
 have e7:=(show World.cell? _ ⟨w.heap.size+1,7,none⟩=some (.int .u8 M2) from HB.out.cells 1 _ rfl 7 _ rfl)
 go_wp2_with fail
 refine (of_sv A2 C2 E2 B2 D2 F2 N2 M2 _ S2.out (T.out _ HB.out.below).1 (T.out _ HB.out.below).2.1 (T.out _ HB.out.below).2.2).mono ?_
 rintro e W ⟨v2,rfl,s,b⟩
 have HN:=Lib.hid (HB.out.next b)
 have O1':=Lib.hid (O1.out.next b);clear O1;have O1:=O1';clear O1'
 have O2:=Lib.hid (s)
 clear s
 clear HB b;have HB:=HN;clear HN
 clear e0 e1 e2 e3 e4 e5 e6 e7
 have e0:=(show World.cell? _ ⟨w.heap.size+1+1,0,none⟩=some (.int .i8 A3) from HB.out.cells 2 _ rfl 0 _ rfl)
 have e1:=(show World.cell? _ ⟨w.heap.size+1+1,1,none⟩=some (.int .i8 C3) from HB.out.cells 2 _ rfl 1 _ rfl)
 have e2:=(show World.cell? _ ⟨w.heap.size+1+1,2,none⟩=some (.int .i8 E3) from HB.out.cells 2 _ rfl 2 _ rfl)
 have e3:=(show World.cell? _ ⟨w.heap.size+1+1,3,none⟩=some (.int .u8 B3) from HB.out.cells 2 _ rfl 3 _ rfl)
 have e4:=(show World.cell? _ ⟨w.heap.size+1+1,4,none⟩=some (.int .u8 D3) from HB.out.cells 2 _ rfl 4 _ rfl)
 have e5:=(show World.cell? _ ⟨w.heap.size+1+1,5,none⟩=some (.int .u8 F3) from HB.out.cells 2 _ rfl 5 _ rfl)
 have e6:=(show World.cell? _ ⟨w.heap.size+1+1,6,none⟩=some (.int .u8 N3) from HB.out.cells 2 _ rfl 6 _ rfl)
 have e7:=(show World.cell? _ ⟨w.heap.size+1+1,7,none⟩=some (.int .u8 M3) from HB.out.cells 2 _ rfl 7 _ rfl)
 go_wp2_with fail
 refine (of_sv A3 C3 E3 B3 D3 F3 N3 M3 _ S3.out (T.out _ HB.out.below).1 (T.out _ HB.out.below).2.1 (T.out _ HB.out.below).2.2).mono ?_
 rintro e W ⟨v3,rfl,s,b⟩
 have HN:=Lib.hid (HB.out.next b)
 have O1':=Lib.hid (O1.out.next b);clear O1;have O1:=O1';clear O1'
 have O2':=Lib.hid (O2.out.next b);clear O2;have O2:=O2';clear O2'
 have O3:=Lib.hid (s)
 clear s
 clear HB b;have HB:=HN;clear HN
 clear e0 e1 e2 e3 e4 e5 e6 e7
 have A:=Lib.hid (O1.out.wide (C':=CC N1 M1 N2 M2 N3 M3) (Nat.le_refl 3) cc1);clear O1
 have B:=Lib.hid (O2.out.wide (C':=CC N1 M1 N2 M2 N3 M3) (Nat.le_refl 3) cc2);clear O2
 have C:=Lib.hid (O3.out.wide (C':=CC N1 M1 N2 M2 N3 M3) (Nat.le_refl 3) cc3);clear O3
 have H16:=Lib.hid (cc16 N1 M1 N2 M2 N3 M3)
 clear S1 S2 S3
 generalize CC N1 M1 N2 M2 N3 M3=CL at *
 generalize raw3 A1 C1 E1 B1 D1 F1 N1 M1=L1 at *
 generalize raw3 A2 C2 E2 B2 D2 F2 N2 M2=L2 at *
 generalize raw3 A3 C3 E3 B3 D3 F3 N3 M3=L3 at *
 go_wp2_with fail
 refine (Add_sv _ _ _ A.out B.out nb3 (lt60 (Ln:=3) (by decide)) H16.out (T.out _ HB.out.below).1 (T.out _ HB.out.below).2.1 (T.out _ HB.out.below).2.2).mono ?_
 rintro e W ⟨vab,rfl,s,b⟩
 have HN:=Lib.hid (HB.out.next b)
 have A':=Lib.hid (A.out.next b);clear A;have A:=A';clear A'
 have B':=Lib.hid (B.out.next b);clear B;have B:=B';clear B'
 have C':=Lib.hid (C.out.next b);clear C;have C:=C';clear C'
 have AB:=Lib.hid (s)
 clear s
 clear HB b;have HB:=HN;clear HN
 go_wp2_with fail
 refine (Add_sv _ _ _ B.out A.out nb3 (lt60 (Ln:=3) (by decide)) H16.out (T.out _ HB.out.below).1 (T.out _ HB.out.below).2.1 (T.out _ HB.out.below).2.2).mono ?_
 rintro e W ⟨vba,rfl,s,b⟩
 have HN:=Lib.hid (HB.out.next b)
 have A':=Lib.hid (A.out.next b);clear A;have A:=A';clear A'
 have B':=Lib.hid (B.out.next b);clear B;have B:=B';clear B'
 have C':=Lib.hid (C.out.next b);clear C;have C:=C';clear C'
 have AB':=Lib.hid (AB.out.next b);clear AB;have AB:=AB';clear AB'
 have BA:=Lib.hid (s)
 clear s
 clear HB b;have HB:=HN;clear HN
 go_wp2_with fail
 refine (Add_sv _ _ _ B.out C.out nb3 (lt60 (Ln:=3) (by decide)) H16.out (T.out _ HB.out.below).1 (T.out _ HB.out.below).2.1 (T.out _ HB.out.below).2.2).mono ?_
 rintro e W ⟨vbc,rfl,s,b⟩
 have HN:=Lib.hid (HB.out.next b)
 have A':=Lib.hid (A.out.next b);clear A;have A:=A';clear A'
 have B':=Lib.hid (B.out.next b);clear B;have B:=B';clear B'
 have C':=Lib.hid (C.out.next b);clear C;have C:=C';clear C'
 have AB':=Lib.hid (AB.out.next b);clear AB;have AB:=AB';clear AB'
 have BA':=Lib.hid (BA.out.next b);clear BA;have BA:=BA';clear BA'
 have BC:=Lib.hid (s)
 clear s
 clear HB b;have HB:=HN;clear HN
 go_wp2_with fail
 refine (Add_sv _ _ _ AB.out (C.out.wide (show 3≤6 by decide) same_c) nb6 (lt60 (Ln:=6) (by decide)) H16.out (T.out _ HB.out.below).1 (T.out _ HB.out.below).2.1 (T.out _ HB.out.below).2.2).mono ?_
 rintro e W ⟨vl,rfl,s,b⟩
 have HN:=Lib.hid (HB.out.next b)
 have A':=Lib.hid (A.out.next b);clear A;have A:=A';clear A'
 have B':=Lib.hid (B.out.next b);clear B;have B:=B';clear B'
 have AB':=Lib.hid (AB.out.next b);clear AB;have AB:=AB';clear AB'
 have BA':=Lib.hid (BA.out.next b);clear BA;have BA:=BA';clear BA'
 have BC':=Lib.hid (BC.out.next b);clear BC;have BC:=BC';clear BC'
 have LE:=Lib.hid (s)
 clear s
 clear HB b;have HB:=HN;clear HN
 clear C
 go_wp2_with fail
 refine (Add_sv _ _ _ (A.out.wide (show 3≤6 by decide) same_c) BC.out nb6 (lt60 (Ln:=6) (by decide)) H16.out (T.out _ HB.out.below).1 (T.out _ HB.out.below).2.1 (T.out _ HB.out.below).2.2).mono ?_
 rintro e W ⟨vr,rfl,s,b⟩
 have HN:=Lib.hid (HB.out.next b)
 have A':=Lib.hid (A.out.next b);clear A;have A:=A';clear A'
 have B':=Lib.hid (B.out.next b);clear B;have B:=B';clear B'
 have AB':=Lib.hid (AB.out.next b);clear AB;have AB:=AB';clear AB'
 have BA':=Lib.hid (BA.out.next b);clear BA;have BA:=BA';clear BA'
 have LE':=Lib.hid (LE.out.next b);clear LE;have LE:=LE';clear LE'
 have RI:=Lib.hid (s)
 clear s
 clear HB b;have HB:=HN;clear HN
 clear BC
 go_wp2_with fail
 refine (Sub_sv _ _ _ AB.out (B.out.wide (show 3≤6 by decide) same_c) nb6 (lt60 (Ln:=6) (by decide)) H16.out (T.out _ HB.out.below).1 (T.out _ HB.out.below).2.1 (T.out _ HB.out.below).2.2).mono ?_
 rintro e W ⟨vk,rfl,s,b⟩
 have HN:=Lib.hid (HB.out.next b)
 have A':=Lib.hid (A.out.next b);clear A;have A:=A';clear A'
 have AB':=Lib.hid (AB.out.next b);clear AB;have AB:=AB';clear AB'
 have BA':=Lib.hid (BA.out.next b);clear BA;have BA:=BA';clear BA'
 have LE':=Lib.hid (LE.out.next b);clear LE;have LE:=LE';clear LE'
 have RI':=Lib.hid (RI.out.next b);clear RI;have RI:=RI';clear RI'
 have BK:=Lib.hid (s)
 clear s
 clear HB b;have HB:=HN;clear HN
 clear B
 go_wp2_with fail
 refine (Sub_self _ _ A.out nb3 (lt60 (Ln:=3) (by decide)) H16.out (T.out _ HB.out.below).1 (T.out _ HB.out.below).2.1 (T.out _ HB.out.below).2.2).mono ?_
 rintro e W ⟨pn,cn,rfl,b⟩
 have HN:=Lib.hid (HB.out.next b)
 have A':=Lib.hid (A.out.next b);clear A;have A:=A';clear A'
 have AB':=Lib.hid (AB.out.next b);clear AB;have AB:=AB';clear AB'
 have BA':=Lib.hid (BA.out.next b);clear BA;have BA:=BA';clear BA'
 have LE':=Lib.hid (LE.out.next b);clear LE;have LE:=LE';clear LE'
 have RI':=Lib.hid (RI.out.next b);clear RI;have RI:=RI';clear RI'
 have BK':=Lib.hid (BK.out.next b);clear BK;have BK:=BK';clear BK'
 clear HB b;have HB:=HN;clear HN
 go_wp2_with fail
 refine (Equal_sv _ _ _ AB.out BA.out (fun m _=>by rw [vl_append,vl_append,Rat.add_comm]) nb6 (lt60 (Ln:=6) (by decide)) H16.out (T.out _ HB.out.below).1 (T.out _ HB.out.below).2.1 (T.out _ HB.out.below).2.2).mono ?_
 rintro e W ⟨rfl,b⟩
 have HN:=Lib.hid (HB.out.next b)
 have A':=Lib.hid (A.out.next b);clear A;have A:=A';clear A'
 have LE':=Lib.hid (LE.out.next b);clear LE;have LE:=LE';clear LE'
 have RI':=Lib.hid (RI.out.next b);clear RI;have RI:=RI';clear RI'
 have BK':=Lib.hid (BK.out.next b);clear BK;have BK:=BK';clear BK'
 clear HB b;have HB:=HN;clear HN
 clear AB BA
 go_wp2_with fail
 refine (Equal_sv _ _ _ LE.out RI.out (fun m _=>by rw [List.append_assoc]) nb12 (lt60 (Ln:=12) (by decide)) H16.out (T.out _ HB.out.below).1 (T.out _ HB.out.below).2.1 (T.out _ HB.out.below).2.2).mono ?_
 rintro e W ⟨rfl,b⟩
 have HN:=Lib.hid (HB.out.next b)
 have A':=Lib.hid (A.out.next b);clear A;have A:=A';clear A'
 have BK':=Lib.hid (BK.out.next b);clear BK;have BK:=BK';clear BK'
 clear HB b;have HB:=HN;clear HN
 clear LE RI
 go_wp2_with fail
 refine (Equal_sv _ _ _ BK.out (A.out.wide (show 3≤12 by decide) same_c) (fun m _=>by rw [vl_append,vl_append,vl_mulT];grind) nb12 (lt60 (Ln:=12) (by decide)) H16.out (T.out _ HB.out.below).1 (T.out _ HB.out.below).2.1 (T.out _ HB.out.below).2.2).mono ?_
 rintro e W ⟨rfl,b⟩
 have HN:=Lib.hid (HB.out.next b)
 clear HB b;have HB:=HN;clear HN
 clear BK A
 go_wp2_with fail
 refine (awake4_any _ (T.out _ HB.out.below).1 (T.out _ HB.out.below).2.1 (T.out _ HB.out.below).2.2).mono ?_
 rintro e W ⟨rfl,b⟩
 have HN:=Lib.hid (HB.out.next b)
 clear HB b;have HB:=HN;clear HN
 go_wp2
 go_ret
 exact ⟨rfl,HB.out.below⟩
end Go.Proofs.YtpkloolckbhdaaaGreatDoor.T
namespace Go.Proofs.YtpkloolckbhdaaaGreatDoor.T
open Go.Proofs.YtpkloolckbhdaaaGreatDoor Go Go.RowKit
theorem laidOut4a:laidOutB Tryz.prog=true:=by kernel_rfl
theorem SurdAdds_any {A1 C1 E1 B1 D1 F1 N1 M1 A2 C2 E2 B2 D2 F2 N2 M2 A3 C3 E3 B3 D3 F3 N3 M3:Int} (w:World) (z1:Wf8 A1 C1 E1 B1 D1 F1 N1 M1) (z2:Wf8 A2 C2 E2 B2 D2 F2 N2 M2) (z3:Wf8 A3 C3 E3 B3 D3 F3 N3 M3) (ht:Tab w) (ht2:Tab64 w) (hS:Sm w) :
  Calls Tryz.prog 4 #[.agg #[.int .i8 A1,.int .i8 C1,.int .i8 E1,.int .u8 B1,.int .u8 D1,.int .u8 F1,.int .u8 N1,.int .u8 M1],.agg #[.int .i8 A2,.int .i8 C2,.int .i8 E2,.int .u8 B2,.int .u8 D2,.int .u8 F2,.int .u8 N2,.int .u8 M2],.agg #[.int .i8 A3,.int .i8 C3,.int .i8 E3,.int .u8 B3,.int .u8 D3,.int .u8 F3,.int .u8 N3,.int .u8 M3]] w fun e W'=>e = .returned (.bool true)∧Below w.heap.size w W':=by
 obtain ⟨b1,d1,f1,n1,m1,rfl,rfl,rfl,rfl,rfl,s1⟩:=z1.sp
 obtain ⟨b2,d2,f2,n2,m2,rfl,rfl,rfl,rfl,rfl,s2⟩:=z2.sp
 obtain ⟨b3,d3,f3,n3,m3,rfl,rfl,rfl,rfl,rfl,s3⟩:=z3.sp
 exact SurdAdds_main A1 C1 E1 b1 d1 f1 n1 m1 A2 C2 E2 b2 d2 f2 n2 m2 A3 C3 E3 b3 d3 f3 n3 m3 w s1 s2 s3 ht ht2 hS
end Go.Proofs.YtpkloolckbhdaaaGreatDoor.T
