/- Parts of the proof of the text YtjdfjgfdbgmbiaaGreatDoorHB39. -/
import Derived.Lib.AtoiAllCases
import Derived.Lib.SmallJoins
import Derived.Laws.AppendOwn
import Derived.Test.YtjdfjgfdbgmbiaaGreatDoorHB1
import Derived.Test.YtjdfjgfdbgmbiaaGreatDoorHB18
import Derived.Test.YtjdfjgfdbgmbiaaGreatDoorHB2
import Derived.Test.YtjdfjgfdbgmbiaaGreatDoorHB22
import Derived.Test.YtjdfjgfdbgmbiaaGreatDoorHB23
import Derived.Test.YtjdfjgfdbgmbiaaGreatDoorHB24
import Derived.Test.YtjdfjgfdbgmbiaaGreatDoorHB25
set_option linter.all false
set_option maxRecDepth 100000
set_option maxHeartbeats 8000000
namespace Go.Proofs.YtjdfjgfdbgmbiaaGreatDoor
open Go.RowKit
def Sq (x:Rat):Prop:=x.num.natAbs<lim∧x.den<lim
theorem Sq.n {x:Rat} (h:Sq x):short x.num:=h.1
theorem Sq.d {x:Rat} (h:Sq x):short (x.den:Int):=by show Int.natAbs _<lim;rw [Int.natAbs_natCast];exact h.2
theorem bN_strQ (x:Rat):bN (strQ x)=strB x.num:=bytes_ext (by rw [bN_data,strQ_data,strB_data,(itoaQ_cut x).1])
theorem bD_strQ (x:Rat):bD (strQ x)=strB (x.den:Int):=bytes_ext (by rw [bD_data,strQ_data,strB_data,(itoaQ_cut x).2.1])
theorem val_strQ (x:Rat):valOf (cutN (strQ x).data.toList)=x.num∧valOf (cutD (strQ x).data.toList)=x.den:=by
 rw [strQ_data,(itoaQ_cut x).1,(itoaQ_cut x).2.1,valOf_itoa,valOf_itoa];exact ⟨rfl,rfl⟩
theorem Sq.chk {x:Rat} (h:Sq x):chkQ (strQ x).data.toList=0:=strQ_chk h.1 h.2
theorem Sq.size {x:Rat} (h:Sq x):(strQ x).size≤maxLen:=by
 have h1:=strB_size h.n
 have h2:=strB_size h.d
 rw [←size_len,strB_data] at h1 h2
 rw [←size_len,strQ_data]
 unfold itoaQ maxLen
 split
 ·omega
 ·rw [List.length_append,List.length_cons];omega
theorem readLong_q (x:Rat) (w:World) (hx:Sq x) (ht:Tab w) :
  Calls Tryz.prog 70 #[.string (strQ x)] w fun e W'=>e = .returned (.tuple #[.agg #[.string (strB x.num),.int .i64 0,.string (strB (x.den:Int)),.int .i64 0],.int .i64 0])∧Below w.heap.size w W':=by
 have c:=readLong_any (strQ x) w hx.size ht
 obtain ⟨q1,q2⟩:=rl_good hx.chk
 rwa [q1,q2,bN_strQ,bD_strQ,hx.chk] at c
theorem mOK_b {x:Rat} (h:mOK (strQ x).data.toList=true):B18 x.num∧B18 (x.den:Int):=by
 have:=(mOK_chk h).2
 rwa [(val_strQ x).1,(val_strQ x).2] at this
theorem computeN_q (x y:Rat) (p q:Nat) (rM:ByteArray) (eM:Int) (B:ByteArray) (E:Int) (w:World) (hx:Sq x) (hy:Sq y) (ht:Tab w) (ht2:Tab64 w)
  (hs:B18 x.num→B18 (x.den:Int)→B18 y.num→B18 (y.den:Int)→CqB w 71 #[.agg #[.int .i64 x.num,.int .i64 (x.den:Int)],.agg #[.int .i64 y.num,.int .i64 (y.den:Int)],.pointer (some ⟨p,0,none⟩)] (.tuple #[.string rM,.int .i64 eM]))
  (hok:eM=0→rM=B∧E=0)
  (hl:CqB w 72 #[.agg #[.string (strB x.num),.int .i64 0,.string (strB (x.den:Int)),.int .i64 0],.agg #[.string (strB y.num),.int .i64 0,.string (strB (y.den:Int)),.int .i64 0],.pointer (some ⟨q,0,none⟩)] (.tuple #[.string B,.int .i64 E])) :
  Calls Tryz.prog 35 #[.string (strQ x),.string (strQ y),.func (.func 71) #[] #[.pointer (some ⟨p,0,none⟩)],.func (.func 72) #[] #[.pointer (some ⟨q,0,none⟩)]] w fun e W'=>e = .returned (.tuple #[.string B,.int .i64 E])∧Below w.heap.size w W':=by
 have el:∀ args W,(callFunc 72 args).run Tryz.prog W = .ok (.enter 72 args) W:=enters_of Tryz.func72 (by kernel_rfl) rfl
 have es:∀ args W,(callFunc 71 args).run Tryz.prog W = .ok (.enter 71 args) W:=enters_of Tryz.func71 (by kernel_rfl) rfl
 have ra:=fun W (hW:Below w.heap.size w W)=>readLong_q x W hx (ht.next hW)
 have rb:=fun W (hW:Below w.heap.size w W)=>readLong_q y W hy (ht.next hW)
 by_cases o:mOK (strQ x).data.toList=true∧mOK (strQ y).data.toList=true
 ·have hm:=fun W (hW:Below w.heap.size w W)=>readMachines_yes (strQ x) (strQ y) W hx.size hy.size o.1 o.2 (TabQ_next ht2 hW)
  simp only [(val_strQ x).1,(val_strQ x).2,(val_strQ y).1,(val_strQ y).2] at hm
  have hs:=hs (mOK_b o.1).1 (mOK_b o.1).2 (mOK_b o.2).1 (mOK_b o.2).2
  by_cases he:eM=0
  ·obtain ⟨h1,h2⟩:=hok he
   subst h1;subst h2;subst he
   exact computeN_short _ _ p q _ _ _ _ _ _ _ w hm es hs
  ·exact computeN_both _ _ p q _ _ _ _ _ _ _ _ _ _ _ _ _ _ w (bool_ne he).1 (bool_ne he).2 hm es hs ra rb el hl
 ·have hm:=fun W (hW:Below w.heap.size w W)=>readMachines_no (strQ x) (strQ y) W hx.size hy.size o (TabQ_next ht2 hW)
  exact computeN_long _ _ p q _ _ _ _ _ _ _ _ w hm ra rb el hl
theorem computeI_q (x y:Rat) (ks kl:FuncId) (es:∀ args W,(callFunc ks args).run Tryz.prog W = .ok (.enter ks args) W) (el:∀ args W,(callFunc kl args).run Tryz.prog W = .ok (.enter kl args) W) (rM eM B E:Int) (w:World) (hx:Sq x) (hy:Sq y) (ht:Tab w) (ht2:Tab64 w)
  (hs:B18 x.num→B18 (x.den:Int)→B18 y.num→B18 (y.den:Int)→CqB w ks #[.agg #[.int .i64 x.num,.int .i64 (x.den:Int)],.agg #[.int .i64 y.num,.int .i64 (y.den:Int)]] (.tuple #[.int .i64 rM,.int .i64 eM]))
  (hok:eM=0→rM=B∧E=0)
  (hl:CqB w kl #[.agg #[.string (strB x.num),.int .i64 0,.string (strB (x.den:Int)),.int .i64 0],.agg #[.string (strB y.num),.int .i64 0,.string (strB (y.den:Int)),.int .i64 0]] (.tuple #[.int .i64 B,.int .i64 E])) :
  Calls Tryz.prog 44 #[.string (strQ x),.string (strQ y),.func (.func ks) #[] #[],.func (.func kl) #[] #[]] w fun e W'=>e = .returned (.tuple #[.int .i64 B,.int .i64 E])∧Below w.heap.size w W':=by
 have ra:=fun W (hW:Below w.heap.size w W)=>readLong_q x W hx (ht.next hW)
 have rb:=fun W (hW:Below w.heap.size w W)=>readLong_q y W hy (ht.next hW)
 by_cases o:mOK (strQ x).data.toList=true∧mOK (strQ y).data.toList=true
 ·have hm:=fun W (hW:Below w.heap.size w W)=>readMachines_yes (strQ x) (strQ y) W hx.size hy.size o.1 o.2 (TabQ_next ht2 hW)
  simp only [(val_strQ x).1,(val_strQ x).2,(val_strQ y).1,(val_strQ y).2] at hm
  have hs:=hs (mOK_b o.1).1 (mOK_b o.1).2 (mOK_b o.2).1 (mOK_b o.2).2
  by_cases he:eM=0
  ·obtain ⟨h1,h2⟩:=hok he
   subst h1;subst h2;subst he
   exact computeI_short _ _ _ _ _ _ _ _ _ w hm es hs
  ·exact computeI_both _ _ _ _ _ _ _ _ _ _ _ _ _ _ _ _ w (bool_ne he).1 (bool_ne he).2 hm es hs ra rb el hl
 ·have hm:=fun W (hW:Below w.heap.size w W)=>readMachines_no (strQ x) (strQ y) W hx.size hy.size o (TabQ_next ht2 hW)
  exact computeI_long _ _ _ _ _ _ _ _ _ _ w hm ra rb el hl
theorem B18.ok {z:Int} (h:B18 z):z.natAbs<4611686018427387904:=by unfold B18 at h;omega
theorem den_wf {x:Rat} (h:Sq x):Lwf (some (x.den:Int)):=some_wf h.d
theorem num_wf {x:Rat} (h:Sq x):Lwf (some x.num):=some_wf h.n
theorem mk_den0 (x y:Rat):opL (· * ·) (some (x.den:Int)) (some (y.den:Int))≠some 0:=by
 rw [opL_some]
 unfold mkL
 intro h
 split at h
 ·have h1:=Option.some.inj h
  rcases Int.mul_eq_zero.1 h1 with q | q
  ·exact den_0 x q
  ·exact den_0 y q
 ·cases h
theorem mk_num0 {x y:Rat} (hy:y≠0):opL (· * ·) (some y.num) (some (x.den:Int))≠some 0:=by
 rw [opL_some]
 unfold mkL
 intro h
 split at h
 ·have h1:=Option.some.inj h
  rcases Int.mul_eq_zero.1 h1 with q | q
  ·exact hy (Rat.num_eq_zero.1 q)
  ·exact den_0 x q
 ·cases h
theorem addM_rule (x y:Rat) (p:Nat) (w:World) (bx:B18 x.num) (cx:B18 (x.den:Int)) (by_:B18 y.num) (cy:B18 (y.den:Int)) (hb:Blk w p #[.func (.func 37) #[] #[]]) (ht:Tab w) (ht2:Tab64 w) :
  Calls Tryz.prog 71 #[.agg #[.int .i64 x.num,.int .i64 (x.den:Int)],.agg #[.int .i64 y.num,.int .i64 (y.den:Int)],.pointer (some ⟨p,0,none⟩)] w fun e W'=>e = .returned (.tuple #[.string (lowR (plusM (timesM x.num y.den) (timesM y.num x.den)) (timesM x.den y.den)),.int .i64 (lowRE (plusM (timesM x.num y.den) (timesM y.num x.den)) (timesM x.den y.den))])∧Below w.heap.size w W' :=
 ruleM_any 37 p _ _ _ _ _ _ _ _ w (enters_of Tryz.func37 (by kernel_rfl) rfl) hb (fun W _=>sumM_any _ _ _ _ W bx cx by_ cy)
  (fun W hW=>lowestM_any _ _ W (plusM_lo (timesM_ok _ _) (timesM_ok _ _)).1 (plusM_lo (timesM_ok _ _) (timesM_ok _ _)).2 (timesM_ok _ _).lo (timesM_ok _ _).hi (timesM_0 (den_0 x) (den_0 y)) (ht.next hW) (TabQ_next ht2 hW))
theorem addL_rule (x y:Rat) (q:Nat) (w:World) (hx:Sq x) (hy:Sq y) (hb:Blk w q #[.func (.func 39) #[] #[]]) (ht:Tab w) :
  Calls Tryz.prog 72 #[.agg #[.string (strB x.num),.int .i64 0,.string (strB (x.den:Int)),.int .i64 0],.agg #[.string (strB y.num),.int .i64 0,.string (strB (y.den:Int)),.int .i64 0],.pointer (some ⟨q,0,none⟩)] w fun e W'=>e = .returned (.tuple #[.string (qaddB x y),.int .i64 (qaddE x y)])∧Below w.heap.size w W':=by
 have c:=ruleL_any 39 q (strB x.num) (strB (x.den:Int)) (strB y.num) (strB (y.den:Int)) _ _ 0 0 0 0 _ _ _ _ w (enters_of Tryz.func39 (by kernel_rfl) rfl) hb
  (fun W hW=>sumL_any (some x.num) (some (x.den:Int)) (some y.num) (some (y.den:Int)) W (num_wf hx) (den_wf hx) (num_wf hy) (den_wf hy) (ht.next hW))
  (fun W hW=>lowestL_any (opL (· + ·) (opL (· * ·) (some x.num) (some (y.den:Int))) (opL (· * ·) (some y.num) (some (x.den:Int)))) (opL (· * ·) (some (x.den:Int)) (some (y.den:Int))) W (opL_wf _ _ _) (opL_wf _ _ _) (mk_den0 x y) (ht.next hW))
 rwa [(addL_ok x y).1,(addL_ok x y).2] at c
theorem AddQ_core (a b r:ByteArray) (e0:Int) (w:World)
  (h:∀ W p q,Below w.heap.size w W→Blk W p #[.func (.func 37) #[] #[]]→Blk W q #[.func (.func 39) #[] #[]]→Calls Tryz.prog 35 #[.string a,.string b,.func (.func 71) #[] #[.pointer (some ⟨p,0,none⟩)],.func (.func 72) #[] #[.pointer (some ⟨q,0,none⟩)]] W fun e W'=>e = .returned (.tuple #[.string r,.int .i64 e0])∧Below W.heap.size W W') :
  Calls Tryz.prog 13 #[.string a,.string b] w fun e W'=>e = .returned (.tuple #[.string r,.int .i64 e0])∧Below w.heap.size w W':=by
 have C:=Lib.hid (And.intro h (And.intro (fun W=>reducedM_mk 37 W) (fun W=>reducedL_mk 39 W)));clear h
 go_enter Tryz.func13,Tryz.ntmps13
 go_wp2_with fail
 refine (C.out.2.1 _).mono ?_
 rintro e w1 ⟨rfl,k0,b⟩
 have H1:=Lib.hid (And.intro k0 b);clear k0 b
 go_wp2_with fail
 refine (C.out.2.2 _).mono ?_
 rintro e w2 ⟨rfl,k1,b⟩
 have H2:=Lib.hid (And.intro (H1.out.1.next b) (And.intro k1 (H1.out.2.trans (b.mono H1.out.2.size))));clear k1 b H1
 go_wp2_with fail
 refine (C.out.1 _ _ _ H2.out.2.2 H2.out.1 H2.out.2.1).mono ?_
 rintro e w3 ⟨rfl,b⟩
 have H3:=Lib.hid (H2.out.2.2.trans (b.mono H2.out.2.2.size));clear b
 go_wp2
 go_ret2
 exact ⟨rfl,H3.out⟩
theorem Add_q (x y:Rat) (w:World) (hx:Sq x) (hy:Sq y) (ht:Tab w) (ht2:Tab64 w) :
  Calls Tryz.prog 13 #[.string (strQ x),.string (strQ y)] w fun e W'=>e = .returned (.tuple #[.string (qaddB x y),.int .i64 (qaddE x y)])∧Below w.heap.size w W':=by
 refine AddQ_core _ _ _ _ w (fun W p q hW k0 k1 => ?_)
 exact computeN_q x y p q _ _ _ _ W hx hy (ht.next hW) (TabQ_next ht2 hW)
  (fun b1 c1 b2 c2 W' hW'=>addM_rule x y p W' b1 c1 b2 c2 (k0.next hW') ((ht.next hW).next hW') (TabQ_next (TabQ_next ht2 hW) hW'))
  (fun he=>addM_ok x y he)
  (fun W' hW'=>addL_rule x y q W' hx hy (k1.next hW') ((ht.next hW).next hW'))
theorem mulM_rule (x y:Rat) (p:Nat) (w:World) (bx:B18 x.num) (cx:B18 (x.den:Int)) (by_:B18 y.num) (cy:B18 (y.den:Int)) (hb:Blk w p #[.func (.func 56) #[] #[]]) (ht:Tab w) (ht2:Tab64 w) :
  Calls Tryz.prog 71 #[.agg #[.int .i64 x.num,.int .i64 (x.den:Int)],.agg #[.int .i64 y.num,.int .i64 (y.den:Int)],.pointer (some ⟨p,0,none⟩)] w fun e W'=>e = .returned (.tuple #[.string (lowR (timesM x.num y.num) (timesM x.den y.den)),.int .i64 (lowRE (timesM x.num y.num) (timesM x.den y.den))])∧Below w.heap.size w W' :=
 ruleM_any 56 p _ _ _ _ _ _ _ _ w (enters_of Tryz.func56 (by kernel_rfl) rfl) hb (fun W _=>productM_any _ _ _ _ W bx cx by_ cy)
  (fun W hW=>lowestM_any _ _ W (timesM_ok _ _).lo (timesM_ok _ _).hi (timesM_ok _ _).lo (timesM_ok _ _).hi (timesM_0 (den_0 x) (den_0 y)) (ht.next hW) (TabQ_next ht2 hW))
theorem mulL_rule (x y:Rat) (q:Nat) (w:World) (hx:Sq x) (hy:Sq y) (hb:Blk w q #[.func (.func 57) #[] #[]]) (ht:Tab w) :
  Calls Tryz.prog 72 #[.agg #[.string (strB x.num),.int .i64 0,.string (strB (x.den:Int)),.int .i64 0],.agg #[.string (strB y.num),.int .i64 0,.string (strB (y.den:Int)),.int .i64 0],.pointer (some ⟨q,0,none⟩)] w fun e W'=>e = .returned (.tuple #[.string (qmulB x y),.int .i64 (qmulE x y)])∧Below w.heap.size w W':=by
 have c:=ruleL_any 57 q (strB x.num) (strB (x.den:Int)) (strB y.num) (strB (y.den:Int)) _ _ 0 0 0 0 _ _ _ _ w (enters_of Tryz.func57 (by kernel_rfl) rfl) hb
  (fun W hW=>productL_any (some x.num) (some (x.den:Int)) (some y.num) (some (y.den:Int)) W (num_wf hx) (den_wf hx) (num_wf hy) (den_wf hy) (ht.next hW))
  (fun W hW=>lowestL_any (opL (· * ·) (some x.num) (some y.num)) (opL (· * ·) (some (x.den:Int)) (some (y.den:Int))) W (opL_wf _ _ _) (opL_wf _ _ _) (mk_den0 x y) (ht.next hW))
 rwa [(mulL_ok x y).1,(mulL_ok x y).2] at c
theorem MulQ_core (a b r:ByteArray) (e0:Int) (w:World)
  (h:∀ W p q,Below w.heap.size w W→Blk W p #[.func (.func 56) #[] #[]]→Blk W q #[.func (.func 57) #[] #[]]→Calls Tryz.prog 35 #[.string a,.string b,.func (.func 71) #[] #[.pointer (some ⟨p,0,none⟩)],.func (.func 72) #[] #[.pointer (some ⟨q,0,none⟩)]] W fun e W'=>e = .returned (.tuple #[.string r,.int .i64 e0])∧Below W.heap.size W W') :
  Calls Tryz.prog 24 #[.string a,.string b] w fun e W'=>e = .returned (.tuple #[.string r,.int .i64 e0])∧Below w.heap.size w W':=by
 have C:=Lib.hid (And.intro h (And.intro (fun W=>reducedM_mk 56 W) (fun W=>reducedL_mk 57 W)));clear h
 go_enter Tryz.func24,Tryz.ntmps24
 go_wp2_with fail
 refine (C.out.2.1 _).mono ?_
 rintro e w1 ⟨rfl,k0,b⟩
 have H1:=Lib.hid (And.intro k0 b);clear k0 b
 go_wp2_with fail
 refine (C.out.2.2 _).mono ?_
 rintro e w2 ⟨rfl,k1,b⟩
 have H2:=Lib.hid (And.intro (H1.out.1.next b) (And.intro k1 (H1.out.2.trans (b.mono H1.out.2.size))));clear k1 b H1
 go_wp2_with fail
 refine (C.out.1 _ _ _ H2.out.2.2 H2.out.1 H2.out.2.1).mono ?_
 rintro e w3 ⟨rfl,b⟩
 have H3:=Lib.hid (H2.out.2.2.trans (b.mono H2.out.2.2.size));clear b
 go_wp2
 go_ret2
 exact ⟨rfl,H3.out⟩
theorem Mul_q (x y:Rat) (w:World) (hx:Sq x) (hy:Sq y) (ht:Tab w) (ht2:Tab64 w) :
  Calls Tryz.prog 24 #[.string (strQ x),.string (strQ y)] w fun e W'=>e = .returned (.tuple #[.string (qmulB x y),.int .i64 (qmulE x y)])∧Below w.heap.size w W':=by
 refine MulQ_core _ _ _ _ w (fun W p q hW k0 k1 => ?_)
 exact computeN_q x y p q _ _ _ _ W hx hy (ht.next hW) (TabQ_next ht2 hW)
  (fun b1 c1 b2 c2 W' hW'=>mulM_rule x y p W' b1 c1 b2 c2 (k0.next hW') ((ht.next hW).next hW') (TabQ_next (TabQ_next ht2 hW) hW'))
  (fun he=>mulM_ok x y he)
  (fun W' hW'=>mulL_rule x y q W' hx hy (k1.next hW') ((ht.next hW).next hW'))
theorem divM_rule (x y:Rat) (p:Nat) (w:World) (bx:B18 x.num) (cx:B18 (x.den:Int)) (by_:B18 y.num) (cy:B18 (y.den:Int)) (h0:y≠0) (hb:Blk w p #[.func (.func 77) #[] #[]]) (ht:Tab w) (ht2:Tab64 w) :
  Calls Tryz.prog 71 #[.agg #[.int .i64 x.num,.int .i64 (x.den:Int)],.agg #[.int .i64 y.num,.int .i64 (y.den:Int)],.pointer (some ⟨p,0,none⟩)] w fun e W'=>e = .returned (.tuple #[.string (lowR (timesM x.num y.den) (timesM y.num x.den)),.int .i64 (lowRE (timesM x.num y.den) (timesM y.num x.den))])∧Below w.heap.size w W' :=
 ruleM_any 77 p _ _ _ _ _ _ _ _ w (enters_of Tryz.func77 (by kernel_rfl) rfl) hb (fun W _=>ratioM_any _ _ _ _ W bx cx by_ cy)
  (fun W hW=>lowestM_any _ _ W (timesM_ok _ _).lo (timesM_ok _ _).hi (timesM_ok _ _).lo (timesM_ok _ _).hi (timesM_0 (fun e=>h0 (Rat.num_eq_zero.1 e)) (den_0 x)) (ht.next hW) (TabQ_next ht2 hW))
theorem divL_rule (x y:Rat) (q:Nat) (w:World) (hx:Sq x) (hy:Sq y) (h0:y≠0) (hb:Blk w q #[.func (.func 79) #[] #[]]) (ht:Tab w) :
  Calls Tryz.prog 72 #[.agg #[.string (strB x.num),.int .i64 0,.string (strB (x.den:Int)),.int .i64 0],.agg #[.string (strB y.num),.int .i64 0,.string (strB (y.den:Int)),.int .i64 0],.pointer (some ⟨q,0,none⟩)] w fun e W'=>e = .returned (.tuple #[.string (qdivB x y),.int .i64 (qdivE x y)])∧Below w.heap.size w W':=by
 have c:=ruleL_any 79 q (strB x.num) (strB (x.den:Int)) (strB y.num) (strB (y.den:Int)) _ _ 0 0 0 0 _ _ _ _ w (enters_of Tryz.func79 (by kernel_rfl) rfl) hb
  (fun W hW=>ratioL_any (some x.num) (some (x.den:Int)) (some y.num) (some (y.den:Int)) W (num_wf hx) (den_wf hx) (num_wf hy) (den_wf hy) (ht.next hW))
  (fun W hW=>lowestL_any (opL (· * ·) (some x.num) (some (y.den:Int))) (opL (· * ·) (some y.num) (some (x.den:Int))) W (opL_wf _ _ _) (opL_wf _ _ _) (mk_num0 h0) (ht.next hW))
 rwa [(divL_ok x y).1,(divL_ok x y).2] at c
theorem DivQ_core (a b r:ByteArray) (e0:Int) (hz:(b.toList == [48])=false) (hz':(b.toList != [48])=true) (w:World)
  (h:∀ W p q,Below w.heap.size w W→Blk W p #[.func (.func 77) #[] #[]]→Blk W q #[.func (.func 79) #[] #[]]→Calls Tryz.prog 35 #[.string a,.string b,.func (.func 71) #[] #[.pointer (some ⟨p,0,none⟩)],.func (.func 72) #[] #[.pointer (some ⟨q,0,none⟩)]] W fun e W'=>e = .returned (.tuple #[.string r,.int .i64 e0])∧Below W.heap.size W W') :
  Calls Tryz.prog 82 #[.string a,.string b] w fun e W'=>e = .returned (.tuple #[.string r,.int .i64 e0])∧Below w.heap.size w W':=by
 have C:=Lib.hid (And.intro h (And.intro (fun W=>reducedM_mk 77 W) (fun W=>reducedL_mk 79 W)));clear h
 go_enter Tryz.func82,Tryz.ntmps82
 go_wp2_with fail
 refine (C.out.2.1 _).mono ?_
 rintro e w1 ⟨rfl,k0,b⟩
 have H1:=Lib.hid (And.intro k0 b);clear k0 b
 go_wp2_with fail
 refine (C.out.2.2 _).mono ?_
 rintro e w2 ⟨rfl,k1,b⟩
 have H2:=Lib.hid (And.intro (H1.out.1.next b) (And.intro k1 (H1.out.2.trans (b.mono H1.out.2.size))));clear k1 b H1
 go_wp2_with fail
 refine (C.out.1 _ _ _ H2.out.2.2 H2.out.1 H2.out.2.1).mono ?_
 rintro e w3 ⟨rfl,b⟩
 have H3:=Lib.hid (H2.out.2.2.trans (b.mono H2.out.2.2.size));clear b
 go_wp2
 go_ret2
 exact ⟨rfl,H3.out⟩
theorem Div_q (x y:Rat) (w:World) (hx:Sq x) (hy:Sq y) (h0:y≠0) (ht:Tab w) (ht2:Tab64 w) :
  Calls Tryz.prog 82 #[.string (strQ x),.string (strQ y)] w fun e W'=>e = .returned (.tuple #[.string (qdivB x y),.int .i64 (qdivE x y)])∧Below w.heap.size w W':=by
 have hz:((strQ y).toList == [48])=false:=by rw [strQ_is0];exact decide_eq_false h0
 refine DivQ_core _ _ _ _ hz (by rw [bne,hz];rfl) w (fun W p q hW k0 k1 => ?_)
 exact computeN_q x y p q _ _ _ _ W hx hy (ht.next hW) (TabQ_next ht2 hW)
  (fun b1 c1 b2 c2 W' hW'=>divM_rule x y p W' b1 c1 b2 c2 h0 (k0.next hW') ((ht.next hW).next hW') (TabQ_next (TabQ_next ht2 hW) hW'))
  (fun he=>divM_ok x y he)
  (fun W' hW'=>divL_rule x y q W' hx hy h0 (k1.next hW') ((ht.next hW).next hW'))
theorem ordM_any (x y:Rat) (w:World) (bx:B18 x.num) (cx:B18 (x.den:Int)) (by_:B18 y.num) (cy:B18 (y.den:Int)) :
  Calls Tryz.prog 45 #[.agg #[.int .i64 x.num,.int .i64 (x.den:Int)],.agg #[.int .i64 y.num,.int .i64 (y.den:Int)]] w fun e W'=>e = .returned (.tuple #[.int .i64 (ordR (timesM x.num y.den) (timesM y.num x.den)),.int .i64 (lowRE (timesM x.num y.den) (timesM y.num x.den))])∧Below w.heap.size w W':=by
 have hr:=fun W (_:Below w.heap.size w W)=>ratioM_any x.num x.den y.num y.den W bx cx by_ cy
 have hf:=fun W (_:Below w.heap.size w W)=>fitM_any (timesM x.num y.den) (timesM y.num x.den) W
 by_cases h:timesM x.num y.den=tooL∨timesM y.num x.den=tooL
 ·unfold ordR lowRE
  rw [if_pos h,if_pos h]
  rw [if_pos h] at hf
  exact orderM_bad _ _ _ _ _ _ 4 (by decide) (by decide) w hr hf
 ·unfold ordR lowRE
  rw [if_neg h,if_neg h]
  rw [if_neg h] at hf
  exact orderM_ok _ _ _ _ _ _ _ w hr hf (fun W _=>(mach_cmp _ _ W).mono fun e W' h=>⟨h.1,by rw [←h.2];exact Below.refl _ _⟩)
theorem ordL_any (x y:Rat) (w:World) (hx:Sq x) (hy:Sq y) (ht:Tab w) :
  Calls Tryz.prog 46 #[.agg #[.string (strB x.num),.int .i64 0,.string (strB (x.den:Int)),.int .i64 0],.agg #[.string (strB y.num),.int .i64 0,.string (strB (y.den:Int)),.int .i64 0]] w fun e W'=>e = .returned (.tuple #[.int .i64 (qcmpR x y),.int .i64 (qcmpE x y)])∧Below w.heap.size w W':=by
 rw [←(ordL_ok x y).1,←(ordL_ok x y).2]
 have hr:=fun W (hW:Below w.heap.size w W)=>ratioL_any (some x.num) (some (x.den:Int)) (some y.num) (some (y.den:Int)) W (num_wf hx) (den_wf hx) (num_wf hy) (den_wf hy) (ht.next hW)
 have w1:=opL_wf (· * ·) (some x.num) (some (y.den:Int))
 have w2:=opL_wf (· * ·) (some y.num) (some (x.den:Int))
 generalize opL (· * ·) (some x.num) (some (y.den:Int))=o at *
 generalize opL (· * ·) (some y.num) (some (x.den:Int))=p at *
 cases o with
 | none =>
  have hf:=fun W (_:Below w.heap.size w W)=>fitL_none p W
  have c:=orderL_bad (strB x.num) (strB (x.den:Int)) (strB y.num) (strB (y.den:Int)) _ _ 0 0 0 0 _ _ 4 (by decide) (by decide) w hr hf
  rw [(lowO_none p).2]
  exact c
 | some n =>
  have hf:=fun W (_:Below w.heap.size w W)=>fitL_some n p W
  cases p with
  | none=>exact orderL_bad (strB x.num) (strB (x.den:Int)) (strB y.num) (strB (y.den:Int)) _ _ 0 0 0 0 _ _ 4 (by decide) (by decide) w hr hf
  | some d=>exact orderL_ok (strB x.num) (strB (x.den:Int)) (strB y.num) (strB (y.den:Int)) _ _ 0 0 0 0 _ _ _ w hr hf (fun W _=>long_cmp n d W (w1 n rfl) (w2 d rfl))
theorem CompareQ_core (a b:ByteArray) (r e0:Int) (w:World)
  (h:CqB w 44 #[.string a,.string b,.func (.func 45) #[] #[],.func (.func 46) #[] #[]] (.tuple #[.int .i64 r,.int .i64 e0])) :
  Calls Tryz.prog 15 #[.string a,.string b] w fun e W'=>e = .returned (.tuple #[.int .i64 r,.int .i64 e0])∧Below w.heap.size w W':=by
 have C:=Lib.hid h;clear h
 go_enter Tryz.func15,Tryz.ntmps15
 go_wp2_with fail
 refine (C.out _ (Below.refl _ _)).mono ?_
 rintro e w1 ⟨rfl,b⟩
 have H1:=Lib.hid b;clear b
 go_wp2
 go_ret2
 exact ⟨rfl,H1.out⟩
theorem Compare_q (x y:Rat) (w:World) (hx:Sq x) (hy:Sq y) (ht:Tab w) (ht2:Tab64 w) :
  Calls Tryz.prog 15 #[.string (strQ x),.string (strQ y)] w fun e W'=>e = .returned (.tuple #[.int .i64 (qcmpR x y),.int .i64 (qcmpE x y)])∧Below w.heap.size w W':=by
 refine CompareQ_core _ _ _ _ w (fun W hW => ?_)
 exact computeI_q x y _ _ (enters_of Tryz.func45 (by kernel_rfl) rfl) (enters_of Tryz.func46 (by kernel_rfl) rfl) _ _ _ _ W hx hy (ht.next hW) (TabQ_next ht2 hW)
  (fun b1 c1 b2 c2 W' _=>ordM_any x y W' b1 c1 b2 c2) (fun he=>ordM_ok x y he) (fun W' hW'=>ordL_any x y W' hx hy ((ht.next hW).next hW'))
theorem Check_q (x:Rat) (w:World) (hx:Sq x) (ht:Tab w) (ht2:Tab64 w) :
  Calls Tryz.prog 107 #[.string (strQ x)] w fun e W'=>e = .returned (.int .i64 0)∧Below w.heap.size w W':=by
 have c:=checkQ_any (strQ x) w hx.size ht ht2
 rwa [hx.chk] at c
theorem Parts_q (x:Rat) (w:World) (hx:Sq x) (ht:Tab w) (ht2:Tab64 w) :
  Calls Tryz.prog 129 #[.string (strQ x)] w fun e W'=>e = .returned (.tuple #[.string (strB x.num),.string (strB (x.den:Int)),.int .i64 0])∧Below w.heap.size w W':=by
 have c:=partsQ_any (strQ x) w hx.size ht ht2
 unfold paN paD at c
 rwa [if_pos hx.chk,if_pos hx.chk,bN_strQ,bD_strQ,hx.chk] at c
def I64 (z:Int):Prop := -9223372036854775808≤z∧z≤9223372036854775807
theorem I64.short {z:Int} (h:I64 z):short z :=
 Nat.lt_of_le_of_lt (show z.natAbs≤9223372036854775808 by unfold I64 at h;omega) (Nat.lt_of_lt_of_le (by decide:9223372036854775808<tenTo 19) (tenTo_mono (by decide:19≤300)))
theorem Of_q (n d:Int) (w:World) (hn:I64 n) (hd:I64 d) (h0:d≠0) (ht:Tab w) (ht2:Tab64 w) :
  Calls Tryz.prog 27 #[.int .i64 n,.int .i64 d] w fun e W'=>e = .returned (.tuple #[.string (strQ (Rat.divInt n d)),.int .i64 0])∧Below w.heap.size w W':=by
 have c1:=fun W (h:Below w.heap.size w W)=>lowestM_any n d W hn.1 hn.2 hd.1 hd.2 h0 (ht.next h) (TabQ_next ht2 h)
 have c2:=fun W (h:Below w.heap.size w W)=>Itoa_any n W hn.1 hn.2 (ht.next h)
 have c3:=fun W (h:Below w.heap.size w W)=>Itoa_any d W hd.1 hd.2 (ht.next h)
 have c4:CqB w 61 #[.agg #[.string (strB n),.int .i64 0,.string (strB d),.int .i64 0]] (.tuple #[.string (strQ (Rat.divInt n d)),.int .i64 0]):=fun W h =>
  lowestL_any (some n) (some d) W (some_wf hn.short) (some_wf hd.short) (fun e=>h0 (Option.some.inj e)) (ht.next h)
 have n0:(d==0)=false:=by rw [beq_eq_false_iff_ne];exact h0
 have hR:lowRE n d=0→lowR n d=strQ (Rat.divInt n d):=fun h=>lowR_ne (lowRE_ne h).1 (lowRE_ne h).2
 by_cases he:lowRE n d=0
 ·rw [he,hR he] at c1
  have C:=Lib.hid c1
  clear c1 c2 c3 c4 ht ht2 hn hd h0 hR he
  generalize strQ (Rat.divInt n d)=r at *
  go_enter Tryz.func27,Tryz.ntmps27
  go_wp2_with fail
  refine (C.out _ (Below.refl _ _)).mono ?_
  rintro e w1 ⟨rfl,b⟩
  have H1:=Lib.hid b;clear b
  go_wp2
  go_ret2
  exact ⟨rfl,H1.out⟩
 ·obtain ⟨m1,m2⟩:=bool_ne he
  have C:=Lib.hid (And.intro c1 (And.intro c2 (And.intro c3 c4)))
  clear c1 c2 c3 c4 ht ht2 hn hd h0 hR he
  generalize lowRE n d=e1 at *
  generalize lowR n d=r1 at *
  generalize strQ (Rat.divInt n d)=r at *
  generalize strB n=sn at *
  generalize strB d=sd at *
  go_enter Tryz.func27,Tryz.ntmps27
  go_wp2_with fail
  refine (C.out.1 _ (Below.refl _ _)).mono ?_
  rintro e w1 ⟨rfl,b⟩
  have H1:=Lib.hid b;clear b
  go_wp2_with fail
  refine (C.out.2.1 _ H1.out).mono ?_
  rintro e w2 ⟨rfl,b⟩
  have H2:=Lib.hid (H1.out.trans (b.mono H1.out.size));clear b H1
  go_wp2_with fail
  refine (C.out.2.2.1 _ H2.out).mono ?_
  rintro e w3 ⟨rfl,b⟩
  have H3:=Lib.hid (H2.out.trans (b.mono H2.out.size));clear b H2
  go_wp2_with fail
  refine (C.out.2.2.2 _ H3.out).mono ?_
  rintro e w4 ⟨rfl,b⟩
  have H4:=Lib.hid (H3.out.trans (b.mono H3.out.size));clear b H3
  go_wp2
  go_ret2
  exact ⟨rfl,H4.out⟩
end Go.Proofs.YtjdfjgfdbgmbiaaGreatDoor

namespace Go.Proofs.YtjdfjgfdbgmbiaaGreatDoor
open Go.Lib
theorem natOf_cons' (c:UInt8) (r:List UInt8):natOf (c::r)=(c.toNat - 48)*10 ^ r.length+natOf r:=by
 have h:=natOf_append [c] r
 rw [show [c]++r=c::r from rfl] at h
 rw [h]
 have h2:natOf [c]=c.toNat - 48:=by simp [natOf]
 rw [h2]
theorem isDig_b {c:UInt8} (h:isDig c=true):48≤c.toNat∧c.toNat≤57:=(isDig_iff c).1 h
end Go.Proofs.YtjdfjgfdbgmbiaaGreatDoor
namespace Go.Proofs.YtjdfjgfdbgmbiaaGreatDoor
open Go.RowKit
def rat (a:ByteArray):Rat:=ratOf a.data.toList
theorem chkQ_sq {a:ByteArray} (h:chkQ a.data.toList=0):Sq (rat a):=chkQ_lim h
theorem chkQ_str {a:ByteArray} (h:chkQ a.data.toList=0):strQ (rat a)=a:=(str_of_chkQ h).symm
theorem is0_iff (b:ByteArray):((b.toList == [48])=true)↔b=⟨#[48]⟩:=by
 rw [ByteArray.toList_eq,beq_iff_eq]
 constructor
 ·intro h;exact bytes_ext h
 ·intro h;rw [h]
end Go.Proofs.YtjdfjgfdbgmbiaaGreatDoor
namespace Go.Proofs.YtjdfjgfdbgmbiaaGreatDoor.T
open Go.Proofs.YtjdfjgfdbgmbiaaGreatDoor Go Go.RowKit Go.Lib
theorem hasS_szl (l:List UInt8):hasS l=hasS (szL l)∧(hasS l=true→cutD l=cutD (szL l)):=by
 cases hn:isNeg l
 ·rw [szL_same hn];exact ⟨rfl,fun _=>rfl⟩
 ·obtain ⟨t,rfl,hs⟩:=isNeg_cons hn
  rw [hs]
  have h1:hasS (45::t)=hasS t:=by unfold hasS;simp
  refine ⟨h1,fun h => ?_⟩
  unfold cutD
  rw [h,←h1,h,if_pos rfl,if_pos rfl,List.dropWhile_cons_of_pos (by decide)]
theorem nd_le {n k:Nat} (h:n<tenTo k) (hk:1≤k):nDigits n≤k:=(nDigits_tenTo n k hk).2 h
theorem short_parts {q:Rat} {k:Nat} (hq:Bq k q) (hk:1≤k):(bN (szB (strQ q))).size≤k∧(bA (szB (strQ q))).size≤k:=by
 have hd:(szB (strQ q)).data.toList=szL (itoaQ q):=by unfold szB;rw [strQ_data]
 constructor
 ·rw [←size_len,bN_data,hd]
  have h:=(cutN_sz (itoaQ q)).2
  unfold Go.Proofs.YtjdfjgfdbgmbiaaGreatDoor.sN at h
  show (cutN (szL (itoaQ q))).length≤k
  unfold cutN
  rw [←h,(itoaQ_cut q).1,szL_itoa,decDigits_length]
  exact nd_le hq.1 hk
 ·unfold bA
  split
  ·next h =>
   rw [←size_len,bD_data,hd]
   rw [hd] at h
   have e:=hasS_szl (itoaQ q)
   rw [←e.2 (e.1.trans h),(itoaQ_cut q).2.1,itoa_nonneg,decDigits_length]
   exact nd_le hq.2 hk
  ·exact Nat.zero_le _
theorem isShort_yes (q:Rat) (k:Nat) (w:World) (hq:Bq k q) (hk:1≤k) (h9:k≤300) :
  Calls Tryz.prog 135 #[.string (strQ q),.int .i64 k] w fun e W'=>e = .returned (.bool true)∧Below w.heap.size w W':=by
 obtain ⟨z1,z2⟩:=short_parts hq hk
 have hs:(szB (strQ q)).size≤maxLen:=by
  have hsq:Sq q:=hq.lim (by omega)
  have h1:=hsq.size
  refine Nat.le_trans ?_ h1
  rw [←size_len,←size_len]
  show (szL (strQ q).data.toList).toArray.toList.length≤_
  simp only [List.toList_toArray]
  unfold szL;split <;> simp
 have c1:=fun W=>(Tryz.strings_TrimPrefix (strQ q) ⟨#[45]⟩ W).mono (R':=fun e W'=>e = .returned (.string (szB (strQ q)))∧W=W') (fun e W' h=>⟨by rw [h.1,show (⟨#[45]⟩:ByteArray).data.toList = [45] from rfl,trim_neg];rfl,h.2.symm⟩)
 have c2:=fun W=>strCut_any (szB (strQ q)) W hs
 clear hs hq h9
 generalize hasS (szB (strQ q)).data.toList=f at *
 generalize bN (szB (strQ q))=n at *
 generalize bA (szB (strQ q))=d at *
 generalize szB (strQ q)=u at *
 generalize strQ q=s at *
 have y1:¬ (k:Int)<n.size:=by omega
 have y2:¬ (k:Int)<d.size:=by omega
 have O:=Lib.hid (And.intro c1 c2);clear c1 c2 hk
 go_enter Tryz.func135,Tryz.ntmps135
 go_wp2_with fail
 refine (O.out.1 _).mono ?_
 rintro e v1 ⟨rfl,rfl⟩
 go_wp2_with fail
 refine (O.out.2 _).mono ?_
 rintro e v2 ⟨rfl,b⟩
 have B2:=Lib.hid b;clear b
 go_wp2
 go_ret
 exact ⟨rfl,B2.out⟩
theorem isTooLong_core (c r:ByteArray) (w:World)
  (h1:∀ W,Below w.heap.size w W→Calls Tryz.prog 135 #[.string c,.int .i64 60] W fun e W'=>e = .returned (.bool true)∧Below W.heap.size W W')
  (h2:∀ W,Below w.heap.size w W→Calls Tryz.prog 135 #[.string r,.int .i64 40] W fun e W'=>e = .returned (.bool true)∧Below W.heap.size W W') :
  Calls Tryz.prog 109 #[.agg #[.string c,.string r]] w fun e W'=>e = .returned (.bool false)∧Below w.heap.size w W':=by
 have O:=Lib.hid (And.intro h1 h2);clear h1 h2
 go_enter Tryz.func109,Tryz.ntmps109
 go_wp2_with fail
 have HB:=Lib.hid (And.intro (Blk.new w #[.string c,.string r] 50) ((Below.refl _ w).alloc (Nat.le_refl _) (.cells #[.string c,.string r] 50)))
 generalize w.alloc (.cells #[.string c,.string r] 50)=W0 at *
 generalize hk:w.heap.size=k at *
 have HK:=Lib.hid hk;clear hk
 have e0:=(show World.cell? _ ⟨k,0,none⟩=some (.string c) from HB.out.1.cell 0 _ rfl);have e1:=(show World.cell? _ ⟨k,1,none⟩=some (.string r) from HB.out.1.cell 1 _ rfl)
 refine (O.out.1 _ HB.out.2).mono ?_
 rintro e v1 ⟨rfl,b⟩
 have HN:=Lib.hid (And.intro (HB.out.1.next b) (HB.out.2.trans (b.mono (by have h1:=HB.out.2.size;have h2:=HK.out;omega))));clear HB b;have HB:=HN;clear HN;have e0:=(show World.cell? _ ⟨k,0,none⟩=some (.string c) from HB.out.1.cell 0 _ rfl);have e1:=(show World.cell? _ ⟨k,1,none⟩=some (.string r) from HB.out.1.cell 1 _ rfl)
 go_wp2_with fail
 refine (O.out.2 _ HB.out.2).mono ?_
 rintro e v2 ⟨rfl,b⟩
 have HN:=Lib.hid (And.intro (HB.out.1.next b) (HB.out.2.trans (b.mono (by have h1:=HB.out.2.size;have h2:=HK.out;omega))));clear HB b;have HB:=HN;clear HN;have e0:=(show World.cell? _ ⟨k,0,none⟩=some (.string c) from HB.out.1.cell 0 _ rfl);have e1:=(show World.cell? _ ⟨k,1,none⟩=some (.string r) from HB.out.1.cell 1 _ rfl)
 go_wp2
 go_ret
 have hb:=HB.out.2
 rw [←HK.out] at hb
 exact ⟨rfl,hb⟩
theorem isTooLong_no (c q:Rat) (w:World) (hc:Bq 60 c) (hq:Bq 40 q) :
  Calls Tryz.prog 109 #[.agg #[.string (strQ c),.string (strQ q)]] w fun e W'=>e = .returned (.bool false)∧Below w.heap.size w W' :=
 isTooLong_core _ _ w (fun W _=>isShort_yes c 60 W hc (by decide) (by decide)) (fun W _=>isShort_yes q 40 W hq (by decide) (by decide))
end Go.Proofs.YtjdfjgfdbgmbiaaGreatDoor.T
namespace Go.Proofs.YtjdfjgfdbgmbiaaGreatDoor.T
open Go.Proofs.YtjdfjgfdbgmbiaaGreatDoor Go Go.RowKit
def tat (l:List Tm) (j:Nat):Tm:=l[j]?.getD (0,0)
theorem tat_get {l:List Tm} {j:Nat} (h:j<l.length):tat l j=l[j]:=by unfold tat;rw [List.getElem?_eq_getElem h];rfl
theorem tat_mem {l:List Tm} {j:Nat} (h:j<l.length):tat l j∈l:=by rw [tat_get h];exact List.getElem_mem h
def tc (t:Tm):List Value := [.string (strQ t.1),.string (strQ t.2)]
def tcs (l:List Tm):List Value:=l.flatMap tc
theorem tcs_nil:tcs [] = []:=rfl
theorem tcs_cons (t:Tm) (l:List Tm):tcs (t::l) = .string (strQ t.1) :: .string (strQ t.2)::tcs l:=rfl
theorem tcs_append (l k:List Tm):tcs (l++k)=tcs l++tcs k:=List.flatMap_append
theorem tcs_len:∀ l:List Tm,(tcs l).length=l.length*2
 | []=>rfl
 | t::l=>by rw [tcs_cons,List.length_cons,List.length_cons,tcs_len l,List.length_cons];omega
theorem tcs_at:∀ (l:List Tm) (j:Nat),j<l.length→(tcs l)[2*j]? = some (.string (strQ (tat l j).1))∧(tcs l)[2*j+1]? = some (.string (strQ (tat l j).2))
 | [],j,h=>by simp at h
 | t::l,0,_=>⟨rfl,rfl⟩
 | t::l,j+1,h=>by
  have ih:=tcs_at l j (by simpa using h)
  rw [tcs_cons,show 2*(j+1)=2*j+1+1 by omega,List.getElem?_cons_succ,List.getElem?_cons_succ,show 2*j+1+1+1=(2*j+1)+1+1 by omega,List.getElem?_cons_succ,List.getElem?_cons_succ]
  exact ih
structure Tl (W:World) (b:Nat) (l:List Tm):Prop where
 lt:b<W.heap.size
 c0:∀ j,j<l.length→W.cell? ⟨b,j*2,none⟩=some (.string (strQ (tat l j).1))
 c1:∀ j,j<l.length→W.cell? ⟨b,j*2+1,none⟩=some (.string (strQ (tat l j).2))
theorem Tl.next {W W':World} {b:Nat} {l:List Tm} (h:Tl W b l) (g:Below W.heap.size W W'):Tl W' b l :=
 ⟨Nat.lt_of_lt_of_le h.lt g.size,fun j hj=>(g.cell (p:=⟨b,j*2,none⟩) h.lt).trans (h.c0 j hj),fun j hj=>(g.cell (p:=⟨b,j*2+1,none⟩) h.lt).trans (h.c1 j hj)⟩
theorem tat_take {l:List Tm} {i j:Nat} (h:j<i):tat (l.take i) j=tat l j:=by
 unfold tat;rw [List.getElem?_take,if_pos h]
theorem Tl.take {W:World} {b:Nat} {l:List Tm} (h:Tl W b l) (i:Nat):Tl W b (l.take i) :=
 ⟨h.lt,fun j hj=>by
  rw [List.length_take] at hj
  rw [tat_take (by omega)];exact h.c0 j (by omega),fun j hj=>by
  rw [List.length_take] at hj
  rw [tat_take (by omega)];exact h.c1 j (by omega)⟩
def Rd (W:World) (p:Option Addr) (l:List Tm):Prop:=0<l.length→∃ b,p=some ⟨b,0,none⟩∧Tl W b l
theorem Rd.next {W W':World} {p:Option Addr} {l:List Tm} (h:Rd W p l) (g:Below W.heap.size W W'):Rd W' p l :=
 fun k=>by obtain ⟨b,e,t⟩:=h k;exact ⟨b,e,t.next g⟩
theorem Rd.take {W:World} {p:Option Addr} {l:List Tm} (h:Rd W p l) (i:Nat):Rd W p (l.take i) :=
 fun k=>by
  rw [List.length_take] at k
  obtain ⟨b,e,t⟩:=h (by omega);exact ⟨b,e,t.take i⟩
theorem Rd.nil (W:World) (p:Option Addr):Rd W p []:=fun k=>by simp at k
def Ow (W:World) (base:Nat) (T:TypeId) (v:Value) (l:List Tm):Prop:=W.ownsRow base T 2 v l.length (tcs l)
theorem Ow.rd {W:World} {base:Nat} {T:TypeId} {v:Value} {l:List Tm} (h:Ow W base T v l):∃ p c,v = .slice p l.length c∧Rd W p l∧(p=none→l = []∧c=0):=by
 rcases h.2 with ⟨rfl,hn⟩ | ⟨g,cap,cur,rfl,hb,hg,hc,_⟩
 ·exact ⟨none,0,by rw [hn],fun k=>by omega,fun _=>⟨List.eq_nil_of_length_eq_zero hn,rfl⟩⟩
 ·have hcl:=World.ownsRow.cells h (g:=g) rfl
  have ha:∀ j,(⟨g,0,none⟩:Addr).add j=⟨g,j,none⟩:=fun j=>by unfold Addr.add;split <;> simp_all
  refine ⟨some ⟨g,0,none⟩,cap,rfl,fun _=>⟨g,rfl,lt_of_block hg,fun j hj => ?_,fun j hj => ?_⟩,fun k=>by cases k⟩
  ·rw [←ha,Nat.mul_comm];exact hcl _ _ (tcs_at l j hj).1
  ·rw [←ha,Nat.mul_comm];exact hcl _ _ (tcs_at l j hj).2
theorem Ow.next {W W':World} {base:Nat} {T:TypeId} {v:Value} {l:List Tm} (h:Ow W base T v l) (g:Below W.heap.size W W'):Ow W' base T v l:=by
 refine ⟨h.1,?_⟩
 rcases h.2 with hn | ⟨k,cap,cur,e,hb,hg,rest⟩
 ·exact .inl hn
 ·exact .inr ⟨k,cap,cur,e,hb,by rw [g.block k (lt_of_block hg)];exact hg,rest⟩
end Go.Proofs.YtjdfjgfdbgmbiaaGreatDoor.T
