/- Parts of the proof. -/
import Derived.Test.YtbhbhlfkdlfimaaGreatDoorRows
import Derived.Test.YtbhbhlfkdlfimaaGreatDoorCards
import Derived.Test.YtbhbhlfkdlfimaaGreatDoorTie
import Derived.ProofKit
import Derived.LaidMore
import Derived.OpenShut
import Derived.Stop.Joined
import Derived.Stop.LaidErr
import Derived.SevenTiedAt
import Derived.Below
import Derived.RowKitTokens
import Derived.Test.YtbhbhlfkdlfimaaGreatDoorQX28
set_option linter.all false
set_option maxRecDepth 100000
set_option maxHeartbeats 8000000
namespace Go.Proofs.YtbhbhlfkdlfimaaGreatDoor
section
open Go.RowKit
theorem uM (z:Int):((aa z).toList == [49])=decide (z=1):=by
 rw [ByteArray.toList_eq,aF,←bU]
 by_cases h:z=1
 ·subst h;rw [beq_self_eq_true];rfl
 ·rw [decide_eq_false h,beq_eq_false_iff_ne];exact fun e=>h (eJ e)
theorem uO (s n d:ByteArray) (m f b1 b2 z0 z1 zn:Bool) (x y g:Nat) (r:Int) (w:World) (hm1:n.size≤maxLen) (hm2:d.size≤maxLen) (hdz:f=false→d.size=0)
  (hz0:(d.toList == [48])=z0) (hz1:(d.toList == [49])=z1) (hzn:(n.toList == [48])=zn)
  (hR:r=if (!b1 || f && (!b2 || z0 || z1) || m && zn)=true then 11 else if 300<n.size∨300<d.size then 4 else if f=false then 0 else if g=1 then 0 else 11)
  (cs:∀ W,Calls Tryz.prog 62 #[.string s] W fun e W'=>e = .returned (.tuple #[.bool m,.string n,.string d,.bool f])∧Below W.heap.size W W')
  (c1:∀ W,Calls Tryz.prog 63 #[.string n] W fun e W'=>e = .returned (.bool b1)∧W=W')
  (c2:∀ W,Calls Tryz.prog 63 #[.string d] W fun e W'=>e = .returned (.bool b2)∧W=W')
  (c3:b1=true→n.size≤18→∀ W,Calls Tryz.prog 65 #[.string n] W fun e W'=>e = .returned (.int .i64 x)∧W=W')
  (c4:b2=true→d.size≤18→∀ W,Calls Tryz.prog 65 #[.string d] W fun e W'=>e = .returned (.int .i64 y)∧W=W')
  (c5:b1=true→b2=true→n.size≤18→d.size≤18→∀ W,Calls Tryz.prog 64 #[.int .i64 x,.int .i64 y] W fun e W'=>e = .returned (.int .i64 g)∧Below W.heap.size W W')
  (c6:b1=true→b2=true→n.size≤300→d.size≤300→CqB w 66 #[.string n,.string d] (.tuple #[.string (aa g),.int .i64 0])) :
  Calls Tryz.prog 25 #[.string s] w fun e W'=>e = .returned (.int .i64 r)∧Below w.heap.size w W':=by
 have i1:(n.size:Int)≤9223372036854775807:=by unfold maxLen at hm1;omega
 have i2:(d.size:Int)≤9223372036854775807:=by unfold maxLen at hm2;omega
 clear hm1 hm2
 have C:=Ha (Hb cs (Hb c1 (Hb c2 c6)))
 clear cs c1 c2 c6
 cases b1
 ·clear c3 c4 c5
  have hr:=Ha (show r=11 by rw [hR];rfl)
  clear hR
  go_enter Tryz.func25,Tryz.ntmps25
  go_wp2_with fail
  refine (C.out.1 _).mono ?_
  rintro e w1 ⟨rfl,b⟩
  have HS:=Ha b;clear b
  go_wp2_with fail
  refine (C.out.2.1 _).mono ?_
  rintro e w' ⟨rfl,rfl⟩
  go_wp2
  go_ret
  exact ⟨ao hr.out.symm,HS.out⟩
 ·cases f
  ·cases m
   ·clear c3 c4 c5
    by_cases hl:(300:Int)<n.size
    ·have hr:=Ha (show r=4 by rw [hR];exact (if_neg (by simp)).trans (if_pos (Or.inl (by omega))))
     clear hR
     go_enter Tryz.func25,Tryz.ntmps25
     go_wp2_with fail
     refine (C.out.1 _).mono ?_
     rintro e w1 ⟨rfl,b⟩
     have HS:=Ha b;clear b
     go_wp2_with fail
     refine (C.out.2.1 _).mono ?_
     rintro e w' ⟨rfl,rfl⟩
     go_wp2
     go_ret
     exact ⟨ao hr.out.symm,HS.out⟩
    ·have hd0:¬ (300:Int)<d.size:=by have:=hdz rfl;omega
     have hr:=Ha (show r=0 by rw [hR];exact (if_neg (by simp)).trans ((if_neg (by omega)).trans (if_pos rfl)))
     clear hR
     go_enter Tryz.func25,Tryz.ntmps25
     go_wp2_with fail
     refine (C.out.1 _).mono ?_
     rintro e w1 ⟨rfl,b⟩
     have HS:=Ha b;clear b
     go_wp2_with fail
     refine (C.out.2.1 _).mono ?_
     rintro e w' ⟨rfl,rfl⟩
     go_wp2
     go_ret
     exact ⟨ao hr.out.symm,HS.out⟩
   ·cases zn
    ·clear c3 c4 c5
     by_cases hl:(300:Int)<n.size
     ·have hr:=Ha (show r=4 by rw [hR];exact (if_neg (by simp)).trans (if_pos (Or.inl (by omega))))
      clear hR
      go_enter Tryz.func25,Tryz.ntmps25
      go_wp2_with fail
      refine (C.out.1 _).mono ?_
      rintro e w1 ⟨rfl,b⟩
      have HS:=Ha b;clear b
      go_wp2_with fail
      refine (C.out.2.1 _).mono ?_
      rintro e w' ⟨rfl,rfl⟩
      go_wp2
      go_ret
      exact ⟨ao hr.out.symm,HS.out⟩
     ·have hd0:¬ (300:Int)<d.size:=by have:=hdz rfl;omega
      have hr:=Ha (show r=0 by rw [hR];exact (if_neg (by simp)).trans ((if_neg (by omega)).trans (if_pos rfl)))
      clear hR
      go_enter Tryz.func25,Tryz.ntmps25
      go_wp2_with fail
      refine (C.out.1 _).mono ?_
      rintro e w1 ⟨rfl,b⟩
      have HS:=Ha b;clear b
      go_wp2_with fail
      refine (C.out.2.1 _).mono ?_
      rintro e w' ⟨rfl,rfl⟩
      go_wp2
      go_ret
      exact ⟨ao hr.out.symm,HS.out⟩
    ·clear c3 c4 c5
     have hr:=Ha (show r=11 by rw [hR];rfl)
     clear hR
     go_enter Tryz.func25,Tryz.ntmps25
     go_wp2_with fail
     refine (C.out.1 _).mono ?_
     rintro e w1 ⟨rfl,b⟩
     have HS:=Ha b;clear b
     go_wp2_with fail
     refine (C.out.2.1 _).mono ?_
     rintro e w' ⟨rfl,rfl⟩
     go_wp2
     go_ret
     exact ⟨ao hr.out.symm,HS.out⟩
  ·cases b2
   ·clear c3 c4 c5
    have hr:=Ha (show r=11 by rw [hR];rfl)
    clear hR
    go_enter Tryz.func25,Tryz.ntmps25
    go_wp2_with fail
    refine (C.out.1 _).mono ?_
    rintro e w1 ⟨rfl,b⟩
    have HS:=Ha b;clear b
    go_wp2_with fail
    refine (C.out.2.1 _).mono ?_
    rintro e w' ⟨rfl,rfl⟩
    go_wp2_with fail
    refine (C.out.2.2.1 _).mono ?_
    rintro e w' ⟨rfl,rfl⟩
    go_wp2
    go_ret
    exact ⟨ao hr.out.symm,HS.out⟩
   ·cases z0
    ·cases z1
     ·cases m
      ·by_cases hl:(300:Int)<n.size
       ·have hr:=Ha (show r=4 by rw [hR];exact (if_neg (by simp)).trans (if_pos (Or.inl (by omega))))
        clear hR
        go_enter Tryz.func25,Tryz.ntmps25
        go_wp2_with fail
        refine (C.out.1 _).mono ?_
        rintro e w1 ⟨rfl,b⟩
        have HS:=Ha b;clear b
        go_wp2_with fail
        refine (C.out.2.1 _).mono ?_
        rintro e w' ⟨rfl,rfl⟩
        go_wp2_with fail
        refine (C.out.2.2.1 _).mono ?_
        rintro e w' ⟨rfl,rfl⟩
        go_wp2
        go_ret
        exact ⟨ao hr.out.symm,HS.out⟩
       ·by_cases hl2:(300:Int)<d.size
        ·have hr:=Ha (show r=4 by rw [hR];exact (if_neg (by simp)).trans (if_pos (Or.inr (by omega))))
         clear hR
         go_enter Tryz.func25,Tryz.ntmps25
         go_wp2_with fail
         refine (C.out.1 _).mono ?_
         rintro e w1 ⟨rfl,b⟩
         have HS:=Ha b;clear b
         go_wp2_with fail
         refine (C.out.2.1 _).mono ?_
         rintro e w' ⟨rfl,rfl⟩
         go_wp2_with fail
         refine (C.out.2.2.1 _).mono ?_
         rintro e w' ⟨rfl,rfl⟩
         go_wp2
         go_ret
         exact ⟨ao hr.out.symm,HS.out⟩
        ·have hR':r=if g=1 then 0 else 11:=by rw [hR];exact (if_neg (by simp)).trans ((if_neg (by omega)).trans (if_neg (by decide)))
         clear hR
         by_cases h9:(n.size:Int)≤9∧(d.size:Int)≤9
         ·obtain ⟨h9,h9d⟩:=h9
          have cm:=Ha (Hb (c3 rfl (by omega)) (Hb (c4 rfl (by omega)) (c5 rfl rfl (by omega) (by omega))))
          by_cases hg:g=1
          ·have hgi:((g:Int)==1)=true:=by rw [hg];rfl
           have hr:=Ha (show r=0 by rw [hR',if_pos hg])
           clear hR' hg
           go_enter Tryz.func25,Tryz.ntmps25
           go_wp2_with fail
           refine (C.out.1 _).mono ?_
           rintro e w1 ⟨rfl,b⟩
           have HS:=Ha b;clear b
           go_wp2_with fail
           refine (C.out.2.1 _).mono ?_
           rintro e w' ⟨rfl,rfl⟩
           go_wp2_with fail
           refine (C.out.2.2.1 _).mono ?_
           rintro e w' ⟨rfl,rfl⟩
           go_wp2_with fail
           refine (cm.out.1 _).mono ?_
           rintro e w' ⟨rfl,rfl⟩
           go_wp2_with fail
           refine (cm.out.2.1 _).mono ?_
           rintro e w' ⟨rfl,rfl⟩
           go_wp2_with fail
           refine (cm.out.2.2 _).mono ?_
           rintro e w2 ⟨rfl,b⟩
           have B:=Ha (HS.out.trans (b.mono HS.out.size));clear b
           go_wp2
           go_ret
           exact ⟨ao hr.out.symm,B.out⟩
          ·have hgi:((g:Int)==1)=false:=by rw [beq_eq_false_iff_ne];omega
           have hr:=Ha (show r=11 by rw [hR',if_neg hg])
           clear hR' hg
           go_enter Tryz.func25,Tryz.ntmps25
           go_wp2_with fail
           refine (C.out.1 _).mono ?_
           rintro e w1 ⟨rfl,b⟩
           have HS:=Ha b;clear b
           go_wp2_with fail
           refine (C.out.2.1 _).mono ?_
           rintro e w' ⟨rfl,rfl⟩
           go_wp2_with fail
           refine (C.out.2.2.1 _).mono ?_
           rintro e w' ⟨rfl,rfl⟩
           go_wp2_with fail
           refine (cm.out.1 _).mono ?_
           rintro e w' ⟨rfl,rfl⟩
           go_wp2_with fail
           refine (cm.out.2.1 _).mono ?_
           rintro e w' ⟨rfl,rfl⟩
           go_wp2_with fail
           refine (cm.out.2.2 _).mono ?_
           rintro e w2 ⟨rfl,b⟩
           have B:=Ha (HS.out.trans (b.mono HS.out.size));clear b
           go_wp2
           go_ret
           exact ⟨ao hr.out.symm,B.out⟩
         ·have cg:=Ha (C.out.2.2.2 rfl rfl (by omega) (by omega))
          have hsg:=uM (g:Int)
          by_cases h9n:(n.size:Int)≤9
          ·have h9d:¬ (d.size:Int)≤9:=fun h=>h9 ⟨h9n,h⟩
           clear h9
           by_cases hg:g=1
           ·have hr:=Ha (show r=0 by rw [hR',if_pos hg])
            rw [decide_eq_true (show (g:Int)=1 by omega)] at hsg
            clear hR' hg
            generalize aa (g:Int)=sg at *
            go_enter Tryz.func25,Tryz.ntmps25
            go_wp2_with fail
            refine (C.out.1 _).mono ?_
            rintro e w1 ⟨rfl,b⟩
            have HS:=Ha b;clear b
            go_wp2_with fail
            refine (C.out.2.1 _).mono ?_
            rintro e w' ⟨rfl,rfl⟩
            go_wp2_with fail
            refine (C.out.2.2.1 _).mono ?_
            rintro e w' ⟨rfl,rfl⟩
            go_wp2_with fail
            refine (cg.out _ HS.out).mono ?_
            rintro e w2 ⟨rfl,b⟩
            have B:=Ha (HS.out.trans (b.mono HS.out.size));clear b
            go_wp2
            go_ret
            exact ⟨ao hr.out.symm,B.out⟩
           ·have hr:=Ha (show r=11 by rw [hR',if_neg hg])
            rw [decide_eq_false (show ¬ (g:Int)=1 by omega)] at hsg
            clear hR' hg
            generalize aa (g:Int)=sg at *
            go_enter Tryz.func25,Tryz.ntmps25
            go_wp2_with fail
            refine (C.out.1 _).mono ?_
            rintro e w1 ⟨rfl,b⟩
            have HS:=Ha b;clear b
            go_wp2_with fail
            refine (C.out.2.1 _).mono ?_
            rintro e w' ⟨rfl,rfl⟩
            go_wp2_with fail
            refine (C.out.2.2.1 _).mono ?_
            rintro e w' ⟨rfl,rfl⟩
            go_wp2_with fail
            refine (cg.out _ HS.out).mono ?_
            rintro e w2 ⟨rfl,b⟩
            have B:=Ha (HS.out.trans (b.mono HS.out.size));clear b
            go_wp2
            go_ret
            exact ⟨ao hr.out.symm,B.out⟩
          ·clear h9
           by_cases hg:g=1
           ·have hr:=Ha (show r=0 by rw [hR',if_pos hg])
            rw [decide_eq_true (show (g:Int)=1 by omega)] at hsg
            clear hR' hg
            generalize aa (g:Int)=sg at *
            go_enter Tryz.func25,Tryz.ntmps25
            go_wp2_with fail
            refine (C.out.1 _).mono ?_
            rintro e w1 ⟨rfl,b⟩
            have HS:=Ha b;clear b
            go_wp2_with fail
            refine (C.out.2.1 _).mono ?_
            rintro e w' ⟨rfl,rfl⟩
            go_wp2_with fail
            refine (C.out.2.2.1 _).mono ?_
            rintro e w' ⟨rfl,rfl⟩
            go_wp2_with fail
            refine (cg.out _ HS.out).mono ?_
            rintro e w2 ⟨rfl,b⟩
            have B:=Ha (HS.out.trans (b.mono HS.out.size));clear b
            go_wp2
            go_ret
            exact ⟨ao hr.out.symm,B.out⟩
           ·have hr:=Ha (show r=11 by rw [hR',if_neg hg])
            rw [decide_eq_false (show ¬ (g:Int)=1 by omega)] at hsg
            clear hR' hg
            generalize aa (g:Int)=sg at *
            go_enter Tryz.func25,Tryz.ntmps25
            go_wp2_with fail
            refine (C.out.1 _).mono ?_
            rintro e w1 ⟨rfl,b⟩
            have HS:=Ha b;clear b
            go_wp2_with fail
            refine (C.out.2.1 _).mono ?_
            rintro e w' ⟨rfl,rfl⟩
            go_wp2_with fail
            refine (C.out.2.2.1 _).mono ?_
            rintro e w' ⟨rfl,rfl⟩
            go_wp2_with fail
            refine (cg.out _ HS.out).mono ?_
            rintro e w2 ⟨rfl,b⟩
            have B:=Ha (HS.out.trans (b.mono HS.out.size));clear b
            go_wp2
            go_ret
            exact ⟨ao hr.out.symm,B.out⟩
      ·cases zn
       ·by_cases hl:(300:Int)<n.size
        ·have hr:=Ha (show r=4 by rw [hR];exact (if_neg (by simp)).trans (if_pos (Or.inl (by omega))))
         clear hR
         go_enter Tryz.func25,Tryz.ntmps25
         go_wp2_with fail
         refine (C.out.1 _).mono ?_
         rintro e w1 ⟨rfl,b⟩
         have HS:=Ha b;clear b
         go_wp2_with fail
         refine (C.out.2.1 _).mono ?_
         rintro e w' ⟨rfl,rfl⟩
         go_wp2_with fail
         refine (C.out.2.2.1 _).mono ?_
         rintro e w' ⟨rfl,rfl⟩
         go_wp2
         go_ret
         exact ⟨ao hr.out.symm,HS.out⟩
        ·by_cases hl2:(300:Int)<d.size
         ·have hr:=Ha (show r=4 by rw [hR];exact (if_neg (by simp)).trans (if_pos (Or.inr (by omega))))
          clear hR
          go_enter Tryz.func25,Tryz.ntmps25
          go_wp2_with fail
          refine (C.out.1 _).mono ?_
          rintro e w1 ⟨rfl,b⟩
          have HS:=Ha b;clear b
          go_wp2_with fail
          refine (C.out.2.1 _).mono ?_
          rintro e w' ⟨rfl,rfl⟩
          go_wp2_with fail
          refine (C.out.2.2.1 _).mono ?_
          rintro e w' ⟨rfl,rfl⟩
          go_wp2
          go_ret
          exact ⟨ao hr.out.symm,HS.out⟩
         ·have hR':r=if g=1 then 0 else 11:=by rw [hR];exact (if_neg (by simp)).trans ((if_neg (by omega)).trans (if_neg (by decide)))
          clear hR
          by_cases h9:(n.size:Int)≤9∧(d.size:Int)≤9
          ·obtain ⟨h9,h9d⟩:=h9
           have cm:=Ha (Hb (c3 rfl (by omega)) (Hb (c4 rfl (by omega)) (c5 rfl rfl (by omega) (by omega))))
           by_cases hg:g=1
           ·have hgi:((g:Int)==1)=true:=by rw [hg];rfl
            have hr:=Ha (show r=0 by rw [hR',if_pos hg])
            clear hR' hg
            go_enter Tryz.func25,Tryz.ntmps25
            go_wp2_with fail
            refine (C.out.1 _).mono ?_
            rintro e w1 ⟨rfl,b⟩
            have HS:=Ha b;clear b
            go_wp2_with fail
            refine (C.out.2.1 _).mono ?_
            rintro e w' ⟨rfl,rfl⟩
            go_wp2_with fail
            refine (C.out.2.2.1 _).mono ?_
            rintro e w' ⟨rfl,rfl⟩
            go_wp2_with fail
            refine (cm.out.1 _).mono ?_
            rintro e w' ⟨rfl,rfl⟩
            go_wp2_with fail
            refine (cm.out.2.1 _).mono ?_
            rintro e w' ⟨rfl,rfl⟩
            go_wp2_with fail
            refine (cm.out.2.2 _).mono ?_
            rintro e w2 ⟨rfl,b⟩
            have B:=Ha (HS.out.trans (b.mono HS.out.size));clear b
            go_wp2
            go_ret
            exact ⟨ao hr.out.symm,B.out⟩
           ·have hgi:((g:Int)==1)=false:=by rw [beq_eq_false_iff_ne];omega
            have hr:=Ha (show r=11 by rw [hR',if_neg hg])
            clear hR' hg
            go_enter Tryz.func25,Tryz.ntmps25
            go_wp2_with fail
            refine (C.out.1 _).mono ?_
            rintro e w1 ⟨rfl,b⟩
            have HS:=Ha b;clear b
            go_wp2_with fail
            refine (C.out.2.1 _).mono ?_
            rintro e w' ⟨rfl,rfl⟩
            go_wp2_with fail
            refine (C.out.2.2.1 _).mono ?_
            rintro e w' ⟨rfl,rfl⟩
            go_wp2_with fail
            refine (cm.out.1 _).mono ?_
            rintro e w' ⟨rfl,rfl⟩
            go_wp2_with fail
            refine (cm.out.2.1 _).mono ?_
            rintro e w' ⟨rfl,rfl⟩
            go_wp2_with fail
            refine (cm.out.2.2 _).mono ?_
            rintro e w2 ⟨rfl,b⟩
            have B:=Ha (HS.out.trans (b.mono HS.out.size));clear b
            go_wp2
            go_ret
            exact ⟨ao hr.out.symm,B.out⟩
          ·have cg:=Ha (C.out.2.2.2 rfl rfl (by omega) (by omega))
           have hsg:=uM (g:Int)
           by_cases h9n:(n.size:Int)≤9
           ·have h9d:¬ (d.size:Int)≤9:=fun h=>h9 ⟨h9n,h⟩
            clear h9
            by_cases hg:g=1
            ·have hr:=Ha (show r=0 by rw [hR',if_pos hg])
             rw [decide_eq_true (show (g:Int)=1 by omega)] at hsg
             clear hR' hg
             generalize aa (g:Int)=sg at *
             go_enter Tryz.func25,Tryz.ntmps25
             go_wp2_with fail
             refine (C.out.1 _).mono ?_
             rintro e w1 ⟨rfl,b⟩
             have HS:=Ha b;clear b
             go_wp2_with fail
             refine (C.out.2.1 _).mono ?_
             rintro e w' ⟨rfl,rfl⟩
             go_wp2_with fail
             refine (C.out.2.2.1 _).mono ?_
             rintro e w' ⟨rfl,rfl⟩
             go_wp2_with fail
             refine (cg.out _ HS.out).mono ?_
             rintro e w2 ⟨rfl,b⟩
             have B:=Ha (HS.out.trans (b.mono HS.out.size));clear b
             go_wp2
             go_ret
             exact ⟨ao hr.out.symm,B.out⟩
            ·have hr:=Ha (show r=11 by rw [hR',if_neg hg])
             rw [decide_eq_false (show ¬ (g:Int)=1 by omega)] at hsg
             clear hR' hg
             generalize aa (g:Int)=sg at *
             go_enter Tryz.func25,Tryz.ntmps25
             go_wp2_with fail
             refine (C.out.1 _).mono ?_
             rintro e w1 ⟨rfl,b⟩
             have HS:=Ha b;clear b
             go_wp2_with fail
             refine (C.out.2.1 _).mono ?_
             rintro e w' ⟨rfl,rfl⟩
             go_wp2_with fail
             refine (C.out.2.2.1 _).mono ?_
             rintro e w' ⟨rfl,rfl⟩
             go_wp2_with fail
             refine (cg.out _ HS.out).mono ?_
             rintro e w2 ⟨rfl,b⟩
             have B:=Ha (HS.out.trans (b.mono HS.out.size));clear b
             go_wp2
             go_ret
             exact ⟨ao hr.out.symm,B.out⟩
           ·clear h9
            by_cases hg:g=1
            ·have hr:=Ha (show r=0 by rw [hR',if_pos hg])
             rw [decide_eq_true (show (g:Int)=1 by omega)] at hsg
             clear hR' hg
             generalize aa (g:Int)=sg at *
             go_enter Tryz.func25,Tryz.ntmps25
             go_wp2_with fail
             refine (C.out.1 _).mono ?_
             rintro e w1 ⟨rfl,b⟩
             have HS:=Ha b;clear b
             go_wp2_with fail
             refine (C.out.2.1 _).mono ?_
             rintro e w' ⟨rfl,rfl⟩
             go_wp2_with fail
             refine (C.out.2.2.1 _).mono ?_
             rintro e w' ⟨rfl,rfl⟩
             go_wp2_with fail
             refine (cg.out _ HS.out).mono ?_
             rintro e w2 ⟨rfl,b⟩
             have B:=Ha (HS.out.trans (b.mono HS.out.size));clear b
             go_wp2
             go_ret
             exact ⟨ao hr.out.symm,B.out⟩
            ·have hr:=Ha (show r=11 by rw [hR',if_neg hg])
             rw [decide_eq_false (show ¬ (g:Int)=1 by omega)] at hsg
             clear hR' hg
             generalize aa (g:Int)=sg at *
             go_enter Tryz.func25,Tryz.ntmps25
             go_wp2_with fail
             refine (C.out.1 _).mono ?_
             rintro e w1 ⟨rfl,b⟩
             have HS:=Ha b;clear b
             go_wp2_with fail
             refine (C.out.2.1 _).mono ?_
             rintro e w' ⟨rfl,rfl⟩
             go_wp2_with fail
             refine (C.out.2.2.1 _).mono ?_
             rintro e w' ⟨rfl,rfl⟩
             go_wp2_with fail
             refine (cg.out _ HS.out).mono ?_
             rintro e w2 ⟨rfl,b⟩
             have B:=Ha (HS.out.trans (b.mono HS.out.size));clear b
             go_wp2
             go_ret
             exact ⟨ao hr.out.symm,B.out⟩
       ·clear c3 c4 c5
        have hr:=Ha (show r=11 by rw [hR];rfl)
        clear hR
        go_enter Tryz.func25,Tryz.ntmps25
        go_wp2_with fail
        refine (C.out.1 _).mono ?_
        rintro e w1 ⟨rfl,b⟩
        have HS:=Ha b;clear b
        go_wp2_with fail
        refine (C.out.2.1 _).mono ?_
        rintro e w' ⟨rfl,rfl⟩
        go_wp2_with fail
        refine (C.out.2.2.1 _).mono ?_
        rintro e w' ⟨rfl,rfl⟩
        go_wp2
        go_ret
        exact ⟨ao hr.out.symm,HS.out⟩
     ·clear c3 c4 c5
      have hr:=Ha (show r=11 by rw [hR];rfl)
      clear hR
      go_enter Tryz.func25,Tryz.ntmps25
      go_wp2_with fail
      refine (C.out.1 _).mono ?_
      rintro e w1 ⟨rfl,b⟩
      have HS:=Ha b;clear b
      go_wp2_with fail
      refine (C.out.2.1 _).mono ?_
      rintro e w' ⟨rfl,rfl⟩
      go_wp2_with fail
      refine (C.out.2.2.1 _).mono ?_
      rintro e w' ⟨rfl,rfl⟩
      go_wp2
      go_ret
      exact ⟨ao hr.out.symm,HS.out⟩
    ·clear c3 c4 c5
     have hr:=Ha (show r=11 by rw [hR];rfl)
     clear hR
     go_enter Tryz.func25,Tryz.ntmps25
     go_wp2_with fail
     refine (C.out.1 _).mono ?_
     rintro e w1 ⟨rfl,b⟩
     have HS:=Ha b;clear b
     go_wp2_with fail
     refine (C.out.2.1 _).mono ?_
     rintro e w' ⟨rfl,rfl⟩
     go_wp2_with fail
     refine (C.out.2.2.1 _).mono ?_
     rintro e w' ⟨rfl,rfl⟩
     go_wp2
     go_ret
     exact ⟨ao hr.out.symm,HS.out⟩
theorem D9 (s:ByteArray):(bsN s).size≤s.size∧(bsD s).size≤s.size:=by
 have h1:(szL s.data.toList).length≤s.size:=by
  unfold szL;split
  ·rw [List.length_tail,ag];omega
  ·rw [ag];omega
 obtain ⟨e1,e2⟩:=sY s.data.toList
 rw [←ag (bsN s),←ag (bsD s),lH,jt]
 rcases iY (szL s.data.toList) with ⟨k1,k2,k3⟩ | ⟨k1,k2⟩
 ·rw [k1] at e1
  unfold sD
  rw [e1,sZ,←k2]
  exact ⟨h1,Nat.zero_le _⟩
 ·rw [k1] at e1
  have:=congrArg List.length k2
  simp only [List.length_append,List.length_cons] at this
  unfold sD
  rw [e1,if_pos rfl,e2 e1,sZ]
  omega
theorem pR {l:List UInt8} (h:fH l=true):l.all aA=true:=by
 unfold fH at h
 simp only [Bool.and_eq_true] at h
 exact h.1.1
theorem uP {l:List UInt8} (h:fH l=true) (hl:l.length≤300):chk l=0:=by
 have h1:=kP h
 have h2:=om (l:=l) (by rw [xA h1,h])
 rw [a7 h1,if_neg (by omega)] at h2
 exact h2
theorem wR (s:ByteArray) (w:World) (hs:s.size≤maxLen) (ht:Tab w) :
  Calls Tryz.prog 25 #[.string s] w fun e W'=>e = .returned (.int .i64 (bB s.data.toList))∧Below w.heap.size w W':=by
 obtain ⟨b1,b2⟩:=D9 s
 have hx:∀ (t:ByteArray),fH t.data.toList=true→t.size≤18→ah t.data.toList<9223372036854775808:=fun t h h'=>by
  refine Nat.lt_of_lt_of_le (aX _ (fun c hc=>List.all_eq_true.1 (pR h) c hc)) ?_
  exact Nat.le_trans (Nat.pow_le_pow_right (by decide) (show t.data.toList.length≤18 by rw [ag];exact h')) (by decide)
 refine uO s (bsN s) (bsD s) (aw s.data.toList) (bz s.data.toList) (fH (bsN s).data.toList) (fH (bsD s).data.toList) ((bsD s).toList == [48]) ((bsD s).toList == [49]) ((bsN s).toList == [48]) (ah (bsN s).data.toList) (ah (bsD s).data.toList)
  (Nat.gcd (ah (bsN s).data.toList) (ah (bsD s).data.toList)) (bB s.data.toList) w (by omega) (by omega) (fun h=>by rw [←ag,jt];unfold sD;rw [h];rfl) rfl rfl rfl ?_
  (fun W=>wM s W hs) (fun W=>nk _ W (by omega)) (fun W=>nk _ W (by omega)) (fun h h' W=>pO _ W h' (pR h)) (fun h h' W=>pO _ W h' (pR h))
  (fun h h' k k' W=>B4 _ _ W (hx _ h k) (hx _ h' k')) ?_
 ·rw [←yR,ByteArray.toList_eq,ByteArray.toList_eq,←ag (bsN s),←ag (bsD s),lH,jt]
  unfold vG ki
  simp only [Bool.or_assoc]
 ·intro h h' k k' W hW
  have q1:=uP h (by rw [ag];exact k)
  have q2:=uP h' (by rw [ag];exact k')
  have c:=R.Gcd_any (bsN s) (bsD s) W (by omega) (by omega) (ht.next hW)
  have e2:c9 (bsN s).data.toList (bsD s).data.toList=0:=by unfold c9;rw [if_pos q1];exact q2
  rw [e2] at c
  rw [a7 (kP h),a7 (kP h')] at c
  exact c
def aQ (s:ByteArray):Bool:=decide (s.size≤20) && (bB s.data.toList==0)
theorem uQ {s:ByteArray} (h:(20:Int)<s.size):aQ s=false:=by
 unfold aQ;rw [show decide (s.size≤20)=false by rw [decide_eq_false_iff_not];omega];rfl
theorem ta {s:ByteArray} (h:¬ (20:Int)<s.size):aQ s=(bB s.data.toList==0):=by
 unfold aQ;rw [show decide (s.size≤20)=true by rw [decide_eq_true_iff];omega];rfl
theorem kD {s:ByteArray} (h:aQ s=true):∃ x:Rat,s=af x∧Bq 20 x:=by
 unfold aQ at h
 simp only [Bool.and_eq_true,decide_eq_true_eq,beq_iff_eq] at h
 exact yO h.2 20 h.1 (by decide)
theorem wS (s:ByteArray) (w:World) (hs:s.size≤maxLen) (ht:Tab w) :
  Calls Tryz.prog 24 #[.string s] w fun e W'=>e = .returned (.bool (!aQ s))∧Below w.heap.size w W':=by
 have hm:(s.size:Int)≤9223372036854775807:=by unfold maxLen at hs;omega
 by_cases h8:(20:Int)<s.size
 ·rw [uQ h8]
  clear ht hs
  go_enter Tryz.func24,Tryz.ntmps24
  go_wp2
  go_ret
  exact ⟨rfl,Below.refl _ _⟩
 ·rw [ta h8]
  have C:=Ha (wR s w hs ht)
  clear ht hs
  generalize bB s.data.toList=c at *
  have hc:(!(c==0))=(c != 0):=rfl
  rw [hc]
  clear hc
  go_enter Tryz.func24,Tryz.ntmps24
  go_wp2_with fail
  refine C.out.mono ?_
  rintro e w' ⟨rfl,b⟩
  have B:=Ha b;clear b
  go_wp2
  go_ret
  exact ⟨rfl,B.out⟩
def fj:List ByteArray→Int→Int
 | [],_ => -1
 | s::t,i=>if aQ s then fj t (i+1) else i
theorem pS:∀ (xs:List ByteArray) (i:Int),0≤i→decide (0≤fj xs i) = !xs.all aQ
 | [],i,_=>by simp [fj]
 | s::t,i,h=>by
  unfold fj
  cases hf:aQ s
  ·simp [hf,h]
  ·simp only [List.all_cons,hf,Bool.true_and,if_pos rfl];exact pS t (i+1) (by omega)
theorem jx:∀ (k:Nat) (xs:List ByteArray) (i:Int),(xs.take k).all aQ=true→fj xs i=fj (xs.drop k) (i+(min k xs.length:Nat))
 | 0,xs,i,_=>by simp
 | k+1,[],i,_=>by simp
 | k+1,s::t,i,h=>by
  simp only [List.take_succ_cons,List.all_cons,Bool.and_eq_true] at h
  rw [List.drop_succ_cons,←show fj t (i+1)=fj (s::t) i by conv=>rhs;unfold fj;rw [if_pos h.1],jx k t (i+1) h.2,List.length_cons]
  congr 1;omega
theorem wT {xs:List ByteArray} {k:Nat} (h:(xs.take k).all aQ=true) (hk:xs.length≤k):fj xs 0 = -1:=by
 rw [jx k xs 0 h,List.drop_eq_nil_of_le hk];rfl
theorem uR {xs:List ByteArray} {k:Nat} (h:(xs.take k).all aQ=true) (hk:k<xs.length) (hf:aQ xs[k]=false):fj xs 0=k:=by
 rw [jx k xs 0 h,List.drop_eq_getElem_cons hk]
 unfold fj
 rw [hf,if_neg (by decide)]
 have:min k xs.length=k:=by omega
 rw [this];omega
theorem wU {xs:List ByteArray} {k:Nat} (h:(xs.take k).all aQ=true) (hk:k<xs.length) (hs:aQ xs[k]=true):(xs.take (k+1)).all aQ=true:=by
 rw [List.take_succ_eq_append_getElem hk,List.all_append,h];simp [hs]
theorem uS (xs:List ByteArray) (B:Nat) (w:World) (hl:xs.length≤100) (hs:∀ s∈xs,s.size≤maxLen) (hB:B<w.heap.size) (hc:∀ i (h:i<xs.length),w.cell? ⟨B,i,none⟩=some (.string xs[i])) (ht:Tab w) :
  Calls Tryz.prog 61 #[.slice (some ⟨B,0,none⟩) xs.length xs.length,.func (.func 24) #[] #[]] w fun e w'=>e = .returned (.int .i64 (fj xs 0))∧Below w.heap.size w w':=by
 have HC:=Ha (Hb hs hc);clear hs hc
 have HT:=Ha ht;clear ht
 have en1:∀ args W,(callFunc 24 args).run Tryz.prog W = .ok (.enter 24 args) W:=enters_of Tryz.func24 (by kernel_rfl) rfl
 go_enter Tryz.func61,Tryz.ntmps61
 go_wp2
 go_loopw [8] (fun i wr=>∃ k:Nat,i = .int .i64 k∧k≤xs.length∧Hid ((xs.take k).all aQ=true)∧Hid (Below w.heap.size w wr)) (fun i _=>xs.length - (intOf i).toNat)
 case atStart=>exact ⟨0,rfl,by omega,rfl,Below.refl _ _⟩
 case round =>
  obtain ⟨k,rfl,hk,hd,HBw⟩:=hrel
  by_cases hlt:k<xs.length
  ·have hck:=(HBw.out.cell (p:=⟨B,k,none⟩) hB).trans (HC.out.2 k hlt)
   have hsz:=HC.out.1 xs[k] (List.getElem_mem hlt)
   have hn:=Ha (fun h:aQ xs[k]=true=>wU hd.out hlt h)
   have hb:=Ha (fun h:aQ xs[k]=false=>uR hd.out hlt h)
   have hr:=Ha (wS xs[k] wr hsz (HT.out.next HBw.out))
   clear hsz hd
   generalize xs[k]=s at *
   generalize aQ s=q at *
   go_wp2_with fail
   refine hr.out.mono ?_
   rintro e w' ⟨rfl,b⟩
   have HB2:=Ha (HBw.out.trans (b.mono HBw.out.size));clear b HBw
   cases q
   ·have hbb:=Ha (hb.out rfl)
    clear hn hb
    go_wp2
    go_ret
    exact ⟨ao hbb.out.symm,HB2.out⟩
   ·have hnn:=Ha (hn.out rfl)
    clear hn hb
    go_wp2
    go_roundw
    case rel=>exact ⟨k+1,by go_num,by omega,hnn.out,HB2.out⟩
    case measure=>simp [intOf];omega
  ·have hbb:=Ha (wT hd.out (by omega))
   clear hd
   go_wp2
   go_ret
   exact ⟨ao hbb.out.symm,HBw.out⟩
theorem pT (xs:List ByteArray) (B:Nat) (w:World) (hl:xs.length≤100) (hs:∀ s∈xs,s.size≤maxLen) (hB:B<w.heap.size) (hc:∀ i (h:i<xs.length),w.cell? ⟨B,i,none⟩=some (.string xs[i])) (ht:Tab w) :
  Calls Tryz.prog 23 #[.slice (some ⟨B,0,none⟩) xs.length xs.length,.func (.func 24) #[] #[]] w fun e w'=>e = .returned (.bool (!xs.all aQ))∧Below w.heap.size w w':=by
 have C:=Ha (uS xs B w hl hs hB hc ht)
 rw [←pS xs 0 (by decide)]
 clear hs hc ht
 generalize fj xs 0=r at *
 generalize xs.length=n at *
 go_enter Tryz.func23,Tryz.ntmps23
 go_wp2_with fail
 refine C.out.mono ?_
 rintro e w' ⟨rfl,b⟩
 have B:=Ha b;clear b
 go_wp2
 go_ret
 exact ⟨rfl,B.out⟩
theorem wV (xs:List ByteArray) (B:Nat) (w:World) (hl:xs.length≤100) (hs:∀ s∈xs,s.size≤maxLen) (hB:B<w.heap.size) (hc:∀ i (h:i<xs.length),w.cell? ⟨B,i,none⟩=some (.string xs[i])) (ht:Tab w) :
  Calls Tryz.prog 7 #[.slice (some ⟨B,0,none⟩) xs.length xs.length] w fun e w'=>e = .returned (.bool (xs.all aQ))∧Below w.heap.size w w':=by
 have C:=Ha (pT xs B w hl hs hB hc ht)
 clear hs hc ht
 generalize xs.all aQ=r at *
 generalize xs.length=n at *
 go_enter Tryz.func7,Tryz.ntmps7
 go_wp2_with fail
 refine C.out.mono ?_
 rintro e w' ⟨rfl,b⟩
 have B:=Ha b;clear b
 go_wp2
 go_ret
 exact ⟨by simp,B.out⟩
theorem Ea (a b c:ByteArray) (B:Nat) (W:World) (ha:a.size≤maxLen) (hb:b.size≤maxLen) (hc:c.size≤maxLen) (hB:B<W.heap.size) (h0:W.cell? ⟨B,0,none⟩=some (.string a)) (h1:W.cell? ⟨B,1,none⟩=some (.string b)) (h2:W.cell? ⟨B,2,none⟩=some (.string c)) (ht:Tab W) :
  Calls Tryz.prog 7 #[.slice (some ⟨B,0,none⟩) 3 3] W fun e w'=>e = .returned (.bool (aQ a && aQ b && aQ c))∧Below W.heap.size W w':=by
 have h:=wV [a,b,c] B W (by show 3≤100;decide) (by
  intro s hs
  simp only [List.mem_cons,List.not_mem_nil,or_false] at hs
  rcases hs with rfl | rfl | rfl <;> assumption) hB (by
  intro i hi
  match i,hi with
  | 0,_=>exact h0
  | 1,_=>exact h1
  | 2,_=>exact h2) ht
 have e : [a,b,c].all aQ=(aQ a && aQ b && aQ c):=by simp [List.all_cons,Bool.and_assoc]
 rwa [e] at h
end
section
open Go.ChangeShapes Go.WideShapes Go.ChangeAt Go.RowKit
theorem own:ownKnob Tryz.prog.godebug=none:=by kernel_rfl
theorem Cd:Tryz.prog.globalNamed "math/bits.deBruijn64tab" = some 1:=by kernel_rfl
theorem wW:(Rows.laid_math_bits_deBruijn64tab:DataW Unit)=Lib.tabData .u8 (Lib.deBruijn64tab.map fun n:Nat=>(n:Int)):=rfl
theorem Ce {W:World} (h:Lib.TabIs Tryz.prog W "math/bits.deBruijn64tab" .u8 (Lib.deBruijn64tab.map fun n:Nat=>(n:Int))):aH W:=by
 intro j hj
 unfold Lib.TabIs World.var? at h
 rw [Cd] at h
 unfold World.cell?
 cases hh:W.heap[1]? with
 | none=>simp [hh] at h
 | some o =>
  cases o with
  | cells cs t f =>
   have h1:some cs=some ((Lib.deBruijn64tab.map fun n:Nat=>(n:Int)).map fun z=>Value.int .u8 z).toArray:=by
    rw [←h];simp only [Option.bind_some,hh]
   have h2:=Option.some.inj h1
   subst h2
   have hj':j<64:=hj
   simp only [List.map_map,List.getElem?_toArray,List.getElem?_map]
   rw [List.getD_eq_getElem?_getD,List.getElem?_eq_getElem hj]
   rfl
  | _=>simp [hh] at h
section
variable {H:Type} {enc:TypeId × Value→H} {P:Program} {w:World} {base:Nat} {spare:Nat→Bool} {held:Bool}
end
def lK:List (String × DataW Unit) := [("math/bits.deBruijn32tab", Rows.laid_math_bits_deBruijn32tab),("math/bits.deBruijn64tab", Rows.laid_math_bits_deBruijn64tab),("internal/strconv.uint64pow10", Rows.laid_internal_strconv_uint64pow10),("strconv.ErrRange", Rows.laid_strconv_ErrRange),("strconv.ErrSyntax", Rows.laid_strconv_ErrSyntax),("kingpost/root.small", Rows.laid_kingpost_root_small)]
theorem zW (os:Os) (args:Array Value):laidMetH Tryz.prog lK ((World.doorLaid Tryz.prog 400 os).forCall (fun _ _=>0) ⟨#[],args,[]⟩).memory :=
 laidMetH_of_parts3 (fuel:=8) (laidMet_of_run' 8 (by kernel_rfl) (by kernel_rfl)) (by kernel_rfl) (by kernel_rfl)
theorem wX {W:World} (h:laidMetH Tryz.prog lK W):laidMet Tryz.prog lK W:=by
 rwa [MakeChecks.laidMetH_plain _ _ _ (by kernel_rfl)] at h
theorem te {W:World} (h:laidMetH Tryz.prog lK W):Tab W:=by
 have h2:laidMet Tryz.prog (("internal/strconv.uint64pow10", Lib.tabData .u64 Lib.pow10Tab) :: [("strconv.ErrRange", Rows.laid_strconv_ErrRange),("strconv.ErrSyntax", Rows.laid_strconv_ErrSyntax),("kingpost/root.small", Rows.laid_kingpost_root_small)]) W:=laidMet.tail (laidMet.tail (wX h))
 exact Lib.tabIs_of_head Fo (t:=283) (e:=82) (n:=20) (by kernel_rfl) (by kernel_rfl) (by kernel_rfl) (by kernel_rfl) (by kernel_rfl) h2
theorem pU {W:World} (h:laidMetH Tryz.prog lK W):aH W:=by
 have h2:=laidMet.tail (wX h)
 rw [wW] at h2
 exact Ce (Lib.tabIs_of_head Cd (t:=279) (e:=5) (n:=64) (by kernel_rfl) (by kernel_rfl) (by kernel_rfl) (by kernel_rfl) (by kernel_rfl) h2)
theorem Cf:Tryz.prog.globalNamed "kingpost/root.small" = some 4:=by kernel_rfl
theorem wY:(Rows.laid_kingpost_root_small:DataW Unit)=Lib.tabData .u64 (T.au.map fun n:Nat=>(n:Int)):=rfl
theorem Gs {W:World} (h:Lib.TabIs Tryz.prog W "kingpost/root.small" .u64 (T.au.map fun n:Nat=>(n:Int))):T.Sm W:=by
 unfold Lib.TabIs World.var? at h
 rw [Cf] at h
 cases hh:W.heap[4]? with
 | none=>simp [hh] at h
 | some o =>
  cases o with
  | cells cs t f =>
   have h1:some cs=some ((T.au.map fun n:Nat=>(n:Int)).map fun z=>Value.int .u64 z).toArray:=by
    rw [←h];simp only [Option.bind_some,hh]
   have h2:=Option.some.inj h1
   subst h2
   exact ⟨t,f,hh⟩
  | _=>simp [hh] at h
theorem uU {W:World} (h:laidMetH Tryz.prog lK W):T.Sm W:=by
 have h2:=laidMet.tail (laidMet.tail (laidMet.tail (laidMet.tail (laidMet.tail (wX h)))))
 rw [wY] at h2
 exact Gs (Lib.tabIs_of_head Cf (t:=338) (e:=82) (n:=25) (by kernel_rfl) (by kernel_rfl) (by kernel_rfl) (by kernel_rfl) (by kernel_rfl) h2)
end
end Go.Proofs.YtbhbhlfkdlfimaaGreatDoor
