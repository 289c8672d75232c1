/- Parts of the proof of the text YtjdomibbaemdnaaGreatDoorZK42. -/
import Derived.Test.YtjdomibbaemdnaaGreatDoorZK1
import Derived.Test.YtjdomibbaemdnaaGreatDoorZK23
import Derived.Test.YtjdomibbaemdnaaGreatDoorZK33
set_option linter.all false
set_option maxRecDepth 100000
set_option maxHeartbeats 8000000
namespace Go.Proofs.YtjdomibbaemdnaaGreatDoor
open Go.RowKit
theorem nm (z:Int):((aa z).toList == [49])=decide (z=1):=by
 rw [ByteArray.toList_eq,ay,←bK]
 by_cases h:z=1
 ·subst h;rw [beq_self_eq_true];rfl
 ·rw [decide_eq_false h,beq_eq_false_iff_ne];exact fun e=>h (fD e)
theorem rq (s n d:ByteArray) (m f b1 b2 z0 z1 zn:Bool) (x y g:Nat) (r:Int) (w:World) (hm1:n.size≤maxLen) (hm2:d.size≤maxLen) (hdz:f=false→d.size=0)
  (hz0:(d.toList == [48])=z0) (hz1:(d.toList == [49])=z1) (hzn:(n.toList == [48])=zn)
  (hR:r=if (!b1 || f && (!b2 || z0 || z1) || m && zn)=true then 11 else if 300<n.size∨300<d.size then 4 else if f=false then 0 else if g=1 then 0 else 11)
  (cs:∀ W,Calls Tryz.prog 100 #[.string s] W fun e W'=>e = .returned (.tuple #[.bool m,.string n,.string d,.bool f])∧Below W.heap.size W W')
  (c1:∀ W,Calls Tryz.prog 101 #[.string n] W fun e W'=>e = .returned (.bool b1)∧W=W')
  (c2:∀ W,Calls Tryz.prog 101 #[.string d] W fun e W'=>e = .returned (.bool b2)∧W=W')
  (c3:b1=true→n.size≤18→∀ W,Calls Tryz.prog 103 #[.string n] W fun e W'=>e = .returned (.int .i64 x)∧W=W')
  (c4:b2=true→d.size≤18→∀ W,Calls Tryz.prog 103 #[.string d] W fun e W'=>e = .returned (.int .i64 y)∧W=W')
  (c5:b1=true→b2=true→n.size≤18→d.size≤18→∀ W,Calls Tryz.prog 102 #[.int .i64 x,.int .i64 y] W fun e W'=>e = .returned (.int .i64 g)∧Below W.heap.size W W')
  (c6:b1=true→b2=true→n.size≤300→d.size≤300→CqB w 104 #[.string n,.string d] (.tuple #[.string (aa g),.int .i64 0])) :
  Calls Tryz.prog 52 #[.string s] w fun e W'=>e = .returned (.int .i64 r)∧Below w.heap.size w W':=by
 have i1:(n.size:Int)≤9223372036854775807:=by unfold maxLen at hm1;omega
 have i2:(d.size:Int)≤9223372036854775807:=by unfold maxLen at hm2;omega
 clear hm1 hm2
 have C:=Ha (Hb cs (Hb c1 (Hb c2 c6)))
 clear cs c1 c2 c6
 cases b1
 ·clear c3 c4 c5
  have hr:=Ha (show r=11 by rw [hR];rfl)
  clear hR
  go_enter Tryz.func52,Tryz.ntmps52
  go_wp2_with fail
  refine (C.out.1 _).mono ?_
  rintro e w1 ⟨rfl,b⟩
  have HS:=Ha b;clear b
  go_wp2_with fail
  refine (C.out.2.1 _).mono ?_
  rintro e w' ⟨rfl,rfl⟩
  go_wp2
  go_ret
  exact ⟨an hr.out.symm,HS.out⟩
 ·cases f
  ·cases m
   ·clear c3 c4 c5
    by_cases hl:(300:Int)<n.size
    ·have hr:=Ha (show r=4 by rw [hR];exact (if_neg (by simp)).trans (if_pos (Or.inl (by omega))))
     clear hR
     go_enter Tryz.func52,Tryz.ntmps52
     go_wp2_with fail
     refine (C.out.1 _).mono ?_
     rintro e w1 ⟨rfl,b⟩
     have HS:=Ha b;clear b
     go_wp2_with fail
     refine (C.out.2.1 _).mono ?_
     rintro e w' ⟨rfl,rfl⟩
     go_wp2
     go_ret
     exact ⟨an hr.out.symm,HS.out⟩
    ·have hd0:¬ (300:Int)<d.size:=by have:=hdz rfl;omega
     have hr:=Ha (show r=0 by rw [hR];exact (if_neg (by simp)).trans ((if_neg (by omega)).trans (if_pos rfl)))
     clear hR
     go_enter Tryz.func52,Tryz.ntmps52
     go_wp2_with fail
     refine (C.out.1 _).mono ?_
     rintro e w1 ⟨rfl,b⟩
     have HS:=Ha b;clear b
     go_wp2_with fail
     refine (C.out.2.1 _).mono ?_
     rintro e w' ⟨rfl,rfl⟩
     go_wp2
     go_ret
     exact ⟨an hr.out.symm,HS.out⟩
   ·cases zn
    ·clear c3 c4 c5
     by_cases hl:(300:Int)<n.size
     ·have hr:=Ha (show r=4 by rw [hR];exact (if_neg (by simp)).trans (if_pos (Or.inl (by omega))))
      clear hR
      go_enter Tryz.func52,Tryz.ntmps52
      go_wp2_with fail
      refine (C.out.1 _).mono ?_
      rintro e w1 ⟨rfl,b⟩
      have HS:=Ha b;clear b
      go_wp2_with fail
      refine (C.out.2.1 _).mono ?_
      rintro e w' ⟨rfl,rfl⟩
      go_wp2
      go_ret
      exact ⟨an hr.out.symm,HS.out⟩
     ·have hd0:¬ (300:Int)<d.size:=by have:=hdz rfl;omega
      have hr:=Ha (show r=0 by rw [hR];exact (if_neg (by simp)).trans ((if_neg (by omega)).trans (if_pos rfl)))
      clear hR
      go_enter Tryz.func52,Tryz.ntmps52
      go_wp2_with fail
      refine (C.out.1 _).mono ?_
      rintro e w1 ⟨rfl,b⟩
      have HS:=Ha b;clear b
      go_wp2_with fail
      refine (C.out.2.1 _).mono ?_
      rintro e w' ⟨rfl,rfl⟩
      go_wp2
      go_ret
      exact ⟨an hr.out.symm,HS.out⟩
    ·clear c3 c4 c5
     have hr:=Ha (show r=11 by rw [hR];rfl)
     clear hR
     go_enter Tryz.func52,Tryz.ntmps52
     go_wp2_with fail
     refine (C.out.1 _).mono ?_
     rintro e w1 ⟨rfl,b⟩
     have HS:=Ha b;clear b
     go_wp2_with fail
     refine (C.out.2.1 _).mono ?_
     rintro e w' ⟨rfl,rfl⟩
     go_wp2
     go_ret
     exact ⟨an hr.out.symm,HS.out⟩
  ·cases b2
   ·clear c3 c4 c5
    have hr:=Ha (show r=11 by rw [hR];rfl)
    clear hR
    go_enter Tryz.func52,Tryz.ntmps52
    go_wp2_with fail
    refine (C.out.1 _).mono ?_
    rintro e w1 ⟨rfl,b⟩
    have HS:=Ha b;clear b
    go_wp2_with fail
    refine (C.out.2.1 _).mono ?_
    rintro e w' ⟨rfl,rfl⟩
    go_wp2_with fail
    refine (C.out.2.2.1 _).mono ?_
    rintro e w' ⟨rfl,rfl⟩
    go_wp2
    go_ret
    exact ⟨an hr.out.symm,HS.out⟩
   ·cases z0
    ·cases z1
     ·cases m
      ·by_cases hl:(300:Int)<n.size
       ·have hr:=Ha (show r=4 by rw [hR];exact (if_neg (by simp)).trans (if_pos (Or.inl (by omega))))
        clear hR
        go_enter Tryz.func52,Tryz.ntmps52
        go_wp2_with fail
        refine (C.out.1 _).mono ?_
        rintro e w1 ⟨rfl,b⟩
        have HS:=Ha b;clear b
        go_wp2_with fail
        refine (C.out.2.1 _).mono ?_
        rintro e w' ⟨rfl,rfl⟩
        go_wp2_with fail
        refine (C.out.2.2.1 _).mono ?_
        rintro e w' ⟨rfl,rfl⟩
        go_wp2
        go_ret
        exact ⟨an hr.out.symm,HS.out⟩
       ·by_cases hl2:(300:Int)<d.size
        ·have hr:=Ha (show r=4 by rw [hR];exact (if_neg (by simp)).trans (if_pos (Or.inr (by omega))))
         clear hR
         go_enter Tryz.func52,Tryz.ntmps52
         go_wp2_with fail
         refine (C.out.1 _).mono ?_
         rintro e w1 ⟨rfl,b⟩
         have HS:=Ha b;clear b
         go_wp2_with fail
         refine (C.out.2.1 _).mono ?_
         rintro e w' ⟨rfl,rfl⟩
         go_wp2_with fail
         refine (C.out.2.2.1 _).mono ?_
         rintro e w' ⟨rfl,rfl⟩
         go_wp2
         go_ret
         exact ⟨an hr.out.symm,HS.out⟩
        ·have hR':r=if g=1 then 0 else 11:=by rw [hR];exact (if_neg (by simp)).trans ((if_neg (by omega)).trans (if_neg (by decide)))
         clear hR
         by_cases h9:(n.size:Int)≤9∧(d.size:Int)≤9
         ·obtain ⟨h9,h9d⟩:=h9
          have cm:=Ha (Hb (c3 rfl (by omega)) (Hb (c4 rfl (by omega)) (c5 rfl rfl (by omega) (by omega))))
          by_cases hg:g=1
          ·have hgi:((g:Int)==1)=true:=by rw [hg];rfl
           have hr:=Ha (show r=0 by rw [hR',if_pos hg])
           clear hR' hg
           go_enter Tryz.func52,Tryz.ntmps52
           go_wp2_with fail
           refine (C.out.1 _).mono ?_
           rintro e w1 ⟨rfl,b⟩
           have HS:=Ha b;clear b
           go_wp2_with fail
           refine (C.out.2.1 _).mono ?_
           rintro e w' ⟨rfl,rfl⟩
           go_wp2_with fail
           refine (C.out.2.2.1 _).mono ?_
           rintro e w' ⟨rfl,rfl⟩
           go_wp2_with fail
           refine (cm.out.1 _).mono ?_
           rintro e w' ⟨rfl,rfl⟩
           go_wp2_with fail
           refine (cm.out.2.1 _).mono ?_
           rintro e w' ⟨rfl,rfl⟩
           go_wp2_with fail
           refine (cm.out.2.2 _).mono ?_
           rintro e w2 ⟨rfl,b⟩
           have B:=Ha (HS.out.trans (b.mono HS.out.size));clear b
           go_wp2
           go_ret
           exact ⟨an hr.out.symm,B.out⟩
          ·have hgi:((g:Int)==1)=false:=by rw [beq_eq_false_iff_ne];omega
           have hr:=Ha (show r=11 by rw [hR',if_neg hg])
           clear hR' hg
           go_enter Tryz.func52,Tryz.ntmps52
           go_wp2_with fail
           refine (C.out.1 _).mono ?_
           rintro e w1 ⟨rfl,b⟩
           have HS:=Ha b;clear b
           go_wp2_with fail
           refine (C.out.2.1 _).mono ?_
           rintro e w' ⟨rfl,rfl⟩
           go_wp2_with fail
           refine (C.out.2.2.1 _).mono ?_
           rintro e w' ⟨rfl,rfl⟩
           go_wp2_with fail
           refine (cm.out.1 _).mono ?_
           rintro e w' ⟨rfl,rfl⟩
           go_wp2_with fail
           refine (cm.out.2.1 _).mono ?_
           rintro e w' ⟨rfl,rfl⟩
           go_wp2_with fail
           refine (cm.out.2.2 _).mono ?_
           rintro e w2 ⟨rfl,b⟩
           have B:=Ha (HS.out.trans (b.mono HS.out.size));clear b
           go_wp2
           go_ret
           exact ⟨an hr.out.symm,B.out⟩
         ·have cg:=Ha (C.out.2.2.2 rfl rfl (by omega) (by omega))
          have hsg:=nm (g:Int)
          by_cases h9n:(n.size:Int)≤9
          ·have h9d:¬ (d.size:Int)≤9:=fun h=>h9 ⟨h9n,h⟩
           clear h9
           by_cases hg:g=1
           ·have hr:=Ha (show r=0 by rw [hR',if_pos hg])
            rw [decide_eq_true (show (g:Int)=1 by omega)] at hsg
            clear hR' hg
            generalize aa (g:Int)=sg at *
            go_enter Tryz.func52,Tryz.ntmps52
            go_wp2_with fail
            refine (C.out.1 _).mono ?_
            rintro e w1 ⟨rfl,b⟩
            have HS:=Ha b;clear b
            go_wp2_with fail
            refine (C.out.2.1 _).mono ?_
            rintro e w' ⟨rfl,rfl⟩
            go_wp2_with fail
            refine (C.out.2.2.1 _).mono ?_
            rintro e w' ⟨rfl,rfl⟩
            go_wp2_with fail
            refine (cg.out _ HS.out).mono ?_
            rintro e w2 ⟨rfl,b⟩
            have B:=Ha (HS.out.trans (b.mono HS.out.size));clear b
            go_wp2
            go_ret
            exact ⟨an hr.out.symm,B.out⟩
           ·have hr:=Ha (show r=11 by rw [hR',if_neg hg])
            rw [decide_eq_false (show ¬ (g:Int)=1 by omega)] at hsg
            clear hR' hg
            generalize aa (g:Int)=sg at *
            go_enter Tryz.func52,Tryz.ntmps52
            go_wp2_with fail
            refine (C.out.1 _).mono ?_
            rintro e w1 ⟨rfl,b⟩
            have HS:=Ha b;clear b
            go_wp2_with fail
            refine (C.out.2.1 _).mono ?_
            rintro e w' ⟨rfl,rfl⟩
            go_wp2_with fail
            refine (C.out.2.2.1 _).mono ?_
            rintro e w' ⟨rfl,rfl⟩
            go_wp2_with fail
            refine (cg.out _ HS.out).mono ?_
            rintro e w2 ⟨rfl,b⟩
            have B:=Ha (HS.out.trans (b.mono HS.out.size));clear b
            go_wp2
            go_ret
            exact ⟨an hr.out.symm,B.out⟩
          ·clear h9
           by_cases hg:g=1
           ·have hr:=Ha (show r=0 by rw [hR',if_pos hg])
            rw [decide_eq_true (show (g:Int)=1 by omega)] at hsg
            clear hR' hg
            generalize aa (g:Int)=sg at *
            go_enter Tryz.func52,Tryz.ntmps52
            go_wp2_with fail
            refine (C.out.1 _).mono ?_
            rintro e w1 ⟨rfl,b⟩
            have HS:=Ha b;clear b
            go_wp2_with fail
            refine (C.out.2.1 _).mono ?_
            rintro e w' ⟨rfl,rfl⟩
            go_wp2_with fail
            refine (C.out.2.2.1 _).mono ?_
            rintro e w' ⟨rfl,rfl⟩
            go_wp2_with fail
            refine (cg.out _ HS.out).mono ?_
            rintro e w2 ⟨rfl,b⟩
            have B:=Ha (HS.out.trans (b.mono HS.out.size));clear b
            go_wp2
            go_ret
            exact ⟨an hr.out.symm,B.out⟩
           ·have hr:=Ha (show r=11 by rw [hR',if_neg hg])
            rw [decide_eq_false (show ¬ (g:Int)=1 by omega)] at hsg
            clear hR' hg
            generalize aa (g:Int)=sg at *
            go_enter Tryz.func52,Tryz.ntmps52
            go_wp2_with fail
            refine (C.out.1 _).mono ?_
            rintro e w1 ⟨rfl,b⟩
            have HS:=Ha b;clear b
            go_wp2_with fail
            refine (C.out.2.1 _).mono ?_
            rintro e w' ⟨rfl,rfl⟩
            go_wp2_with fail
            refine (C.out.2.2.1 _).mono ?_
            rintro e w' ⟨rfl,rfl⟩
            go_wp2_with fail
            refine (cg.out _ HS.out).mono ?_
            rintro e w2 ⟨rfl,b⟩
            have B:=Ha (HS.out.trans (b.mono HS.out.size));clear b
            go_wp2
            go_ret
            exact ⟨an hr.out.symm,B.out⟩
      ·cases zn
       ·by_cases hl:(300:Int)<n.size
        ·have hr:=Ha (show r=4 by rw [hR];exact (if_neg (by simp)).trans (if_pos (Or.inl (by omega))))
         clear hR
         go_enter Tryz.func52,Tryz.ntmps52
         go_wp2_with fail
         refine (C.out.1 _).mono ?_
         rintro e w1 ⟨rfl,b⟩
         have HS:=Ha b;clear b
         go_wp2_with fail
         refine (C.out.2.1 _).mono ?_
         rintro e w' ⟨rfl,rfl⟩
         go_wp2_with fail
         refine (C.out.2.2.1 _).mono ?_
         rintro e w' ⟨rfl,rfl⟩
         go_wp2
         go_ret
         exact ⟨an hr.out.symm,HS.out⟩
        ·by_cases hl2:(300:Int)<d.size
         ·have hr:=Ha (show r=4 by rw [hR];exact (if_neg (by simp)).trans (if_pos (Or.inr (by omega))))
          clear hR
          go_enter Tryz.func52,Tryz.ntmps52
          go_wp2_with fail
          refine (C.out.1 _).mono ?_
          rintro e w1 ⟨rfl,b⟩
          have HS:=Ha b;clear b
          go_wp2_with fail
          refine (C.out.2.1 _).mono ?_
          rintro e w' ⟨rfl,rfl⟩
          go_wp2_with fail
          refine (C.out.2.2.1 _).mono ?_
          rintro e w' ⟨rfl,rfl⟩
          go_wp2
          go_ret
          exact ⟨an hr.out.symm,HS.out⟩
         ·have hR':r=if g=1 then 0 else 11:=by rw [hR];exact (if_neg (by simp)).trans ((if_neg (by omega)).trans (if_neg (by decide)))
          clear hR
          by_cases h9:(n.size:Int)≤9∧(d.size:Int)≤9
          ·obtain ⟨h9,h9d⟩:=h9
           have cm:=Ha (Hb (c3 rfl (by omega)) (Hb (c4 rfl (by omega)) (c5 rfl rfl (by omega) (by omega))))
           by_cases hg:g=1
           ·have hgi:((g:Int)==1)=true:=by rw [hg];rfl
            have hr:=Ha (show r=0 by rw [hR',if_pos hg])
            clear hR' hg
            go_enter Tryz.func52,Tryz.ntmps52
            go_wp2_with fail
            refine (C.out.1 _).mono ?_
            rintro e w1 ⟨rfl,b⟩
            have HS:=Ha b;clear b
            go_wp2_with fail
            refine (C.out.2.1 _).mono ?_
            rintro e w' ⟨rfl,rfl⟩
            go_wp2_with fail
            refine (C.out.2.2.1 _).mono ?_
            rintro e w' ⟨rfl,rfl⟩
            go_wp2_with fail
            refine (cm.out.1 _).mono ?_
            rintro e w' ⟨rfl,rfl⟩
            go_wp2_with fail
            refine (cm.out.2.1 _).mono ?_
            rintro e w' ⟨rfl,rfl⟩
            go_wp2_with fail
            refine (cm.out.2.2 _).mono ?_
            rintro e w2 ⟨rfl,b⟩
            have B:=Ha (HS.out.trans (b.mono HS.out.size));clear b
            go_wp2
            go_ret
            exact ⟨an hr.out.symm,B.out⟩
           ·have hgi:((g:Int)==1)=false:=by rw [beq_eq_false_iff_ne];omega
            have hr:=Ha (show r=11 by rw [hR',if_neg hg])
            clear hR' hg
            go_enter Tryz.func52,Tryz.ntmps52
            go_wp2_with fail
            refine (C.out.1 _).mono ?_
            rintro e w1 ⟨rfl,b⟩
            have HS:=Ha b;clear b
            go_wp2_with fail
            refine (C.out.2.1 _).mono ?_
            rintro e w' ⟨rfl,rfl⟩
            go_wp2_with fail
            refine (C.out.2.2.1 _).mono ?_
            rintro e w' ⟨rfl,rfl⟩
            go_wp2_with fail
            refine (cm.out.1 _).mono ?_
            rintro e w' ⟨rfl,rfl⟩
            go_wp2_with fail
            refine (cm.out.2.1 _).mono ?_
            rintro e w' ⟨rfl,rfl⟩
            go_wp2_with fail
            refine (cm.out.2.2 _).mono ?_
            rintro e w2 ⟨rfl,b⟩
            have B:=Ha (HS.out.trans (b.mono HS.out.size));clear b
            go_wp2
            go_ret
            exact ⟨an hr.out.symm,B.out⟩
          ·have cg:=Ha (C.out.2.2.2 rfl rfl (by omega) (by omega))
           have hsg:=nm (g:Int)
           by_cases h9n:(n.size:Int)≤9
           ·have h9d:¬ (d.size:Int)≤9:=fun h=>h9 ⟨h9n,h⟩
            clear h9
            by_cases hg:g=1
            ·have hr:=Ha (show r=0 by rw [hR',if_pos hg])
             rw [decide_eq_true (show (g:Int)=1 by omega)] at hsg
             clear hR' hg
             generalize aa (g:Int)=sg at *
             go_enter Tryz.func52,Tryz.ntmps52
             go_wp2_with fail
             refine (C.out.1 _).mono ?_
             rintro e w1 ⟨rfl,b⟩
             have HS:=Ha b;clear b
             go_wp2_with fail
             refine (C.out.2.1 _).mono ?_
             rintro e w' ⟨rfl,rfl⟩
             go_wp2_with fail
             refine (C.out.2.2.1 _).mono ?_
             rintro e w' ⟨rfl,rfl⟩
             go_wp2_with fail
             refine (cg.out _ HS.out).mono ?_
             rintro e w2 ⟨rfl,b⟩
             have B:=Ha (HS.out.trans (b.mono HS.out.size));clear b
             go_wp2
             go_ret
             exact ⟨an hr.out.symm,B.out⟩
            ·have hr:=Ha (show r=11 by rw [hR',if_neg hg])
             rw [decide_eq_false (show ¬ (g:Int)=1 by omega)] at hsg
             clear hR' hg
             generalize aa (g:Int)=sg at *
             go_enter Tryz.func52,Tryz.ntmps52
             go_wp2_with fail
             refine (C.out.1 _).mono ?_
             rintro e w1 ⟨rfl,b⟩
             have HS:=Ha b;clear b
             go_wp2_with fail
             refine (C.out.2.1 _).mono ?_
             rintro e w' ⟨rfl,rfl⟩
             go_wp2_with fail
             refine (C.out.2.2.1 _).mono ?_
             rintro e w' ⟨rfl,rfl⟩
             go_wp2_with fail
             refine (cg.out _ HS.out).mono ?_
             rintro e w2 ⟨rfl,b⟩
             have B:=Ha (HS.out.trans (b.mono HS.out.size));clear b
             go_wp2
             go_ret
             exact ⟨an hr.out.symm,B.out⟩
           ·clear h9
            by_cases hg:g=1
            ·have hr:=Ha (show r=0 by rw [hR',if_pos hg])
             rw [decide_eq_true (show (g:Int)=1 by omega)] at hsg
             clear hR' hg
             generalize aa (g:Int)=sg at *
             go_enter Tryz.func52,Tryz.ntmps52
             go_wp2_with fail
             refine (C.out.1 _).mono ?_
             rintro e w1 ⟨rfl,b⟩
             have HS:=Ha b;clear b
             go_wp2_with fail
             refine (C.out.2.1 _).mono ?_
             rintro e w' ⟨rfl,rfl⟩
             go_wp2_with fail
             refine (C.out.2.2.1 _).mono ?_
             rintro e w' ⟨rfl,rfl⟩
             go_wp2_with fail
             refine (cg.out _ HS.out).mono ?_
             rintro e w2 ⟨rfl,b⟩
             have B:=Ha (HS.out.trans (b.mono HS.out.size));clear b
             go_wp2
             go_ret
             exact ⟨an hr.out.symm,B.out⟩
            ·have hr:=Ha (show r=11 by rw [hR',if_neg hg])
             rw [decide_eq_false (show ¬ (g:Int)=1 by omega)] at hsg
             clear hR' hg
             generalize aa (g:Int)=sg at *
             go_enter Tryz.func52,Tryz.ntmps52
             go_wp2_with fail
             refine (C.out.1 _).mono ?_
             rintro e w1 ⟨rfl,b⟩
             have HS:=Ha b;clear b
             go_wp2_with fail
             refine (C.out.2.1 _).mono ?_
             rintro e w' ⟨rfl,rfl⟩
             go_wp2_with fail
             refine (C.out.2.2.1 _).mono ?_
             rintro e w' ⟨rfl,rfl⟩
             go_wp2_with fail
             refine (cg.out _ HS.out).mono ?_
             rintro e w2 ⟨rfl,b⟩
             have B:=Ha (HS.out.trans (b.mono HS.out.size));clear b
             go_wp2
             go_ret
             exact ⟨an hr.out.symm,B.out⟩
       ·clear c3 c4 c5
        have hr:=Ha (show r=11 by rw [hR];rfl)
        clear hR
        go_enter Tryz.func52,Tryz.ntmps52
        go_wp2_with fail
        refine (C.out.1 _).mono ?_
        rintro e w1 ⟨rfl,b⟩
        have HS:=Ha b;clear b
        go_wp2_with fail
        refine (C.out.2.1 _).mono ?_
        rintro e w' ⟨rfl,rfl⟩
        go_wp2_with fail
        refine (C.out.2.2.1 _).mono ?_
        rintro e w' ⟨rfl,rfl⟩
        go_wp2
        go_ret
        exact ⟨an hr.out.symm,HS.out⟩
     ·clear c3 c4 c5
      have hr:=Ha (show r=11 by rw [hR];rfl)
      clear hR
      go_enter Tryz.func52,Tryz.ntmps52
      go_wp2_with fail
      refine (C.out.1 _).mono ?_
      rintro e w1 ⟨rfl,b⟩
      have HS:=Ha b;clear b
      go_wp2_with fail
      refine (C.out.2.1 _).mono ?_
      rintro e w' ⟨rfl,rfl⟩
      go_wp2_with fail
      refine (C.out.2.2.1 _).mono ?_
      rintro e w' ⟨rfl,rfl⟩
      go_wp2
      go_ret
      exact ⟨an hr.out.symm,HS.out⟩
    ·clear c3 c4 c5
     have hr:=Ha (show r=11 by rw [hR];rfl)
     clear hR
     go_enter Tryz.func52,Tryz.ntmps52
     go_wp2_with fail
     refine (C.out.1 _).mono ?_
     rintro e w1 ⟨rfl,b⟩
     have HS:=Ha b;clear b
     go_wp2_with fail
     refine (C.out.2.1 _).mono ?_
     rintro e w' ⟨rfl,rfl⟩
     go_wp2_with fail
     refine (C.out.2.2.1 _).mono ?_
     rintro e w' ⟨rfl,rfl⟩
     go_wp2
     go_ret
     exact ⟨an hr.out.symm,HS.out⟩
theorem yF (s:ByteArray):(bsN s).size≤s.size∧(bsD s).size≤s.size:=by
 have h1:(szL s.data.toList).length≤s.size:=by
  unfold szL;split
  ·rw [List.length_tail,ac];omega
  ·rw [ac];omega
 obtain ⟨e1,e2⟩:=pP s.data.toList
 rw [←ac (bsN s),←ac (bsD s),iK,gP]
 rcases kU (szL s.data.toList) with ⟨k1,k2,k3⟩ | ⟨k1,k2⟩
 ·rw [k1] at e1
  unfold sD
  rw [e1,pQ,←k2]
  exact ⟨h1,Nat.zero_le _⟩
 ·rw [k1] at e1
  have:=congrArg List.length k2
  simp only [List.length_append,List.length_cons] at this
  unfold sD
  rw [e1,if_pos rfl,e2 e1,pQ]
  omega
theorem np {l:List UInt8} (h:eU l=true):l.all az=true:=by
 unfold eU at h
 simp only [Bool.and_eq_true] at h
 exact h.1.1
theorem rt {l:List UInt8} (h:eU l=true) (hl:l.length≤300):chk l=0:=by
 have h1:=kK h
 have h2:=kL (l:=l) (by rw [uq h1,h])
 rw [a8 h1,if_neg (by omega)] at h2
 exact h2
theorem io (s:ByteArray) (w:World) (hs:s.size≤maxLen) (ht:Tab w) :
  Calls Tryz.prog 52 #[.string s] w fun e W'=>e = .returned (.int .i64 (aM s.data.toList))∧Below w.heap.size w W':=by
 obtain ⟨b1,b2⟩:=yF s
 have hx:∀ (t:ByteArray),eU t.data.toList=true→t.size≤18→ae t.data.toList<9223372036854775808:=fun t h h'=>by
  refine Nat.lt_of_lt_of_le (a7 _ (fun c hc=>List.all_eq_true.1 (np h) c hc)) ?_
  exact Nat.le_trans (Nat.pow_le_pow_right (by decide) (show t.data.toList.length≤18 by rw [ac];exact h')) (by decide)
 refine rq s (bsN s) (bsD s) (ap s.data.toList) (bI s.data.toList) (eU (bsN s).data.toList) (eU (bsD s).data.toList) ((bsD s).toList == [48]) ((bsD s).toList == [49]) ((bsN s).toList == [48]) (ae (bsN s).data.toList) (ae (bsD s).data.toList)
  (Nat.gcd (ae (bsN s).data.toList) (ae (bsD s).data.toList)) (aM s.data.toList) w (by omega) (by omega) (fun h=>by rw [←ac,gP];unfold sD;rw [h];rfl) rfl rfl rfl ?_
  (fun W=>nk s W hs) (fun W=>lV _ W (by omega)) (fun W=>lV _ W (by omega)) (fun h h' W=>jF _ W h' (np h)) (fun h h' W=>jF _ W h' (np h))
  (fun h h' k k' W=>nl _ _ W (hx _ h k) (hx _ h' k')) ?_
 ·rw [←vJ,ByteArray.toList_eq,ByteArray.toList_eq,←ac (bsN s),←ac (bsD s),iK,gP]
  unfold tq jO
  simp only [Bool.or_assoc]
 ·intro h h' k k' W hW
  have q1:=rt h (by rw [ac];exact k)
  have q2:=rt h' (by rw [ac];exact k')
  have c:=R.Gcd_any (bsN s) (bsD s) W (by omega) (by omega) (ht.next hW)
  have e2:bC (bsN s).data.toList (bsD s).data.toList=0:=by unfold bC;rw [if_pos q1];exact q2
  rw [e2] at c
  rw [a8 (kK h),a8 (kK h')] at c
  exact c
theorem iL (s t:ByteArray):(s++t).data.toList=s.data.toList++t.data.toList:=by
 rw [ByteArray.data_append];simp
theorem tX (k:Nat) (h:0<k):(⟨(Lib.itoa (-(k:Int))).toArray⟩:ByteArray)=⟨#[45]⟩++aa (k:Int):=by
 apply aY
 rw [iL,ay]
 unfold Lib.itoa
 rw [if_pos (by omega),if_neg (by omega)]
 simp
theorem ll (a b:Int):(⟨(Lib.itoa a++47::Lib.itoa b).toArray⟩:ByteArray)=aa a++⟨#[47]⟩++aa b:=by
 apply aY
 rw [iL,iL,ay,ay]
 simp
theorem u7 (a b:Int) {s:ByteArray} (h:(⟨(Lib.itoa a).toArray⟩:ByteArray)=s):(⟨(Lib.itoa a++47::Lib.itoa b).toArray⟩:ByteArray)=s++⟨#[47]⟩++aa b:=by
 subst h
 exact ll a b
theorem u9 (n d g:Nat) (w:World) (hn:n<9223372036854775808) (hd:d<9223372036854775808) (hg:Nat.gcd n d=g) (g0:0<g) :
  Calls Tryz.prog 98 #[.int .i64 n,.int .i64 d] w fun e w'=>e = .returned (.string (dc ((n / g:Nat):Int) ((d / g:Nat):Int)))∧Below w.heap.size w w':=by
 have hq:n / g<9223372036854775808:=Nat.lt_of_le_of_lt (Nat.div_le_self _ _) hn
 have hr:d / g<9223372036854775808:=Nat.lt_of_le_of_lt (Nat.div_le_self _ _) hd
 have c1:=fun W=>nl n d W hn hd
 rw [hg] at c1
 have hgl:g<9223372036854775808:=by
  rcases Nat.eq_zero_or_pos n with h | h
  ·subst h;rw [Nat.gcd_zero_left] at hg;omega
  ·have:=Nat.gcd_le_left d h;omega
 have e1:wrap64 ((n:Int) / (g:Int))=((n / g:Nat):Int):=by
  rw [←Int.natCast_ediv];generalize n / g=q at *; unfold wrap64;omega
 have e2:wrap64 ((d:Int) / (g:Int))=((d / g:Nat):Int):=by
  rw [←Int.natCast_ediv];generalize d / g=q at *; unfold wrap64;omega
 have hN:¬ (n:Int)<0:=by omega
 have hG:((g:Int)==0)=false:=by rw [beq_eq_false_iff_ne];omega
 have c2:∀ W,Calls Tryz.prog 146 #[.int .i64 (wrap64 ((n:Int) / (g:Int)))] W fun e W'=>e = .returned (.string (aa ((n / g:Nat):Int)))∧Below W.heap.size W W':=fun W=>by rw [e1];exact gd (n / g) W hq
 have c3:∀ W,Calls Tryz.prog 146 #[.int .i64 (wrap64 ((d:Int) / (g:Int)))] W fun e W'=>e = .returned (.string (aa ((d / g:Nat):Int)))∧Below W.heap.size W W':=fun W=>by rw [e2];exact gd (d / g) W hr
 have z1:=aG (z:=((n / g:Nat):Int)) (fi (by rw [Int.natAbs_natCast];exact hq))
 have z2:=aG (z:=((d / g:Nat):Int)) (fi (by rw [Int.natAbs_natCast];exact hr))
 have hS1:=trivial
 by_cases h1:d / g=1
 ·have q1:(wrap64 ((d:Int) / (g:Int))==1)=true:=by rw [e2,h1];rfl
  have C:=Ha (Hb c1 (Hb c2 c3));clear c1 c2 c3 hg
  rw [h1]
  have hR:dc (((n / g:Nat):Int)) ((1:Nat):Int)=aa ((n / g:Nat):Int):=by
   unfold dc mQ;rw [if_pos (show ((1:Nat):Int)=1 from rfl)];rfl
  have HR:=Ha hR;clear hR
  clear e1 e2 h1 hr hq hS1
  generalize aa ((n / g:Nat):Int)=sn at *
  go_enter Tryz.func98,Tryz.ntmps98
  go_wp2_with fail
  refine (C.out.1 _).mono ?_
  rintro e w1 ⟨rfl,b⟩
  have B1:=Ha b;clear b
  go_wp2_with fail
  refine (C.out.2.1 _).mono ?_
  rintro e w2 ⟨rfl,b⟩
  have B2:=Ha (B1.out.trans (b.mono B1.out.size));clear b B1
  go_wp2
  go_ret
  exact ⟨iY (by first | exact HR.out.symm | (rw [HR.out];rfl)),B2.out⟩
 ·have q1:(wrap64 ((d:Int) / (g:Int))==1)=false:=by rw [e2,beq_eq_false_iff_ne];omega
  have C:=Ha (Hb c1 (Hb c2 c3));clear c1 c2 c3 hg
  have hR:dc (((n / g:Nat):Int)) ((d / g:Nat):Int)=aa ((n / g:Nat):Int)++⟨#[47]⟩++aa ((d / g:Nat):Int):=by
   unfold dc mQ;rw [if_neg (by omega)];exact ll _ _
  have HR:=Ha hR;clear hR
  clear e1 e2 h1 hr hq hS1
  generalize aa ((n / g:Nat):Int)=sn at *
  generalize aa ((d / g:Nat):Int)=sd at *
  go_enter Tryz.func98,Tryz.ntmps98
  go_wp2_with fail
  refine (C.out.1 _).mono ?_
  rintro e w1 ⟨rfl,b⟩
  have B1:=Ha b;clear b
  go_wp2_with fail
  refine (C.out.2.1 _).mono ?_
  rintro e w2 ⟨rfl,b⟩
  have B2:=Ha (B1.out.trans (b.mono B1.out.size));clear b B1
  go_wp2_with fail
  refine (C.out.2.2 _).mono ?_
  rintro e w3 ⟨rfl,b⟩
  have B3:=Ha (B2.out.trans (b.mono B2.out.size));clear b B2
  go_wp2
  go_ret
  exact ⟨iY (by first | exact HR.out.symm | (rw [HR.out];rfl)),B3.out⟩
theorem vc (n d g:Nat) (w:World) (hn:n<9223372036854775808) (hd:d<9223372036854775808) (hg:Nat.gcd n d=g) (g0:0<g) (n0:0<n / g) :
  Calls Tryz.prog 98 #[.int .i64 (-(n:Int)),.int .i64 d] w fun e w'=>e = .returned (.string (dc (-((n / g:Nat):Int)) ((d / g:Nat):Int)))∧Below w.heap.size w w':=by
 have hq:n / g<9223372036854775808:=Nat.lt_of_le_of_lt (Nat.div_le_self _ _) hn
 have hr:d / g<9223372036854775808:=Nat.lt_of_le_of_lt (Nat.div_le_self _ _) hd
 have c1:=fun W=>nl n d W hn hd
 rw [hg] at c1
 have hgl:g<9223372036854775808:=by
  rcases Nat.eq_zero_or_pos n with h | h
  ·subst h;rw [Nat.gcd_zero_left] at hg;omega
  ·have:=Nat.gcd_le_left d h;omega
 have e1:wrap64 ((n:Int) / (g:Int))=((n / g:Nat):Int):=by
  rw [←Int.natCast_ediv];generalize n / g=q at *; unfold wrap64;omega
 have e2:wrap64 ((d:Int) / (g:Int))=((d / g:Nat):Int):=by
  rw [←Int.natCast_ediv];generalize d / g=q at *; unfold wrap64;omega
 have hN : -(n:Int)<0:=by have:=Nat.div_le_self n g;omega
 have hG:((g:Int)==0)=false:=by rw [beq_eq_false_iff_ne];omega
 have c2:∀ W,Calls Tryz.prog 146 #[.int .i64 (wrap64 ((n:Int) / (g:Int)))] W fun e W'=>e = .returned (.string (aa ((n / g:Nat):Int)))∧Below W.heap.size W W':=fun W=>by rw [e1];exact gd (n / g) W hq
 have c3:∀ W,Calls Tryz.prog 146 #[.int .i64 (wrap64 ((d:Int) / (g:Int)))] W fun e W'=>e = .returned (.string (aa ((d / g:Nat):Int)))∧Below W.heap.size W W':=fun W=>by rw [e2];exact gd (d / g) W hr
 have z1:=aG (z:=((n / g:Nat):Int)) (fi (by rw [Int.natAbs_natCast];exact hq))
 have z2:=aG (z:=((d / g:Nat):Int)) (fi (by rw [Int.natAbs_natCast];exact hr))
 have hS1:=tX (n / g) n0
 by_cases h1:d / g=1
 ·have q1:(wrap64 ((d:Int) / (g:Int))==1)=true:=by rw [e2,h1];rfl
  have C:=Ha (Hb c1 (Hb c2 c3));clear c1 c2 c3 hg
  rw [h1]
  have hR:dc (-((n / g:Nat):Int)) ((1:Nat):Int)=⟨#[45]⟩++aa ((n / g:Nat):Int):=by
   unfold dc mQ;rw [if_pos (show ((1:Nat):Int)=1 from rfl)];exact hS1
  have HR:=Ha hR;clear hR
  clear e1 e2 h1 hr hq hS1
  generalize aa ((n / g:Nat):Int)=sn at *
  go_enter Tryz.func98,Tryz.ntmps98
  go_wp2_with fail
  refine (C.out.1 _).mono ?_
  rintro e w1 ⟨rfl,b⟩
  have B1:=Ha b;clear b
  go_wp2_with fail
  refine (C.out.2.1 _).mono ?_
  rintro e w2 ⟨rfl,b⟩
  have B2:=Ha (B1.out.trans (b.mono B1.out.size));clear b B1
  go_wp2
  go_ret
  exact ⟨iY (by first | exact HR.out.symm | (rw [HR.out];rfl)),B2.out⟩
 ·have q1:(wrap64 ((d:Int) / (g:Int))==1)=false:=by rw [e2,beq_eq_false_iff_ne];omega
  have C:=Ha (Hb c1 (Hb c2 c3));clear c1 c2 c3 hg
  have hR:dc (-((n / g:Nat):Int)) ((d / g:Nat):Int)=⟨#[45]⟩++aa ((n / g:Nat):Int)++⟨#[47]⟩++aa ((d / g:Nat):Int):=by
   unfold dc mQ;rw [if_neg (by omega)];exact u7 _ _ hS1
  have HR:=Ha hR;clear hR
  clear e1 e2 h1 hr hq hS1
  generalize aa ((n / g:Nat):Int)=sn at *
  generalize aa ((d / g:Nat):Int)=sd at *
  go_enter Tryz.func98,Tryz.ntmps98
  go_wp2_with fail
  refine (C.out.1 _).mono ?_
  rintro e w1 ⟨rfl,b⟩
  have B1:=Ha b;clear b
  go_wp2_with fail
  refine (C.out.2.1 _).mono ?_
  rintro e w2 ⟨rfl,b⟩
  have B2:=Ha (B1.out.trans (b.mono B1.out.size));clear b B1
  go_wp2_with fail
  refine (C.out.2.2 _).mono ?_
  rintro e w3 ⟨rfl,b⟩
  have B3:=Ha (B2.out.trans (b.mono B2.out.size));clear b B2
  go_wp2
  go_ret
  exact ⟨iY (by first | exact HR.out.symm | (rw [HR.out];rfl)),B3.out⟩
theorem yG {n d:Nat} (hd:0<d):0<Nat.gcd n d:=Nat.gcd_pos_of_pos_right _ hd
theorem jj (n d:Int) (w:World) (hn:n.natAbs<9223372036854775808) (hd0:0<d) (hd:d<9223372036854775808) :
  Calls Tryz.prog 98 #[.int .i64 n,.int .i64 d] w fun e w'=>e = .returned (.string (ah (Rat.divInt n d)))∧Below w.heap.size w w':=by
 obtain ⟨k,rfl⟩:∃ k:Nat,d=k:=⟨d.toNat,by omega⟩
 have hk:0<k:=by omega
 obtain ⟨q1,q2⟩:=pk (n:=n) (d:=(k:Int)) hd0
 have hg:aE n k=(Nat.gcd n.natAbs k:Nat):=by unfold aE;rw [Int.natAbs_natCast]
 have hgp:=yG (n:=n.natAbs) hk
 rw [←sj,q1,q2,hg]
 rcases Int.lt_or_le n 0 with h | h
 ·have e1:n / ((Nat.gcd n.natAbs k:Nat):Int) = -((n.natAbs / Nat.gcd n.natAbs k:Nat):Int):=by
   have hdv:(Nat.gcd n.natAbs k:Nat)∣n.natAbs:=Nat.gcd_dvd_left _ _
   obtain ⟨c,hc⟩:=hdv
   have hn2:n=(Nat.gcd n.natAbs k:Nat)*(-(c:Int)):=by
    have:(n.natAbs:Int)=(Nat.gcd n.natAbs k:Nat)*(c:Int):=by exact_mod_cast hc
    rw [Int.mul_neg,←this];omega
   have h1:n.natAbs / Nat.gcd n.natAbs k=c:=by
    conv=>lhs;lhs;rw [hc]
    exact Nat.mul_div_cancel_left _ hgp
   rw [h1]
   conv=>lhs;lhs;rw [hn2]
   exact Int.mul_ediv_cancel_left _ (by omega)
  rw [e1]
  have h0:0<n.natAbs / Nat.gcd n.natAbs k:=Nat.div_pos (Nat.le_of_dvd (by omega) (Nat.gcd_dvd_left _ _)) hgp
  have c:=vc n.natAbs k (Nat.gcd n.natAbs k) w hn (by omega) rfl hgp h0
  rwa [show -((n.natAbs:Nat):Int)=n by omega] at c
 ·have c:=u9 n.natAbs k (Nat.gcd n.natAbs k) w hn (by omega) rfl hgp
  rw [show ((n.natAbs:Nat):Int)=n by omega] at c
  rwa [show n / ((Nat.gcd n.natAbs k:Nat):Int)=((n.natAbs / Nat.gcd n.natAbs k:Nat):Int) by rw [Int.natCast_ediv,show ((n.natAbs:Nat):Int)=n by omega]]
end Go.Proofs.YtjdomibbaemdnaaGreatDoor
