/- Parts of the proof of the text YteckjifdpcbaeaaGreatDoorZG38. -/
import Derived.Test.YteckjifdpcbaeaaGreatDoorZG1
import Derived.Test.YteckjifdpcbaeaaGreatDoorZG10
set_option linter.all false
set_option maxRecDepth 100000
set_option maxHeartbeats 8000000
namespace Go.Proofs.YteckjifdpcbaeaaGreatDoor.R
def B:Nat:=1000000
theorem B_eq:B=1000000:=rfl
theorem B_pos:0<B:=by decide
def toN:List Nat→Nat
 | []=>0
 | d::r=>d+B*toN r
def Dig (l:List Nat):Prop:=∀ x∈l,x<1000000
theorem Dig.nil:Dig []:=fun _ h=>by cases h
theorem Dig.cons {d:Nat} {l:List Nat} (h:d<1000000) (hl:Dig l):Dig (d::l):=fun x hx=>by
 rcases List.mem_cons.1 hx with rfl | hx
 ·exact h
 ·exact hl x hx
theorem Dig.head {d:Nat} {l:List Nat} (h:Dig (d::l)):d<1000000:=h d (by simp)
theorem Dig.tail {d:Nat} {l:List Nat} (h:Dig (d::l)):Dig l:=fun x hx=>h x (by simp [hx])
theorem Dig.take {l:List Nat} (h:Dig l) (k:Nat):Dig (l.take k):=fun x hx=>h x (List.mem_of_mem_take hx)
theorem Dig.drop {l:List Nat} (h:Dig l) (k:Nat):Dig (l.drop k):=fun x hx=>h x (List.mem_of_mem_drop hx)
theorem Dig.append {l m:List Nat} (h:Dig l) (h':Dig m):Dig (l++m):=fun x hx=>by
 rcases List.mem_append.1 hx with hx | hx
 ·exact h x hx
 ·exact h' x hx
theorem Dig.one {d:Nat} (h:d<1000000):Dig [d]:=Dig.cons h Dig.nil
theorem Dig.getD {l:List Nat} (h:Dig l) (i:Nat):l.getD i 0<1000000:=by
 by_cases hi:i<l.length
 ·rw [List.getD_eq_getElem?_getD,List.getElem?_eq_getElem hi];exact h _ (List.getElem_mem _)
 ·rw [List.getD_eq_getElem?_getD,List.getElem?_eq_none (by omega)];simp
theorem Dig.replicate (k:Nat):Dig (List.replicate k 0):=fun x hx=>by
 rw [(List.mem_replicate.1 hx).2];decide
theorem toN_append (l m:List Nat):toN (l++m)=toN l+B ^ l.length*toN m:=by
 induction l with
 | nil=>simp [toN]
 | cons d r ih =>
  simp only [List.cons_append,toN,ih,List.length_cons,Nat.pow_succ]
  rw [Nat.mul_add,Nat.add_assoc,←Nat.mul_assoc,Nat.mul_comm B (B ^ r.length)]
theorem toN_snoc (l:List Nat) (d:Nat):toN (l ++ [d])=toN l+B ^ l.length*d:=by
 rw [toN_append];simp [toN]
theorem toN_replicate (k:Nat):toN (List.replicate k 0)=0:=by
 induction k with
 | zero=>rfl
 | succ k ih=>rw [List.replicate_succ];simp [toN,ih]
theorem toN_lt {l:List Nat} (h:Dig l):toN l<B ^ l.length:=by
 induction l with
 | nil=>simp [toN]
 | cons d r ih =>
  have h1:=ih h.tail
  have h2:=h.head
  rw [toN,List.length_cons,Nat.pow_succ,Nat.mul_comm (B ^ r.length) B]
  have h3:B*toN r+B≤B*B ^ r.length:=by
   rw [←Nat.mul_succ];exact Nat.mul_le_mul_left B h1
  rw [B_eq] at *
  omega
theorem take_succ_getD (l:List Nat) (k:Nat) (h:k<l.length):l.take (k+1)=l.take k ++ [l.getD k 0]:=by
 rw [List.take_succ_eq_append_getElem h,List.getD_eq_getElem?_getD,List.getElem?_eq_getElem h];rfl
theorem toN_take_succ (l:List Nat) (k:Nat) (h:k<l.length):toN (l.take (k+1))=toN (l.take k)+B ^ k*l.getD k 0:=by
 rw [take_succ_getD l k h,toN_snoc,List.length_take,Nat.min_eq_left (by omega)]
def dg (n:Nat):List Nat:=if _h:n=0 then [] else n % B::dg (n / B)
termination_by n
decreasing_by exact Nat.div_lt_self (by omega) (by decide)
theorem dg_zero:dg 0 = []:=by rw [dg];rfl
theorem dg_pos {n:Nat} (h:n≠0):dg n=n % B::dg (n / B):=by rw [dg,dif_neg h]
theorem toN_dg (n:Nat):toN (dg n)=n:=by
 induction n using Nat.strongRecOn with
 | _ n ih =>
  by_cases h:n=0
  ·subst h;rw [dg_zero];rfl
  ·rw [dg_pos h,toN,ih (n / B) (Nat.div_lt_self (by omega) (by decide))]
   exact Nat.mod_add_div n B
theorem dg_Dig (n:Nat):Dig (dg n):=by
 induction n using Nat.strongRecOn with
 | _ n ih =>
  by_cases h:n=0
  ·subst h;rw [dg_zero];exact Dig.nil
  ·rw [dg_pos h]
   exact Dig.cons (Nat.mod_lt _ (by decide)) (ih (n / B) (Nat.div_lt_self (by omega) (by decide)))
theorem toN_pos_of_last {l:List Nat} (hne:l ≠ []) (hl:l.getLast? ≠ some 0):0<toN l:=by
 induction l with
 | nil=>exact absurd rfl hne
 | cons d r ih =>
  rw [toN]
  by_cases hr:r = []
  ·subst hr
   have:d≠0:=fun e=>hl (by rw [e];rfl)
   omega
  ·have h1:=ih hr (by rwa [List.getLast?_cons_of_ne_nil hr] at hl)
   have:=Nat.mul_pos B_pos h1
   omega
theorem dg_toN {l:List Nat} (h:Dig l) (hl:l.getLast? ≠ some 0):dg (toN l)=l:=by
 induction l with
 | nil=>exact dg_zero
 | cons d r ih =>
  have h0:=toN_pos_of_last (l:=d::r) (by simp) hl
  have hd:d<B:=h.head
  rw [dg_pos (by omega)]
  simp only [toN]
  have e1:(d+B*toN r) % B=d:=by rw [Nat.add_mul_mod_self_left];exact Nat.mod_eq_of_lt hd
  have e2:(d+B*toN r) / B=toN r:=by
   rw [Nat.add_mul_div_left _ _ B_pos,Nat.div_eq_of_lt hd];omega
  rw [e1,e2]
  by_cases hr:r = []
  ·subst hr;rw [show toN []=0 from rfl,dg_zero]
  ·rw [ih h.tail (by rwa [List.getLast?_cons_of_ne_nil hr] at hl)]
theorem dg_nil_iff (n:Nat):dg n = []↔n=0:=by
 constructor
 ·intro h;have:=toN_dg n;rw [h] at this;exact this.symm
 ·rintro rfl;exact dg_zero
theorem dg_length_le (n k : Nat) : (dg n).length ≤ k ↔ n < B ^ k := by
 constructor
 · intro h
   have h1 := toN_lt (dg_Dig n)
   rw [toN_dg] at h1
   exact Nat.lt_of_lt_of_le h1 (Nat.pow_le_pow_right B_pos h)
 · induction k generalizing n with
   | zero => intro h; have : n = 0 := by simpa using h
             subst this; rw [dg_zero]; exact Nat.le_refl _
   | succ k ih =>
     intro h
     by_cases h0 : n = 0
     · subst h0; rw [dg_zero]; simp
     · rw [dg_pos h0, List.length_cons]
       have := ih (n / B) (by rw [Nat.div_lt_iff_lt_mul B_pos]; rwa [Nat.pow_succ] at h)
       omega
theorem dg_of_take {l:List Nat} (h:Dig l) (k:Nat) (hk:k≤l.length) (hv:toN (l.take k)=toN l) (hl:k=0∨l.getD (k - 1) 0≠0):dg (toN l)=l.take k:=by
 rw [←hv]
 refine dg_toN (h.take k) ?_
 rcases hl with rfl | hl
 ·simp
 ·intro e
  by_cases h0:k=0
  ·subst h0;simp at e
  ·apply hl
   have h1:k - 1<l.length:=by omega
   have h2:=take_succ_getD l (k - 1) h1
   rw [Nat.sub_add_cancel (by omega)] at h2
   rw [h2,List.getLast?_concat] at e
   exact Option.some.inj e
theorem dg_one {n:Nat} (h0:n≠0) (h:n<B):dg n = [n]:=by
 rw [dg_pos h0,Nat.mod_eq_of_lt h,Nat.div_eq_of_lt h,dg_zero]
end Go.Proofs.YteckjifdpcbaeaaGreatDoor.R
namespace Go.Proofs.YteckjifdpcbaeaaGreatDoor.R
theorem getD_lt {l:List Nat} {k:Nat} (h:k<l.length):l.getD k 0=l[k]:=by
 rw [List.getD_eq_getElem?_getD,List.getElem?_eq_getElem h];rfl
theorem toN_set (l:List Nat) (k d:Nat) (h:k<l.length):toN (l.set k d)+B ^ k*l.getD k 0=toN l+B ^ k*d:=by
 induction l generalizing k with
 | nil=>simp at h
 | cons a r ih =>
  cases k with
  | zero=>simp [toN];omega
  | succ k =>
   have h1:=ih k (by simpa using h)
   simp only [List.set_cons_succ,toN,List.getD_cons_succ,Nat.pow_succ]
   have h2:B*toN (r.set k d)+B*(B ^ k*r.getD k 0)=B*toN r+B*(B ^ k*d):=by rw [←Nat.mul_add,←Nat.mul_add,h1]
   rw [Nat.mul_comm (B ^ k) B,Nat.mul_assoc,Nat.mul_assoc]
   omega
theorem Dig.set {l:List Nat} (h:Dig l) (k:Nat) {d:Nat} (hd:d<1000000):Dig (l.set k d):=fun x hx=>by
 rcases List.mem_or_eq_of_mem_set hx with hx | rfl
 ·exact h x hx
 ·exact hd
theorem getD_set_ne (l:List Nat) (k m d:Nat) (h:k≠m):(l.set k d).getD m 0=l.getD m 0:=by
 rw [List.getD_eq_getElem?_getD,List.getD_eq_getElem?_getD,List.getElem?_set_ne h]
theorem mul_bd {x y:Nat} (hx:x<1000000) (hy:y<1000000):x*y≤999998000001:=by
 have:=Nat.mul_le_mul (show x≤999999 by omega) (show y≤999999 by omega)
 omega
theorem mul_step {o:List Nat} {k x y c:Nat} (hk:k<o.length) (ho:Dig o) (hx:x<1000000) (hy:y<1000000) (hc:c<1000000) :
  let t:=o.getD k 0+x*y+c
  t / 1000000<1000000∧t % 1000000<1000000∧toN (o.set k (t % 1000000))+B ^ (k+1)*(t / 1000000)=toN o+B ^ k*(x*y+c):=by
 intro t
 have h1:=mul_bd hx hy
 have h2:=ho.getD k
 have h3:t<1000000*1000000:=by show o.getD k 0+x*y+c<_;omega
 refine ⟨by omega,by omega,?_⟩
 have h4:=toN_set o k (t % 1000000) hk
 have h5:B ^ k*t=B ^ k*(t % 1000000)+B ^ (k+1)*(t / 1000000):=by
  rw [Nat.pow_succ,Nat.mul_assoc,←Nat.mul_add,B_eq]
  congr 1
  omega
 have h6:B ^ k*t=B ^ k*o.getD k 0+B ^ k*(x*y+c):=by
  rw [←Nat.mul_add];congr 1;show o.getD k 0+x*y+c=_;omega
 omega
end Go.Proofs.YteckjifdpcbaeaaGreatDoor.R
