/- Parts of the proof of the text YtpkloolckbhdaaaGreatDoorQD31. -/
import Derived.RangeFuncNested
import Derived.RangeFuncBound
import Derived.RangeFuncCalls
import Derived.RangeFuncLeaves
import Derived.RangeFuncBox
import Derived.Shelf.Abstract
import Derived.OwnWalkIn
import Derived.TacticsInMore
import Derived.LoopNIn
import Derived.LoopIn
import Derived.RowKitTokens
import Derived.Lib.AtoiAllCases
import Derived.Lib.SmallJoins
import Derived.Test.YtpkloolckbhdaaaGreatDoorQD1
import Derived.Test.YtpkloolckbhdaaaGreatDoorQD16
import Derived.Test.YtpkloolckbhdaaaGreatDoorQD18
import Derived.Test.YtpkloolckbhdaaaGreatDoorQD3
set_option linter.all false
set_option maxRecDepth 100000
set_option maxHeartbeats 8000000
namespace Go.Proofs.YtpkloolckbhdaaaGreatDoor.T
open Go Go.RowKit Go.Shelf
variable {P : Program} {F : Fence} {n : Nat}
structure Kb (b : Nat) (A B : World) : Prop where
 size : A.heap.size ≤ B.heap.size
 same : ∀ k o, b ≤ k → A.heap[k]? = some o → o.isCells = true → B.heap[k]? = some o
theorem Kb.refl (b : Nat) (A : World) : Kb b A A := ⟨Nat.le_refl _, fun _ _ _ h _ => h⟩
theorem Kb.trans {b : Nat} {A B C : World} (h : Kb b A B) (k : Kb b B C) : Kb b A C := ⟨Nat.le_trans h.size k.size, fun i o hb hi hc => k.same i o hb (h.same i o hb hi hc) hc⟩
theorem Kb.put {b : Nat} {A : World} {l : Nat} {o o' : Obj} (hl : A.heap[l]? = some o) (ho : o.isCells = false) : Kb b A (A.putObj l o') :=
 ⟨by simp, fun k u _ hk hc => by
   have hne : k ≠ l := fun e => by rw [e, hl] at hk; cases hk; rw [ho] at hc; cases hc
   exact (World.putObj_heap_other hne).trans hk⟩
theorem Kb.of_below {b : Nat} {A B : World} (h : Below A.heap.size A B) : Kb b A B :=
 ⟨h.size, fun k o _ hk _ => (h.block k (Array.getElem?_eq_some_iff.1 hk).1).trans hk⟩
theorem Kb.cell_below {b : Nat} {A : World} {p : Addr} (hp : p.block < b) (v : Value) : Kb b A (A.setCell p v) :=
 ⟨by simp [World.setCell], fun k o hb hk _ => (Below.heap_setCell _ _ _ _ (by omega)).trans hk⟩
theorem grownB {a b : World} (h : Below a.heap.size a b) : a.grownBy b none := ⟨h.os, h.tape, h.output, h.size, fun k hk _ => h.block k hk⟩
theorem Kb.of_grown {b : Nat} {A B : World} (h : A.grownBy B none) : Kb b A B :=
 ⟨h.size, fun k o _ hk _ => (h.block k (Array.getElem?_eq_some_iff.1 hk).1 (fun e => by cases e)).trans hk⟩
theorem Kb.alloc (b : Nat) (A : World) (o : Obj) : Kb b A (A.alloc o) := Kb.of_below ((Below.refl _ A).alloc (Nat.le_refl _) o)
def Hands {α : Type} (F : Fence) (n : Nat) (P : Program) (g : Nat) (fs : Array Value) (encs : α → Array Value) (xs : List α) (w : World) : Prop :=
 ∀ (l : Nat) (J Jx : List α → World → Prop) (W : World), Below w.heap.size w W → (∀ s A o, J s A → J s (A.alloc o)) → (∀ s A, J s A → J s A.drew) →
   (∀ pre x r W1, xs = pre ++ x :: r → J pre W1 → YieldAt F (n - 1) P l (encs x) W1 fun e W' =>
     (e = .returned (.bool true) ∧ J (pre ++ [x]) W' ∧ (r ≠ [] → Kb w.heap.size W1 W')) ∨ (e = .returned (.bool false) ∧ Jx (pre ++ [x]) W')) →
   J [] W → CallsIn F n P g (fs ++ #[.func (.yield l) #[] #[]]) W fun e W' => (∃ v, e = .returned v) ∧ (J xs W' ∨ ∃ pre r, xs = pre ++ r ∧ Jx pre W')
theorem range_mv {α : Type} {g : Operand} {ps : Array Tmp} {assign body : Code} {Q : Exit → Act → World → Prop} {a : Act} {w : World}
   (hro : F.round = none) (h1 : 1 ≤ n) {gf : Nat} {fs : Array Value} (hg : a.eval g = .func (.func gf) fs #[]) (hFg : F.fn gf) (eg : ∀ args w, (callFunc gf args).run P w = .ok (.enter gf args) w)
   {encs : α → Array Value} {xs : List α} (hh : Hands F (n - 1) P gf fs encs xs w) (hps : ∀ x, (encs x).size = ps.size) (sc : Code) (hsc : sc = .ret ∨ ∃ id, sc = .exit id)
   (I Ix : List α → World → Prop) (hI : OwnFrom w.heap.size I) (hIx : OwnFrom w.heap.size Ix) (hId : ∀ s A, I s A → I s A.drew) (h0 : I [] w) (a₁ : α → Act)
   (hassign : ∀ (l : Nat) (x : α) (W : World) (K : Act → World → Prop), K (a₁ x) W →
     assign.wpIn (F.inRound l) (n - 1 - 1) P (Exit.then K (fun _ _ _ => False)) { tmps := (ps.zip (encs x)).foldl (fun t (p, v) => t.setIfInBounds p v) a.tmps, defers := [] } W)
   (hbody : ∀ (l : Nat) (pre : List α) (x : α) (r : List α) (W : World), w.heap.size ≤ W.heap.size → xs = pre ++ x :: r → I pre W →
     body.wpIn (F.inRound l) (n - 1 - 1) P (ownPostG w.heap.size (fun A B => r ≠ [] → Kb w.heap.size A B) I (fun c s W => c = sc ∧ Ix s W) (pre ++ [x]) W) (a₁ x) W)
   (hdone : ∀ (D : Nat) (W : World), w.heap.size ≤ D → I xs W → W.heap[D]? = some (.deferred (some [])) → Q .normal { a with defers := { target := .collected D, args := #[] } :: a.defers } W)
   (hstop : ∀ (D : Nat) (pre r : List α) (W : World), w.heap.size ≤ D → xs = pre ++ r → Ix pre W → W.heap[D]? = some (.deferred (some [])) → sc.wpIn F n P Q { a with defers := { target := .collected D, args := #[] } :: a.defers } W) :
   (Code.rangeFunc g ps assign body).wpIn F n P Q a w := by
 refine wpIn_rangeFunc fun fn hfn => ?_
 rw [hro]
 let R : LoopState → Option Code → Obj := fun s p => .loop { state := s, pending := p, fn := fn, tmps := a.tmps, params := ps, assign := assign, body := body, defers := w.heap.size }
 have nc : ∀ s p, (R s p).isCells = false := fun _ _ => rfl
 let W1 := (w.alloc (.deferred (some []))).alloc (R .ready none)
 have z1 : W1.heap.size = w.heap.size + 2 := by simp [W1]
 let own : LoopState → Option Code → World → Prop := fun s p W => W.heap[w.heap.size + 1]? = some (R s p) ∧ W.heap[w.heap.size]? = some (.deferred (some []))
 have own_lt : ∀ {s p W}, own s p W → w.heap.size + 1 < W.heap.size := fun h => (Array.getElem?_eq_some_iff.1 h.1).1
 have own_put : ∀ {s p W} (s' : LoopState) (p' : Option Code), own s p W → own s' p' (W.putObj (w.heap.size + 1) (R s' p')) := fun s' p' h =>
   ⟨World.putObj_heap_same (own_lt h), (World.putObj_heap_other (by omega)).trans h.2⟩
 have own_alloc : ∀ {s p W} (o : Obj), own s p W → own s p (W.alloc o) := fun o h =>
   ⟨(Below.heap_alloc _ o _ (own_lt h)).trans h.1, (Below.heap_alloc _ o _ (by have := own_lt h; omega)).trans h.2⟩
 have own_keeps : ∀ {s p W W'}, KeepsFrom w.heap.size W W' → own s p W → own s p W' := fun hk h => ⟨hk.same _ _ (by omega) h.1 rfl, hk.same _ _ (Nat.le_refl _) h.2 rfl⟩
 have own1 : own .ready none W1 := by
   refine ⟨?_, ?_⟩
   · have := World.alloc_heap_new (w.alloc (.deferred (some []))) (R .ready none)
     rwa [World.size_alloc] at this
   · exact (Below.heap_alloc _ _ _ (by simp)).trans (World.alloc_heap_new w _)
 refine ⟨w.heap.size + 1, [{ target := .collected w.heap.size, args := #[] }], W1, { target := .fn (.func gf) #[], args := fs ++ #[.func (.yield (w.heap.size + 1)) #[] #[]] }, W1, gf,
   fs ++ #[.func (.yield (w.heap.size + 1)) #[] #[]], W1, run_enterLoop_outer _ _ _ _ _, ?_, ?_, ?_, fun _ => h1, ?_⟩
 · simp only [resolve, hg]
   simp [go_sem]
 · intro f' hf'
   simp [Target.leads] at hf'
   subst hf'; exact hFg
 · simp [invoke, go_sem, eg]
 have run : CallsIn F (n - 1) P gf (fs ++ #[.func (.yield (w.heap.size + 1)) #[] #[]]) W1 fun e W' => (∃ v, e = .returned v) ∧
     ((I xs W' ∧ own .ready none W') ∨ ∃ pre r, xs = pre ++ r ∧ (Ix pre W' ∧ own .done (some sc) W')) := by
   refine hh (w.heap.size + 1) (fun s W => I s W ∧ own .ready none W) (fun s W => Ix s W ∧ own .done (some sc) W) W1 ((((Below.refl _ w).alloc (Nat.le_refl _) _).alloc (by simp) _))
     (fun s A o h => ⟨hI.alloc o h.1, own_alloc o h.2⟩) (fun s A h => ⟨hId s A h.1, h.2⟩) ?_ ⟨hI.alloc _ (hI.alloc _ h0), own1⟩
   rintro pre x r W hx ⟨hi, ho⟩
   have lt := own_lt ho
   refine ⟨fn, _, assign, body, run_yield (P := P) (args := encs x) ho.1 (hps x), roundIn_of_wpIn hfn (hassign _ x W _ ?_)⟩
   refine ⟨_, run_beginRound ho.1 rfl, ?_⟩
   have hb := own_put .busy none ho
   have k1 : Kb w.heap.size W (W.putObj (w.heap.size + 1) (R .busy none)) := Kb.put ho.1 rfl
   refine wpIn_mono (hbody _ pre x r (W.putObj (w.heap.size + 1) (R .busy none)) (by have := own_lt hb; omega) hx (hI.putObj _ hi (by omega) ho.1 rfl)) ?_
   intro e a3 W3 hp
   cases e with
   | normal =>
     obtain ⟨h3, h4, h5⟩ := hp
     have ho3 := own_keeps h3 hb
     exact ⟨_, _, run_endRound none ho3.1, .inl ⟨rfl, ⟨hI.putObj _ h5 (by omega) ho3.1 rfl, own_put .ready none ho3⟩, fun hr => k1.trans ((h4 hr).trans (Kb.put ho3.1 rfl))⟩⟩
   | ret =>
     obtain ⟨h3, h4, h5⟩ := hp
     subst h4
     have ho3 := own_keeps h3 hb
     exact ⟨_, _, run_endRound (some .ret) ho3.1, .inr ⟨rfl, hIx.putObj _ h5 (by omega) ho3.1 rfl, own_put .done (some .ret) ho3⟩⟩
   | exit id =>
     obtain ⟨h3, h4, h5⟩ := hp
     subst h4
     have ho3 := own_keeps h3 hb
     exact ⟨_, _, run_endRound (some (.exit id)) ho3.1, .inr ⟨rfl, hIx.putObj _ h5 (by omega) ho3.1 rfl, own_put .done (some (.exit id)) ho3⟩⟩
   | goto t =>
     obtain ⟨_, h4, _⟩ := hp
     rcases hsc with rfl | ⟨id, rfl⟩ <;> cases h4
   | panic ch => exact hp.elim
   | outgrown => exact hp.elim
 refine run.mono ?_
 rintro e W2 ⟨⟨v, rfl⟩, (⟨hi, ho⟩ | ⟨pre, r, hx, hi, ho⟩)⟩
 · exact ⟨none, _, run_endLoop ho.1 (by simp), hdone _ _ (Nat.le_refl _) (hI.putObj _ hi (by omega) ho.1 rfl) ((World.putObj_heap_other (by omega)).trans ho.2)⟩
 · exact ⟨some sc, _, run_endLoop ho.1 (by simp), hstop _ pre r _ (Nat.le_refl _) hx (hIx.putObj _ hi (by omega) ho.1 rfl) ((World.putObj_heap_other (by omega)).trans ho.2)⟩
end Go.Proofs.YtpkloolckbhdaaaGreatDoor.T
namespace Go.Proofs.YtpkloolckbhdaaaGreatDoor.T
open Go.Proofs.YtpkloolckbhdaaaGreatDoor
def strip (p n : Nat) : Nat × Nat :=
 if _h : 2 ≤ p ∧ 0 < n ∧ n % (p * p) = 0 then (p * (strip p (n / (p * p))).1, (strip p (n / (p * p))).2) else (1, n)
termination_by n
decreasing_by all_goals exact Nat.div_lt_self _h.2.1 (Nat.lt_of_lt_of_le (by decide : 1 < 2 * 2) (Nat.mul_le_mul _h.1 _h.1))
theorem strip_yes {p n : Nat} (hp : 2 ≤ p) (hn : 0 < n) (h : n % (p * p) = 0) : strip p n = (p * (strip p (n / (p * p))).1, (strip p (n / (p * p))).2) := by
 rw [strip, dif_pos ⟨hp, hn, h⟩]
theorem strip_no {p n : Nat} (h : n % (p * p) ≠ 0) : strip p n = (1, n) := by
 rw [strip, dif_neg (fun q => h q.2.2)]
theorem pp_pos {p : Nat} (hp : 2 ≤ p) : 1 < p * p := Nat.lt_of_lt_of_le (by decide : 1 < 2 * 2) (Nat.mul_le_mul hp hp)
theorem strip_ind {p : Nat} (hp : 2 ≤ p) {C : Nat → Prop} (no : ∀ n, 0 < n → n % (p * p) ≠ 0 → C n) (yes : ∀ n, 0 < n → C n → C (p * p * n)) :
   ∀ n, 0 < n → C n := by
 intro n
 induction n using Nat.strongRecOn with
 | _ n ih =>
   intro hn
   rcases Nat.decEq (n % (p * p)) 0 with h | h
   · exact no n hn h
   · have e : n = p * p * (n / (p * p)) := by have := Nat.div_add_mod n (p * p); omega
     have q : 0 < n / (p * p) := Nat.pos_of_ne_zero fun z => by rw [z] at e; omega
     rw [e]; exact yes _ q (ih _ (Nat.div_lt_self hn (pp_pos hp)) q)
theorem strip_mulp {p n : Nat} (hp : 2 ≤ p) (hn : 0 < n) : strip p (p * p * n) = (p * (strip p n).1, (strip p n).2) := by
 have q := pp_pos hp
 rw [strip_yes hp (Nat.mul_pos (by omega) hn) (Nat.mul_mod_right _ _), Nat.mul_div_cancel_left _ (by omega)]
theorem strip_spec {p n : Nat} (hp : 2 ≤ p) (hn : 0 < n) : n = (strip p n).1 * (strip p n).1 * (strip p n).2 ∧ 0 < (strip p n).1 ∧ 0 < (strip p n).2 ∧ ¬ p * p ∣ (strip p n).2 := by
 refine strip_ind hp (C := fun n => n = (strip p n).1 * (strip p n).1 * (strip p n).2 ∧ 0 < (strip p n).1 ∧ 0 < (strip p n).2 ∧ ¬ p * p ∣ (strip p n).2) ?_ ?_ n hn
 · intro n hn h
   rw [strip_no h]
   exact ⟨by simp, Nat.one_pos, hn, fun d => h (Nat.mod_eq_zero_of_dvd d)⟩
 · rintro n hn ⟨h1, h2, h3, h4⟩
   rw [strip_mulp hp hn]
   refine ⟨?_, Nat.mul_pos (by omega) h2, h3, h4⟩
   show p * p * n = p * (strip p n).1 * (p * (strip p n).1) * (strip p n).2
   rw [Nat.mul_mul_mul_comm, Nat.mul_assoc (p * p), ← h1]
theorem strip_small {p n : Nat} (hn : 0 < n) (h : n < p * p) : strip p n = (1, n) := strip_no (by rw [Nat.mod_eq_of_lt h]; omega)
def strips : List Nat → Nat → Nat × Nat
 | [], n => (1, n)
 | p :: l, n => ((strip p n).1 * (strips l (strip p n).2).1, (strips l (strip p n).2).2)
theorem strips_spec : ∀ (l : List Nat) (_ : ∀ p ∈ l, 2 ≤ p) {n : Nat} (_ : 0 < n), n = (strips l n).1 * (strips l n).1 * (strips l n).2 ∧ 0 < (strips l n).1 ∧ 0 < (strips l n).2 ∧ (strips l n).2 ∣ n ∧ ∀ p ∈ l, ¬ p * p ∣ (strips l n).2
 | [], _, n, hn => ⟨by simp [strips], Nat.one_pos, hn, Nat.dvd_refl _, by simp⟩
 | p :: l, hl, n, hn => by
   obtain ⟨a1, a2, a3, a4⟩ := strip_spec (hl p (by simp)) hn
   obtain ⟨b1, b2, b3, b4, b5⟩ := strips_spec l (fun q hq => hl q (by simp [hq])) a3
   simp only [strips]
   generalize (strip p n).1 = k at *
   generalize (strip p n).2 = m at *
   generalize (strips l m).1 = k' at *
   generalize (strips l m).2 = m' at *
   refine ⟨?_, Nat.mul_pos a2 b2, b3, ?_, ?_⟩
   · rw [a1, b1, Nat.mul_mul_mul_comm k k' k k', Nat.mul_assoc (k * k) (k' * k') m']
   · rw [a1]; exact Nat.dvd_trans b4 (Nat.dvd_mul_left _ _)
   · intro q hq
     rcases List.mem_cons.1 hq with rfl | hq
     · exact fun d => a4 (Nat.dvd_trans d b4)
     · exact b5 q hq
theorem strips_small {v : Nat} (hv : 0 < v) : ∀ (l : List Nat) (_ : ∀ p ∈ l, v < p * p), strips l v = (1, v)
 | [], _ => rfl
 | p :: l, hl => by
   simp only [strips]; rw [strip_small hv (hl p (by simp))]
   simp only [strips_small hv l (fun q hq => hl q (by simp [hq]))]
def Pr (p : Nat) : Prop := 2 ≤ p ∧ ∀ d, d ∣ p → d = 1 ∨ d = p
theorem Pr.gcd {p : Nat} (h : Pr p) (x : Nat) : p ∣ x ∨ Nat.Coprime p x := by
 rcases h.2 _ (Nat.gcd_dvd_left p x) with e | e
 · exact .inr e
 · exact .inl (e ▸ Nat.gcd_dvd_right p x)
theorem Pr.sq {p x y : Nat} (h : Pr p) (c : Nat.Coprime x y) (d : p * p ∣ x * y) : p * p ∣ x ∨ p * p ∣ y := by
 rcases h.gcd y with e | e
 · rcases h.gcd x with f | f
   · exact absurd (Nat.dvd_gcd f e) (by
       rw [show Nat.gcd x y = 1 from c]; intro q; have := Nat.le_of_dvd Nat.one_pos q; have := h.1; omega)
   · exact .inr ((f.mul_left f).dvd_of_dvd_mul_left d)
 · exact .inl ((e.mul_left e).dvd_of_dvd_mul_right d)
theorem strip_cop {p : Nat} (hp : Pr p) : ∀ (n x y : Nat), n = x * y → 0 < x → 0 < y → Nat.Coprime x y →
   strip p (x * y) = ((strip p x).1 * (strip p y).1, (strip p x).2 * (strip p y).2) := by
 have q := pp_pos hp.1
 intro n
 induction n using Nat.strongRecOn with
 | _ n ih =>
   intro x y hn hx hy c
   rcases Nat.decEq ((x * y) % (p * p)) 0 with h | h
   · have h1 : x % (p * p) ≠ 0 := fun z => h (Nat.mod_eq_zero_of_dvd (Nat.dvd_trans (Nat.dvd_of_mod_eq_zero z) (Nat.dvd_mul_right _ _)))
     have h2 : y % (p * p) ≠ 0 := fun z => h (Nat.mod_eq_zero_of_dvd (Nat.dvd_trans (Nat.dvd_of_mod_eq_zero z) (Nat.dvd_mul_left _ _)))
     rw [strip_no h, strip_no h1, strip_no h2, Nat.mul_one]
   · rcases hp.sq c (Nat.dvd_of_mod_eq_zero h) with ⟨x', rfl⟩ | ⟨y', rfl⟩
     · have hx' : 0 < x' := Nat.pos_of_ne_zero fun z => by subst z; omega
       have hl : x' * y < n := by
         rw [hn, Nat.mul_assoc]; exact (Nat.lt_mul_iff_one_lt_left (Nat.mul_pos hx' hy)).2 q
       have := ih _ hl x' y rfl hx' hy (Nat.Coprime.coprime_dvd_left (Nat.dvd_mul_left _ _) c)
       rw [Nat.mul_assoc, strip_mulp hp.1 (Nat.mul_pos hx' hy), strip_mulp hp.1 hx', this]
       simp only [Nat.mul_assoc]
     · have hy' : 0 < y' := Nat.pos_of_ne_zero fun z => by subst z; omega
       have hl : x * y' < n := by
         rw [hn, Nat.mul_left_comm]; exact (Nat.lt_mul_iff_one_lt_left (Nat.mul_pos hx hy')).2 q
       have := ih _ hl x y' rfl hx hy' (Nat.Coprime.coprime_dvd_right (Nat.dvd_mul_left _ _) c)
       rw [Nat.mul_left_comm, strip_mulp hp.1 (Nat.mul_pos hx hy'), strip_mulp hp.1 hy', this]
       simp only [Nat.mul_left_comm]
theorem strips_cop : ∀ (l : List Nat) (_ : ∀ p ∈ l, Pr p) (x y : Nat), 0 < x → 0 < y → Nat.Coprime x y →
   strips l (x * y) = ((strips l x).1 * (strips l y).1, (strips l x).2 * (strips l y).2)
 | [], _, x, y, _, _, _ => by simp [strips]
 | p :: l, hl, x, y, hx, hy, c => by
   have hp := hl p (by simp)
   obtain ⟨a1, a2, a3, _⟩ := strip_spec hp.1 hx
   obtain ⟨b1, b2, b3, _⟩ := strip_spec hp.1 hy
   have c' : Nat.Coprime (strip p x).2 (strip p y).2 :=
     Nat.Coprime.coprime_dvd_left (k := x) ⟨_, a1.trans (Nat.mul_comm _ _)⟩ (Nat.Coprime.coprime_dvd_right (m := y) ⟨_, b1.trans (Nat.mul_comm _ _)⟩ c)
   simp only [strips]
   rw [strip_cop hp _ x y rfl hx hy c]
   simp only
   rw [strips_cop l (fun q hq => hl q (by simp [hq])) _ _ a3 b3 c']
   simp only [Nat.mul_assoc, Nat.mul_left_comm]
def Sqr (n : Nat) : Prop := ∃ r, r * r = n
theorem Sqr.mul {x y : Nat} (h : Sqr x) (k : Sqr y) : Sqr (x * y) := by
 obtain ⟨r, rfl⟩ := h; obtain ⟨s, rfl⟩ := k; exact ⟨r * s, Nat.mul_mul_mul_comm _ _ _ _⟩
theorem Sqr.left {x y : Nat} (h : Sqr (x * y)) (c : Nat.Coprime x y) : Sqr x := by
 obtain ⟨r, hr⟩ := h
 refine ⟨Nat.gcd r x, ?_⟩
 have := (Nat.pow_gcd_pow (k := 2) (n := r) (m := x))
 rw [Nat.pow_two, Nat.pow_two, Nat.pow_two] at this
 rw [← this, hr, Nat.gcd_mul_left, Nat.gcd_comm, show Nat.gcd x y = 1 from c, Nat.mul_one]
theorem Sqr.right {x y : Nat} (h : Sqr (x * y)) (c : Nat.Coprime x y) : Sqr y := Sqr.left (Nat.mul_comm x y ▸ h) c.symm
def primes : List Nat := [2, 3, 5, 7, 11, 13, 17, 19, 23, 29, 31, 37, 41, 43, 47, 53, 59, 61, 67, 71, 73, 79, 83, 89, 97]
theorem pr_of {p : Nat} (h2 : 2 ≤ p) (h : ∀ d, d < p + 1 → d ∣ p → d = 1 ∨ d = p) : Pr p :=
 ⟨h2, fun d hd => h d (Nat.lt_succ_of_le (Nat.le_of_dvd (by omega) hd)) hd⟩
theorem primes_pr : ∀ p ∈ primes, Pr p := by
 intro p hp
 refine pr_of ?_ ?_
 · revert p; decide +kernel
 · revert p; decide +kernel
theorem primes_2 : ∀ p ∈ primes, 2 ≤ p := fun p hp => (primes_pr p hp).1
def RQ (q : Rat) (r : Nat) : Prop := ((r * r : Nat) : Rat) ≤ q ∧ q < (((r + 1) * (r + 1) : Nat) : Rat)
theorem nat_div_lt {n d x : Nat} (hd : 0 < d) : mkRat n d < (x : Rat) ↔ n < x * d := by
 have h : (0 : Rat) < (d : Rat) := by have := Rat.natCast_lt_natCast (a := 0) (b := d); exact this.2 hd
 rw [Rat.mkRat_eq_div, Rat.intCast_natCast, Rat.div_lt_iff h, ← Rat.natCast_mul, Rat.natCast_lt_natCast]
theorem le_nat_div {n d x : Nat} (hd : 0 < d) : (x : Rat) ≤ mkRat n d ↔ x * d ≤ n := by
 rw [← Rat.not_lt, nat_div_lt hd, Nat.not_lt]
theorem RQ.div {n d r : Nat} (hd : 0 < d) (h : IsRoot (n / d) r) : RQ (mkRat n d) r :=
 ⟨(le_nat_div hd).2 ((Nat.le_div_iff_mul_le hd).1 h.1), (nat_div_lt hd).2 ((Nat.div_lt_iff_lt_mul hd).1 h.2)⟩
theorem norm_no {n d : Nat} (hn : 0 < n) (hd : 0 < d) (c : Nat.Coprime n d) (l : List Nat) (hl : ∀ p ∈ l, Pr p) :
   mkRat ((strips l (n * d)).1 : Nat) d = mkRat ((strips l n).1 : Nat) ((strips l d).1 * (strips l d).2) ∧
   (strips l (n * d)).2 = (strips l n).2 * (strips l d).2 ∧ Nat.Coprime (strips l n).1 ((strips l d).1 * (strips l d).2) ∧ 0 < (strips l d).1 * (strips l d).2 := by
 obtain ⟨a1, a2, a3, a4, _⟩ := strips_spec l (fun p h => (hl p h).1) hn
 obtain ⟨b1, b2, b3, b4, _⟩ := strips_spec l (fun p h => (hl p h).1) hd
 have e := strips_cop l hl n d hn hd c
 generalize strips l (n * d) = s at *
 subst e
 generalize (strips l n).1 = a at *
 generalize (strips l n).2 = m at *
 generalize (strips l d).1 = b at *
 generalize (strips l d).2 = k at *
 have hbk : 0 < b * k := Nat.mul_pos b2 b3
 refine ⟨?_, rfl, ?_, hbk⟩
 · refine (Rat.mkRat_eq_iff (Nat.ne_of_gt hd) (Nat.ne_of_gt hbk)).2 ?_
   rw [← Int.natCast_mul, ← Int.natCast_mul]
   congr 1
   show a * b * (b * k) = a * d
   rw [b1]; simp only [Nat.mul_assoc]
 · refine Nat.Coprime.coprime_dvd_left (k := n) ?_ (Nat.Coprime.coprime_dvd_right (m := d) ?_ c)
   · rw [a1, Nat.mul_assoc]; exact Nat.dvd_mul_right _ _
   · rw [b1, Nat.mul_assoc]; exact Nat.dvd_mul_left _ _
end Go.Proofs.YtpkloolckbhdaaaGreatDoor.T
namespace Go.Proofs.YtpkloolckbhdaaaGreatDoor.T
open Go.Proofs.YtpkloolckbhdaaaGreatDoor Go Go.RowKit Go.Shelf
def A25 : Array Value := #[.int .u64 2, .int .u64 3, .int .u64 5, .int .u64 7, .int .u64 11, .int .u64 13, .int .u64 17, .int .u64 19, .int .u64 23, .int .u64 29, .int .u64 31, .int .u64 37, .int .u64 41, .int .u64 43, .int .u64 47, .int .u64 53, .int .u64 59, .int .u64 61, .int .u64 67, .int .u64 71, .int .u64 73, .int .u64 79, .int .u64 83, .int .u64 89, .int .u64 97]
def Sm (w : World) : Prop := ∃ t fr, w.heap[2]? = some (.cells A25 t fr)
theorem Sm.next {w W : World} (h : Sm w) (b : Below w.heap.size w W) : Sm W := by
 obtain ⟨t, fr, h⟩ := h
 exact ⟨t, fr, (b.block _ (Array.getElem?_eq_some_iff.1 h).1).trans h⟩
theorem wpListIn_load_row {F : Fence} {n : Nat} {P : Program} {w : World} {ops : Array Oper} {rest : List Oper} {o : Oper} {a : Act} {Q : Exit → Act → World → Prop} (hgd : o.guard = none) (ty : TypeId) (x : Operand) (ho : o.op = .load ty x)
   (v : Value) (hx : (Instr.loadAt ty (a.eval x)).run P w = .ok v w) (h : wpListIn F n P ops Q rest (a.put o.dst v) w) : wpListIn F n P ops Q (o :: rest) a w := by
 refine wpListIn_plain hgd fun K hK => ?_
 unfold Oper.wpIn
 refine ⟨by simp [Oper.about, ho], ?_⟩
 rw [Oper.semAt_plain F _ _ (by rw [ho]; intro c hc'; cases hc')]
 simp [execOp, ho, hx, Result.andThen]
 exact hK _ _ h
theorem load25 {W : World} (h : Sm W) : (Instr.loadAt 253 (.pointer (some ⟨2, 0, none⟩))).run Tryz.prog W = .ok (.agg A25) W := by
 obtain ⟨t, fr, h⟩ := h
 simp only [Instr.loadAt, Instr.sureAddr, Sem.run_bind, Sem.run_pure, Result.andThen_ok]
 exact run_loadVar_row W _ t 253 A25 fr _ h Tryz.underlying253 rfl (by kernel_rfl)
theorem idx_0 (W : World) : (Instr.index 253 (.agg A25) (.int .i64 0)).run Tryz.prog W = .ok (.int .u64 2) W := by kernel_rfl
theorem idx_1 (W : World) : (Instr.index 253 (.agg A25) (.int .i64 1)).run Tryz.prog W = .ok (.int .u64 3) W := by kernel_rfl
theorem idx_2 (W : World) : (Instr.index 253 (.agg A25) (.int .i64 2)).run Tryz.prog W = .ok (.int .u64 5) W := by kernel_rfl
theorem idx_3 (W : World) : (Instr.index 253 (.agg A25) (.int .i64 3)).run Tryz.prog W = .ok (.int .u64 7) W := by kernel_rfl
theorem idx_4 (W : World) : (Instr.index 253 (.agg A25) (.int .i64 4)).run Tryz.prog W = .ok (.int .u64 11) W := by kernel_rfl
theorem idx_5 (W : World) : (Instr.index 253 (.agg A25) (.int .i64 5)).run Tryz.prog W = .ok (.int .u64 13) W := by kernel_rfl
theorem idx_6 (W : World) : (Instr.index 253 (.agg A25) (.int .i64 6)).run Tryz.prog W = .ok (.int .u64 17) W := by kernel_rfl
theorem idx_7 (W : World) : (Instr.index 253 (.agg A25) (.int .i64 7)).run Tryz.prog W = .ok (.int .u64 19) W := by kernel_rfl
theorem idx_8 (W : World) : (Instr.index 253 (.agg A25) (.int .i64 8)).run Tryz.prog W = .ok (.int .u64 23) W := by kernel_rfl
theorem idx_9 (W : World) : (Instr.index 253 (.agg A25) (.int .i64 9)).run Tryz.prog W = .ok (.int .u64 29) W := by kernel_rfl
theorem idx_10 (W : World) : (Instr.index 253 (.agg A25) (.int .i64 10)).run Tryz.prog W = .ok (.int .u64 31) W := by kernel_rfl
theorem idx_11 (W : World) : (Instr.index 253 (.agg A25) (.int .i64 11)).run Tryz.prog W = .ok (.int .u64 37) W := by kernel_rfl
theorem idx_12 (W : World) : (Instr.index 253 (.agg A25) (.int .i64 12)).run Tryz.prog W = .ok (.int .u64 41) W := by kernel_rfl
theorem idx_13 (W : World) : (Instr.index 253 (.agg A25) (.int .i64 13)).run Tryz.prog W = .ok (.int .u64 43) W := by kernel_rfl
theorem idx_14 (W : World) : (Instr.index 253 (.agg A25) (.int .i64 14)).run Tryz.prog W = .ok (.int .u64 47) W := by kernel_rfl
theorem idx_15 (W : World) : (Instr.index 253 (.agg A25) (.int .i64 15)).run Tryz.prog W = .ok (.int .u64 53) W := by kernel_rfl
theorem idx_16 (W : World) : (Instr.index 253 (.agg A25) (.int .i64 16)).run Tryz.prog W = .ok (.int .u64 59) W := by kernel_rfl
theorem idx_17 (W : World) : (Instr.index 253 (.agg A25) (.int .i64 17)).run Tryz.prog W = .ok (.int .u64 61) W := by kernel_rfl
theorem idx_18 (W : World) : (Instr.index 253 (.agg A25) (.int .i64 18)).run Tryz.prog W = .ok (.int .u64 67) W := by kernel_rfl
theorem idx_19 (W : World) : (Instr.index 253 (.agg A25) (.int .i64 19)).run Tryz.prog W = .ok (.int .u64 71) W := by kernel_rfl
theorem idx_20 (W : World) : (Instr.index 253 (.agg A25) (.int .i64 20)).run Tryz.prog W = .ok (.int .u64 73) W := by kernel_rfl
theorem idx_21 (W : World) : (Instr.index 253 (.agg A25) (.int .i64 21)).run Tryz.prog W = .ok (.int .u64 79) W := by kernel_rfl
theorem idx_22 (W : World) : (Instr.index 253 (.agg A25) (.int .i64 22)).run Tryz.prog W = .ok (.int .u64 83) W := by kernel_rfl
theorem idx_23 (W : World) : (Instr.index 253 (.agg A25) (.int .i64 23)).run Tryz.prog W = .ok (.int .u64 89) W := by kernel_rfl
theorem idx_24 (W : World) : (Instr.index 253 (.agg A25) (.int .i64 24)).run Tryz.prog W = .ok (.int .u64 97) W := by kernel_rfl
theorem idx25 (k x : Nat) (h : primes[k]? = some x) (W : World) :
   (Instr.index 253 (.agg A25) (.int .i64 (k : Int))).run Tryz.prog W = .ok (.int .u64 (x : Int)) W := by
 have hk : k < 25 := (List.getElem?_eq_some_iff.1 h).1
 match k, h, hk with
 | 0, h, _ => obtain rfl := Option.some.inj (show some 2 = some x from h); exact idx_0 W
 | 1, h, _ => obtain rfl := Option.some.inj (show some 3 = some x from h); exact idx_1 W
 | 2, h, _ => obtain rfl := Option.some.inj (show some 5 = some x from h); exact idx_2 W
 | 3, h, _ => obtain rfl := Option.some.inj (show some 7 = some x from h); exact idx_3 W
 | 4, h, _ => obtain rfl := Option.some.inj (show some 11 = some x from h); exact idx_4 W
 | 5, h, _ => obtain rfl := Option.some.inj (show some 13 = some x from h); exact idx_5 W
 | 6, h, _ => obtain rfl := Option.some.inj (show some 17 = some x from h); exact idx_6 W
 | 7, h, _ => obtain rfl := Option.some.inj (show some 19 = some x from h); exact idx_7 W
 | 8, h, _ => obtain rfl := Option.some.inj (show some 23 = some x from h); exact idx_8 W
 | 9, h, _ => obtain rfl := Option.some.inj (show some 29 = some x from h); exact idx_9 W
 | 10, h, _ => obtain rfl := Option.some.inj (show some 31 = some x from h); exact idx_10 W
 | 11, h, _ => obtain rfl := Option.some.inj (show some 37 = some x from h); exact idx_11 W
 | 12, h, _ => obtain rfl := Option.some.inj (show some 41 = some x from h); exact idx_12 W
 | 13, h, _ => obtain rfl := Option.some.inj (show some 43 = some x from h); exact idx_13 W
 | 14, h, _ => obtain rfl := Option.some.inj (show some 47 = some x from h); exact idx_14 W
 | 15, h, _ => obtain rfl := Option.some.inj (show some 53 = some x from h); exact idx_15 W
 | 16, h, _ => obtain rfl := Option.some.inj (show some 59 = some x from h); exact idx_16 W
 | 17, h, _ => obtain rfl := Option.some.inj (show some 61 = some x from h); exact idx_17 W
 | 18, h, _ => obtain rfl := Option.some.inj (show some 67 = some x from h); exact idx_18 W
 | 19, h, _ => obtain rfl := Option.some.inj (show some 71 = some x from h); exact idx_19 W
 | 20, h, _ => obtain rfl := Option.some.inj (show some 73 = some x from h); exact idx_20 W
 | 21, h, _ => obtain rfl := Option.some.inj (show some 79 = some x from h); exact idx_21 W
 | 22, h, _ => obtain rfl := Option.some.inj (show some 83 = some x from h); exact idx_22 W
 | 23, h, _ => obtain rfl := Option.some.inj (show some 89 = some x from h); exact idx_23 W
 | 24, h, _ => obtain rfl := Option.some.inj (show some 97 = some x from h); exact idx_24 W
theorem split_at {k x : Nat} (h : primes[k]? = some x) : primes = primes.take k ++ x :: primes.drop (k + 1) ∧ primes.take (k + 1) = primes.take k ++ [x] := by
 obtain ⟨hk, e⟩ := List.getElem?_eq_some_iff.1 h
 refine ⟨?_, ?_⟩
 · rw [← e, List.getElem_cons_drop]; exact (List.take_append_drop k primes).symm
 · rw [List.take_succ_eq_append_getElem hk, e]
theorem pr_small {x : Nat} (h : x ∈ primes) : 2 ≤ x ∧ x ≤ 97 := by
 revert x; decide
theorem sq_small {x : Nat} (h : x ∈ primes) : x * x ≤ 9409 := by
 have := (pr_small h).2
 exact Nat.mul_le_mul this this
section
attribute [local go_sem] Oper.semAt_some
theorem primes_hands (n : Nat) (w : World) (hn : 1 ≤ n) (hS : Sm w) :
   Hands Fence.wide n Tryz.prog 158 #[] (fun p : Nat => #[Value.int .u64 (p : Int), Value.int .u64 ((p : Int) * (p : Int))]) primes w := by
 intro l J Jx W hb hJa hJd hY h0
 have hSW := hS.next hb
 have hload := load25 hSW
 have HI := Lib.hid idx25
 have HY := Lib.hid hY
 have H0 := Lib.hid h0
 clear hY h0 hSW hS hb hJa hJd
 refine callsIn_of_wp Tryz.func158 rfl trivial ?_ rfl
 simp only [Tryz.ntmps158, List.size_toArray, List.length_cons, List.length_nil, Nat.reduceAdd, Nat.reduceSub, Array.replicate_succ, Array.replicate_zero, List.push_toArray, List.append_toArray, List.nil_append, List.cons_append]
 gi_wp2_with (refine wpListIn_load_row rfl 253 _ rfl _ hload ?_)
 clear hload
 generalize A25 = A at *
 gi_loopw [5] (fun i wr => ∃ k : Nat, k ≤ 25 ∧ i = .int .i64 k ∧ Hid (J (primes.take k) wr)) (fun i _ => 25 - (RowKit.intOf i).toNat)
 case atStart => exact ⟨0, by omega, rfl, H0⟩
 case round =>
   clear H0
   obtain ⟨k, hk, rfl, hJs⟩ := hrel
   by_cases hlt : k < 25
   · obtain ⟨x, hx⟩ : ∃ x, primes[k]? = some x := ⟨_, List.getElem?_eq_getElem hlt⟩
     have hidx := HI.out k x hx
     have hmem : x ∈ primes := List.mem_of_getElem? hx
     obtain ⟨s1, s2⟩ := split_at hx
     obtain ⟨fn, tmps, assign, body, hy, hR⟩ := HY.out (primes.take k) x (primes.drop (k + 1)) wr s1 hJs.out
     have hmul : IntKind.u64.wrap ((x : Int) * (x : Int)) = (x : Int) * (x : Int) := by
       rw [IntKind.wrap_u64]
       have h1 := sq_small hmem
       have h2 : ((x * x : Nat) : Int) = (x : Int) * (x : Int) := Int.natCast_mul x x
       omega
     have HR := Lib.hid hR; clear hR
     have HS := Lib.hid s2; clear s1 s2 hx hmem
     try dsimp only at hy
     generalize (x : Int) = z at *
     gi_wp2
     refine HR.out.mono ?_
     clear HR
     rintro e W3 (⟨rfl, hJ3, hk3⟩ | ⟨rfl, hJx3⟩)
     · have HJ := Lib.hid hJ3; clear hJ3 hk3
       gi_wp2
       go_roundw
       case rel => exact ⟨k + 1, by omega, by simp, by show J _ _; rw [HS.out]; exact HJ.out⟩
       case measure => simp [RowKit.intOf]; omega
     · have HJ := Lib.hid hJx3; clear hJx3
       gi_wp2
       refine bodyPost_ret (results_none rfl _ _ _) rfl ?_
       exact ⟨⟨_, rfl⟩, .inr ⟨_, primes.drop (k + 1), by rw [← HS.out, List.take_append_drop], HJ.out⟩⟩
   · have hx : Hid (primes.take k = primes) := Lib.hid (List.take_of_length_le (by show 25 ≤ k; omega))
     gi_wp2
     go_end0
     exact ⟨⟨_, rfl⟩, .inl (by have := hJs.out; rwa [hx.out] at this)⟩
end
end Go.Proofs.YtpkloolckbhdaaaGreatDoor.T
namespace Go.Proofs.YtpkloolckbhdaaaGreatDoor
open Go.ChangeShapes Go.WideShapes Go.ChangeAt Go.RowKit
def laid6 : List (String × DataW Unit) := [("math/bits.deBruijn32tab", Rows.laid_math_bits_deBruijn32tab), ("math/bits.deBruijn64tab", Rows.laid_math_bits_deBruijn64tab), ("internal/strconv.uint64pow10", Rows.laid_internal_strconv_uint64pow10), ("strconv.ErrRange", Rows.laid_strconv_ErrRange), ("strconv.ErrSyntax", Rows.laid_strconv_ErrSyntax), ("kingpost/root.small", Rows.laid_kingpost_root_small)]
theorem door_met6 (os : Os) (args : Array Value) : laidMetH Tryz.prog laid6 ((World.doorLaid Tryz.prog 400 os).forCall (fun _ _ => 0) ⟨#[], args, []⟩).memory :=
 laidMetH_of_parts3 (fuel := 8) (laidMet_of_run' 8 (by kernel_rfl) (by kernel_rfl)) (by kernel_rfl) (by kernel_rfl)
theorem plain6 {W : World} (h : laidMetH Tryz.prog laid6 W) : laidMet Tryz.prog laid6 W := by
 rwa [MakeChecks.laidMetH_plain _ _ _ (by kernel_rfl)] at h
theorem tab_of_laid6 {W : World} (h : laidMetH Tryz.prog laid6 W) : Tab W := by
 have h2 : laidMet Tryz.prog (("internal/strconv.uint64pow10", Lib.tabData .u64 Lib.pow10Tab) :: [("strconv.ErrRange", Rows.laid_strconv_ErrRange), ("strconv.ErrSyntax", Rows.laid_strconv_ErrSyntax), ("kingpost/root.small", Rows.laid_kingpost_root_small)]) W := laidMet.tail (laidMet.tail (plain6 h))
 exact Lib.tabIs_of_head gTab (t := 244) (e := 176) (n := 20) (by kernel_rfl) (by kernel_rfl) (by kernel_rfl) (by kernel_rfl) (by kernel_rfl) h2
theorem tab64_of_laid6 {W : World} (h : laidMetH Tryz.prog laid6 W) : Tab64 W := by
 have h2 := laidMet.tail (plain6 h)
 rw [laid64_tab] at h2
 exact tab64_of (Lib.tabIs_of_head gTab64 (t := 247) (e := 5) (n := 64) (by kernel_rfl) (by kernel_rfl) (by kernel_rfl) (by kernel_rfl) (by kernel_rfl) h2)
theorem gSmall : Tryz.prog.globalNamed "kingpost/root.small" = some 2 := by kernel_rfl
theorem laid_small : (Rows.laid_kingpost_root_small : DataW Unit) = Lib.tabData .u64 (T.primes.map fun n : Nat => (n : Int)) := rfl
theorem sm_of {W : World} (h : Lib.TabIs Tryz.prog W "kingpost/root.small" .u64 (T.primes.map fun n : Nat => (n : Int))) : T.Sm W := by
 unfold Lib.TabIs World.var? at h
 rw [gSmall] at h
 cases hh : W.heap[2]? with
 | none => simp [hh] at h
 | some o =>
   cases o with
   | cells cs t f =>
     have h1 : some cs = some ((T.primes.map fun n : Nat => (n : Int)).map fun z => Value.int .u64 z).toArray := by
       rw [← h]; simp only [Option.bind_some, hh]
     have h2 := Option.some.inj h1
     subst h2
     exact ⟨t, f, hh⟩
   | _ => simp [hh] at h
theorem sm_of_laid6 {W : World} (h : laidMetH Tryz.prog laid6 W) : T.Sm W := by
 have h2 := laidMet.tail (laidMet.tail (laidMet.tail (laidMet.tail (laidMet.tail (plain6 h)))))
 rw [laid_small] at h2
 exact sm_of (Lib.tabIs_of_head gSmall (t := 253) (e := 176) (n := 25) (by kernel_rfl) (by kernel_rfl) (by kernel_rfl) (by kernel_rfl) (by kernel_rfl) h2)
end Go.Proofs.YtpkloolckbhdaaaGreatDoor
namespace Go.Proofs.YtpkloolckbhdaaaGreatDoor
open Go.Lib
theorem natOf_cons' (c : UInt8) (r : List UInt8) : natOf (c :: r) = (c.toNat - 48) * 10 ^ r.length + natOf r := by
 have h := natOf_append [c] r
 rw [show [c] ++ r = c :: r from rfl] at h
 rw [h]
 have h2 : natOf [c] = c.toNat - 48 := by simp [natOf]
 rw [h2]
theorem isDig_b {c : UInt8} (h : isDig c = true) : 48 ≤ c.toNat ∧ c.toNat ≤ 57 := (isDig_iff c).1 h
end Go.Proofs.YtpkloolckbhdaaaGreatDoor
namespace Go.Proofs.YtpkloolckbhdaaaGreatDoor.T
open Go.Proofs.YtpkloolckbhdaaaGreatDoor Go.RowKit Go.Lib Go.Shelf Go.Sort Go
theorem parseM (M : Nat) (hM : M < 18446744073709551616) : ∀ (l : List UInt8) (acc : Nat), (∀ c ∈ l, isDig c = true) → acc * 10 ^ l.length + natOf l ≤ M → Lib.parseUintM M acc l = .ok (acc * 10 ^ l.length + natOf l)
 | [], acc, _, _ => by rw [List.length_nil, Nat.pow_zero, Nat.mul_one, natOf_nil, Nat.add_zero]; rfl
 | c :: r, acc, h, hb => by
   have hc := isDig_b (h c (by simp))
   have hN : acc * 10 ^ (c :: r).length + natOf (c :: r) = (acc * 10 + (c.toNat - 48)) * 10 ^ r.length + natOf r := by
     rw [natOf_cons', List.length_cons, Nat.pow_succ, Nat.add_mul, Nat.mul_assoc acc 10, Nat.mul_comm 10 (10 ^ r.length)]; omega
   rw [hN] at hb ⊢
   have hp : 1 ≤ 10 ^ r.length := Nat.pos_of_ne_zero (by simp)
   have hge : acc * 10 + (c.toNat - 48) ≤ (acc * 10 + (c.toNat - 48)) * 10 ^ r.length := Nat.le_mul_of_pos_right _ hp
   unfold Lib.parseUintM
   rw [if_pos hc, if_neg (by omega), if_neg (by omega)]
   exact parseM M hM r _ (fun x hx => h x (by simp [hx])) hb
theorem parse_dec {m : Nat} (h : m < 18446744073709551616) : Lib.parseUintB 64 (decDigits m) = .ok m := by
 unfold Lib.parseUintB
 rw [if_neg (decDigits_ne m), parseM _ (by decide) _ 0 (decDigits_dig m) (by rw [natOf_dec]; omega), natOf_dec]
 simp
theorem parse_u (m : Nat) (w : World) (h : m < 18446744073709551616) :
   Calls Tryz.prog 157 #[.string (strB (m : Nat)), .int .i64 10, .int .i64 64] w fun e W' => e = .returned (.tuple #[.int .u64 m, .nilIface]) ∧ Below w.heap.size w W' := by
 have hs : (strB (m : Nat)).size ≤ 301 := strB_size (small_lim (by rw [Int.natAbs_natCast]; omega))
 refine (Tryz.strconv_ParseUint_10_at64_ok (strB (m : Nat)) (by omega) m (by rw [strB_data, Lib.itoa_nonneg, parse_dec h]) w).mono ?_
 rintro e W' ⟨he, rfl | rfl⟩
 · exact ⟨he, Below.refl _ _⟩
 · exact ⟨he, Go.Joins.below_bytesWorld _ _ _ _ (Nat.le_refl _)⟩
theorem fmt_in (u : Nat) (hu : u < 18446744073709551616) (w : World) (ht : Tab w) :
   Calls Tryz.prog 198 #[.int .u64 u, .int .i64 10] w fun e W' => e = .returned (.string (strB (u : Nat))) ∧ Below w.heap.size w W' := by
 have hstr : strB (u : Nat) = ⟨(Lib.decDigits u).toArray⟩ := by unfold strB; rw [Lib.itoa_nonneg]
 rw [hstr]
 clear hstr
 by_cases hs : u < 100
 · have C := Lib.hid (fun W => Tryz.internal_strconv_small u hs W)
   have iu : (u : Int) < 100 := by omega
   have i0 : (0 : Int) ≤ u := by omega
   clear hs
   generalize (⟨(Lib.decDigits u).toArray⟩ : ByteArray) = r at *
   go_enter Tryz.func198, Tryz.ntmps198
   go_wp2_with fail
   refine (C.out _).mono ?_
   rintro e w' ⟨rfl, rfl⟩
   go_wp2
   go_ret
   exact ⟨rfl, Below.refl _ _⟩
 · have hu1 : 1 ≤ u := by omega
   have iu : ¬ (u : Int) < 100 := by omega
   have hnd20 : Lib.nDigits u ≤ 20 := by have := Lib.numDigits_eq u hu1 hu; split at this <;> omega
   have hsl : ∀ W, (Instr.sliceAt 201 (.pointer (some ⟨w.heap.size, 0, none⟩)) none (some (.int .i64 (Lib.nDigits u : Int))) none).run Tryz.prog W = .ok (.slice (some ⟨w.heap.size, 0, none⟩) (Lib.nDigits u) 24) W := fun W => by
     rw [run_sliceAt_array_h W 201 ⟨w.heap.size, 0, none⟩ (by kernel_rfl) .i64 (Lib.nDigits u : Int) (by omega) (by rw [show Tryz.prog.arrayLen 201 = 24 by kernel_rfl]; omega)]
     rw [show Tryz.prog.arrayLen 201 = 24 by kernel_rfl]
     go_simp
   have hH0 := Lib.holds_zero0 w 201 (Lib.nDigits u) (by omega)
   have hfmt := Tryz.internal_strconv_formatBase10 w.heap.size 0 24 u (Array.replicate (Lib.nDigits u) 0) (w.alloc (.cells Lib.zeros24 201)) hH0 (by rw [Array.size_replicate]; exact Lib.lt_pow_nDigits u) hu (by rw [Array.size_replicate]; omega)
   rw [Array.size_replicate] at hfmt
   have hnum := Tryz.internal_strconv_numDigits u hu1 hu (w.alloc (.cells Lib.zeros24 201)) (Lib.tabIs_alloc ht _)
   have HH := Lib.hid (And.intro hH0 (And.intro hfmt hnum))
   clear hH0 hfmt hnum
   go_enter Tryz.func198, Tryz.ntmps198
   go_wp2_with fail
   refine HH.out.2.2.mono ?_
   rintro e w' ⟨rfl, rfl⟩
   go_wp2_with fail
   refine HH.out.2.1.mono ?_
   rintro e w' ⟨rfl, k, v', dk, rfl, hF⟩
   have hcv : (convert 128 9 (.slice (some ⟨w.heap.size, 0, none⟩) (Lib.nDigits u) 24)).run Tryz.prog ((putRow (fun (b : UInt8) => Value.int .u8 (b.toNat : Int)) (w.alloc (.cells Lib.zeros24 201)) w.heap.size 0 dk).drewN k) = .ok (.string ⟨(Lib.decDigits u).toArray⟩) ((putRow (fun (b : UInt8) => Value.int .u8 (b.toNat : Int)) (w.alloc (.cells Lib.zeros24 201)) w.heap.size 0 dk).drewN k) := by
     have h := run_convert_bytes_back (P := Tryz.prog) ((putRow (fun (b : UInt8) => Value.int .u8 (b.toNat : Int)) (w.alloc (.cells Lib.zeros24 201)) w.heap.size 0 dk).drewN k) 128 9 5 ⟨w.heap.size, 0, none⟩ 24 (Lib.decDigits u) Tryz.underlying128 Tryz.underlying5 Tryz.underlying9 (fun j hj => by
       rw [Lib.row_is_numeral hF j hj, Lib.add_plain, World.cell?_drewN]
       exact cell?_putRow (fun (b : UInt8) => Value.int .u8 (b.toNat : Int)) _ w.heap.size 0 _ dk HH.out.1 (by rw [hF.size, Array.size_replicate]) j (by rw [hF.size]; rw [Lib.decDigits_length] at hj; exact hj))
     rw [Lib.decDigits_length] at h
     exact h
   obtain ⟨os, eo⟩ := Lib.fin_at w (.cells Lib.zeros24 201) dk k 0
   have hbl : Below w.heap.size w ((putRow (fun (b : UInt8) => Value.int .u8 (b.toNat : Int)) (w.alloc (.cells Lib.zeros24 201)) w.heap.size 0 dk).drewN k) := by rw [eo]; exact Lib.below_grow _ _ (Nat.le_refl _) _ _
   generalize (putRow (fun (b : UInt8) => Value.int .u8 (b.toNat : Int)) (w.alloc (.cells Lib.zeros24 201)) w.heap.size 0 dk).drewN k = W2 at *
   have HB := Lib.hid hbl
   clear hbl eo
   go_wp2
   go_ret
   exact ⟨rfl, HB.out⟩
theorem fmt_u (u : Nat) (hu : u < 18446744073709551616) (w : World) (ht : Tab w) :
   Calls Tryz.prog 159 #[.int .u64 u, .int .i64 10] w fun e W' => e = .returned (.string (strB (u : Nat))) ∧ Below w.heap.size w W' := by
 have C := Lib.hid (fmt_in u hu w ht); clear ht
 generalize strB (u : Nat) = r at *
 go_enter Tryz.func159, Tryz.ntmps159
 go_wp2_with fail
 refine C.out.mono ?_
 rintro e w' ⟨rfl, b⟩
 have B1 := Lib.hid b; clear b
 go_wp2
 go_ret
 exact ⟨rfl, B1.out⟩
end Go.Proofs.YtpkloolckbhdaaaGreatDoor.T
