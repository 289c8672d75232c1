/- The walk of takeOut: the divisor is taken out of the window as often as possible. -/
import Derived.Test.YtajonpcmgebbbaaDoorSubt
namespace Go.Proofs.YtajonpcmgebbbaaDoor
open Go.RowKit

theorem Only.drewN (g : Nat) (w : World) (k : Nat) : Only g w (w.drewN k) := ⟨rfl, rfl, rfl, Nat.le_refl _, fun _ _ _ => rfl⟩
theorem RowC.window {w : World} {g c : Nat} {A X Z : List Nat} {top : Nat} (h : RowC w g (A ++ (X ++ (top :: Z)))) (hc : X.length + 1 ≤ c) (hc' : c ≤ 9223372036854775807) :
    Nats w (.slice (some ⟨g, A.length, none⟩) (X.length + 1) c) (X ++ [top]) := by
  refine ⟨_, c, by simp, by simpa using hc, hc', fun _ => ⟨g, A.length, rfl, fun i hi => ?_⟩⟩
  have hi' : i < X.length + 1 := by simpa using hi
  have h1 := h.cell (i := A.length + i) (by simp; omega)
  rw [h1]
  congr 3
  rw [List.getD_eq_getElem?_getD, List.getD_eq_getElem?_getD, List.getElem?_append_right (by omega), show A.length + i - A.length = i by omega,
    show X ++ top :: Z = (X ++ [top]) ++ Z by simp, List.getElem?_append_left hi]

set_option maxRecDepth 100000 in
set_option maxHeartbeats 2000000 in
theorem takeOut_any (g n c top : Nat) (vb : Value) (A X Z lb : List Nat) (w : World) (hr : RowC w g (A ++ (X ++ (top :: Z)))) (hb : Nats w vb lb) (dx : Dig X) (db : Dig lb) (htop : top < 1000000000)
    (hX : X.length = n + 2) (hlb : lb.length = n + 2) (hn : n + 2 ≤ 1000000) (hA : A.length ≤ 1000000) (hc : n + 3 ≤ c) (hc' : c ≤ 9223372036854775807) (hne : vb.ownBlock ≠ some g)
    (h0 : 0 < lb.getD (n + 1) 0) (hlt : toN X + B ^ (n + 2) * top < B * toN lb) :
    Calls Tryd.prog 104 #[.slice (some ⟨g, A.length, none⟩) (n + 3) c, vb] w fun e W' => ∃ X', Dig X' ∧ X'.length = n + 2 ∧ toN X' = (toN X + B ^ (n + 2) * top) % toN lb ∧ e = .returned (.int .u64 ((toN X + B ^ (n + 2) * top) / toN lb : Nat)) ∧
      RowC W' g (A ++ (X' ++ (0 :: Z))) ∧ Only g w W' := by
  have hw := hr.window (c := c) (by omega) hc'
  rw [hX] at hw
  have hsn : toN (X ++ [top]) = toN X + B ^ (n + 2) * top := by rw [toN_snoc, hX]
  have hY : toN lb < B ^ (n + 2) := by have := toN_lt db; rwa [hlb] at this
  have ce := estimate_any _ vb (X ++ [top]) lb n w hw hb (dx.append (Dig.one htop)) db (by simp [hX]) hlb (by omega) h0 (by rw [hsn]; exact hlt)
  rw [hsn] at ce
  have cs := fun t k ht hle => subtract_any g (n + 2) c t top vb A X Z lb (w.drewN k) (hr.of_block rfl) ((Only.drewN g w k).nats hne hb) dx db htop hX hlb hn hA hc hc' ht hne hle
  have cr := fun X' W (hr : RowC W g (A ++ (X' ++ (18446744073709551615 :: Z)))) (ho : Only g w W) d hX hle => restore_any g (n + 2) c vb A X' Z lb W hr (ho.nats hne hb) d db hX hlb hn hA hc hc' hne hle
  have hup := fun x' t c h h2 h3 => @take_ok x' (toN X) (toN lb) t (B ^ (n + 2)) c top h hY h2 h3
  have hbk := fun x' t h h1 h2 h3 => @take_back x' (toN X) (toN lb) t (B ^ (n + 2)) top h h1 h2 h3
  have hlen : ∀ X' : List Nat, Dig X' → X'.length = n + 2 → toN X' < B ^ (n + 2) := fun X' d h => by have := toN_lt d; rwa [h] at this
  have CE := Lib.hid ce
  have CS := Lib.hid cs
  have CR := Lib.hid cr
  have HUP := Lib.hid (And.intro hup (And.intro hbk hlen))
  clear ce cs cr hup hbk hlen hsn hw hr dx db hX hlb hc h0 hlt hne hn hA
  obtain ⟨pb, cb, rfl, hb1, hb2, hb3⟩ := hb
  clear hb1 hb2 hb3
  generalize hlbl : lb.length = lbl at *
  clear hlbl
  go_enter Tryd.func104, Tryd.ntmps104
  go_wp2_with fail
  refine CE.out.mono ?_
  rintro e w' ⟨t, rfl, ht, hW, hle, k, rfl⟩
  have H1 := Lib.hid (And.intro ht (And.intro hW hle))
  clear CE hW hle
  go_wp2_with fail
  refine (CS.out t k ht H1.out.2.2).mono ?_
  rintro e w2 ⟨X', cy, d', l', hv, hcy, rfl, hr', ho⟩
  have ho2 : Only g w w2 := (Only.drewN g w k).trans ho
  clear ho CS
  by_cases hlt : top < cy
  · have hd : decide (top < cy) = true := decide_eq_true hlt
    rw [if_pos hlt] at hr'
    have ecy : cy = top + 1 := by omega
    subst ecy
    have ht0 : 0 < t := by
      rcases Nat.eq_zero_or_pos t with h | h
      · exfalso
        have h3 := HUP.out.2.2 X' d' l'
        rw [h, Nat.zero_mul, Nat.mul_add, Nat.mul_one] at hv
        omega
      · exact h
    obtain ⟨k1, k2, k3⟩ := HUP.out.2.1 (toN X') t hv (HUP.out.2.2 X' d' l') H1.out.2.2 ht0
    have CR2 := Lib.hid (CR.out X' w2 hr' ho2 d' l' k1)
    have HK := Lib.hid (And.intro k2 (And.intro k3 k1))
    have HO := Lib.hid ho2
    clear k1 k2 k3 hv hr' ho2 hcy hlt CR d' l' H1
    go_wp2_with fail
    refine CR2.out.mono ?_
    rintro e w3 ⟨X'', d'', l'', hv'', rfl, hr'', ho''⟩
    have HO2 := Lib.hid (HO.out.trans ho'')
    have H2 := Lib.hid (And.intro d'' (And.intro l'' (And.intro hv'' hr'')))
    clear CR2 d'' l'' hv'' hr'' ho''
    have ht2 : (0 : Int) ≤ (t : Int) - 1 := by omega
    go_wp2
    go_ret
    obtain ⟨k2, k3, k1⟩ := HK.out
    obtain ⟨d'', l'', hv'', hr''⟩ := H2.out
    refine ⟨X'', d'', l'', by omega, ?_, hr'', HO2.out⟩
    exact ret_int (by omega)
  · have hd : decide (top < cy) = false := decide_eq_false hlt
    rw [if_neg hlt] at hr'
    obtain ⟨k1, k2, k3⟩ := HUP.out.1 (toN X') t cy hv H1.out.2.1 (by omega)
    have HK := Lib.hid (And.intro k1 (And.intro k2 k3))
    have H2 := Lib.hid (And.intro d' (And.intro l' (And.intro hr' ho2)))
    clear k1 k2 k3 hv hr' ho2 hcy hlt CR d' l' H1 HUP
    go_wp2
    go_ret
    obtain ⟨k1, k2, k3⟩ := HK.out
    obtain ⟨d'', l'', hr'', ho''⟩ := H2.out
    refine ⟨X', d'', l'', k3, by rw [k2]; rfl, ?_, ho''⟩
    rwa [k1, Nat.sub_self] at hr''
end Go.Proofs.YtajonpcmgebbbaaDoor
