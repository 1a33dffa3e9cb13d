/- The inverse modulo a prime, and that roots and powers of 2 have one. -/
import Derived.Test.YtcclkahoonlieaaDoorVe
import Derived.Test.YtcclkahoonlieaaDoorQb
namespace Go.Proofs.YtcclkahoonlieaaDoor
open Go.RowKit Num Nmb

theorem ec_pri {p x : Nat} (hp : Pri p) (h : x % p ≠ 0) : ec (x : Int) (p : Int) = 0 := by
  have h2 := hp.1
  apply ec_pos _ (by omega)
  unfold gc
  have e : ((x : Int) % (p : Int)).toNat = x % p := by rw [← Int.natCast_emod]; rfl
  rw [e]
  have hc : Nat.gcd (x % p) p = 1 := by
    rcases hp.2 _ (Nat.gcd_dvd_right (x % p) p) with h1 | h1
    · exact h1
    · have h3 := Nat.gcd_dvd_left (x % p) p
      rw [h1] at h3
      have := Nat.le_of_dvd (by omega) h3
      have := Nat.mod_lt x (show 0 < p by omega)
      omega
  rw [Int.toNat_natCast, Nat.gcd_comm]
  exact hc
/-- the inverse modulo a prime. -/
def ivp (p x : Nat) : Nat := x ^ (p - 2) % p
theorem ivp_said {p x : Nat} (hp : Pri p) (h : x % p ≠ 0) : x * ivp p x % p = 1 := by
  have h2 := hp.1
  unfold ivp
  rw [Nat.mul_mod_mod, ← Nat.pow_succ', show (p - 2).succ = p - 1 by omega]
  exact hp.fermat1 h
theorem inv_pri (g p x : Nat) (f s : Int) (w : World) (h : Fld w g p f s) (hm : Ok p f s) (hp : Pri p) (hx : x % p ≠ 0) :
    Calls Tryd.prog 59 #[.pointer (some ⟨g, 0, none⟩), .int .u64 x] w fun e w' => e = .returned (.tuple #[.int .u64 (ivp p x : Nat), .int .i64 0]) ∧ w' = w := by
  have e0 := ec_pri hp hx
  have h2 := hp.1
  refine (inv_any g p f s x w h hm (by omega)).mono ?_
  rintro e w' ⟨⟨y, rfl, I⟩, rfl⟩
  obtain ⟨y0, y1, y2⟩ := I.good e0
  rw [e0]
  have c1 : Cg p (y * x) (((ivp p x : Nat) : Int) * x) := by
    have a1 := ivp_said hp hx
    unfold Cg
    rw [Int.mul_comm, y2, Int.mul_comm, ← Int.natCast_mul, ← Int.natCast_emod, a1]
    rfl
  have c2 := hp.cancel (c := (x : Int)) (fun hc => hx (by
    have := (Cg.nat (b := 0)).1 hc
    rw [Nat.zero_mod] at this
    exact this)) c1
  have l1 : ivp p x < p := Nat.mod_lt _ (by omega)
  have : y = ((ivp p x : Nat) : Int) := by
    unfold Cg at c2
    rw [Int.emod_eq_of_lt y0 y1, Int.emod_eq_of_lt (by omega) (by omega)] at c2
    exact c2
  rw [this]
  exact ⟨rfl, rfl⟩
theorem root_nz {p k r : Nat} (T : TabOk p k r) : r % p ≠ 0 := by
  intro h
  have h1 := T.rt.one
  have h2 := T.pri.1
  have h3 : Cg p (r : Int) 0 := (Cg.nat (b := 0)).2 (by rw [h, Nat.zero_mod])
  have h4 := h3.pow (2 ^ k)
  rw [Int.zero_pow (Nat.ne_of_gt (Nat.two_pow_pos k))] at h4
  have h5 := (Cg.nat (p := p) (a := 1) (b := 0)).1 (h1.symm.trans h4)
  rw [Nat.mod_eq_of_lt (by omega), Nat.zero_mod] at h5
  omega
theorem two_nz {p k r : Nat} (T : TabOk p k r) : 2 ^ k % p ≠ 0 := by
  intro h
  have h2 := T.pri.1
  have h3 := T.pri.pow k (Nat.dvd_of_mod_eq_zero h)
  have h4 := Nat.le_of_dvd (by omega) h3
  obtain rfl : p = 2 := by omega
  have h5 := T.ktw
  rw [tw2] at h5
  obtain rfl : k = 0 := by omega
  simp at h
end Go.Proofs.YtcclkahoonlieaaDoor
