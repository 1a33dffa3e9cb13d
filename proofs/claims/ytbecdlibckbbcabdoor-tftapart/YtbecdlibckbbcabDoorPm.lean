/- Modulo a prime a polynomial has no more roots than its degree; so there is a number that is no square. -/
import Derived.Test.YtbecdlibckbbcabDoorPn
namespace Nmb

theorem Pri.euclidI {p : Nat} {a b : Int} (h : Pri p) (hd : (p : Int) ∣ a * b) : (p : Int) ∣ a ∨ (p : Int) ∣ b := by
  have h1 := Int.natAbs_dvd_natAbs.2 hd
  rw [Int.natAbs_mul, Int.natAbs_natCast] at h1
  rcases h.euclid h1 with h2 | h2
  · left; apply Int.natAbs_dvd_natAbs.1; rw [Int.natAbs_natCast]; exact h2
  · right; apply Int.natAbs_dvd_natAbs.1; rw [Int.natAbs_natCast]; exact h2

/-- the value of a polynomial whose greatest coefficient, which is 1, isn't written. -/
def evm (x : Int) : List Int → Int
  | [] => 1
  | c :: cs => c + x * evm x cs
/-- a polynomial and a times one of a degree less. -/
def pad (a : Int) : List Int → List Int → List Int
  | [], _ => []
  | d :: _, [] => [d + a]
  | d :: ds, r :: rs => (d + a * r) :: pad a ds rs
theorem pad_len (a : Int) : ∀ ds rs, rs.length + 1 = ds.length → (pad a ds rs).length = ds.length
  | [], _, h => by simp at h
  | [_], [], _ => rfl
  | _ :: _ :: _, [], h => by simp at h
  | d :: ds, r :: rs, h => by
    simp only [List.length_cons] at h
    simp only [pad, List.length_cons]
    rw [pad_len a ds rs (by omega)]
theorem pad_ev (x a : Int) : ∀ ds rs, rs.length + 1 = ds.length → evm x (pad a ds rs) = evm x ds + a * evm x rs
  | [], _, h => by simp at h
  | [d], [], _ => by simp only [pad, evm]; omega
  | _ :: _ :: _, [], h => by simp at h
  | d :: ds, r :: rs, h => by
    simp only [List.length_cons] at h
    simp only [pad, evm]
    rw [pad_ev x a ds rs (by omega)]
    simp only [Int.mul_add, Int.mul_left_comm x a]
    omega
/-- the quotient by what is 0 at a. -/
def qt (a : Int) : List Int → List Int
  | [] => []
  | [_] => []
  | _ :: d :: ds => pad a (d :: ds) (qt a (d :: ds))
theorem qt_len (a : Int) : ∀ cs, (qt a cs).length = cs.length - 1
  | [] => rfl
  | [_] => rfl
  | _ :: d :: ds => by
    have h := qt_len a (d :: ds)
    simp only [qt]
    rw [pad_len a _ _ (by rw [h]; simp)]
    simp
theorem qt_ev (x a : Int) : ∀ cs, cs ≠ [] → evm x cs - evm a cs = (x - a) * evm x (qt a cs)
  | [], h => absurd rfl h
  | [_], _ => by simp only [evm, qt]; omega
  | c :: d :: ds, _ => by
    have h := qt_ev x a (d :: ds) (by simp)
    have e1 : ∀ y, evm y (c :: d :: ds) = c + y * evm y (d :: ds) := fun _ => rfl
    rw [e1, e1]
    have e2 : qt a (c :: d :: ds) = pad a (d :: ds) (qt a (d :: ds)) := rfl
    rw [e2, pad_ev x a _ _ (by rw [qt_len]; simp), Int.mul_add, Int.mul_left_comm (x - a) a, ← h, Int.sub_mul, Int.mul_sub]
    omega
/-- no more roots than the degree. -/
theorem Pri.roots {p : Nat} (h : Pri p) : ∀ (n : Nat) (cs : List Int) (xs : List Int), cs.length = n → xs.Pairwise (fun a b => ¬ (p : Int) ∣ b - a) → (∀ x, x ∈ xs → (p : Int) ∣ evm x cs) → xs.length ≤ n
  | _, _, [], _, _, _ => Nat.zero_le _
  | 0, [], a :: ys, _, _, hr => by
    have h1 := hr a (by simp)
    have h2 := h.1
    have h3 : (p : Int) ∣ 1 := h1
    have := Int.le_of_dvd (by decide) h3
    omega
  | n + 1, cs, a :: ys, hl, hp, hr => by
    have hne : cs ≠ [] := fun e => by subst e; simp at hl
    rw [List.pairwise_cons] at hp
    have hle : ys.length ≤ n := by
      refine h.roots n (qt a cs) ys (by rw [qt_len, hl]; rfl) hp.2 (fun y hy => ?_)
      have h1 := hr y (by simp [hy])
      have h2 := hr a (by simp)
      have h3 : (p : Int) ∣ (y - a) * evm y (qt a cs) := by
        rw [← qt_ev y a cs hne]
        exact Int.dvd_sub h1 h2
      rcases h.euclidI h3 with h4 | h4
      · exact absurd h4 (hp.1 y hy)
      · exact h4
    simp only [List.length_cons]
    omega
theorem evm_pow (x : Int) : ∀ m, evm x (List.replicate m 0) = x ^ m
  | 0 => by rw [Int.pow_zero]; rfl
  | m + 1 => by
    rw [List.replicate_succ]
    simp only [evm]
    rw [evm_pow x m, Int.pow_succ, Int.mul_comm]
    omega
/-- a power of a number modulo an odd prime is less 1. -/
theorem Pri.nonsquare {p : Nat} (h : Pri p) (ho : p % 2 = 1) : ∃ x, 1 ≤ x ∧ x < p ∧ x ^ ((p - 1) / 2) % p = p - 1 := by
  have h2 := h.1
  obtain ⟨m, hm⟩ : ∃ m, (p - 1) / 2 = m + 1 := ⟨(p - 1) / 2 - 1, by omega⟩
  apply Classical.byContradiction
  intro hno
  have hall : ∀ x, 1 ≤ x → x < p → x ^ (m + 1) % p = 1 := by
    intro x h1 hx
    have hf := h.fermat1 (a := x) (by rw [Nat.mod_eq_of_lt hx]; omega)
    have e : x ^ (p - 1) = x ^ (m + 1) * x ^ (m + 1) := by rw [← Nat.pow_add]; congr 1; omega
    rw [e] at hf
    rcases h.sqrt1 hf with h3 | h3
    · exact h3
    · exact absurd ⟨x, h1, hx, by rw [hm]; exact h3⟩ hno
  have hr := h.roots (m + 1) ((-1) :: List.replicate m 0) ((List.range (p - 1)).map (fun i => ((i + 1 : Nat) : Int))) (by simp) ?_ ?_
  · simp at hr
    omega
  · rw [List.pairwise_map]
    refine List.Pairwise.imp_of_mem ?_ (List.pairwise_lt_range (n := p - 1))
    intro a b ha hb hlt hd
    rw [List.mem_range] at ha hb
    have := Int.le_of_dvd (by omega) hd
    omega
  · intro x hx
    rw [List.mem_map] at hx
    obtain ⟨i, hi, rfl⟩ := hx
    rw [List.mem_range] at hi
    have h3 := hall (i + 1) (by omega) (by omega)
    have e : evm ((i + 1 : Nat) : Int) ((-1) :: List.replicate m 0) = (((i + 1) ^ (m + 1) : Nat) : Int) - 1 := by
      simp only [evm]
      rw [evm_pow, Int.natCast_pow, Int.pow_succ, Int.mul_comm]
      omega
    rw [e]
    have hdm := Nat.div_add_mod ((i + 1) ^ (m + 1)) p
    rw [h3] at hdm
    refine ⟨(((i + 1) ^ (m + 1) / p : Nat) : Int), ?_⟩
    have hc := congrArg (fun (z : Nat) => (z : Int)) hdm
    simp only [Int.natCast_add, Int.natCast_mul] at hc
    rw [← hc]
    simp

/-- where a power of 2's power is less 1, the next power of 2 goes into p less 1. -/
theorem Pri.deep {q b k : Nat} (h : Pri q) (hq : q ≠ 2) (hb : b ^ 2 ^ k % q = q - 1) : 2 ^ (k + 1) ∣ q - 1 := by
  have hq2 := h.1
  have ha0 : b % q ≠ 0 := by
    intro h0
    have h1 : b ^ 2 ^ k % q = 0 := by
      rw [Nat.pow_mod, h0, Nat.zero_pow (Nat.pow_pos (by decide)), Nat.zero_mod]
    omega
  have hf := h.fermat1 ha0
  obtain ⟨j, t, e⟩ := two_part (q - 1) (by omega)
  have hjk : k + 1 ≤ j := by
    apply Nat.le_of_not_lt
    intro hlt
    rw [e] at hf
    have h1 := neg_pow (by omega) hb t
    have h3 : (b ^ 2 ^ k) ^ (2 * t + 1) = (b ^ (2 ^ j * (2 * t + 1))) ^ 2 ^ (k - j) := by
      rw [← Nat.pow_mul, ← Nat.pow_mul]
      congr 1
      rw [show 2 ^ k = 2 ^ j * 2 ^ (k - j) by rw [← Nat.pow_add]; congr 1; omega]
      rw [Nat.mul_assoc, Nat.mul_assoc, Nat.mul_comm (2 ^ (k - j))]
    rw [h3, Nat.pow_mod, hf, Nat.one_pow, Nat.mod_eq_of_lt (by omega)] at h1
    omega
  rw [e]
  exact Nat.dvd_trans (Nat.pow_dvd_pow 2 hjk) (Nat.dvd_mul_right _ _)
theorem two_twice (x k : Nat) : x ^ 2 ^ (k + 1) = x ^ 2 ^ k * x ^ 2 ^ k := by
  rw [← Nat.pow_add]; congr 1; rw [Nat.pow_succ]; omega
theorem one_on {q x : Nat} (hq : 1 < q) {k : Nat} (h : x ^ 2 ^ k % q = 1) : ∀ j, x ^ 2 ^ (k + j) % q = 1
  | 0 => h
  | j + 1 => by
    rw [show k + (j + 1) = (k + j) + 1 by omega, two_twice, Nat.mul_mod, one_on hq h j]
    exact Nat.mod_eq_of_lt hq
/-- the first power of 2 whose power is 1 goes into p less 1. -/
theorem Pri.order_le {q x k : Nat} (h : Pri q) (hq : q ≠ 2) (h1 : x ^ 2 ^ (k + 1) % q = 1) (h0 : x ^ 2 ^ k % q ≠ 1) : 2 ^ (k + 1) ∣ q - 1 := by
  rw [two_twice] at h1
  rcases h.sqrt1 h1 with h2 | h2
  · exact absurd h2 h0
  · exact h.deep hq h2
/-- there is a number whose power has the order 2 to the kth, where that goes into p less 1. -/
theorem Pri.root {p k : Nat} (h : Pri p) (ho : p % 2 = 1) (hk : 2 ^ k ∣ p - 1) : ∃ x, 1 ≤ x ∧ x < p ∧ (x ^ ((p - 1) / 2 ^ k)) ^ 2 ^ k % p = 1 ∧ ∀ i, i < k → (x ^ ((p - 1) / 2 ^ k)) ^ 2 ^ i % p ≠ 1 := by
  have h2 := h.1
  obtain ⟨x, h1, hx, hn⟩ := h.nonsquare ho
  refine ⟨x, h1, hx, ?_, ?_⟩
  · rw [← Nat.pow_mul, Nat.div_mul_cancel hk]
    exact h.fermat1 (by rw [Nat.mod_eq_of_lt hx]; omega)
  · intro i hi hc
    obtain ⟨j, rfl⟩ : ∃ j, k = i + j + 1 := ⟨k - i - 1, by omega⟩
    have h3 := one_on (by omega) hc j
    have e : (x ^ ((p - 1) / 2 ^ (i + j + 1))) ^ 2 ^ (i + j) = x ^ ((p - 1) / 2) := by
      rw [← Nat.pow_mul]
      congr 1
      obtain ⟨c, hc⟩ := hk
      rw [hc, Nat.mul_div_cancel_left _ (Nat.pow_pos (by decide)), Nat.pow_succ, Nat.mul_comm (2 ^ (i + j)) 2, Nat.mul_assoc, Nat.mul_div_cancel_left _ (by decide), Nat.mul_comm]
    rw [e, hn] at h3
    omega
end Nmb
