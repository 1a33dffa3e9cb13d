/- Great primes told by their divisors less one (after Pocklington); plain numbers alone. -/
/- The three greatest primes below 2 to the 63rd that leave 1 divided by 2 to the 20th. -/
/- A region whose operations, and callees, leave what lay in memory as it was, in whatever order. -/
/- A region whose operations, and callees, leave what lay in memory as it was, but for its last one, in whatever order. -/
/- The three primes of the landed conv, and what newJoiner answers. -/
/- A region whose operations only read, but for the last one, which waits for all others but one that takes a part of a tuple which nobody asks for: one walk in the order of the text serves every order. -/
import Derived.Test.YtocfenjampmdlabGreatDoorPp
import Derived.Test.YtocfenjampmdlabGreatDoorShelf
import Derived.Test.YtocfenjampmdlabGreatDoorVp
import Derived.Test.YtocfenjampmdlabGreatDoorDb
import Derived.Test.YtocfenjampmdlabGreatDoorUd
namespace Nmb

/-- a to the eth modulo n, by squares; e has at most f bits. -/
def pmd (n : Nat) : Nat → Nat → Nat → Nat
  | 0, _, _ => 1 % n
  | f + 1, a, e => if e % 2 = 1 then a * pmd n f (a * a % n) (e / 2) % n else pmd n f (a * a % n) (e / 2)
theorem pmd_said (n : Nat) : ∀ f a e, e < 2 ^ f → pmd n f a e = a ^ e % n
  | 0, a, e, h => by
    obtain rfl : e = 0 := by rw [Nat.pow_zero] at h; omega
    rw [Nat.pow_zero]
    rfl
  | f + 1, a, e, h => by
    rw [Nat.pow_succ] at h
    have ih := pmd_said n f (a * a % n) (e / 2) (by omega)
    have h1 : (a * a % n) ^ (e / 2) % n = a ^ (2 * (e / 2)) % n := by
      rw [← Nat.pow_mod, Nat.pow_mul, Nat.pow_two]
    show (if e % 2 = 1 then a * pmd n f (a * a % n) (e / 2) % n else pmd n f (a * a % n) (e / 2)) = a ^ e % n
    rw [ih, h1]
    by_cases ho : e % 2 = 1
    · rw [if_pos ho, Nat.mul_mod, Nat.mod_mod, ← Nat.mul_mod, ← Nat.pow_succ']
      congr 2
      omega
    · rw [if_neg ho]
      congr 2
      omega
theorem pow_gcd {r b : Nat} (hr : 1 < r) (m n : Nat) : b ^ m % r = 1 → b ^ n % r = 1 → b ^ Nat.gcd m n % r = 1 := by
  induction m, n using Nat.gcd.induction with
  | H0 n => intro _ h; rwa [Nat.gcd_zero_left]
  | H1 m n hm ih =>
    intro h1 h2
    rw [Nat.gcd_rec]
    refine ih ?_ h1
    have e : b ^ n = (b ^ m) ^ (n / m) * b ^ (n % m) := by rw [← Nat.pow_mul, ← Nat.pow_add, Nat.div_add_mod]
    rw [e, Nat.mul_mod, Nat.pow_mod, h1, Nat.one_pow, Nat.mod_eq_of_lt hr, Nat.one_mul, Nat.mod_mod] at h2
    exact h2
/-- a prime q of n - 1 divides r - 1 of each prime r of n. -/
theorem pock {n q k a r : Nat} (hq : Pri q) (hn : n = q * k + 1) (h1 : a ^ (q * k) % n = 1) (h2 : Nat.gcd (a ^ k % n + (n - 1)) n = 1) (hr : Pri r) (hd : r ∣ n) : q ∣ r - 1 := by
  have r2 := hr.1
  have n0 : 0 < n := by omega
  have a1 : a ^ (q * k) % r = 1 := by
    rw [← Nat.mod_mod_of_dvd _ hd, h1, Nat.mod_eq_of_lt (by omega)]
  have qk : q * k ≠ 0 := by
    intro e
    rw [e, Nat.pow_zero] at a1
    rw [e] at hn
    have := Nat.le_of_dvd n0 hd
    omega
  have ha : a ^ k % r ≠ 0 := fun e => by
    have e2 : a ^ (q * k) % r = 0 := by
      have q2 := hq.1
      rw [Nat.mul_comm q k, Nat.pow_mul, Nat.pow_mod, e, Nat.zero_pow (by omega), Nat.zero_mod]
    omega
  have b1 : (a ^ k) ^ q % r = 1 := by rw [← Nat.pow_mul, Nat.mul_comm]; exact a1
  have b2 : (a ^ k) ^ (r - 1) % r = 1 := hr.fermat1 ha
  have g := pow_gcd (by omega) q (r - 1) b1 b2
  rcases hq.2 (Nat.gcd q (r - 1)) (Nat.gcd_dvd_left _ _) with e | e
  · exfalso
    rw [e, Nat.pow_one] at g
    have d1 : r ∣ a ^ k % n + (n - 1) := by
      apply Nat.dvd_of_mod_eq_zero
      rw [Nat.add_mod, Nat.mod_mod_of_dvd _ hd, g]
      obtain ⟨c, hc⟩ := hd
      have c0 : c ≠ 0 := by rintro rfl; omega
      obtain ⟨c, rfl⟩ : ∃ t, c = t + 1 := ⟨c - 1, by omega⟩
      have : n - 1 = r * c + (r - 1) := by rw [hc, Nat.mul_add]; omega
      rw [this, Nat.mul_add_mod, Nat.mod_eq_of_lt (by omega : r - 1 < r), show 1 + (r - 1) = r by omega, Nat.mod_self]
    have d2 := Nat.dvd_gcd d1 hd
    rw [h2] at d2
    have := Nat.le_of_dvd (by omega) d2
    omega
  · exact e ▸ Nat.gcd_dvd_right q (r - 1)
/-- what divides r - 1 of each prime r is great enough. -/
theorem pock_all {n F : Nat} (hn : 2 ≤ n) (hF : n ≤ F * F) (h : ∀ r, Pri r → r ∣ n → F ∣ r - 1) : Pri n := by
  refine pri_of_root hn fun d h2 hdd hd => ?_
  obtain ⟨r, hr, hrd, _⟩ := least_factor d h2
  have h3 := h r hr (Nat.dvd_trans hrd hd)
  have r2 := hr.1
  have h4 := Nat.le_of_dvd (by omega) h3
  have h5 := Nat.le_of_dvd (by omega) hrd
  have h6 : F * F < d * d := Nat.mul_lt_mul_of_lt_of_le (by omega) (by omega) (by omega)
  omega
/-- no odd number from d on, of so many, 2 to the kth, divides n. -/
def nod (n : Nat) : Nat → Nat → Bool
  | 0, d => n % d != 0
  | k + 1, d => nod n k d && nod n k (d + 2 * 2 ^ k)
theorem nod_said (n : Nat) : ∀ k d, nod n k d = true → ∀ i, i < 2 ^ k → ¬ (d + 2 * i) ∣ n
  | 0, d, h, i, hi => by
    obtain rfl : i = 0 := by rw [Nat.pow_zero] at hi; omega
    intro hd
    have := Nat.mod_eq_zero_of_dvd hd
    rw [Nat.mul_zero, Nat.add_zero] at this
    have h' : (n % d != 0) = true := h
    rw [this] at h'
    cases h'
  | k + 1, d, h, i, hi => by
    have h' : (nod n k d && nod n k (d + 2 * 2 ^ k)) = true := h
    rw [Bool.and_eq_true] at h'
    rw [Nat.pow_succ] at hi
    by_cases hl : i < 2 ^ k
    · exact nod_said n k d h'.1 i hl
    · have := nod_said n k _ h'.2 (i - 2 ^ k) (by omega)
      rwa [show d + 2 * 2 ^ k + 2 * (i - 2 ^ k) = d + 2 * i by omega] at this
theorem pri_nod {n k : Nat} (h2 : 2 < n) (ho : n % 2 = 1) (h : nod n k 3 = true) (hk : n < (3 + 2 * 2 ^ k) * (3 + 2 * 2 ^ k)) : Pri n := by
  refine pri_of_root (by omega) fun d d2 hdd hd => ?_
  have od : d % 2 = 1 := by
    rcases Nat.mod_two_eq_zero_or_one d with e | e
    · exfalso
      obtain ⟨c, rfl⟩ := hd
      rw [Nat.mul_mod, e, Nat.zero_mul] at ho
      simp at ho
    · exact e
  have dl : d < 3 + 2 * 2 ^ k := by
    apply Nat.lt_of_not_le
    intro hle
    have := Nat.mul_le_mul hle hle
    omega
  have := nod_said n k 3 h ((d - 3) / 2) (by omega)
  rw [show 3 + 2 * ((d - 3) / 2) = d by omega] at this
  exact this hd
end Nmb
namespace Nmb

theorem pock_by {n q k a r : Nat} (f : Nat) (hf : q * k < 2 ^ f) (hf2 : k < 2 ^ f) (hq : Pri q) (hn : n = q * k + 1) (h1 : pmd n f a (q * k) = 1) (h2 : Nat.gcd (pmd n f a k + (n - 1)) n = 1) (hr : Pri r) (hd : r ∣ n) : q ∣ r - 1 := by
  rw [pmd_said n f a _ hf] at h1
  rw [pmd_said n f a _ hf2] at h2
  exact pock hq hn h1 h2 hr hd
theorem pri604916651 : Pri 604916651 := pri_nod (k := 14) (by decide) (by decide) (by decide +kernel) (by decide)
theorem pri261228707 : Pri 261228707 := pri_nod (k := 13) (by decide) (by decide) (by decide +kernel) (by decide)
theorem pri120494424961 : Pri 120494424961 := pri_nod (k := 18) (by decide) (by decide) (by decide +kernel) (by decide)
theorem pri127479609017 : Pri 127479609017 := pock_all (F := 261228707) (by decide) (by decide) fun _ hr hd => pock_by (k := 488) (a := 2) 40 (by decide) (by decide) pri261228707 (by decide) (by decide +kernel) (by decide +kernel) hr hd
theorem priP2 : Pri 9223372036818075649 := pock_all (F := 127479609017) (by decide) (by decide) fun _ hr hd => pock_by (k := 72351744) (a := 2) 63 (by decide) (by decide) pri127479609017 (by decide) (by decide +kernel) (by decide +kernel) hr hd
theorem priP3 : Pri 9223372036797104129 := pock_all (F := 120494424961) (by decide) (by decide) fun _ hr hd => pock_by (k := 76546048) (a := 2) 63 (by decide) (by decide) pri120494424961 (by decide) (by decide +kernel) (by decide +kernel) hr hd
theorem half_neg {n r a e : Nat} (hr : Pri r) (hd : r ∣ n) (hn : 2 ≤ n) (h : a ^ e % n = n - 1) : a ^ e % r = r - 1 := by
  have r2 := hr.1
  rw [← Nat.mod_mod_of_dvd _ hd, h]
  obtain ⟨c, hc⟩ := hd
  have c0 : c ≠ 0 := by rintro rfl; omega
  obtain ⟨c, rfl⟩ : ∃ t, c = t + 1 := ⟨c - 1, by omega⟩
  have : n - 1 = r * c + (r - 1) := by rw [hc, Nat.mul_add]; omega
  rw [this, Nat.mul_add_mod, Nat.mod_eq_of_lt (by omega : r - 1 < r)]
theorem deep_by {n r a e t : Nat} (f : Nat) (hf : e * 2 ^ t < 2 ^ f) (h : pmd n f a (e * 2 ^ t) = n - 1) (hn : 2 ≤ n) (ho : n % 2 = 1) (hr : Pri r) (hd : r ∣ n) : 2 ^ (t + 1) ∣ r - 1 := by
  rw [pmd_said n f a _ hf, Nat.pow_mul] at h
  have r2 : r ≠ 2 := by
    rintro rfl
    have := Nat.mod_eq_zero_of_dvd hd
    omega
  exact hr.deep r2 (half_neg hr hd hn h)
theorem priP1 : Pri 9223372036836950017 := by
  refine pock_all (F := 604916651 * 2 ^ 20) (by decide) (by decide) fun r hr hd => ?_
  have h1 := pock_by (k := 15247343616) (a := 2) 63 (by decide) (by decide) pri604916651 (by decide) (by decide +kernel) (by decide +kernel) hr hd
  have h2 := deep_by (a := 5) (e := 8796093022191) (t := 19) 63 (by decide) (by decide +kernel) (by decide) (by decide) hr hd
  exact Nat.Coprime.mul_dvd_of_dvd_of_dvd (by decide +kernel) h1 h2
end Nmb
namespace Go.Proofs.YtocfenjampmdlabGreatDoor
open Go.RowKit Num
section
variable {P : Program} {Q : Exit → Act → World → Prop}

/-- the worlds in which what lay in w lies as it was. -/
def Beh (w : World) : Type := { w' : World // Below w.heap.size w w' }
theorem Beh.size {w : World} (x : Beh w) : w.heap.size ≤ x.1.heap.size := x.2.size
theorem Calls.beh_of {f : FuncId} {args : Array Value} {w : World} {x : Beh w} {v : Value} (h : Calls P f args x.1 fun e w' => e = .returned v ∧ Below x.1.heap.size x.1 w') :
    Calls P f args x.1 fun e w'' => e = .returned v ∧ ∃ y : Beh w, w'' = y.1 := h.mono fun _ w'' ⟨he, hb⟩ => ⟨he, ⟨w'', x.2.trans (hb.mono x.size)⟩, rfl⟩
theorem Calls.beh_same {f : FuncId} {args : Array Value} {w : World} {x : Beh w} {v : Value} (h : Calls P f args x.1 fun e w' => e = .returned v ∧ w' = x.1) :
    Calls P f args x.1 fun e w'' => e = .returned v ∧ ∃ y : Beh w, w'' = y.1 := h.mono fun _ _ ⟨he, hb⟩ => ⟨he, x, hb⟩
theorem Calls.beh_drew {f : FuncId} {args : Array Value} {w : World} {x : Beh w} {v : Value} (h : Calls P f args x.1 fun e w' => e = .returned v ∧ ∃ n, w' = x.1.drewN n) :
    Calls P f args x.1 fun e w'' => e = .returned v ∧ ∃ y : Beh w, w'' = y.1 := h.mono fun _ w'' ⟨he, n, hb⟩ => ⟨he, ⟨w'', by rw [hb]; exact below_drewN x.2 n⟩, rfl⟩
theorem Beh.some (w : World) : Nonempty (Beh w) := ⟨⟨w, Below.refl _ _⟩⟩
/-- a region whose operations, and callees, leave what lay in w as it was: one walk in the order of the text. -/
theorem wp_region_beh {id : Nat} {a : Act} {w : World} {l : List Oper} (hm : P.follows .mixedOrders = true) (hB : Region.lexB .any l.toArray = true)
    (h : wpQuiet P l.toArray (fun w' => ∃ x : Beh w, w' = x.1) (fun a' => ∀ w', (∃ x : Beh w, w' = x.1) → Q .normal a' w') l a) : (Code.region id l.toArray true).wp P Q a w :=
  wp_region_quiet (C := fun w' => ∃ x : Beh w, w' = x.1) hm hB ⟨⟨w.drewN 1, below_drewN (Below.refl _ _) 1⟩, rfl⟩ (by simpa using h)
end
end Go.Proofs.YtocfenjampmdlabGreatDoor
namespace Go.Proofs.YtocfenjampmdlabGreatDoor
open Go.RowKit Num
section
variable {P : Program} {Q : Exit → Act → World → Prop}

theorem wp_region_last_beh {id : Nat} {a : Act} {w : World} {L : List Oper} (hm : P.follows .mixedOrders = true) (hB : Region.lexB .any (stillLast L).toArray = true) (hb : backB 0 L = true) (hu : usedB L = true) (hne : 0 < L.length)
    (h : wpQuiet P (stillLast L).toArray (fun w' => ∃ x : Beh w, w' = x.1) (fun a' => ∀ w', (∃ x : Beh w, w' = x.1) → wpList P L.toArray Q (lastOf L) a' w') (stillLast L) a) : (Code.region id L.toArray true).wp P Q a w := by
  simp only [Region.lexB, Bool.and_eq_true] at hB
  refine wp_region_any hm (any_of_still (C := fun w' => ∃ x : Beh w, w' = x.1) hb hu (n := L.length - 1) (by omega) _ _ a _ ⟨⟨w.drewN 1, below_drewN (Below.refl _ _) 1⟩, rfl⟩ ?_ (by simp) ?_ ?_)
  · intro j o ho hl
    have hj := (List.getElem?_eq_some_iff.1 ho).1
    simp [Array.getD, hj] at hl
  · simp [Array.getD, show L.length - 1 < L.length by omega]
  · have := wpAnyQ_lex (P := P) (C := fun w' => ∃ x : Beh w, w' = x.1) (md := .any) hB.1 (stillLast L) 0 (Array.replicate (stillLast L).toArray.size false) a (by simp) (by simpa using hB.2) h
    simpa [stillLast_len] using this
end
end Go.Proofs.YtocfenjampmdlabGreatDoor
namespace Go.Proofs.YtocfenjampmdlabGreatDoor
open Go.RowKit Num Nmb

/-- the primes. -/
def prm : Nat → Nat
  | 0 => 9223372036836950017
  | 1 => 9223372036818075649
  | _ + 2 => 9223372036797104129
theorem prm_pri {i : Nat} (h : i < 3) : Pri (prm i) := by
  match i, h with
  | 0, _ => exact priP1
  | 1, _ => exact priP2
  | 2, _ => exact priP3
theorem prm_bd {i : Nat} (h : i < 3) : 9223372036797104129 ≤ prm i ∧ prm i ≤ 9223372036836950017 ∧ prm i % 2 = 1 := by
  match i, h with
  | 0, _ => decide
  | 1, _ => decide
  | 2, _ => decide
theorem prm_nz {i j : Nat} (h : i < 3) (hj : j < i) : prm j % prm i ≠ 0 := by
  match i, j, h, hj with
  | 1, 0, _, _ => decide
  | 2, 0, _, _ => decide
  | 2, 1, _, _ => decide
/-- the primes lie. -/
def PriA (w : World) : Prop := ∃ t fr, w.heap[0]? = some (.cells #[.int .u64 (prm 0 : Nat), .int .u64 (prm 1 : Nat), .int .u64 (prm 2 : Nat)] t fr)
theorem PriA.lt {w : World} (h : PriA w) : 0 < w.heap.size := by obtain ⟨t, fr, h⟩ := h; exact (Array.getElem?_eq_some_iff.1 h).1
theorem PriA.below {B : Nat} {w w' : World} (h : PriA w) (hb : Below B w w') (hB : 0 < B) : PriA w' := by
  obtain ⟨t, fr, h⟩ := h
  exact ⟨t, fr, by rw [hb.block _ hB]; exact h⟩
theorem PriA.cell {w : World} (h : PriA w) {i : Nat} (hi : i < 3) : w.cell? ⟨0, i, none⟩ = some (.int .u64 (prm i : Nat)) := by
  obtain ⟨t, fr, h⟩ := h
  match i, hi with
  | 0, _ => simp only [World.cell?, h]; rfl
  | 1, _ => simp only [World.cell?, h]; rfl
  | 2, _ => simp only [World.cell?, h]; rfl
theorem index_a3 (X : Nat → Int) {i : Nat} (hi : i < 3) (w : World) : (Instr.index 47 (.agg #[.int .u64 (X 0), .int .u64 (X 1), .int .u64 (X 2)]) (.int .i64 (i : Int))).run Tryz.prog w = .ok (.int .u64 (X i)) w := by
  match i, hi with
  | 0, _ => simp [Instr.index, run_underlying Tryz.underlying47, asIntOf, part, go_sem]
  | 1, _ => simp [Instr.index, run_underlying Tryz.underlying47, asIntOf, part, go_sem]
  | 2, _ => simp [Instr.index, run_underlying Tryz.underlying47, asIntOf, part, go_sem]
/-- block g holds the n values C. -/
def Rv (w : World) (g : Nat) (t : TypeId) (n : Nat) (C : Nat → Value) : Prop := ∃ cur : Array Value, w.heap[g]? = some (.cells cur t (0, 0)) ∧ cur.size = n ∧ ∀ j, j < n → cur[j]? = some (C j)
theorem Rv.lt {w : World} {g n : Nat} {t : TypeId} {C : Nat → Value} (h : Rv w g t n C) : g < w.heap.size := by obtain ⟨cur, hg, _⟩ := h; exact (Array.getElem?_eq_some_iff.1 hg).1
theorem Rv.cell {w : World} {g n : Nat} {t : TypeId} {C : Nat → Value} (h : Rv w g t n C) {i : Nat} (hi : i < n) : w.cell? ⟨g, i, none⟩ = some (C i) := by
  obtain ⟨cur, hg, _, hc⟩ := h
  simp [World.cell?, hg, hc i hi]
theorem Rv.frozen {w : World} {g n : Nat} {t : TypeId} {C : Nat → Value} (h : Rv w g t n C) (i : Nat) : w.frozen? ⟨g, i, none⟩ = false := by
  obtain ⟨cur, hg, _, hc⟩ := h
  simp [World.frozen?, hg]
theorem Rv.drew {w : World} {g n : Nat} {t : TypeId} {C : Nat → Value} (h : Rv w g t n C) (k : Nat) : Rv (w.drewN k) g t n C := by
  obtain ⟨cur, hg, hs, hc⟩ := h
  exact ⟨cur, by simpa using hg, hs, hc⟩
theorem Rv.below {B : Nat} {w w' : World} {g n : Nat} {t : TypeId} {C : Nat → Value} (h : Rv w g t n C) (hb : Below B w w') (hg : g < B) : Rv w' g t n C := by
  obtain ⟨cur, h1, h2, h3⟩ := h
  exact ⟨cur, by rw [hb.block g hg]; exact h1, h2, h3⟩
theorem Rv.other {w : World} {g n b : Nat} {t : TypeId} {C : Nat → Value} (h : Rv w g t n C) (hg : g ≠ b) (i : Nat) (v : Value) : Rv (w.setCell ⟨b, i, none⟩ v) g t n C := by
  obtain ⟨cur, h1, h2, h3⟩ := h
  exact ⟨cur, by rw [heap_setCell_other w ⟨b, i, none⟩ g v hg]; exact h1, h2, h3⟩
theorem Rv.set {w : World} {g n : Nat} {t : TypeId} {C D : Nat → Value} (h : Rv w g t n C) (i : Nat) (v : Value) (e : ∀ j, j < n → D j = if j = i then v else C j) : Rv (w.setCell ⟨g, i, none⟩ v) g t n D := by
  obtain ⟨cur, hg, hs, hc⟩ := h
  refine ⟨cur.setIfInBounds i v, ?_, by simpa using hs, fun j hj => ?_⟩
  · rw [heap_setCell_same w g i cur t _ hg]
  · rw [e j hj]
    by_cases e : j = i
    · subst e; rw [Array.getElem?_setIfInBounds]; simp [hs, hj]
    · rw [Array.getElem?_setIfInBounds]; simp [Ne.symm e, e, hc j hj]
theorem Rv.eq {w : World} {g n : Nat} {t : TypeId} {C D : Nat → Value} (h : Rv w g t n C) (e : ∀ j, j < n → C j = D j) : Rv w g t n D := by
  obtain ⟨cur, hg, hs, hc⟩ := h
  exact ⟨cur, hg, hs, fun j hj => by rw [← e j hj]; exact hc j hj⟩
theorem Rv.new (w : World) (t : TypeId) (cs : Array Value) (n : Nat) (C : Nat → Value) (hn : cs.size = n) (h : ∀ j, j < n → cs[j]? = some (C j)) : Rv (w.alloc (.cells cs t)) w.heap.size t n C := ⟨cs, heap_alloc_new w _, hn, h⟩
end Go.Proofs.YtocfenjampmdlabGreatDoor
namespace Go.Proofs.YtocfenjampmdlabGreatDoor
section
variable {P : Program} {C : World → Prop} {Q : Exit → Act → World → Prop}

/-- is each operation but x and the last one waited for by a later one that is not x? -/
def usedX (x : Nat) (L : List Oper) : Bool := (List.range (L.length - 1)).all fun j => j == x || (List.range L.length).any fun k => decide (j < k) && (!(k == x) && waits L k j)
theorem usedX_said {x : Nat} {L : List Oper} (h : usedX x L = true) {j : Nat} (hj : j + 1 < L.length) (hx : j ≠ x) : ∃ k o, j < k ∧ k ≠ x ∧ k < L.length ∧ L[k]? = some o ∧ ∃ e ∈ o.after, Region.binds .any e = true ∧ e.on = j := by
  have h0 := List.all_eq_true.1 h j (List.mem_range.2 (by omega))
  rw [Bool.or_eq_true, beq_iff_eq] at h0
  have h1 : ((List.range L.length).any fun k => decide (j < k) && (!(k == x) && waits L k j)) = true := by
    rcases h0 with h0 | h0
    · exact absurd h0 hx
    · exact h0
  obtain ⟨k, hk, h2⟩ := List.any_eq_true.1 h1
  rw [Bool.and_eq_true, decide_eq_true_eq, Bool.and_eq_true] at h2
  obtain ⟨h3, h4, h5⟩ := h2
  have hkx : k ≠ x := by
    rintro rfl
    simp at h4
  unfold waits at h5
  have hk := List.mem_range.1 hk
  rw [List.getElem?_eq_getElem hk] at h5
  obtain ⟨e, he, h6⟩ := List.any_eq_true.1 h5
  rw [Bool.and_eq_true, beq_iff_eq] at h6
  exact ⟨k, L[k], h3, hkx, hk, List.getElem?_eq_getElem hk, e, by simpa using he, h6.1, h6.2⟩
theorem all_listedX {x : Nat} {L : List Oper} {listed : Array Bool} (hu : usedX x L = true) (hs : listed.size = L.length) (h : shut L listed) {n : Nat} (hn : n + 1 = L.length) (hr : n ∈ Region.ready .any L.toArray listed) :
    ∀ m j, j < n → j ≠ x → n ≤ j + m → listed.getD j true = true := by
  obtain ⟨_, o, ho, h2⟩ := mem_ready.1 hr
  have ho' : L[n]? = some o := by simpa using ho
  intro m
  induction m with
  | zero => intro j h1 _ h3; omega
  | succ m ih =>
    intro j h1 hx h3
    obtain ⟨k, ok, hjk, hkx, hk, hok, e, he, hbe, rfl⟩ := usedX_said hu (j := j) (by omega) hx
    by_cases ek : k = n
    · subst ek
      obtain rfl := Option.some.inj (ho'.symm.trans hok)
      rw [getD_of hs (show e.on < L.length by omega) true false]
      exact h2 e he hbe
    · exact h k ok hok (ih k (by omega) hkx (by omega)) e he hbe
/-- a part of a tuple is the same in every world. -/
theorem extract_same {a : Act} {o : Oper} {t : Operand} {k : Nat} {v : Value} {w : World} (h : o.op = .extract t k) (hq : o.quietAt P a C w v) (w' : World) : (execOp a.eval o).run P w' = .ok (.value v) w' := by
  unfold Oper.quietAt execOp at *
  rw [h] at *
  simp only [Instr.extract] at *
  generalize a.eval t = tv at *
  cases tv with
  | tuple vs =>
    dsimp only at *
    generalize vs[k]? = r at *
    cases r with
    | some u =>
      have h1 : Oper.quietUpon P C w v (.ok (.value u) w) := hq
      rw [← h1.2]; rfl
    | none => exact False.elim hq
  | _ => exact False.elim hq
theorem any_of_still1 {L : List Oper} (hb : backB 0 L = true) (x : Nat) (hu : usedX x L = true) {n : Nat} (hn : n + 1 = L.length) (hx : x < n) {ox on : Oper} (hox : L[x]? = some ox) (hon : L[n]? = some on) {t : Operand} {k : Nat} (hop : ox.op = .extract t k) (hap : ox.apart L.toArray on = true)
    (hsel : Region.noSelect L.toArray = true) (hQ : ∀ c a w v, Q (.panic c) (a.put ox.dst v) w → Q (.panic c) a w) :
    ∀ (fuel : Nat) (listed : Array Bool) (a : Act) (w : World), C w → shut L listed → listed.size = L.length → listed.getD n true = false →
      wpAnyQ P .any (stillLast L).toArray C (fun a' => ∀ w', C w' → wpList P L.toArray Q (lastOf L) a' w') fuel listed a → wpAny P .any L.toArray Q fuel listed a w := by
  obtain ⟨o, ho, hst, hla⟩ := stillLast_end L n hn
  have back : ∀ (i : Nat) (o : Oper), L.toArray[i]? = some o → ∀ e ∈ o.after, Region.binds .any e = true → e.on < i := fun i o ho e he hbe => by
    have := (backB_said hb i o (by simpa using ho)).1 e he hbe
    omega
  have gn : ∀ (i : Nat) (o : Oper), L[i]? = some o → o.guard = none := fun i o ho => (backB_said hb i o ho).2
  have some_ready : ∀ listed : Array Bool, listed.getD n true = false → Region.ready .any L.toArray listed ≠ [] := fun listed hl hr => by
    have := ready_none back hr n (by simp; omega)
    rw [hl] at this
    cases this
  have wn : ∀ (o : Oper) (y : Nat → Option Bool), o.guard = none → Region.wanted o y = true := fun o y hg => by unfold Region.wanted; rw [hg]
  intro fuel
  induction fuel with
  | zero =>
    intro listed a w hC hsh hs hl h
    exfalso
    obtain ⟨i, hi⟩ := List.exists_mem_of_ne_nil _ (some_ready listed hl)
    have := ready_still hi
    rw [h.1] at this
    cases this
  | succ fuel ih =>
    intro listed a w hC hsh hs hl h
    by_cases hB : (∀ j, j < n → j ≠ x → listed.getD j true = true) ∧ listed.getD x true = false
    · obtain ⟨hB1, hB2⟩ := hB
      have hxr : x ∈ Region.ready .any L.toArray listed := by
        rw [mem_ready]
        refine ⟨hB2, ox, by simpa using hox, fun e he hbe => ?_⟩
        have hlt := back x ox (by simpa using hox) e he hbe
        rw [← getD_of hs (show e.on < L.length by omega) true false]
        exact hB1 e.on (by omega) (by omega)
      have hq := h.2 x (ready_still hxr)
      unfold qOp at hq
      have hst' : (stillLast L).toArray[x]? = some ox := by
        have := stillLast_at L x (by omega)
        rw [hox] at this
        simpa using this
      rw [hst'] at hq
      simp only [wn ox _ (gn x ox hox), if_true] at hq
      obtain ⟨v, h1, hk⟩ := hq
      refine wpAny_take (i := x) (oi := ox) (v := v) (by simpa using hox) hsel ?_ (by simpa using hxr) (fun c a w => hQ c a w v) (Or.inl ⟨wn ox _ (gn x ox hox), fun w' => extract_same hop (h1 w hC) w'⟩) ?_
      · have hx' : L.toArray[x]? = some ox := by simpa using hox
        simp only [Region.free, hx', List.all_eq_true, List.mem_range, Bool.or_eq_true, beq_iff_eq]
        intro j hj
        have hjl : j < L.length := by simpa using hj
        by_cases ejx : j = x
        · exact Or.inl (Or.inl ejx)
        · by_cases ejn : j = n
          · refine Or.inr ?_
            subst ejn
            have hn' : L.toArray[j]? = some on := by simpa using hon
            rw [hn']
            simp only [hap, Bool.or_true]
          · exact Or.inl (Or.inr (hB1 j (by omega) ejx))
      · exact ih _ _ w hC (shut_set hb hs hsh hxr) (by simpa using hs) (by rw [getD_set_ne true (by omega)]; exact hl) hk
    refine ⟨fun hr => absurd hr (some_ready listed hl), fun i hi => ?_⟩
    have hq := h.2 i (ready_still hi)
    obtain ⟨h1, oi, hoi, _⟩ := mem_ready.1 hi
    have hoi' : L[i]? = some oi := by simpa using hoi
    have hil := (List.getElem?_eq_some_iff.1 hoi').1
    unfold wpOp
    rw [hoi]
    unfold qOp at hq
    by_cases ein : i = n
    · subst ein
      have hx2 : listed.getD x true = true := by
        cases hc : listed.getD x true
        · exact absurd ⟨fun j hj hjx => all_listedX hu hs hsh hn hi L.length j hj hjx (by omega), hc⟩ hB
        · rfl
      obtain rfl := Option.some.inj (ho.symm.trans hoi')
      have hst' : (stillLast L).toArray[i]? = some (still o) := by simpa using hst
      rw [hst'] at hq
      simp only [wn (still o) _ (gn i o ho), if_true] at hq
      obtain ⟨v, _, hk⟩ := hq
      have hall : ∀ j, j < L.toArray.size → (listed.setIfInBounds i true).getD j true = true := fun j hj => by
        have hj' : j < L.length := by simpa using hj
        by_cases e : i = j
        · subst e; simp [Array.getD, show i < listed.size by omega]
        · rw [getD_set_ne true e]
          by_cases ejx : j = x
          · rw [ejx]; exact hx2
          · exact all_listedX hu hs hsh hn hi L.length j (by omega) ejx (by omega)
      have hr0 := ready_nil hall
      have hr1 : Region.ready .any (stillLast L).toArray (listed.setIfInBounds i true) = [] := ready_nil fun j hj => hall j (by simpa [stillLast_len] using hj)
      have hw : wpList P L.toArray Q (lastOf L) a w := by
        have : a.put (still o).dst v = a := rfl
        rw [this] at hk
        cases fuel with
        | zero => exact hk.2 w hC
        | succ f => exact hk.1 hr1 w hC
      rw [hla] at hw
      simp only [wpList, wn o _ (gn i o ho), if_true] at hw
      simp only [wn o _ (gn i o ho), if_true]
      refine hw.imp (Oper.wp_mono fun a' w' hq => ?_) id
      cases fuel with
      | zero => exact ⟨hr0, hq⟩
      | succ f => exact ⟨fun _ => hq, fun j hj => by rw [hr0] at hj; cases hj⟩
    · have hst' : (stillLast L).toArray[i]? = some oi := by
        have := stillLast_at L i (by omega)
        rw [hoi'] at this
        simpa using this
      rw [hst'] at hq
      simp only [wn oi _ (gn i oi hoi'), if_true] at hq
      simp only [wn oi _ (gn i oi hoi'), if_true]
      refine Or.inl (Oper.wp_of_quiet hC (fun a' w' hC' hk => ih _ a' w' hC' (shut_set hb hs hsh hi) (by simpa using hs) ?_ hk) hq)
      rw [getD_set_ne true ein]
      exact hl
/-- the rule, for a region whose operations are written out; operation x takes a part that nobody asks for. -/
theorem wp_region_last1 (x : Nat) {id : Nat} {a : Act} {w : World} {L : List Oper} {ox on : Oper} {t : Operand} {k : Nat} (hox : L[x]? = some ox) (hon : L[L.length - 1]? = some on) (hop : ox.op = .extract t k) (hap : ox.apart L.toArray on = true) (hQ : ∀ c a w v, Q (.panic c) (a.put ox.dst v) w → Q (.panic c) a w)
    (hm : P.follows .mixedOrders = true) (hsel : Region.noSelect L.toArray = true) (hB : Region.lexB .any (stillLast L).toArray = true) (hb : backB 0 L = true) (hu : usedX x L = true) (hx : x + 1 < L.length)
    (h : wpQuiet P (stillLast L).toArray (fun w' => ∃ n, w' = w.drewN n) (fun a' => ∀ w', (∃ n, w' = w.drewN n) → wpList P L.toArray Q (lastOf L) a' w') (stillLast L) a) : (Code.region id L.toArray true).wp P Q a w := by
  simp only [Region.lexB, Bool.and_eq_true] at hB
  refine wp_region_any hm (any_of_still1 (C := fun w' => ∃ n, w' = w.drewN n) hb x hu (n := L.length - 1) (by omega) (by omega) hox hon hop hap hsel hQ _ _ a _ ⟨1, rfl⟩ ?_ (by simp) ?_ ?_)
  · intro j o ho hl
    have hj := (List.getElem?_eq_some_iff.1 ho).1
    simp [Array.getD, hj] at hl
  · simp [Array.getD, show L.length - 1 < L.length by omega]
  · have := wpAnyQ_lex (P := P) (C := fun w' => ∃ n, w' = w.drewN n) (md := .any) hB.1 (stillLast L) 0 (Array.replicate (stillLast L).toArray.size false) a (by simp) (by simpa using hB.2) h
    simpa [stillLast_len] using this
end
end Go.Proofs.YtocfenjampmdlabGreatDoor
