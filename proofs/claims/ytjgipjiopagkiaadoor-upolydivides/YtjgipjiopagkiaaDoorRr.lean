/- The law's awake: the chapter's examples. -/
/- What the reference's Is answers. -/
/- Which primes are asked for (chapter 9's law). -/
/- The reference's powers, in plain numbers. -/
/- What the reference's Twos answers; what is gathered. -/
/- What prime's Root and Order answer, whatever they are given. -/
/- What the reference's Order answers. -/
/- What the reference's Root answers. -/
import Derived.Test.YtjgipjiopagkiaaDoorPg
import Derived.Deep.RegionHeld3
import Derived.Test.YtjgipjiopagkiaaDoorEn
import Derived.Test.YtjgipjiopagkiaaDoorPp
import Derived.Test.YtjgipjiopagkiaaDoorVr
import Derived.Test.YtjgipjiopagkiaaDoorVa
namespace Go.Proofs.YtjgipjiopagkiaaDoor
open Go.RowKit Num Nmb

theorem OwW.cells {w : World} {base : Nat} {v : Value} {l : List Nat} (h : OwW w base v l) (hl : 0 < l.length) :
    ∃ g cap, v = .slice (some ⟨g, 0, none⟩) l.length cap ∧ l.length ≤ cap ∧ base ≤ g ∧ g < w.heap.size ∧ ∀ j (hj : j < l.length), w.cell? ⟨g, j, none⟩ = some (.int .u64 (l[j] : Nat)) := by
  rcases h.2 with ⟨rfl, h0⟩ | ⟨g, cap, cur, rfl, hg, hgg, hgc, hgm, hgs, htk⟩
  · omega
  · refine ⟨g, cap, rfl, hgc, hg, (Array.getElem?_eq_some_iff.1 hgg).1, fun j hj => ?_⟩
    have := World.ownsRow.cellAt h j (by omega)
    rw [this]
    simp [wordCells, List.getElem?_eq_getElem hj]
theorem nx90 : Nx 90 97 := ⟨by decide, is97, fun m h1 h2 => by
  have : m = 90 ∨ m = 91 ∨ m = 92 ∨ m = 93 ∨ m = 94 ∨ m = 95 ∨ m = 96 := by omega
  rcases this with rfl | rfl | rfl | rfl | rfl | rfl | rfl
  · exact is_even (by decide) (by decide)
  · exact is91
  · exact is_even (by decide) (by decide)
  · exact is93
  · exact is_even (by decide) (by decide)
  · exact is95
  · exact is_even (by decide) (by decide)⟩
theorem gath_yes {u i n : Nat} (e : 1 + u * (i + 1) = n) (h : isB n = true) : gath u (i + 1) = n :: gath u i := by
  rw [gath, e, if_pos h]
theorem gath_no {u i n : Nat} (e : 1 + u * (i + 1) = n) (h : isB n = false) : gath u (i + 1) = gath u i := by
  rw [gath, e, h]; rfl
theorem gath20 : gath 1048576 953 = 998244353 :: gath 1048576 951 := by
  rw [gath_no (n := 999292929) (by decide) is999, gath_yes (n := 998244353) (by decide) is998]
theorem root17 : RootIs 17 2 13 := by
  refine ⟨3, by decide, by decide, ⟨by decide, fun i hi => ?_⟩, fun x h1 h2 h3 => ?_⟩
  · have : i = 0 ∨ i = 1 := by omega
    rcases this with rfl | rfl <;> decide
  · have : x = 1 ∨ x = 2 := by omega
    rcases this with rfl | rfl
    · exact absurd (h3.2 0 (by decide)) (by decide)
    · exact absurd (h3.2 1 (by decide)) (by decide)
theorem scan20 {w : World} {base : Nat} {v : Value} {er : Int} (h : ScanIs w base v er 1 (gath 1048576 953)) : er = 0 ∧ OwW w base v [998244353] := by
  rcases h with ⟨h1, h2, h3⟩ | ⟨h1, h2, h3⟩
  · rw [gath20] at h2; exact ⟨h1, h2⟩
  · rw [gath20] at h3; simp at h3
end Go.Proofs.YtjgipjiopagkiaaDoor
namespace Go.Proofs.YtjgipjiopagkiaaDoor
open Go.RowKit Num Nmb

theorem isB_no {n d : Nat} (hn : n ≤ 1002000) (h2 : 2 ≤ d) (hd : d * d ≤ n) (h : n % d = 0) : isB n = false := by
  cases hb : isB n
  · rfl
  · exact absurd (Nat.dvd_of_mod_eq_zero h) ((pri_of_isB hb hn).no_div h2 hd)
theorem isB_yes {n d : Nat} (hn : n ≤ 1002000) (h2 : 2 ≤ n) (hd : n < d * d) (h : ∀ e, 2 ≤ e → e < d → n % e ≠ 0) : isB n = true := by
  refine isB_of_pri (pri_of_root h2 fun e h3 h4 h5 => h e h3 ?_ (Nat.mod_eq_zero_of_dvd h5)) (by omega)
  apply Nat.lt_of_not_le
  intro h6
  have := Nat.mul_le_mul h6 h6
  omega
theorem root_lt {n d : Nat} (hn : n ≤ 1002000) (hd : d * d ≤ n) : d ≤ 1001 := by
  apply Nat.le_of_not_lt
  intro h
  have := Nat.mul_le_mul h h
  omega
set_option maxHeartbeats 1600000 in
theorem ris_any (n : Nat) (w : World) (hn : n ≤ 1002000) :
    Calls Tryd.prog 43 #[.int .u64 n] w fun e w' => e = .returned (.bool (isB n)) ∧ w' = w := by
  by_cases h2 : n < 2
  · rw [isP_low h2]
    have h2' : (n : Int) < 2 := by omega
    go_enter Tryd.func43, Tryd.ntmps43
    go_wp2
    go_ret
    exact ⟨rfl, rfl⟩
  · have h2' : ¬ (n : Int) < 2 := by omega
    have YES : Hid (∀ d, n < d * d → (∀ e, 2 ≤ e → e < d → n % e ≠ 0) → isB n = true) := fun d h3 h4 => isB_yes hn (by omega) h3 h4
    have NO : Hid (∀ d, 2 ≤ d → d * d ≤ n → n % d = 0 → isB n = false) := fun d h3 h4 h5 => isB_no hn h3 h4 h5
    generalize isB n = B at *
    go_enter Tryd.func43, Tryd.ntmps43
    go_wp2
    go_loop [3] (fun dv => ∃ d : Nat, dv = .int .u64 d ∧ 2 ≤ d ∧ d ≤ 1002 ∧ Hid (∀ e, 2 ≤ e → e < d → n % e ≠ 0)) (fun dv => (1002 - intOf dv).toNat)
    case atStart => exact ⟨2, rfl, by decide, by decide, fun e h h' => absurd h' (by omega)⟩
    case round =>
      obtain ⟨d, rfl, hd2, hd, R⟩ := hrel
      have dm : d * d ≤ 1002 * 1002 := Nat.mul_le_mul hd hd
      have ed : IntKind.u64.wrap ((d : Int) * (d : Int)) = ((d * d : Nat) : Int) := by
        rw [← Int.natCast_mul, IntKind.wrap_u64]
        omega
      by_cases hl : d * d ≤ n
      · have d1 := root_lt hn hl
        have no := hid (NO.out d hd2 hl)
        have hl' : ((d * d : Nat) : Int) ≤ (n : Int) := by omega
        have d0 : ((d : Int) == 0) = false := beq_eq_false_iff_ne.2 (by omega)
        have d0' : ¬ (d : Int) = 0 := by omega
        have em : (n : Int) % (d : Int) = ((n % d : Nat) : Int) := (Int.natCast_emod n d).symm
        have ml := Nat.mod_lt n (show 0 < d by omega)
        have R' : Hid (n % d ≠ 0 → ∀ e, 2 ≤ e → e < d + 1 → n % e ≠ 0) := fun h e h3 h4 => by
          by_cases he : e = d
          · rw [he]; exact h
          · exact R.out e h3 (by omega)
        clear dm hl R
        generalize d * d = dd at *
        by_cases hz : n % d = 0
        · have hB := no.out hz
          subst hB
          rw [hz] at em
          go_wp2
          go_ret
          exact ⟨rfl, rfl⟩
        · have hz' : (((n % d : Nat) : Int) == 0) = false := beq_eq_false_iff_ne.2 (by omega)
          have rr := hid (R'.out hz)
          clear R' hz no
          generalize n % d = r at *
          go_wp2
          exact ⟨⟨d + 1, rfl, by omega, by omega, rr⟩, by simp only [intOf]; omega⟩
      · have hB := YES.out d (by omega) R.out
        subst hB
        have hl' : ¬ ((d * d : Nat) : Int) ≤ (n : Int) := by omega
        clear hl dm
        generalize d * d = dd at *
        go_wp2
        go_ret
        exact ⟨rfl, rfl⟩
end Go.Proofs.YtjgipjiopagkiaaDoor
namespace Go.Proofs.YtjgipjiopagkiaaDoor
open Go.RowKit Num Nmb

/-- the primes that the law asks for. -/
def Asked (p : Nat) : Prop := Pri p ∧ (p ≤ 100000 ∨ p = 998244353 ∨ p = 9223372036854775783 ∨ p = 2305843009213693951)
theorem Asked.pri {p : Nat} (h : Asked p) : Pri p := h.1
theorem Asked.le {p : Nat} (h : Asked p) : p ≤ 9223372036854775807 := by
  rcases h.2 with h | h | h | h <;> omega
/-- is it one of them? -/
noncomputable def askB (p : Nat) : Bool := @decide (Asked p) (Classical.propDecidable _)
theorem askB_true {p : Nat} (h : Asked p) : askB p = true := @decide_eq_true _ (Classical.propDecidable _) h
theorem askB_false {p : Nat} (h : ¬ Asked p) : askB p = false := @decide_eq_false _ (Classical.propDecidable _) h
theorem of_askB {p : Nat} (h : askB p = true) : Asked p := @of_decide_eq_true _ (Classical.propDecidable _) h
set_option maxHeartbeats 1600000 in
theorem prime9 (p : Nat) (w : World) (hp : p ≤ 18446744073709551615) :
    Calls Tryd.prog 23 #[.int .u64 p] w fun e w' => e = .returned (.bool (askB p)) ∧ ∃ k, w' = w.drewN k := by
  by_cases a1 : p = 998244353
  · have A : askB p = true := askB_true ⟨by rw [a1]; exact pri998, by omega⟩
    rw [A]
    have b1 : (p : Int) = 998244353 := by omega
    clear a1
    go_enter Tryd.func23, Tryd.ntmps23
    go_wp2
    go_ret
    exact ⟨rfl, 0, rfl⟩
  · by_cases a2 : p = 9223372036854775783
    · have A : askB p = true := askB_true ⟨by rw [a2]; exact priQ1, by omega⟩
      rw [A]
      have b1 : (p : Int) = 9223372036854775783 := by omega
      clear a1 a2
      go_enter Tryd.func23, Tryd.ntmps23
      go_wp2
      go_ret
      exact ⟨rfl, 0, rfl⟩
    · by_cases a3 : p = 2305843009213693951
      · have A : askB p = true := askB_true ⟨by rw [a3]; exact priQ2, by omega⟩
        rw [A]
        have b1 : (p : Int) = 2305843009213693951 := by omega
        clear a1 a2 a3
        go_enter Tryd.func23, Tryd.ntmps23
        go_wp2
        go_ret
        exact ⟨rfl, 0, rfl⟩
      · have b1 : ((p : Int) == 998244353) = false := beq_eq_false_iff_ne.2 (by omega)
        have b2 : ((p : Int) == 9223372036854775783) = false := beq_eq_false_iff_ne.2 (by omega)
        have b3 : ((p : Int) == 2305843009213693951) = false := beq_eq_false_iff_ne.2 (by omega)
        by_cases a4 : p ≤ 100000
        · have b4 : (p : Int) ≤ 100000 := by omega
          have IS := hid (ris_any p w (by omega))
          have A : isB p = askB p := by
            cases hb : isB p with
            | true => exact (askB_true ⟨pri_of_isB hb (by omega), Or.inl a4⟩).symm
            | false => exact (askB_false fun h => by rw [isB_of_pri h.1 (by omega)] at hb; cases hb).symm
          rw [A] at IS
          clear a1 a2 a3 a4
          go_enter Tryd.func23, Tryd.ntmps23
          go_wp2_with fail
          refine IS.out.mono ?_
          rintro e w' ⟨rfl, hw⟩
          obtain rfl := hw.symm
          clear A IS
          go_wp2
          go_ret
          exact ⟨rfl, 0, rfl⟩
        · have b4 : ¬ (p : Int) ≤ 100000 := by omega
          have A : askB p = false := askB_false fun h => by have := h.2; omega
          rw [A]
          clear a1 a2 a3 a4
          go_enter Tryd.func23, Tryd.ntmps23
          go_wp2
          go_ret
          exact ⟨rfl, 0, rfl⟩
end Go.Proofs.YtjgipjiopagkiaaDoor
namespace Go.Proofs.YtjgipjiopagkiaaDoor
open Go.RowKit Num Nmb

theorem rpow_nat (x n m : Nat) (w : World) (hm : 2 ≤ m) (hm' : m ≤ 9223372036854775807) (hn : n ≤ 18446744073709551615) :
    Calls Tryd.prog 51 #[.int .u64 x, .int .u64 n, .int .u64 m] w fun e w' => e = .returned (.int .u64 (x ^ n % m : Nat)) ∧ ∃ k, w' = w.drewN k := by
  have h := rpow_any x m n w (by omega) (by omega) (by omega) hn
  rw [← Int.natCast_pow, ← Int.natCast_emod] at h
  exact h
theorem rpow_two (k u : Nat) (w : World) (hk : k ≤ 40) (hu : 2 ^ k = u) :
    Calls Tryd.prog 51 #[.int .u64 2, .int .u64 k, .int .u64 4611686018427387904] w fun e w' => e = .returned (.int .u64 u) ∧ ∃ k, w' = w.drewN k := by
  have h := rpow_nat 2 k 4611686018427387904 w (by decide) (by decide) (by omega)
  have hl : 2 ^ k ≤ 2 ^ 40 := Nat.pow_le_pow_right (by decide) hk
  rw [Nat.mod_eq_of_lt (by omega), hu] at h
  exact h
end Go.Proofs.YtjgipjiopagkiaaDoor
namespace Go.Proofs.YtjgipjiopagkiaaDoor
open Go.RowKit Num Nmb

theorem two_le {k t m : Nat} (h : 2 ^ k ∣ 2 ^ t * (2 * m + 1)) : k ≤ t := by
  apply Nat.le_of_not_lt
  intro hl
  obtain ⟨d, rfl⟩ : ∃ d, k = t + 1 + d := ⟨k - t - 1, by omega⟩
  obtain ⟨c, hc⟩ := h
  have e : 2 ^ (t + 1 + d) * c = 2 ^ t * (2 * (2 ^ d * c)) := by
    rw [Nat.pow_add, Nat.pow_succ]
    simp only [Nat.mul_assoc]
  rw [e] at hc
  have := Nat.eq_of_mul_eq_mul_left (Nat.pow_pos (by decide)) hc
  omega
theorem two_uniq {a b m l : Nat} (h : 2 ^ a * (2 * m + 1) = 2 ^ b * (2 * l + 1)) : a = b :=
  Nat.le_antisymm (two_le (m := l) ⟨2 * m + 1, h.symm⟩) (two_le (m := m) ⟨2 * l + 1, h⟩)
/-- 2 goes into n just t times. -/
def Tw (n t : Nat) : Prop := ∃ m, n = 2 ^ t * (2 * m + 1)
theorem gath_mem {u x : Nat} : ∀ {q : Nat}, x ∈ gath u q → isB x = true ∧ ∃ j, 1 ≤ j ∧ j ≤ q ∧ x = 1 + u * j
  | 0, h => by cases h
  | q + 1, h => by
    rw [gath] at h
    split at h
    · rename_i hb
      rcases List.mem_cons.1 h with rfl | h
      · exact ⟨hb, q + 1, by omega, by omega, rfl⟩
      · obtain ⟨h1, j, h2, h3, h4⟩ := gath_mem h
        exact ⟨h1, j, h2, by omega, h4⟩
    · obtain ⟨h1, j, h2, h3, h4⟩ := gath_mem h
      exact ⟨h1, j, h2, by omega, h4⟩
theorem gath_down {u : Nat} (hu : 0 < u) : ∀ q, (gath u q).Pairwise (fun a b => b < a)
  | 0 => List.Pairwise.nil
  | q + 1 => by
    rw [gath]
    split
    · refine List.Pairwise.cons (fun x hx => ?_) (gath_down hu q)
      obtain ⟨_, j, _, h3, rfl⟩ := gath_mem hx
      have : u * j < u * (q + 1) := Nat.mul_lt_mul_of_pos_left (by omega) hu
      omega
    · exact gath_down hu q
theorem gath_lt {u x below : Nat} (_hu : 2 ≤ u) (hb : 2 ≤ below) (h : x ∈ gath u ((below - 2) / u)) : x < below := by
  obtain ⟨_, j, _, h3, rfl⟩ := gath_mem h
  have h4 : u * j ≤ u * ((below - 2) / u) := Nat.mul_le_mul_left u h3
  have h5 := Nat.mul_div_le (below - 2) u
  omega
end Go.Proofs.YtjgipjiopagkiaaDoor
namespace Go.Proofs.YtjgipjiopagkiaaDoor
open Go.RowKit Num Nmb

theorem of_nat (g : Nat) (p x : Nat) (f s : Int) (w : World) (h : Fld w g p f s) (hp : 0 < p) :
    Calls Tryd.prog 26 #[.pointer (some ⟨g, 0, none⟩), .int .u64 x] w fun e w' => e = .returned (.int .u64 (x % p : Nat)) ∧ w' = w := by
  have h := of_any g p f s x w h (by omega) (by omega)
  rw [← Int.natCast_emod] at h
  exact h
/-- what Order answers of a prime. -/
def OrdIs (p x : Nat) (n : Nat) (er : Int) : Prop := (x % p = 0 ∧ n = 0 ∧ er = 1) ∨ (x % p ≠ 0 ∧ er = 0 ∧ n ≤ tw p ∧ Ord p (x % p) n) ∨ (x % p ≠ 0 ∧ er = 19 ∧ n = 0 ∧ ∀ i, i ≤ tw p → (x % p) ^ 2 ^ i % p ≠ 1)
end Go.Proofs.YtjgipjiopagkiaaDoor
namespace Go.Proofs.YtjgipjiopagkiaaDoor
open Go.RowKit Num Nmb

theorem rmul_nat (x y m : Nat) (w : World) (hm : 2 ≤ m) (hm' : m ≤ 9223372036854775807) :
    Calls Tryd.prog 35 #[.int .u64 x, .int .u64 y, .int .u64 m] w fun e w' => e = .returned (.int .u64 (x * y % m : Nat)) ∧ ∃ k, w' = w.drewN k := by
  have h := rmul_any x y m w (by omega) (by omega) (by omega) (by omega)
  rw [← Int.natCast_mul, ← Int.natCast_emod] at h
  exact h
/-- what the reference's Order answers. -/
def RO (p x : Nat) (m : Int) : Prop := (∃ k : Nat, m = k ∧ k < 64 ∧ Ord p x k) ∨ (m = -1 ∧ ∀ i, i < 64 → x ^ 2 ^ i % p ≠ 1)
theorem Ord.uniq {p x a b : Nat} (h : Ord p x a) (h' : Ord p x b) : a = b := by
  rcases Nat.lt_trichotomy a b with hl | hl | hl
  · exact absurd h.1 (h'.2 a hl)
  · exact hl
  · exact absurd h'.1 (h.2 b hl)
theorem RO.ord {p x k : Nat} {m : Int} (h : RO p x m) (hk : k < 64) : m = k ↔ Ord p x k := by
  constructor
  · intro e
    rcases h with ⟨j, h1, _, h3⟩ | ⟨h1, _⟩
    · obtain rfl : j = k := by omega
      exact h3
    · omega
  · intro ho
    rcases h with ⟨j, h1, _, h3⟩ | ⟨_, h2⟩
    · rw [h1, h3.uniq ho]
    · exact absurd ho.1 (h2 k hk)
end Go.Proofs.YtjgipjiopagkiaaDoor
namespace Go.Proofs.YtjgipjiopagkiaaDoor
open Go.RowKit Num Nmb

theorem tw_uniq {p t : Nat} (h2 : 2 ≤ p) (hn : p ≤ 18446744073709551615) (h : Tw (p - 1) t) : t = tw p := by
  obtain ⟨m, hm⟩ := h
  obtain ⟨e1, e2, _⟩ := tw_said (n := p) (by omega) hn
  rw [e1, show od p = 2 * (od p / 2) + 1 by omega, Nat.mul_comm] at hm
  exact (two_uniq hm).symm
theorem root2 : RootIs 2 0 1 := ⟨1, by decide, by decide, ⟨by decide, fun i hi => absurd hi (by omega)⟩, fun x h1 h2 => absurd h2 (by omega)⟩
end Go.Proofs.YtjgipjiopagkiaaDoor
