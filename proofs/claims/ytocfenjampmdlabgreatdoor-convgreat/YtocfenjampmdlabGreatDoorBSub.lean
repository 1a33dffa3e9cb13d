/- What 'takeFrom' and 'Sub' do: the difference of two numbers. -/
import Derived.Test.YtocfenjampmdlabGreatDoorBDivm
namespace Go.Proofs.YtocfenjampmdlabGreatDoor.B
open Go.RowKit NumB

theorem dl_db (x y b : Int) (hx : 0 ≤ x ∧ x ≤ 18446744073709551615) (hy : 0 ≤ y ∧ y ≤ 18446744073709551615) (hb : 0 ≤ b ∧ b ≤ 1) :
    dl x y b = x - y - b + db x y b * 18446744073709551616 ∧ 0 ≤ dl x y b ∧ dl x y b ≤ 18446744073709551615 ∧ 0 ≤ db x y b ∧ db x y b ≤ 1 := by
  unfold dl db; split <;> omega
theorem borrow_step (x : Nat → Int) (o k : Nat) (a c t : Int) (hx : 0 ≤ x (o + k) ∧ x (o + k) ≤ 18446744073709551615) (ha : 0 ≤ a ∧ a ≤ 18446744073709551615) (hc : 0 ≤ c ∧ c ≤ 1) (h : V x o k - c * P k = t) :
    V (upd x (o + k) (dl (x (o + k)) a c)) o (k + 1) - db (x (o + k)) a c * P (k + 1) = t + x (o + k) * P k - a * P k := by
  rw [V_upd_top]
  have e := (dl_db _ a c hx ha hc).1
  generalize dl (x (o + k)) a c = l at *
  generalize db (x (o + k)) a c = m at *
  simp only [P]
  generalize P k = q at *
  generalize x (o + k) = u at *
  rw [← h, e]
  grind

/-- what the loops of 'takeFrom' keep. -/
def SubRel (g N oz : Nat) (X : Nat → Int) (w : World) (k : Nat) (t c : Int) (X' : Nat → Int) (wr : World) : Prop :=
  Row wr g N X' ∧ Only g w wr ∧ V X' oz k - c * P k = t ∧ Wd X' oz k ∧ (∀ j, j < oz ∨ oz + k ≤ j → X' j = X j) ∧ 0 ≤ c ∧ c ≤ 1

theorem SubRel.step {g N oz : Nat} {X : Nat → Int} {w : World} {k : Nat} {t c : Int} {X' : Nat → Int} {wr : World} (h : SubRel g N oz X w k t c X' wr) (a : Int)
    (ha : 0 ≤ a ∧ a ≤ 18446744073709551615) (hx : 0 ≤ X (oz + k) ∧ X (oz + k) ≤ 18446744073709551615) :
    SubRel g N oz X w (k + 1) (t + X (oz + k) * P k - a * P k) (db (X' (oz + k)) a c) (upd X' (oz + k) (dl (X' (oz + k)) a c))
      (wr.setCell ⟨g, oz + k, none⟩ (.int .u64 (dl (X' (oz + k)) a c))) := by
  obtain ⟨h1, h2, h3, h4, h5, h6, h7⟩ := h
  have e := h5 (oz + k) (Or.inr (Nat.le_refl _))
  have hx' : 0 ≤ X' (oz + k) ∧ X' (oz + k) ≤ 18446744073709551615 := by rw [e]; exact hx
  have hs := borrow_step X' oz k a c t hx' ha ⟨h6, h7⟩ h3
  obtain ⟨_, d1, d2, d3, d4⟩ := dl_db (X' (oz + k)) a c hx' ha ⟨h6, h7⟩
  refine ⟨h1.set _ _, h2.set _ _, ?_, ?_, ?_, d3, d4⟩
  · rw [hs, e]
  · intro j hj
    by_cases hjk : j = k
    · subst hjk; rw [upd_same]; exact ⟨d1, d2⟩
    · rw [upd_other _ _ _ _ (by omega)]; exact h4 j (by omega)
  · intro j hj; rw [upd_other _ _ _ _ (by omega)]; exact h5 j (by omega)

/-- the view that 'trimmed' answers. -/
def trimV (v : Value) (k : Nat) : Value := match v with
  | .slice ao _ _ => .slice ao k k
  | u => u
theorem trimmed_val (v : Value) (n : Nat) (x : Nat → Int) (o : Nat) (w : World) (h : Sl w v n x o) :
    Calls Tryz.prog 30 #[v] w fun e w' => e = .returned (trimV v (tr x o n)) ∧ w' = w := by
  obtain ⟨ao, cap, rfl, h1, h2, h3, h4, h5⟩ := h
  cases n with
  | zero => exact trimmed_nil ao cap w h4 h2
  | succ n =>
    obtain ⟨b, off, rfl, hb, hc⟩ := h5 (by omega)
    exact trimmed_pos b off (n + 1) cap x o w h1 h2 hc
theorem Sl.trim {w : World} {v : Value} {n : Nat} {x : Nat → Int} {o : Nat} (h : Sl w v n x o) : Sl w (trimV v (tr x o n)) (tr x o n) x o := by
  obtain ⟨ao, cap, rfl, h1, h2, h3, h4, h5⟩ := h
  have hl := tr_le x o n
  refine ⟨ao, tr x o n, rfl, Nat.le_refl _, by omega, h3.mono hl, fun e => ?_, fun hpos => ?_⟩
  · have := h4 e; omega
  · obtain ⟨b, off, rfl, hb, hc⟩ := h5 (by omega)
    exact ⟨b, off, rfl, hb, fun j hj => hc j (by omega)⟩
/-- 'trimmed' in a later world: what it answers is a number of the elder one, too. -/
theorem trimmed_old (v : Value) (n : Nat) (a : Int) (w0 w : World) (h : Nt w0 v n a) (hb : Below w0.heap.size w0 w) :
    Calls Tryz.prog 30 #[v] w fun e w' => (∃ v' k, e = .returned v' ∧ Nz w0 v' k a ∧ k ≤ n) ∧ w' = w := by
  obtain ⟨x, o, h1, rfl⟩ := h
  refine (trimmed_val v n x o w (h1.below hb)).mono ?_
  rintro e w' ⟨rfl, rfl⟩
  exact ⟨⟨_, _, rfl, ⟨x, o, h1.trim, tr_nm x o n, V_tr x o n⟩, tr_le x o n⟩, rfl⟩
/-- a number is no shorter than a smaller one without words 0 at its end. -/
theorem Nz.le_len {w w2 : World} {v v2 : Value} {k n : Nat} {a b : Int} (h : Nz w v k a) (h2 : Nt w2 v2 n b) (hab : a ≤ b) : k ≤ n := by
  obtain ⟨x, o, h1, h3, rfl⟩ := h
  apply Nat.le_of_not_lt
  intro hlt
  obtain ⟨j, rfl⟩ : ∃ j, k = j + 1 := ⟨k - 1, by omega⟩
  have := V_ge h1.wd (by rcases h3 with h | h; omega; simpa using h)
  have := h2.lt
  have := P_le (show n ≤ j by omega)
  omega

end Go.Proofs.YtocfenjampmdlabGreatDoor.B
