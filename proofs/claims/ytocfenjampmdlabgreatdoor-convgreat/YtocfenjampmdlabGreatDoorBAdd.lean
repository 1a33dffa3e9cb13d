/- What 'addTo' and 'Add' do: the sum of two numbers. -/
import Derived.Test.YtocfenjampmdlabGreatDoorBOps
namespace Go.Proofs.YtocfenjampmdlabGreatDoor.B
open Go.RowKit NumB

/-- what the first loop of 'addTo' keeps. -/
def AddRel (g N oz : Nat) (X : Nat → Int) (w : World) (k : Nat) (t c : Int) (X' : Nat → Int) (wr : World) : Prop :=
  Row wr g N X' ∧ Only g w wr ∧ V X' oz k + c * P k = t ∧ Wd X' oz k ∧ (∀ j, j < oz ∨ oz + k ≤ j → X' j = X j) ∧ 0 ≤ c ∧ c ≤ 1

theorem AddRel.step {g N oz : Nat} {X : Nat → Int} {w : World} {k : Nat} {t c : Int} {X' : Nat → Int} {wr : World} (h : AddRel g N oz X w k t c X' wr) (a : Int)
    (ha : 0 ≤ a ∧ a ≤ 18446744073709551615) (hx : 0 ≤ X (oz + k) ∧ X (oz + k) ≤ 18446744073709551615) :
    AddRel g N oz X w (k + 1) (t + X (oz + k) * P k + a * P k) (hi (X' (oz + k) + a + c)) (upd X' (oz + k) (lo (X' (oz + k) + a + c)))
      (wr.setCell ⟨g, oz + k, none⟩ (.int .u64 (lo (X' (oz + k) + a + c)))) := by
  obtain ⟨h1, h2, h3, h4, h5, h6, h7⟩ := h
  have e := h5 (oz + k) (Or.inr (Nat.le_refl _))
  have hs := carry_step X' oz k a c t h3
  refine ⟨h1.set _ _, h2.set _ _, ?_, ?_, ?_, ?_⟩
  · rw [hs, e]
  · intro j hj
    by_cases hjk : j = k
    · subst hjk; rw [upd_same]; exact ⟨lo_nonneg _, lo_le _⟩
    · rw [upd_other _ _ _ _ (by omega)]; exact h4 j (by omega)
  · intro j hj; rw [upd_other _ _ _ _ (by omega)]; exact h5 j (by omega)
  · rw [e]; exact hi_le1 _ (by omega) (by omega)

/-- 'v' is a slice of k words whose number is a. -/
def Nt (w : World) (v : Value) (k : Nat) (a : Int) : Prop := ∃ x o, Sl w v k x o ∧ V x o k = a
/-- .. and no word 0 stands at its end. -/
def Nz (w : World) (v : Value) (k : Nat) (a : Int) : Prop := ∃ x o, Sl w v k x o ∧ Nm x o k ∧ V x o k = a
theorem Nz.nt {w : World} {v : Value} {k : Nat} {a : Int} (h : Nz w v k a) : Nt w v k a := by
  obtain ⟨x, o, h1, _, h3⟩ := h; exact ⟨x, o, h1, h3⟩
theorem Nt.below {w w' : World} {v : Value} {k : Nat} {a : Int} (h : Nt w v k a) (hb : Below w.heap.size w w') : Nt w' v k a := by
  obtain ⟨x, o, h1, h3⟩ := h; exact ⟨x, o, h1.below hb, h3⟩
theorem Nz.below {w w' : World} {v : Value} {k : Nat} {a : Int} (h : Nz w v k a) (hb : Below w.heap.size w w') : Nz w' v k a := by
  obtain ⟨x, o, h1, h2, h3⟩ := h; exact ⟨x, o, h1.below hb, h2, h3⟩
theorem Nt.nonneg {w : World} {v : Value} {k : Nat} {a : Int} (h : Nt w v k a) : 0 ≤ a := by
  obtain ⟨x, o, ⟨_, _, _, _, _, hw, _⟩, rfl⟩ := h; exact (V_bd k hw).1
theorem Nt.lt {w : World} {v : Value} {k : Nat} {a : Int} (h : Nt w v k a) : a < P k := by
  obtain ⟨x, o, ⟨_, _, _, _, _, hw, _⟩, rfl⟩ := h; exact (V_bd k hw).2
theorem trimmed_nt (v : Value) (n : Nat) (a : Int) (w : World) (h : Nt w v n a) :
    Calls Tryz.prog 30 #[v] w fun e w' => (∃ v' k, e = .returned v' ∧ Nz w v' k a ∧ k ≤ n) ∧ w' = w := by
  obtain ⟨x, o, h1, rfl⟩ := h
  refine (trimmed_any v n x o w h1).mono ?_
  rintro e w' ⟨⟨v', rfl, s⟩, rfl⟩
  exact ⟨⟨v', _, rfl, ⟨x, o, s, tr_nm x o n, V_tr x o n⟩, tr_le x o n⟩, rfl⟩

/-- 'v' is the front of a row of the call's own (from block B on), without words 0 at its end, and its number is a. -/
def Own (B : Nat) (w : World) (v : Value) (k : Nat) (a : Int) : Prop :=
  ∃ g N X, v = .slice (some ⟨g, 0, none⟩) k k ∧ Row w g N X ∧ k ≤ N ∧ B ≤ g ∧ Wd X 0 k ∧ Nm X 0 k ∧ V X 0 k = a ∧ k ≤ 9223372036854775807
theorem Own.nz {B : Nat} {w : World} {v : Value} {k : Nat} {a : Int} (h : Own B w v k a) : Nz w v k a := by
  obtain ⟨g, N, X, rfl, h1, h2, _, h4, h5, h6, h7⟩ := h
  exact ⟨X, 0, h1.sl 0 k k (by omega) (Nat.le_refl _) h7 h4, h5, h6⟩
theorem trimmed_own (B g n N : Nat) (X : Nat → Int) (a : Int) (w : World) (hr : Row w g N X) (hn : n ≤ N) (hB : B ≤ g) (hw : Wd X 0 n) (hv : V X 0 n = a) (hb : n ≤ 9223372036854775807) :
    Calls Tryz.prog 30 #[.slice (some ⟨g, 0, none⟩) n n] w fun e w' => (∃ v k, e = .returned v ∧ Own B w v k a ∧ k ≤ n) ∧ w' = w := by
  refine (trimmed_pos g 0 n n X 0 w (Nat.le_refl _) hb (fun j hj => by rw [Nat.zero_add]; exact hr.cell (by omega))).mono ?_
  rintro e w' ⟨rfl, rfl⟩
  have hl := tr_le X 0 n
  exact ⟨⟨_, _, rfl, ⟨g, N, X, rfl, hr, by omega, hB, hw.mono hl, tr_nm X 0 n, by rw [V_tr, hv], by omega⟩, hl⟩, rfl⟩

theorem add_room {a b : Int} {n m : Nat} (ha : a < P n) (hb : b < P m) (h : m ≤ n) : a + b < P (n + 1) := by
  have := P_le h
  have := P_pos n
  simp only [P]
  omega

theorem over_wd {n : Nat} {y : Nat → Int} {p : Nat} (k : Nat) (h : Wd y p n) : Wd (over (fun _ => 0) 0 n y p) 0 k := by
  intro j _
  by_cases hj : j < n
  · rw [over_in hj]; exact h j hj
  · rw [over_out (by omega)]; decide
theorem over_V {n : Nat} {y : Nat → Int} {p : Nat} (k : Nat) (hk : n ≤ k) : V (over (fun _ => 0) 0 n y p) 0 k = V y p n := by
  obtain ⟨r, rfl⟩ := Nat.le.dest hk
  rw [V_split]
  rw [V_congr (y := y) (p := p) n (fun j hj => over_in hj), V_zero r (fun j hj => over_out (by omega))]
  omega
theorem Sl.wd {w : World} {v : Value} {n : Nat} {x : Nat → Int} {o : Nat} (h : Sl w v n x o) : Wd x o n := by
  obtain ⟨_, _, _, _, _, hw, _⟩ := h; exact hw
theorem sum_nt {w : World} {g k : Nat} {X : Nat → Int} {t s : Int} (hR : Row w g k X) (hW : Wd X 0 k) (hV : V X 0 k = t) (e : t = s) (hk : k ≤ 9223372036854775807) : Nt w (.slice (some ⟨g, 0, none⟩) k k) k s :=
  ⟨X, 0, hR.sl 0 k k (by omega) (Nat.le_refl _) hk hW, by rw [hV, e]⟩

end Go.Proofs.YtocfenjampmdlabGreatDoor.B
