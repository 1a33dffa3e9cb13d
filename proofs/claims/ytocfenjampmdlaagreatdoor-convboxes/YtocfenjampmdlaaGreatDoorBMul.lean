/- What 'addTimes' and 'Mul' do: the product of two numbers, word by word. -/
import Derived.Test.YtocfenjampmdlaaGreatDoorBAdd
import Derived.Test.YtocfenjampmdlaaGreatDoorBShelf
namespace Go.Proofs.YtocfenjampmdlaaGreatDoor.B
open Go.RowKit NumB

theorem mul64 (x y : Int) (hx : 0 ≤ x) (hx' : x ≤ 18446744073709551615) (hy : 0 ≤ y) (hy' : y ≤ 18446744073709551615) (w : World) :
    Calls Tryz.prog 87 #[.int .u64 x, .int .u64 y] w fun e w' => e = .returned (.tuple #[.int .u64 (hi (x * y)), .int .u64 (lo (x * y))]) ∧ w' = w := by
  obtain ⟨x, rfl⟩ := Int.eq_ofNat_of_zero_le hx
  obtain ⟨y, rfl⟩ := Int.eq_ofNat_of_zero_le hy
  have h := Tryz.bits_Mul64 x y (by omega) (by omega) w
  have e1 : ((x * y / 18446744073709551616 : Nat) : Int) = hi ((x : Int) * y) := by unfold hi; rw [← Int.natCast_mul]; omega
  have e2 : ((x * y % 18446744073709551616 : Nat) : Int) = lo ((x : Int) * y) := by unfold lo; rw [← Int.natCast_mul]; omega
  rw [← e1, ← e2]
  exact h

theorem nil_nz (w : World) : Nz w (.slice none 0 0) 0 0 :=
  ⟨fun _ => 0, 0, ⟨none, 0, rfl, Nat.le_refl _, by omega, (fun j hj => absurd hj (by omega)), (fun _ => rfl), (fun h => absurd h (by omega))⟩, Or.inl rfl, rfl⟩

/-- a number without words 0 at its end, in memory from block B on (or without words). -/
def NzF (B : Nat) (w : World) (v : Value) (k : Nat) (a : Int) : Prop :=
  Nz w v k a ∧ ∀ g, g < B → ∃ x o, SlN g w v k x o ∧ Nm x o k ∧ V x o k = a
theorem Own.nzf {B : Nat} {w : World} {v : Value} {k : Nat} {a : Int} (h : Own B w v k a) : NzF B w v k a := by
  refine ⟨h.nz, fun g' hg' => ?_⟩
  obtain ⟨g, N, X, rfl, h1, h2, h3, h4, h5, h6, h7⟩ := h
  exact ⟨X, 0, ⟨_, k, rfl, Nat.le_refl _, h7, h4, (fun e => by cases e), fun _ => ⟨g, 0, rfl, h1.lt, by omega, fun j hj => by rw [Nat.zero_add]; exact h1.cell (by omega)⟩⟩, h5, h6⟩
theorem nil_nzf (B : Nat) (w : World) : NzF B w (.slice none 0 0) 0 0 :=
  ⟨nil_nz w, fun g _ => ⟨fun _ => 0, 0, ⟨none, 0, rfl, Nat.le_refl _, by omega, (fun j hj => absurd hj (by omega)), (fun _ => rfl), (fun h => absurd h (by omega))⟩, Or.inl rfl, rfl⟩⟩
theorem NzF.mono {B B' : Nat} {w : World} {v : Value} {k : Nat} {a : Int} (h : NzF B w v k a) (hB : B' ≤ B) : NzF B' w v k a := ⟨h.1, fun g hg => h.2 g (by omega)⟩

end Go.Proofs.YtocfenjampmdlaaGreatDoor.B
