/- What a slice of words is in memory, what a call may have done to memory, and what 'trimmed' answers: a view without the words 0 at the end. -/
import Derived.Test.YtocfenjampmdlaaGreatDoorRows
import Derived.Test.YtocfenjampmdlaaGreatDoorBLeh
import Derived.WalkKit
import Derived.WalkSpells
import Derived.WalkLawsBesides
import Derived.Shelf.Spec.BitsCarry
namespace Go.Proofs.YtocfenjampmdlaaGreatDoor.B
open Go.RowKit NumB

theorem hid {p : Prop} (h : p) : Hid p := h

/-- 'v' is a slice of n words: those of x from place o on. -/
def Sl (w : World) (v : Value) (n : Nat) (x : Nat → Int) (o : Nat) : Prop :=
  ∃ ao cap, v = .slice ao n cap ∧ n ≤ cap ∧ cap ≤ 9223372036854775807 ∧ Wd x o n ∧ (ao = none → cap = 0) ∧
    (0 < n → ∃ b off, ao = some ⟨b, off, none⟩ ∧ b < w.heap.size ∧ ∀ j, j < n → w.cell? ⟨b, off + j, none⟩ = some (.int .u64 (x (o + j))))

theorem Sl.below {w w' : World} {v : Value} {n : Nat} {x : Nat → Int} {o : Nat} (h : Sl w v n x o) (hb : Below w.heap.size w w') : Sl w' v n x o := by
  obtain ⟨ao, cap, rfl, h1, h2, h3, h4, h5⟩ := h
  refine ⟨ao, cap, rfl, h1, h2, h3, h4, fun hn => ?_⟩
  obtain ⟨b, off, rfl, hbs, hc⟩ := h5 hn
  refine ⟨b, off, rfl, Nat.lt_of_lt_of_le hbs hb.size, fun j hj => ?_⟩
  rw [hb.cell (p := ⟨b, off + j, none⟩) hbs]; exact hc j hj

/-- block g holds n words x. -/
def Row (w : World) (g n : Nat) (x : Nat → Int) : Prop :=
  ∃ cur : Array Value, w.heap[g]? = some (.cells cur 23 (0, 0)) ∧ cur.size = n ∧ ∀ j, j < n → cur[j]? = some (.int .u64 (x j))

theorem Row.lt {w : World} {g n : Nat} {x : Nat → Int} (h : Row w g n x) : g < w.heap.size := by
  obtain ⟨cur, hg, _⟩ := h
  exact (Array.getElem?_eq_some_iff.1 hg).1
theorem Row.cell {w : World} {g n : Nat} {x : Nat → Int} (h : Row w g n x) {i : Nat} (hi : i < n) : w.cell? ⟨g, i, none⟩ = some (.int .u64 (x i)) := by
  obtain ⟨cur, hg, _, hc⟩ := h
  simp [World.cell?, hg, hc i hi]
theorem Row.frozen {w : World} {g n : Nat} {x : Nat → Int} (h : Row w g n x) (i : Nat) : w.frozen? ⟨g, i, none⟩ = false := by
  obtain ⟨cur, hg, _, hc⟩ := h
  simp [World.frozen?, hg]
theorem Row.set {w : World} {g n : Nat} {x : Nat → Int} (h : Row w g n x) (i : Nat) (v : Int) : Row (w.setCell ⟨g, i, none⟩ (.int .u64 v)) g n (upd x i v) := by
  obtain ⟨cur, hg, hs, hc⟩ := h
  refine ⟨cur.setIfInBounds i (.int .u64 v), ?_, by simpa using hs, fun j hj => ?_⟩
  · rw [heap_setCell_same w g i cur 23 _ hg]
  · by_cases e : j = i
    · subst e; rw [Array.getElem?_setIfInBounds]; simp [hs, hj, upd_same]
    · rw [Array.getElem?_setIfInBounds]; simp [Ne.symm e, upd_other x i j v e, hc j hj]
theorem Row.congr {w : World} {g n : Nat} {x y : Nat → Int} (h : Row w g n x) (e : ∀ j, j < n → x j = y j) : Row w g n y := by
  obtain ⟨cur, hg, hs, hc⟩ := h
  exact ⟨cur, hg, hs, fun j hj => by rw [hc j hj, e j hj]⟩

/-- of all memory block g alone may have turned, and no block is new. -/
structure Only (g : Nat) (w w' : World) : Prop where
  os : w'.os = w.os
  tape : w'.tape = w.tape
  output : w'.output = w.output
  size : w'.heap.size = w.heap.size
  block : ∀ k, k ≠ g → w'.heap[k]? = w.heap[k]?
theorem Only.refl (g : Nat) (w : World) : Only g w w := ⟨rfl, rfl, rfl, rfl, fun _ _ => rfl⟩
theorem Only.trans {g : Nat} {a b c : World} (h : Only g a b) (k : Only g b c) : Only g a c :=
  ⟨k.os.trans h.os, k.tape.trans h.tape, k.output.trans h.output, k.size.trans h.size, fun i hi => (k.block i hi).trans (h.block i hi)⟩
theorem Only.set {g : Nat} {a w : World} (h : Only g a w) (i : Nat) (v : Value) : Only g a (w.setCell ⟨g, i, none⟩ v) :=
  h.trans ⟨rfl, rfl, rfl, by simp [World.setCell], fun k hk => heap_setCell_other w ⟨g, i, none⟩ k v hk⟩
theorem Only.below {g B : Nat} {w w' : World} (h : Only g w w') (hB : B ≤ g) : Below B w w' :=
  ⟨h.os, h.tape, h.output, by rw [h.size]; exact Nat.le_refl _, fun k hk => h.block k (by omega)⟩
theorem Only.cell {g : Nat} {w w' : World} (h : Only g w w') {p : Addr} (hp : p.block ≠ g) : w'.cell? p = w.cell? p := World.cell?_of_block (w := w) (h.block p.block hp)
theorem Only.row {g k n : Nat} {x : Nat → Int} {w w' : World} (h : Only g w w') (hk : k ≠ g) (r : Row w k n x) : Row w' k n x := by
  obtain ⟨cur, hg, hs, hc⟩ := r
  exact ⟨cur, by rw [h.block k hk]; exact hg, hs, hc⟩
theorem Below.row {B k n : Nat} {x : Nat → Int} {w w' : World} (h : Below B w w') (hk : k < B) (r : Row w k n x) : Row w' k n x := by
  obtain ⟨cur, hg, hs, hc⟩ := r
  exact ⟨cur, by rw [h.block k hk]; exact hg, hs, hc⟩
/-- a part of a row is a slice of words. -/
theorem Row.sl {w : World} {g N : Nat} {x : Nat → Int} (h : Row w g N x) (o n cap : Nat) (ho : o + n ≤ N) (hc : n ≤ cap) (hm : cap ≤ 9223372036854775807) (hw : Wd x o n) : Sl w (.slice (some ⟨g, o, none⟩) n cap) n x o :=
  ⟨_, cap, rfl, hc, hm, hw, (fun e => by cases e), fun _ => ⟨g, o, rfl, h.lt, fun j hj => h.cell (by omega)⟩⟩

/-- a slice of words that does not lie in block g. -/
def SlN (g : Nat) (w : World) (v : Value) (n : Nat) (x : Nat → Int) (o : Nat) : Prop :=
  ∃ ao cap, v = .slice ao n cap ∧ n ≤ cap ∧ cap ≤ 9223372036854775807 ∧ Wd x o n ∧ (ao = none → cap = 0) ∧
    (0 < n → ∃ b off, ao = some ⟨b, off, none⟩ ∧ b < w.heap.size ∧ b ≠ g ∧ ∀ j, j < n → w.cell? ⟨b, off + j, none⟩ = some (.int .u64 (x (o + j))))
theorem Sl.apart {w w' : World} {v : Value} {n : Nat} {x : Nat → Int} {o g : Nat} (h : Sl w v n x o) (hb : Below w.heap.size w w') (hg : w.heap.size ≤ g) : SlN g w' v n x o := by
  obtain ⟨ao, cap, rfl, h1, h2, h3, h4, h5⟩ := h
  refine ⟨ao, cap, rfl, h1, h2, h3, h4, fun hn => ?_⟩
  obtain ⟨b, off, rfl, hbs, hc⟩ := h5 hn
  refine ⟨b, off, rfl, Nat.lt_of_lt_of_le hbs hb.size, by omega, fun j hj => ?_⟩
  rw [hb.cell (p := ⟨b, off + j, none⟩) hbs]; exact hc j hj
theorem SlN.only {g : Nat} {w w' : World} {v : Value} {n : Nat} {x : Nat → Int} {o : Nat} (h : SlN g w v n x o) (hb : Only g w w') : SlN g w' v n x o := by
  obtain ⟨ao, cap, rfl, h1, h2, h3, h4, h5⟩ := h
  refine ⟨ao, cap, rfl, h1, h2, h3, h4, fun hn => ?_⟩
  obtain ⟨b, off, rfl, hbs, hbg, hc⟩ := h5 hn
  refine ⟨b, off, rfl, by rw [hb.size]; exact hbs, hbg, fun j hj => ?_⟩
  rw [hb.cell (p := ⟨b, off + j, none⟩) hbg]; exact hc j hj

theorem add64 (x y c : Int) (hx : 0 ≤ x) (hy : 0 ≤ y) (hc0 : 0 ≤ c) (hc : c ≤ 1) (w : World) :
    (callFunc 97 #[.int .u64 x, .int .u64 y, .int .u64 c]).run Tryz.prog w = .ok (.value (.tuple #[.int .u64 (lo (x + y + c)), .int .u64 (hi (x + y + c))])) w := by
  obtain ⟨x, rfl⟩ := Int.eq_ofNat_of_zero_le hx
  obtain ⟨y, rfl⟩ := Int.eq_ofNat_of_zero_le hy
  obtain ⟨c, rfl⟩ := Int.eq_ofNat_of_zero_le hc0
  rw [run_callFunc_extern Tryz.func97 (by kernel_rfl) (by kernel_rfl) (by kernel_rfl) (e := add64Entry) (by kernel_rfl), run_add64 x y c (by omega) (by omega) (by omega) (by omega)]
  simp only [Result.andThen, lo, hi]
theorem add64_0 (x y : Int) (hx : 0 ≤ x) (hy : 0 ≤ y) (w : World) :
    (callFunc 97 #[.int .u64 x, .int .u64 y, .int .u64 0]).run Tryz.prog w = .ok (.value (.tuple #[.int .u64 (lo (x + y)), .int .u64 (hi (x + y))])) w := by
  simpa using add64 x y 0 hx hy (Int.le_refl 0) (by decide) w
/-- the difference and the borrow. -/
def dl (x y b : Int) : Int := (x - y - b) % 18446744073709551616
def db (x y b : Int) : Int := if x < y + b then 1 else 0
theorem ret_slice {a : Option Addr} {n m c d : Nat} (h : n = m) (k : c = d) : Ending.returned (.slice a n c) = .returned (.slice a m d) := by rw [h, k]

set_option maxHeartbeats 400000 in
theorem trimmed_pos (b off n cap : Nat) (x : Nat → Int) (o : Nat) (w : World) (hcap : n ≤ cap) (hbig : cap ≤ 9223372036854775807) (hc : ∀ j, j < n → w.cell? ⟨b, off + j, none⟩ = some (.int .u64 (x (o + j)))) :
    Calls Tryz.prog 56 #[.slice (some ⟨b, off, none⟩) n cap] w fun e w' => e = .returned (.slice (some ⟨b, off, none⟩) (tr x o n) (tr x o n)) ∧ w' = w := by
  go_enter Tryz.func56, Tryz.ntmps56
  go_wp2
  go_loop [3] (fun i => ∃ k : Nat, k ≤ n ∧ i = .int .i64 k ∧ tr x o k = tr x o n) (fun i => (intOf i).toNat)
  case atStart => exact ⟨n, Nat.le_refl _, rfl, rfl⟩
  case round =>
    obtain ⟨k, hk, rfl, ht⟩ := hrel
    cases k with
    | zero =>
      have H : Hid (tr x o 0 = tr x o n) := ht
      clear ht hc
      go_wp2
      go_ret
      exact ⟨ret_slice (by rw [← H.out]; rfl) (by rw [← H.out]; rfl), rfl⟩
    | succ k =>
      have hcell := hc k (by omega)
      have H : Hid (tr x o (k + 1) = tr x o n) := ht
      clear ht hc
      go_wp2
      · have h0 : (x (o + k) == 0) = true := by assumption
        refine ⟨⟨k, by omega, rfl, ?_⟩, by simp [intOf]⟩
        rw [← H.out]; simp only [tr]; rw [if_pos (by simpa using h0)]
      · have h0 : (x (o + k) == 0) = false := by assumption
        have e : k + 1 = tr x o n := by rw [← H.out]; simp only [tr]; rw [if_neg (by simpa using h0)]
        go_ret
        exact ⟨ret_slice e e, rfl⟩

set_option maxHeartbeats 400000 in
theorem trimmed_nil (ao : Option Addr) (cap : Nat) (w : World) (hn : ao = none → cap = 0) (hbig : cap ≤ 9223372036854775807) :
    Calls Tryz.prog 56 #[.slice ao 0 cap] w fun e w' => e = .returned (.slice ao 0 0) ∧ w' = w := by
  cases ao with
  | none =>
    have := hn rfl
    subst this
    go_enter Tryz.func56, Tryz.ntmps56
    go_wp2
    refine wp_loop_rounds 1 ?_; rw [rounds_succ]; go_wp2
    go_ret
    exact ⟨rfl, rfl⟩
  | some a =>
    go_enter Tryz.func56, Tryz.ntmps56
    go_wp2
    refine wp_loop_rounds 1 ?_; rw [rounds_succ]; go_wp2
    go_ret
    exact ⟨rfl, rfl⟩

/-- 'trimmed' of a slice of words: the same words without those 0 at the end. -/
theorem trimmed_any (v : Value) (n : Nat) (x : Nat → Int) (o : Nat) (w : World) (h : Sl w v n x o) :
    Calls Tryz.prog 56 #[v] w fun e w' => (∃ v', e = .returned v' ∧ Sl w v' (tr x o n) x o) ∧ w' = w := by
  obtain ⟨ao, cap, rfl, h1, h2, h3, h4, h5⟩ := h
  cases n with
  | zero =>
    refine (trimmed_nil ao cap w h4 h2).mono ?_
    rintro e w' ⟨rfl, rfl⟩
    exact ⟨⟨_, rfl, ao, 0, rfl, Nat.le_refl _, by omega, h3, fun _ => rfl, fun h => absurd h (by simp [tr])⟩, rfl⟩
  | succ n =>
    obtain ⟨b, off, rfl, hb, hc⟩ := h5 (by omega)
    refine (trimmed_pos b off (n + 1) cap x o w h1 h2 hc).mono ?_
    rintro e w' ⟨rfl, rfl⟩
    have hl := tr_le x o (n + 1)
    exact ⟨⟨_, rfl, _, _, rfl, Nat.le_refl _, by omega, h3.mono hl, (fun e => by cases e), fun _ => ⟨b, off, rfl, hb, fun j hj => hc j (by omega)⟩⟩, rfl⟩
end Go.Proofs.YtocfenjampmdlaaGreatDoor.B
