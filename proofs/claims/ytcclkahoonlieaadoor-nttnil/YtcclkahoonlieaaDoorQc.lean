/- What the calls of the landed ntt answer. -/
import Derived.Test.YtcclkahoonlieaaDoorXi
namespace Go.Proofs.YtcclkahoonlieaaDoor
open Go.RowKit Num Nmb

theorem rnd_ext {a b : Nat → Int} (N j : Nat) : rnd (ext a N) (ext b N) N j = rnd a b N j := by
  refine sm_eq _ fun i hi => sm_eq _ fun l hl => ?_
  unfold ext
  rw [if_pos hi, if_pos hl]
/-- one list is handed on in a slice of lists. -/
theorem lens_one (g p k r : Nat) (w : World) (T : Tab w g p k r) (ao : Option Addr) (n cap : Nat) (E : Int) (hE : n = 2 ^ k ∧ E = 0 ∨ n ≠ 2 ^ k ∧ E = 1) :
    Calls Tryd.prog 34 #[.pointer (some ⟨g, 0, none⟩), .slice (some ⟨w.heap.size, 0, none⟩) 1 1] (w.alloc (.cells #[.slice ao n cap] 36 (0, 0))) fun e w' => e = .returned (.int .i64 E) ∧ w' = w.alloc (.cells #[.slice ao n cap] 36 (0, 0)) := by
  obtain ⟨X, B, Z⟩ := alloc_box w (.slice ao n cap) 36
  refine lens_any g p k r _ (T.below B) w.heap.size 1 (fun _ => ao) (fun _ => n) (fun _ => cap) (by decide) (fun j hj => ?_) E ?_
  · obtain rfl : j = 0 := by omega
    exact X.cell
  · rcases hE with ⟨h1, h2⟩ | ⟨h1, h2⟩
    · exact Or.inl ⟨fun _ _ => h1, h2⟩
    · exact Or.inr ⟨⟨0, by decide, h1⟩, h2⟩
theorem lens_two (g p k r : Nat) (w : World) (T : Tab w g p k r) (ao bo : Option Addr) (n m cap bap : Nat) (E : Int) (hE : (n = 2 ^ k ∧ m = 2 ^ k) ∧ E = 0 ∨ (n ≠ 2 ^ k ∨ m ≠ 2 ^ k) ∧ E = 1) :
    Calls Tryd.prog 34 #[.pointer (some ⟨g, 0, none⟩), .slice (some ⟨w.heap.size, 0, none⟩) 2 2] (w.alloc (.cells #[.slice ao n cap, .slice bo m bap] 36 (0, 0))) fun e w' => e = .returned (.int .i64 E) ∧ w' = w.alloc (.cells #[.slice ao n cap, .slice bo m bap] 36 (0, 0)) := by
  have B : Below w.heap.size w (w.alloc (.cells #[.slice ao n cap, .slice bo m bap] 36 (0, 0))) := (Below.refl _ _).alloc (Nat.le_refl _) _
  have X := heap_alloc_new w (.cells #[.slice ao n cap, .slice bo m bap] 36 (0, 0))
  refine lens_any g p k r _ (T.below B) w.heap.size 2 (fun j => if j = 0 then ao else bo) (fun j => if j = 0 then n else m) (fun j => if j = 0 then cap else bap) (by decide) (fun j hj => ?_) E ?_
  · unfold World.cell?
    rw [X]
    have : j = 0 ∨ j = 1 := by omega
    rcases this with rfl | rfl <;> rfl
  · rcases hE with ⟨⟨h1, h2⟩, h3⟩ | ⟨h1, h2⟩
    · refine Or.inl ⟨fun j _ => ?_, h3⟩
      show (if j = 0 then n else m) = _
      by_cases e : j = 0
      · rw [if_pos e, h1]
      · rw [if_neg e, h2]
    · refine Or.inr ⟨?_, h2⟩
      rcases h1 with h1 | h1
      · exact ⟨0, by decide, h1⟩
      · exact ⟨1, by decide, h1⟩
set_option maxHeartbeats 1600000 in
theorem ngo_any (g p k r : Nat) (u : Value) (n : Nat) (a : Nat → Int) (w : World) (T : Tab w g p k r) (U : Wl w u n a) (hn : n = 2 ^ k) :
    Calls Tryd.prog 15 #[.pointer (some ⟨g, 0, none⟩), u] w fun e w' => (∃ ao cap, e = .returned (.tuple #[.slice ao n cap, .int .i64 0]) ∧ Wl w' (.slice ao n cap) n (fun j => dft a r n j % p)) ∧ Below w.heap.size w w' := by
  have n20 : n ≤ 1048576 := by
    rw [hn]
    exact Nat.pow_le_pow_right (n := 2) (j := 20) (by decide) T.ok.k20
  have p2 := T.ok.pri.1
  have p63 := T.ok.h63
  have U' := U
  obtain ⟨ao, cap, rfl, -⟩ := U'
  have LE := hid (lens_one g p k r w T ao n cap 0 (Or.inl ⟨hn, rfl⟩))
  obtain ⟨-, B, Z⟩ := alloc_box w (.slice ao n cap) 36
  have VA : Hid (Calls Tryd.prog 35 #[.pointer (some ⟨g, 0, none⟩), .slice ao n cap, .int .i64 k] (w.alloc (.cells #[.slice ao n cap] 36 (0, 0))) fun e w' => (∃ go gc, e = .returned (.slice go n gc) ∧ Wl w' (.slice go n gc) n (fun j => dft a r n j % p)) ∧ Below w.heap.size w w') := by
    refine (values_any g p k r k _ n a _ (T.below B) (U.below B) (Nat.le_refl _) (by omega)).mono ?_
    rintro e w' ⟨⟨gr, z, rfl, h2, h3, h4⟩, h5⟩
    rw [← hn] at h2 h4 ⊢
    rw [Nat.sub_self, Nat.pow_zero, Int.pow_succ, Int.pow_zero, Int.one_mul] at h4
    refine ⟨⟨_, _, rfl, (h2.wl (fun j hj => ?_) (by omega)).eq (fun j hj => by rw [h4 j hj, dft_ext])⟩, B.trans (h5.mono B.size)⟩
    rw [h4 j hj]
    have := Int.emod_nonneg (dft (ext a n) r n j) (show (p : Int) ≠ 0 by omega)
    have := Int.emod_lt_of_pos (dft (ext a n) r n j) (show (0 : Int) < (p : Int) by omega)
    omega
  obtain ⟨-, gf, gm, hh, f, s, h1, -, -⟩ := T
  have c1 := (h1.below B h1.lt).tc.cell1
  clear h1 hn U B Z
  go_enter Tryd.func15, Tryd.ntmps15
  go_wp2_with fail
  refine LE.out.mono ?_
  rintro e w1 ⟨rfl, rfl⟩
  go_wp2_with fail
  refine VA.out.mono ?_
  rintro e w2 ⟨⟨go, gc, rfl, W⟩, B⟩
  have HW := hid W
  have HB := hid B
  clear W B
  go_wp2
  go_ret2
  exact ⟨⟨_, _, rfl, HW.out⟩, HB.out⟩
set_option maxHeartbeats 1600000 in
theorem ngo_arg (g p k r : Nat) (u : Value) (n : Nat) (a : Nat → Int) (w : World) (T : Tab w g p k r) (U : Wl w u n a) (hn : n ≠ 2 ^ k) :
    Calls Tryd.prog 15 #[.pointer (some ⟨g, 0, none⟩), u] w fun e w' => (∃ ao cap, e = .returned (.tuple #[.slice ao 0 cap, .int .i64 1])) ∧ Below w.heap.size w w' := by
  obtain ⟨ao, cap, rfl, -⟩ := U
  have LE := hid (lens_one g p k r w T ao n cap 1 (Or.inr ⟨hn, rfl⟩))
  have B := hid (alloc_box w (.slice ao n cap) 36).2.1
  clear hn T
  go_enter Tryd.func15, Tryd.ntmps15
  go_wp2_with fail
  refine LE.out.mono ?_
  rintro e w1 ⟨rfl, rfl⟩
  go_wp2
  go_ret2
  exact ⟨⟨none, 0, rfl⟩, B.out⟩
set_option maxHeartbeats 1600000 in
theorem nback_arg (g p k r : Nat) (u : Value) (n : Nat) (a : Nat → Int) (w : World) (T : Tab w g p k r) (U : Wl w u n a) (hn : n ≠ 2 ^ k) :
    Calls Tryd.prog 16 #[.pointer (some ⟨g, 0, none⟩), u] w fun e w' => (∃ ao cap, e = .returned (.tuple #[.slice ao 0 cap, .int .i64 1])) ∧ Below w.heap.size w w' := by
  obtain ⟨ao, cap, rfl, -⟩ := U
  have LE := hid (lens_one g p k r w T ao n cap 1 (Or.inr ⟨hn, rfl⟩))
  have B := hid (alloc_box w (.slice ao n cap) 36).2.1
  clear hn T
  go_enter Tryd.func16, Tryd.ntmps16
  go_wp2_with fail
  refine LE.out.mono ?_
  rintro e w1 ⟨rfl, rfl⟩
  go_wp2
  go_ret2
  exact ⟨⟨none, 0, rfl⟩, B.out⟩
set_option maxHeartbeats 1600000 in
theorem nback_any (g p k r : Nat) (u : Value) (n : Nat) (a : Nat → Int) (w : World) (T : Tab w g p k r) (U : Wl w u n a) (hn : n = 2 ^ k) :
    Calls Tryd.prog 16 #[.pointer (some ⟨g, 0, none⟩), u] w fun e w' => (∃ ao cap b, e = .returned (.tuple #[.slice ao n cap, .int .i64 0]) ∧ Wl w' (.slice ao n cap) n b ∧ Bk p k r a b) ∧ Below w.heap.size w w' := by
  have n20 : n ≤ 1048576 := by
    rw [hn]
    exact Nat.pow_le_pow_right (n := 2) (j := 20) (by decide) T.ok.k20
  have p2 := T.ok.pri.1
  have p63 := T.ok.h63
  have U' := U
  obtain ⟨ao, cap, rfl, -⟩ := U'
  have LE := hid (lens_one g p k r w T ao n cap 0 (Or.inl ⟨hn, rfl⟩))
  obtain ⟨-, B, Z⟩ := alloc_box w (.slice ao n cap) 36
  have VA : Hid (Calls Tryd.prog 36 #[.pointer (some ⟨g, 0, none⟩), .slice ao n cap, .int .i64 k] (w.alloc (.cells #[.slice ao n cap] 36 (0, 0))) fun e w' => (∃ go gc b, e = .returned (.slice go n gc) ∧ Wl w' (.slice go n gc) n b ∧ Bk p k r a b) ∧ Below w.heap.size w w') := by
    refine (coef_any g p k r k _ n a _ (T.below B) (U.below B) (Nat.le_refl _) hn).mono ?_
    rintro e w' ⟨⟨gr, z, rfl, h2, h3, h4, h5⟩, h6⟩
    rw [rpt_self] at h5
    exact ⟨⟨_, _, z, rfl, h2.wl (fun j hj => by have := h4 j hj; omega) (by omega), h5⟩, B.trans (h6.mono B.size)⟩
  obtain ⟨-, gf, gm, hh, f, s, h1, -, -⟩ := T
  have c1 := (h1.below B h1.lt).tc.cell1
  clear h1 hn U B Z
  go_enter Tryd.func16, Tryd.ntmps16
  go_wp2_with fail
  refine LE.out.mono ?_
  rintro e w1 ⟨rfl, rfl⟩
  go_wp2_with fail
  refine VA.out.mono ?_
  rintro e w2 ⟨⟨go, gc, b, rfl, W, K⟩, B⟩
  have HW := hid W
  have HK := hid K
  have HB := hid B
  clear W B K
  go_wp2
  go_ret2
  exact ⟨⟨_, _, b, rfl, HW.out, HK.out⟩, HB.out⟩
set_option maxHeartbeats 1600000 in
theorem nround_any (g p k r : Nat) (u v : Value) (n : Nat) (a b : Nat → Int) (w : World) (T : Tab w g p k r) (U : Wl w u n a) (V : Wl w v n b) (hn : n = 2 ^ k) :
    Calls Tryd.prog 22 #[.pointer (some ⟨g, 0, none⟩), u, v] w fun e w' => (∃ ao cap, e = .returned (.tuple #[.slice ao n cap, .int .i64 0]) ∧ Wl w' (.slice ao n cap) n (fun j => rnd a b n j % p)) ∧ Below w.heap.size w w' := by
  have n20 : n ≤ 1048576 := by
    rw [hn]
    exact Nat.pow_le_pow_right (n := 2) (j := 20) (by decide) T.ok.k20
  have p2 := T.ok.pri.1
  have p63 := T.ok.h63
  have U' := U
  have V' := V
  obtain ⟨ao, cap, rfl, -⟩ := U'
  obtain ⟨bo, bap, rfl, -⟩ := V'
  have LE := hid (lens_two g p k r w T ao bo n n cap bap 0 (Or.inl ⟨⟨hn, hn⟩, rfl⟩))
  have B : Below w.heap.size w (w.alloc (.cells #[.slice ao n cap, .slice bo n bap] 36 (0, 0))) := (Below.refl _ _).alloc (Nat.le_refl _) _
  have VA : Hid (Calls Tryd.prog 39 #[.pointer (some ⟨g, 0, none⟩), .slice ao n cap, .slice bo n bap, .int .i64 k] (w.alloc (.cells #[.slice ao n cap, .slice bo n bap] 36 (0, 0))) fun e w' => (∃ go gc, e = .returned (.slice go n gc) ∧ Wl w' (.slice go n gc) n (fun j => rnd a b n j % p)) ∧ Below w.heap.size w w') := by
    refine (round_any g p k r k _ _ n n n a b _ (T.below B) (U.below B) (V.below B) (Nat.le_refl _) hn (Nat.le_refl _) (Nat.le_refl _)).mono ?_
    rintro e w' ⟨⟨gr, z, rfl, h2, h3, h4⟩, h5⟩
    refine ⟨⟨_, _, rfl, (h2.wl (fun j hj => ?_) (by omega)).eq (fun j hj => by rw [h4 j hj, rnd_ext])⟩, B.trans (h5.mono B.size)⟩
    rw [h4 j hj]
    have := Int.emod_nonneg (rnd (ext a n) (ext b n) n j) (show (p : Int) ≠ 0 by omega)
    have := Int.emod_lt_of_pos (rnd (ext a n) (ext b n) n j) (show (0 : Int) < (p : Int) by omega)
    omega
  obtain ⟨-, gf, gm, hh, f, s, h1, -, -⟩ := T
  have c1 := (h1.below B h1.lt).tc.cell1
  clear h1 hn U V B
  go_enter Tryd.func22, Tryd.ntmps22
  go_wp2_with fail
  refine LE.out.mono ?_
  rintro e w1 ⟨rfl, rfl⟩
  go_wp2_with fail
  refine VA.out.mono ?_
  rintro e w2 ⟨⟨go, gc, rfl, W⟩, B⟩
  have HW := hid W
  have HB := hid B
  clear W B
  go_wp2
  go_ret2
  exact ⟨⟨_, _, rfl, HW.out⟩, HB.out⟩
set_option maxHeartbeats 1600000 in
theorem nround_arg (g p k r : Nat) (u v : Value) (n m : Nat) (a b : Nat → Int) (w : World) (T : Tab w g p k r) (U : Wl w u n a) (V : Wl w v m b) (hn : n ≠ 2 ^ k ∨ m ≠ 2 ^ k) :
    Calls Tryd.prog 22 #[.pointer (some ⟨g, 0, none⟩), u, v] w fun e w' => (∃ ao cap, e = .returned (.tuple #[.slice ao 0 cap, .int .i64 1])) ∧ Below w.heap.size w w' := by
  obtain ⟨ao, cap, rfl, -⟩ := U
  obtain ⟨bo, bap, rfl, -⟩ := V
  have LE := hid (lens_two g p k r w T ao bo n m cap bap 1 (Or.inr ⟨hn, rfl⟩))
  have B : Hid (Below w.heap.size w (w.alloc (.cells #[.slice ao n cap, .slice bo m bap] 36 (0, 0)))) := (Below.refl _ _).alloc (Nat.le_refl _) _
  clear hn T
  go_enter Tryd.func22, Tryd.ntmps22
  go_wp2_with fail
  refine LE.out.mono ?_
  rintro e w1 ⟨rfl, rfl⟩
  go_wp2
  go_ret2
  exact ⟨⟨none, 0, rfl⟩, B.out⟩
set_option maxHeartbeats 1600000 in
theorem ngo_nil (u : Value) (n : Nat) (a : Nat → Int) (w : World) (U : Wl w u n a) : Calls Tryd.prog 15 #[.pointer none, u] w fun e w' => (∃ v, e = .returned (.tuple #[v, .int .i64 2])) ∧ Below w.heap.size w w' := by
  obtain ⟨ao, cap, rfl, -⟩ := U
  have LE := hid (fun v w => lens_nil v w)
  have B := hid (alloc_box w (.slice ao n cap) 36).2.1
  go_enter Tryd.func15, Tryd.ntmps15
  go_wp2_with fail
  refine (LE.out _ _).mono ?_
  rintro e w1 ⟨rfl, rfl⟩
  go_wp2
  go_ret2
  exact ⟨⟨_, rfl⟩, B.out⟩
set_option maxHeartbeats 1600000 in
theorem nback_nil (u : Value) (n : Nat) (a : Nat → Int) (w : World) (U : Wl w u n a) : Calls Tryd.prog 16 #[.pointer none, u] w fun e w' => (∃ v, e = .returned (.tuple #[v, .int .i64 2])) ∧ Below w.heap.size w w' := by
  obtain ⟨ao, cap, rfl, -⟩ := U
  have LE := hid (fun v w => lens_nil v w)
  have B := hid (alloc_box w (.slice ao n cap) 36).2.1
  go_enter Tryd.func16, Tryd.ntmps16
  go_wp2_with fail
  refine (LE.out _ _).mono ?_
  rintro e w1 ⟨rfl, rfl⟩
  go_wp2
  go_ret2
  exact ⟨⟨_, rfl⟩, B.out⟩
set_option maxHeartbeats 1600000 in
theorem nround_nil (u v : Value) (n m : Nat) (a b : Nat → Int) (w : World) (U : Wl w u n a) (V : Wl w v m b) : Calls Tryd.prog 22 #[.pointer none, u, v] w fun e w' => (∃ v, e = .returned (.tuple #[v, .int .i64 2])) ∧ Below w.heap.size w w' := by
  obtain ⟨ao, cap, rfl, -⟩ := U
  obtain ⟨bo, bap, rfl, -⟩ := V
  have LE := hid (fun v w => lens_nil v w)
  have B : Hid (Below w.heap.size w (w.alloc (.cells #[.slice ao n cap, .slice bo m bap] 36 (0, 0)))) := (Below.refl _ _).alloc (Nat.le_refl _) _
  go_enter Tryd.func22, Tryd.ntmps22
  go_wp2_with fail
  refine (LE.out _ _).mono ?_
  rintro e w1 ⟨rfl, rfl⟩
  go_wp2
  go_ret2
  exact ⟨⟨_, rfl⟩, B.out⟩
set_option maxHeartbeats 800000 in
theorem nprod_nil (u v : Value) (n m : Nat) (a b : Nat → Int) (w : World) (U : Wl w u n a) (V : Wl w v m b) : Calls Tryd.prog 20 #[.pointer none, u, v] w fun e w' => (∃ v, e = .returned (.tuple #[v, .int .i64 2])) ∧ Below w.heap.size w w' := by
  obtain ⟨ao, cap, rfl, -⟩ := U
  obtain ⟨bo, bap, rfl, -⟩ := V
  go_enter Tryd.func20, Tryd.ntmps20
  go_wp2
  go_ret2
  exact ⟨⟨_, rfl⟩, Below.refl _ _⟩
set_option maxHeartbeats 800000 in
theorem nk_nil (w : World) : Calls Tryd.prog 12 #[.pointer none] w fun e w' => e = .returned (.int .i64 0) ∧ w' = w := by
  go_enter Tryd.func12, Tryd.ntmps12
  go_wp2
  go_ret
  exact ⟨rfl, rfl⟩
set_option maxHeartbeats 800000 in
theorem np_nil (w : World) : Calls Tryd.prog 13 #[.pointer none] w fun e w' => e = .returned (.int .u64 0) ∧ w' = w := by
  go_enter Tryd.func13, Tryd.ntmps13
  go_wp2
  go_ret
  exact ⟨rfl, rfl⟩
set_option maxHeartbeats 800000 in
theorem nroot_nil (w : World) : Calls Tryd.prog 14 #[.pointer none] w fun e w' => e = .returned (.int .u64 0) ∧ w' = w := by
  go_enter Tryd.func14, Tryd.ntmps14
  go_wp2
  go_ret
  exact ⟨rfl, rfl⟩
set_option maxHeartbeats 1600000 in
theorem nprod_none (g p k r : Nat) (u v : Value) (n m : Nat) (a b : Nat → Int) (w : World) (_T : Tab w g p k r) (U : Wl w u n a) (V : Wl w v m b) (h : n = 0 ∨ m = 0) :
    Calls Tryd.prog 20 #[.pointer (some ⟨g, 0, none⟩), u, v] w fun e w' => (∃ ao cap, e = .returned (.tuple #[.slice ao 0 cap, .int .i64 0]) ∧ Wl w' (.slice ao 0 cap) 0 a) ∧ Below w.heap.size w w' := by
  obtain ⟨ao, cap, rfl, -⟩ := U
  obtain ⟨bo, bap, rfl, -⟩ := V
  by_cases h0 : n = 0
  · subst h0
    clear h
    go_enter Tryd.func20, Tryd.ntmps20
    go_wp2
    go_ret2
    exact ⟨⟨none, 0, rfl, Wl.nil _ _⟩, Below.refl _ _⟩
  · obtain rfl : m = 0 := by omega
    have h0' : ((n : Int) == 0) = false := beq_eq_false_iff_ne.2 (by omega)
    clear h
    go_enter Tryd.func20, Tryd.ntmps20
    go_wp2
    go_ret2
    exact ⟨⟨none, 0, rfl, Wl.nil _ _⟩, Below.refl _ _⟩
set_option maxHeartbeats 1600000 in
theorem nprod_limit (g p k r : Nat) (u v : Value) (n m : Nat) (a b : Nat → Int) (w : World) (T : Tab w g p k r) (U : Wl w u n a) (V : Wl w v m b) (hn : 0 < n) (hm : 0 < m) (h : 2 ^ k < n + m - 1) (hs : n + m ≤ 9223372036854775807) :
    Calls Tryd.prog 20 #[.pointer (some ⟨g, 0, none⟩), u, v] w fun e w' => (∃ ao cap, e = .returned (.tuple #[.slice ao 0 cap, .int .i64 13])) ∧ Below w.heap.size w w' := by
  have MA := hid (many_any g p k r w T)
  have l20 : 2 ^ k ≤ 1048576 := Nat.pow_le_pow_right (n := 2) (j := 20) (by decide) T.ok.k20
  obtain ⟨ao, cap, rfl, -⟩ := U
  obtain ⟨bo, bap, rfl, -⟩ := V
  have h0' : ((n : Int) == 0) = false := beq_eq_false_iff_ne.2 (by omega)
  have h1' : ((m : Int) == 0) = false := beq_eq_false_iff_ne.2 (by omega)
  obtain ⟨N, hN⟩ : ∃ N, N = 2 ^ k := ⟨_, rfl⟩
  rw [← hN] at MA l20 h
  have w1 : IntKind.i64.wrap ((n : Int) + (m : Int)) = (n : Int) + (m : Int) := by rw [IntKind.wrap_i64]; omega
  have w2 : (N : Int) + 2 ≤ (n : Int) + (m : Int) := by omega
  clear T hN h
  go_enter Tryd.func20, Tryd.ntmps20
  go_wp2_with fail
  refine MA.out.mono ?_
  rintro e w3 ⟨rfl, hw⟩
  obtain rfl := hw.symm
  go_wp2
  go_ret2
  exact ⟨⟨none, 0, rfl⟩, Below.refl _ _⟩
theorem bl_said : ∀ f x, x < 2 ^ f → f ≤ 64 → x < 2 ^ Lib.bitLen x ∧ Lib.bitLen x ≤ f
  | 0, x, h, _ => by
    obtain rfl : x = 0 := by rw [Nat.pow_zero] at h; omega
    decide
  | f + 1, x, h, h64 => by
    by_cases h0 : x = 0
    · subst h0
      exact ⟨by decide, by have : Lib.bitLen 0 = 0 := by decide
                           omega⟩
    · rw [Nat.pow_succ] at h
      have h1 := bl_said f (x / 2) (by omega) (by omega)
      have h2 : x < 2 ^ 64 := Nat.lt_of_lt_of_le (by rw [Nat.pow_succ]; exact h) (Nat.pow_le_pow_right (n := 2) (i := f + 1) (by omega) h64)
      rw [Lib.bitLen_half x h0 h2, Nat.add_comm 1, Nat.pow_succ]
      omega
set_option maxHeartbeats 800000 in
theorem blen_any (x : Nat) (w : World) (h : x ≤ 18446744073709551615) :
    Calls Tryd.prog 40 #[.int .u64 x] w fun e w' => e = .returned (.int .i64 (Lib.bitLen x : Nat)) ∧ w' = w := by
  have L : Hid (∀ w, Calls Tryd.prog 63 #[.int .u64 x] w fun e w' => e = .returned (.int .i64 (Lib.bitLen x : Nat)) ∧ w' = w) := fun w => by
    have := Any.bits_Len64 Tryd.lays129 (x : Int) w (by omega) (by omega)
    rw [Int.toNat_natCast] at this
    exact this
  go_enter Tryd.func40, Tryd.ntmps40
  go_wp2_with fail
  refine (L.out _).mono ?_
  rintro e w2 ⟨rfl, hw⟩
  obtain rfl := hw.symm
  go_wp2
  go_ret
  exact ⟨rfl, by first | trivial | rfl⟩
theorem rnd_fit {a b : Nat → Int} {n m N : Nat} (h : n + m ≤ N + 1) (h1 : 0 < m) (j : Nat) : rnd (ext a n) (ext b m) N j = prd a b n m j := by
  rw [rnd_prd h h1 (fun i hi _ => by unfold ext; rw [if_neg (by omega)]) (fun i hi _ => by unfold ext; rw [if_neg (by omega)]) j]
  refine sm_eq _ fun i hi => sm_eq _ fun l hl => ?_
  unfold ext
  rw [if_pos hi, if_pos hl]
set_option maxHeartbeats 1600000 in
theorem nprod_any (g p k r : Nat) (u v : Value) (n m : Nat) (a b : Nat → Int) (w : World) (T : Tab w g p k r) (U : Wl w u n a) (V : Wl w v m b) (hn : 0 < n) (hm : 0 < m) (h : n + m - 1 ≤ 2 ^ k) :
    Calls Tryd.prog 20 #[.pointer (some ⟨g, 0, none⟩), u, v] w fun e w' => (∃ ao cap, e = .returned (.tuple #[.slice ao (n + m - 1 : Nat) cap, .int .i64 0]) ∧ Wl w' (.slice ao (n + m - 1) cap) (n + m - 1) (fun j => prd a b n m j % p)) ∧ Below w.heap.size w w' := by
  have MA := hid (many_any g p k r w T)
  have p2 := T.ok.pri.1
  have p63 := T.ok.h63
  have k20 := T.ok.k20
  have l20 : 2 ^ k ≤ 1048576 := Nat.pow_le_pow_right (n := 2) (j := 20) (by decide) k20
  obtain ⟨M, hM⟩ : ∃ M, M = n + m - 1 := ⟨_, rfl⟩
  obtain ⟨kk, hkk⟩ : ∃ kk, kk = Lib.bitLen (M - 1) := ⟨_, rfl⟩
  have bl := bl_said k (M - 1) (by omega) (by omega)
  rw [← hkk] at bl
  have BL := hid (blen_any (M - 1) w (by omega))
  rw [← hkk] at BL
  obtain ⟨N, hN⟩ : ∃ N, N = 2 ^ kk := ⟨_, rfl⟩
  rw [← hN] at bl
  have RN : Hid (Calls Tryd.prog 39 #[.pointer (some ⟨g, 0, none⟩), u, v, .int .i64 kk] w fun e w' => (∃ gr, e = .returned (.slice (some ⟨gr, 0, none⟩) N N) ∧ Wl w' (.slice (some ⟨gr, 0, none⟩) M M) M (fun j => prd a b n m j % p)) ∧ Below w.heap.size w w') := by
    refine (round_any g p k r kk u v n m N a b w T U V bl.2 hN (by omega) (by omega)).mono ?_
    rintro e w' ⟨⟨gr, z, rfl, h2, h3, h4⟩, h5⟩
    refine ⟨⟨gr, rfl, _, M, rfl, Nat.le_refl _, by omega, fun j hj => ?_, fun _ => ⟨gr, 0, rfl, h2.lt, fun j hj => ?_⟩⟩, h5⟩
    · show 0 ≤ prd a b n m j % p ∧ prd a b n m j % p ≤ 18446744073709551615
      have := Int.emod_nonneg (prd a b n m j) (show (p : Int) ≠ 0 by omega)
      have := Int.emod_lt_of_pos (prd a b n m j) (show (0 : Int) < (p : Int) by omega)
      omega
    · rw [Nat.zero_add, h2.cell (i := j) (by omega), h4 j (by omega), rnd_fit (by omega) hm j]
  obtain ⟨ao, cap, rfl, -⟩ := U
  obtain ⟨bo, bap, rfl, -⟩ := V
  have h0' : ((n : Int) == 0) = false := beq_eq_false_iff_ne.2 (by omega)
  have h1' : ((m : Int) == 0) = false := beq_eq_false_iff_ne.2 (by omega)
  have w1 : IntKind.i64.wrap ((n : Int) + (m : Int)) = (n : Int) + (m : Int) := by rw [IntKind.wrap_i64]; omega
  have w2 : ¬ ((2 ^ k : Nat) : Int) + 2 ≤ (n : Int) + (m : Int) := by omega
  obtain ⟨Nk, hNk⟩ : ∃ Nk, Nk = 2 ^ k := ⟨_, rfl⟩
  rw [← hNk] at MA l20 w2
  have w3 : (n : Int) + (m : Int) - 1 = (M : Int) := by omega
  have w4 : IntKind.i64.wrap (M : Int) = (M : Int) := by rw [IntKind.wrap_i64]; omega
  have w5 : (M : Int) - 1 = ((M - 1 : Nat) : Int) := by omega
  have w6 : IntKind.i64.wrap ((M - 1 : Nat) : Int) = ((M - 1 : Nat) : Int) := by rw [IntKind.wrap_i64]; omega
  have w7 : IntKind.u64.wrap ((M - 1 : Nat) : Int) = ((M - 1 : Nat) : Int) := by rw [IntKind.wrap_u64]; omega
  have w8 : M ≤ N := by omega
  have w9 : (M : Int) ≤ (N : Int) := by omega
  rw [← hM]
  clear T hNk h hM hkk hN bl
  generalize M - 1 = M1 at *
  go_enter Tryd.func20, Tryd.ntmps20
  go_wp2_with fail
  refine MA.out.mono ?_
  rintro e w3 ⟨rfl, hw⟩
  obtain rfl := hw.symm
  go_wp2_with fail
  refine BL.out.mono ?_
  rintro e w4 ⟨rfl, hw⟩
  obtain rfl := hw.symm
  go_wp2_with fail
  refine RN.out.mono ?_
  rintro e w5 ⟨⟨gr, rfl, W⟩, B⟩
  have HW := hid W
  have HB := hid B
  clear W B RN BL MA
  go_wp2
  go_ret2
  exact ⟨⟨_, _, rfl, HW.out⟩, HB.out⟩
end Go.Proofs.YtcclkahoonlieaaDoor
