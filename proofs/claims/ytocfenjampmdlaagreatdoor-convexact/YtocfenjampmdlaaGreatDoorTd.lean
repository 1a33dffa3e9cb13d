/- What prime's Root and Order answer, whatever they are given. -/
/- What the reference's Order answers. -/
/- What the reference's Root answers. -/
/- The reference's Round and Go. -/
/- The reference's New, and the law's own Sized and great. -/
/- What the law's great answers, and slices that are written out. -/
/- The inverse modulo a prime, and that roots and powers of 2 have one. -/
/- A region whose first operations only read, and whose others wait for all ahead of them: one walk in the order of the text serves every order. -/
/- The reference's Turned, Point and values at points (chapter 7). -/
/- What is asked of tft's Back, and that it is told by its values. -/
import Derived.Test.YtocfenjampmdlaaGreatDoorQr
import Derived.Test.YtocfenjampmdlaaGreatDoorVo
import Derived.Deep.RegionHeld3
namespace Go.Proofs.YtocfenjampmdlaaGreatDoor
open Go.RowKit Num Nmb

set_option maxHeartbeats 1600000 in
theorem root_no (p : Nat) (k : Int) (w : World) (hn : p ≤ 18446744073709551615) (hp : isB p = false) (L : Lay w) :
    Calls Tryz.prog 83 #[.int .u64 p, .int .i64 k] w fun e w' => e = .returned (.tuple #[.int .u64 0, .int .i64 14]) ∧ ∃ c, w' = w.drewN c := by
  have FN := hid (field_no p w hn (Or.inr hp) L)
  clear L hp
  go_enter Tryz.func83, Tryz.ntmps83
  go_wp2_with fail
  refine FN.out.mono ?_
  rintro e w2 ⟨rfl, c, rfl⟩
  go_wp2
  go_ret2
  exact ⟨rfl, c, rfl⟩
set_option maxHeartbeats 1600000 in
theorem root_arg (p : Nat) (k : Int) (w : World) (hp : isB p = true) (h63 : p < 9223372036854775808) (hk : k < 0 ∨ (tw p : Int) < k) (L : Lay w) :
    Calls Tryz.prog 83 #[.int .u64 p, .int .i64 k] w fun e w' => e = .returned (.tuple #[.int .u64 0, .int .i64 1]) ∧ Below w.heap.size w w' := by
  have FA := hid (field_any p w hp h63 L)
  generalize (tw p : Int) = t at *
  clear L hp
  by_cases h0 : k < 0
  · clear hk
    go_enter Tryz.func83, Tryz.ntmps83
    go_wp2_with fail
    refine FA.out.mono ?_
    rintro e w1 ⟨rfl, B, f, s, F, O⟩
    have BB := hid B
    clear F O B FA
    go_wp2
    go_ret2
    exact ⟨rfl, BB.out⟩
  · have h1 : t < k := by omega
    clear hk
    go_enter Tryz.func83, Tryz.ntmps83
    go_wp2_with fail
    refine FA.out.mono ?_
    rintro e w1 ⟨rfl, B, f, s, F, O⟩
    have BB := hid B
    clear F O B FA
    go_wp2
    go_ret2
    exact ⟨rfl, BB.out⟩
theorem of_nat (g : Nat) (p x : Nat) (f s : Int) (w : World) (h : Fld w g p f s) (hp : 0 < p) :
    Calls Tryz.prog 110 #[.pointer (some ⟨g, 0, none⟩), .int .u64 x] w fun e w' => e = .returned (.int .u64 (x % p : Nat)) ∧ w' = w := by
  have h := of_any g p f s x w h (by omega) (by omega)
  rw [← Int.natCast_emod] at h
  exact h
/-- what Order answers of a prime. -/
def OrdIs (p x : Nat) (n : Nat) (er : Int) : Prop := (x % p = 0 ∧ n = 0 ∧ er = 1) ∨ (x % p ≠ 0 ∧ er = 0 ∧ n ≤ tw p ∧ Ord p (x % p) n) ∨ (x % p ≠ 0 ∧ er = 19 ∧ n = 0 ∧ ∀ i, i ≤ tw p → (x % p) ^ 2 ^ i % p ≠ 1)
end Go.Proofs.YtocfenjampmdlaaGreatDoor
namespace Go.Proofs.YtocfenjampmdlaaGreatDoor
open Go.RowKit Num Nmb

theorem rmul_nat (x y m : Nat) (w : World) (hm : 2 ≤ m) (hm' : m ≤ 9223372036854775807) :
    Calls Tryz.prog 27 #[.int .u64 x, .int .u64 y, .int .u64 m] w fun e w' => e = .returned (.int .u64 (x * y % m : Nat)) ∧ ∃ k, w' = w.drewN k := by
  have h := rmul_any x y m w (by omega) (by omega) (by omega) (by omega)
  rw [← Int.natCast_mul, ← Int.natCast_emod] at h
  exact h
/-- what the reference's Order answers. -/
def RO (p x : Nat) (m : Int) : Prop := (∃ k : Nat, m = k ∧ k < 64 ∧ Ord p x k) ∨ (m = -1 ∧ ∀ i, i < 64 → x ^ 2 ^ i % p ≠ 1)
theorem Ord.uniq {p x a b : Nat} (h : Ord p x a) (h' : Ord p x b) : a = b := by
  rcases Nat.lt_trichotomy a b with hl | hl | hl
  · exact absurd h.1 (h'.2 a hl)
  · exact hl
  · exact absurd h'.1 (h.2 b hl)
theorem RO.ord {p x k : Nat} {m : Int} (h : RO p x m) (hk : k < 64) : m = k ↔ Ord p x k := by
  constructor
  · intro e
    rcases h with ⟨j, h1, _, h3⟩ | ⟨h1, _⟩
    · obtain rfl : j = k := by omega
      exact h3
    · omega
  · intro ho
    rcases h with ⟨j, h1, _, h3⟩ | ⟨_, h2⟩
    · rw [h1, h3.uniq ho]
    · exact absurd ho.1 (h2 k hk)
end Go.Proofs.YtocfenjampmdlaaGreatDoor
namespace Go.Proofs.YtocfenjampmdlaaGreatDoor
open Go.RowKit Num Nmb

theorem tw_uniq {p t : Nat} (h2 : 2 ≤ p) (hn : p ≤ 18446744073709551615) (h : Tw (p - 1) t) : t = tw p := by
  obtain ⟨m, hm⟩ := h
  obtain ⟨e1, e2, _⟩ := tw_said (n := p) (by omega) hn
  rw [e1, show od p = 2 * (od p / 2) + 1 by omega, Nat.mul_comm] at hm
  exact (two_uniq hm).symm
theorem root2 : RootIs 2 0 1 := ⟨1, by decide, by decide, ⟨by decide, fun i hi => absurd hi (by omega)⟩, fun x h1 h2 => absurd h2 (by omega)⟩
end Go.Proofs.YtocfenjampmdlaaGreatDoor
namespace Go.Proofs.YtocfenjampmdlaaGreatDoor
open Go.RowKit Num Nmb

/-- the first i values. -/
def GoR (a : Nat → Int) (r p n : Nat) (X : List Nat) : Prop := (∀ j, j < X.length → lw X j = dft a r n j % p) ∧ ∀ c, c ∈ X → c ≤ 18446744073709551615
theorem GoR.push {a : Nat → Int} {r p n c : Nat} {X : List Nat} (h : GoR a r p n X) (hp : 0 < p) (hp' : p ≤ 9223372036854775807) (hc : (c : Int) = ev a n (r ^ X.length % p : Nat) % p) : GoR a r p n (X ++ [c]) := by
  refine ⟨fun j hj => ?_, fun d hd => ?_⟩
  · rw [lw_push]
    by_cases e : j = X.length
    · rw [if_pos e, hc, dft_ev, e]
      have : Cg p ((r ^ X.length % p : Nat) : Int) ((r : Int) ^ X.length) := by
        rw [Int.natCast_emod, Int.natCast_pow]
        exact Cg.mod
      exact ev_cg (fun i _ => Cg.rfl) this
    · rw [if_neg e]
      exact h.1 j (by simp at hj; omega)
  · rcases List.mem_append.1 hd with hd | hd
    · exact h.2 d hd
    · simp at hd
      subst hd
      have := Int.emod_lt_of_pos (ev a n (r ^ X.length % p : Nat)) (show 0 < (p : Int) by omega)
      omega
theorem pushedW {w w2 w3 : World} {v v' : Value} {L : List Nat} {c : Nat} {o : Obj} (h : OwW w2 w.heap.size v L) (B : Below w.heap.size w w2) (hb : w.heap.size ≤ w2.heap.size)
    (own : w3.ownsRow w.heap.size 23 1 v' (L.length + 1) (wordCells L ++ [.int .u64 (c : Int)])) (grow : (w2.alloc o).grownBy w3 v.ownBlock) :
    ∃ ao cap, v' = .slice ao (L.length + 1) cap ∧ Hid (OwW w3 w.heap.size (.slice ao (L.length + 1) cap) (L ++ [c])) ∧ Hid (Below w.heap.size w w3) ∧ w.heap.size ≤ w3.heap.size := by
  obtain ⟨h1, h2, h3⟩ := OwW.push h hb rfl own grow
  obtain ⟨ao, cap, hv⟩ := h1.slice
  rw [List.length_append, List.length_singleton] at hv
  subst hv
  exact ⟨ao, cap, rfl, h1, B.trans h2, h3⟩
end Go.Proofs.YtocfenjampmdlaaGreatDoor
namespace Go.Proofs.YtocfenjampmdlaaGreatDoor
open Go.RowKit Num Nmb

/-- numbers, cut or 0 behind them. -/
def szd (a : Nat → Int) (n : Nat) (j : Nat) : Int := if j < n then a j else 0
end Go.Proofs.YtocfenjampmdlaaGreatDoor
namespace Go.Proofs.YtocfenjampmdlaaGreatDoor
open Go.RowKit Num Nmb

theorem priA : Pri 4179340454199820289 := proth2 (c := 29) (k := 57) (a := 3) (i := 56) (by decide) (by decide) (by decide) (by decide) (by decide) (by decide +kernel)
theorem priB : Pri 180143985094819841 := proth2 (c := 5) (k := 55) (a := 3) (i := 54) (by decide) (by decide) (by decide) (by decide) (by decide) (by decide +kernel)
theorem pri7 : Pri 7 := low_pri 7 (by decide) (by decide) (by decide)
theorem Rt.of_ord {p r k : Nat} (hp : Pri p) (h : Ord p r k) (hk : k ≤ tw p) (hl : p ≤ 18446744073709551615) : Rt p r k := by
  have h2 := hp.1
  have one : Cg p ((r : Int) ^ 2 ^ k) 1 := by
    rw [← Int.natCast_pow]
    refine (Cg.nat (b := 1)).2 ?_
    rw [h.1, Nat.mod_eq_of_lt (by omega)]
  refine ⟨hp, one, fun h0 => ?_, fun h0 e => ?_⟩
  · have hn := h.2 (k - 1) (by omega)
    have e1 : r ^ 2 ^ (k - 1) * r ^ 2 ^ (k - 1) = r ^ 2 ^ k := by
      have := two_twice r (k - 1)
      rw [show k - 1 + 1 = k by omega] at this
      exact this.symm
    rcases hp.sqrt1 (x := r ^ 2 ^ (k - 1)) (by rw [e1]; exact h.1) with h3 | h3
    · exact absurd h3 hn
    · have e2 : Cg p ((r : Int) ^ 2 ^ (k - 1)) ((p - 1 : Nat) : Int) := by
        rw [← Int.natCast_pow]
        refine Cg.nat.2 ?_
        rw [h3, Nat.mod_eq_of_lt (by omega)]
      refine e2.trans (Cg.dvd.2 ⟨1, ?_⟩)
      rw [Int.natCast_sub (by omega)]
      omega
  · subst e
    rw [tw2] at hk
    omega
theorem RootIs.rt {p r k : Nat} (h : RootIs p k r) (hp : Pri p) (hk : k ≤ tw p) (hl : p ≤ 18446744073709551615) : Rt p r k := by
  obtain ⟨x, _, _, h3, _⟩ := h
  exact Rt.of_ord hp h3 hk hl
/-- one of the law's primes. -/
def GreatP (p : Nat) : Prop := p = 998244353 ∨ p = 4179340454199820289 ∨ p = 180143985094819841 ∨ p = 7 ∨ p = 17 ∨ p = 97
theorem GreatP.pri {p : Nat} (h : GreatP p) : Pri p := by
  rcases h with rfl | rfl | rfl | rfl | rfl | rfl
  · exact pri998
  · exact priA
  · exact priB
  · exact pri7
  · exact pri17
  · exact pri97
theorem GreatP.le {p : Nat} (h : GreatP p) : p ≤ 4179340454199820289 := by
  rcases h with rfl | rfl | rfl | rfl | rfl | rfl <;> decide
theorem Wl.lit (w : World) (l : List Nat) (o : Obj) (ho : o = .cells (wordCells l).toArray 23 (0, 0)) (hl : l.length ≤ 100) (hb : ∀ x, x ∈ l → x ≤ 18446744073709551615) :
    Wl (w.alloc o) (.slice (some ⟨w.heap.size, 0, none⟩) l.length l.length) l.length (lw l) := by
  have hc : (w.alloc o).heap[w.heap.size]? = some o := heap_alloc_new w o
  refine ⟨_, _, rfl, Nat.le_refl _, by omega, fun j hj => ?_, fun _ => ⟨_, 0, rfl, by simp, fun j hj => ?_⟩⟩
  · unfold lw
    have : l.getD j 0 ∈ l := by rw [List.getD_eq_getElem?_getD, List.getElem?_eq_getElem hj]; exact List.getElem_mem _
    have := hb _ this
    omega
  · rw [ho] at hc ⊢
    unfold World.cell?
    simp only [hc]
    have e2 : l.getD j 0 = l[j] := by rw [List.getD_eq_getElem?_getD, List.getElem?_eq_getElem hj]; rfl
    unfold lw
    rw [e2, Nat.zero_add]
    simp [wordCells, hj]
/-- what is known of a table's numbers. -/
structure TabOk (p k r : Nat) : Prop where
  pri : Pri p
  h63 : p < 9223372036854775808
  k20 : k ≤ 20
  ktw : k ≤ tw p
  root : RootIs p k r
/-- b is what Back answers of the values a. -/
def Bk (p k r : Nat) (a b : Nat → Int) : Prop := ∃ v c : Int, Cg p (v * r) 1 ∧ Cg p (c * (2 ^ k : Nat)) 1 ∧ ∀ j, j < 2 ^ k → b j = c * dft a v (2 ^ k) j % p
theorem TabOk.rt {p k r : Nat} (h : TabOk p k r) : Rt p r k := h.root.rt h.pri h.ktw (by have := h.h63; omega)
theorem Cg.mod_eq {p : Nat} {a b : Int} (h : Cg p a b) : a % p = b % p := h
/-- Back of Go. -/
theorem Bk.there {p k r : Nat} {a b c : Nat → Int} (h : Bk p k r b c) (T : TabOk p k r) (hb : ∀ j, j < 2 ^ k → b j = dft a r (2 ^ k) j % p) (j : Nat) (hj : j < 2 ^ k) : c j = a j % p := by
  obtain ⟨v, e, hv, he, hc⟩ := h
  rw [hc j hj]
  refine Cg.mod_eq (Cg.trans (Cg.rfl.mul (dft_cg (fun i hi => ?_) j)) (T.rt.there hv he a j hj))
  rw [hb i hi]
  exact Cg.mod
/-- Go of Back. -/
theorem Bk.again {p k r : Nat} {a b : Nat → Int} (h : Bk p k r a b) (T : TabOk p k r) (j : Nat) (hj : j < 2 ^ k) : dft b r (2 ^ k) j % p = a j % p := by
  obtain ⟨v, e, hv, he, hc⟩ := h
  refine Cg.mod_eq (Cg.trans (dft_cg (fun i hi => ?_) j) (T.rt.again hv he a j hj))
  rw [hc i hi]
  exact Cg.mod
end Go.Proofs.YtocfenjampmdlaaGreatDoor
namespace Go.Proofs.YtocfenjampmdlaaGreatDoor
open Go.RowKit Num Nmb

theorem ec_pri {p x : Nat} (hp : Pri p) (h : x % p ≠ 0) : ec (x : Int) (p : Int) = 0 := by
  have h2 := hp.1
  apply ec_pos _ (by omega)
  unfold gc
  have e : ((x : Int) % (p : Int)).toNat = x % p := by rw [← Int.natCast_emod]; rfl
  rw [e]
  have hc : Nat.gcd (x % p) p = 1 := by
    rcases hp.2 _ (Nat.gcd_dvd_right (x % p) p) with h1 | h1
    · exact h1
    · have h3 := Nat.gcd_dvd_left (x % p) p
      rw [h1] at h3
      have := Nat.le_of_dvd (by omega) h3
      have := Nat.mod_lt x (show 0 < p by omega)
      omega
  rw [Int.toNat_natCast, Nat.gcd_comm]
  exact hc
/-- the inverse modulo a prime. -/
def ivp (p x : Nat) : Nat := x ^ (p - 2) % p
theorem ivp_said {p x : Nat} (hp : Pri p) (h : x % p ≠ 0) : x * ivp p x % p = 1 := by
  have h2 := hp.1
  unfold ivp
  rw [Nat.mul_mod_mod, ← Nat.pow_succ', show (p - 2).succ = p - 1 by omega]
  exact hp.fermat1 h
theorem inv_pri (g p x : Nat) (f s : Int) (w : World) (h : Fld w g p f s) (hm : Ok p f s) (hp : Pri p) (hx : x % p ≠ 0) :
    Calls Tryz.prog 70 #[.pointer (some ⟨g, 0, none⟩), .int .u64 x] w fun e w' => e = .returned (.tuple #[.int .u64 (ivp p x : Nat), .int .i64 0]) ∧ w' = w := by
  have e0 := ec_pri hp hx
  have h2 := hp.1
  refine (inv_any g p f s x w h hm (by omega)).mono ?_
  rintro e w' ⟨⟨y, rfl, I⟩, rfl⟩
  obtain ⟨y0, y1, y2⟩ := I.good e0
  rw [e0]
  have c1 : Cg p (y * x) (((ivp p x : Nat) : Int) * x) := by
    have a1 := ivp_said hp hx
    unfold Cg
    rw [Int.mul_comm, y2, Int.mul_comm, ← Int.natCast_mul, ← Int.natCast_emod, a1]
    rfl
  have c2 := hp.cancel (c := (x : Int)) (fun hc => hx (by
    have := (Cg.nat (b := 0)).1 hc
    rw [Nat.zero_mod] at this
    exact this)) c1
  have l1 : ivp p x < p := Nat.mod_lt _ (by omega)
  have : y = ((ivp p x : Nat) : Int) := by
    unfold Cg at c2
    rw [Int.emod_eq_of_lt y0 y1, Int.emod_eq_of_lt (by omega) (by omega)] at c2
    exact c2
  rw [this]
  exact ⟨rfl, rfl⟩
theorem root_nz {p k r : Nat} (T : TabOk p k r) : r % p ≠ 0 := by
  intro h
  have h1 := T.rt.one
  have h2 := T.pri.1
  have h3 : Cg p (r : Int) 0 := (Cg.nat (b := 0)).2 (by rw [h, Nat.zero_mod])
  have h4 := h3.pow (2 ^ k)
  rw [Int.zero_pow (Nat.ne_of_gt (Nat.two_pow_pos k))] at h4
  have h5 := (Cg.nat (p := p) (a := 1) (b := 0)).1 (h1.symm.trans h4)
  rw [Nat.mod_eq_of_lt (by omega), Nat.zero_mod] at h5
  omega
theorem two_nz {p k r : Nat} (T : TabOk p k r) : 2 ^ k % p ≠ 0 := by
  intro h
  have h2 := T.pri.1
  have h3 := T.pri.pow k (Nat.dvd_of_mod_eq_zero h)
  have h4 := Nat.le_of_dvd (by omega) h3
  obtain rfl : p = 2 := by omega
  have h5 := T.ktw
  rw [tw2] at h5
  obtain rfl : k = 0 := by omega
  simp at h
end Go.Proofs.YtocfenjampmdlaaGreatDoor
namespace Go.Proofs.YtocfenjampmdlaaGreatDoor
section
variable {P : Program} {C : World → Prop} {Q : Exit → Act → World → Prop}

def stillFrom : Nat → List Oper → List Oper
  | 0, l => l.map still
  | _ + 1, [] => []
  | n + 1, o :: l => o :: stillFrom n l
theorem stillFrom_at : ∀ (n : Nat) (L : List Oper) (j : Nat), (stillFrom n L)[j]? = if j < n then L[j]? else (L[j]?).map still
  | 0, L, j => by rw [if_neg (by omega)]; exact List.getElem?_map
  | n + 1, [], j => by simp [stillFrom]
  | n + 1, o :: l, 0 => by rw [if_pos (by omega)]; rfl
  | n + 1, o :: l, j + 1 => by
    have := stillFrom_at n l j
    by_cases h : j < n
    · rw [if_pos h] at this; rw [if_pos (by omega)]; simpa [stillFrom] using this
    · rw [if_neg h] at this; rw [if_neg (by omega)]; simpa [stillFrom] using this
theorem stillFrom_len : ∀ (n : Nat) (L : List Oper), (stillFrom n L).length = L.length
  | 0, L => by simp [stillFrom]
  | _ + 1, [] => rfl
  | n + 1, o :: l => by simp only [stillFrom, List.length_cons]; rw [stillFrom_len n l]
theorem ready_from {n : Nat} {L : List Oper} {listed : Array Bool} {i : Nat} (h : i ∈ Region.ready .any L.toArray listed) : i ∈ Region.ready .any (stillFrom n L).toArray listed := by
  rw [mem_ready] at *
  obtain ⟨h1, o, ho, h2⟩ := h
  have ho' : L[i]? = some o := by simpa using ho
  have := stillFrom_at n L i
  by_cases hi : i < n
  · rw [if_pos hi, ho'] at this
    exact ⟨h1, o, by simpa using this, h2⟩
  · rw [if_neg hi, ho'] at this
    exact ⟨h1, still o, by simpa using this, h2⟩
/-- is each operation from c on but the last one waited for by a later one? -/
def usedC (c : Nat) (L : List Oper) : Bool := (List.range (L.length - 1)).all fun j => decide (j < c) || (List.range L.length).any fun k => decide (j < k) && waits L k j
theorem usedC_said {c : Nat} {L : List Oper} (h : usedC c L = true) {j : Nat} (hc : c ≤ j) (hj : j + 1 < L.length) : ∃ k o, j < k ∧ k < L.length ∧ L[k]? = some o ∧ ∃ e ∈ o.after, Region.binds .any e = true ∧ e.on = j := by
  have h0 := List.all_eq_true.1 h j (List.mem_range.2 (by omega))
  rw [Bool.or_eq_true, decide_eq_true_eq] at h0
  have h1 : ((List.range L.length).any fun k => decide (j < k) && waits L k j) = true := by
    rcases h0 with h0 | h0
    · omega
    · exact h0
  obtain ⟨k, hk, h2⟩ := List.any_eq_true.1 h1
  rw [Bool.and_eq_true, decide_eq_true_eq] at h2
  obtain ⟨h3, h4⟩ := h2
  unfold waits at h4
  have hk := List.mem_range.1 hk
  rw [List.getElem?_eq_getElem hk] at h4
  obtain ⟨e, he, h5⟩ := List.any_eq_true.1 h4
  rw [Bool.and_eq_true, beq_iff_eq] at h5
  exact ⟨k, L[k], h3, hk, List.getElem?_eq_getElem hk, e, by simpa using he, h5.1, h5.2⟩
/-- does each operation from n on wait, through others, for all ahead of it, but the first c? -/
def tailB (c n : Nat) (L : List Oper) : Bool := (List.range L.length).all fun i => decide (i < n) || usedC c (L.take (i + 1))
theorem tail_all {c n : Nat} {L : List Oper} {listed : Array Bool} (ht : tailB c n L = true) (hc : ∀ j, j < c → j < L.length → listed.getD j true = true) (hs : listed.size = L.length) (h : shut L listed) {i : Nat} (hi : n ≤ i) (hr : i ∈ Region.ready .any L.toArray listed) :
    ∀ j, j < i → listed.getD j true = true := by
  obtain ⟨_, o, ho, h2⟩ := mem_ready.1 hr
  have ho' : L[i]? = some o := by simpa using ho
  have hil := (List.getElem?_eq_some_iff.1 ho').1
  have hu : usedC c (L.take (i + 1)) = true := by
    have := List.all_eq_true.1 ht i (List.mem_range.2 hil)
    rw [Bool.or_eq_true, decide_eq_true_eq] at this
    rcases this with h | h
    · omega
    · exact h
  have hlen : (L.take (i + 1)).length = i + 1 := by rw [List.length_take]; omega
  have gen : ∀ m j, j < i → i ≤ j + m → listed.getD j true = true := by
    intro m
    induction m with
    | zero => intro j h1 h3; omega
    | succ m ih =>
      intro j h1 h3
      by_cases hjc : j < c
      · exact hc j hjc (by omega)
      obtain ⟨k, ok, hjk, hk, hok, e, he, hbe, rfl⟩ := usedC_said hu (j := j) (by omega) (by omega)
      have hok' : L[k]? = some ok := by
        rw [List.getElem?_take] at hok
        split at hok
        · exact hok
        · cases hok
      by_cases ek : k = i
      · subst ek
        obtain rfl := Option.some.inj (ho'.symm.trans hok')
        rw [getD_of hs (show e.on < L.length by omega) true false]
        exact h2 e he hbe
      · exact h k ok hok' (ih k (by omega) (by omega)) e he hbe
  exact fun j hj => gen i j hj (by omega)
/-- the tail, when all ahead of i are listed and nothing else. -/
theorem tail_run {c n : Nat} {L : List Oper} (hb : backB 0 L = true) (ht : tailB c n L = true) (hcn : c ≤ n) : ∀ (m i fuel : Nat) (listed : Array Bool) (a : Act) (w : World), L.length = i + m → n ≤ i → shut L listed → listed.size = L.length →
    (∀ j, j < L.length → (listed.getD j true = true ↔ j < i)) → wpList P L.toArray Q (L.drop i) a w → m ≤ fuel → wpAny P .any L.toArray Q fuel listed a w := by
  have gn : ∀ (i : Nat) (o : Oper), L[i]? = some o → o.guard = none := fun i o ho => (backB_said hb i o ho).2
  intro m
  induction m with
  | zero =>
    intro i fuel listed a w hl hi hsh hs hlist hw _
    have hr0 : Region.ready .any L.toArray listed = [] := ready_nil fun j hj => by
      have : j < L.length := by simpa using hj
      exact (hlist j this).2 (by omega)
    rw [List.drop_eq_nil_of_le (by omega)] at hw
    cases fuel with
    | zero => exact ⟨hr0, hw⟩
    | succ f => exact ⟨fun _ => hw, fun j hj => by rw [hr0] at hj; cases hj⟩
  | succ m ih =>
    intro i fuel listed a w hl hi hsh hs hlist hw hf
    obtain ⟨f, rfl⟩ : ∃ f, fuel = f + 1 := ⟨fuel - 1, by omega⟩
    have hil : i < L.length := by omega
    have back : ∀ (i : Nat) (o : Oper), L.toArray[i]? = some o → ∀ e ∈ o.after, Region.binds .any e = true → e.on < i := fun i o ho e he hbe => by
      have := (backB_said hb i o (by simpa using ho)).1 e he hbe
      omega
    have un : listed.getD i true = false := by
      cases h : listed.getD i true
      · rfl
      · have := (hlist i hil).1 h; omega
    refine ⟨fun hr => ?_, fun k hk => ?_⟩
    · have := ready_none back hr i (by simpa using hil)
      rw [un] at this
      cases this
    · obtain ⟨h1, o, ho, _⟩ := mem_ready.1 hk
      have ho' : L[k]? = some o := by simpa using ho
      have hkl := (List.getElem?_eq_some_iff.1 ho').1
      obtain rfl : k = i := by
        have hge : i ≤ k := by
          apply Nat.le_of_not_lt
          intro hlt
          rw [(hlist k hkl).2 hlt] at h1
          cases h1
        rcases Nat.lt_or_ge i k with hlt | hge'
        · have := tail_all ht (fun j hj hj2 => (hlist j hj2).2 (by omega)) hs hsh (by omega) hk i hlt
          rw [un] at this
          cases this
        · omega
      have hd : L.drop k = o :: L.drop (k + 1) := by
        rw [List.drop_eq_getElem_cons hkl]
        congr 1
        exact Option.some.inj ((List.getElem?_eq_getElem hkl).symm.trans ho')
      rw [hd] at hw
      have wn : ∀ (y : Nat → Option Bool), Region.wanted o y = true := fun y => by unfold Region.wanted; rw [gn k o ho']
      unfold wpOp
      rw [ho]
      simp only [wpList, wn, if_true] at hw ⊢
      refine hw.imp (Oper.wp_mono fun a' w' hq => ?_) id
      refine ih (k + 1) f _ a' w' (by omega) (by omega) (shut_set hb hs hsh hk) (by simpa using hs) (fun j hj => ?_) hq (by omega)
      by_cases e : k = j
      · subst e
        simp [Array.getD, show k < listed.size by omega]
      · rw [getD_set_ne true e, hlist j hj]
        omega
/-- the stilled tail does nothing. -/
theorem tail_still {n : Nat} {L : List Oper} {Q' : Act → Prop} (hb : backB 0 L = true) : ∀ (m i fuel : Nat) (listed : Array Bool) (a : Act), L.length = i + m → n ≤ i → shut L listed → listed.size = L.length →
    (∀ j, j < L.length → (listed.getD j true = true ↔ j < i)) → wpAnyQ P .any (stillFrom n L).toArray C Q' fuel listed a → Q' a := by
  have gn : ∀ (i : Nat) (o : Oper), L[i]? = some o → o.guard = none := fun i o ho => (backB_said hb i o ho).2
  intro m
  induction m with
  | zero =>
    intro i fuel listed a hl hi hsh hs hlist hq
    have hr0 : Region.ready .any (stillFrom n L).toArray listed = [] := ready_nil fun j hj => by
      have : j < L.length := by simpa [stillFrom_len] using hj
      exact (hlist j this).2 (by omega)
    cases fuel with
    | zero => exact hq.2
    | succ f => exact hq.1 hr0
  | succ m ih =>
    intro i fuel listed a hl hi hsh hs hlist hq
    have hil : i < L.length := by omega
    have un : listed.getD i true = false := by
      cases h : listed.getD i true
      · rfl
      · have := (hlist i hil).1 h; omega
    have hrL : i ∈ Region.ready .any L.toArray listed := by
      rw [mem_ready]
      refine ⟨un, L[i], by simp [hil], fun e he hbe => ?_⟩
      have hlt := (backB_said hb i L[i] (List.getElem?_eq_getElem hil)).1 e he hbe
      rw [← getD_of hs (show e.on < L.length by omega) true false]
      exact (hlist e.on (by omega)).2 (by omega)
    have hr := ready_from (n := n) hrL
    cases fuel with
    | zero => rw [hq.1] at hr; cases hr
    | succ f =>
      have h2 := hq.2 i hr
      unfold qOp at h2
      have hst : (stillFrom n L).toArray[i]? = some (still L[i]) := by
        have := stillFrom_at n L i
        rw [if_neg (by omega), List.getElem?_eq_getElem hil] at this
        simpa using this
      rw [hst] at h2
      have wn : ∀ (y : Nat → Option Bool), Region.wanted (still L[i]) y = true := fun y => by unfold Region.wanted; rw [show (still L[i]).guard = none from gn i L[i] (List.getElem?_eq_getElem hil)]
      simp only [wn, if_true] at h2
      obtain ⟨v, _, hk⟩ := h2
      refine ih (i + 1) f _ a (by omega) (by omega) (shut_set hb hs hsh hrL) (by simpa using hs) (fun j hj => ?_) hk
      by_cases e : i = j
      · subst e
        simp [Array.getD, show i < listed.size by omega]
      · rw [getD_set_ne true e, hlist j hj]
        omega
theorem any_of_tail {c n : Nat} {L : List Oper} (hb : backB 0 L = true) (ht : tailB c n L = true) (hcn : c ≤ n) (hn : n < L.length) :
    ∀ (fuel : Nat) (listed : Array Bool) (a : Act) (w : World), C w → shut L listed → listed.size = L.length → (∀ j, j < c → j < L.length → listed.getD j true = true) → (∀ j, n ≤ j → j < L.length → listed.getD j true = false) → unl L.length listed ≤ fuel →
      wpAnyQ P .any (stillFrom n L).toArray C (fun a' => ∀ w', C w' → wpList P L.toArray Q (L.drop n) a' w') fuel listed a → wpAny P .any L.toArray Q fuel listed a w := by
  have back : ∀ (i : Nat) (o : Oper), L.toArray[i]? = some o → ∀ e ∈ o.after, Region.binds .any e = true → e.on < i := fun i o ho e he hbe => by
    have := (backB_said hb i o (by simpa using ho)).1 e he hbe
    omega
  have gn : ∀ (i : Nat) (o : Oper), L[i]? = some o → o.guard = none := fun i o ho => (backB_said hb i o ho).2
  have some_ready : ∀ listed : Array Bool, listed.getD n true = false → Region.ready .any L.toArray listed ≠ [] := fun listed hl hr => by
    have := ready_none back hr n (by simpa using hn)
    rw [hl] at this
    cases this
  intro fuel
  induction fuel with
  | zero =>
    intro listed a w hC hsh hs hc hl hf h
    exfalso
    obtain ⟨i, hi⟩ := List.exists_mem_of_ne_nil _ (some_ready listed (hl n (Nat.le_refl _) hn))
    have := ready_from (n := n) hi
    rw [h.1] at this
    cases this
  | succ fuel ih =>
    intro listed a w hC hsh hs hc hl hf h
    refine ⟨fun hr => absurd hr (some_ready listed (hl n (Nat.le_refl _) hn)), fun i hi => ?_⟩
    obtain ⟨h1, oi, hoi, _⟩ := mem_ready.1 hi
    have hoi' : L[i]? = some oi := by simpa using hoi
    have hil := (List.getElem?_eq_some_iff.1 hoi').1
    by_cases hin : i < n
    · have hq := h.2 i (ready_from hi)
      have wn : ∀ (y : Nat → Option Bool), Region.wanted oi y = true := fun y => by unfold Region.wanted; rw [gn i oi hoi']
      unfold wpOp
      rw [hoi]
      unfold qOp at hq
      have hst : (stillFrom n L).toArray[i]? = some oi := by
        have := stillFrom_at n L i
        rw [if_pos hin, hoi'] at this
        simpa using this
      rw [hst] at hq
      simp only [wn, if_true] at hq ⊢
      refine Or.inl (Oper.wp_of_quiet hC (fun a' w' hC' hk => ih _ a' w' hC' (shut_set hb hs hsh hi) (by simpa using hs) (fun j h2 h3 => ?_) (fun j h2 h3 => ?_) ?_ hk) hq)
      · by_cases e : i = j
        · subst e; simp [Array.getD, show i < listed.size by omega]
        · rw [getD_set_ne true e]; exact hc j h2 h3
      · rw [getD_set_ne true (by omega)]
        exact hl j h2 h3
      · have := unl_set (n := L.length) hil h1
        omega
    · have all := tail_all ht hc hs hsh (by omega) hi
      obtain rfl : i = n := by
        rcases Nat.lt_or_ge n i with hlt | hge
        · have := all n hlt
          rw [hl n (Nat.le_refl _) hn] at this
          cases this
        · omega
      have hlist : ∀ j, j < L.length → (listed.getD j true = true ↔ j < i) := fun j hj => by
        constructor
        · intro h3
          apply Nat.lt_of_not_le
          intro h4
          rw [hl j h4 hj] at h3
          cases h3
        · exact all j
      have hw := tail_still hb (L.length - i) i (fuel + 1) listed a (by omega) (Nat.le_refl _) hsh hs hlist h w hC
      have hrun := tail_run (P := P) (Q := Q) hb ht hcn (L.length - i) i (fuel + 1) listed a w (by omega) (Nat.le_refl _) hsh hs hlist hw (by
        have : unl L.length listed = L.length - i := by
          unfold unl
          have e : (List.range L.length).filter (fun j => !listed.getD j true) = (List.range L.length).filter (fun j => decide (i ≤ j)) := by
            apply List.filter_congr
            intro j hj
            have := hlist j (List.mem_range.1 hj)
            by_cases h3 : j < i
            · rw [this.2 h3]; simp; omega
            · cases h4 : listed.getD j true
              · simp; omega
              · exact absurd (this.1 h4) h3
          rw [e]
          have gen : ∀ N, i ≤ N → ((List.range N).filter (fun j => decide (i ≤ j))).length = N - i := fun N => by
            induction N with
            | zero => intro _; simp
            | succ N ih2 =>
              intro hN
              rw [List.range_succ, List.filter_append, List.length_append]
              by_cases h5 : i ≤ N
              · rw [ih2 h5]; simp [h5]; omega
              · obtain rfl : i = N + 1 := by omega
                have : (List.range N).filter (fun j => decide (N + 1 ≤ j)) = [] := by
                  apply List.filter_eq_nil_iff.2
                  intro j hj
                  have := List.mem_range.1 hj
                  simp; omega
                rw [this]; simp
          exact gen L.length (by omega)
        omega)
      exact hrun.2 i hi
/-- the rule, for a region whose operations are written out; its first n only read. -/
theorem wp_region_tail (n : Nat) {id : Nat} {a : Act} {w : World} {L : List Oper} (hm : P.follows .mixedOrders = true) (hB : Region.lexB .any (stillFrom n L).toArray = true) (hb : backB 0 L = true) (ht : tailB 0 n L = true) (hn : n < L.length)
    (h : wpQuiet P (stillFrom n L).toArray (fun w' => ∃ m, w' = w.drewN m) (fun a' => ∀ w', (∃ m, w' = w.drewN m) → wpList P L.toArray Q (L.drop n) a' w') (stillFrom n L) a) : (Code.region id L.toArray true).wp P Q a w := by
  simp only [Region.lexB, Bool.and_eq_true] at hB
  refine wp_region_any hm (any_of_tail (C := fun w' => ∃ m, w' = w.drewN m) hb ht (Nat.zero_le _) hn _ _ a _ ⟨1, rfl⟩ ?_ (by simp) (fun j hj _ => absurd hj (by omega)) (fun j _ hj => ?_) ?_ ?_)
  · intro j o ho hl
    have hj := (List.getElem?_eq_some_iff.1 ho).1
    simp [Array.getD, hj] at hl
  · simp [Array.getD, hj]
  · unfold unl
    refine Nat.le_trans (List.length_filter_le _ _) (by simp)
  · have := wpAnyQ_lex (P := P) (C := fun w' => ∃ m, w' = w.drewN m) (md := .any) hB.1 (stillFrom n L) 0 (Array.replicate (stillFrom n L).toArray.size false) a (by simp) (by simpa using hB.2) h
    simpa [stillFrom_len] using this
/-- the same, where the first operation is a move that may come at any time. -/
theorem wp_region_tail1 (n : Nat) {id : Nat} {a : Act} {w : World} {o : Oper} {l : List Oper} (x : Operand) (hx : o.op = .move x) (hg : o.guard = none) (hQ : ∀ c a w v, Q (.panic c) (a.put o.dst v) w → Q (.panic c) a w)
    (hm : P.follows .mixedOrders = true) (hs : Region.noSelect (o :: l).toArray = true) (hs' : Region.noSelect (stillFrom (n + 1) (o :: l)).toArray = true)
    (hf : Region.free .any (o :: l).toArray (Array.replicate (l.length + 1) false) 0 = true) (hr : (Region.ready .any (o :: l).toArray (Array.replicate (l.length + 1) false)).contains 0 = true) (ha : o.after = #[])
    (hB : Region.lexFrom .any (stillFrom (n + 1) (o :: l)).toArray l.length 1 ((Array.replicate (l.length + 1) false).setIfInBounds 0 true) = true) (hb : backB 0 (o :: l) = true) (ht : tailB 1 (n + 1) (o :: l) = true) (hn : n < l.length)
    (h : wpQuiet P (stillFrom (n + 1) (o :: l)).toArray (fun w' => ∃ m, w' = w.drewN m) (fun a' => ∀ w', (∃ m, w' = w.drewN m) → wpList P (o :: l).toArray Q (l.drop n) a' w') (stillFrom n l) (a.put o.dst (a.eval x))) : (Code.region id (o :: l).toArray true).wp P Q a w := by
  refine wp_region_any hm ?_
  show wpAny P .any (o :: l).toArray Q (l.length + 1) (Array.replicate (l.length + 1) false) a _
  refine wpAny_take (i := 0) (oi := o) (v := a.eval x) rfl hs hf hr (fun c a w => hQ c a w _) (Or.inl ⟨by unfold Region.wanted; rw [hg], fun w => ?_⟩) ?_
  · exact BigFrame.run_move x hx w
  · refine any_of_tail (C := fun w' => ∃ m, w' = w.drewN m) hb ht (by omega) (by simp; omega) _ _ _ _ ⟨1, rfl⟩ ?_ (by simp) (fun j hj _ => ?_) (fun j hj hj2 => ?_) ?_ ?_
    · intro j oj hoj hl e he _
      have hj := (List.getElem?_eq_some_iff.1 hoj).1
      by_cases e0 : 0 = j
      · subst e0
        obtain rfl : o = oj := by simpa using hoj
        rw [ha] at he
        simp at he
      · rw [getD_set_ne true e0] at hl
        have hj' : j < l.length + 1 := by simpa using hj
        simp [Array.getD, hj'] at hl
    · obtain rfl : j = 0 := by omega
      simp [Array.getD]
    · have hj2' : j < l.length + 1 := by simpa using hj2
      rw [getD_set_ne true (by omega)]
      simp [Array.getD, hj2']
    · have h0 : (Array.replicate (l.length + 1) false).getD 0 true = false := by simp [Array.getD]
      have h1 := unl_set (n := (o :: l).length) (i := 0) (by simp) h0
      have h2 : unl (o :: l).length (Array.replicate (l.length + 1) false) ≤ l.length + 1 := by
        unfold unl
        exact Nat.le_trans (List.length_filter_le _ _) (by simp)
      omega
    · have := wpAnyQ_lex (P := P) (C := fun w' => ∃ m, w' = w.drewN m) (md := .any) hs' (stillFrom n l) 1 ((Array.replicate (l.length + 1) false).setIfInBounds 0 true) (a.put o.dst (a.eval x)) (fun j => by
        simp only [stillFrom, List.getElem?_toArray]
        rw [Nat.add_comm 1 j, List.getElem?_cons_succ]) (by rw [stillFrom_len]; exact hB) h
      rw [stillFrom_len] at this
      exact this
end
end Go.Proofs.YtocfenjampmdlaaGreatDoor
namespace Go.Proofs.YtocfenjampmdlaaGreatDoor
open Go.RowKit Num Nmb

theorem rv_mod : ∀ m b, rv m (b % 2 ^ m) = rv m b
  | 0, _ => rfl
  | m + 1, b => by
    show b % 2 ^ (m + 1) % 2 * 2 ^ m + rv m (b % 2 ^ (m + 1) / 2) = b % 2 * 2 ^ m + rv m (b / 2)
    have e1 : b % 2 ^ (m + 1) % 2 = b % 2 := Nat.mod_mod_of_dvd _ (by rw [Nat.pow_succ]; exact Nat.dvd_mul_left _ _)
    have e2 : b % 2 ^ (m + 1) / 2 = b / 2 % 2 ^ m := by rw [Nat.pow_succ, Nat.mul_comm, Nat.mod_mul_right_div_self]
    rw [e1, e2, rv_mod m (b / 2)]
theorem rv_step (m b : Nat) : rv (m + 1) b = 2 * rv m b + b / 2 ^ m % 2 := by rw [rv_up, rv_mod]
/-- what Turned answers. -/
def TurnIs (i k : Int) (r er : Int) : Prop := (0 ≤ k ∧ k ≤ 20 ∧ 0 ≤ i ∧ i < 2 ^ k.toNat ∧ r = (rv k.toNat i.toNat : Nat) ∧ er = 0) ∨ (¬ (0 ≤ k ∧ k ≤ 20 ∧ 0 ≤ i ∧ i < 2 ^ k.toNat) ∧ r = 0 ∧ er = 1)
theorem TurnIs.uniq {i k r er r' er' : Int} (h : TurnIs i k r er) (h' : TurnIs i k r' er') : r = r' ∧ er = er' := by
  rcases h with ⟨a, b, c, d, rfl, rfl⟩ | ⟨n, rfl, rfl⟩
  · rcases h' with ⟨_, _, _, _, rfl, rfl⟩ | ⟨n, _, _⟩
    · exact ⟨rfl, rfl⟩
    · exact absurd ⟨a, b, c, d⟩ n
  · rcases h' with ⟨a, b, c, d, _, _⟩ | ⟨_, rfl, rfl⟩
    · exact absurd ⟨a, b, c, d⟩ n
    · exact ⟨rfl, rfl⟩
/-- the first values at the points. -/
def PtR (a : Nat → Int) (r p k n : Nat) (X : List Nat) : Prop := (∀ j, j < X.length → lw X j = ev a n ((r : Int) ^ rv k j) % p) ∧ ∀ c, c ∈ X → c ≤ 18446744073709551615
theorem PtR.push {a : Nat → Int} {r p k n c : Nat} {X : List Nat} (h : PtR a r p k n X) (hp : 0 < p) (hp' : p ≤ 9223372036854775807) (hc : (c : Int) = ev a n (r ^ rv k X.length % p : Nat) % p) : PtR a r p k n (X ++ [c]) := by
  refine ⟨fun j hj => ?_, fun d hd => ?_⟩
  · rw [lw_push]
    by_cases e : j = X.length
    · rw [if_pos e, hc, e]
      have : Cg p ((r ^ rv k X.length % p : Nat) : Int) ((r : Int) ^ rv k X.length) := by
        rw [Int.natCast_emod, Int.natCast_pow]
        exact Cg.mod
      exact ev_cg (fun i _ => Cg.rfl) this
    · rw [if_neg e]
      exact h.1 j (by simp at hj; omega)
  · rcases List.mem_append.1 hd with hd | hd
    · exact h.2 d hd
    · simp at hd
      subst hd
      have := Int.emod_lt_of_pos (ev a n (r ^ rv k X.length % p : Nat)) (show 0 < (p : Int) by omega)
      omega
end Go.Proofs.YtocfenjampmdlaaGreatDoor
namespace Go.Proofs.YtocfenjampmdlaaGreatDoor
open Go.RowKit Num Nmb

/-- b is the polynomial of n coefficients that has the values a at the first points. -/
def Fnd (p k r n : Nat) (a b : Nat → Int) : Prop := ∀ j, j < n → 0 ≤ b j ∧ b j < p ∧ ev b n ((r : Int) ^ rv k j) % p = a j % p
theorem Fnd.is {p k r n : Nat} {a b c : Nat → Int} (h : Fnd p k r n a b) (T : TabOk p k r) (hn : n ≤ 2 ^ k) (hc : ∀ j, j < n → ev c n ((r : Int) ^ rv k j) % p = a j % p) (j : Nat) (hj : j < n) : b j = c j % p := by
  have h1 := T.pri.tell (n := n) (a := b) (b := c) (x := fun j => (r : Int) ^ rv k j) (fun i j hij hj => T.rt.points i j hij (by omega)) (fun i hi => (h i hi).2.2.trans (hc i hi).symm) j hj
  have h2 := h j hj
  unfold Cg at h1
  rw [Int.emod_eq_of_lt h2.1 h2.2.1] at h1
  exact h1
/-- Back of Go. -/
theorem Fnd.back {p k r n : Nat} {a b c : Nat → Int} (h : Fnd p k r n b c) (T : TabOk p k r) (hn : n ≤ 2 ^ k) (hb : ∀ j, j < n → b j = ev a n ((r : Int) ^ rv k j) % p) (j : Nat) (hj : j < n) : c j = a j % p :=
  h.is T hn (fun i hi => by rw [hb i hi, Int.emod_emod_of_dvd _ (Int.dvd_refl _)]) j hj
end Go.Proofs.YtocfenjampmdlaaGreatDoor
