/- The reference's products of polynomials. -/
/- The reference's Round and Go. -/
/- The reference's New, and the law's own Sized and great. -/
/- What the law's great answers, and slices that are written out. -/
/- The inverse modulo a prime, and that roots and powers of 2 have one. -/
/- The reference's Turned, Point and values at points (chapter 7). -/
/- What is asked of tft's Back, and that it is told by its values. -/
/- Plans of the landed tft: their fields, and what the small calls answer. -/
/- Halves of a block, halved words, inverses of points, in the landed tft. -/
/- Values by halves: what down leaves, in the landed tft. -/
/- The way back where no value is one of the higher half's: what upByLow leaves, in the landed tft. -/
/- The way back where all values of the lower half are known: what upByBoth leaves, in the landed tft. -/
/- Blocks up and down, and what values and coefficients answer, in the landed tft. -/
/- What values and coefficients answer, in the landed tft. -/
/- The forms of the points, and what New answers, in the landed tft. -/
/- What the calls of the landed tft answer. -/
/- Products, in the landed tft. -/
import Derived.Test.YtocfenjampmdlabGreatDoorQr
import Derived.Test.YtocfenjampmdlabGreatDoorRgu
import Derived.BigQuiet
import Derived.Test.YtocfenjampmdlabGreatDoorRr
import Derived.Test.YtocfenjampmdlabGreatDoorVo
import Derived.Test.YtocfenjampmdlabGreatDoorDn
import Derived.Test.YtocfenjampmdlabGreatDoorVn
import Derived.Deep.RegionHeld3
import Derived.OwnWalk
namespace Go.Proofs.YtocfenjampmdlabGreatDoor
open Go.RowKit Num Nmb

/-- what stands at m when the products of the first i of a, and of the first k of b with the next one, were added. -/
def acc (f : Nat → Nat → Nat) (a b : Nat → Int) (lb i k m : Nat) : Int := sm (fun i' => sm (fun l => if f i' l = m then a i' * b l else 0) lb) i + sm (fun l => if f i l = m then a i * b l else 0) k
theorem acc_step (f : Nat → Nat → Nat) (a b : Nat → Int) (lb i k m : Nat) : acc f a b lb i (k + 1) m = acc f a b lb i k m + (if f i k = m then a i * b k else 0) := by
  unfold acc
  rw [sm_succ, Int.add_assoc]
theorem acc_next (f : Nat → Nat → Nat) (a b : Nat → Int) (lb i m : Nat) : acc f a b lb i lb m = acc f a b lb (i + 1) 0 m := by
  unfold acc
  rw [sm_succ]
  exact (Int.add_zero _).symm
theorem acc_zero (f : Nat → Nat → Nat) (a b : Nat → Int) (lb m : Nat) : acc f a b lb 0 0 m = 0 := rfl
theorem acc_prd (a b : Nat → Int) (la lb m : Nat) : acc (fun i l => i + l) a b lb la 0 m = prd a b la lb m := Int.add_zero _
theorem acc_rnd (a b : Nat → Int) (n m : Nat) : acc (fun i l => (i + l) % n) a b n n 0 m = rnd a b n m := Int.add_zero _
/-- the row's numbers are what is left of the sums. -/
def AcR (f : Nat → Nat → Nat) (a b : Nat → Int) (lb i k N : Nat) (p : Int) (z : Nat → Int) : Prop := ∀ m, m < N → z m = acc f a b lb i k m % p
theorem AcR.step {f : Nat → Nat → Nat} {a b : Nat → Int} {lb i k N : Nat} {p : Int} {z : Nat → Int} (h : AcR f a b lb i k N p z) (hf : f i k < N) :
    AcR f a b lb i (k + 1) N p (fun m => if m = f i k then (z (f i k) + a i * b k % p) % p else z m) := by
  intro m hm
  show (if m = f i k then _ else _) = _
  rw [acc_step]
  by_cases e : m = f i k
  · rw [if_pos e, e, if_pos rfl, h _ hf, ← Int.add_emod]
  · rw [if_neg e, if_neg (fun h' => e h'.symm), Int.add_zero]
    exact h m hm
theorem AcR.val {f : Nat → Nat → Nat} {a b : Nat → Int} {lb i k N : Nat} {p : Int} {z : Nat → Int} (h : AcR f a b lb i k N p z) (hp : 0 < p) {m : Nat} (hm : m < N) : 0 ≤ z m ∧ z m < p := by
  rw [h m hm]
  exact ⟨Int.emod_nonneg _ (by omega), Int.emod_lt_of_pos _ hp⟩
theorem Wl.cell {w : World} {ao : Option Addr} {n cap : Nat} {x : Nat → Int} (h : Wl w (.slice ao n cap) n x) {j : Nat} (hj : j < n) : ∃ b off, ao = some ⟨b, off, none⟩ ∧ b < w.heap.size ∧ w.cell? ⟨b, off + j, none⟩ = some (.int .u64 (x j)) := by
  obtain ⟨ao', cap', e, h1, h2, h3, h5⟩ := h
  cases e
  obtain ⟨b, off, h6, h7, h8⟩ := h5 (by omega)
  exact ⟨b, off, h6, h7, h8 j hj⟩
end Go.Proofs.YtocfenjampmdlabGreatDoor
namespace Go.Proofs.YtocfenjampmdlabGreatDoor
open Go.RowKit Num Nmb

/-- the first i values. -/
def GoR (a : Nat → Int) (r p n : Nat) (X : List Nat) : Prop := (∀ j, j < X.length → lw X j = dft a r n j % p) ∧ ∀ c, c ∈ X → c ≤ 18446744073709551615
theorem GoR.push {a : Nat → Int} {r p n c : Nat} {X : List Nat} (h : GoR a r p n X) (hp : 0 < p) (hp' : p ≤ 9223372036854775807) (hc : (c : Int) = ev a n (r ^ X.length % p : Nat) % p) : GoR a r p n (X ++ [c]) := by
  refine ⟨fun j hj => ?_, fun d hd => ?_⟩
  · rw [lw_push]
    by_cases e : j = X.length
    · rw [if_pos e, hc, dft_ev, e]
      have : Cg p ((r ^ X.length % p : Nat) : Int) ((r : Int) ^ X.length) := by
        rw [Int.natCast_emod, Int.natCast_pow]
        exact Cg.mod
      exact ev_cg (fun i _ => Cg.rfl) this
    · rw [if_neg e]
      exact h.1 j (by simp at hj; omega)
  · rcases List.mem_append.1 hd with hd | hd
    · exact h.2 d hd
    · simp at hd
      subst hd
      have := Int.emod_lt_of_pos (ev a n (r ^ X.length % p : Nat)) (show 0 < (p : Int) by omega)
      omega
theorem pushedW {w w2 w3 : World} {v v' : Value} {L : List Nat} {c : Nat} {o : Obj} (h : OwW w2 w.heap.size v L) (B : Below w.heap.size w w2) (hb : w.heap.size ≤ w2.heap.size)
    (own : w3.ownsRow w.heap.size 22 1 v' (L.length + 1) (wordCells L ++ [.int .u64 (c : Int)])) (grow : (w2.alloc o).grownBy w3 v.ownBlock) :
    ∃ ao cap, v' = .slice ao (L.length + 1) cap ∧ Hid (OwW w3 w.heap.size (.slice ao (L.length + 1) cap) (L ++ [c])) ∧ Hid (Below w.heap.size w w3) ∧ w.heap.size ≤ w3.heap.size := by
  obtain ⟨h1, h2, h3⟩ := OwW.push h hb rfl own grow
  obtain ⟨ao, cap, hv⟩ := h1.slice
  rw [List.length_append, List.length_singleton] at hv
  subst hv
  exact ⟨ao, cap, rfl, h1, B.trans h2, h3⟩
end Go.Proofs.YtocfenjampmdlabGreatDoor
namespace Go.Proofs.YtocfenjampmdlabGreatDoor
open Go.RowKit Num Nmb

/-- numbers, cut or 0 behind them. -/
def szd (a : Nat → Int) (n : Nat) (j : Nat) : Int := if j < n then a j else 0
end Go.Proofs.YtocfenjampmdlabGreatDoor
namespace Go.Proofs.YtocfenjampmdlabGreatDoor
open Go.RowKit Num Nmb

theorem priA : Pri 4179340454199820289 := proth2 (c := 29) (k := 57) (a := 3) (i := 56) (by decide) (by decide) (by decide) (by decide) (by decide) (by decide +kernel)
theorem priB : Pri 180143985094819841 := proth2 (c := 5) (k := 55) (a := 3) (i := 54) (by decide) (by decide) (by decide) (by decide) (by decide) (by decide +kernel)
theorem pri7 : Pri 7 := low_pri 7 (by decide) (by decide) (by decide)
theorem Rt.of_ord {p r k : Nat} (hp : Pri p) (h : Ord p r k) (hk : k ≤ tw p) (hl : p ≤ 18446744073709551615) : Rt p r k := by
  have h2 := hp.1
  have one : Cg p ((r : Int) ^ 2 ^ k) 1 := by
    rw [← Int.natCast_pow]
    refine (Cg.nat (b := 1)).2 ?_
    rw [h.1, Nat.mod_eq_of_lt (by omega)]
  refine ⟨hp, one, fun h0 => ?_, fun h0 e => ?_⟩
  · have hn := h.2 (k - 1) (by omega)
    have e1 : r ^ 2 ^ (k - 1) * r ^ 2 ^ (k - 1) = r ^ 2 ^ k := by
      have := two_twice r (k - 1)
      rw [show k - 1 + 1 = k by omega] at this
      exact this.symm
    rcases hp.sqrt1 (x := r ^ 2 ^ (k - 1)) (by rw [e1]; exact h.1) with h3 | h3
    · exact absurd h3 hn
    · have e2 : Cg p ((r : Int) ^ 2 ^ (k - 1)) ((p - 1 : Nat) : Int) := by
        rw [← Int.natCast_pow]
        refine Cg.nat.2 ?_
        rw [h3, Nat.mod_eq_of_lt (by omega)]
      refine e2.trans (Cg.dvd.2 ⟨1, ?_⟩)
      rw [Int.natCast_sub (by omega)]
      omega
  · subst e
    rw [tw2] at hk
    omega
theorem RootIs.rt {p r k : Nat} (h : RootIs p k r) (hp : Pri p) (hk : k ≤ tw p) (hl : p ≤ 18446744073709551615) : Rt p r k := by
  obtain ⟨x, _, _, h3, _⟩ := h
  exact Rt.of_ord hp h3 hk hl
/-- one of the law's primes. -/
def GreatP (p : Nat) : Prop := p = 998244353 ∨ p = 4179340454199820289 ∨ p = 180143985094819841 ∨ p = 7 ∨ p = 17 ∨ p = 97
theorem GreatP.pri {p : Nat} (h : GreatP p) : Pri p := by
  rcases h with rfl | rfl | rfl | rfl | rfl | rfl
  · exact pri998
  · exact priA
  · exact priB
  · exact pri7
  · exact pri17
  · exact pri97
theorem GreatP.le {p : Nat} (h : GreatP p) : p ≤ 4179340454199820289 := by
  rcases h with rfl | rfl | rfl | rfl | rfl | rfl <;> decide
theorem Wl.lit (w : World) (l : List Nat) (o : Obj) (ho : o = .cells (wordCells l).toArray 22 (0, 0)) (hl : l.length ≤ 100) (hb : ∀ x, x ∈ l → x ≤ 18446744073709551615) :
    Wl (w.alloc o) (.slice (some ⟨w.heap.size, 0, none⟩) l.length l.length) l.length (lw l) := by
  have hc : (w.alloc o).heap[w.heap.size]? = some o := heap_alloc_new w o
  refine ⟨_, _, rfl, Nat.le_refl _, by omega, fun j hj => ?_, fun _ => ⟨_, 0, rfl, by simp, fun j hj => ?_⟩⟩
  · unfold lw
    have : l.getD j 0 ∈ l := by rw [List.getD_eq_getElem?_getD, List.getElem?_eq_getElem hj]; exact List.getElem_mem _
    have := hb _ this
    omega
  · rw [ho] at hc ⊢
    unfold World.cell?
    simp only [hc]
    have e2 : l.getD j 0 = l[j] := by rw [List.getD_eq_getElem?_getD, List.getElem?_eq_getElem hj]; rfl
    unfold lw
    rw [e2, Nat.zero_add]
    simp [wordCells, hj]
/-- what is known of a table's numbers. -/
structure TabOk (p k r : Nat) : Prop where
  pri : Pri p
  h63 : p < 9223372036854775808
  k20 : k ≤ 20
  ktw : k ≤ tw p
  root : RootIs p k r
/-- b is what Back answers of the values a. -/
def Bk (p k r : Nat) (a b : Nat → Int) : Prop := ∃ v c : Int, Cg p (v * r) 1 ∧ Cg p (c * (2 ^ k : Nat)) 1 ∧ ∀ j, j < 2 ^ k → b j = c * dft a v (2 ^ k) j % p
theorem TabOk.rt {p k r : Nat} (h : TabOk p k r) : Rt p r k := h.root.rt h.pri h.ktw (by have := h.h63; omega)
theorem Cg.mod_eq {p : Nat} {a b : Int} (h : Cg p a b) : a % p = b % p := h
/-- Back of Go. -/
theorem Bk.there {p k r : Nat} {a b c : Nat → Int} (h : Bk p k r b c) (T : TabOk p k r) (hb : ∀ j, j < 2 ^ k → b j = dft a r (2 ^ k) j % p) (j : Nat) (hj : j < 2 ^ k) : c j = a j % p := by
  obtain ⟨v, e, hv, he, hc⟩ := h
  rw [hc j hj]
  refine Cg.mod_eq (Cg.trans (Cg.rfl.mul (dft_cg (fun i hi => ?_) j)) (T.rt.there hv he a j hj))
  rw [hb i hi]
  exact Cg.mod
/-- Go of Back. -/
theorem Bk.again {p k r : Nat} {a b : Nat → Int} (h : Bk p k r a b) (T : TabOk p k r) (j : Nat) (hj : j < 2 ^ k) : dft b r (2 ^ k) j % p = a j % p := by
  obtain ⟨v, e, hv, he, hc⟩ := h
  refine Cg.mod_eq (Cg.trans (dft_cg (fun i hi => ?_) j) (T.rt.again hv he a j hj))
  rw [hc i hi]
  exact Cg.mod
end Go.Proofs.YtocfenjampmdlabGreatDoor
namespace Go.Proofs.YtocfenjampmdlabGreatDoor
open Go.RowKit Num Nmb

theorem ec_pri {p x : Nat} (hp : Pri p) (h : x % p ≠ 0) : ec (x : Int) (p : Int) = 0 := by
  have h2 := hp.1
  apply ec_pos _ (by omega)
  unfold gc
  have e : ((x : Int) % (p : Int)).toNat = x % p := by rw [← Int.natCast_emod]; rfl
  rw [e]
  have hc : Nat.gcd (x % p) p = 1 := by
    rcases hp.2 _ (Nat.gcd_dvd_right (x % p) p) with h1 | h1
    · exact h1
    · have h3 := Nat.gcd_dvd_left (x % p) p
      rw [h1] at h3
      have := Nat.le_of_dvd (by omega) h3
      have := Nat.mod_lt x (show 0 < p by omega)
      omega
  rw [Int.toNat_natCast, Nat.gcd_comm]
  exact hc
/-- the inverse modulo a prime. -/
def ivp (p x : Nat) : Nat := x ^ (p - 2) % p
theorem ivp_said {p x : Nat} (hp : Pri p) (h : x % p ≠ 0) : x * ivp p x % p = 1 := by
  have h2 := hp.1
  unfold ivp
  rw [Nat.mul_mod_mod, ← Nat.pow_succ', show (p - 2).succ = p - 1 by omega]
  exact hp.fermat1 h
theorem inv_pri (g p x : Nat) (f s : Int) (w : World) (h : Fld w g p f s) (hm : Ok p f s) (hp : Pri p) (hx : x % p ≠ 0) :
    Calls Tryz.prog 42 #[.pointer (some ⟨g, 0, none⟩), .int .u64 x] w fun e w' => e = .returned (.tuple #[.int .u64 (ivp p x : Nat), .int .i64 0]) ∧ w' = w := by
  have e0 := ec_pri hp hx
  have h2 := hp.1
  refine (inv_any g p f s x w h hm (by omega)).mono ?_
  rintro e w' ⟨⟨y, rfl, I⟩, rfl⟩
  obtain ⟨y0, y1, y2⟩ := I.good e0
  rw [e0]
  have c1 : Cg p (y * x) (((ivp p x : Nat) : Int) * x) := by
    have a1 := ivp_said hp hx
    unfold Cg
    rw [Int.mul_comm, y2, Int.mul_comm, ← Int.natCast_mul, ← Int.natCast_emod, a1]
    rfl
  have c2 := hp.cancel (c := (x : Int)) (fun hc => hx (by
    have := (Cg.nat (b := 0)).1 hc
    rw [Nat.zero_mod] at this
    exact this)) c1
  have l1 : ivp p x < p := Nat.mod_lt _ (by omega)
  have : y = ((ivp p x : Nat) : Int) := by
    unfold Cg at c2
    rw [Int.emod_eq_of_lt y0 y1, Int.emod_eq_of_lt (by omega) (by omega)] at c2
    exact c2
  rw [this]
  exact ⟨rfl, rfl⟩
theorem root_nz {p k r : Nat} (T : TabOk p k r) : r % p ≠ 0 := by
  intro h
  have h1 := T.rt.one
  have h2 := T.pri.1
  have h3 : Cg p (r : Int) 0 := (Cg.nat (b := 0)).2 (by rw [h, Nat.zero_mod])
  have h4 := h3.pow (2 ^ k)
  rw [Int.zero_pow (Nat.ne_of_gt (Nat.two_pow_pos k))] at h4
  have h5 := (Cg.nat (p := p) (a := 1) (b := 0)).1 (h1.symm.trans h4)
  rw [Nat.mod_eq_of_lt (by omega), Nat.zero_mod] at h5
  omega
theorem two_nz {p k r : Nat} (T : TabOk p k r) : 2 ^ k % p ≠ 0 := by
  intro h
  have h2 := T.pri.1
  have h3 := T.pri.pow k (Nat.dvd_of_mod_eq_zero h)
  have h4 := Nat.le_of_dvd (by omega) h3
  obtain rfl : p = 2 := by omega
  have h5 := T.ktw
  rw [tw2] at h5
  obtain rfl : k = 0 := by omega
  simp at h
end Go.Proofs.YtocfenjampmdlabGreatDoor
namespace Go.Proofs.YtocfenjampmdlabGreatDoor
open Go.RowKit Num Nmb

theorem rv_mod : ∀ m b, rv m (b % 2 ^ m) = rv m b
  | 0, _ => rfl
  | m + 1, b => by
    show b % 2 ^ (m + 1) % 2 * 2 ^ m + rv m (b % 2 ^ (m + 1) / 2) = b % 2 * 2 ^ m + rv m (b / 2)
    have e1 : b % 2 ^ (m + 1) % 2 = b % 2 := Nat.mod_mod_of_dvd _ (by rw [Nat.pow_succ]; exact Nat.dvd_mul_left _ _)
    have e2 : b % 2 ^ (m + 1) / 2 = b / 2 % 2 ^ m := by rw [Nat.pow_succ, Nat.mul_comm, Nat.mod_mul_right_div_self]
    rw [e1, e2, rv_mod m (b / 2)]
theorem rv_step (m b : Nat) : rv (m + 1) b = 2 * rv m b + b / 2 ^ m % 2 := by rw [rv_up, rv_mod]
/-- what Turned answers. -/
def TurnIs (i k : Int) (r er : Int) : Prop := (0 ≤ k ∧ k ≤ 20 ∧ 0 ≤ i ∧ i < 2 ^ k.toNat ∧ r = (rv k.toNat i.toNat : Nat) ∧ er = 0) ∨ (¬ (0 ≤ k ∧ k ≤ 20 ∧ 0 ≤ i ∧ i < 2 ^ k.toNat) ∧ r = 0 ∧ er = 1)
theorem TurnIs.uniq {i k r er r' er' : Int} (h : TurnIs i k r er) (h' : TurnIs i k r' er') : r = r' ∧ er = er' := by
  rcases h with ⟨a, b, c, d, rfl, rfl⟩ | ⟨n, rfl, rfl⟩
  · rcases h' with ⟨_, _, _, _, rfl, rfl⟩ | ⟨n, _, _⟩
    · exact ⟨rfl, rfl⟩
    · exact absurd ⟨a, b, c, d⟩ n
  · rcases h' with ⟨a, b, c, d, _, _⟩ | ⟨_, rfl, rfl⟩
    · exact absurd ⟨a, b, c, d⟩ n
    · exact ⟨rfl, rfl⟩
/-- the first values at the points. -/
def PtR (a : Nat → Int) (r p k n : Nat) (X : List Nat) : Prop := (∀ j, j < X.length → lw X j = ev a n ((r : Int) ^ rv k j) % p) ∧ ∀ c, c ∈ X → c ≤ 18446744073709551615
theorem PtR.push {a : Nat → Int} {r p k n c : Nat} {X : List Nat} (h : PtR a r p k n X) (hp : 0 < p) (hp' : p ≤ 9223372036854775807) (hc : (c : Int) = ev a n (r ^ rv k X.length % p : Nat) % p) : PtR a r p k n (X ++ [c]) := by
  refine ⟨fun j hj => ?_, fun d hd => ?_⟩
  · rw [lw_push]
    by_cases e : j = X.length
    · rw [if_pos e, hc, e]
      have : Cg p ((r ^ rv k X.length % p : Nat) : Int) ((r : Int) ^ rv k X.length) := by
        rw [Int.natCast_emod, Int.natCast_pow]
        exact Cg.mod
      exact ev_cg (fun i _ => Cg.rfl) this
    · rw [if_neg e]
      exact h.1 j (by simp at hj; omega)
  · rcases List.mem_append.1 hd with hd | hd
    · exact h.2 d hd
    · simp at hd
      subst hd
      have := Int.emod_lt_of_pos (ev a n (r ^ rv k X.length % p : Nat)) (show 0 < (p : Int) by omega)
      omega
end Go.Proofs.YtocfenjampmdlabGreatDoor
namespace Go.Proofs.YtocfenjampmdlabGreatDoor
open Go.RowKit Num Nmb

/-- b is the polynomial of n coefficients that has the values a at the first points. -/
def Fnd (p k r n : Nat) (a b : Nat → Int) : Prop := ∀ j, j < n → 0 ≤ b j ∧ b j < p ∧ ev b n ((r : Int) ^ rv k j) % p = a j % p
theorem Fnd.is {p k r n : Nat} {a b c : Nat → Int} (h : Fnd p k r n a b) (T : TabOk p k r) (hn : n ≤ 2 ^ k) (hc : ∀ j, j < n → ev c n ((r : Int) ^ rv k j) % p = a j % p) (j : Nat) (hj : j < n) : b j = c j % p := by
  have h1 := T.pri.tell (n := n) (a := b) (b := c) (x := fun j => (r : Int) ^ rv k j) (fun i j hij hj => T.rt.points i j hij (by omega)) (fun i hi => (h i hi).2.2.trans (hc i hi).symm) j hj
  have h2 := h j hj
  unfold Cg at h1
  rw [Int.emod_eq_of_lt h2.1 h2.2.1] at h1
  exact h1
/-- Back of Go. -/
theorem Fnd.back {p k r n : Nat} {a b c : Nat → Int} (h : Fnd p k r n b c) (T : TabOk p k r) (hn : n ≤ 2 ^ k) (hb : ∀ j, j < n → b j = ev a n ((r : Int) ^ rv k j) % p) (j : Nat) (hj : j < n) : c j = a j % p :=
  h.is T hn (fun i hi => by rw [hb i hi, Int.emod_emod_of_dvd _ (Int.dvd_refl _)]) j hj
end Go.Proofs.YtocfenjampmdlabGreatDoor
namespace Go.Proofs.YtocfenjampmdlabGreatDoor
open Go.RowKit Num Nmb

/-- the form of the point at an even place. -/
def fmp (p r k j : Nat) : Int := (r : Int) ^ rv (k - 1) j * 18446744073709551616 % p
/-- block g holds the fields of a plan. -/
def PlnC (w : World) (g gf gm k r h : Nat) : Prop := w.heap[g]? = some (.cells #[.pointer (some ⟨gf, 0, none⟩), .int .i64 k, .int .u64 r, .slice (some ⟨gm, 0, none⟩) h h] 87 (0, 0))
theorem PlnC.lt {w : World} {g gf gm k r h : Nat} (t : PlnC w g gf gm k r h) : g < w.heap.size := (Array.getElem?_eq_some_iff.1 t).1
theorem PlnC.cell0 {w : World} {g gf gm k r h : Nat} (t : PlnC w g gf gm k r h) : w.cell? ⟨g, 0, none⟩ = some (.pointer (some ⟨gf, 0, none⟩)) := by unfold PlnC at t; simp only [World.cell?, t]; rfl
theorem PlnC.cell1 {w : World} {g gf gm k r h : Nat} (t : PlnC w g gf gm k r h) : w.cell? ⟨g, 1, none⟩ = some (.int .i64 k) := by unfold PlnC at t; simp only [World.cell?, t]; rfl
theorem PlnC.cell2 {w : World} {g gf gm k r h : Nat} (t : PlnC w g gf gm k r h) : w.cell? ⟨g, 2, none⟩ = some (.int .u64 r) := by unfold PlnC at t; simp only [World.cell?, t]; rfl
theorem PlnC.cell3 {w : World} {g gf gm k r h : Nat} (t : PlnC w g gf gm k r h) : w.cell? ⟨g, 3, none⟩ = some (.slice (some ⟨gm, 0, none⟩) h h) := by unfold PlnC at t; simp only [World.cell?, t]; rfl
/-- block g holds a plan, with its field and its forms. -/
structure PlnF (w : World) (g gf gm p k r h : Nat) (f s : Int) : Prop where
  tc : PlnC w g gf gm k r h
  fld : Fld w gf p f s
  row : Row w gm h (fmp p r k)
theorem PlnF.keep {w w' : World} {g gf gm p k r h : Nat} {f s : Int} (T : PlnF w g gf gm p k r h f s) (e1 : w'.heap[g]? = w.heap[g]?) (e2 : w'.heap[gf]? = w.heap[gf]?) (e3 : w'.heap[gm]? = w.heap[gm]?) : PlnF w' g gf gm p k r h f s := by
  obtain ⟨h1, h2, cur, h3, h4⟩ := T
  exact ⟨by unfold PlnC; rw [e1]; exact h1, by unfold Fld; rw [e2]; exact h2, cur, by rw [e3]; exact h3, h4⟩
theorem PlnF.lt {w : World} {g gf gm p k r h : Nat} {f s : Int} (T : PlnF w g gf gm p k r h f s) : g < w.heap.size ∧ gf < w.heap.size ∧ gm < w.heap.size := ⟨T.tc.lt, T.fld.lt, T.row.lt⟩
theorem PlnF.below {B : Nat} {w w' : World} {g gf gm p k r h : Nat} {f s : Int} (T : PlnF w g gf gm p k r h f s) (hb : Below B w w') (hB : g < B ∧ gf < B ∧ gm < B) : PlnF w' g gf gm p k r h f s :=
  T.keep (hb.block _ hB.1) (hb.block _ hB.2.1) (hb.block _ hB.2.2)
theorem PlnF.only {b : Nat} {w w' : World} {g gf gm p k r h : Nat} {f s : Int} (T : PlnF w g gf gm p k r h f s) (o : OnlyB b w w') (hB : g ≠ b ∧ gf ≠ b ∧ gm ≠ b) : PlnF w' g gf gm p k r h f s :=
  T.keep (o.block _ hB.1) (o.block _ hB.2.1) (o.block _ hB.2.2)
theorem PlnF.heap {w w' : World} {g gf gm p k r h : Nat} {f s : Int} (T : PlnF w g gf gm p k r h f s) (e : w'.heap = w.heap) : PlnF w' g gf gm p k r h f s :=
  T.keep (by rw [e]) (by rw [e]) (by rw [e])
theorem PlnF.drew {w : World} {g gf gm p k r h : Nat} {f s : Int} (T : PlnF w g gf gm p k r h f s) (n : Nat) : PlnF (w.drewN n) g gf gm p k r h f s := T.heap (by simp)
/-- block g holds a plan. -/
def Pln (w : World) (g p k r : Nat) : Prop := TabOk p k r ∧ ∃ gf gm h f s, PlnF w g gf gm p k r h f s ∧ h = 2 ^ k / 2 ∧ Ok p f s
theorem Pln.ok {w : World} {g p k r : Nat} (h : Pln w g p k r) : TabOk p k r := h.1
theorem Pln.below {w w' : World} {g p k r : Nat} (h : Pln w g p k r) (hb : Below w.heap.size w w') : Pln w' g p k r := by
  obtain ⟨h0, gf, gm, h, f, s, h1, h2, h3⟩ := h
  exact ⟨h0, gf, gm, h, f, s, h1.below hb h1.lt, h2, h3⟩
theorem Pln.heap {w w' : World} {g p k r : Nat} (h : Pln w g p k r) (e : w'.heap = w.heap) : Pln w' g p k r := by
  obtain ⟨h0, gf, gm, h, f, s, h1, h2, h3⟩ := h
  exact ⟨h0, gf, gm, h, f, s, h1.heap e, h2, h3⟩
theorem TabOk.odd {p k r : Nat} (T : TabOk p k r) (hk : 0 < k) : (p : Int) % 2 = 1 := by
  have h1 : p % 2 ≠ 0 := fun h => by
    rcases T.pri.2 2 (Nat.dvd_of_mod_eq_zero h) with h' | h'
    · omega
    · have := T.ktw
      rw [← h', tw2] at this
      omega
  omega
set_option maxHeartbeats 800000 in
theorem m_any (g : Nat) (m f s : Int) (w : World) (h : Fld w g m f s) : Calls Tryz.prog 101 #[.pointer (some ⟨g, 0, none⟩)] w fun e w' => e = .returned (.int .u64 m) ∧ w' = w := by
  have c := h.cell0
  clear h
  go_enter Tryz.func101, Tryz.ntmps101
  go_wp2
  go_ret
  exact ⟨rfl, rfl⟩
set_option maxHeartbeats 800000 in
theorem tmost_nil (w : World) : Calls Tryz.prog 37 #[.pointer none] w fun e w' => e = .returned (.int .i64 0) ∧ w' = w := by
  go_enter Tryz.func37, Tryz.ntmps37
  go_wp2
  go_ret
  exact ⟨rfl, rfl⟩
set_option maxHeartbeats 800000 in
theorem tmost_any (g p k r : Nat) (w : World) (T : Pln w g p k r) : Calls Tryz.prog 37 #[.pointer (some ⟨g, 0, none⟩)] w fun e w' => e = .returned (.int .i64 (2 ^ k : Nat)) ∧ w' = w := by
  have k20 := T.ok.k20
  obtain ⟨_, gf, gm, h, f, s, h1, _, _⟩ := T
  have c := h1.tc.cell1
  have e2 : (2 : Int) ^ k = ((2 ^ k : Nat) : Int) := (Int.natCast_pow 2 k).symm
  have l20 : 2 ^ k ≤ 2 ^ 20 := Nat.pow_le_pow_right (by decide) k20
  clear h1
  obtain ⟨N, hN⟩ : ∃ N, N = 2 ^ k := ⟨_, rfl⟩
  rw [← hN] at e2 l20 ⊢
  clear hN
  go_enter Tryz.func37, Tryz.ntmps37
  go_wp2
  go_ret
  exact ⟨rfl, rfl⟩
end Go.Proofs.YtocfenjampmdlabGreatDoor
namespace Go.Proofs.YtocfenjampmdlabGreatDoor
open Go.RowKit Num Nmb

set_option maxHeartbeats 1600000 in
theorem halves_any (gl off H : Nat) (w : World) (h0 : 0 < H) (hH : H ≤ 1048576) :
    Calls Tryz.prog 84 #[.slice (some ⟨gl, off, none⟩) (2 * H : Nat) (2 * H : Nat)] w fun e w' => e = .returned (.tuple #[.slice (some ⟨gl, off, none⟩) H H, .slice (some ⟨gl, off + H, none⟩) H H]) ∧ ∃ c, w' = w.drewN c := by
  have dq : Int.tdiv ((2 * H : Nat) : Int) 2 = (H : Int) := by rw [Int.tdiv_eq_ediv_of_nonneg (by omega)]; omega
  have q1 : (H : Int) ≤ ((2 * H : Nat) : Int) := by omega
  have q2 : 2 * H - H = H := by omega
  have q3 : (((2 * H : Nat) : Int) - (H : Int)).toNat = H := by omega
  go_enter Tryz.func84, Tryz.ntmps84
  go_wp2_with fail
  go_quiet (fail)
  rename_i nq
  go_wp2
  go_ret2
  refine ⟨?_, nq, rfl⟩
  show Ending.returned (Value.tuple #[Value.slice (some ⟨gl, off, none⟩) H H, Value.slice (some ⟨gl, off + H, none⟩) (2 * H - H) (2 * H - H)]) = _
  rw [q2]
/-- what x is twice of. -/
def hv (p : Nat) (x : Int) : Int := if x % 2 = 0 then x / 2 else (x + p) / 2
theorem hv_said {p : Nat} {x : Int} (hx : 0 ≤ x ∧ x < p) (ho : (p : Int) % 2 = 1) : (0 ≤ hv p x ∧ hv p x < p) ∧ Cg p (2 * hv p x) x := by
  unfold hv
  by_cases h : x % 2 = 0
  · rw [if_pos h]
    exact ⟨⟨by omega, by omega⟩, Cg.of_eq (by omega)⟩
  · rw [if_neg h]
    refine ⟨⟨by omega, by omega⟩, ?_⟩
    rw [show 2 * ((x + (p : Int)) / 2) = x + p by omega]
    unfold Cg
    rw [Int.add_emod_right]
set_option maxHeartbeats 1600000 in
theorem halved_any (g gf gm p k r h : Nat) (f s x : Int) (w : World) (T : PlnF w g gf gm p k r h f s) (h63 : p < 9223372036854775808) (hx : 0 ≤ x ∧ x < p) (ho : (p : Int) % 2 = 1) :
    Calls Tryz.prog 97 #[.pointer (some ⟨g, 0, none⟩), .int .u64 x] w fun e w' => e = .returned (.int .u64 (hv p x)) ∧ w' = w := by
  have c := T.tc.cell0
  have MM := hid (m_any gf p f s w T.fld)
  clear T
  rcases (show x % 2 = 0 ∨ x % 2 = 1 by omega) with h | h
  · have D : hv p x = x / 2 := by unfold hv; rw [if_pos h]
    rw [D]
    clear D
    have tm : Int.tmod x 2 = 0 := by rw [Int.tmod_eq_emod_of_nonneg (by omega)]; exact h
    have td : Int.tdiv x 2 = x / 2 := by rw [Int.tdiv_eq_ediv_of_nonneg (by omega)]
    go_enter Tryz.func97, Tryz.ntmps97
    go_wp2
    go_ret
    exact ⟨rfl, by first | trivial | rfl⟩
  · have D : hv p x = (x + p) / 2 := by unfold hv; rw [if_neg (by omega)]
    rw [D]
    clear D
    have tm : Int.tmod x 2 = 1 := by rw [Int.tmod_eq_emod_of_nonneg (by omega)]; exact h
    have td : Int.tdiv (x + p) 2 = (x + p) / 2 := by rw [Int.tdiv_eq_ediv_of_nonneg (by omega)]
    have wr : IntKind.u64.wrap (x + p) = x + p := by rw [IntKind.wrap_u64]; omega
    go_enter Tryz.func97, Tryz.ntmps97
    go_wp2_with fail
    refine MM.out.mono ?_
    rintro e w3 ⟨rfl, hw⟩
    obtain rfl := hw.symm
    go_wp2
    go_ret
    exact ⟨rfl, by first | trivial | rfl⟩
theorem add_q (g : Nat) (m f s x y : Int) (w : World) (h : Fld w g m f s) (hm : Ok m f s) (hx : 0 ≤ x) (hy : 0 ≤ y) :
    Calls Tryz.prog 85 #[.pointer (some ⟨g, 0, none⟩), .int .u64 x, .int .u64 y] w fun e w' => e = .returned (.int .u64 ((x + y) % m)) ∧ ∃ k, w' = w.drewN k := by
  refine (add_any g m f s x y w h hm hx hy).mono ?_
  rintro e w' ⟨rfl, rfl⟩
  exact ⟨rfl, 0, rfl⟩
theorem sub_q (g : Nat) (m f s x y : Int) (w : World) (h : Fld w g m f s) (hm : Ok m f s) (hx : 0 ≤ x) (hy : 0 ≤ y) :
    Calls Tryz.prog 69 #[.pointer (some ⟨g, 0, none⟩), .int .u64 x, .int .u64 y] w fun e w' => e = .returned (.int .u64 ((x - y) % m)) ∧ ∃ k, w' = w.drewN k := by
  refine (sub_any g m f s x y w h hm hx hy).mono ?_
  rintro e w' ⟨rfl, rfl⟩
  exact ⟨rfl, 0, rfl⟩
/-- the point at twice a place. -/
def pt (r k b : Nat) : Int := (r : Int) ^ rv k (2 * b)
theorem fmp_pt {p r k b : Nat} (hk : 0 < k) : fmp p r k b % p = pt r k b * 18446744073709551616 % p := by
  obtain ⟨k, rfl⟩ : ∃ j, k = j + 1 := ⟨k - 1, by omega⟩
  unfold fmp pt
  rw [rv_even, Int.emod_emod_of_dvd _ (Int.dvd_refl _)]
  rfl
theorem fmp_nn {p r k b : Nat} (hp : 0 < p) : 0 ≤ fmp p r k b ∧ fmp p r k b < p := ⟨Int.emod_nonneg _ (by omega), Int.emod_lt_of_pos _ (by omega)⟩
set_option maxHeartbeats 1600000 in
/-- the inverse of a point, in Montgomery's form. -/
theorem inverse_any (g gf gm p k r h b : Nat) (f s : Int) (OK : Ok p f s) (TO : TabOk p k r) (hh : h = 2 ^ k / 2) (hb : b < h) : ∃ v z : Int, (0 ≤ v ∧ v % p = z * 18446744073709551616 % p ∧ Cg p (pt r k b * z) 1) ∧ ∀ w, PlnF w g gf gm p k r h f s →
    Calls Tryz.prog 96 #[.pointer (some ⟨g, 0, none⟩), .int .i64 b] w fun e w' => e = .returned (.int .u64 v) ∧ ∃ c, w' = w.drewN c := by
  have p2 := TO.pri.1
  have k20 := TO.k20
  obtain ⟨k1, rfl⟩ : ∃ j, k = j + 1 := ⟨k - 1, by
    have : k ≠ 0 := by
      rintro rfl
      rw [hh] at hb
      simp at hb
    omega⟩
  have hh' : h = 2 ^ k1 := by rw [hh, Nat.pow_succ]; omega
  have l20 : 2 ^ k1 ≤ 2 ^ 19 := Nat.pow_le_pow_right (by decide) (by omega)
  by_cases b0 : b = 0
  · subst b0
    refine ⟨fmp p r (k1 + 1) 0, 1, ?_, fun w T => ?_⟩
    · show 0 ≤ fmp p r (k1 + 1) 0 ∧ fmp p r (k1 + 1) 0 % p = 1 * 18446744073709551616 % p ∧ Cg p (pt r (k1 + 1) 0 * 1) 1
      refine ⟨(fmp_nn (by omega)).1, ?_, ?_⟩
      · rw [fmp_pt (by omega)]
        unfold pt
        rw [rv_nil, Int.pow_zero]
      · unfold pt
        rw [rv_nil, Int.pow_zero]
        exact Cg.rfl
    have c0 := T.tc.cell0
    have c3 := T.tc.cell3
    have cm := T.row.cell (i := 0) hb
    have hb' : (0 : Int) < (h : Int) := by omega
    clear T
    generalize fmp p r (k1 + 1) 0 = v at *
    go_enter Tryz.func96, Tryz.ntmps96
    go_wp2
    go_ret
    exact ⟨rfl, 0, rfl⟩
  · obtain ⟨q, hq, hql⟩ := bl_low k1 b (by omega) (by omega) (by omega)
    have hb2 := (bl_said k1 b (by omega) (by omega)).1
    rw [hq, Nat.pow_succ] at hb2
    obtain ⟨t, rfl⟩ : ∃ t, b = 2 ^ q + t := ⟨b - 2 ^ q, by omega⟩
    have qk : q < k1 := by
      apply Nat.lt_of_not_le
      intro hle
      have : 2 ^ k1 ≤ 2 ^ q := Nat.pow_le_pow_right (by decide) hle
      omega
    have xf := xor_flip q t (by omega)
    have q62 : 2 ^ q ≤ 2 ^ 19 := Nat.pow_le_pow_right (by decide) (by omega)
    have l0 : 0 < 2 ^ q := Nat.two_pow_pos q
    have xi := xor_i64 (2 ^ q + t) (2 ^ q - 1) (by omega) (by omega)
    rw [xf] at xi
    have ll : 2 ^ q + (2 ^ q - 1 - t) < h := by
      have : 2 ^ (q + 1) ≤ 2 ^ k1 := Nat.pow_le_pow_right (by decide) (by omega)
      rw [Nat.pow_succ] at this
      omega
    have nn := (fmp_nn (p := p) (r := r) (k := k1 + 1) (b := 2 ^ q + (2 ^ q - 1 - t)) (by omega)).1
    refine ⟨(0 - fmp p r (k1 + 1) (2 ^ q + (2 ^ q - 1 - t))) % (p : Int), -pt r (k1 + 1) (2 ^ q + (2 ^ q - 1 - t)), ?_, fun w T => ?_⟩
    · refine ⟨Int.emod_nonneg _ (by omega), ?_, TO.rt.flip q t qk (by omega)⟩
      have h1 : Cg p (fmp p r (k1 + 1) (2 ^ q + (2 ^ q - 1 - t))) (pt r (k1 + 1) (2 ^ q + (2 ^ q - 1 - t)) * 18446744073709551616) := fmp_pt (by omega)
      have h2 := (Cg.rfl (p := p) (a := 0)).sub h1
      rw [Int.emod_emod_of_dvd _ (Int.dvd_refl _), Int.neg_mul]
      rw [Int.zero_sub (pt r (k1 + 1) (2 ^ q + (2 ^ q - 1 - t)) * 18446744073709551616)] at h2
      exact h2
    have c0 := T.tc.cell0
    have c3 := T.tc.cell3
    have cm := T.row.cell (i := 2 ^ q + (2 ^ q - 1 - t)) ll
    have SU := hid (fun c => sub_q gf p f s 0 (fmp p r (k1 + 1) (2 ^ q + (2 ^ q - 1 - t))) (w.drewN c) (T.fld.drew c) OK (Int.le_refl 0) nn)
    have BL := hid (blen_any (2 ^ q + t) w (by omega))
    rw [hq] at BL
    have sq : ((q : Int) + 1 - 1) = (q : Int) := by omega
    have e2 : (2 : Int) ^ q = ((2 ^ q : Nat) : Int) := (Int.natCast_pow 2 q).symm
    have e3 : ((2 ^ q : Nat) : Int) - 1 = ((2 ^ q - 1 : Nat) : Int) := by omega
    have n0 : (((2 ^ q + t : Nat) : Int) == 0) = false := beq_eq_false_iff_ne.2 (by omega)
    have w1 : IntKind.u64.wrap ((2 ^ q + t : Nat) : Int) = ((2 ^ q + t : Nat) : Int) := by rw [IntKind.wrap_u64]; omega
    have ll' : ((2 ^ q + (2 ^ q - 1 - t) : Nat) : Int) < (h : Int) := by omega
    clear T hh hh' OK TO xf hql hb2
    generalize 2 ^ q = Q at *
    have w2 : IntKind.i64.wrap ((Q - 1 : Nat) : Int) = ((Q - 1 : Nat) : Int) := by rw [IntKind.wrap_i64]; omega
    have w3 : IntKind.i64.wrap (Q : Int) = (Q : Int) := by rw [IntKind.wrap_i64]; omega
    generalize Q + (Q - 1 - t) = j at *
    generalize Q + t = b at *
    generalize Q - 1 = Q1 at *
    generalize fmp p r (k1 + 1) j = v at *
    go_enter Tryz.func96, Tryz.ntmps96
    go_wp2_with fail
    refine BL.out.mono ?_
    rintro e w3 ⟨rfl, hw⟩
    obtain rfl := hw.symm
    go_wp2_with fail
    go_quiet ((go_at_call 69; exact Calls.quiet_of (SU.out _)))
    rename_i nq
    go_wp2
    go_ret
    exact ⟨rfl, nq, rfl⟩
end Go.Proofs.YtocfenjampmdlabGreatDoor
namespace Go.Proofs.YtocfenjampmdlabGreatDoor
open Go.RowKit Num Nmb

/-- a plan, and a block's row of words below the modulus, apart from it. -/
structure EnvT (w : World) (g gf gm gl p k r h N : Nat) (f s : Int) (X : Nat → Int) : Prop where
  pln : PlnF w g gf gm p k r h f s
  row : Row w gl N X
  bnd : ∀ j, j < N → 0 ≤ X j ∧ X j < p
  d : g ≠ gl ∧ gf ≠ gl ∧ gm ≠ gl
theorem EnvT.drew {w : World} {g gf gm gl p k r h N : Nat} {f s : Int} {X : Nat → Int} (E : EnvT w g gf gm gl p k r h N f s X) (n : Nat) : EnvT (w.drewN n) g gf gm gl p k r h N f s X :=
  ⟨E.pln.drew n, E.row.drew n, E.bnd, E.d⟩
theorem PlnF.other {w : World} {b g gf gm p k r h : Nat} {f s : Int} (T : PlnF w g gf gm p k r h f s) (hB : g ≠ b ∧ gf ≠ b ∧ gm ≠ b) (i : Nat) (v : Value) : PlnF (w.setCell ⟨b, i, none⟩ v) g gf gm p k r h f s :=
  T.only ((OnlyB.refl b w).set i v) hB
theorem EnvT.set {w : World} {g gf gm gl p k r h N : Nat} {f s : Int} {X Y : Nat → Int} (E : EnvT w g gf gm gl p k r h N f s X) (i : Nat) (v : Int) (hv : 0 ≤ v ∧ v < p) (e : ∀ j, j < N → Y j = if j = i then v else X j) : EnvT (w.setCell ⟨gl, i, none⟩ (.int .u64 v)) g gf gm gl p k r h N f s Y :=
  ⟨E.pln.other E.d _ _, E.row.set i v e, fun j hj => by
    rw [e j hj]
    by_cases ej : j = i
    · rw [if_pos ej]; exact hv
    · rw [if_neg ej]; exact E.bnd j hj, E.d⟩
theorem EnvT.eq {w : World} {g gf gm gl p k r h N : Nat} {f s : Int} {X Y : Nat → Int} (E : EnvT w g gf gm gl p k r h N f s X) (e : ∀ j, j < N → X j = Y j) : EnvT w g gf gm gl p k r h N f s Y :=
  ⟨E.pln, E.row.eq e, fun j hj => by rw [← e j hj]; exact E.bnd j hj, E.d⟩
/-- the first i pairs of a block's halves, made sum and difference. -/
def dwn (X : Nat → Int) (p : Nat) (c : Int) (off H i j : Nat) : Int :=
  if off ≤ j ∧ j < off + i then (X j + X (j + H) * c % p) % p else if off + H ≤ j ∧ j < off + H + i then (X (j - H) - X j * c % p) % p else X j
theorem dwn_at {X : Nat → Int} {p : Nat} {c : Int} {off H i : Nat} (hi : i < H) : dwn X p c off H i (off + i) = X (off + i) ∧ dwn X p c off H i (off + H + i) = X (off + H + i) := by
  unfold dwn
  exact ⟨by rw [if_neg (by omega), if_neg (by omega)], by rw [if_neg (by omega), if_neg (by omega)]⟩
theorem dwn_step {X : Nat → Int} {p : Nat} {c : Int} {off H i : Nat} (hi : i < H) (j : Nat) :
    dwn X p c off H (i + 1) j = if j = off + H + i then (X (off + i) - X (off + H + i) * c % p) % p else if j = off + i then (X (off + i) + X (off + H + i) * c % p) % p else dwn X p c off H i j := by
  unfold dwn
  by_cases h1 : j = off + H + i
  · subst h1
    rw [if_neg (by omega), if_pos (by omega), if_pos rfl, show off + H + i - H = off + i by omega]
  · rw [if_neg h1]
    by_cases h2 : j = off + i
    · subst h2
      rw [if_pos (by omega), if_pos rfl, show off + i + H = off + H + i by omega]
    · rw [if_neg h2]
      by_cases h3 : off ≤ j ∧ j < off + i
      · rw [if_pos h3, if_pos (by omega)]
      · rw [if_neg h3, if_neg (by omega)]
        by_cases h4 : off + H ≤ j ∧ j < off + H + i
        · rw [if_pos h4, if_pos (by omega)]
        · rw [if_neg h4, if_neg (by omega)]
theorem dwn_zero {X : Nat → Int} {p : Nat} {c : Int} {off H : Nat} (j : Nat) : dwn X p c off H 0 j = X j := by
  unfold dwn
  rw [if_neg (by omega), if_neg (by omega)]
set_option maxHeartbeats 800000 in
theorem down_none (g gl off L b n : Nat) (w : World) (h : n = 0 ∨ L = 1) :
    Calls Tryz.prog 59 #[.pointer (some ⟨g, 0, none⟩), .slice (some ⟨gl, off, none⟩) L L, .int .i64 b, .int .i64 n] w fun e w' => e = .returned (.tuple #[]) ∧ w' = w := by
  by_cases n0 : n = 0
  · subst n0
    go_enter Tryz.func59, Tryz.ntmps59
    go_wp2
    (try simp only [Exit.inBlock, Exit.then])
    refine bodyPost_ret (results_none rfl _ _ _) rfl ?_
    exact ⟨rfl, rfl⟩
  · obtain rfl : L = 1 := by omega
    have n0' : ((n : Int) == 0) = false := beq_eq_false_iff_ne.2 (by omega)
    go_enter Tryz.func59, Tryz.ntmps59
    go_wp2
    (try simp only [Exit.inBlock, Exit.then])
    refine bodyPost_ret (results_none rfl _ _ _) rfl ?_
    exact ⟨rfl, rfl⟩
/-- what down promises of blocks of 2 to the mth numbers. -/
def DownIs (g gf gm gl p k r h N : Nat) (f s : Int) (m H : Nat) : Prop :=
  ∀ (b n off : Nat) (X : Nat → Int) (w : World), EnvT w g gf gm gl p k r h N f s X → off + H ≤ N → b < 2 ^ (k - m) → n ≤ H →
    Calls Tryz.prog 59 #[.pointer (some ⟨g, 0, none⟩), .slice (some ⟨gl, off, none⟩) H H, .int .i64 b, .int .i64 n] w fun e w' =>
      e = .returned (.tuple #[]) ∧ ∃ Y, EnvT w' g gf gm gl p k r h N f s Y ∧ OnlyB gl w w' ∧ (∀ j, j < N → (j < off ∨ off + H ≤ j) → Y j = X j) ∧ ∀ i, i < n → Cg p (Y (off + i)) (lf r k m b (fun j => X (off + j)) i)
set_option maxHeartbeats 800000 in
set_option maxRecDepth 100000 in
theorem down_step {g gf gm gl p k r h N : Nat} {f s : Int} (OK : Ok p f s) (TO : TabOk p k r) (hh : h = 2 ^ k / 2) (hN : N ≤ 1048576) (m H : Nat) (hm : m + 1 ≤ k) (hH : H = 2 ^ m) (IH : DownIs g gf gm gl p k r h N f s m H) : DownIs g gf gm gl p k r h N f s (m + 1) (2 * H) := by
  intro b n off X w E hoff hb hn
  have H0 : 0 < H := by rw [hH]; exact Nat.two_pow_pos m
  by_cases n0 : n = 0
  · subst n0
    refine (down_none g gl off (2 * H) b 0 w (Or.inl rfl)).mono ?_
    rintro e w' ⟨rfl, rfl⟩
    exact ⟨rfl, X, E, OnlyB.refl _ _, fun _ _ _ => rfl, fun i hi => absurd hi (by omega)⟩
  have k0 : 0 < k := by omega
  have ho := TO.odd k0
  have p2 := TO.pri.1
  have kk : 2 * 2 ^ (k - (m + 1)) = 2 ^ (k - m) := by
    rw [show k - m = k - (m + 1) + 1 by omega, Nat.pow_succ]
    omega
  have hb1 : 2 * b < 2 ^ (k - m) := by omega
  have hb2 : 2 * b + 1 < 2 ^ (k - m) := by omega
  have hbh : b < h := by
    have h1 : 2 ^ (k - m) ≤ 2 ^ k := Nat.pow_le_pow_right (by decide) (by omega)
    omega
  have hc : nd r k (k - m) (2 * b) = pt r k b := nd_pt _ (by omega) hb1
  have h20 : h ≤ 1048576 := by
    have : 2 ^ k ≤ 2 ^ 20 := Nat.pow_le_pow_right (by decide) TO.k20
    omega
  have fv := fmp_nn (p := p) (r := r) (k := k) (b := b) (by omega)
  have fz := fmp_pt (p := p) (r := r) (b := b) k0
  obtain ⟨c, hcd⟩ : ∃ c, c = pt r k b := ⟨_, rfl⟩
  rw [← hcd] at hc fz
  have HV := hid (halves_any gl off H w H0 (by omega))
  have TM : Hid (∀ W X i, EnvT W g gf gm gl p k r h N f s X → i < N → Calls Tryz.prog 68 #[.pointer (some ⟨gf, 0, none⟩), .int .u64 (X i), .int .u64 (fmp p r k b)] W fun e w' => e = .returned (.tuple #[.int .u64 (X i * c % p), .int .i64 0]) ∧ ∃ k, w' = W.drewN k) :=
    fun W X i E hi => times_form gf p f s (X i) (fmp p r k b) c W E.pln.fld OK (E.bnd i hi).1 fv.1 ho fz
  have AD : Hid (∀ W X x y, EnvT W g gf gm gl p k r h N f s X → 0 ≤ x → 0 ≤ y → Calls Tryz.prog 85 #[.pointer (some ⟨gf, 0, none⟩), .int .u64 x, .int .u64 y] W fun e w' => e = .returned (.int .u64 ((x + y) % p)) ∧ ∃ k, w' = W.drewN k) :=
    fun W X x y E hx hy => add_q gf p f s x y W E.pln.fld OK hx hy
  have SU : Hid (∀ W X x y, EnvT W g gf gm gl p k r h N f s X → 0 ≤ x → 0 ≤ y → Calls Tryz.prog 69 #[.pointer (some ⟨gf, 0, none⟩), .int .u64 x, .int .u64 y] W fun e w' => e = .returned (.int .u64 ((x - y) % p)) ∧ ∃ k, w' = W.drewN k) :=
    fun W X x y E hx hy => sub_q gf p f s x y W E.pln.fld OK hx hy
  have c3 : Hid (∀ W X, EnvT W g gf gm gl p k r h N f s X → W.cell? ⟨g, 3, none⟩ = some (.slice (some ⟨gm, 0, none⟩) h h) ∧ W.cell? ⟨gm, b, none⟩ = some (.int .u64 (fmp p r k b))) := fun W X E => ⟨E.pln.tc.cell3, E.pln.row.cell hbh⟩
  have FIN : Hid (∀ (w' : World) (Y1 Y2 : Nat → Int), (∀ j, j < N → (j < off ∨ off + H ≤ j) → Y1 j = dwn X p c off H H j) → (∀ i, i < min n H → Cg p (Y1 (off + i)) (lf r k m (2 * b) (fun j => dwn X p c off H H (off + j)) i)) →
      (∀ j, j < N → (j < off + H ∨ off + H + H ≤ j) → Y2 j = Y1 j) → (∀ i, i < n - H → Cg p (Y2 (off + H + i)) (lf r k m (2 * b + 1) (fun j => Y1 (off + H + j)) i)) → EnvT w' g gf gm gl p k r h N f s Y2 → OnlyB gl w w' →
      ∃ Y, EnvT w' g gf gm gl p k r h N f s Y ∧ OnlyB gl w w' ∧ (∀ j, j < N → (j < off ∨ off + 2 * H ≤ j) → Y j = X j) ∧ ∀ i, i < n → Cg p (Y (off + i)) (lf r k (m + 1) b (fun j => X (off + j)) i)) := by
    intro w' Y1 Y2 a1 a2 b1 b2 E2 O2
    refine ⟨Y2, E2, O2, fun j hj hr => ?_, fun i hi => ?_⟩
    · rw [b1 j hj (by omega), a1 j hj (by omega)]
      unfold dwn
      rw [if_neg (by omega), if_neg (by omega)]
    · show Cg p (Y2 (off + i)) (if i < 2 ^ m then _ else _)
      rw [← hH, hc]
      by_cases hl : i < H
      · rw [if_pos hl, b1 (off + i) (by omega) (by omega)]
        refine (a2 i (by omega)).trans (lf_cg m _ _ _ i (fun j hj => ?_) (by omega))
        show Cg p (dwn X p c off H H (off + j)) (X (off + j) + c * X (off + (j + H)))
        unfold dwn
        rw [if_pos (by omega), show off + j + H = off + (j + H) by omega, Int.mul_comm c]
        exact Cg.mod.trans (Cg.rfl.add Cg.mod)
      · rw [if_neg hl]
        have := b2 (i - H) (by omega)
        rw [show off + H + (i - H) = off + i by omega] at this
        refine this.trans (lf_cg m _ _ _ (i - H) (fun j hj => ?_) (by omega))
        show Cg p (Y1 (off + H + j)) (X (off + j) - c * X (off + (j + H)))
        rw [a1 (off + H + j) (by omega) (by omega)]
        unfold dwn
        rw [if_neg (by omega), if_pos (by omega), show off + H + j - H = off + j by omega, show off + H + j = off + (j + H) by omega, Int.mul_comm c]
        exact Cg.mod.trans (Cg.rfl.sub Cg.mod)
  have EE := hid E
  have HIH := hid IH
  have n0' : ((n : Int) == 0) = false := beq_eq_false_iff_ne.2 (by omega)
  obtain ⟨D, hD⟩ : ∃ D, D = 2 * H := ⟨_, rfl⟩
  obtain ⟨b2, hb2e⟩ : ∃ b2, b2 = 2 * b := ⟨_, rfl⟩
  obtain ⟨b3, hb3e⟩ : ∃ b3, b3 = 2 * b + 1 := ⟨_, rfl⟩
  have q1 : ((D : Int) == 1) = false := beq_eq_false_iff_ne.2 (by omega)
  have hbh' : (b : Int) < (h : Int) := by omega
  have w1 : IntKind.i64.wrap (b2 : Int) = (b2 : Int) := by rw [IntKind.wrap_i64]; omega
  have w2 : IntKind.i64.wrap (b3 : Int) = (b3 : Int) := by rw [IntKind.wrap_i64]; omega
  have c2b : 2 * (b : Int) = (b2 : Int) := by omega
  have c2c : (b2 : Int) + 1 = (b3 : Int) := by omega
  rw [← hb3e, ← hb2e, ← hD] at FIN
  rw [← hb2e] at hb1
  rw [← hb3e] at hb2
  rw [← hD] at HV hoff hn ⊢
  have HD := hid hD
  have H20 : H ≤ 1048576 := by omega
  clear E IH hb kk fv fz hcd hc hb2e hb3e hH hh hD
  generalize fmp p r k b = v at *
  go_enter Tryz.func59, Tryz.ntmps59
  go_wp2_with fail
  refine HV.out.mono ?_
  rintro e w3 ⟨rfl, q, rfl⟩
  have E1 := hid (EE.out.drew q)
  have O1 := hid ((OnlyB.refl gl w).drew q)
  have cc := c3.out _ _ E1.out
  obtain ⟨cc3, ccb⟩ := cc
  clear HV
  generalize w.drewN q = w1 at *
  go_wp2
  go_loopw [35] (fun iv wr => ∃ (i : Nat), iv = .int .i64 i ∧ i ≤ H ∧ Hid (EnvT wr g gf gm gl p k r h N f s (dwn X p c off H i)) ∧ Hid (OnlyB gl w wr)) (fun iv _ => ((H : Int) - intOf iv).toNat)
  case atStart => exact ⟨0, rfl, Nat.zero_le _, E1.out.eq (fun j _ => (dwn_zero j).symm), O1.out⟩
  case round =>
    obtain ⟨i, rfl, hi, Ei, Oi⟩ := hrel
    have hD := HD.out
    by_cases him : i = H
    · have him' : ¬ (i : Int) < (H : Int) := by omega
      obtain rfl := him
      have I1 := hid (HIH.out b2 (min n i) off _ wr Ei.out (by omega) hb1 (by omega))
      have mn : min (n : Int) (i : Int) = ((min n i : Nat) : Int) := by omega
      have HM := hid mn
      have mx : max ((n : Int) - (i : Int)) 0 = ((n - i : Nat) : Int) := by omega
      have HX := hid mx
      have z1 : off + i + i ≤ N := by omega
      have z2 : n - i ≤ i := by omega
      clear mn mx TM AD SU c3 cc3 ccb EE E1 O1 HD hD
      go_wp2_with fail
      rw [HM.out]
      refine I1.out.mono ?_
      rintro e w4 ⟨rfl, Y1, E4, O4, a1, a2⟩
      have I2 := hid (HIH.out b3 (n - i) (off + i) _ w4 E4 z1 hb2 z2)
      have O5 := hid (Oi.out.trans O4)
      have F2 := hid (fun w' Y2 => FIN.out w' Y1 Y2 a1 a2)
      clear I1 HM E4 O4 a1 a2 Ei Oi HIH FIN
      go_wp2_with fail
      rw [HX.out]
      refine I2.out.mono ?_
      rintro e w5 ⟨rfl, Y2, E5, O6, b1, b2⟩
      have F3 := hid (F2.out w5 Y2 b1 b2 E5 (O5.out.trans O6))
      clear I2 E5 O6 b1 b2 F2 HX O5
      go_wp2
      go_end0
      exact ⟨rfl, F3.out⟩
    · have him' : (i : Int) < (H : Int) := by omega
      have hiH : i < H := by omega
      have cf := Ei.out.pln.tc.cell0
      have cl := Ei.out.row.cell (i := off + i) (by omega)
      have ch := Ei.out.row.cell (i := off + H + i) (by omega)
      have fl := Ei.out.row.frozen (off + i)
      have fh := Ei.out.row.frozen (off + H + i)
      have T1 := hid (fun q => TM.out _ _ (off + H + i) (Ei.out.drew q) (by omega))
      obtain ⟨d1, d2⟩ := dwn_at (X := X) (p := p) (c := c) (off := off) hiH
      rw [d1] at cl
      rw [d2] at ch T1
      have X0 := Ei.out.bnd (off + i) (by omega)
      rw [d1] at X0
      have t0 := Int.emod_nonneg (X (off + H + i) * c) (show (p : Int) ≠ 0 by omega)
      have v1b : 0 ≤ (X (off + i) + X (off + H + i) * c % p) % p ∧ (X (off + i) + X (off + H + i) * c % p) % p < p := ⟨Int.emod_nonneg _ (by omega), Int.emod_lt_of_pos _ (by omega)⟩
      have v2b : 0 ≤ (X (off + i) - X (off + H + i) * c % p) % p ∧ (X (off + i) - X (off + H + i) * c % p) % p < p := ⟨Int.emod_nonneg _ (by omega), Int.emod_lt_of_pos _ (by omega)⟩
      have A1 := hid (fun W E => AD.out W (dwn X p c off H i) (X (off + i)) (X (off + H + i) * c % p) E X0.1 t0)
      have S1 := hid (fun W E => SU.out W (dwn X p c off H i) (X (off + i)) (X (off + H + i) * c % p) E X0.1 t0)
      have FI : Hid (∀ W : World, EnvT W g gf gm gl p k r h N f s (dwn X p c off H i) → OnlyB gl w W → EnvT ((W.setCell ⟨gl, off + i, none⟩ (.int .u64 ((X (off + i) + X (off + H + i) * c % p) % p))).setCell ⟨gl, off + H + i, none⟩ (.int .u64 ((X (off + i) - X (off + H + i) * c % p) % p))) g gf gm gl p k r h N f s (dwn X p c off H (i + 1)) ∧
          OnlyB gl w ((W.setCell ⟨gl, off + i, none⟩ (.int .u64 ((X (off + i) + X (off + H + i) * c % p) % p))).setCell ⟨gl, off + H + i, none⟩ (.int .u64 ((X (off + i) - X (off + H + i) * c % p) % p)))) := by
        intro W E O
        refine ⟨(E.set (off + i) _ v1b (fun j _ => rfl)).set (off + H + i) _ v2b (fun j _ => ?_), (O.set _ _).set _ _⟩
        rw [dwn_step hiH j]
      have dg := EE.out.d.1
      clear v1b v2b t0 X0 d1 d2 EE cc3 ccb c3 HIH FIN TM AD SU hD HD E1 O1
      generalize X (off + H + i) * c % (p : Int) = t at *
      generalize (X (off + i) + t) % (p : Int) = v1 at *
      generalize (X (off + i) - t) % (p : Int) = v2 at *
      go_wp2_with fail
      go_quiet ((go_at_call 68; exact Calls.quiet_of (T1.out _)))
      rename_i nq
      have E2 := hid (Ei.out.drew nq)
      have O2 := hid (Oi.out.drew nq)
      have cf' : (wr.drewN nq).cell? ⟨g, 0, none⟩ = some (.pointer (some ⟨gf, 0, none⟩)) := by simpa using cf
      have cl' : (wr.drewN nq).cell? ⟨gl, off + i, none⟩ = some (.int .u64 (X (off + i))) := by simpa using cl
      have ch' : (wr.drewN nq).cell? ⟨gl, off + H + i, none⟩ = some (.int .u64 (X (off + H + i))) := by simpa using ch
      have fl' : (wr.drewN nq).frozen? ⟨gl, off + i, none⟩ = false := by simpa using fl
      have fh' : (wr.drewN nq).frozen? ⟨gl, off + H + i, none⟩ = false := by simpa using fh
      clear cf cl ch fl fh T1 Ei Oi
      generalize wr.drewN nq = w2 at *
      have A2 := hid (fun q => A1.out _ (E2.out.drew q))
      have S2 := hid (fun q => S1.out _ (E2.out.drew q))
      go_wp2_with fail
      refine wp_region_tail4 20 (.tmp 8) (.tmp 11) (.tmp 9) (.tmp 11) rfl rfl rfl rfl rfl rfl rfl rfl (fun _ _ _ _ h => h) (fun _ _ _ _ h => h) (fun _ _ _ _ h => h) (fun _ _ _ _ h => h) (by kernel_rfl) (by kernel_rfl) (by kernel_rfl) (by kernel_rfl) (by kernel_rfl) (by kernel_rfl) (by kernel_rfl) (by kernel_rfl) (by kernel_rfl) (by kernel_rfl) (by kernel_rfl) (by kernel_rfl) (by kernel_rfl) (by kernel_rfl) (by kernel_rfl) (by kernel_rfl) (by kernel_rfl) (by kernel_rfl) (by decide) _ _ _ _ rfl rfl rfl rfl ?_
      simp only [stillFrom, still, List.map, List.drop]
      go_simp
      repeat (quiet_step (first
        | (go_at_call 85; exact Calls.quiet_of (A2.out _))
        | (go_at_call 69; exact Calls.quiet_of (S2.out _))))
      refine wpQuiet_nil ?_
      intro nq2
      have F2 := hid (FI.out _ (E2.out.drew nq2) (O2.out.drew nq2))
      have cl2 : (w2.drewN nq2).cell? ⟨gl, off + i, none⟩ = some (.int .u64 (X (off + i))) := by simpa using cl'
      have ch2 : (w2.drewN nq2).cell? ⟨gl, off + H + i, none⟩ = some (.int .u64 (X (off + H + i))) := by simpa using ch'
      have fl2 : (w2.drewN nq2).frozen? ⟨gl, off + i, none⟩ = false := by simpa using fl'
      have fh2 : (w2.drewN nq2).frozen? ⟨gl, off + H + i, none⟩ = false := by simpa using fh'
      clear A1 S1 A2 S2 E2 O2 FI cl' ch' fl' fh' cf'
      generalize w2.drewN nq2 = w3 at *
      go_wp2
      exact ⟨⟨i + 1, rfl, by omega, F2.out.1, F2.out.2⟩, by simp only [intOf]; omega⟩
theorem down_any {g gf gm gl p k r h N : Nat} {f s : Int} (OK : Ok p f s) (TO : TabOk p k r) (hh : h = 2 ^ k / 2) (hN : N ≤ 1048576) : ∀ m, m ≤ k → DownIs g gf gm gl p k r h N f s m (2 ^ m)
  | 0, _ => by
    intro b n off X w E hoff hb hn
    refine (down_none g gl off (2 ^ 0) b n w (Or.inr rfl)).mono ?_
    rintro e w' ⟨rfl, rfl⟩
    refine ⟨rfl, X, E, OnlyB.refl _ _, fun _ _ _ => rfl, fun i hi => ?_⟩
    obtain rfl : i = 0 := by rw [Nat.pow_zero] at hn; omega
    exact Cg.rfl
  | m + 1, hm => by
    rw [Nat.pow_succ, Nat.mul_comm]
    exact down_step OK TO hh hN m (2 ^ m) hm rfl (down_any OK TO hh hN m (by omega))
end Go.Proofs.YtocfenjampmdlabGreatDoor
namespace Go.Proofs.YtocfenjampmdlabGreatDoor
open Go.RowKit Num Nmb

/-- the words from place a up to b are F's, the others X's. -/
def updw (F X : Nat → Int) (a b j : Nat) : Int := if a ≤ j ∧ j < b then F j else X j
theorem updw_zero {F X : Nat → Int} {a : Nat} (j : Nat) : updw F X a a j = X j := by unfold updw; rw [if_neg (by omega)]
theorem updw_off {F X : Nat → Int} {a b j : Nat} (h : j < a ∨ b ≤ j) : updw F X a b j = X j := by unfold updw; rw [if_neg (by omega)]
theorem updw_in {F X : Nat → Int} {a b j : Nat} (h : a ≤ j ∧ j < b) : updw F X a b j = F j := by unfold updw; rw [if_pos h]
theorem updw_step {F X : Nat → Int} {a b : Nat} (h : a ≤ b) (j : Nat) : updw F X a (b + 1) j = if j = b then F b else updw F X a b j := by
  unfold updw
  by_cases h1 : j = b
  · subst h1; rw [if_pos (by omega), if_pos rfl]
  · rw [if_neg h1]
    by_cases h2 : a ≤ j ∧ j < b
    · rw [if_pos h2, if_pos (by omega)]
    · rw [if_neg h2, if_neg (by omega)]
/-- what up promises of blocks of 2 to the mth numbers, H. -/
def UpIs (g gf gm gl p k r h N : Nat) (f s : Int) (m H : Nat) : Prop :=
  ∀ (b n off : Nat) (X : Nat → Int) (w : World), EnvT w g gf gm gl p k r h N f s X → off + H ≤ N → b < 2 ^ (k - m) → n ≤ H →
    Calls Tryz.prog 62 #[.pointer (some ⟨g, 0, none⟩), .slice (some ⟨gl, off, none⟩) H H, .int .i64 b, .int .i64 n] w fun e w' =>
      e = .returned (.tuple #[]) ∧ ∃ Y, EnvT w' g gf gm gl p k r h N f s Y ∧ OnlyB gl w w' ∧ (∀ j, j < N → (j < off ∨ off + H ≤ j) → Y j = X j) ∧ Mxd p r k m b n (fun j => Y (off + j)) (fun j => X (off + j))
set_option maxHeartbeats 1600000 in
set_option maxRecDepth 100000 in
theorem low_step {g gf gm gl p k r h N : Nat} {f s : Int} (OK : Ok p f s) (TO : TabOk p k r) (hh : h = 2 ^ k / 2) (hN : N ≤ 1048576) (m H : Nat) (hm : m + 1 ≤ k) (hH : H = 2 ^ m) (IH : UpIs g gf gm gl p k r h N f s m H)
    (b n off : Nat) (X : Nat → Int) (w : World) (E : EnvT w g gf gm gl p k r h N f s X) (hoff : off + 2 * H ≤ N) (hb : b < 2 ^ (k - (m + 1))) (hn : n ≤ H) :
    Calls Tryz.prog 86 #[.pointer (some ⟨g, 0, none⟩), .slice (some ⟨gl, off, none⟩) (2 * H : Nat) (2 * H : Nat), .int .i64 b, .int .i64 n] w fun e w' =>
      e = .returned (.tuple #[]) ∧ ∃ Y, EnvT w' g gf gm gl p k r h N f s Y ∧ OnlyB gl w w' ∧ (∀ j, j < N → (j < off ∨ off + 2 * H ≤ j) → Y j = X j) ∧ Mxd p r k (m + 1) b n (fun j => Y (off + j)) (fun j => X (off + j)) := by
  have H0 : 0 < H := by rw [hH]; exact Nat.two_pow_pos m
  have k0 : 0 < k := by omega
  have ho := TO.odd k0
  have p2 := TO.pri.1
  have kk : 2 * 2 ^ (k - (m + 1)) = 2 ^ (k - m) := by
    rw [show k - m = k - (m + 1) + 1 by omega, Nat.pow_succ]
    omega
  have hb1 : 2 * b < 2 ^ (k - m) := by omega
  have hbh : b < h := by
    have h1 : 2 ^ (k - m) ≤ 2 ^ k := Nat.pow_le_pow_right (by decide) (by omega)
    omega
  have hc : nd r k (k - m) (2 * b) = pt r k b := nd_pt _ (by omega) hb1
  have h20 : h ≤ 1048576 := by
    have : 2 ^ k ≤ 2 ^ 20 := Nat.pow_le_pow_right (by decide) TO.k20
    omega
  have fv := fmp_nn (p := p) (r := r) (k := k) (b := b) (by omega)
  have fz := fmp_pt (p := p) (r := r) (b := b) k0
  obtain ⟨c, hcd⟩ : ∃ c, c = pt r k b := ⟨_, rfl⟩
  rw [← hcd] at hc fz
  have HV := hid (halves_any gl off H w H0 (by omega))
  have TM : Hid (∀ W X i, EnvT W g gf gm gl p k r h N f s X → i < N → Calls Tryz.prog 68 #[.pointer (some ⟨gf, 0, none⟩), .int .u64 (X i), .int .u64 (fmp p r k b)] W fun e w' => e = .returned (.tuple #[.int .u64 (X i * c % p), .int .i64 0]) ∧ ∃ k, w' = W.drewN k) :=
    fun W X i E hi => times_form gf p f s (X i) (fmp p r k b) c W E.pln.fld OK (E.bnd i hi).1 fv.1 ho fz
  have AD : Hid (∀ W X x y, EnvT W g gf gm gl p k r h N f s X → 0 ≤ x → 0 ≤ y → Calls Tryz.prog 85 #[.pointer (some ⟨gf, 0, none⟩), .int .u64 x, .int .u64 y] W fun e w' => e = .returned (.int .u64 ((x + y) % p)) ∧ ∃ k, w' = W.drewN k) :=
    fun W X x y E hx hy => add_q gf p f s x y W E.pln.fld OK hx hy
  have SU : Hid (∀ W X x y, EnvT W g gf gm gl p k r h N f s X → 0 ≤ x → 0 ≤ y → Calls Tryz.prog 69 #[.pointer (some ⟨gf, 0, none⟩), .int .u64 x, .int .u64 y] W fun e w' => e = .returned (.int .u64 ((x - y) % p)) ∧ ∃ k, w' = W.drewN k) :=
    fun W X x y E hx hy => sub_q gf p f s x y W E.pln.fld OK hx hy
  have c3 : Hid (∀ W X, EnvT W g gf gm gl p k r h N f s X → W.cell? ⟨g, 3, none⟩ = some (.slice (some ⟨gm, 0, none⟩) h h) ∧ W.cell? ⟨gm, b, none⟩ = some (.int .u64 (fmp p r k b))) := fun W X E => ⟨E.pln.tc.cell3, E.pln.row.cell hbh⟩
  obtain ⟨F1, hF1⟩ : ∃ F1 : Nat → Int, F1 = fun j => (X j + X (j + H) * c % p) % p := ⟨_, rfl⟩
  have FIN : Hid (∀ (w' : World) (Y1 F2 : Nat → Int), (∀ j, j < N → (j < off ∨ off + H ≤ j) → Y1 j = updw F1 X (off + n) (off + H) j) → Mxd p r k m (2 * b) n (fun j => Y1 (off + j)) (fun j => updw F1 X (off + n) (off + H) (off + j)) →
      (F2 = fun j => (Y1 j - Y1 (j + H) * c % p) % p) → EnvT w' g gf gm gl p k r h N f s (updw F2 Y1 off (off + H)) → OnlyB gl w w' →
      ∃ Y, EnvT w' g gf gm gl p k r h N f s Y ∧ OnlyB gl w w' ∧ (∀ j, j < N → (j < off ∨ off + 2 * H ≤ j) → Y j = X j) ∧ Mxd p r k (m + 1) b n (fun j => Y (off + j)) (fun j => X (off + j))) := by
    intro w' Y1 F2 a1 a2 hF2 E2 O2
    have hi : ∀ j, j < H → Y1 (off + j + H) = X (off + (j + H)) := fun j hj => by
      rw [a1 _ (by omega) (by omega), updw_off (by omega), Nat.add_assoc]
    refine ⟨_, E2, O2, fun j hj hr => ?_, ?_⟩
    · rw [updw_off (by omega), a1 j hj (by omega), updw_off (by omega)]
    · refine Mxd.small (lo := fun j => Y1 (off + j)) (by omega) (a2.cg fun i hi => ?_) (fun j hj => ?_) (fun j hj => ?_)
      · show Cg p (if i < n then X (off + i) else X (off + i) + nd r k (k - m) (2 * b) * X (off + (i + 2 ^ m))) (updw F1 X (off + n) (off + H) (off + i))
        by_cases e : i < n
        · rw [if_pos e, updw_off (by omega)]; exact Cg.rfl
        · rw [if_neg e, updw_in (by omega), hF1, hc, ← hH, Int.mul_comm c, ← Nat.add_assoc]
          exact (Cg.mod.trans (Cg.rfl.add Cg.mod)).symm
      · show Cg p (updw F2 Y1 off (off + H) (off + j)) (Y1 (off + j) - nd r k (k - m) (2 * b) * X (off + (j + 2 ^ m)))
        rw [updw_in (by omega), hF2, hc, ← hH, Int.mul_comm c, ← hi j (by omega)]
        exact Cg.mod.trans (Cg.rfl.sub Cg.mod)
      · show Cg p (updw F2 Y1 off (off + H) (off + (j + 2 ^ m))) (X (off + (j + 2 ^ m)))
        rw [updw_off (by omega), ← hH, ← hi j (by omega), Nat.add_assoc]
        exact Cg.rfl
  have EE := hid E
  have HIH := hid IH
  obtain ⟨D, hD⟩ : ∃ D, D = 2 * H := ⟨_, rfl⟩
  obtain ⟨b2, hb2e⟩ : ∃ b2, b2 = 2 * b := ⟨_, rfl⟩
  have hbh' : (b : Int) < (h : Int) := by omega
  have w1 : IntKind.i64.wrap (b2 : Int) = (b2 : Int) := by rw [IntKind.wrap_i64]; omega
  have c2b : 2 * (b : Int) = (b2 : Int) := by omega
  rw [← hb2e, ← hD] at FIN
  rw [← hb2e] at hb1
  have z1 : off + H + H ≤ N := by omega
  rw [← hD] at HV ⊢
  have H20 : H ≤ 1048576 := by omega
  have HF1 := hid hF1
  clear E IH hb kk fv fz hcd hc hb2e hH hh hD hoff hF1
  generalize fmp p r k b = v at *
  go_enter Tryz.func86, Tryz.ntmps86
  go_wp2_with fail
  refine HV.out.mono ?_
  rintro e w3 ⟨rfl, q, rfl⟩
  have E1 := hid (EE.out.drew q)
  have O1 := hid ((OnlyB.refl gl w).drew q)
  have cc := c3.out _ _ E1.out
  obtain ⟨cc3, ccb⟩ := cc
  clear HV
  generalize w.drewN q = w1 at *
  go_wp2
  go_loopw [11] (fun iv wr => ∃ (i : Nat), iv = .int .i64 i ∧ n ≤ i ∧ i ≤ H ∧ Hid (EnvT wr g gf gm gl p k r h N f s (updw F1 X (off + n) (off + i))) ∧ Hid (OnlyB gl w wr)) (fun iv _ => ((H : Int) - intOf iv).toNat)
  case atStart => exact ⟨n, rfl, Nat.le_refl _, hn, E1.out.eq (fun j _ => (updw_zero j).symm), O1.out⟩
  case round =>
    obtain ⟨i, rfl, hni, hi, Ei, Oi⟩ := hrel
    by_cases him : i = H
    · have him' : ¬ (i : Int) < (H : Int) := by omega
      obtain rfl := him
      have I1 := hid (HIH.out b2 n off _ wr Ei.out (by omega) hb1 hn)
      clear EE cc3 ccb c3 HIH E1 O1 AD
      go_wp2_with fail
      refine I1.out.mono ?_
      rintro e w4 ⟨rfl, Y1, E4, O4, a1, a2⟩
      have O5 := hid (Oi.out.trans O4)
      obtain ⟨F2, hF2⟩ : ∃ F2 : Nat → Int, F2 = fun j => (Y1 j - Y1 (j + i) * c % p) % p := ⟨_, rfl⟩
      have F9 := hid (fun w' => FIN.out w' Y1 F2 a1 a2 hF2)
      have E5 := hid E4
      have HF2 := hid hF2
      clear I1 E4 O4 a1 a2 Ei Oi FIN HF1 hF2
      go_wp2
      go_loopw [70] (fun iv wr => ∃ (t : Nat), iv = .int .i64 t ∧ t ≤ i ∧ Hid (EnvT wr g gf gm gl p k r h N f s (updw F2 Y1 off (off + t))) ∧ Hid (OnlyB gl w wr)) (fun iv _ => ((i : Int) - intOf iv).toNat)
      case atStart => exact ⟨0, rfl, Nat.zero_le _, E5.out.eq (fun j _ => (updw_zero j).symm), O5.out⟩
      case round =>
        obtain ⟨t, rfl, ht, Et, Ot⟩ := hrel
        by_cases htm : t = i
        · have htm' : ¬ (t : Int) < (i : Int) := by omega
          obtain rfl := htm
          have F10 := hid (F9.out _ Et.out Ot.out)
          clear F9 Et Ot E5 O5 HF2 TM SU
          go_wp2
          go_end0
          exact ⟨rfl, F10.out⟩
        · have htm' : (t : Int) < (i : Int) := by omega
          have ht' : t < i := by omega
          have cf := Et.out.pln.tc.cell0
          have cl := Et.out.row.cell (i := off + t) (by omega)
          have ch := Et.out.row.cell (i := off + i + t) (by omega)
          have fl := Et.out.row.frozen (off + t)
          have T1 := hid (fun q => TM.out _ _ (off + i + t) (Et.out.drew q) (by omega))
          have X0 := Et.out.bnd (off + t) (by omega)
          rw [updw_off (by omega)] at cl ch T1 X0
          have t0 := Int.emod_nonneg (Y1 (off + i + t) * c) (show (p : Int) ≠ 0 by omega)
          have vb : 0 ≤ F2 (off + t) ∧ F2 (off + t) < p := by rw [HF2.out]; exact ⟨Int.emod_nonneg _ (by omega), Int.emod_lt_of_pos _ (by omega)⟩
          have S1 := hid (fun (W : World) (E' : EnvT W g gf gm gl p k r h N f s (updw F2 Y1 off (off + t))) => SU.out W _ (Y1 (off + t)) (Y1 (off + i + t) * c % p) E' X0.1 t0)
          have ve : (Y1 (off + t) - Y1 (off + i + t) * c % p) % p = F2 (off + t) := by rw [HF2.out, show off + i + t = off + t + i by omega]
          rw [ve] at S1
          have FI : Hid (∀ W : World, EnvT W g gf gm gl p k r h N f s (updw F2 Y1 off (off + t)) → OnlyB gl w W → EnvT (W.setCell ⟨gl, off + t, none⟩ (.int .u64 (F2 (off + t)))) g gf gm gl p k r h N f s (updw F2 Y1 off (off + (t + 1))) ∧ OnlyB gl w (W.setCell ⟨gl, off + t, none⟩ (.int .u64 (F2 (off + t))))) := fun W E' O' =>
            ⟨E'.set (off + t) _ vb (fun j _ => updw_step (a := off) (b := off + t) (by omega) j), O'.set _ _⟩
          clear vb ve t0 X0 F9 E5 O5 HF2 TM SU
          generalize Y1 (off + i + t) * c % (p : Int) = tt at *
          generalize F2 (off + t) = v1 at *
          go_wp2_with fail
          go_quiet ((go_at_call 68; exact Calls.quiet_of (T1.out _)))
          rename_i nq
          have cf' : (wr.drewN nq).cell? ⟨g, 0, none⟩ = some (.pointer (some ⟨gf, 0, none⟩)) := by simpa using cf
          have cl' : (wr.drewN nq).cell? ⟨gl, off + t, none⟩ = some (.int .u64 (Y1 (off + t))) := by simpa using cl
          have fl' : (wr.drewN nq).frozen? ⟨gl, off + t, none⟩ = false := by simpa using fl
          have E2 := hid (Et.out.drew nq)
          have O2 := hid (Ot.out.drew nq)
          clear Et Ot
          clear cf cl ch fl T1
          generalize wr.drewN nq = w2 at *
          have S2 := hid (fun q => S1.out _ (E2.out.drew q))
          go_wp2_with fail
          refine wp_region_last (by kernel_rfl) (by kernel_rfl) (by kernel_rfl) (by kernel_rfl) (by decide) ?_
          simp only [stillLast, still, lastOf]
          repeat (quiet_step ((go_at_call 69; exact Calls.quiet_of (S2.out _))))
          refine wpQuiet_nil ?_
          intro _ hw'
          obtain ⟨nq, hw''⟩ := hw'
          subst hw''
          have F3 := hid (FI.out _ (E2.out.drew nq) (O2.out.drew nq))
          have cl2 : (w2.drewN nq).cell? ⟨gl, off + t, none⟩ = some (.int .u64 (Y1 (off + t))) := by simpa using cl'
          have fl2 : (w2.drewN nq).frozen? ⟨gl, off + t, none⟩ = false := by simpa using fl'
          clear cf' cl' fl' S1 S2 FI E2 O2
          generalize w2.drewN nq = w3 at *
          go_wp2
          exact ⟨⟨t + 1, rfl, by omega, F3.out.1, F3.out.2⟩, by simp only [intOf]; omega⟩
    · have him' : (i : Int) < (H : Int) := by omega
      have hi' : i < H := by omega
      have cf := Ei.out.pln.tc.cell0
      have cl := Ei.out.row.cell (i := off + i) (by omega)
      have ch := Ei.out.row.cell (i := off + H + i) (by omega)
      have fl := Ei.out.row.frozen (off + i)
      have T1 := hid (fun q => TM.out _ _ (off + H + i) (Ei.out.drew q) (by omega))
      have X0 := Ei.out.bnd (off + i) (by omega)
      rw [updw_off (by omega)] at cl ch T1 X0
      have t0 := Int.emod_nonneg (X (off + H + i) * c) (show (p : Int) ≠ 0 by omega)
      have vb : 0 ≤ F1 (off + i) ∧ F1 (off + i) < p := by rw [HF1.out]; exact ⟨Int.emod_nonneg _ (by omega), Int.emod_lt_of_pos _ (by omega)⟩
      have S1 := hid (fun (W : World) (E' : EnvT W g gf gm gl p k r h N f s (updw F1 X (off + n) (off + i))) => AD.out W _ (X (off + i)) (X (off + H + i) * c % p) E' X0.1 t0)
      have ve : (X (off + i) + X (off + H + i) * c % p) % p = F1 (off + i) := by rw [HF1.out, show off + H + i = off + i + H by omega]
      rw [ve] at S1
      have FI : Hid (∀ W : World, EnvT W g gf gm gl p k r h N f s (updw F1 X (off + n) (off + i)) → OnlyB gl w W → EnvT (W.setCell ⟨gl, off + i, none⟩ (.int .u64 (F1 (off + i)))) g gf gm gl p k r h N f s (updw F1 X (off + n) (off + (i + 1))) ∧ OnlyB gl w (W.setCell ⟨gl, off + i, none⟩ (.int .u64 (F1 (off + i))))) := fun W E' O' =>
            ⟨E'.set (off + i) _ vb (fun j _ => updw_step (a := (off + n)) (b := off + i) (by omega) j), O'.set _ _⟩
      clear vb ve t0 X0 FIN E1 O1 HF1 TM SU AD EE cc3 ccb c3 HIH
      generalize X (off + H + i) * c % (p : Int) = tt at *
      generalize F1 (off + i) = v1 at *
      go_wp2_with fail
      go_quiet ((go_at_call 68; exact Calls.quiet_of (T1.out _)))
      rename_i nq
      have cf' : (wr.drewN nq).cell? ⟨g, 0, none⟩ = some (.pointer (some ⟨gf, 0, none⟩)) := by simpa using cf
      have cl' : (wr.drewN nq).cell? ⟨gl, off + i, none⟩ = some (.int .u64 (X (off + i))) := by simpa using cl
      have fl' : (wr.drewN nq).frozen? ⟨gl, off + i, none⟩ = false := by simpa using fl
      have E2 := hid (Ei.out.drew nq)
      have O2 := hid (Oi.out.drew nq)
      clear Ei Oi
      clear cf cl ch fl T1
      generalize wr.drewN nq = w2 at *
      have S2 := hid (fun q => S1.out _ (E2.out.drew q))
      go_wp2_with fail
      refine wp_region_last (by kernel_rfl) (by kernel_rfl) (by kernel_rfl) (by kernel_rfl) (by decide) ?_
      simp only [stillLast, still, lastOf]
      repeat (quiet_step ((go_at_call 85; exact Calls.quiet_of (S2.out _))))
      refine wpQuiet_nil ?_
      intro _ hw'
      obtain ⟨nq, hw''⟩ := hw'
      subst hw''
      have F3 := hid (FI.out _ (E2.out.drew nq) (O2.out.drew nq))
      have cl2 : (w2.drewN nq).cell? ⟨gl, off + i, none⟩ = some (.int .u64 (X (off + i))) := by simpa using cl'
      have fl2 : (w2.drewN nq).frozen? ⟨gl, off + i, none⟩ = false := by simpa using fl'
      clear cf' cl' fl' S1 S2 FI E2 O2
      generalize w2.drewN nq = w3 at *
      go_wp2
      exact ⟨⟨i + 1, rfl, by omega, by omega, F3.out.1, F3.out.2⟩, by simp only [intOf]; omega⟩
end Go.Proofs.YtocfenjampmdlabGreatDoor
namespace Go.Proofs.YtocfenjampmdlabGreatDoor
open Go.RowKit Num Nmb

/-- the first i pairs of a block's halves, made what they are half of. -/
def upb (F G X : Nat → Int) (off H i j : Nat) : Int := if off ≤ j ∧ j < off + i then F j else if off + H ≤ j ∧ j < off + H + i then G j else X j
theorem upb_at {F G X : Nat → Int} {off H i : Nat} (hi : i < H) : upb F G X off H i (off + i) = X (off + i) ∧ upb F G X off H i (off + H + i) = X (off + H + i) := by
  unfold upb
  exact ⟨by rw [if_neg (by omega), if_neg (by omega)], by rw [if_neg (by omega), if_neg (by omega)]⟩
theorem upb_step {F G X : Nat → Int} {off H i : Nat} (hi : i < H) (j : Nat) :
    upb F G X off H (i + 1) j = if j = off + H + i then G (off + H + i) else if j = off + i then F (off + i) else upb F G X off H i j := by
  unfold upb
  by_cases h1 : j = off + H + i
  · subst h1
    rw [if_neg (by omega), if_pos (by omega), if_pos rfl]
  · rw [if_neg h1]
    by_cases h2 : j = off + i
    · subst h2
      rw [if_pos (by omega), if_pos rfl]
    · rw [if_neg h2]
      by_cases h3 : off ≤ j ∧ j < off + i
      · rw [if_pos h3, if_pos (by omega)]
      · rw [if_neg h3, if_neg (by omega)]
        by_cases h4 : off + H ≤ j ∧ j < off + H + i
        · rw [if_pos h4, if_pos (by omega)]
        · rw [if_neg h4, if_neg (by omega)]
theorem upb_zero {F G X : Nat → Int} {off H : Nat} (j : Nat) : upb F G X off H 0 j = X j := by
  unfold upb
  rw [if_neg (by omega), if_neg (by omega)]
set_option maxHeartbeats 1600000 in
set_option maxRecDepth 100000 in
theorem both_step {g gf gm gl p k r h N : Nat} {f s : Int} (OK : Ok p f s) (TO : TabOk p k r) (hh : h = 2 ^ k / 2) (hN : N ≤ 1048576) (m H : Nat) (hm : m + 1 ≤ k) (hH : H = 2 ^ m) (IH : UpIs g gf gm gl p k r h N f s m H)
    (b n off : Nat) (X : Nat → Int) (w : World) (E : EnvT w g gf gm gl p k r h N f s X) (hoff : off + 2 * H ≤ N) (hb : b < 2 ^ (k - (m + 1))) (hn1 : H ≤ n) (hn : n ≤ 2 * H) :
    Calls Tryz.prog 87 #[.pointer (some ⟨g, 0, none⟩), .slice (some ⟨gl, off, none⟩) (2 * H : Nat) (2 * H : Nat), .int .i64 b, .int .i64 n] w fun e w' =>
      e = .returned (.tuple #[]) ∧ ∃ Y, EnvT w' g gf gm gl p k r h N f s Y ∧ OnlyB gl w w' ∧ (∀ j, j < N → (j < off ∨ off + 2 * H ≤ j) → Y j = X j) ∧ Mxd p r k (m + 1) b n (fun j => Y (off + j)) (fun j => X (off + j)) := by
  have H0 : 0 < H := by rw [hH]; exact Nat.two_pow_pos m
  have k0 : 0 < k := by omega
  have ho := TO.odd k0
  have p2 := TO.pri.1
  have kk : 2 * 2 ^ (k - (m + 1)) = 2 ^ (k - m) := by
    rw [show k - m = k - (m + 1) + 1 by omega, Nat.pow_succ]
    omega
  have hb1 : 2 * b < 2 ^ (k - m) := by omega
  have hbh : b < h := by
    have h1 : 2 ^ (k - m) ≤ 2 ^ k := Nat.pow_le_pow_right (by decide) (by omega)
    omega
  have hc : nd r k (k - m) (2 * b) = pt r k b := nd_pt _ (by omega) hb1
  have h20 : h ≤ 1048576 := by
    have : 2 ^ k ≤ 2 ^ 20 := Nat.pow_le_pow_right (by decide) TO.k20
    omega
  have fv := fmp_nn (p := p) (r := r) (k := k) (b := b) (by omega)
  have fz := fmp_pt (p := p) (r := r) (b := b) k0
  obtain ⟨c, hcd⟩ : ∃ c, c = pt r k b := ⟨_, rfl⟩
  rw [← hcd] at hc fz
  have HV := hid (halves_any gl off H w H0 (by omega))
  have TM : Hid (∀ W X i, EnvT W g gf gm gl p k r h N f s X → i < N → Calls Tryz.prog 68 #[.pointer (some ⟨gf, 0, none⟩), .int .u64 (X i), .int .u64 (fmp p r k b)] W fun e w' => e = .returned (.tuple #[.int .u64 (X i * c % p), .int .i64 0]) ∧ ∃ k, w' = W.drewN k) :=
    fun W X i E hi => times_form gf p f s (X i) (fmp p r k b) c W E.pln.fld OK (E.bnd i hi).1 fv.1 ho fz
  have AD : Hid (∀ W X x y, EnvT W g gf gm gl p k r h N f s X → 0 ≤ x → 0 ≤ y → Calls Tryz.prog 85 #[.pointer (some ⟨gf, 0, none⟩), .int .u64 x, .int .u64 y] W fun e w' => e = .returned (.int .u64 ((x + y) % p)) ∧ ∃ k, w' = W.drewN k) :=
    fun W X x y E hx hy => add_q gf p f s x y W E.pln.fld OK hx hy
  have SU : Hid (∀ W X x y, EnvT W g gf gm gl p k r h N f s X → 0 ≤ x → 0 ≤ y → Calls Tryz.prog 69 #[.pointer (some ⟨gf, 0, none⟩), .int .u64 x, .int .u64 y] W fun e w' => e = .returned (.int .u64 ((x - y) % p)) ∧ ∃ k, w' = W.drewN k) :=
    fun W X x y E hx hy => sub_q gf p f s x y W E.pln.fld OK hx hy
  have c3 : Hid (∀ W X, EnvT W g gf gm gl p k r h N f s X → W.cell? ⟨g, 3, none⟩ = some (.slice (some ⟨gm, 0, none⟩) h h) ∧ W.cell? ⟨gm, b, none⟩ = some (.int .u64 (fmp p r k b))) := fun W X E => ⟨E.pln.tc.cell3, E.pln.row.cell hbh⟩
  have hb2 : 2 * b + 1 < 2 ^ (k - m) := by omega
  obtain ⟨iv, z, ⟨iv0, ivz, izc⟩, IVC⟩ := inverse_any g gf gm p k r h b f s OK TO hh hbh
  rw [← hcd] at izc
  have IV := hid (fun q => IVC (w.drewN q) (E.pln.drew q))
  have IV2 : Hid (∀ q q', Calls Tryz.prog 96 #[.pointer (some ⟨g, 0, none⟩), .int .i64 b] ((w.drewN q).drewN q') fun e w' => e = .returned (.int .u64 iv) ∧ ∃ c, w' = ((w.drewN q).drewN q').drewN c) := fun q q' => IVC _ ((E.pln.drew q).drew q')
  have TI : Hid (∀ W X x, EnvT W g gf gm gl p k r h N f s X → 0 ≤ x → Calls Tryz.prog 68 #[.pointer (some ⟨gf, 0, none⟩), .int .u64 x, .int .u64 iv] W fun e w' => e = .returned (.tuple #[.int .u64 (x * z % p), .int .i64 0]) ∧ ∃ k, w' = W.drewN k) :=
    fun W X x E hx => times_form gf p f s x iv z W E.pln.fld OK hx iv0 ho ivz
  have HL : Hid (∀ W X (x : Int), EnvT W g gf gm gl p k r h N f s X → 0 ≤ x ∧ x < p → Calls Tryz.prog 97 #[.pointer (some ⟨g, 0, none⟩), .int .u64 x] W fun e w' => e = .returned (.int .u64 (hv p x)) ∧ w' = W) :=
    fun W X x E hx => halved_any g gf gm p k r h f s x W E.pln TO.h63 hx ho
  have FIN : Hid (∀ (w' : World) (Y1 G1 Y2 F2 G2 : Nat → Int), (∀ j, j < N → (j < off ∨ off + H ≤ j) → Y1 j = X j) → Mxd p r k m (2 * b) H (fun j => Y1 (off + j)) (fun j => X (off + j)) →
      (G1 = fun j => (Y1 (j - H) - (Y1 j * c % p + Y1 j * c % p) % p) % p) →
      (∀ j, j < N → (j < off + H ∨ off + H + H ≤ j) → Y2 j = updw G1 Y1 (off + H + (n - H)) (off + H + H) j) → Mxd p r k m (2 * b + 1) (n - H) (fun j => Y2 (off + H + j)) (fun j => updw G1 Y1 (off + H + (n - H)) (off + H + H) (off + H + j)) →
      (F2 = fun j => hv p ((Y2 j + Y2 (j + H)) % p)) → (G2 = fun j => hv p ((Y2 (j - H) - Y2 j) % p * z % p)) → EnvT w' g gf gm gl p k r h N f s (upb F2 G2 Y2 off H H) → OnlyB gl w w' →
      ∃ Y, EnvT w' g gf gm gl p k r h N f s Y ∧ OnlyB gl w w' ∧ (∀ j, j < N → (j < off ∨ off + 2 * H ≤ j) → Y j = X j) ∧ Mxd p r k (m + 1) b n (fun j => Y (off + j)) (fun j => X (off + j))) := by
    intro w' Y1 G1 Y2 F2 G2 a1 a2 hG1 b1 b2 hF2 hG2 E2 O2
    have lo : ∀ j, j < H → Y2 (off + j) = Y1 (off + j) := fun j hj => by rw [b1 _ (by omega) (by omega), updw_off (by omega)]
    have hx1 : ∀ j, j < H → Y1 (off + H + j) = X (off + (j + H)) := fun j hj => by rw [a1 _ (by omega) (by omega), show off + H + j = off + (j + H) by omega]
    have hf := half_is ho
    have em : ∀ x : Int, 0 ≤ x % (p : Int) ∧ x % (p : Int) < p := fun x => ⟨Int.emod_nonneg _ (by omega), Int.emod_lt_of_pos _ (by omega)⟩
    have up : ∀ j, upb F2 G2 Y2 off H H (off + j) = if j < H then F2 (off + j) else if j < H + H then G2 (off + j) else Y2 (off + j) := fun j => by
      unfold upb
      by_cases q1 : j < H
      · rw [if_pos (by omega), if_pos q1]
      · rw [if_neg (by omega), if_neg q1]
        by_cases q2 : j < H + H
        · rw [if_pos (by omega), if_pos q2]
        · rw [if_neg (by omega), if_neg q2]
    refine ⟨_, E2, O2, fun j hj hr => ?_, ?_⟩
    · show upb F2 G2 Y2 off H H j = X j
      unfold upb
      rw [if_neg (by omega), if_neg (by omega), b1 j hj (by omega), updw_off (by omega), a1 j hj (by omega)]
    · refine Mxd.great (lo := fun j => Y1 (off + j)) (hi := fun j => Y2 (off + H + j)) (c := ((p : Int) + 1) / 2) (d := z * (((p : Int) + 1) / 2)) (by omega) hf ?_ (fun i hi => a2.1 i (by omega) hi) ?_ (fun j hj => ?_) (fun j hj => ?_)
      · rw [hc]
        have := (izc).mul (Cg.rfl (p := p) (a := ((p : Int) + 1) / 2))
        rw [Int.one_mul] at this
        exact (Cg.of_eq (by rw [Int.mul_right_comm, Int.mul_comm z c])).trans this
      · rw [← hH]
        refine b2.cg fun i hi => ?_
        show Cg p (if i < n - H then X (off + (i + H)) else Y1 (off + i) - 2 * (nd r k (k - m) (2 * b) * X (off + (i + H)))) (updw G1 Y1 (off + H + (n - H)) (off + H + H) (off + H + i))
        by_cases e : i < n - H
        · rw [if_pos e, updw_off (by omega), hx1 i (by omega)]; exact Cg.rfl
        · rw [if_neg e, updw_in (by omega), hG1, hc]
          show Cg p _ ((Y1 (off + H + i - H) - (Y1 (off + H + i) * c % p + Y1 (off + H + i) * c % p) % p) % p)
          rw [hx1 i (by omega), show off + H + i - H = off + i by omega]
          refine Cg.symm (Cg.mod.trans (Cg.rfl.sub (Cg.mod.trans ?_)))
          have q := (Cg.mod (p := p) (a := X (off + (i + H)) * c)).add (Cg.mod (p := p) (a := X (off + (i + H)) * c))
          exact q.trans (Cg.of_eq (by rw [Int.mul_comm c]; omega))
      · show Cg p (upb F2 G2 Y2 off H H (off + j)) ((Y1 (off + j) + Y2 (off + H + j)) * (((p : Int) + 1) / 2))
        rw [up j, if_pos (by omega), hF2]
        show Cg p (hv p ((Y2 (off + j) + Y2 (off + j + H)) % p)) _
        rw [lo j (by omega), show off + j + H = off + H + j by omega]
        exact (half_said hf (hv_said (em _) ho).2).trans (Cg.mod.mul Cg.rfl)
      · show Cg p (upb F2 G2 Y2 off H H (off + (j + 2 ^ m))) ((Y1 (off + j) - Y2 (off + H + j)) * (z * (((p : Int) + 1) / 2)))
        rw [up (j + 2 ^ m), if_neg (by omega), if_pos (by omega), hG2, ← hH]
        show Cg p (hv p ((Y2 (off + (j + H) - H) - Y2 (off + (j + H))) % p * z % p)) _
        rw [show off + (j + H) - H = off + j by omega, show off + (j + H) = off + H + j by omega, lo j (by omega), ← Int.mul_assoc]
        exact (half_said hf (hv_said (em _) ho).2).trans ((Cg.mod.trans (Cg.mod.mul Cg.rfl)).mul Cg.rfl)
  have EE := hid E
  have HIH := hid IH
  obtain ⟨D, hD⟩ : ∃ D, D = 2 * H := ⟨_, rfl⟩
  obtain ⟨b2, hb2e⟩ : ∃ b2, b2 = 2 * b := ⟨_, rfl⟩
  obtain ⟨b3, hb3e⟩ : ∃ b3, b3 = 2 * b + 1 := ⟨_, rfl⟩
  obtain ⟨mo, hmo⟩ : ∃ mo, mo = n - H := ⟨_, rfl⟩
  have hbh' : (b : Int) < (h : Int) := by omega
  have w1 : IntKind.i64.wrap (b2 : Int) = (b2 : Int) := by rw [IntKind.wrap_i64]; omega
  have w2 : IntKind.i64.wrap (b3 : Int) = (b3 : Int) := by rw [IntKind.wrap_i64]; omega
  have w4 : IntKind.i64.wrap (mo : Int) = (mo : Int) := by rw [IntKind.wrap_i64]; omega
  have c2b : 2 * (b : Int) = (b2 : Int) := by omega
  have c2c : (b2 : Int) + 1 = (b3 : Int) := by omega
  have cmo : (n : Int) - (H : Int) = (mo : Int) := by omega
  rw [← hb3e, ← hb2e, ← hD, ← hmo] at FIN
  rw [← hb2e] at hb1
  rw [← hb3e] at hb2
  have z1 : off + H + H ≤ N := by omega
  have z2 : mo ≤ H := by omega
  rw [← hD] at HV ⊢
  have H20 : H ≤ 1048576 := by omega
  clear E IH hb kk fv fz hcd hc hb2e hb3e hH hh hD hoff hmo IVC iv0 ivz izc
  generalize fmp p r k b = v at *
  go_enter Tryz.func87, Tryz.ntmps87
  go_wp2_with fail
  refine HV.out.mono ?_
  rintro e w3 ⟨rfl, q, rfl⟩
  have E1 := hid (EE.out.drew q)
  have O1 := hid ((OnlyB.refl gl w).drew q)
  have cc := c3.out _ _ E1.out
  obtain ⟨cc3, ccb⟩ := cc
  have IV3 := hid (IV2.out q)
  clear HV IV IV2
  generalize w.drewN q = w1 at *
  go_wp2_with fail
  go_quiet ((go_at_call 96; exact Calls.quiet_of (IV3.out _)))
  rename_i nq
  have E2 := hid (E1.out.drew nq)
  have O2 := hid (O1.out.drew nq)
  have I1 := hid (HIH.out b2 H off _ _ E2.out (by omega) hb1 (Nat.le_refl _))
  clear E1 O1 IV3 cc3 ccb c3 EE
  generalize w1.drewN nq = w5 at *
  go_wp2_with fail
  refine I1.out.mono ?_
  rintro e w4 ⟨rfl, Y1, E4, O4, a1, a2⟩
  have O5 := hid (O2.out.trans O4)
  have E5 := hid E4
  obtain ⟨G1, hG1⟩ : ∃ G1 : Nat → Int, G1 = fun j => (Y1 (j - H) - (Y1 j * c % p + Y1 j * c % p) % p) % p := ⟨_, rfl⟩
  have F8 := hid (fun w' Y2 F2 G2 => FIN.out w' Y1 G1 Y2 F2 G2 a1 a2 hG1)
  have HG1 := hid hG1
  clear I1 E4 O4 a1 a2 FIN hG1 E2 O2
  go_wp2
  go_loopw [13] (fun iv wr => ∃ (i : Nat), iv = .int .i64 i ∧ mo ≤ i ∧ i ≤ H ∧ Hid (EnvT wr g gf gm gl p k r h N f s (updw G1 Y1 (off + H + mo) (off + H + i))) ∧ Hid (OnlyB gl w wr)) (fun iv _ => ((H : Int) - intOf iv).toNat)
  case atStart => exact ⟨mo, rfl, Nat.le_refl _, z2, E5.out.eq (fun j _ => (updw_zero j).symm), O5.out⟩
  case round =>
    obtain ⟨i, rfl, hni, hi, Ei, Oi⟩ := hrel
    by_cases him : i = H
    · have him' : ¬ (i : Int) < (H : Int) := by omega
      obtain rfl := him
      have I1 := hid (HIH.out b3 mo (off + i) _ wr Ei.out z1 hb2 z2)
      clear HIH E5 O5 HG1
      go_wp2_with fail
      refine I1.out.mono ?_
      rintro e w4 ⟨rfl, Y2, E4, O4, a1, a2⟩
      have O6 := hid (Oi.out.trans O4)
      have E6 := hid E4
      obtain ⟨F2, hF2⟩ : ∃ F2 : Nat → Int, F2 = fun j => hv p ((Y2 j + Y2 (j + i)) % p) := ⟨_, rfl⟩
      obtain ⟨G2, hG2⟩ : ∃ G2 : Nat → Int, G2 = fun j => hv p ((Y2 (j - i) - Y2 j) % p * z % p) := ⟨_, rfl⟩
      have F9 := hid (fun w' => F8.out w' Y2 F2 G2 a1 a2 hF2 hG2)
      have HF2 := hid hF2
      have HG2 := hid hG2
      clear I1 E4 O4 a1 a2 F8 hF2 hG2 Ei Oi
      go_wp2
      go_loopw [93] (fun iv wr => ∃ (t : Nat), iv = .int .i64 t ∧ t ≤ i ∧ Hid (EnvT wr g gf gm gl p k r h N f s (upb F2 G2 Y2 off i t)) ∧ Hid (OnlyB gl w wr)) (fun iv _ => ((i : Int) - intOf iv).toNat)
      case atStart => exact ⟨0, rfl, Nat.zero_le _, E6.out.eq (fun j _ => (upb_zero j).symm), O6.out⟩
      case round =>
        obtain ⟨t, rfl, ht, Et, Ot⟩ := hrel
        by_cases htm : t = i
        · have htm' : ¬ (t : Int) < (i : Int) := by omega
          obtain rfl := htm
          have F10 := hid (F9.out _ Et.out Ot.out)
          clear F9 Et Ot E6 O6 HF2 HG2 TM SU AD TI HL
          go_wp2
          go_end0
          exact ⟨rfl, F10.out⟩
        · have htm' : (t : Int) < (i : Int) := by omega
          have ht' : t < i := by omega
          have cf := Et.out.pln.tc.cell0
          have cl := Et.out.row.cell (i := off + t) (by omega)
          have ch := Et.out.row.cell (i := off + i + t) (by omega)
          have fl := Et.out.row.frozen (off + t)
          have fh := Et.out.row.frozen (off + i + t)
          have X0 := Et.out.bnd (off + t) (by omega)
          have X1 := Et.out.bnd (off + i + t) (by omega)
          obtain ⟨d1, d2⟩ := upb_at (F := F2) (G := G2) (X := Y2) (off := off) ht'
          rw [d1] at cl X0
          rw [d2] at ch X1
          have A1 := hid (fun q => AD.out _ _ (Y2 (off + t)) (Y2 (off + i + t)) (Et.out.drew q) X0.1 X1.1)
          have S1 := hid (fun q => SU.out _ _ (Y2 (off + t)) (Y2 (off + i + t)) (Et.out.drew q) X0.1 X1.1)
          have em : ∀ x : Int, 0 ≤ x % (p : Int) ∧ x % (p : Int) < p := fun x => ⟨Int.emod_nonneg _ (by omega), Int.emod_lt_of_pos _ (by omega)⟩
          have T1 := hid (fun (W : World) (E' : EnvT W g gf gm gl p k r h N f s (upb F2 G2 Y2 off i t)) => TI.out W _ ((Y2 (off + t) - Y2 (off + i + t)) % p) E' (em _).1)
          have L1 := hid (fun (W : World) (E' : EnvT W g gf gm gl p k r h N f s (upb F2 G2 Y2 off i t)) => HL.out W _ ((Y2 (off + t) + Y2 (off + i + t)) % p) E' (em _))
          have L2 := hid (fun (W : World) (E' : EnvT W g gf gm gl p k r h N f s (upb F2 G2 Y2 off i t)) => HL.out W _ ((Y2 (off + t) - Y2 (off + i + t)) % p * z % p) E' (em _))
          have v1e : F2 (off + t) = hv p ((Y2 (off + t) + Y2 (off + i + t)) % p) := by rw [HF2.out, show off + i + t = off + t + i by omega]
          have v2e : G2 (off + i + t) = hv p ((Y2 (off + t) - Y2 (off + i + t)) % p * z % p) := by
            rw [HG2.out]
            show hv p ((Y2 (off + i + t - i) - Y2 (off + i + t)) % p * z % p) = _
            rw [show off + i + t - i = off + t by omega]
          have v1b := (hv_said (em (Y2 (off + t) + Y2 (off + i + t))) ho).1
          have v2b := (hv_said (em ((Y2 (off + t) - Y2 (off + i + t)) % p * z)) ho).1
          rw [← v1e] at L1 v1b
          rw [← v2e] at L2 v2b
          have FI : Hid (∀ W : World, EnvT W g gf gm gl p k r h N f s (upb F2 G2 Y2 off i t) → OnlyB gl w W → EnvT ((W.setCell ⟨gl, off + t, none⟩ (.int .u64 (F2 (off + t)))).setCell ⟨gl, off + i + t, none⟩ (.int .u64 (G2 (off + i + t)))) g gf gm gl p k r h N f s (upb F2 G2 Y2 off i (t + 1)) ∧
              OnlyB gl w ((W.setCell ⟨gl, off + t, none⟩ (.int .u64 (F2 (off + t)))).setCell ⟨gl, off + i + t, none⟩ (.int .u64 (G2 (off + i + t))))) := by
            intro W E' O'
            refine ⟨(E'.set (off + t) _ v1b (fun j _ => rfl)).set (off + i + t) _ v2b (fun j _ => ?_), (O'.set _ _).set _ _⟩
            rw [upb_step ht' j]
          clear v1e v2e v1b v2b em d1 d2 X0 X1 HF2 HG2 TM SU AD TI HL F9 E6 O6
          generalize F2 (off + t) = v1 at *
          generalize G2 (off + i + t) = v2 at *
          generalize (Y2 (off + t) + Y2 (off + i + t)) % (p : Int) = s1 at *
          generalize (Y2 (off + t) - Y2 (off + i + t)) % (p : Int) = s2 at *
          generalize s2 * z % (p : Int) = s3 at *
          go_wp2_with fail
          go_quiet (first
            | (go_at_call 85; exact Calls.quiet_of (A1.out _))
            | (go_at_call 69; exact Calls.quiet_of (S1.out _)))
          rename_i nq
          have E2 := hid (Et.out.drew nq)
          have O2 := hid (Ot.out.drew nq)
          have cf' : (wr.drewN nq).cell? ⟨g, 0, none⟩ = some (.pointer (some ⟨gf, 0, none⟩)) := by simpa using cf
          have cl' : (wr.drewN nq).cell? ⟨gl, off + t, none⟩ = some (.int .u64 (Y2 (off + t))) := by simpa using cl
          have ch' : (wr.drewN nq).cell? ⟨gl, off + i + t, none⟩ = some (.int .u64 (Y2 (off + i + t))) := by simpa using ch
          have fl' : (wr.drewN nq).frozen? ⟨gl, off + t, none⟩ = false := by simpa using fl
          have fh' : (wr.drewN nq).frozen? ⟨gl, off + i + t, none⟩ = false := by simpa using fh
          clear cf cl ch fl fh A1 S1 Et Ot
          generalize wr.drewN nq = w2 at *
          go_wp2_with fail
          refine (T1.out _ E2.out).mono ?_
          rintro e w3 ⟨rfl, q3, rfl⟩
          have E3 := hid (E2.out.drew q3)
          have O3 := hid (O2.out.drew q3)
          have cl2 : (w2.drewN q3).cell? ⟨gl, off + t, none⟩ = some (.int .u64 (Y2 (off + t))) := by simpa using cl'
          have ch2 : (w2.drewN q3).cell? ⟨gl, off + i + t, none⟩ = some (.int .u64 (Y2 (off + i + t))) := by simpa using ch'
          have fl2 : (w2.drewN q3).frozen? ⟨gl, off + t, none⟩ = false := by simpa using fl'
          have fh2 : (w2.drewN q3).frozen? ⟨gl, off + i + t, none⟩ = false := by simpa using fh'
          clear cf' cl' ch' fl' fh' T1 E2 O2
          generalize w2.drewN q3 = w6 at *
          have F3 := hid (FI.out _ E3.out O3.out)
          go_wp2_with fail
          refine (L1.out _ E3.out).mono ?_
          rintro e w7 ⟨rfl, hw⟩
          obtain rfl := hw.symm
          go_wp2_with fail
          refine (L2.out _ E3.out).mono ?_
          rintro e w8 ⟨rfl, hw⟩
          obtain rfl := hw.symm
          clear L1 L2 FI E3 O3
          go_wp2
          exact ⟨⟨t + 1, rfl, by omega, F3.out.1, F3.out.2⟩, by simp only [intOf]; omega⟩
    · have him' : (i : Int) < (H : Int) := by omega
      have hi' : i < H := by omega
      have cf := Ei.out.pln.tc.cell0
      have cl := Ei.out.row.cell (i := off + i) (by omega)
      have ch := Ei.out.row.cell (i := off + H + i) (by omega)
      have fh := Ei.out.row.frozen (off + H + i)
      have T1 := hid (fun q => TM.out _ _ (off + H + i) (Ei.out.drew q) (by omega))
      have X0 := Ei.out.bnd (off + i) (by omega)
      rw [updw_off (by omega)] at cl ch T1 X0
      have em : ∀ x : Int, 0 ≤ x % (p : Int) ∧ x % (p : Int) < p := fun x => ⟨Int.emod_nonneg _ (by omega), Int.emod_lt_of_pos _ (by omega)⟩
      have A1 := hid (fun (W : World) (E' : EnvT W g gf gm gl p k r h N f s (updw G1 Y1 (off + H + mo) (off + H + i))) => AD.out W _ (Y1 (off + H + i) * c % p) (Y1 (off + H + i) * c % p) E' (em _).1 (em _).1)
      have S1 := hid (fun (W : World) (E' : EnvT W g gf gm gl p k r h N f s (updw G1 Y1 (off + H + mo) (off + H + i))) => SU.out W _ (Y1 (off + i)) ((Y1 (off + H + i) * c % p + Y1 (off + H + i) * c % p) % p) E' X0.1 (em _).1)
      have ve : G1 (off + H + i) = (Y1 (off + i) - (Y1 (off + H + i) * c % p + Y1 (off + H + i) * c % p) % p) % p := by
        rw [HG1.out]
        show (Y1 (off + H + i - H) - (Y1 (off + H + i) * c % p + Y1 (off + H + i) * c % p) % p) % p = _
        rw [show off + H + i - H = off + i by omega]
      rw [← ve] at S1
      have vb : 0 ≤ G1 (off + H + i) ∧ G1 (off + H + i) < p := by rw [ve]; exact em _
      have FI : Hid (∀ W : World, EnvT W g gf gm gl p k r h N f s (updw G1 Y1 (off + H + mo) (off + H + i)) → OnlyB gl w W → EnvT (W.setCell ⟨gl, off + H + i, none⟩ (.int .u64 (G1 (off + H + i)))) g gf gm gl p k r h N f s (updw G1 Y1 (off + H + mo) (off + H + (i + 1))) ∧ OnlyB gl w (W.setCell ⟨gl, off + H + i, none⟩ (.int .u64 (G1 (off + H + i))))) := fun W E' O' =>
        ⟨E'.set (off + H + i) _ vb (fun j _ => updw_step (a := off + H + mo) (b := off + H + i) (by omega) j), O'.set _ _⟩
      clear vb ve em X0 F8 E5 O5 HG1 TM SU AD HIH TI HL
      generalize Y1 (off + H + i) * c % (p : Int) = tt at *
      generalize (tt + tt) % (p : Int) = t2 at *
      generalize G1 (off + H + i) = v1 at *
      go_wp2_with fail
      go_quiet ((go_at_call 68; exact Calls.quiet_of (T1.out _)))
      rename_i nq
      have cf' : (wr.drewN nq).cell? ⟨g, 0, none⟩ = some (.pointer (some ⟨gf, 0, none⟩)) := by simpa using cf
      have cl' : (wr.drewN nq).cell? ⟨gl, off + i, none⟩ = some (.int .u64 (Y1 (off + i))) := by simpa using cl
      have ch' : (wr.drewN nq).cell? ⟨gl, off + H + i, none⟩ = some (.int .u64 (Y1 (off + H + i))) := by simpa using ch
      have fh' : (wr.drewN nq).frozen? ⟨gl, off + H + i, none⟩ = false := by simpa using fh
      have E2 := hid (Ei.out.drew nq)
      have O2 := hid (Oi.out.drew nq)
      clear Ei Oi
      clear cf cl ch fh T1
      generalize wr.drewN nq = w2 at *
      have A2 := hid (fun q => A1.out _ (E2.out.drew q))
      have S2 := hid (fun q => S1.out _ (E2.out.drew q))
      go_wp2_with fail
      refine wp_region_last (by kernel_rfl) (by kernel_rfl) (by kernel_rfl) (by kernel_rfl) (by decide) ?_
      simp only [stillLast, still, lastOf]
      repeat (quiet_step (first
        | (go_at_call 85; exact Calls.quiet_of (A2.out _))
        | (go_at_call 69; exact Calls.quiet_of (S2.out _))))
      refine wpQuiet_nil ?_
      intro _ hw'
      obtain ⟨nq, hw''⟩ := hw'
      subst hw''
      have F3 := hid (FI.out _ (E2.out.drew nq) (O2.out.drew nq))
      have ch2 : (w2.drewN nq).cell? ⟨gl, off + H + i, none⟩ = some (.int .u64 (Y1 (off + H + i))) := by simpa using ch'
      have fh2 : (w2.drewN nq).frozen? ⟨gl, off + H + i, none⟩ = false := by simpa using fh'
      clear cf' cl' ch' fh' A1 A2 S1 S2 FI E2 O2
      generalize w2.drewN nq = w3 at *
      go_wp2
      exact ⟨⟨i + 1, rfl, by omega, by omega, F3.out.1, F3.out.2⟩, by simp only [intOf]; omega⟩
end Go.Proofs.YtocfenjampmdlabGreatDoor
namespace Go.Proofs.YtocfenjampmdlabGreatDoor
open Go.RowKit Num Nmb

set_option maxHeartbeats 800000 in
theorem up_none (g gl off L b n : Nat) (w : World) (h : n = 0 ∨ L = 1) :
    Calls Tryz.prog 62 #[.pointer (some ⟨g, 0, none⟩), .slice (some ⟨gl, off, none⟩) L L, .int .i64 b, .int .i64 n] w fun e w' => e = .returned (.tuple #[]) ∧ w' = w := by
  by_cases n0 : n = 0
  · subst n0
    go_enter Tryz.func62, Tryz.ntmps62
    go_wp2
    go_end0
    exact ⟨rfl, rfl⟩
  · obtain rfl : L = 1 := by omega
    have n0' : ((n : Int) == 0) = false := beq_eq_false_iff_ne.2 (by omega)
    go_enter Tryz.func62, Tryz.ntmps62
    go_wp2
    go_end0
    exact ⟨rfl, rfl⟩
set_option maxHeartbeats 1600000 in
theorem up_step {g gf gm gl p k r h N : Nat} {f s : Int} (OK : Ok p f s) (TO : TabOk p k r) (hh : h = 2 ^ k / 2) (hN : N ≤ 1048576) (m H : Nat) (hm : m + 1 ≤ k) (hH : H = 2 ^ m) (IH : UpIs g gf gm gl p k r h N f s m H) : UpIs g gf gm gl p k r h N f s (m + 1) (2 * H) := by
  intro b n off X w E hoff hb hn
  have H0 : 0 < H := by rw [hH]; exact Nat.two_pow_pos m
  by_cases n0 : n = 0
  · subst n0
    refine (up_none g gl off (2 * H) b 0 w (Or.inl rfl)).mono ?_
    rintro e w' ⟨rfl, rfl⟩
    exact ⟨rfl, X, E, OnlyB.refl _ _, fun _ _ _ => rfl, fun i hi => absurd hi (by omega), fun _ _ _ => Cg.rfl⟩
  have n0' : ((n : Int) == 0) = false := beq_eq_false_iff_ne.2 (by omega)
  by_cases hl : n ≤ H
  · have LS := hid (low_step OK TO hh hN m H hm hH IH b n off X w E hoff hb hl)
    obtain ⟨D, hD⟩ : ∃ D, D = 2 * H := ⟨_, rfl⟩
    have q1 : ((D : Int) == 1) = false := beq_eq_false_iff_ne.2 (by omega)
    have dq : Int.tdiv (D : Int) 2 = (H : Int) := by rw [Int.tdiv_eq_ediv_of_nonneg (by omega)]; omega
    have hl' : (n : Int) ≤ (H : Int) := by omega
    have D20 : D ≤ 1048576 := by omega
    have H20 : H ≤ 1048576 := by omega
    rw [← hD] at LS ⊢
    clear IH E hoff hb hD hH hh
    go_enter Tryz.func62, Tryz.ntmps62
    go_wp2_with fail
    refine LS.out.mono ?_
    rintro e w4 ⟨rfl, R⟩
    have RR := hid R
    clear R LS
    go_wp2
    go_end0
    exact ⟨rfl, RR.out⟩
  · have LS := hid (both_step OK TO hh hN m H hm hH IH b n off X w E hoff hb (by omega) hn)
    obtain ⟨D, hD⟩ : ∃ D, D = 2 * H := ⟨_, rfl⟩
    have q1 : ((D : Int) == 1) = false := beq_eq_false_iff_ne.2 (by omega)
    have dq : Int.tdiv (D : Int) 2 = (H : Int) := by rw [Int.tdiv_eq_ediv_of_nonneg (by omega)]; omega
    have hl' : ¬ (n : Int) ≤ (H : Int) := by omega
    have D20 : D ≤ 1048576 := by omega
    have H20 : H ≤ 1048576 := by omega
    rw [← hD] at LS ⊢
    clear IH E hoff hb hD hH hh
    go_enter Tryz.func62, Tryz.ntmps62
    go_wp2_with fail
    refine LS.out.mono ?_
    rintro e w4 ⟨rfl, R⟩
    have RR := hid R
    clear R LS
    go_wp2
    go_end0
    exact ⟨rfl, RR.out⟩
theorem up_any {g gf gm gl p k r h N : Nat} {f s : Int} (OK : Ok p f s) (TO : TabOk p k r) (hh : h = 2 ^ k / 2) (hN : N ≤ 1048576) : ∀ m, m ≤ k → UpIs g gf gm gl p k r h N f s m (2 ^ m)
  | 0, _ => by
    intro b n off X w E hoff hb hn
    refine (up_none g gl off (2 ^ 0) b n w (Or.inr rfl)).mono ?_
    rintro e w' ⟨rfl, rfl⟩
    exact ⟨rfl, X, E, OnlyB.refl _ _, fun _ _ _ => rfl, Mxd.zero⟩
  | m + 1, hm => by
    rw [Nat.pow_succ, Nat.mul_comm]
    exact up_step OK TO hh hN m (2 ^ m) hm rfl (up_any OK TO hh hN m (by omega))
/-- what was handed in, below the modulus, and nothing behind it. -/
def exm (p : Nat) (a : Nat → Int) (n j : Nat) : Int := if j < n then a j % p else 0
set_option maxHeartbeats 1600000 in
theorem block_any {g gf gm p k r h : Nat} {f s : Int} (u : Value) (n M kk N : Nat) (a : Nat → Int) (w : World) (T : PlnF w g gf gm p k r h f s) (OK : Ok p f s) (U : Wl w u n a) (hn : n ≤ M) (hM : 0 < M) (hM2 : M ≤ 1048576) (hk : kk = Lib.bitLen (M - 1)) (hN : N = 2 ^ kk) (hN2 : N ≤ 1048576) (hMN : M ≤ N) :
    Calls Tryz.prog 58 #[.pointer (some ⟨g, 0, none⟩), u, .int .i64 M] w fun e w' => e = .returned (.slice (some ⟨w.heap.size, 0, none⟩) N N) ∧ EnvT w' g gf gm w.heap.size p k r h N f s (exm p a n) ∧ Below w.heap.size w w' := by
  have p2 := OK.h2
  have BL := hid (blen_any (M - 1) w (by omega))
  rw [← hk] at BL
  have k20 : kk ≤ 62 := by
    apply Nat.le_of_not_lt
    intro hlt
    have : 2 ^ 63 ≤ 2 ^ kk := Nat.pow_le_pow_right (by decide) hlt
    omega
  have e2 : (2 : Int) ^ kk = (N : Int) := by rw [hN, Int.natCast_pow]; rfl
  have TT := hid T
  have UU := hid U
  have lt := T.lt
  have OF : Hid (∀ W x, Fld W gf p f s → 0 ≤ x → Calls Tryz.prog 83 #[.pointer (some ⟨gf, 0, none⟩), .int .u64 x] W fun e w' => e = .returned (.int .u64 (x % p)) ∧ w' = W) := fun W x F hx => of_any gf p f s x W F (by omega) hx
  have w1 : (M : Int) - 1 = ((M - 1 : Nat) : Int) := by omega
  obtain ⟨ao, cap, rfl, hcap, hcap2, -, -⟩ := U
  have hnN : n ≤ N := by omega
  have M1 : M - 1 ≤ 1048576 := by omega
  generalize M - 1 = m1 at *
  have HLT := hid lt
  clear T hk hN OK lt hn hMN
  go_enter Tryz.func58, Tryz.ntmps58
  go_wp2_with fail
  refine BL.out.mono ?_
  rintro e w3 ⟨rfl, hw⟩
  obtain rfl := hw.symm
  clear BL
  go_wp2_with (at_make; refine wp_make _ rfl _ _ rfl _ _ N rfl rfl (by omega) (by omega) (by omega) ?_; intro w1 R1 C1 Z1; have HR := hid R1; have HC := hid C1; have HZ1 := hid Z1; clear R1 C1 Z1)
  have lt := HLT.out
  have B0 := hid (HC.out)
  have E0 : Hid (EnvT w1 g gf gm w.heap.size p k r h N f s (fun _ => 0)) := ⟨TT.out.below B0.out lt, HR.out, fun j _ => ⟨Int.le_refl 0, by omega⟩, by omega, by omega, by omega⟩
  clear HR HC HZ1
  go_loopw [18] (fun iv wr => ∃ (i : Nat), iv = .int .i64 i ∧ i ≤ n ∧ Hid (EnvT wr g gf gm w.heap.size p k r h N f s (exm p a i)) ∧ Hid (Below w.heap.size w wr)) (fun iv _ => ((n : Int) - intOf iv).toNat)
  case atStart => exact ⟨0, rfl, Nat.zero_le _, E0.out.eq (fun j _ => by unfold exm; rw [if_neg (by omega)]), B0.out⟩
  case round =>
    obtain ⟨i, rfl, hi, Ei, Bi⟩ := hrel
    by_cases him : i = n
    · have him' : ¬ (i : Int) < (n : Int) := by omega
      obtain rfl := him
      clear E0 B0 TT UU OF HLT
      go_wp2
      go_ret
      exact ⟨rfl, Ei.out, Bi.out⟩
    · have him' : (i : Int) < (n : Int) := by omega
      have Ui := UU.out.below Bi.out
      obtain ⟨ao', cap', hu, -, -, hv, hcell⟩ := Ui
      injection hu with hu1 hu2 hu3
      subst hu1 hu3
      clear hu2
      obtain ⟨ub, uo, hao, hub, hc⟩ := hcell (by omega)
      subst hao
      have ci := hc i (by omega)
      have ai := hv i (by omega)
      have cf := Ei.out.pln.tc.cell0
      have cl := Ei.out.row.cell (i := i) (by omega)
      have fl := Ei.out.row.frozen i
      have O1 := hid (OF.out wr (a i) Ei.out.pln.fld ai.1)
      have F3 : Hid (EnvT (wr.setCell ⟨w.heap.size, i, none⟩ (.int .u64 (a i % p))) g gf gm w.heap.size p k r h N f s (exm p a (i + 1)) ∧ Below w.heap.size w (wr.setCell ⟨w.heap.size, i, none⟩ (.int .u64 (a i % p)))) :=
        ⟨Ei.out.set i _ ⟨Int.emod_nonneg _ (by omega), Int.emod_lt_of_pos _ (by omega)⟩ (fun j _ => by
          unfold exm
          by_cases e : j = i
          · rw [if_pos e, e, if_pos (by omega)]
          · rw [if_neg e]
            by_cases e2 : j < i
            · rw [if_pos e2, if_pos (by omega)]
            · rw [if_neg e2, if_neg (by omega)]), below_set Bi.out (Nat.le_refl _) _ _⟩
      have hiN : (i : Int) < (N : Int) := by omega
      clear Ei Bi UU OF hc hv hcell E0 B0 TT HLT
      generalize a i % (p : Int) = v1 at *
      go_wp2_with fail
      refine O1.out.mono ?_
      rintro e w7 ⟨rfl, hw⟩
      obtain rfl := hw.symm
      clear O1
      go_wp2
      exact ⟨⟨i + 1, rfl, by omega, F3.out.1, F3.out.2⟩, by simp only [intOf]; omega⟩
end Go.Proofs.YtocfenjampmdlabGreatDoor
namespace Go.Proofs.YtocfenjampmdlabGreatDoor
open Go.RowKit Num Nmb

theorem ev_cut {p n N : Nat} {A : Nat → Int} (hn : n ≤ N) (h : ∀ j, n ≤ j → j < N → Cg p (A j) 0) (x : Int) : Cg p (ev A N x) (ev A n x) := by
  have h2 : Cg p (ev A N x) (ev (fun j => if j < n then A j else 0) N x) := ev_cg (fun j hj => by
    show Cg p (A j) (if j < n then A j else 0)
    by_cases e : j < n
    · rw [if_pos e]; exact Cg.rfl
    · rw [if_neg e]; exact h j (by omega) hj) Cg.rfl
  refine h2.trans (Cg.of_eq ?_)
  rw [ev_long (m := n) hn (fun j h3 _ => if_neg (by omega))]
  exact sm_eq _ fun j hj => by show (if j < n then A j else 0) * _ = _; rw [if_pos hj]
/-- what is asked of a list of M words: how great its block is. -/
theorem size_said {k M : Nat} (hk : k ≤ 20) (hM : 0 < M) (hM2 : M ≤ 2 ^ k) : ∃ kk N, kk = Lib.bitLen (M - 1) ∧ N = 2 ^ kk ∧ kk ≤ k ∧ M ≤ N ∧ N ≤ 1048576 := by
  have bl := bl_said k (M - 1) (by omega) (by omega)
  have : 2 ^ Lib.bitLen (M - 1) ≤ 2 ^ 20 := Nat.pow_le_pow_right (by decide) (by omega)
  exact ⟨_, _, rfl, rfl, bl.2, by omega, by omega⟩
set_option maxHeartbeats 1600000 in
theorem values_some (g p k r : Nat) (u : Value) (n m : Nat) (a : Nat → Int) (w : World) (T : Pln w g p k r) (U : Wl w u n a) (hn : n ≤ 2 ^ k) (hm : m ≤ 2 ^ k) (m0 : 0 < m) :
    Calls Tryz.prog 38 #[.pointer (some ⟨g, 0, none⟩), u, .int .i64 m] w fun e w' => e = .returned (.slice (some ⟨w.heap.size, 0, none⟩) m m) ∧ (∃ N X, Row w' w.heap.size N X ∧ m ≤ N ∧ N ≤ 1048576 ∧ ∀ j, j < m → X j = ev a n ((r : Int) ^ rv k j) % p) ∧ Below w.heap.size w w' := by
  obtain ⟨TO, gf, gm, h, f, s, TF, hh, OK⟩ := T
  have p2 := TO.pri.1
  obtain ⟨M, hM⟩ : ∃ M, M = max n m := ⟨_, rfl⟩
  obtain ⟨kk, N, hkk, hN, hk, hMN, hN2⟩ := size_said (k := k) (M := M) TO.k20 (by omega) (by omega)
  have BK := hid (block_any u n M kk N a w TF OK U (by omega) (by omega) (by omega) hkk hN hN2 hMN)
  have DN := down_any (g := g) (gf := gf) (gm := gm) (gl := w.heap.size) (N := N) OK TO hh hN2 kk hk
  rw [← hN] at DN
  have HDN := hid DN
  have l0 : 0 < 2 ^ (k - kk) := Nat.two_pow_pos _
  have FIN : Hid (∀ Y : Nat → Int, (∀ j, j < N → 0 ≤ Y j ∧ Y j < p) → (∀ i, i < m → Cg p (Y (0 + i)) (lf r k kk 0 (fun j => exm p a n (0 + j)) i)) → ∀ j, j < m → Y j = ev a n ((r : Int) ^ rv k j) % p) := by
    intro Y bd h1 j hj
    have b := bd j (by omega)
    have h2 := h1 j hj
    rw [Nat.zero_add] at h2
    have h3 := h2.trans (TO.rt.lf_ev kk hk 0 (fun j => exm p a n (0 + j)) j (by omega))
    rw [Nat.zero_mul, Nat.zero_add] at h3
    have h4 := h3.trans (ev_cut (n := n) (by omega) (fun j hj _ => by
      show Cg p (exm p a n (0 + j)) 0
      unfold exm
      rw [if_neg (by omega)]
      exact Cg.rfl) _)
    have h5 := h4.trans (ev_cg (b := a) (y := (r : Int) ^ rv k j) (fun j hj => by
      show Cg p (exm p a n (0 + j)) (a j)
      unfold exm
      rw [Nat.zero_add, if_pos hj]
      exact Cg.mod) Cg.rfl)
    have h6 : Y j % p = ev a n ((r : Int) ^ rv k j) % p := h5
    rw [Int.emod_eq_of_lt b.1 b.2] at h6
    exact h6
  have mx : max (n : Int) (m : Int) = (M : Int) := by omega
  have HX := hid mx
  have m0' : ((m : Int) == 0) = false := beq_eq_false_iff_ne.2 (by omega)
  have mN : m ≤ N := by omega
  have mN' : (m : Int) ≤ (N : Int) := by omega
  obtain ⟨ao, cap, rfl, -⟩ := U
  clear TF hh OK hM hkk hN mx DN
  go_enter Tryz.func38, Tryz.ntmps38
  go_wp2_with fail
  rw [HX.out]
  refine BK.out.mono ?_
  rintro e w3 ⟨rfl, E3, B3⟩
  have D3 := hid (HDN.out 0 m 0 _ w3 E3 (by omega) l0 mN)
  have BB := hid B3
  clear BK HX E3 B3 HDN
  go_wp2_with fail
  refine D3.out.mono ?_
  rintro e w4 ⟨rfl, Y, E4, O4, -, a2⟩
  have R4 : Hid (∃ N X, Row w4 w.heap.size N X ∧ m ≤ N ∧ N ≤ 1048576 ∧ ∀ j, j < m → X j = ev a n ((r : Int) ^ rv k j) % p) := ⟨N, Y, E4.row, mN, hN2, FIN.out Y E4.bnd a2⟩
  have B4 := hid (BB.out.trans (O4.below))
  clear D3 E4 O4 a2 BB FIN
  go_wp2
  go_ret
  exact ⟨rfl, R4.out, B4.out⟩
set_option maxHeartbeats 800000 in
theorem values_none (g : Nat) (u : Value) (w : World) :
    Calls Tryz.prog 38 #[.pointer (some ⟨g, 0, none⟩), u, .int .i64 0] w fun e w' => e = .returned (.slice none 0 0) ∧ w' = w := by
  go_enter Tryz.func38, Tryz.ntmps38
  go_wp2
  go_ret
  exact ⟨rfl, rfl⟩
set_option maxHeartbeats 1600000 in
theorem coefs_some (g p k r : Nat) (u : Value) (n : Nat) (a : Nat → Int) (w : World) (T : Pln w g p k r) (U : Wl w u n a) (hn : n ≤ 2 ^ k) (n0 : 0 < n) :
    Calls Tryz.prog 40 #[.pointer (some ⟨g, 0, none⟩), u] w fun e w' => e = .returned (.slice (some ⟨w.heap.size, 0, none⟩) n n) ∧ (∃ b, Wl w' (.slice (some ⟨w.heap.size, 0, none⟩) n n) n b ∧ Fnd p k r n a b) ∧ Below w.heap.size w w' := by
  obtain ⟨TO, gf, gm, h, f, s, TF, hh, OK⟩ := T
  have p2 := TO.pri.1
  have p63 := TO.h63
  obtain ⟨kk, N, hkk, hN, hk, hMN, hN2⟩ := size_said (k := k) (M := n) TO.k20 (by omega) (by omega)
  have BK := hid (block_any u n n kk N a w TF OK U (by omega) (by omega) (by omega) hkk hN hN2 hMN)
  have DN := up_any (g := g) (gf := gf) (gm := gm) (gl := w.heap.size) (N := N) OK TO hh hN2 kk hk
  rw [← hN] at DN
  have HDN := hid DN
  have l0 : 0 < 2 ^ (k - kk) := Nat.two_pow_pos _
  have FIN : Hid (∀ Y : Nat → Int, (∀ j, j < N → 0 ≤ Y j ∧ Y j < p) → Mxd p r k kk 0 n (fun j => Y (0 + j)) (fun j => exm p a n (0 + j)) → Fnd p k r n a Y) := by
    intro Y bd h1 j hj
    have b := bd j (by omega)
    refine ⟨b.1, b.2, ?_⟩
    have h2 : Cg p (exm p a n (0 + j)) (lf r k kk 0 (fun j => Y (0 + j)) j) := h1.1 j hj (by omega)
    have h3 := h2.trans (TO.rt.lf_ev kk hk 0 (fun j => Y (0 + j)) j (by omega))
    rw [Nat.zero_mul, Nat.zero_add] at h3
    have h4 := h3.trans (ev_cut (n := n) (by omega) (fun j hj hj2 => by
      have q : Cg p (exm p a n (0 + j)) (Y (0 + j)) := h1.2 j hj hj2
      unfold exm at q
      rw [if_neg (by omega)] at q
      exact q.symm) _)
    unfold exm at h4
    rw [if_pos hj] at h4
    have h5 : Cg p (a j) (ev (fun j => Y (0 + j)) n ((r : Int) ^ rv k j)) := Cg.mod.symm.trans h4
    have e : (fun j => Y (0 + j)) = Y := funext fun j => by rw [Nat.zero_add]
    rw [e] at h5
    exact h5.symm
  have n0' : ((n : Int) == 0) = false := beq_eq_false_iff_ne.2 (by omega)
  have mN' : (n : Int) ≤ (N : Int) := by omega
  obtain ⟨ao, cap, rfl, -⟩ := U
  clear TF hh OK hkk hN DN TO
  go_enter Tryz.func40, Tryz.ntmps40
  go_wp2_with fail
  refine BK.out.mono ?_
  rintro e w3 ⟨rfl, E3, B3⟩
  have D3 := hid (HDN.out 0 n 0 _ w3 E3 (by omega) l0 hMN)
  have BB := hid B3
  clear BK E3 B3 HDN
  go_wp2_with fail
  refine D3.out.mono ?_
  rintro e w4 ⟨rfl, Y, E4, O4, -, a2⟩
  have R4 : Hid (∃ b, Wl w4 (.slice (some ⟨w.heap.size, 0, none⟩) n n) n b ∧ Fnd p k r n a b) := ⟨Y, ⟨_, n, rfl, Nat.le_refl _, by omega, fun j hj => by
    have := E4.bnd j (by omega)
    omega, fun _ => ⟨w.heap.size, 0, rfl, E4.row.lt, fun j hj => by rw [Nat.zero_add]; exact E4.row.cell (by omega)⟩⟩, FIN.out Y E4.bnd a2⟩
  have B4 := hid (BB.out.trans (O4.below))
  clear D3 E4 O4 a2 BB FIN
  go_wp2
  go_ret
  exact ⟨rfl, R4.out, B4.out⟩
set_option maxHeartbeats 800000 in
theorem coefs_none (g : Nat) (ao : Option Addr) (cap : Nat) (w : World) :
    Calls Tryz.prog 40 #[.pointer (some ⟨g, 0, none⟩), .slice ao 0 cap] w fun e w' => e = .returned (.slice none 0 0) ∧ w' = w := by
  go_enter Tryz.func40, Tryz.ntmps40
  go_wp2
  go_ret
  exact ⟨rfl, rfl⟩
end Go.Proofs.YtocfenjampmdlabGreatDoor
namespace Go.Proofs.YtocfenjampmdlabGreatDoor
open Go.RowKit Num Nmb

/-- what formsOfPoints answers. -/
def FrmP (w w' : World) (p r k n : Nat) (e : Ending) : Prop := ∃ gm, e = .returned (.slice (some ⟨gm, 0, none⟩) n n) ∧ Row w' gm n (fmp p r k) ∧ w.heap.size ≤ gm
set_option maxHeartbeats 1600000 in
theorem formsp_any (gf p r k n : Nat) (f s : Int) (w : World) (F : Fld w gf p f s) (OK : Ok p f s) (hk : k ≤ 20) (hn : n = 2 ^ k / 2) (ho : 0 < n → (p : Int) % 2 = 1) :
    Calls Tryz.prog 57 #[.pointer (some ⟨gf, 0, none⟩), .int .u64 r, .int .i64 k] w fun e w' => FrmP w w' p r k n e ∧ Below w.heap.size w w' := by
  have h2 := OK.h2
  have l20 : 2 ^ k ≤ 2 ^ 20 := Nat.pow_le_pow_right (by decide) hk
  have FF := hid F
  have lt := F.lt
  have K1 : Hid (0 < n → n = 2 ^ (k - 1) ∧ (k : Int) - 1 = ((k - 1 : Nat) : Int)) := fun h => by
    have : k ≠ 0 := by
      rintro rfl
      rw [hn] at h
      simp at h
    obtain ⟨j, rfl⟩ : ∃ j, k = j + 1 := ⟨k - 1, by omega⟩
    rw [hn, Nat.pow_succ]
    exact ⟨by rw [show j + 1 - 1 = j from rfl]; omega, by omega⟩
  have IN : Hid (∀ W x, Fld W gf p f s → 0 ≤ x → 0 < n → Calls Tryz.prog 43 #[.pointer (some ⟨gf, 0, none⟩), .int .u64 x] W fun e w' => e = .returned (.tuple #[.int .u64 (x * 18446744073709551616 % p), .int .i64 0]) ∧ ∃ k, w' = W.drewN k) := fun W x F hx h => in_form gf p f s x W F OK hx (ho h)
  have MU : Hid (∀ W x, Fld W gf p f s → 0 ≤ x → Calls Tryz.prog 39 #[.pointer (some ⟨gf, 0, none⟩), .int .u64 x, .int .u64 r] W fun e w' => e = .returned (.int .u64 (x * r % p)) ∧ ∃ k, w' = W.drewN k) := fun W x F hx => mul_any gf p f s x r W F OK hx (by omega)
  have e2 : (2 : Int) ^ k = ((2 ^ k : Nat) : Int) := (Int.natCast_pow 2 k).symm
  have dq : Int.tdiv ((2 ^ k : Nat) : Int) 2 = (n : Int) := by rw [Int.tdiv_eq_ediv_of_nonneg (by omega), hn]; omega
  have n20 : n ≤ 1048576 := by omega
  have k20 : k ≤ 20 := hk
  clear hn ho OK F
  generalize 2 ^ k = NN at *
  go_enter Tryz.func57, Tryz.ntmps57
  go_wp2_with (at_make; refine wp_make _ rfl _ _ rfl _ _ n rfl rfl (by omega) (by omega) (by omega) ?_; intro w1 R1 C1 Z1; have HR := hid R1; have HC := hid C1; clear R1 C1 Z1)
  go_loopw [16, 8] (fun iv pv wr => ∃ (i : Nat) (pw : Int) (fm : Nat → Int), iv = .int .i64 i ∧ pv = .int .u64 pw ∧ i ≤ n ∧ 0 ≤ pw ∧ Hid (pw = (r : Int) ^ i % p) ∧ Hid (∀ j, j < i → fm (rv (k - 1) j) = (r : Int) ^ j * 18446744073709551616 % p) ∧ Hid (Row wr w.heap.size n fm) ∧ Hid (Below w.heap.size w wr)) (fun iv _ _ => ((n : Int) - intOf iv).toNat)
  case atStart => exact ⟨0, 1, _, rfl, rfl, Nat.zero_le _, by omega, by show (1 : Int) = _; rw [Int.pow_zero, Int.emod_eq_of_lt (by omega) (by omega)], fun j hj => absurd hj (by omega), HR.out, HC.out⟩
  case round =>
    obtain ⟨i, pw, fm, rfl, rfl, hi, hpw, HP, HFM, RW, BW⟩ := hrel
    by_cases him : i = n
    · have him' : ¬ (i : Int) < (n : Int) := by omega
      obtain rfl := him
      have D : Hid (FrmP w wr p r k i (.returned (.slice (some ⟨w.heap.size, 0, none⟩) i i))) := ⟨_, rfl, RW.out.eq (fun j hj => by
        have hk1 := (K1.out (by omega)).1
        have h3 := HFM.out (rv (k - 1) j) (by
          have := rv_lt (k - 1) j
          omega)
        rw [rv_rv (k - 1) j (by omega)] at h3
        exact h3), Nat.le_refl _⟩
      clear HR HC IN MU FF HP HFM RW K1
      go_wp2
      go_ret
      exact ⟨D.out, BW.out⟩
    · have him' : (i : Int) < (n : Int) := by omega
      obtain ⟨hk1, hk2⟩ := K1.out (by omega)
      have lr : rv (k - 1) i < n := by
        have := rv_lt (k - 1) i
        omega
      have lr' : ((rv (k - 1) i : Nat) : Int) < (n : Int) := by omega
      have TU := hid (turned_any i (k - 1) wr (by omega) (by omega))
      have Fi := hid (FF.out.below BW.out lt)
      have I1 := hid (IN.out wr pw Fi.out hpw (by omega))
      have M1 : Hid (∀ W, Fld W gf p f s → Calls Tryz.prog 39 #[.pointer (some ⟨gf, 0, none⟩), .int .u64 pw, .int .u64 r] W fun e w' => e = .returned (.int .u64 (pw * r % p)) ∧ ∃ k, w' = W.drewN k) := fun W F => MU.out W pw F hpw
      have cl := RW.out.cell (i := rv (k - 1) i) lr
      have fl := RW.out.frozen (rv (k - 1) i)
      have NX : Hid (∀ W q, Row W w.heap.size n fm → Below w.heap.size w W → Fld W gf p f s → Hid (pw * r % p = (r : Int) ^ (i + 1) % p) ∧ Hid (∀ j, j < i + 1 → (fun t => if t = rv (k - 1) i then pw * 18446744073709551616 % p else fm t) (rv (k - 1) j) = (r : Int) ^ j * 18446744073709551616 % p) ∧ Hid (Row ((W.setCell ⟨w.heap.size, rv (k - 1) i, none⟩ (.int .u64 (pw * 18446744073709551616 % p))).drewN q) w.heap.size n (fun t => if t = rv (k - 1) i then pw * 18446744073709551616 % p else fm t)) ∧ Hid (Below w.heap.size w ((W.setCell ⟨w.heap.size, rv (k - 1) i, none⟩ (.int .u64 (pw * 18446744073709551616 % p))).drewN q))) := by
        intro W q R B F
        have hp := HP.out
        refine ⟨?_, ?_, (R.set _ _ (fun j _ => rfl)).drew q, below_drewN (below_set B (Nat.le_refl _) _ _) q⟩
        · show pw * r % p = _
          rw [hp, Int.pow_succ, Int.mul_emod, Int.emod_emod_of_dvd _ (Int.dvd_refl _), ← Int.mul_emod]
        · intro j hj
          show (if rv (k - 1) j = rv (k - 1) i then pw * 18446744073709551616 % p else fm (rv (k - 1) j)) = _
          by_cases e : j = i
          · subst e
            rw [if_pos rfl, hp, Int.mul_emod, Int.emod_emod_of_dvd _ (Int.dvd_refl _), ← Int.mul_emod]
          · have ne : rv (k - 1) j ≠ rv (k - 1) i := fun h => e (rv_inj (k := k - 1) (by omega) (by omega) h)
            rw [if_neg ne]
            exact HFM.out j (by omega)
      have v1b : 0 ≤ pw * r % (p : Int) := Int.emod_nonneg _ (by omega)
      have R1 := hid RW.out
      have B1 := hid BW.out
      have FS : Hid (∀ W v, Fld W gf p f s → Fld (W.setCell ⟨w.heap.size, rv (k - 1) i, none⟩ v) gf p f s) := fun W v F => F.other (by omega) _ _
      clear HR HC IN MU FF HP HFM RW BW K1 hk1
      generalize pw * 18446744073709551616 % (p : Int) = v1 at *
      generalize pw * r % (p : Int) = v2 at *
      generalize rv (k - 1) i = t at *
      go_wp2_with fail
      refine TU.out.mono ?_
      rintro e w7 ⟨rfl, hw⟩
      obtain rfl := hw.symm
      go_wp2_with fail
      refine I1.out.mono ?_
      rintro e w7 ⟨rfl, q, rfl⟩
      have N1 := hid (fun q' => NX.out _ q' (R1.out.drew q) (below_drewN B1.out q) (Fi.out.drew q))
      have M2 := hid (M1.out _ (FS.out _ (.int .u64 v1) (Fi.out.drew q)))
      have cl2 : (wr.drewN q).cell? ⟨w.heap.size, t, none⟩ = some (.int .u64 (fm t)) := by simpa using cl
      have fl2 : (wr.drewN q).frozen? ⟨w.heap.size, t, none⟩ = false := by simpa using fl
      clear TU I1 M1 cl fl NX R1 B1 FS Fi
      generalize wr.drewN q = w8 at *
      go_wp2_with fail
      refine M2.out.mono ?_
      rintro e w9 ⟨rfl, q2, rfl⟩
      have N2 := hid (N1.out q2)
      clear M2 N1 cl2 fl2
      generalize (w8.setCell ⟨w.heap.size, t, none⟩ (.int .u64 v1)).drewN q2 = w10 at *
      go_wp2
      exact ⟨⟨i + 1, v2, _, rfl, rfl, by omega, v1b, N2.out.1, N2.out.2.1, N2.out.2.2.1, N2.out.2.2.2⟩, by simp only [intOf]; omega⟩
set_option maxHeartbeats 1600000 in
theorem tnew_limit (p : Nat) (k : Int) (w : World) (hk : 20 < k) :
    Calls Tryz.prog 36 #[.int .u64 p, .int .i64 k] w fun e w' => e = .returned (.tuple #[.pointer none, .int .i64 13]) ∧ Below w.heap.size w w' := by
  go_enter Tryz.func36, Tryz.ntmps36
  go_wp2
  go_ret2
  exact ⟨rfl, Below.refl _ _⟩
set_option maxHeartbeats 1600000 in
theorem tnew_prime (p : Nat) (k : Int) (w : World) (hn : p ≤ 18446744073709551615) (hk : k ≤ 20) (hb : isB p = false) (L : Lay w) :
    Calls Tryz.prog 36 #[.int .u64 p, .int .i64 k] w fun e w' => e = .returned (.tuple #[.pointer none, .int .i64 14]) ∧ Below w.heap.size w w' := by
  have R := hid (root_no p k w hn hb L)
  have hk' : ¬ (20 : Int) < k := by omega
  clear hb L
  go_enter Tryz.func36, Tryz.ntmps36
  go_wp2_with fail
  refine R.out.mono ?_
  rintro e w1 ⟨rfl, c, rfl⟩
  have BB := hid (below_drewN (Below.refl w.heap.size w) c)
  go_wp2
  go_ret2
  exact ⟨rfl, BB.out⟩
set_option maxHeartbeats 1600000 in
theorem tnew_arg (p : Nat) (k : Int) (w : World) (hp : Pri p) (h63 : p < 9223372036854775808) (hk : k ≤ 20) (ha : k < 0 ∨ (tw p : Int) < k) (L : Lay w) :
    Calls Tryz.prog 36 #[.int .u64 p, .int .i64 k] w fun e w' => e = .returned (.tuple #[.pointer none, .int .i64 1]) ∧ Below w.heap.size w w' := by
  have R := hid (root_arg p k w (isB_of_pri hp (by omega)) h63 ha L)
  have hk' : ¬ (20 : Int) < k := by omega
  clear hp ha L
  go_enter Tryz.func36, Tryz.ntmps36
  go_wp2_with fail
  refine R.out.mono ?_
  rintro e w1 ⟨rfl, B⟩
  have BB := hid B
  clear B
  go_wp2
  go_ret2
  exact ⟨rfl, BB.out⟩
set_option maxHeartbeats 3200000 in
theorem tnew_yes (p k : Nat) (w : World) (hp : Pri p) (h63 : p < 9223372036854775808) (hk : k ≤ 20) (ha : k ≤ tw p) (L : Lay w) :
    Calls Tryz.prog 36 #[.int .u64 p, .int .i64 k] w fun e w' => (∃ g r, e = .returned (.tuple #[.pointer (some ⟨g, 0, none⟩), .int .i64 0]) ∧ Pln w' g p k r) ∧ Below w.heap.size w w' := by
  have R := hid (root_any p k w hp h63 ha L)
  have hk' : ¬ (20 : Int) < (k : Int) := by omega
  have HP := hid hp
  have HA := hid ha
  have p2 := hp.1
  have NW : Hid (∀ w : World, Calls Tryz.prog 41 #[.int .u64 p] w fun e w' => e = .returned (.tuple #[.pointer (some ⟨w.heap.size, 0, none⟩), .int .i64 0]) ∧ Below w.heap.size w w' ∧ ∃ f s, Fld w' w.heap.size p f s ∧ Ok p f s) := fun w => new_any p w (by omega) (by omega)
  have N0 : Hid (0 < 2 ^ k / 2 → 0 < k) := fun h => by
    apply Nat.pos_of_ne_zero
    intro e
    rw [e] at h
    simp at h
  obtain ⟨M, hM⟩ : ∃ M, M = 2 ^ k / 2 := ⟨_, rfl⟩
  rw [← hM] at N0
  have HM := hid hM
  clear hp ha L hM
  go_enter Tryz.func36, Tryz.ntmps36
  go_wp2_with fail
  refine R.out.mono ?_
  rintro e w1 ⟨⟨y, rfl, Y⟩, B1⟩
  have BB1 := hid B1
  have YY := hid Y
  clear B1 Y R
  go_wp2_with fail
  refine (NW.out _).mono ?_
  rintro e w2 ⟨rfl, B2, f, s, F, O⟩
  have BB2 := hid (BB1.out.trans (B2.mono BB1.out.size))
  have TO : TabOk p k y := ⟨HP.out, h63, hk, HA.out, YY.out.2⟩
  have FR := hid (formsp_any w1.heap.size p y k M f s w2 F O hk HM.out (fun h => TO.odd (N0.out h)))
  have TT := hid TO
  have FF := hid F
  have OO := hid O
  clear B2 F O BB1 NW TO
  generalize w1.heap.size = gf at *
  go_wp2_with fail
  refine FR.out.mono ?_
  rintro e w3 ⟨X, B3⟩
  obtain ⟨gm, rfl, R3, l3⟩ := X
  have BB3 := hid (BB2.out.trans (B3.mono BB2.out.size))
  have FF3 := hid (FF.out.below B3 FF.out.lt)
  have RR3 := hid R3
  clear B3 R3 l3 FR FF BB2
  go_wp2
  go_ret2
  have A3 : Below w3.heap.size w3 (w3.alloc (.cells #[.pointer (some ⟨gf, 0, none⟩), .int .i64 k, .int .u64 y, .slice (some ⟨gm, 0, none⟩) M M] 87 (0, 0))) := (Below.refl _ _).alloc (Nat.le_refl _) _
  refine ⟨⟨_, y, rfl, TT.out, gf, gm, M, f, s, ⟨heap_alloc_new w3 _, FF3.out.below A3 FF3.out.lt, RR3.out.below A3 RR3.out.lt⟩, HM.out, OO.out⟩, BB3.out.alloc BB3.out.size _⟩
end Go.Proofs.YtocfenjampmdlabGreatDoor
namespace Go.Proofs.YtocfenjampmdlabGreatDoor
open Go.RowKit Num Nmb

set_option maxHeartbeats 800000 in
theorem tmul_nil (u v : Value) (n m : Nat) (a b : Nat → Int) (w : World) (_U : Wl w u n a) (_V : Wl w v m b) : Calls Tryz.prog 21 #[.pointer none, u, v] w fun e w' => (∃ v, e = .returned (.tuple #[v, .int .i64 2])) ∧ Below w.heap.size w w' := by
  have B := hid (Below.refl w.heap.size w)
  clear _U _V
  go_enter Tryz.func21, Tryz.ntmps21
  go_wp2
  go_ret2
  exact ⟨⟨_, rfl⟩, B.out⟩
set_option maxHeartbeats 800000 in
theorem tmul_none (g p k r : Nat) (u v : Value) (n m : Nat) (a b : Nat → Int) (w : World) (_T : Pln w g p k r) (U : Wl w u n a) (V : Wl w v m b) (h : n = 0 ∨ m = 0) :
    Calls Tryz.prog 21 #[.pointer (some ⟨g, 0, none⟩), u, v] w fun e w' => (∃ ao cap, e = .returned (.tuple #[.slice ao 0 cap, .int .i64 0]) ∧ Wl w' (.slice ao 0 cap) 0 a) ∧ Below w.heap.size w w' := by
  have B := hid (Below.refl w.heap.size w)
  have W := hid (Wl.nil w a)
  obtain ⟨ao, cap, rfl, -⟩ := U
  obtain ⟨bo, bap, rfl, -⟩ := V
  clear _T
  by_cases n0 : n = 0
  · subst n0
    go_enter Tryz.func21, Tryz.ntmps21
    go_wp2
    go_ret2
    exact ⟨⟨_, _, rfl, W.out⟩, B.out⟩
  · obtain rfl : m = 0 := by omega
    have n0' : ((n : Int) == 0) = false := beq_eq_false_iff_ne.2 (by omega)
    go_enter Tryz.func21, Tryz.ntmps21
    go_wp2
    go_ret2
    exact ⟨⟨_, _, rfl, W.out⟩, B.out⟩
set_option maxHeartbeats 800000 in
theorem tmul_limit (g p k r : Nat) (u v : Value) (n m : Nat) (a b : Nat → Int) (w : World) (T : Pln w g p k r) (U : Wl w u n a) (V : Wl w v m b) (hn : 0 < n) (hm : 0 < m) (h : 2 ^ k < n + m - 1) (hs : n + m ≤ 9223372036854775807) :
    Calls Tryz.prog 21 #[.pointer (some ⟨g, 0, none⟩), u, v] w fun e w' => (∃ ao cap, e = .returned (.tuple #[.slice ao 0 cap, .int .i64 13])) ∧ Below w.heap.size w w' := by
  have B := hid (Below.refl w.heap.size w)
  have l20 : 2 ^ k ≤ 2 ^ 20 := Nat.pow_le_pow_right (by decide) T.ok.k20
  obtain ⟨ao, cap, rfl, -⟩ := U
  obtain ⟨bo, bap, rfl, -⟩ := V
  have MA := hid (tmost_any g p k r w T)
  have n0' : ((n : Int) == 0) = false := beq_eq_false_iff_ne.2 (by omega)
  have m0' : ((m : Int) == 0) = false := beq_eq_false_iff_ne.2 (by omega)
  have w1 : IntKind.i64.wrap ((n : Int) + (m : Int)) = (n : Int) + (m : Int) := by rw [IntKind.wrap_i64]; omega
  have w2 : ((2 ^ k : Nat) : Int) + 2 ≤ (n : Int) + (m : Int) := by omega
  clear T h
  generalize 2 ^ k = N at *
  go_enter Tryz.func21, Tryz.ntmps21
  go_wp2_with fail
  refine MA.out.mono ?_
  rintro e w3 ⟨rfl, hw⟩
  obtain rfl := hw.symm
  go_wp2
  go_ret2
  exact ⟨⟨_, _, rfl⟩, B.out⟩
end Go.Proofs.YtocfenjampmdlabGreatDoor
namespace Go.Proofs.YtocfenjampmdlabGreatDoor
open Go.RowKit Num Nmb

set_option maxHeartbeats 1600000 in
set_option maxRecDepth 100000 in
theorem tmul_any (g p k r : Nat) (u v : Value) (n m : Nat) (a b : Nat → Int) (w : World) (T : Pln w g p k r) (U : Wl w u n a) (V : Wl w v m b) (hn : 0 < n) (hm : 0 < m) (h : n + m - 1 ≤ 2 ^ k) :
    Calls Tryz.prog 21 #[.pointer (some ⟨g, 0, none⟩), u, v] w fun e w' => (∃ ao cap, e = .returned (.tuple #[.slice ao (n + m - 1 : Nat) cap, .int .i64 0]) ∧ Wl w' (.slice ao (n + m - 1) cap) (n + m - 1) (fun j => prd a b n m j % p)) ∧ Below w.heap.size w w' := by
  have p2 := T.ok.pri.1
  have p63 := T.ok.h63
  have l20 : 2 ^ k ≤ 1048576 := Nat.pow_le_pow_right (n := 2) (j := 20) (by decide) T.ok.k20
  have TO := T.ok
  obtain ⟨M, hM⟩ : ∃ M, M = n + m - 1 := ⟨_, rfl⟩
  have MA := hid (tmost_any g p k r w T)
  have VA := hid (values_some g p k r u n M a w T U (by omega) (by omega) (by omega))
  have VB : Hid (∀ w1, Below w.heap.size w w1 → Calls Tryz.prog 38 #[.pointer (some ⟨g, 0, none⟩), v, .int .i64 M] w1 fun e w' => e = .returned (.slice (some ⟨w1.heap.size, 0, none⟩) M M) ∧ (∃ N X, Row w' w1.heap.size N X ∧ M ≤ N ∧ N ≤ 1048576 ∧ ∀ j, j < M → X j = ev b m ((r : Int) ^ rv k j) % p) ∧ Below w1.heap.size w1 w') := fun w1 B => values_some g p k r v m M b w1 (T.below B) (V.below B) (by omega) (by omega) (by omega)
  obtain ⟨ao, cap, rfl, -⟩ := U
  obtain ⟨bo, bap, rfl, -⟩ := V
  obtain ⟨_, gf, gm, hh, f, s, TF, hh2, OK⟩ := T
  have TT := hid TF
  have lt := TF.lt
  have PL : Hid (∀ W, PlnF W g gf gm p k r hh f s → Pln W g p k r) := fun W F => ⟨TO, gf, gm, hh, f, s, F, hh2, OK⟩
  have CO : Hid (∀ W gv (z : Nat → Int), PlnF W g gf gm p k r hh f s → Wl W (.slice (some ⟨gv, 0, none⟩) M M) M z → Calls Tryz.prog 40 #[.pointer (some ⟨g, 0, none⟩), .slice (some ⟨gv, 0, none⟩) M M] W fun e w' => e = .returned (.slice (some ⟨W.heap.size, 0, none⟩) M M) ∧ (∃ b, Wl w' (.slice (some ⟨W.heap.size, 0, none⟩) M M) M b ∧ Fnd p k r M z b) ∧ Below W.heap.size W w') := fun W gv z F Z => coefs_some g p k r _ M z W (PL.out W F) Z (by omega) (by omega)
  have MU : Hid (∀ W x y, Fld W gf p f s → 0 ≤ x → 0 ≤ y → Calls Tryz.prog 39 #[.pointer (some ⟨gf, 0, none⟩), .int .u64 x, .int .u64 y] W fun e w' => e = .returned (.int .u64 (x * y % p)) ∧ ∃ k, w' = W.drewN k) := fun W x y F hx hy => mul_any gf p f s x y W F OK hx hy
  have em : ∀ x : Int, 0 ≤ x % (p : Int) ∧ x % (p : Int) < p := fun x => ⟨Int.emod_nonneg _ (by omega), Int.emod_lt_of_pos _ (by omega)⟩
  have EM := hid em
  have FIN : Hid (∀ (w' : World) (sv : Value) (c z : Nat → Int), (∀ j, j < M → z j = ev a n ((r : Int) ^ rv k j) % p * (ev b m ((r : Int) ^ rv k j) % p) % p) → Wl w' sv M c → Fnd p k r M z c → Wl w' sv M (fun j => prd a b n m j % p)) := by
    intro w' sv c z hz W F
    refine W.eq fun j hj => ?_
    refine F.is TO (by omega) (fun i hi => ?_) j hj
    rw [hz i hi, ev_prd a b (by omega), Int.emod_emod_of_dvd _ (Int.dvd_refl _), ← Int.mul_emod]
  have n0' : ((n : Int) == 0) = false := beq_eq_false_iff_ne.2 (by omega)
  have m0' : ((m : Int) == 0) = false := beq_eq_false_iff_ne.2 (by omega)
  have w1 : IntKind.i64.wrap ((n : Int) + (m : Int)) = (n : Int) + (m : Int) := by rw [IntKind.wrap_i64]; omega
  have w2 : ¬ ((2 ^ k : Nat) : Int) + 2 ≤ (n : Int) + (m : Int) := by omega
  have w3 : (n : Int) + (m : Int) - 1 = (M : Int) := by omega
  have w4 : IntKind.i64.wrap (M : Int) = (M : Int) := by rw [IntKind.wrap_i64]; omega
  have M20 : M ≤ 1048576 := by omega
  rw [← hM]
  clear TF OK hM h TO hh2 PL em
  generalize 2 ^ k = Nk at *
  go_enter Tryz.func21, Tryz.ntmps21
  go_wp2_with fail
  refine MA.out.mono ?_
  rintro e w3 ⟨rfl, hw⟩
  obtain rfl := hw.symm
  go_wp2_with fail
  refine VA.out.mono ?_
  rintro e w5 ⟨rfl, ⟨N, X, R1, hMN, hN2, hX⟩, B1⟩
  have V2 := hid (VB.out w5 B1)
  have lt5 := R1.lt
  have RR1 := hid R1
  have BB1 := hid B1
  have HX := hid hX
  clear R1 B1 hX VA VB MA
  go_wp2_with fail
  refine V2.out.mono ?_
  rintro e w6 ⟨rfl, ⟨N2, X2, R2, hMN2, hN22, hX2⟩, B2⟩
  have RV := hid (RR1.out.below B2 lt5)
  have RO := hid R2
  have BB2 := hid (BB1.out.trans (B2.mono BB1.out.size))
  have T6 := hid (TT.out.below BB2.out lt)
  have HX2 := hid hX2
  have ne : w5.heap.size ≠ w.heap.size := by omega
  have d3 : g ≠ w.heap.size ∧ gf ≠ w.heap.size ∧ gm ≠ w.heap.size := by omega
  have D3 := hid d3
  clear RR1 BB1 R2 B2 V2 TT hX2 d3 lt lt5
  obtain ⟨gv, hgv⟩ : ∃ gv, gv = w.heap.size := ⟨_, rfl⟩
  have HG := hid hgv
  rw [← hgv] at RV BB2 D3 ne ⊢
  clear hgv
  generalize w5.heap.size = go at *
  go_wp2
  go_loopw [50] (fun iv wr => ∃ (i : Nat) (Z : Nat → Int), iv = .int .i64 i ∧ i ≤ M ∧ Hid (∀ j, j < N → Z j = if j < i then X j * X2 j % p else X j) ∧ Hid (Row wr gv N Z) ∧ Hid (OnlyB gv w6 wr)) (fun iv _ => ((M : Int) - intOf iv).toNat)
  case atStart => exact ⟨0, X, rfl, Nat.zero_le _, fun j _ => by rw [if_neg (by omega)], RV.out, OnlyB.refl _ _⟩
  case round =>
    obtain ⟨i, Z, rfl, hi, HZ, Ri, Oi⟩ := hrel
    by_cases him : i = M
    · have him' : ¬ (i : Int) < (M : Int) := by omega
      obtain rfl := him
      have ZW : Wl wr (.slice (some ⟨gv, 0, none⟩) i i) i Z := ⟨_, i, rfl, Nat.le_refl _, by omega, fun j hj => by
        rw [HZ.out j (by omega), if_pos hj]
        have := EM.out (X j * X2 j)
        omega, fun _ => ⟨gv, 0, rfl, Ri.out.lt, fun j hj => by rw [Nat.zero_add]; exact Ri.out.cell (by omega)⟩⟩
      have C1 := hid (CO.out wr gv Z (T6.out.only Oi.out D3.out) ZW)
      have hz : Hid (∀ j, j < i → Z j = ev a n ((r : Int) ^ rv k j) % p * (ev b m ((r : Int) ^ rv k j) % p) % p) := fun j hj => by rw [HZ.out j (by omega), if_pos hj, HX.out j hj, HX2.out j hj]
      have B7 := hid (BB2.out.trans (Oi.out.below))
      clear ZW CO HZ Ri Oi RV RO BB2 T6 HX HX2 MU D3 EM
      go_wp2_with fail
      refine C1.out.mono ?_
      rintro e w7 ⟨rfl, ⟨c, W7, F7⟩, B8⟩
      have G := hid (FIN.out w7 _ c Z hz.out W7 F7)
      have B9 := hid (B7.out.trans (B8.mono (by have := B7.out.size; have := HG.out; omega)))
      clear C1 W7 F7 B8 B7 hz FIN
      go_wp2
      go_ret2
      refine ⟨⟨_, _, rfl, G.out⟩, ?_⟩
      rw [← HG.out]
      exact B9.out
    · have him' : (i : Int) < (M : Int) := by omega
      have hi' : i < M := by omega
      have Ti := T6.out.only Oi.out D3.out
      have cf := Ti.tc.cell0
      have cl := Ri.out.cell (i := i) (by omega)
      have fl := Ri.out.frozen i
      have co := (RO.out.only Oi.out ne).cell (i := i) (by omega)
      rw [HZ.out i (by omega), if_neg (by omega)] at cl
      have x0 : 0 ≤ X i := by rw [HX.out i hi']; exact (EM.out _).1
      have y0 : 0 ≤ X2 i := by rw [HX2.out i hi']; exact (EM.out _).1
      have M1 := hid (fun q => MU.out (wr.drewN q) (X i) (X2 i) (Ti.fld.drew q) x0 y0)
      have N1 : Hid (∀ q, Hid (∀ j, j < N → (fun t => if t = i then X i * X2 i % p else Z t) j = if j < i + 1 then X j * X2 j % p else X j) ∧ Hid (Row ((wr.drewN q).setCell ⟨gv, i, none⟩ (.int .u64 (X i * X2 i % p))) gv N (fun t => if t = i then X i * X2 i % p else Z t)) ∧ Hid (OnlyB gv w6 ((wr.drewN q).setCell ⟨gv, i, none⟩ (.int .u64 (X i * X2 i % p))))) := fun q =>
        ⟨fun j hj => by
          show (if j = i then X i * X2 i % p else Z j) = _
          by_cases e : j = i
          · rw [if_pos e, if_pos (by omega), e]
          · rw [if_neg e, HZ.out j hj]
            by_cases e2 : j < i
            · rw [if_pos e2, if_pos (by omega)]
            · rw [if_neg e2, if_neg (by omega)], (Ri.out.drew q).set i _ (fun _ _ => rfl), (Oi.out.drew q).set _ _⟩
      clear Ti x0 y0 MU CO HZ Ri Oi RV RO BB2 T6 HX HX2 D3 EM FIN
      generalize X i * X2 i % (p : Int) = v1 at *
      go_wp2_with fail
      refine wp_region_last (by kernel_rfl) (by kernel_rfl) (by kernel_rfl) (by kernel_rfl) (by decide) ?_
      simp only [stillLast, still, lastOf]
      repeat (quiet_step ((go_at_call 39; exact Calls.quiet_of (M1.out _))))
      refine wpQuiet_nil ?_
      intro _ hw'
      obtain ⟨nq, hw''⟩ := hw'
      subst hw''
      have N2 := hid (N1.out nq)
      have cl2 : (wr.drewN nq).cell? ⟨gv, i, none⟩ = some (.int .u64 (X i)) := by simpa using cl
      have fl2 : (wr.drewN nq).frozen? ⟨gv, i, none⟩ = false := by simpa using fl
      clear cf cl fl co M1 N1
      generalize wr.drewN nq = w8 at *
      go_wp2
      exact ⟨⟨i + 1, _, rfl, by omega, N2.out.1, N2.out.2.1, N2.out.2.2⟩, by simp only [intOf]; omega⟩
end Go.Proofs.YtocfenjampmdlabGreatDoor
