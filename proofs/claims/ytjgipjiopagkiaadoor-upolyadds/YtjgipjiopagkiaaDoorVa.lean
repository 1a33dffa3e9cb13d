/- What bits.Div64 answers: the quotient of two words by one, and what is left. -/
/- What the calls of a field answer that multiply and take powers. -/
/- What New's inner calls answer. -/
/- What the field's Inv answers. -/
/- What Of of a field answers. -/
/- What the field's Add and Sub answer. -/
import Derived.Test.YtjgipjiopagkiaaDoorVr
import Derived.Test.YtjgipjiopagkiaaDoorShelf
import Derived.Deep.QuietTactic
import Derived.BigQuiet
import Derived.Lib.ItoaNum
import Derived.WalkMore
namespace Go.Proofs.YtjgipjiopagkiaaDoor
open Go.RowKit Num

set_option maxHeartbeats 800000 in
set_option maxRecDepth 100000 in
theorem div64_low (l y : Int) (w : World) (hl : 0 ≤ l) (hl1 : l ≤ 18446744073709551615) (hy : 0 < y) (hy1 : y ≤ 18446744073709551615) :
    Calls Tryd.prog 49 #[.int .u64 0, .int .u64 l, .int .u64 y] w fun e w' => e = .returned (.tuple #[.int .u64 (l / y), .int .u64 (l % y)]) ∧ ∃ k, w' = w.drewN k := by
  have h0 : (y == 0) = false := beq_eq_false_iff_ne.2 (by omega)
  have hq := Int.ediv_nonneg hl (show 0 ≤ y by omega)
  have hr := Int.emod_nonneg l (show y ≠ 0 by omega)
  go_enter Tryd.func49, Tryd.ntmps49
  go_wp2
  go_region
  go_wp2
  go_ret2
  exact ⟨rfl, 1, rfl⟩


/-- D is how often Y goes into U and one half word d; q is a guess of it. -/
structure Dig (U d Y yn1 yn0 D R : Int) : Prop where
  fy : yn1 * 4294967296 + yn0 = Y
  fy1 : 2147483648 ≤ yn1
  fy1' : yn1 ≤ 4294967295
  fy0 : 0 ≤ yn0
  fy0' : yn0 ≤ 4294967295
  fu : 0 ≤ U
  fu' : U < Y
  fd : 0 ≤ d
  fd' : d ≤ 4294967295
  fe : D * Y + R = U * 4294967296 + d
  fr : 0 ≤ R
  fr' : R < Y
theorem Dig.range {U d Y yn1 yn0 D R : Int} (h : Dig U d Y yn1 yn0 D R) : 0 ≤ D ∧ D ≤ 4294967295 := by
  obtain ⟨h1, h2, h3, h4, h5, h6, h7, h8, h9, h10, h11, h12⟩ := h
  constructor
  · apply Int.not_lt.1
    intro hD
    have : D * Y ≤ (-1) * Y := Int.mul_le_mul_of_nonneg_right (by omega) (by omega)
    omega
  · apply Int.not_lt.1
    intro hD
    have : 4294967296 * Y ≤ D * Y := Int.mul_le_mul_of_nonneg_right (by omega) (by omega)
    omega
theorem Dig.below {U d Y yn1 yn0 D R q : Int} (h : Dig U d Y yn1 yn0 D R) (hq : U * 4294967296 + d < q * Y) : D + 1 ≤ q := by
  obtain ⟨h1, h2, h3, h4, h5, h6, h7, h8, h9, h10, h11, h12⟩ := h
  apply Int.not_lt.1
  intro hD
  have : q * Y ≤ D * Y := Int.mul_le_mul_of_nonneg_right (by omega) (by omega)
  omega
theorem Dig.above {U d Y yn1 yn0 D R q : Int} (h : Dig U d Y yn1 yn0 D R) (hq : q * Y ≤ U * 4294967296 + d) : q ≤ D := by
  obtain ⟨h1, h2, h3, h4, h5, h6, h7, h8, h9, h10, h11, h12⟩ := h
  apply Int.not_lt.1
  intro hD
  have : (D + 1) * Y ≤ q * Y := Int.mul_le_mul_of_nonneg_right (by omega) (by omega)
  rw [Int.add_mul] at this
  omega
theorem Dig.times {U d Y yn1 yn0 D R q r : Int} (h : Dig U d Y yn1 yn0 D R) (hq : q * yn1 + r = U) : q * Y = U * 4294967296 - r * 4294967296 + q * yn0 := by
  rw [← h.fy, ← hq]; grind
/-- the loop's state. -/
structure Gs (U d Y yn1 yn0 D R q r : Int) : Prop where
  fg : Dig U d Y yn1 yn0 D R
  fe : q * yn1 + r = U
  fq : D ≤ q
  fq' : q ≤ 4294967297
  fr : 0 ≤ r
  fr' : r ≤ 4294967295
theorem Gs.start {U d Y yn1 yn0 D R : Int} (g : Dig U d Y yn1 yn0 D R) : Gs U d Y yn1 yn0 D R (U / yn1) (U - U / yn1 * yn1) := by
  have hy := g.fy1
  have h1 : U / yn1 * yn1 + U % yn1 = U := by have := Int.emod_add_mul_ediv U yn1; rw [Int.mul_comm] at this; omega
  have h2 := Int.emod_nonneg U (show yn1 ≠ 0 by omega)
  have h3 := Int.emod_lt_of_pos U (show 0 < yn1 by omega)
  have h4 := g.fy1'
  have hge : D ≤ U / yn1 := by
    have := g.times (q := U / yn1 + 1) (r := U % yn1 - yn1) (by rw [Int.add_mul]; omega)
    have hb := g.below (q := U / yn1 + 1) (by
      rw [this]
      have hm : 0 ≤ (U / yn1 + 1) * yn0 := Int.mul_nonneg (by have := Int.ediv_nonneg g.fu (show 0 ≤ yn1 by omega); omega) g.fy0
      have := g.fd'
      omega)
    omega
  refine ⟨g, by omega, hge, ?_, by omega, by omega⟩
  apply Int.not_lt.1
  intro hc
  have : 4294967298 * yn1 ≤ U / yn1 * yn1 := Int.mul_le_mul_of_nonneg_right (by omega) (by omega)
  have := g.fy; have := g.fu'; have := g.fy0'
  omega
theorem Gs.prod {U d Y yn1 yn0 D R q r : Int} (h : Gs U d Y yn1 yn0 D R q r) : 0 ≤ q * yn0 ∧ q * yn0 ≤ 18446744073709551615 := by
  have h0 := h.fg.range.1
  have h1 := h.fq
  refine ⟨Int.mul_nonneg (by omega) h.fg.fy0, ?_⟩
  have : q * yn0 ≤ 4294967297 * yn0 := Int.mul_le_mul_of_nonneg_right h.fq' h.fg.fy0
  have := h.fg.fy0'
  omega
theorem Gs.big {U d Y yn1 yn0 D R q r : Int} (h : Gs U d Y yn1 yn0 D R q r) (hq : 4294967296 ≤ q) : D + 1 ≤ q := by
  have := h.fg.range.2; omega
theorem Gs.more {U d Y yn1 yn0 D R q r : Int} (h : Gs U d Y yn1 yn0 D R q r) (hq : 4294967296 * r + d < q * yn0) : D + 1 ≤ q :=
  h.fg.below (by rw [h.fg.times h.fe]; omega)
theorem Gs.done {U d Y yn1 yn0 D R q r : Int} (h : Gs U d Y yn1 yn0 D R q r) (hq : q * yn0 ≤ 4294967296 * r + d) : q = D := by
  have := h.fg.above (q := q) (by rw [h.fg.times h.fe]; omega)
  have := h.fq; omega
theorem Gs.broke {U d Y yn1 yn0 D R q r : Int} (h : Gs U d Y yn1 yn0 D R q r) (hq : D + 1 ≤ q) (hr : 4294967296 ≤ r + yn1) : q - 1 = D := by
  have e : (q - 1) * yn1 + (r + yn1) = U := by rw [← h.fe, Int.sub_mul]; omega
  have hm : (q - 1) * yn0 ≤ 4294967296 * yn0 := Int.mul_le_mul_of_nonneg_right (by have := h.fq'; omega) h.fg.fy0
  have := h.fg.fy0'; have := h.fg.fd
  have := h.fg.above (q := q - 1) (by rw [h.fg.times e]; omega)
  omega
theorem Gs.next {U d Y yn1 yn0 D R q r : Int} (h : Gs U d Y yn1 yn0 D R q r) (hq : D + 1 ≤ q) (hr : r + yn1 < 4294967296) : Gs U d Y yn1 yn0 D R (q - 1) (r + yn1) := by
  refine ⟨h.fg, by rw [← h.fe, Int.sub_mul]; omega, by omega, by have := h.fq'; omega, by have := h.fr; have := h.fg.fy1; omega, by omega⟩
theorem wrap_lin (U d D Y R : Int) (e : D * Y + R = U * 4294967296 + d) (r : 0 ≤ R) (r' : R ≤ 18446744073709551615) : IntKind.u64.wrap (IntKind.u64.wrap (IntKind.u64.wrap (U * 4294967296) + d) - IntKind.u64.wrap (D * Y)) = R := by
  simp only [IntKind.wrap_u64]; omega

set_option maxHeartbeats 1600000 in
set_option maxRecDepth 100000 in
theorem div64_core (h l y Y yn1 yn0 U L un1 un0 D1 R1 D0 R0 : Int) (w : World) (hh : 0 < h) (_hl : 0 ≤ l) (_hl1 : l ≤ 18446744073709551615) (hy : h < y) (hy1 : y ≤ 18446744073709551615) (s : Nat) (hs0 : s ≤ 63) (hs : Hid ((64 - (Lib.bitLen y.toNat : Int)) = s))
    (hY : IntKind.u64.wrap (y * 2 ^ s) = Y) (hyn1 : Y / 4294967296 = yn1) (hyn0 : bits .and .u64 Y 4294967295 = yn0)
    (hU : bits .or .u64 (IntKind.u64.wrap (h * 2 ^ s)) (l / 2 ^ (64 - s)) = U) (hL : IntKind.u64.wrap (l * 2 ^ s) = L) (hun1 : L / 4294967296 = un1) (hun0 : bits .and .u64 L 4294967295 = un0)
    (g1 : Dig U un1 Y yn1 yn0 D1 R1) (g0 : Dig R1 un0 Y yn1 yn0 D0 R0) (hYb : Y ≤ 18446744073709551615) :
    Calls Tryd.prog 49 #[.int .u64 h, .int .u64 l, .int .u64 y] w fun e w' => e = .returned (.tuple #[.int .u64 (D1 * 4294967296 + D0), .int .u64 (R0 / 2 ^ s)]) ∧ w' = w := by
  have h0 : (y == 0) = false := beq_eq_false_iff_ne.2 (by omega)
  have h1 : (h == 0) = false := beq_eq_false_iff_ne.2 (by omega)
  have h2 : ¬ y ≤ h := by omega
  have b1 : 0 ≤ U := g1.fu
  have b2 : 0 < yn1 := by have := g1.fy1; omega
  have b2' : yn1 ≤ 4294967295 := g1.fy1'
  have b3 : U ≤ 18446744073709551615 := by have := g1.fu'; omega
  have st1 := Gs.start g1
  have b4 : 0 ≤ U / yn1 := Int.ediv_nonneg b1 (by omega)
  have b4' : U / yn1 ≤ 4294967297 := st1.fq'
  have b5 : 0 ≤ U / yn1 * yn1 := Int.mul_nonneg b4 (by omega)
  have b6 : U / yn1 * yn1 ≤ U := by have := st1.fr; omega
  have b7 : 0 ≤ un1 := g1.fd
  have b8 : un1 ≤ 4294967295 := g1.fd'
  have b9 : 0 ≤ un0 := g0.fd
  have b10 : un0 ≤ 4294967295 := g0.fd'
  have b11 : 0 ≤ yn0 := g0.fy0
  have b12 : yn0 ≤ 4294967295 := g0.fy0'
  have b13 : 0 ≤ R1 := g1.fr
  have b14 : R1 ≤ 18446744073709551615 := by have := g1.fr'; omega
  have st0 := Gs.start g0
  have b15 : 0 ≤ R1 / yn1 := Int.ediv_nonneg b13 (by omega)
  have b15' : R1 / yn1 ≤ 4294967297 := st0.fq'
  have b16 : 0 ≤ R1 / yn1 * yn1 := Int.mul_nonneg b15 (by omega)
  have b17 : R1 / yn1 * yn1 ≤ R1 := by have := st0.fr; omega
  obtain ⟨d1, d1'⟩ := g1.range
  obtain ⟨d0, d0'⟩ := g0.range
  have hW1 := wrap_lin U un1 D1 Y R1 g1.fe g1.fr (by omega)
  have hW0 := wrap_lin R1 un0 D0 Y R0 g0.fe g0.fr (by have := g0.fr'; omega)
  have r0 : 0 ≤ R0 := g0.fr
  have G0 := hid g0
  have G1 := hid g1
  have ST1 := hid st1
  have ST0 := hid st0
  clear g0 g1 st1 st0
  go_enter Tryd.func49, Tryd.ntmps49
  go_wp2_with (go_at_call 58; refine (Tryd.bits_LeadingZeros64 _ _ (by omega) hy1).mono ?_; rintro e w1 ⟨rfl, rfl⟩; rw [hs.out])
  go_loop [15, 16] (fun a b => ∃ q r : Int, a = .int .u64 q ∧ b = .int .u64 r ∧ Hid (Gs U un1 Y yn1 yn0 D1 R1 q r)) (fun a _ => (intOf a - D1).toNat)
  case atStart => exact ⟨_, _, rfl, rfl, ST1⟩
  case round =>
    obtain ⟨q, r, rfl, rfl, G⟩ := hrel
    obtain ⟨p0, p1⟩ := G.out.prod
    have p2 := G.out.fr
    have p3 := G.out.fr'
    have p4 := G.out.fq
    have p5 := G.out.fq'
    by_cases c1 : 4294967296 ≤ q
    · have hD := G.out.big c1
      by_cases c2 : 4294967296 ≤ r + yn1
      · have E := G.out.broke hD c2
        clear ST1 G
        go_wp2
        go_loop [18, 16] (fun a b => ∃ q r : Int, a = .int .u64 q ∧ b = .int .u64 r ∧ Hid (Gs R1 un0 Y yn1 yn0 D0 R0 q r)) (fun a _ => (intOf a - D0).toNat)
        case atStart => exact ⟨_, _, rfl, rfl, ST0⟩
        case round =>
          clear p0 p1 p2 p3 p4 p5 c1 E ST0
          obtain ⟨q, r, rfl, rfl, G⟩ := hrel
          obtain ⟨p0, p1⟩ := G.out.prod
          have p2 := G.out.fr
          have p3 := G.out.fr'
          have p4 := G.out.fq
          have p5 := G.out.fq'
          by_cases c1 : 4294967296 ≤ q
          · have hD := G.out.big c1
            by_cases c2 : 4294967296 ≤ r + yn1
            · have E := G.out.broke hD c2
              clear G
              go_wp2
              go_ret2
              exact ⟨rfl, rfl⟩
            · have hn := hid (G.out.next hD (by omega))
              go_wp2
              refine ⟨⟨_, _, rfl, rfl, hn⟩, by simp [intOf]; omega⟩
          · by_cases c3 : 4294967296 * r + un0 < q * yn0
            · have hD := G.out.more c3
              by_cases c2 : 4294967296 ≤ r + yn1
              · have E := G.out.broke hD c2
                clear G
                go_wp2
                go_ret2
                exact ⟨rfl, rfl⟩
              · have hn := hid (G.out.next hD (by omega))
                go_wp2
                refine ⟨⟨_, _, rfl, rfl, hn⟩, by simp [intOf]; omega⟩
            · have E := G.out.done (by omega)
              have c3' : decide (4294967296 * r + un0 < q * yn0) = false := by simpa using c3
              have E' := E
              subst E'
              clear G E
              go_wp2
              go_ret2
              exact ⟨rfl, rfl⟩
      · have hn := hid (G.out.next hD (by omega))
        go_wp2
        refine ⟨⟨_, _, rfl, rfl, hn⟩, by simp [intOf]; omega⟩
    · by_cases c3 : 4294967296 * r + un1 < q * yn0
      · have hD := G.out.more c3
        by_cases c2 : 4294967296 ≤ r + yn1
        · have E := G.out.broke hD c2
          clear ST1 G
          go_wp2
          go_loop [18, 16] (fun a b => ∃ q r : Int, a = .int .u64 q ∧ b = .int .u64 r ∧ Hid (Gs R1 un0 Y yn1 yn0 D0 R0 q r)) (fun a _ => (intOf a - D0).toNat)
          case atStart => exact ⟨_, _, rfl, rfl, ST0⟩
          case round =>
            clear p0 p1 p2 p3 p4 p5 c1 E ST0
            obtain ⟨q, r, rfl, rfl, G⟩ := hrel
            obtain ⟨p0, p1⟩ := G.out.prod
            have p2 := G.out.fr
            have p3 := G.out.fr'
            have p4 := G.out.fq
            have p5 := G.out.fq'
            by_cases c1 : 4294967296 ≤ q
            · have hD := G.out.big c1
              by_cases c2 : 4294967296 ≤ r + yn1
              · have E := G.out.broke hD c2
                clear G
                go_wp2
                go_ret2
                exact ⟨rfl, rfl⟩
              · have hn := hid (G.out.next hD (by omega))
                go_wp2
                refine ⟨⟨_, _, rfl, rfl, hn⟩, by simp [intOf]; omega⟩
            · by_cases c3 : 4294967296 * r + un0 < q * yn0
              · have hD := G.out.more c3
                by_cases c2 : 4294967296 ≤ r + yn1
                · have E := G.out.broke hD c2
                  clear G
                  go_wp2
                  go_ret2
                  exact ⟨rfl, rfl⟩
                · have hn := hid (G.out.next hD (by omega))
                  go_wp2
                  refine ⟨⟨_, _, rfl, rfl, hn⟩, by simp [intOf]; omega⟩
              · have E := G.out.done (by omega)
                have c3' : decide (4294967296 * r + un0 < q * yn0) = false := by simpa using c3
                have E' := E
                subst E'
                clear G E
                go_wp2
                go_ret2
                exact ⟨rfl, rfl⟩
        · have hn := hid (G.out.next hD (by omega))
          go_wp2
          refine ⟨⟨_, _, rfl, rfl, hn⟩, by simp [intOf]; omega⟩
      · have E := G.out.done (by omega)
        have c3' : decide (4294967296 * r + un1 < q * yn0) = false := by simpa using c3
        subst E
        have E : True := trivial
        clear ST1 G
        go_wp2
        go_loop [18, 16] (fun a b => ∃ q r : Int, a = .int .u64 q ∧ b = .int .u64 r ∧ Hid (Gs R1 un0 Y yn1 yn0 D0 R0 q r)) (fun a _ => (intOf a - D0).toNat)
        case atStart => exact ⟨_, _, rfl, rfl, ST0⟩
        case round =>
          clear p0 p1 p2 p3 p4 p5 c1 E ST0
          obtain ⟨q, r, rfl, rfl, G⟩ := hrel
          obtain ⟨p0, p1⟩ := G.out.prod
          have p2 := G.out.fr
          have p3 := G.out.fr'
          have p4 := G.out.fq
          have p5 := G.out.fq'
          by_cases c1 : 4294967296 ≤ q
          · have hD := G.out.big c1
            by_cases c2 : 4294967296 ≤ r + yn1
            · have E := G.out.broke hD c2
              clear G
              go_wp2
              go_ret2
              exact ⟨rfl, rfl⟩
            · have hn := hid (G.out.next hD (by omega))
              go_wp2
              refine ⟨⟨_, _, rfl, rfl, hn⟩, by simp [intOf]; omega⟩
          · by_cases c3 : 4294967296 * r + un0 < q * yn0
            · have hD := G.out.more c3
              by_cases c2 : 4294967296 ≤ r + yn1
              · have E := G.out.broke hD c2
                clear G
                go_wp2
                go_ret2
                exact ⟨rfl, rfl⟩
              · have hn := hid (G.out.next hD (by omega))
                go_wp2
                refine ⟨⟨_, _, rfl, rfl, hn⟩, by simp [intOf]; omega⟩
            · have E := G.out.done (by omega)
              have c3' : decide (4294967296 * r + un0 < q * yn0) = false := by simpa using c3
              have E' := E
              subst E'
              clear G E
              go_wp2
              go_ret2
              exact ⟨rfl, rfl⟩

theorem mask32 (a : Nat) (ha : a < 18446744073709551616) : bits .and .u64 (a : Int) 4294967295 = ((a % 4294967296 : Nat) : Int) := by
  have h := bits_and_u64_nat a 4294967295 ha (by omega)
  have e : a &&& 4294967295 = a % 4294967296 := Nat.and_two_pow_sub_one_eq_mod a 32
  rw [e] at h
  exact h
theorem or_add (a b s : Nat) (hb : b < 2 ^ s) : a * 2 ^ s ||| b = a * 2 ^ s + b := by
  have := Nat.shiftLeft_add_eq_or_of_lt hb a
  rw [Nat.shiftLeft_eq] at this
  exact this.symm
/-- what the two digits make. -/
theorem two_digits {U L Y D1 R1 D0 R0 un1 un0 : Nat} (e1 : D1 * Y + R1 = U * 4294967296 + un1) (e0 : D0 * Y + R0 = R1 * 4294967296 + un0) (eL : un1 * 4294967296 + un0 = L) :
    (D1 * 4294967296 + D0) * Y + R0 = U * 18446744073709551616 + L := by
  have h : (D1 * 4294967296 + D0) * Y = D1 * Y * 4294967296 + D0 * Y := by grind
  have h1 : D1 * Y * 4294967296 + R1 * 4294967296 = U * 18446744073709551616 + un1 * 4294967296 := by
    rw [← Nat.add_mul, e1, Nat.add_mul, Nat.mul_assoc]
  rw [h, ← eL, Nat.add_assoc, e0, ← Nat.add_assoc, h1, Nat.add_assoc]
theorem unscale {Q Y R0 K y N : Nat} (hK : 0 < K) (hY : Y = y * K) (e : Q * Y + R0 = N * K) (hR : R0 < Y) : Q = N / y ∧ R0 / K = N % y := by
  subst hY
  have hd : R0 = (N - Q * y) * K := by
    rw [Nat.sub_mul]
    have : Q * (y * K) = Q * y * K := by rw [Nat.mul_assoc]
    omega
  have hle : Q * y ≤ N := by
    have h1 : Q * y * K ≤ N * K := by
      have : Q * (y * K) = Q * y * K := by rw [Nat.mul_assoc]
      omega
    exact Nat.le_of_mul_le_mul_right h1 hK
  have hlt : N - Q * y < y := by
    rw [hd] at hR
    exact Nat.lt_of_mul_lt_mul_right hR
  have e2 : R0 / K = N - Q * y := by rw [hd]; exact Nat.mul_div_cancel _ hK
  have e3 : N = (N - Q * y) + y * Q := by rw [Nat.mul_comm y Q]; omega
  have hy : 0 < y := by omega
  constructor
  · rw [e3, Nat.add_mul_div_left _ _ hy, Nat.div_eq_of_lt hlt]; omega
  · rw [e2]; conv => rhs; rw [e3]
    rw [Nat.add_mul_mod_self_left, Nat.mod_eq_of_lt hlt]
theorem div_spec (a b : Nat) (_hb : 0 < b) : a / b * b + a % b = a := by have := Nat.div_add_mod a b; rw [Nat.mul_comm] at this; exact this

def dq (h l y : Int) : Int := (h * 18446744073709551616 + l) / y
def dr (h l y : Int) : Int := (h * 18446744073709551616 + l) % y

theorem div64_high (h l y : Nat) (w : World) (hh : 0 < h) (hl1 : l < 18446744073709551616) (hy : h < y) (hy1 : y < 18446744073709551616) :
    Calls Tryd.prog 49 #[.int .u64 h, .int .u64 l, .int .u64 y] w fun e w' => e = .returned (.tuple #[.int .u64 (dq h l y), .int .u64 (dr h l y)]) ∧ w' = w := by
  obtain ⟨k1, k2, k3⟩ := Lib.bitLenAux_bounds 64 y hy1 (by omega)
  have k4 : Lib.bitLen y ≤ 64 := Lib.bitLen_le y 64 (Nat.le_refl _) hy1
  have k1 : 1 ≤ Lib.bitLen y := k1
  have k2 : 2 ^ (Lib.bitLen y - 1) ≤ y := k2
  have k3 : y < 2 ^ Lib.bitLen y := k3
  obtain ⟨s, hs⟩ : ∃ s, s = 64 - Lib.bitLen y := ⟨_, rfl⟩
  have hs63 : s ≤ 63 := by omega
  have hKpos : 0 < 2 ^ s := Nat.two_pow_pos s
  have hMpos : 0 < 2 ^ (64 - s) := Nat.two_pow_pos _
  have hMK : 2 ^ (64 - s) * 2 ^ s = 18446744073709551616 := by rw [← Nat.pow_add]; rw [show 64 - s + s = 64 by omega]
  have hYlt : y * 2 ^ s < 18446744073709551616 := by
    have : y * 2 ^ s < 2 ^ Lib.bitLen y * 2 ^ s := Nat.mul_lt_mul_of_pos_right k3 hKpos
    rw [← Nat.pow_add, show Lib.bitLen y + s = 64 by omega] at this
    exact this
  have hYge : 9223372036854775808 ≤ y * 2 ^ s := by
    have : 2 ^ (Lib.bitLen y - 1) * 2 ^ s ≤ y * 2 ^ s := Nat.mul_le_mul_right _ k2
    rw [← Nat.pow_add, show Lib.bitLen y - 1 + s = 63 by omega] at this
    exact this
  obtain ⟨K, hK⟩ : ∃ K, K = 2 ^ s := ⟨_, rfl⟩
  obtain ⟨M, hM⟩ : ∃ M, M = 2 ^ (64 - s) := ⟨_, rfl⟩
  have hb : l / M < K := by rw [Nat.div_lt_iff_lt_mul (by rw [hM]; exact hMpos)]; rw [hK, hM, Nat.mul_comm, hMK]; exact hl1
  have hhY : h * K < y * K := Nat.mul_lt_mul_of_pos_right hy (by rw [hK]; exact hKpos)
  rw [← hK] at hYlt hYge hKpos hMK
  rw [← hM] at hMK
  have hor := or_add h (l / M) s (by rw [← hK]; exact hb)
  rw [← hK] at hor
  have hUL : (h * K + l / M) * 18446744073709551616 + l * K % 18446744073709551616 = (h * 18446744073709551616 + l) * K := by
    have e1 : l * K / 18446744073709551616 = l / M := by rw [← hMK]; exact Nat.mul_div_mul_right _ _ hKpos
    have e2 := Nat.div_add_mod (l * K) 18446744073709551616
    rw [e1] at e2
    have : (h * 18446744073709551616 + l) * K = h * K * 18446744073709551616 + l * K := by grind
    rw [this]; omega
  have hUY : h * K + l / M < y * K := by
    have : (h + 1) * K ≤ y * K := Nat.mul_le_mul_right _ hy
    rw [Nat.add_mul] at this
    omega
  have g1 : Dig ((h * K + l / M : Nat) : Int) ((l * K % 18446744073709551616 / 4294967296 : Nat) : Int) ((y * K : Nat) : Int) ((y * K / 4294967296 : Nat) : Int) ((y * K % 4294967296 : Nat) : Int)
      (((((h * K + l / M) * 4294967296 + l * K % 18446744073709551616 / 4294967296) / (y * K)) : Nat) : Int) (((((h * K + l / M) * 4294967296 + l * K % 18446744073709551616 / 4294967296) % (y * K)) : Nat) : Int) := by
    have hd := div_spec ((h * K + l / M) * 4294967296 + l * K % 18446744073709551616 / 4294967296) (y * K) (by omega)
    have hm := Nat.mod_lt ((h * K + l / M) * 4294967296 + l * K % 18446744073709551616 / 4294967296) (show 0 < y * K by omega)
    refine ⟨by omega, by omega, by omega, by omega, by omega, by omega, by omega, by omega, by omega, ?_, by omega, by omega⟩
    rw [← Int.natCast_mul]; omega
  generalize hR1 : ((h * K + l / M) * 4294967296 + l * K % 18446744073709551616 / 4294967296) % (y * K) = R1 at g1
  generalize hD1 : ((h * K + l / M) * 4294967296 + l * K % 18446744073709551616 / 4294967296) / (y * K) = D1 at g1
  have g0 : Dig (R1 : Int) ((l * K % 18446744073709551616 % 4294967296 : Nat) : Int) ((y * K : Nat) : Int) ((y * K / 4294967296 : Nat) : Int) ((y * K % 4294967296 : Nat) : Int)
      ((((R1 * 4294967296 + l * K % 18446744073709551616 % 4294967296) / (y * K)) : Nat) : Int) ((((R1 * 4294967296 + l * K % 18446744073709551616 % 4294967296) % (y * K)) : Nat) : Int) := by
    have hd := div_spec (R1 * 4294967296 + l * K % 18446744073709551616 % 4294967296) (y * K) (by omega)
    have hm := Nat.mod_lt (R1 * 4294967296 + l * K % 18446744073709551616 % 4294967296) (show 0 < y * K by omega)
    have hr1 := g1.fr'
    refine ⟨by omega, by omega, by omega, by omega, by omega, by omega, hr1, by omega, by omega, ?_, by omega, by omega⟩
    rw [← Int.natCast_mul]; omega
  generalize hR0 : (R1 * 4294967296 + l * K % 18446744073709551616 % 4294967296) % (y * K) = R0 at g0
  generalize hD0 : (R1 * 4294967296 + l * K % 18446744073709551616 % 4294967296) / (y * K) = D0 at g0
  have e1 : D1 * (y * K) + R1 = (h * K + l / M) * 4294967296 + l * K % 18446744073709551616 / 4294967296 := by rw [← hD1, ← hR1]; exact div_spec _ _ (by omega)
  have e0 : D0 * (y * K) + R0 = R1 * 4294967296 + l * K % 18446744073709551616 % 4294967296 := by rw [← hD0, ← hR0]; exact div_spec _ _ (by omega)
  have et := two_digits e1 e0 (L := l * K % 18446744073709551616) (div_spec _ _ (by decide))
  rw [hUL] at et
  obtain ⟨eq, er⟩ := unscale hKpos rfl et (by have := g0.fr'; omega)
  have pK : (2 : Int) ^ s = (K : Int) := by rw [hK]; simp
  have pM : (2 : Int) ^ (64 - s) = (M : Int) := by rw [hM]; simp
  have hc := div64_core h l y ((y * K : Nat) : Int) ((y * K / 4294967296 : Nat) : Int) ((y * K % 4294967296 : Nat) : Int) ((h * K + l / M : Nat) : Int) ((l * K % 18446744073709551616 : Nat) : Int)
    ((l * K % 18446744073709551616 / 4294967296 : Nat) : Int) ((l * K % 18446744073709551616 % 4294967296 : Nat) : Int) D1 R1 D0 R0 w (by omega) (by omega) (by omega) (by omega) (by omega) s hs63
    (by show _ = _; rw [Int.toNat_natCast]; omega)
    (by rw [pK, ← Int.natCast_mul, IntKind.wrap_u64]; omega) (by omega) (mask32 _ hYlt)
    (by rw [pK, pM, ← Int.natCast_mul, IntKind.wrap_u64, ← Int.natCast_ediv, show ((h * K : Nat) : Int) % 18446744073709551616 = ((h * K : Nat) : Int) by omega, bits_or_u64_nat _ _ (by omega) (by omega), hor])
    (by rw [pK, ← Int.natCast_mul, IntKind.wrap_u64]; omega) (by omega) (mask32 _ (by omega)) g1 g0 (by omega)
  refine hc.mono ?_
  rintro e w' ⟨rfl, rfl⟩
  refine ⟨?_, rfl⟩
  have q1 : (D1 : Int) * 4294967296 + (D0 : Int) = dq h l y := by
    unfold dq
    have : ((D1 * 4294967296 + D0 : Nat) : Int) = (((h * 18446744073709551616 + l) / y : Nat) : Int) := by rw [eq]
    rw [Int.natCast_ediv] at this
    simpa using this
  have q2 : (R0 : Int) / 2 ^ s = dr h l y := by
    unfold dr
    have : ((R0 / K : Nat) : Int) = (((h * 18446744073709551616 + l) % y : Nat) : Int) := by rw [er]
    rw [Int.natCast_ediv, Int.natCast_emod] at this
    rw [pK]
    simpa using this
  rw [q1, q2]

/-- bits.Div64. -/
theorem div64_any (h l y : Int) (w : World) (hh : 0 ≤ h) (hl : 0 ≤ l) (hl1 : l ≤ 18446744073709551615) (hy : h < y) (hy1 : y ≤ 18446744073709551615) :
    Calls Tryd.prog 49 #[.int .u64 h, .int .u64 l, .int .u64 y] w fun e w' => e = .returned (.tuple #[.int .u64 (dq h l y), .int .u64 (dr h l y)]) ∧ ∃ k, w' = w.drewN k := by
  by_cases h0 : h = 0
  · subst h0
    refine (div64_low l y w hl hl1 (by omega) hy1).mono ?_
    rintro e w' ⟨rfl, k, rfl⟩
    exact ⟨by simp [dq, dr], k, rfl⟩
  · obtain ⟨h, rfl⟩ := Int.eq_ofNat_of_zero_le hh
    obtain ⟨l, rfl⟩ := Int.eq_ofNat_of_zero_le hl
    obtain ⟨y, rfl⟩ := Int.eq_ofNat_of_zero_le (show 0 ≤ y by omega)
    refine (div64_high h l y w (by omega) (by omega) (by omega) (by omega)).mono ?_
    rintro e w' ⟨rfl, rfl⟩
    exact ⟨rfl, 0, rfl⟩
end Go.Proofs.YtjgipjiopagkiaaDoor
namespace Go.Proofs.YtjgipjiopagkiaaDoor
open Go.RowKit Num
theorem ret_int {k : IntKind} {a b : Int} (h : a = b) : Ending.returned (.int k a) = .returned (.int k b) := by rw [h]
set_option maxHeartbeats 400000 in
theorem left_any (g : Nat) (m f s x : Int) (w : World) (h : Fld w g m f s) (hm : 0 < m) (hx : 0 ≤ x) :
    Calls Tryd.prog 45 #[.pointer (some ⟨g, 0, none⟩), .int .u64 x] w fun e w' => e = .returned (.int .u64 (x % m)) ∧ w' = w := by
  have c0 := h.cell0
  have h0 : (m == 0) = false := beq_eq_false_iff_ne.2 (by omega)
  have hr := md_lt x hm
  by_cases hl : x < m
  · have e : x % m = x := Int.emod_eq_of_lt hx hl
    rw [e]
    clear h hr
    go_enter Tryd.func45, Tryd.ntmps45
    go_wp2
    go_ret
    exact ⟨rfl, rfl⟩
  · clear h
    go_enter Tryd.func45, Tryd.ntmps45
    go_wp2
    go_ret
    exact ⟨rfl, rfl⟩
theorem mul_hi {a b m : Int} (ha : 0 ≤ a ∧ a < m) (hb : 0 ≤ b ∧ b < m) (hm : m ≤ 9223372036854775807) :
    0 ≤ a * b / 18446744073709551616 ∧ a * b / 18446744073709551616 < m ∧ 0 ≤ a * b % 18446744073709551616 ∧ a * b % 18446744073709551616 ≤ 18446744073709551615 := by
  have := mul_pp ha hb hm
  omega
set_option maxHeartbeats 800000 in
theorem mul_any (g : Nat) (m f s x y : Int) (w : World) (h : Fld w g m f s) (hm : Ok m f s) (hx : 0 ≤ x) (hy : 0 ≤ y) :
    Calls Tryd.prog 34 #[.pointer (some ⟨g, 0, none⟩), .int .u64 x, .int .u64 y] w fun e w' => e = .returned (.int .u64 (x * y % m)) ∧ ∃ k, w' = w.drewN k := by
  have H := hid h
  have c0 := h.cell0
  have h2 := hm.h2
  have h63 := hm.h63
  have a := md_lt x (show 0 < m by omega)
  have b := md_lt y (show 0 < m by omega)
  have E := hid (md_times x y m)
  have B := hid (mul_hi a b h63)
  clear h
  go_enter Tryd.func34, Tryd.ntmps34
  go_wp2_with fail
  refine (left_any g m f s x w H.out (by omega) hx).mono ?_
  rintro e w' ⟨rfl, rfl⟩
  go_wp2_with fail
  refine (left_any g m f s y _ H.out (by omega) hy).mono ?_
  rintro e w' ⟨rfl, rfl⟩
  generalize x % m = u at *
  generalize y % m = v at *
  go_wp2_with fail
  refine (Tryd.bits_Mul64 u v (by omega) (by omega) (by omega) (by omega) _).mono ?_
  rintro e w' ⟨rfl, rfl⟩
  obtain ⟨b1, b2, b3, b4⟩ := B.out
  have D := div64_any (u * v / 18446744073709551616) (u * v % 18446744073709551616) m w' b1 b3 b4 b2 (by omega)
  have e3 : dr (u * v / 18446744073709551616) (u * v % 18446744073709551616) m = u * v % m := by
    unfold dr
    congr 1
    have := Int.emod_add_mul_ediv (u * v) 18446744073709551616
    omega
  rw [e3] at D
  have DD := hid D
  clear e3 D
  generalize u * v / 18446744073709551616 = hi at *
  generalize u * v % 18446744073709551616 = lo at *
  go_wp2_with fail
  refine DD.out.mono ?_
  rintro e w2 ⟨rfl, k, rfl⟩
  go_wp2
  go_ret
  exact ⟨ret_int E.out, k, rfl⟩
end Go.Proofs.YtjgipjiopagkiaaDoor
namespace Go.Proofs.YtjgipjiopagkiaaDoor
open Go.RowKit Num
set_option maxHeartbeats 800000 in
theorem inverseWord_any (m : Int) (w : World) (hm : 2 ≤ m) (hm' : m ≤ 9223372036854775807) (ho : m % 2 = 1) :
    Calls Tryd.prog 56 #[.int .u64 m] w fun e w' => (∃ y, e = .returned (.int .u64 y) ∧ 0 ≤ y ∧ y ≤ 18446744073709551615 ∧ (18446744073709551616 : Int) ∣ 1 - m * y) ∧ w' = w := by
  have S := hid (nk_start ho)
  go_enter Tryd.func56, Tryd.ntmps56
  go_wp2
  go_loop [3, 5] (fun yv iv => ∃ (y : Int) (i : Nat), yv = .int .u64 y ∧ iv = .int .i64 i ∧ i ≤ 5 ∧ 0 ≤ y ∧ y ≤ 18446744073709551615 ∧ Hid (nk i ∣ 1 - m * y)) (fun _ iv => (5 - intOf iv).toNat)
  case atStart => exact ⟨m, 0, rfl, rfl, by omega, by omega, by omega, S⟩
  case round =>
    obtain ⟨y, i, rfl, rfl, hi, hy, hy', E⟩ := hrel
    clear S
    by_cases h5 : i = 5
    · subst h5
      go_wp2
      go_ret
      exact ⟨⟨y, rfl, hy, hy', E.out⟩, rfl⟩
    · have hi' : (i : Int) < 5 := by omega
      obtain ⟨z, hz⟩ : ∃ z, IntKind.u64.wrap (y * IntKind.u64.wrap (2 - IntKind.u64.wrap (m * y))) = z := ⟨_, rfl⟩
      have hz' : z % 18446744073709551616 = y * (2 - m * y) % 18446744073709551616 := by
        rw [← hz]
        simp only [IntKind.wrap_u64]
        rw [Int.emod_emod, md_right]
        rw [Int.mul_emod, Int.sub_emod, Int.emod_emod, ← Int.sub_emod, ← Int.mul_emod]
      have N := hid (newton_nk (by omega) E.out hz')
      have b1 : 0 ≤ z := by rw [← hz, IntKind.wrap_u64]; omega
      have b2 : z ≤ 18446744073709551615 := by rw [← hz, IntKind.wrap_u64]; omega
      clear E hz'
      go_wp2
      exact ⟨⟨z, i + 1, by rw [← hz], rfl, by omega, b1, b2, N⟩, by simp only [intOf]; omega⟩
set_option maxHeartbeats 800000 in
theorem square_any (m : Int) (w : World) (hm : 2 ≤ m) (hm' : m ≤ 9223372036854775807) :
    Calls Tryd.prog 57 #[.int .u64 m] w fun e w' => e = .returned (.int .u64 (18446744073709551616 * 18446744073709551616 % m)) ∧ ∃ k, w' = w.drewN k := by
  have a := md_lt 18446744073709551616 (show 0 < m by omega)
  have e1 : dr 1 0 m = 18446744073709551616 % m := by unfold dr; rfl
  have e2 : dr (18446744073709551616 % m) 0 m = 18446744073709551616 * 18446744073709551616 % m := by
    unfold dr; rw [Int.add_zero, md_left]
  have D1 : Hid (∀ w : World, Calls Tryd.prog 49 #[.int .u64 1, .int .u64 0, .int .u64 m] w fun e w' => e = .returned (.tuple #[.int .u64 (dq 1 0 m), .int .u64 (18446744073709551616 % m)]) ∧ ∃ k, w' = w.drewN k) := fun w => by
    have := div64_any 1 0 m w (by decide) (by decide) (by decide) (by omega) (by omega)
    rw [e1] at this
    exact this
  have D2 : Hid (∀ w : World, Calls Tryd.prog 49 #[.int .u64 (18446744073709551616 % m), .int .u64 0, .int .u64 m] w fun e w' => e = .returned (.tuple #[.int .u64 (dq (18446744073709551616 % m) 0 m), .int .u64 (18446744073709551616 * 18446744073709551616 % m)]) ∧ ∃ k, w' = w.drewN k) := fun w => by
    have := div64_any (18446744073709551616 % m) 0 m w a.1 (by decide) (by decide) a.2 (by omega)
    rw [e2] at this
    exact this
  obtain ⟨T, hT⟩ : ∃ T, T = 18446744073709551616 * 18446744073709551616 % m := ⟨_, rfl⟩
  rw [← hT] at D2
  rw [← hT]
  clear e1 e2 hT
  generalize 18446744073709551616 % m = u at *
  go_enter Tryd.func57, Tryd.ntmps57
  go_wp2_with fail
  refine (D1.out _).mono ?_
  rintro e w2 ⟨rfl, k, rfl⟩
  go_wp2_with fail
  refine (D2.out _).mono ?_
  rintro e w2 ⟨rfl, k2, rfl⟩
  go_wp2
  go_ret
  exact ⟨rfl, k + k2, by simp⟩
set_option maxHeartbeats 400000 in
theorem formError_any (g : Nat) (m f s : Int) (w : World) (h : Fld w g m f s) (hm : 0 ≤ m) :
    Calls Tryd.prog 55 #[.pointer (some ⟨g, 0, none⟩)] w fun e w' => e = .returned (.int .i64 (if m % 2 = 0 then 1 else 0)) ∧ w' = w := by
  have c0 := h.cell0
  clear h
  by_cases h2 : m % 2 = 0
  · rw [if_pos h2]
    go_enter Tryd.func55, Tryd.ntmps55
    go_wp2
    go_ret
    exact ⟨rfl, rfl⟩
  · rw [if_neg h2]
    have h2' : (m % 2 == 0) = false := beq_eq_false_iff_ne.2 h2
    go_enter Tryd.func55, Tryd.ntmps55
    go_wp2
    go_ret
    exact ⟨rfl, rfl⟩
end Go.Proofs.YtjgipjiopagkiaaDoor
namespace Go.Proofs.YtjgipjiopagkiaaDoor
open Go.RowKit Num
set_option maxHeartbeats 800000 in
theorem euclid_any (m x : Int) (w : World) (hx : 0 < x) (hm : x < m) (hm' : m ≤ 9223372036854775807) :
    Calls Tryd.prog 59 #[.int .u64 m, .int .u64 x] w fun e w' => (∃ t : Int, e = .returned (.tuple #[.int .u64 (Nat.gcd m.toNat x.toNat : Nat), .int .i64 t]) ∧ m ∣ t * x - (Nat.gcd m.toNat x.toNat : Nat) ∧ -m ≤ t ∧ t ≤ m) ∧ w' = w := by
  obtain ⟨G, hG⟩ : ∃ G, Nat.gcd m.toNat x.toNat = G := ⟨_, rfl⟩
  have S0 := Euc.start hx hm
  rw [hG] at S0
  have S := hid S0
  rw [hG]
  clear hG S0
  go_enter Tryd.func59, Tryd.ntmps59
  go_wp2
  go_loop [6, 7, 8, 9] (fun lv nv lt nt => ∃ (l n a b : Int), lv = .int .u64 l ∧ nv = .int .u64 n ∧ lt = .int .i64 a ∧ nt = .int .i64 b ∧ Hid (Euc m x l n a b G)) (fun _ nv _ _ => (intOf nv).toNat)
  case atStart => exact ⟨m, x, 0, 1, rfl, rfl, rfl, rfl, S⟩
  case round =>
    obtain ⟨l, n, a, b, rfl, rfl, rfl, rfl, E⟩ := hrel
    clear S
    by_cases h0 : n = 0
    · subst h0
      obtain ⟨rfl, hd⟩ := E.out.done
      obtain ⟨b1, b2, b3, b4⟩ := E.out.bds
      have D := hid hd
      clear hd E
      go_wp2
      go_ret2
      exact ⟨⟨a, rfl, D.out, b1, b2⟩, rfl⟩
    · have h0' : (n != 0) = true := by simp [h0]
      have h0'' : (n == 0) = false := beq_eq_false_iff_ne.2 h0
      obtain ⟨N, c1, c2, c3, c4, c5, c6, c7, c8, c9⟩ := E.out.step h0
      have NN := hid N
      have e1 := E.out.hl
      have e2 := E.out.hn
      have e3 := E.out.hlm
      have hr := md_lt l (show 0 < n by omega)
      rw [← c1] at hr
      clear N E c1
      have hq : 0 ≤ l / n := c4
      generalize hqe : l / n = q at *
      go_wp2
      exact ⟨⟨n, l - q * n, b, a - q * b, rfl, rfl, rfl, rfl, NN⟩, by simp only [intOf]; omega⟩
/-- why x has no inverse modulo m. -/
def ec (x m : Int) : Int := if x % m = 0 then 10 else if gc x m = 1 then 0 else 11
/-- what Inv answers. -/
structure Iv (m x y : Int) : Prop where
  bad : ec x m ≠ 0 → y = 0
  good : ec x m = 0 → 0 ≤ y ∧ y < m ∧ x * y % m = 1
theorem ec_pos (x : Int) {m : Int} (hm : 2 ≤ m) (h : gc x m = 1) : ec x m = 0 := by
  unfold ec
  rw [if_neg, if_pos h]
  intro h0
  unfold gc at h
  rw [h0] at h
  simp at h
  omega
theorem ec_zero {x m : Int} (h : ec x m = 0) : gc x m = 1 := by
  unfold ec at h
  split at h
  · exact absurd h (by decide)
  · split at h
    · assumption
    · exact absurd h (by decide)
set_option maxHeartbeats 800000 in
theorem inv_any (g : Nat) (m f s x : Int) (w : World) (h : Fld w g m f s) (hm : Ok m f s) (hx : 0 ≤ x) :
    Calls Tryd.prog 50 #[.pointer (some ⟨g, 0, none⟩), .int .u64 x] w fun e w' => (∃ y, e = .returned (.tuple #[.int .u64 y, .int .i64 (ec x m)]) ∧ Iv m x y) ∧ w' = w := by
  have H := hid h
  have c0 := h.cell0
  have h2 := hm.h2
  have h63 := hm.h63
  have a := md_lt x (show 0 < m by omega)
  have L := hid (left_any g m f s x w h (by omega) hx)
  have I : ∀ y, x % m * y % m = 1 → x * y % m = 1 := fun y hy => by rw [md_left] at hy; exact hy
  have II := hid I
  clear h hm I
  by_cases h1 : x % m = 0
  · have e1 : ec x m = 10 := by unfold ec; rw [if_pos h1]
    have e2 : Hid (Iv m x 0) := ⟨fun _ => rfl, fun h => absurd h (by rw [e1]; decide)⟩
    rw [e1]
    have h1' : (x % m == 0) = true := by simpa using h1
    generalize x % m = u at *
    clear e1 II h1
    go_enter Tryd.func50, Tryd.ntmps50
    go_wp2_with fail
    refine L.out.mono ?_
    rintro e w2 ⟨rfl, rfl⟩
    go_wp2
    go_ret2
    exact ⟨⟨0, rfl, e2.out⟩, rfl⟩
  · have h1' : (x % m == 0) = false := beq_eq_false_iff_ne.2 h1
    have EU := hid (euclid_any m (x % m) w (by omega) a.2 h63)
    have eg : Nat.gcd m.toNat (x % m).toNat = gc x m := rfl
    rw [eg] at EU
    by_cases h3 : gc x m = 1
    · have e1 : ec x m = 0 := ec_pos x h2 h3
      have e2 : Hid (∀ y, 0 ≤ y ∧ y < m ∧ x % m * y % m = 1 → Iv m x y) := fun y hy => ⟨fun h => absurd e1 h, fun _ => ⟨hy.1, hy.2.1, II.out y hy.2.2⟩⟩
      rw [e1]
      rw [h3] at EU
      clear eg h3 e1 II
      generalize x % m = u at *
      go_enter Tryd.func50, Tryd.ntmps50
      go_wp2_with fail
      refine L.out.mono ?_
      rintro e w2 ⟨rfl, rfl⟩
      go_wp2_with fail
      refine EU.out.mono ?_
      rintro e w2 ⟨⟨t, rfl, hd, t1, t2⟩, rfl⟩
      have D := hid hd
      clear hd EU L
      by_cases ht : t < 0
      · obtain ⟨i1, i2, i3⟩ := inv_neg h2 D.out t1 ht
        have i3' := hid i3
        clear i3
        go_wp2
        go_ret2
        exact ⟨⟨t + m, rfl, e2.out _ ⟨i1, i2, i3'.out⟩⟩, rfl⟩
      · obtain ⟨i1, i2, i3⟩ := inv_pos h2 D.out (by omega) t2
        have i3' := hid i3
        clear i3
        go_wp2
        go_ret2
        exact ⟨⟨t, rfl, e2.out _ ⟨i1, i2, i3'.out⟩⟩, rfl⟩
    · have e1 : ec x m = 11 := by unfold ec; rw [if_neg h1, if_neg h3]
      have e2 : Hid (Iv m x 0) := ⟨fun _ => rfl, fun h => absurd h (by rw [e1]; decide)⟩
      have hpos : 1 < (gc x m : Int) := by
        have : 0 < gc x m := Nat.gcd_pos_of_pos_left _ (by omega)
        omega
      rw [e1]
      clear eg h3 e1 II
      generalize (gc x m : Int) = G at *
      generalize x % m = u at *
      go_enter Tryd.func50, Tryd.ntmps50
      go_wp2_with fail
      refine L.out.mono ?_
      rintro e w2 ⟨rfl, rfl⟩
      go_wp2_with fail
      refine EU.out.mono ?_
      rintro e w2 ⟨⟨t, rfl, hd, t1, t2⟩, rfl⟩
      clear hd EU L
      go_wp2
      go_ret2
      exact ⟨⟨0, rfl, e2.out⟩, rfl⟩
end Go.Proofs.YtjgipjiopagkiaaDoor
namespace Go.Proofs.YtjgipjiopagkiaaDoor
open Go.RowKit Num
set_option maxHeartbeats 400000 in
theorem of_any (g : Nat) (m f s x : Int) (w : World) (h : Fld w g m f s) (hm : 0 < m) (hx : 0 ≤ x) :
    Calls Tryd.prog 26 #[.pointer (some ⟨g, 0, none⟩), .int .u64 x] w fun e w' => e = .returned (.int .u64 (x % m)) ∧ w' = w := by
  have H := hid h
  clear h
  go_enter Tryd.func26, Tryd.ntmps26
  go_wp2_with fail
  refine (left_any g m f s x w H.out hm hx).mono ?_
  rintro e w' ⟨rfl, rfl⟩
  go_wp2
  go_ret
  exact ⟨rfl, rfl⟩
end Go.Proofs.YtjgipjiopagkiaaDoor
namespace Go.Proofs.YtjgipjiopagkiaaDoor
open Go.RowKit Num
set_option maxHeartbeats 800000 in
theorem add_any (g : Nat) (m f s x y : Int) (w : World) (h : Fld w g m f s) (hm : Ok m f s) (hx : 0 ≤ x) (hy : 0 ≤ y) :
    Calls Tryd.prog 46 #[.pointer (some ⟨g, 0, none⟩), .int .u64 x, .int .u64 y] w fun e w' => e = .returned (.int .u64 ((x + y) % m)) ∧ w' = w := by
  have H := hid h
  have c0 := h.cell0
  have h2 := hm.h2
  have h63 := hm.h63
  have E : Hid ((x + y) % m = if m ≤ x % m + y % m then x % m + y % m - m else x % m + y % m) := by
    show _ = _
    have a := md_lt x (show 0 < m by omega)
    have b := md_lt y (show 0 < m by omega)
    rw [Int.add_emod]
    generalize x % m = u at *
    generalize y % m = v at *
    split
    · rw [← Int.sub_emod_right]; exact Int.emod_eq_of_lt (by omega) (by omega)
    · exact Int.emod_eq_of_lt (by omega) (by omega)
  have a := md_lt x (show 0 < m by omega)
  have b := md_lt y (show 0 < m by omega)
  clear h
  go_enter Tryd.func46, Tryd.ntmps46
  go_wp2_with fail
  refine (left_any g m f s x w H.out (by omega) hx).mono ?_
  rintro e w' ⟨rfl, rfl⟩
  go_wp2_with fail
  refine (left_any g m f s y _ H.out (by omega) hy).mono ?_
  rintro e w' ⟨rfl, rfl⟩
  generalize x % m = u at *
  generalize y % m = v at *
  by_cases hc : m ≤ u + v
  · go_wp2
    go_ret
    exact ⟨ret_int (by rw [E.out, if_pos hc]), rfl⟩
  · go_wp2
    go_ret
    exact ⟨ret_int (by rw [E.out, if_neg (by omega)]), rfl⟩
set_option maxHeartbeats 800000 in
theorem sub_any (g : Nat) (m f s x y : Int) (w : World) (h : Fld w g m f s) (hm : Ok m f s) (hx : 0 ≤ x) (hy : 0 ≤ y) :
    Calls Tryd.prog 47 #[.pointer (some ⟨g, 0, none⟩), .int .u64 x, .int .u64 y] w fun e w' => e = .returned (.int .u64 ((x - y) % m)) ∧ w' = w := by
  have H := hid h
  have c0 := h.cell0
  have h2 := hm.h2
  have h63 := hm.h63
  have E : Hid ((x - y) % m = if x % m < y % m then x % m + m - y % m else x % m - y % m) := by
    show _ = _
    have a := md_lt x (show 0 < m by omega)
    have b := md_lt y (show 0 < m by omega)
    rw [Int.sub_emod]
    generalize x % m = u at *
    generalize y % m = v at *
    split
    · rw [← Int.add_emod_right, show u - v + m = u + m - v by omega]; exact Int.emod_eq_of_lt (by omega) (by omega)
    · exact Int.emod_eq_of_lt (by omega) (by omega)
  have a := md_lt x (show 0 < m by omega)
  have b := md_lt y (show 0 < m by omega)
  clear h
  go_enter Tryd.func47, Tryd.ntmps47
  go_wp2_with fail
  refine (left_any g m f s x w H.out (by omega) hx).mono ?_
  rintro e w' ⟨rfl, rfl⟩
  go_wp2_with fail
  refine (left_any g m f s y _ H.out (by omega) hy).mono ?_
  rintro e w' ⟨rfl, rfl⟩
  generalize x % m = u at *
  generalize y % m = v at *
  by_cases hc : u < v
  · go_wp2
    go_ret
    exact ⟨ret_int (by rw [E.out, if_pos hc]), rfl⟩
  · go_wp2
    go_ret
    exact ⟨ret_int (by rw [E.out, if_neg (by omega)]), rfl⟩
end Go.Proofs.YtjgipjiopagkiaaDoor
