/- "Mul" of the reference: plain facts, and rows of ints. -/
/- "Mul" of the reference. -/
/- "Of" of the reference: the digits of words; and what the law calls of, Is and few. -/
/- What the laws call of, Is and few. -/
/- "DivMod" of the reference: quotient and rest by decimal digits. -/
import Derived.Test.YtnaiahjgdakneaaGreatDoorRefe
import Derived.Deep.RegionHeld2
namespace Go.Proofs.YtnaiahjgdakneaaGreatDoor
open Go.RowKit Num
open Go.Lib (decDigits)

/-- the sum of places, each times its power of ten. -/
def SV (S : Nat → Nat) : Nat → Nat
  | 0 => 0
  | n + 1 => SV S n + S n * 10 ^ n
def updN (S : Nat → Nat) (i v : Nat) : Nat → Nat := fun j => if j = i then v else S j
theorem SV_zero : ∀ n, SV (fun _ => 0) n = 0
  | 0 => rfl
  | n + 1 => by simp [SV, SV_zero n]
theorem SV_updN_ge (S : Nat → Nat) (i v : Nat) : ∀ n, n ≤ i → SV (updN S i v) n = SV S n
  | 0, _ => rfl
  | n + 1, h => by
    rw [SV, SV, SV_updN_ge S i v n (by omega)]
    simp only [updN]
    rw [if_neg (by omega)]
theorem SV_updN (S : Nat → Nat) (i d : Nat) : ∀ n, i < n → SV (updN S i (S i + d)) n = SV S n + d * 10 ^ i
  | 0, h => by omega
  | n + 1, h => by
    by_cases e : i = n
    · subst e
      rw [SV, SV, SV_updN_ge S i _ i (Nat.le_refl _)]
      simp only [updN]
      rw [if_pos trivial, Nat.add_mul]
      omega
    · rw [SV, SV, SV_updN S i d n (by omega)]
      simp only [updN]
      rw [if_neg (by omega)]
      omega
def MuRel (x y : List UInt8) (N i k : Nat) (S : Nat → Nat) : Prop := SV S N = low x i * dval y + dg x i * 10 ^ i * low y k ∧ (∀ j, S j ≤ 81 * (i + 1)) ∧ (∀ j, i + k ≤ j → S j ≤ 81 * i)
def MoRel (x y : List UInt8) (N i : Nat) (S : Nat → Nat) : Prop := SV S N = low x i * dval y ∧ (∀ j, S j ≤ 81 * i)
theorem MoRel.start (x y : List UInt8) (N : Nat) : MoRel x y N 0 (fun _ => 0) := ⟨by rw [SV_zero]; simp [low, lv], fun _ => Nat.zero_le _⟩
theorem MoRel.inner {x y : List UInt8} {N i : Nat} {S : Nat → Nat} (h : MoRel x y N i S) : MuRel x y N i 0 S :=
  ⟨by rw [h.1]; simp [low, lv], fun j => by have := h.2 j; omega, fun j _ => h.2 j⟩
theorem MuRel.outer {x y : List UInt8} {N i : Nat} {S : Nat → Nat} (h : MuRel x y N i y.length S) : MoRel x y N (i + 1) S := by
  refine ⟨?_, h.2.1⟩
  rw [h.1, low_all y _ (Nat.le_refl _), low_succ, Nat.add_mul, Nat.mul_comm (10 ^ i)]
theorem MuRel.step {x y : List UInt8} {N i k : Nat} {S : Nat → Nat} (h : MuRel x y N i k S) (hx : dg x i ≤ 9) (hy : dg y k ≤ 9) (hN : i + k < N) : MuRel x y N i (k + 1) (updN S (i + k) (S (i + k) + dg x i * dg y k)) := by
  obtain ⟨h1, h2, h3⟩ := h
  have hm : dg x i * dg y k ≤ 9 * 9 := Nat.mul_le_mul hx hy
  refine ⟨?_, fun j => ?_, fun j hj => ?_⟩
  · rw [SV_updN S _ _ N hN, h1, low_succ, Nat.pow_add]
    generalize 10 ^ i = p
    generalize 10 ^ k = q
    generalize dg x i = a
    generalize dg y k = b
    generalize low y k = z
    grind
  · simp only [updN]
    split
    · have := h3 (i + k) (Nat.le_refl _); omega
    · exact h2 j
  · simp only [updN]
    rw [if_neg (by omega)]
    exact h3 j (by omega)
def CaRel (S : Nat → Nat) (i c : Nat) (L : List UInt8) : Prop := Digs L ∧ L.length = i ∧ lv L + 10 ^ i * c = SV S i
theorem CaRel.step {S : Nat → Nat} {i c : Nat} {L : List UInt8} (h : CaRel S i c L) : CaRel S (i + 1) ((S i + c) / 10) (L ++ [UInt8.ofNat (48 + (S i + c) % 10)]) := by
  obtain ⟨h1, h2, h3⟩ := h
  refine ⟨digs_snoc h1 (by omega), by simp [h2], ?_⟩
  rw [lv_snoc, dig_nat (by omega), h2, SV, Nat.pow_succ, Nat.add_sub_cancel_left]
  generalize 10 ^ i = p at *
  obtain ⟨n, hn⟩ : ∃ n, n = S i + c := ⟨_, rfl⟩
  rw [← hn]
  have e1 : p * (n % 10) + p * 10 * (n / 10) = p * n := by
    have : p * n = p * (10 * (n / 10) + n % 10) := by rw [Nat.div_add_mod]
    rw [this]; grind
  have e2 : p * n = S i * p + p * c := by rw [hn]; grind
  omega
theorem CaRel.done {x y : List UInt8} {S : Nat → Nat} {c : Nat} {L : List UInt8} (hx : Digs x) (hy : Digs y) (h : CaRel S (x.length + y.length + 1) c L) (hS : SV S (x.length + y.length + 1) = dval x * dval y) : lv L = dval x * dval y := by
  obtain ⟨h1, h2, h3⟩ := h
  rw [hS] at h3
  have bx := dval_lt x hx
  have bz := dval_lt y hy
  have hb : dval x * dval y < 10 ^ (x.length + y.length + 1) := by
    rw [Nat.pow_succ, Nat.pow_add]
    have h4 : dval x * dval y ≤ 10 ^ x.length * 10 ^ y.length := Nat.mul_le_mul (by omega) (by omega)
    have h5 : 0 < 10 ^ x.length * 10 ^ y.length := Nat.mul_pos (Nat.pow_pos (by decide)) (Nat.pow_pos (by decide))
    omega
  generalize 10 ^ (x.length + y.length + 1) = p at *
  by_cases hc : c = 0
  · subst hc; omega
  · have : p * 1 ≤ p * c := Nat.mul_le_mul_left _ (by omega)
    omega

/-- block g holds n ints. -/
def RowI (w : World) (g n : Nat) (S : Nat → Nat) : Prop :=
  ∃ cur : Array Value, w.heap[g]? = some (.cells cur 3 (0, 0)) ∧ cur.size = n ∧ ∀ j, j < n → cur[j]? = some (.int .i64 (S j : Int))
theorem RowI.lt {w : World} {g n : Nat} {S : Nat → Nat} (h : RowI w g n S) : g < w.heap.size := by
  obtain ⟨cur, hg, _⟩ := h
  exact (Array.getElem?_eq_some_iff.1 hg).1
theorem RowI.cell {w : World} {g n : Nat} {S : Nat → Nat} (h : RowI w g n S) {i : Nat} (hi : i < n) : w.cell? ⟨g, i, none⟩ = some (.int .i64 (S i : Int)) := by
  obtain ⟨cur, hg, _, hc⟩ := h
  simp [World.cell?, hg, hc i hi]
theorem RowI.frozen {w : World} {g n : Nat} {S : Nat → Nat} (h : RowI w g n S) (i : Nat) : w.frozen? ⟨g, i, none⟩ = false := by
  obtain ⟨cur, hg, _, hc⟩ := h
  simp [World.frozen?, hg]
theorem RowI.set {w : World} {g n : Nat} {S : Nat → Nat} (h : RowI w g n S) (i v : Nat) : RowI (w.setCell ⟨g, i, none⟩ (.int .i64 (v : Int))) g n (updN S i v) := by
  obtain ⟨cur, hg, hs, hc⟩ := h
  refine ⟨cur.setIfInBounds i (.int .i64 (v : Int)), ?_, by simpa using hs, fun j hj => ?_⟩
  · rw [heap_setCell_same w g i cur 3 _ hg]
  · by_cases e : j = i
    · subst e; rw [Array.getElem?_setIfInBounds]; simp [hs, hj, updN]
    · rw [Array.getElem?_setIfInBounds]; simp [Ne.symm e, updN, e, hc j hj]
theorem RowI.below {B k n : Nat} {S : Nat → Nat} {w w' : World} (h : Below B w w') (hk : k < B) (r : RowI w k n S) : RowI w' k n S := by
  obtain ⟨cur, hg, hs, hc⟩ := r
  exact ⟨cur, by rw [h.block k hk]; exact hg, hs, hc⟩
end Go.Proofs.YtnaiahjgdakneaaGreatDoor
namespace Go.Proofs.YtnaiahjgdakneaaGreatDoor
open Go.RowKit Num
open Go.Lib (decDigits)
theorem Tryz.info3 : (Tryz.prog.info? 3).map (fun i => (i.zero, i.size, i.bytes)) = some (some (.int .i64 0), 1, 8) := by kernel_rfl
theorem RowI.new (w : World) (n : Nat) : RowI (w.alloc (.cells (madeCells #[.int .i64 0] (n * 1)) 3)) w.heap.size n (fun _ => 0) := by
  refine ⟨madeCells #[.int .i64 0] (n * 1), ?_, by simp [size_madeCells], fun j hj => ?_⟩
  · exact heap_alloc_new w _
  · simp [madeCells, hj, Nat.mod_one]
set_option maxHeartbeats 1600000 in
set_option maxRecDepth 100000 in
theorem rmul_any (x y : ByteArray) (w : World) (hx : x.size ≤ 100000) (hy : y.size ≤ 100000) (dx : Digs x.data.toList) (dy : Digs y.data.toList) :
    Calls Tryz.prog 75 #[.string x, .string y] w fun e w' => e = .returned (.string (dt (dval x.data.toList * dval y.data.toList))) ∧ Below w.heap.size w w' := by
  obtain ⟨i0, hi, hz0, hz1, hz2⟩ := info_parts Tryz.infoByte
  obtain ⟨j0, hj, hy0, hy1, hy2⟩ := info_parts Tryz.info3
  have DX := hid dx
  have DY := hid dy
  clear dx dy
  have hr := run_make (P := Tryz.prog) w 120 3 j0 (.int .i64 0) Tryz.underlying120 hj hy0 .i64 .i64 ((x.size + y.size + 1 : Nat) : Int) ((x.size + y.size + 1 : Nat) : Int) (by omega) (Int.le_refl _) (by rw [hy2]; omega) (by omega)
  simp only [Int.toNat_natCast] at hr
  rw [hy1] at hr
  simp only [Nat.mul_one] at hr
  have R0' := RowI.new w (x.size + y.size + 1)
  rw [Nat.mul_one] at R0'
  have R0 := hid R0'
  clear R0'
  have B0 : Hid (Below w.heap.size w (w.alloc (.cells (madeCells #[.int .i64 0] (x.size + y.size + 1)) 3))) := (Below.refl _ _).alloc (Nat.le_refl _) _
  have Z0 : (w.alloc (.cells (madeCells #[.int .i64 0] (x.size + y.size + 1)) 3)).heap.size = w.heap.size + 1 := by simp
  have HR := hid hr
  clear hr
  obtain ⟨N, hN⟩ : ∃ N, N = x.size + y.size + 1 := ⟨_, rfl⟩
  go_enter Tryz.func75, Tryz.ntmps75
  go_wp2_with fail
  rw [show ((x.size : Int) + y.size + 1) = ((x.size + y.size + 1 : Nat) : Int) by omega, HR.out, ← hN]
  clear HR
  generalize hg : w.heap.size = g at *
  go_wp2
  generalize w.alloc (.cells (madeCells #[.int .i64 0] (x.size + y.size + 1)) 3) = w0 at *
  have hgw : g < w0.heap.size := by omega
  go_loopw [6] (fun iv wr => ∃ (i : Nat) (S : Nat → Nat), iv = .int .i64 i ∧ i ≤ x.size ∧ Hid (MoRel x.data.toList y.data.toList N i S ∧ RowI wr g N S ∧ Only g w0 wr)) (fun iv _ => 500000 - (intOf iv).toNat)
  case atStart => exact ⟨0, _, rfl, by omega, ⟨MoRel.start _ _ _, by rw [hN]; exact R0.out, Only.refl _ _⟩⟩
  case round =>
    obtain ⟨i, S, rfl, hi2, hr⟩ := hrel
    by_cases hgo : i < x.size
    · have hgo' : (i : Int) < x.size := by omega
      go_wp2
      go_loopw [7] (fun kv wi => ∃ (k : Nat) (S : Nat → Nat), kv = .int .i64 k ∧ k ≤ y.size ∧ Hid (MuRel x.data.toList y.data.toList N i k S ∧ RowI wi g N S ∧ Only g w0 wi)) (fun kv _ => 500000 - (intOf kv).toNat)
      case atStart => exact ⟨0, S, rfl, by omega, ⟨hr.out.1.inner, hr.out.2.1, hr.out.2.2⟩⟩
      case round =>
        obtain ⟨k, S', rfl, hk, hs⟩ := hrel
        by_cases hgk : k < y.size
        · have hgk' : (k : Int) < y.size := by omega
          have a1 := dg_le x.data.toList DX.out i
          have a2 := dg_le y.data.toList DY.out k
          have D1 : Hid (∀ W, Calls Tryz.prog 74 #[.string x, .int .i64 i] W fun e w' => e = .returned (.int .i64 (dg x.data.toList i)) ∧ w' = W) := fun W => digit_any x i W (by omega) (by omega) DX.out
          have D2 : Hid (∀ W, Calls Tryz.prog 74 #[.string y, .int .i64 k] W fun e w' => e = .returned (.int .i64 (dg y.data.toList k)) ∧ w' = W) := fun W => digit_any y k W (by omega) (by omega) DY.out
          have ST := hid (hs.out.1.step a1 a2 (by omega))
          have hc := hs.out.2.1.cell (i := i + k) (by omega)
          have hf := hs.out.2.1.frozen (i + k)
          have hSb := hs.out.1.2.1 (i + k)
          have hmm : dg x.data.toList i * dg y.data.toList k ≤ 9 * 9 := Nat.mul_le_mul a1 a2
          have RS := hid (hs.out.2.1.set (i + k) (S' (i + k) + dg x.data.toList i * dg y.data.toList k))
          generalize dg x.data.toList i = d1 at *
          generalize dg y.data.toList k = d2 at *
          obtain ⟨m, hm⟩ : ∃ m, m = d1 * d2 := ⟨_, rfl⟩
          have hmi : (d1 : Int) * (d2 : Int) = (m : Int) := by rw [hm, Int.natCast_mul]
          rw [← hm] at hmm RS ST
          have HM := hid hm
          clear hm
          have b1 : (S' (i + k) : Int) ≤ 9000000 := by omega
          have b2 : (m : Int) ≤ 81 := by omega
          have q1 : (0 : Int) ≤ (i : Int) + k := by omega
          have q2 : (i : Int) + k < (x.size : Int) + y.size + 1 := by omega
          have q3 : (i : Int) + k ≤ 200000 := by omega
          have qn : ((i : Int) + k).toNat = i + k := by omega
          have qw : IntKind.i64.wrap ((i : Int) + (k : Int)) = (i : Int) + (k : Int) := by rw [IntKind.wrap_i64]; omega
          have qm : IntKind.i64.wrap ((d1 : Int) * (d2 : Int)) = (m : Int) := by rw [hmi, IntKind.wrap_i64]; omega
          have qm2 : IntKind.i64.wrap (m : Int) = (m : Int) := by rw [IntKind.wrap_i64]; omega
          have qs : IntKind.i64.wrap ((S' (i + k) : Int) + (m : Int)) = (S' (i + k) : Int) + (m : Int) := by rw [IntKind.wrap_i64]; omega
          have q4 : (i : Int) + k < N := by omega
          have HO := hid hs.out.2.2
          have hcb : (S' (i + k) : Int) ≥ 0 := by omega
          clear hs hSb hmm a1 a2
          go_wp2_with fail
          go_region_with (first
            | (go_at_call_of 74 (Value.string x); go_must (refine (D1.out _).mono ?_; rintro e w1 ⟨rfl, rfl⟩))
            | (go_at_call_of 74 (Value.string y); go_must (refine (D2.out _).mono ?_; rintro e w1 ⟨rfl, rfl⟩)))
          all_goals
            go_wp2
            refine ⟨⟨k + 1, _, rfl, by omega, ⟨ST.out, ?_, ?_⟩⟩, by simp only [intOf]; omega⟩
            · have := RS.out
              rw [Int.natCast_add] at this
              exact this
            · have := HO.out.set (i + k) (.int .i64 ((S' (i + k) : Int) + (m : Int)))
              exact ⟨this.os, this.tape, this.output, this.size, this.block⟩
        · have hgk' : ¬ (k : Int) < y.size := by omega
          obtain rfl : k = y.size := by omega
          have hm : Hid (MoRel x.data.toList y.data.toList N (i + 1) S') := hs.out.1.outer
          go_wp2
          exact ⟨⟨i + 1, S', rfl, by omega, ⟨hm.out, hs.out.2⟩⟩, by simp only [intOf]; omega⟩
    · have hgo' : ¬ (i : Int) < x.size := by omega
      obtain rfl : i = x.size := by omega
      have hb : ∀ j, S j ≤ 8100000 := fun j => by have := hr.out.1.2 j; omega
      have hv : SV S N = dval x.data.toList * dval y.data.toList := by
        have := hr.out.1.1
        rw [low_all x.data.toList x.size (Nat.le_refl _)] at this
        exact this
      have HV := hid (And.intro hb hv)
      clear hb hv
      go_wp2
      go_loopw [8, 9, 10] (fun out cv iv wi => ∃ (i c : Nat) (L : List UInt8), cv = .int .i64 c ∧ iv = .int .i64 i ∧ c ≤ 8100000 ∧ i ≤ N ∧ Hid (CaRel S i c L ∧ OwB wi (g + 1) out L ∧ RowI wi g N S ∧ Below g w wi) ∧ g + 1 ≤ wi.heap.size) (fun _ _ iv _ => 500000 - (intOf iv).toNat)
      case atStart => exact ⟨0, 0, [], rfl, rfl, by omega, by omega, ⟨⟨(fun c hc => by simp at hc), rfl, by simp [lv, SV]⟩, World.ownsRow_nil _ _ _ _, hr.out.2.1, B0.out.trans (hr.out.2.2.below (Nat.le_refl _))⟩, by have := hr.out.2.2.size; omega⟩
      case round =>
        obtain ⟨i, c, L, rfl, rfl, hc, hi3, hq, hsz⟩ := hrel
        by_cases hgo2 : i < N
        · have hgo2' : (i : Int) < N := by omega
          have hcell := hq.out.2.2.1.cell hgo2
          have hSb := HV.out.1 i
          have ST := hid hq.out.1.step
          have OWN := hid hq.out.2.1
          have hL : L.length ≤ 400001 := by rw [hq.out.1.2.1]; omega
          have HN := hid (dig_nat (d := (S i + c) % 10) (by omega))
          have b1 : (S i : Int) ≤ 8100000 := by omega
          go_wp2_with (at_builtin; refine wpList_append_own _ rfl (.tmp 62) (.tmp 67) 62 rfl (g + 1) 5 i0 (.int .u8 0) 1 1 Tryz.underlying62 hi hz0 hz1 hz2 rfl (by decide) _ L.length (Lib.byteCells L) rfl (OWN.out.alloc _) ⟨wr.heap.size, 0, none⟩ 1 1 [.int .u8 (48 + ((S i : Int) + (c : Int)) % 10)] rfl rfl (cell_one_new _ _ _) (by intro u hu; simp at hu; subst hu; rfl) (by unfold maxLen; omega) (by omega) (by simp; omega) ?_; intro v' w3 own3 grow3 _)
          have ez : (48 + ((S i : Int) + (c : Int)) % 10) = ((UInt8.ofNat (48 + (S i + c) % 10)).toNat : Int) := by rw [HN.out]; omega
          rw [ez] at own3
          have hp := OwB.push OWN.out hsz rfl own3 grow3
          exact ⟨⟨i + 1, (S i + c) / 10, _, by congr 1, by congr 1, by omega, by omega, ⟨ST.out, hp.1, RowI.below hp.2.1 (by omega) hq.out.2.2.1, hq.out.2.2.2.trans (hp.2.1.mono (by omega))⟩, hp.2.2⟩, by simp only [intOf]; omega⟩
        · have hgo2' : ¬ (i : Int) < N := by omega
          obtain rfl : i = N := by omega
          have hv : lv L = dval x.data.toList * dval y.data.toList := by
            have h1 := hq.out.1
            have h2 := HV.out.2
            have l1 : x.data.toList.length = x.size := rfl
            have l2 : y.data.toList.length = y.size := rfl
            rw [hN, ← l1, ← l2] at h1 h2
            exact h1.done DX.out DY.out h2
          have HV2 := hid hv
          have HT := hid hq.out.2.1.bt
          have hL : L.length ≤ 400001 := by rw [hq.out.1.2.1]; omega
          clear hv
          go_wp2_with fail
          refine (turned_any _ L wr HT.out (by omega)).mono ?_
          rintro e w2 ⟨rfl, C2⟩
          go_wp2_with fail
          refine (strip_any _ w2 (by simp [ByteArray.size]; omega) (digs_rev hq.out.1.1)).mono ?_
          rintro e w3 ⟨rfl, rfl⟩
          rw [turn_strip, HV2.out]
          go_wp2
          go_ret
          exact ⟨rfl, by rw [hg]; exact hq.out.2.2.2.trans (C2.mono (by omega))⟩
end Go.Proofs.YtnaiahjgdakneaaGreatDoor
namespace Go.Proofs.YtnaiahjgdakneaaGreatDoor
open Go.RowKit Num
open Go.Lib (decDigits)
theorem len_of {u k : Nat} (h : (u : Int) < P k) : (decDigits u).length ≤ 20 * k + 1 := by
  have h2 := P_le_pow k
  have h3 : u < 10 ^ (20 * k + 1) := by
    rw [Nat.pow_succ]
    omega
  exact len_dec u _ (by omega) h3
theorem V_head (x : Nat → Int) (o n : Nat) : V x o (n + 1) = x o + 18446744073709551616 * V x (o + 1) n := by
  have h := V_split x o 1 n
  rw [Nat.add_comm n 1, h]
  simp [V, P]
def big64 : ByteArray := ⟨#[49, 56, 52, 52, 54, 55, 52, 52, 48, 55, 51, 55, 48, 57, 53, 53, 49, 54, 49, 54]⟩
theorem big64_val : dval big64.data.toList = 18446744073709551616 := by decide
theorem big64_digs : Digs big64.data.toList := by
  intro c hc
  have : (big64.data.toList.all fun c => decide (48 ≤ c.toNat ∧ c.toNat ≤ 57)) = true := by decide
  have := List.all_eq_true.1 this c hc
  simpa using this
theorem digs_dt (u : Nat) : Digs (dt u).data.toList := digs_dec u
theorem dval_dt (u : Nat) : dval (dt u).data.toList = u := dval_dec u
theorem dt0 : dt 0 = ⟨#[48]⟩ := by
  refine bytes_eq ?_
  rw [dt_list, dec_small (by decide)]; rfl
theorem mul_dt (u : Nat) (w : World) (h : (dt u).size ≤ 100000) :
    Calls Tryz.prog 75 #[.string (dt u), .string big64] w fun e w' => e = .returned (.string (dt (u * 18446744073709551616))) ∧ Below w.heap.size w w' := by
  have := rmul_any (dt u) big64 w h (by decide) (digs_dt u) big64_digs
  rwa [dval_dt, big64_val] at this
theorem add_dt (u v : Nat) (w : World) (h : (dt u).size ≤ 100000) (h2 : (dt v).size ≤ 100000) :
    Calls Tryz.prog 50 #[.string (dt u), .string (dt v)] w fun e w' => e = .returned (.string (dt (u + v))) ∧ Below w.heap.size w w' := by
  have := radd_any (dt u) (dt v) w (by omega) (by omega) (digs_dt u) (digs_dt v)
  rwa [dval_dt, dval_dt] at this

set_option maxHeartbeats 1600000 in
set_option maxRecDepth 100000 in
theorem rof_any (v : Value) (n : Nat) (x : Nat → Int) (o : Nat) (w : World) (h : Sl w v n x o) (hn : n ≤ 1000) :
    Calls Tryz.prog 53 #[v] w fun e w' => e = .returned (.string (dt (V x o n).toNat)) ∧ Below w.heap.size w w' := by
  obtain ⟨ao, cap, rfl, h1, h2, h3, h4, h5⟩ := h
  have HW := hid h3
  have HC := hid h5
  clear h3 h4 h5
  go_enter Tryz.func53, Tryz.ntmps53
  go_wp2
  go_loopw [3, 4] (fun ov iv wr => ∃ k u : Nat, k ≤ n ∧ ov = .string (dt u) ∧ iv = .int .i64 ((k : Int) - 1) ∧ Hid ((u : Int) = V x (o + k) (n - k) ∧ Below w.heap.size w wr)) (fun _ iv _ => (intOf iv + 1).toNat)
  case atStart => exact ⟨n, 0, Nat.le_refl _, by rw [dt0], rfl, ⟨by simp [V], Below.refl _ _⟩⟩
  case round =>
    obtain ⟨k, u, hk, rfl, rfl, hr⟩ := hrel
    by_cases h0 : k = 0
    · subst h0
      have hu : (V x o n).toNat = u := by have := hr.out.1; rw [Nat.add_zero, Nat.sub_zero] at this; omega
      have HU := hid hu
      clear hu
      go_wp2
      go_ret
      exact ⟨by rw [HU.out]; rfl, hr.out.2⟩
    · obtain ⟨j, rfl⟩ : ∃ j, k = j + 1 := ⟨k - 1, by omega⟩
      obtain ⟨b, off, rfl, hb, hc⟩ := HC.out (by omega)
      have hcj : wr.cell? ⟨b, off + j, none⟩ = some (.int .u64 (x (o + j))) := by rw [hr.out.2.cell (p := ⟨b, off + j, none⟩) hb]; exact hc j (by omega)
      obtain ⟨y0, y1⟩ := HW.out j (by omega)
      obtain ⟨d, hd⟩ : ∃ d : Nat, x (o + j) = d := ⟨(x (o + j)).toNat, by omega⟩
      rw [hd] at hcj y1
      have hV : V x (o + j) (n - j) = ((u * 18446744073709551616 + d : Nat) : Int) := by
        obtain ⟨m, hm⟩ : ∃ m, n - j = m + 1 := ⟨n - j - 1, by omega⟩
        have hu := hr.out.1
        rw [show n - (j + 1) = m by omega, ← Nat.add_assoc] at hu
        rw [hm, V_head, hd, ← hu]
        omega
      have hlt : (u : Int) < P (n - (j + 1)) := by
        rw [hr.out.1]
        exact (V_bd (n - (j + 1)) (fun i hi => by have := HW.out (j + 1 + i) (by omega); rwa [← Nat.add_assoc] at this)).2
      have hl1 := len_of hlt
      have hlt2 : ((u * 18446744073709551616 : Nat) : Int) < P (n - (j + 1) + 1) := by
        rw [P]
        have : P (n - (j + 1)) * 18446744073709551616 ≥ ((u : Int) + 1) * 18446744073709551616 := Int.mul_le_mul_of_nonneg_right (by omega) (by decide)
        omega
      have hl2 := len_of hlt2
      have hl3 := len_of (u := d) (k := 1) (by simp [P]; omega)
      rw [← dt_size] at hl1 hl2 hl3
      have HB := hid hr.out.2
      have HV := hid hV
      have L1 := hid hl1
      have L2 := hid hl2
      have L3 := hid hl3
      have j0 : (0 : Int) ≤ (j : Int) := by omega
      have j1 : (j : Int) < (n : Int) := by omega
      have j2 : ((j + 1 : Nat) : Int) - 1 = (j : Int) := by omega
      rw [j2]
      have hbw : b < wr.heap.size := Nat.lt_of_lt_of_le hb hr.out.2.size
      clear hV hlt hlt2 hl1 hl2 hl3 hr hd hc
      go_wp2_with fail
      go_region_held2 (fun W => W.cell? ⟨b, off + j, none⟩ = some (.int .u64 (d : Int))) (first | assumption | (simp [*]; done)) (first
        | (go_at_call 75; go_must (refine (mul_dt u _ (by have := L1.out; omega)).mono ?_; rintro e w1 ⟨rfl, C1⟩; have T1 : Below wr.heap.size wr w1 := (by first | exact C1 | exact ⟨C1.os, C1.tape, C1.output, C1.size, C1.block⟩); have c1 : w1.cell? ⟨b, off + j, none⟩ = some (.int .u64 (d : Int)) := (by rw [T1.cell (p := ⟨b, off + j, none⟩) hbw]; exact hcj)))
        | (go_at_call 14; go_must (refine (rword_any d _ (by omega)).mono ?_; rintro e w2 ⟨rfl, C2⟩; have T2 := T1.trans (C2.mono T1.size); have c2 : w2.cell? ⟨b, off + j, none⟩ = some (.int .u64 (d : Int)) := (by rw [T2.cell (p := ⟨b, off + j, none⟩) hbw]; exact hcj)))
        | (go_at_call 50; go_must (refine (add_dt _ _ _ (by have := L2.out; omega) (by have := L3.out; omega)).mono ?_; rintro e w3 ⟨rfl, C3⟩; have T3 := T2.trans (C3.mono T2.size); have c3 : w3.cell? ⟨b, off + j, none⟩ = some (.int .u64 (d : Int)) := (by rw [T3.cell (p := ⟨b, off + j, none⟩) hbw]; exact hcj))))
      all_goals
        go_wp2
        exact ⟨⟨j, u * 18446744073709551616 + d, by omega, rfl, rfl, ⟨HV.out.symm, HB.out.trans (T3.mono HB.out.size)⟩⟩, by simp only [intOf]; omega⟩
end Go.Proofs.YtnaiahjgdakneaaGreatDoor
namespace Go.Proofs.YtnaiahjgdakneaaGreatDoor
open Go.RowKit Num
open Go.Lib (decDigits)
theorem Nt.shape {w : World} {v : Value} {k : Nat} {a : Int} (h : Nt w v k a) : ∃ ao cap, v = .slice ao k cap := by
  obtain ⟨x, o, ⟨ao, cap, rfl, -⟩, -⟩ := h; exact ⟨ao, cap, rfl⟩
theorem Nz.shape {w : World} {v : Value} {k : Nat} {a : Int} (h : Nz w v k a) : ∃ ao cap, v = .slice ao k cap := by
  obtain ⟨x, o, ⟨ao, cap, rfl, -⟩, -⟩ := h; exact ⟨ao, cap, rfl⟩
theorem rof_nt (v : Value) (n : Nat) (a : Int) (w : World) (h : Nt w v n a) (hn : n ≤ 1000) :
    Calls Tryz.prog 53 #[v] w fun e w' => e = .returned (.string (dt a.toNat)) ∧ Below w.heap.size w w' := by
  obtain ⟨x, o, h1, rfl⟩ := h
  exact rof_any v n x o w h1 hn
end Go.Proofs.YtnaiahjgdakneaaGreatDoor
namespace Go.Proofs.YtnaiahjgdakneaaGreatDoor
open Go.RowKit Num
open Go.Lib (decDigits)
theorem own_below {base n : Nat} {e : TypeId} {v : Value} {xs : List Value} {w w' : World} (h : w.ownsRow base e 1 v n xs) (o : Below w.heap.size w w') : w'.ownsRow base e 1 v n xs := by
  refine ⟨h.1, ?_⟩
  rcases h.2 with h0 | ⟨g', cap, cur, rfl, hb, hg', h1, h2, h3, h4⟩
  · exact Or.inl h0
  · refine Or.inr ⟨g', cap, cur, rfl, hb, ?_, h1, h2, h3, h4⟩
    rw [o.block g' (Array.getElem?_eq_some_iff.1 hg').1]; exact hg'
def DvRel (x : List UInt8) (b i r : Nat) (L : List UInt8) : Prop := Digs L ∧ L.length = i ∧ dval (x.take i) = dval L * b + r
theorem DvRel.step {x : List UInt8} {b i r n s : Nat} {c : UInt8} {L : List UInt8} (h : DvRel x b i r L) (hi : x.take (i + 1) = x.take i ++ [c]) (hs : s + n * b = 10 * r + (c.toNat - 48)) (hn : n ≤ 9) : DvRel x b (i + 1) s (L ++ [UInt8.ofNat (48 + n)]) := by
  obtain ⟨h1, h2, h3⟩ := h
  refine ⟨digs_snoc h1 (by omega), by simp [h2], ?_⟩
  rw [hi, dval_snoc, h3, dval_snoc, dig_nat (by omega), Nat.add_sub_cancel_left]
  have e1 : 10 * (dval L * b + r) = 10 * dval L * b + 10 * r := by rw [Nat.mul_add, Nat.mul_assoc]
  have e2 : (10 * dval L + n) * b = 10 * dval L * b + n * b := Nat.add_mul _ _ _
  omega
theorem DvRel.done {x : List UInt8} {b r : Nat} {L : List UInt8} (h : DvRel x b x.length r L) (hr : r < b) : dval L = dval x / b ∧ r = dval x % b := by
  obtain ⟨_, _, h3⟩ := h
  rw [List.take_of_length_le (Nat.le_refl _)] at h3
  have hb : 0 < b := by omega
  rw [h3]
  constructor
  · rw [Nat.mul_comm, Nat.mul_add_div hb, Nat.div_eq_of_lt hr]; omega
  · rw [Nat.mul_comm, Nat.mul_add_mod, Nat.mod_eq_of_lt hr]
def nOf : Value → Nat
  | .string s => dval s.data.toList
  | _ => 0
theorem nOf_dt (s : Nat) : nOf (.string (dt s)) = s := dval_dt s
theorem ext_one (x : ByteArray) (i : Nat) (h : i < x.size) : (x.extract i (i + 1)).data.toList = [x[i]] := by
  have h0 : (x.extract i (i + 1)).data = x.data.extract i (i + 1) := by simp
  rw [h0, Array.toList_extract]
  have hl : x.data.toList.length = x.size := rfl
  simp only [List.extract_eq_take_drop, Nat.add_sub_cancel_left]
  rw [List.drop_eq_getElem_cons (by omega)]
  rfl
theorem cat_list (a b : ByteArray) : (a ++ b).data.toList = a.data.toList ++ b.data.toList := by simp
set_option maxHeartbeats 3200000 in
set_option maxRecDepth 100000 in
theorem rdiv_any (a b : Nat) (w : World) (hb : 0 < b) (ha : (dt a).size ≤ 100000) (hbs : (dt b).size ≤ 100000) :
    Calls Tryz.prog 35 #[.string (dt a), .string (dt b)] w fun e w' => e = .returned (.tuple #[.string (dt (a / b)), .string (dt (a % b))]) ∧ Below w.heap.size w w' := by
  obtain ⟨i0, hi, hz0, hz1, hz2⟩ := info_parts Tryz.infoByte
  obtain ⟨x, hx⟩ : ∃ x, x = dt a := ⟨_, rfl⟩
  have HX := hid (And.intro (show dval x.data.toList = a by rw [hx]; exact dval_dt a) (show Digs x.data.toList by rw [hx]; exact digs_dt a))
  rw [← hx] at ha ⊢
  clear hx
  go_enter Tryz.func35, Tryz.ntmps35
  go_wp2
  go_loopw [6, 7, 8] (fun out lv iv wr => ∃ (i r : Nat) (L : List UInt8), lv = .string (dt r) ∧ iv = .int .i64 i ∧ i ≤ x.size ∧ r < b ∧ Hid (DvRel x.data.toList b i r L ∧ OwB wr w.heap.size out L ∧ Below w.heap.size w wr) ∧ w.heap.size ≤ wr.heap.size) (fun _ _ iv _ => 500000 - (intOf iv).toNat)
  case atStart => exact ⟨0, 0, [], by rw [dt0], rfl, by omega, hb, ⟨⟨(fun c hc => by simp at hc), rfl, by simp [dval]⟩, World.ownsRow_nil _ _ _ _, Below.refl _ _⟩, Nat.le_refl _⟩
  case round =>
    obtain ⟨i, r, L, rfl, rfl, hi2, hrb, hr, hsz⟩ := hrel
    by_cases hgo : i < x.size
    · have hgo' : (i : Int) < x.size := by omega
      have hgo2 : (i : Int) + 1 ≤ x.size := by omega
      have qw : IntKind.i64.wrap ((i : Int) + 1) = (i : Int) + 1 := by rw [IntKind.wrap_i64]; omega
      have hl1 : (dt r).size ≤ (dt b).size := by rw [dt_size, dt_size]; exact len_le (by omega)
      have hl2 : ¬ 9223372036854775807 < (dt r).size + (min (i + 1) x.size - i) := by omega
      have e1 : (dt r ++ x.extract i (i + 1)).data.toList = decDigits r ++ [x[i]] := by rw [cat_list, ext_one x i hgo, dt_list]
      obtain ⟨c1, c2⟩ := digs_at HX.out.2 hgo
      have ed : Digs (dt r ++ x.extract i (i + 1)).data.toList := by
        rw [e1]
        intro c hc
        rcases List.mem_append.1 hc with hc | hc
        · exact digs_dec r c hc
        · rw [List.mem_singleton.1 hc]; exact ⟨c1, c2⟩
      have ev : dval (dt r ++ x.extract i (i + 1)).data.toList = 10 * r + (x[i].toNat - 48) := by rw [e1, dval_snoc, dval_dec]
      have es : (dt r ++ x.extract i (i + 1)).size ≤ 1000000 := by
        have : (dt r ++ x.extract i (i + 1)).data.toList.length = (dt r ++ x.extract i (i + 1)).size := rfl
        rw [← this, e1, List.length_append, List.length_singleton, ← dt_size]; omega
      have hdz : (decDigits (10 * r + (x[i].toNat - 48))).length ≤ 200000 := by
        have h1 := dval_lt _ ed
        rw [ev] at h1
        have h2 : (dt r ++ x.extract i (i + 1)).data.toList.length = (dt r).size + 1 := by rw [e1, List.length_append, List.length_singleton, ← dt_size]
        rw [h2] at h1
        have := len_dec _ _ (by omega) h1
        omega
      have HSt := hid (strip_any (dt r ++ x.extract i (i + 1)) wr es ed)
      rw [ev] at HSt
      have HTk := hid (take_snoc x i hgo)
      obtain ⟨d0, hd0⟩ : ∃ d0, d0 = 10 * r + (x[i].toNat - 48) := ⟨_, rfl⟩
      rw [← hd0] at HSt hdz
      have HDz := hid hdz
      have HD0 := hid hd0
      have hd1 : d0 < 10 * b := by omega
      clear e1 ed ev es hd0 c1 c2 hdz
      go_wp2_with fail
      refine HSt.out.mono ?_
      rintro e w1 ⟨rfl, rfl⟩
      clear HSt
      go_wp2
      have OW0 := hid hr.out.2
      have DV0 := hid hr.out.1
      clear hr
      go_loopw [7, 9] (fun lv nv wi => ∃ (n s : Nat), lv = .string (dt s) ∧ nv = .int .i64 n ∧ n ≤ 9 ∧ s ≤ d0 ∧ Hid (s + n * b = d0 ∧ OwB wi w.heap.size u6 L ∧ Below w.heap.size w wi) ∧ w.heap.size ≤ wi.heap.size) (fun lv _ _ => nOf lv)
      case atStart => exact ⟨0, d0, rfl, rfl, by omega, Nat.le_refl _, ⟨by omega, OW0.out.1, OW0.out.2⟩, hsz⟩
      case round =>
        obtain ⟨n, s, rfl, rfl, hn9, hsd, hs, hsz2⟩ := hrel
        by_cases hge : b ≤ s
        · have hcg : decide (0 ≤ cmpI s b) = true := by simpa using cmpI_ge (a := (s : Int)) (b := (b : Int)) (by omega)
          have hss : (dt s).size ≤ 400000 := by
            have := len_le hsd
            have := HDz.out
            rw [dt_size]; omega
          have RC := hid (rcmp_any s b wr)
          have RS := hid (rsub_any s b wr hss hge)
          have hn8 : n + 1 ≤ 9 := by
            have h1 := hs.out.1
            have h2 : (n + 1) * b < 10 * b := by rw [Nat.add_mul]; omega
            have := Nat.lt_of_mul_lt_mul_right h2
            omega
          generalize cmpI s b = cv at *
          go_wp2_with fail
          refine RC.out.mono ?_
          rintro e w2 ⟨rfl, rfl⟩
          go_wp2_with fail
          refine RS.out.mono ?_
          rintro e w3 ⟨rfl, C3⟩
          go_wp2
          refine ⟨⟨n + 1, s - b, rfl, rfl, hn8, by omega, ⟨?_, own_below hs.out.2.1 C3, hs.out.2.2.trans (C3.mono hsz2)⟩, Nat.le_trans hsz2 C3.size⟩, by rw [nOf_dt, nOf_dt]; omega⟩
          have h1 := hs.out.1
          rw [Nat.add_mul]; omega
        · have hcl : cmpI s b = -1 := cmpI_lt (by omega)
          have RC := hid (rcmp_any s b wr)
          rw [hcl] at RC
          have ST := hid (DV0.out.step HTk.out (by rw [← HD0.out]; exact hs.out.1) hn9)
          have OWN := hid hs.out.2.1
          have hL : L.length ≤ 400001 := by rw [DV0.out.2.1]; omega
          have HN := hid (dig_nat (d := n) (by omega))
          have n9 : (n : Int) ≤ 9 := by omega
          go_wp2_with fail
          refine RC.out.mono ?_
          rintro e w2 ⟨rfl, rfl⟩
          go_wp2_with (at_builtin; refine wpList_append_own _ rfl (.tmp 33) (.tmp 37) 62 rfl w.heap.size 5 i0 (.int .u8 0) 1 1 Tryz.underlying62 hi hz0 hz1 hz2 rfl (by decide) _ L.length (Lib.byteCells L) rfl (OWN.out.alloc _) ⟨w2.heap.size, 0, none⟩ 1 1 [.int .u8 (48 + (n : Int))] rfl rfl (cell_one_new _ _ _) (by intro u hu; simp at hu; subst hu; rfl) (by unfold maxLen; omega) (by omega) (by simp; omega) ?_; intro v' w3 own3 grow3 _)
          have ez : (48 + (n : Int)) = ((UInt8.ofNat (48 + n)).toNat : Int) := by rw [HN.out]; omega
          rw [ez] at own3
          have hp := OwB.push OWN.out hsz2 rfl own3 grow3
          exact ⟨⟨i + 1, s, _, rfl, rfl, by omega, by omega, ⟨ST.out, hp.1, hs.out.2.2.trans hp.2.1⟩, hp.2.2⟩, by simp only [intOf]; omega⟩
    · have hgo' : ¬ (i : Int) < x.size := by omega
      have hx : i = x.data.toList.length := by have : x.data.toList.length = x.size := rfl; omega
      have hd := hr.out.1
      rw [hx] at hd
      have HD := hid (hd.done hrb)
      rw [HX.out.1] at HD
      have HT := hid hr.out.2.1.str
      have hL : L.length ≤ 400001 := by rw [hr.out.1.2.1]; omega
      have HG := hid hr.out.1.1
      clear hx hd
      go_wp2_with fail
      rw [HT.out]
      go_wp2_with fail
      refine (strip_any _ wr (by simp [ByteArray.size]; omega) HG.out).mono ?_
      rintro e w3 ⟨rfl, rfl⟩
      go_wp2
      go_ret2
      exact ⟨by rw [← HD.out.1, ← HD.out.2]; rfl, hr.out.2.2⟩
end Go.Proofs.YtnaiahjgdakneaaGreatDoor
