/- "Mul" of the reference. -/
import Derived.Test.YtnaiahjgdakneaaGreatDoorRefm
namespace Go.Proofs.YtnaiahjgdakneaaGreatDoor
open Go.RowKit Num
open Go.Lib (decDigits)
theorem Tryz.info3 : (Tryz.prog.info? 3).map (fun i => (i.zero, i.size, i.bytes)) = some (some (.int .i64 0), 1, 8) := by kernel_rfl
theorem RowI.new (w : World) (n : Nat) : RowI (w.alloc (.cells (madeCells #[.int .i64 0] (n * 1)) 3)) w.heap.size n (fun _ => 0) := by
  refine ⟨madeCells #[.int .i64 0] (n * 1), ?_, by simp [size_madeCells], fun j hj => ?_⟩
  · exact heap_alloc_new w _
  · simp [madeCells, hj, Nat.mod_one]
set_option maxHeartbeats 1600000 in
set_option maxRecDepth 100000 in
theorem rmul_any (x y : ByteArray) (w : World) (hx : x.size ≤ 100000) (hy : y.size ≤ 100000) (dx : Digs x.data.toList) (dy : Digs y.data.toList) :
    Calls Tryz.prog 75 #[.string x, .string y] w fun e w' => e = .returned (.string (dt (dval x.data.toList * dval y.data.toList))) ∧ Below w.heap.size w w' := by
  obtain ⟨i0, hi, hz0, hz1, hz2⟩ := info_parts Tryz.infoByte
  obtain ⟨j0, hj, hy0, hy1, hy2⟩ := info_parts Tryz.info3
  have DX := hid dx
  have DY := hid dy
  clear dx dy
  have hr := run_make (P := Tryz.prog) w 120 3 j0 (.int .i64 0) Tryz.underlying120 hj hy0 .i64 .i64 ((x.size + y.size + 1 : Nat) : Int) ((x.size + y.size + 1 : Nat) : Int) (by omega) (Int.le_refl _) (by rw [hy2]; omega) (by omega)
  simp only [Int.toNat_natCast] at hr
  rw [hy1] at hr
  simp only [Nat.mul_one] at hr
  have R0' := RowI.new w (x.size + y.size + 1)
  rw [Nat.mul_one] at R0'
  have R0 := hid R0'
  clear R0'
  have B0 : Hid (Below w.heap.size w (w.alloc (.cells (madeCells #[.int .i64 0] (x.size + y.size + 1)) 3))) := (Below.refl _ _).alloc (Nat.le_refl _) _
  have Z0 : (w.alloc (.cells (madeCells #[.int .i64 0] (x.size + y.size + 1)) 3)).heap.size = w.heap.size + 1 := by simp
  have HR := hid hr
  clear hr
  obtain ⟨N, hN⟩ : ∃ N, N = x.size + y.size + 1 := ⟨_, rfl⟩
  go_enter Tryz.func75, Tryz.ntmps75
  go_wp2_with fail
  rw [show ((x.size : Int) + y.size + 1) = ((x.size + y.size + 1 : Nat) : Int) by omega, HR.out, ← hN]
  clear HR
  generalize hg : w.heap.size = g at *
  go_wp2
  generalize w.alloc (.cells (madeCells #[.int .i64 0] (x.size + y.size + 1)) 3) = w0 at *
  have hgw : g < w0.heap.size := by omega
  go_loopw [6] (fun iv wr => ∃ (i : Nat) (S : Nat → Nat), iv = .int .i64 i ∧ i ≤ x.size ∧ Hid (MoRel x.data.toList y.data.toList N i S ∧ RowI wr g N S ∧ Only g w0 wr)) (fun iv _ => 500000 - (intOf iv).toNat)
  case atStart => exact ⟨0, _, rfl, by omega, ⟨MoRel.start _ _ _, by rw [hN]; exact R0.out, Only.refl _ _⟩⟩
  case round =>
    obtain ⟨i, S, rfl, hi2, hr⟩ := hrel
    by_cases hgo : i < x.size
    · have hgo' : (i : Int) < x.size := by omega
      go_wp2
      go_loopw [7] (fun kv wi => ∃ (k : Nat) (S : Nat → Nat), kv = .int .i64 k ∧ k ≤ y.size ∧ Hid (MuRel x.data.toList y.data.toList N i k S ∧ RowI wi g N S ∧ Only g w0 wi)) (fun kv _ => 500000 - (intOf kv).toNat)
      case atStart => exact ⟨0, S, rfl, by omega, ⟨hr.out.1.inner, hr.out.2.1, hr.out.2.2⟩⟩
      case round =>
        obtain ⟨k, S', rfl, hk, hs⟩ := hrel
        by_cases hgk : k < y.size
        · have hgk' : (k : Int) < y.size := by omega
          have a1 := dg_le x.data.toList DX.out i
          have a2 := dg_le y.data.toList DY.out k
          have D1 : Hid (∀ W, Calls Tryz.prog 74 #[.string x, .int .i64 i] W fun e w' => e = .returned (.int .i64 (dg x.data.toList i)) ∧ w' = W) := fun W => digit_any x i W (by omega) (by omega) DX.out
          have D2 : Hid (∀ W, Calls Tryz.prog 74 #[.string y, .int .i64 k] W fun e w' => e = .returned (.int .i64 (dg y.data.toList k)) ∧ w' = W) := fun W => digit_any y k W (by omega) (by omega) DY.out
          have ST := hid (hs.out.1.step a1 a2 (by omega))
          have hc := hs.out.2.1.cell (i := i + k) (by omega)
          have hf := hs.out.2.1.frozen (i + k)
          have hSb := hs.out.1.2.1 (i + k)
          have hmm : dg x.data.toList i * dg y.data.toList k ≤ 9 * 9 := Nat.mul_le_mul a1 a2
          have RS := hid (hs.out.2.1.set (i + k) (S' (i + k) + dg x.data.toList i * dg y.data.toList k))
          generalize dg x.data.toList i = d1 at *
          generalize dg y.data.toList k = d2 at *
          obtain ⟨m, hm⟩ : ∃ m, m = d1 * d2 := ⟨_, rfl⟩
          have hmi : (d1 : Int) * (d2 : Int) = (m : Int) := by rw [hm, Int.natCast_mul]
          rw [← hm] at hmm RS ST
          have HM := hid hm
          clear hm
          have b1 : (S' (i + k) : Int) ≤ 9000000 := by omega
          have b2 : (m : Int) ≤ 81 := by omega
          have q1 : (0 : Int) ≤ (i : Int) + k := by omega
          have q2 : (i : Int) + k < (x.size : Int) + y.size + 1 := by omega
          have q3 : (i : Int) + k ≤ 200000 := by omega
          have qn : ((i : Int) + k).toNat = i + k := by omega
          have qw : IntKind.i64.wrap ((i : Int) + (k : Int)) = (i : Int) + (k : Int) := by rw [IntKind.wrap_i64]; omega
          have qm : IntKind.i64.wrap ((d1 : Int) * (d2 : Int)) = (m : Int) := by rw [hmi, IntKind.wrap_i64]; omega
          have qm2 : IntKind.i64.wrap (m : Int) = (m : Int) := by rw [IntKind.wrap_i64]; omega
          have qs : IntKind.i64.wrap ((S' (i + k) : Int) + (m : Int)) = (S' (i + k) : Int) + (m : Int) := by rw [IntKind.wrap_i64]; omega
          have q4 : (i : Int) + k < N := by omega
          have HO := hid hs.out.2.2
          have hcb : (S' (i + k) : Int) ≥ 0 := by omega
          clear hs hSb hmm a1 a2
          go_wp2_with fail
          go_region_with (first
            | (go_at_call_of 74 (Value.string x); go_must (refine (D1.out _).mono ?_; rintro e w1 ⟨rfl, rfl⟩))
            | (go_at_call_of 74 (Value.string y); go_must (refine (D2.out _).mono ?_; rintro e w1 ⟨rfl, rfl⟩)))
          all_goals
            go_wp2
            refine ⟨⟨k + 1, _, rfl, by omega, ⟨ST.out, ?_, ?_⟩⟩, by simp only [intOf]; omega⟩
            · have := RS.out
              rw [Int.natCast_add] at this
              exact this
            · have := HO.out.set (i + k) (.int .i64 ((S' (i + k) : Int) + (m : Int)))
              exact ⟨this.os, this.tape, this.output, this.size, this.block⟩
        · have hgk' : ¬ (k : Int) < y.size := by omega
          obtain rfl : k = y.size := by omega
          have hm : Hid (MoRel x.data.toList y.data.toList N (i + 1) S') := hs.out.1.outer
          go_wp2
          exact ⟨⟨i + 1, S', rfl, by omega, ⟨hm.out, hs.out.2⟩⟩, by simp only [intOf]; omega⟩
    · have hgo' : ¬ (i : Int) < x.size := by omega
      obtain rfl : i = x.size := by omega
      have hb : ∀ j, S j ≤ 8100000 := fun j => by have := hr.out.1.2 j; omega
      have hv : SV S N = dval x.data.toList * dval y.data.toList := by
        have := hr.out.1.1
        rw [low_all x.data.toList x.size (Nat.le_refl _)] at this
        exact this
      have HV := hid (And.intro hb hv)
      clear hb hv
      go_wp2
      go_loopw [8, 9, 10] (fun out cv iv wi => ∃ (i c : Nat) (L : List UInt8), cv = .int .i64 c ∧ iv = .int .i64 i ∧ c ≤ 8100000 ∧ i ≤ N ∧ Hid (CaRel S i c L ∧ OwB wi (g + 1) out L ∧ RowI wi g N S ∧ Below g w wi) ∧ g + 1 ≤ wi.heap.size) (fun _ _ iv _ => 500000 - (intOf iv).toNat)
      case atStart => exact ⟨0, 0, [], rfl, rfl, by omega, by omega, ⟨⟨(fun c hc => by simp at hc), rfl, by simp [lv, SV]⟩, World.ownsRow_nil _ _ _ _, hr.out.2.1, B0.out.trans (hr.out.2.2.below (Nat.le_refl _))⟩, by have := hr.out.2.2.size; omega⟩
      case round =>
        obtain ⟨i, c, L, rfl, rfl, hc, hi3, hq, hsz⟩ := hrel
        by_cases hgo2 : i < N
        · have hgo2' : (i : Int) < N := by omega
          have hcell := hq.out.2.2.1.cell hgo2
          have hSb := HV.out.1 i
          have ST := hid hq.out.1.step
          have OWN := hid hq.out.2.1
          have hL : L.length ≤ 400001 := by rw [hq.out.1.2.1]; omega
          have HN := hid (dig_nat (d := (S i + c) % 10) (by omega))
          have b1 : (S i : Int) ≤ 8100000 := by omega
          go_wp2_with (at_builtin; refine wpList_append_own _ rfl (.tmp 62) (.tmp 67) 62 rfl (g + 1) 5 i0 (.int .u8 0) 1 1 Tryz.underlying62 hi hz0 hz1 hz2 rfl (by decide) _ L.length (Lib.byteCells L) rfl (OWN.out.alloc _) ⟨wr.heap.size, 0, none⟩ 1 1 [.int .u8 (48 + ((S i : Int) + (c : Int)) % 10)] rfl rfl (cell_one_new _ _ _) (by intro u hu; simp at hu; subst hu; rfl) (by unfold maxLen; omega) (by omega) (by simp; omega) ?_; intro v' w3 own3 grow3 _)
          have ez : (48 + ((S i : Int) + (c : Int)) % 10) = ((UInt8.ofNat (48 + (S i + c) % 10)).toNat : Int) := by rw [HN.out]; omega
          rw [ez] at own3
          have hp := OwB.push OWN.out hsz rfl own3 grow3
          exact ⟨⟨i + 1, (S i + c) / 10, _, by congr 1, by congr 1, by omega, by omega, ⟨ST.out, hp.1, RowI.below hp.2.1 (by omega) hq.out.2.2.1, hq.out.2.2.2.trans (hp.2.1.mono (by omega))⟩, hp.2.2⟩, by simp only [intOf]; omega⟩
        · have hgo2' : ¬ (i : Int) < N := by omega
          obtain rfl : i = N := by omega
          have hv : lv L = dval x.data.toList * dval y.data.toList := by
            have h1 := hq.out.1
            have h2 := HV.out.2
            have l1 : x.data.toList.length = x.size := rfl
            have l2 : y.data.toList.length = y.size := rfl
            rw [hN, ← l1, ← l2] at h1 h2
            exact h1.done DX.out DY.out h2
          have HV2 := hid hv
          have HT := hid hq.out.2.1.bt
          have hL : L.length ≤ 400001 := by rw [hq.out.1.2.1]; omega
          clear hv
          go_wp2_with fail
          refine (turned_any _ L wr HT.out (by omega)).mono ?_
          rintro e w2 ⟨rfl, C2⟩
          go_wp2_with fail
          refine (strip_any _ w2 (by simp [ByteArray.size]; omega) (digs_rev hq.out.1.1)).mono ?_
          rintro e w3 ⟨rfl, rfl⟩
          rw [turn_strip, HV2.out]
          go_wp2
          go_ret
          exact ⟨rfl, by rw [hg]; exact hq.out.2.2.2.trans (C2.mono (by omega))⟩
end Go.Proofs.YtnaiahjgdakneaaGreatDoor
