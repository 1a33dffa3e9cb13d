/- The forms of a root's powers: what ntt's formsOfPowers answers. -/
import Derived.Test.YtcclkahoonlieaaDoorXe
import Derived.Test.YtcclkahoonlieaaDoorVn
import Derived.Test.YtcclkahoonlieaaDoorRgq
import Derived.Test.YtcclkahoonlieaaDoorQb
import Derived.Deep.RegionHeld3
namespace Go.Proofs.YtcclkahoonlieaaDoor
open Go.RowKit Num Nmb

/-- the form of a power of the root. -/
def fmv (p r : Nat) (j : Nat) : Int := (r : Int) ^ j * 18446744073709551616 % p
/-- what the function has captured. -/
structure EnvF (w : World) (gF gP gS gR gm gf n p r : Nat) (f s pw : Int) (fm : Nat → Int) : Prop where
  bF : Box w gF (.pointer (some ⟨gf, 0, none⟩))
  bP : Box w gP (.int .u64 pw)
  bS : Box w gS (.slice (some ⟨gm, 0, none⟩) n n)
  bR : Box w gR (.int .u64 r)
  row : Row w gm n fm
  fld : Fld w gf p f s
/-- the blocks are apart. -/
structure ApF (gF gP gS gR gm gf : Nat) : Prop where
  m : gF ≠ gm ∧ gP ≠ gm ∧ gS ≠ gm ∧ gR ≠ gm ∧ gf ≠ gm
  q : gF ≠ gP ∧ gS ≠ gP ∧ gR ≠ gP ∧ gm ≠ gP ∧ gf ≠ gP
theorem EnvF.drew {w : World} {gF gP gS gR gm gf n p r : Nat} {f s pw : Int} {fm : Nat → Int} (E : EnvF w gF gP gS gR gm gf n p r f s pw fm) (k : Nat) : EnvF (w.drewN k) gF gP gS gR gm gf n p r f s pw fm :=
  ⟨E.bF.drew k, E.bP.drew k, E.bS.drew k, E.bR.drew k, E.row.drew k, E.fld.drew k⟩
theorem EnvF.setm {w : World} {gF gP gS gR gm gf n p r : Nat} {f s pw : Int} {fm : Nat → Int} (E : EnvF w gF gP gS gR gm gf n p r f s pw fm) (A : ApF gF gP gS gR gm gf) (i : Nat) (v : Int) : EnvF (w.setCell ⟨gm, i, none⟩ (.int .u64 v)) gF gP gS gR gm gf n p r f s pw (fun j => if j = i then v else fm j) :=
  ⟨E.bF.other A.m.1 _ _, E.bP.other A.m.2.1 _ _, E.bS.other A.m.2.2.1 _ _, E.bR.other A.m.2.2.2.1 _ _, E.row.set i v (fun _ _ => rfl), E.fld.other A.m.2.2.2.2 _ _⟩
theorem EnvF.setp {w : World} {gF gP gS gR gm gf n p r : Nat} {f s pw : Int} {fm : Nat → Int} (E : EnvF w gF gP gS gR gm gf n p r f s pw fm) (A : ApF gF gP gS gR gm gf) (v : Int) : EnvF (w.setCell ⟨gP, 0, none⟩ (.int .u64 v)) gF gP gS gR gm gf n p r f s v fm :=
  ⟨E.bF.other A.q.1 _ _, E.bP.set _, E.bS.other A.q.2.1 _ _, E.bR.other A.q.2.2.1 _ _, E.row.other A.q.2.2.2.1 _ _, E.fld.other A.q.2.2.2.2 _ _⟩
set_option maxHeartbeats 3200000 in
set_option maxRecDepth 100000 in
theorem fpow_any {w : World} {gF gP gS gR gm gf n p r : Nat} {f s pw : Int} {fm : Nat → Int} (E : EnvF w gF gP gS gR gm gf n p r f s pw fm) (A : ApF gF gP gS gR gm gf) (OK : Ok p f s) (i : Nat) (hi : i < n) (_hn : n ≤ 1048576) (ho : (p : Int) % 2 = 1) (hp : 0 ≤ pw) :
    Calls Tryd.prog 48 #[.int .i64 i, .pointer (some ⟨gF, 0, none⟩), .pointer (some ⟨gP, 0, none⟩), .pointer (some ⟨gS, 0, none⟩), .pointer (some ⟨gR, 0, none⟩)] w fun e w' =>
      e = .returned (.tuple #[]) ∧ EnvF w' gF gP gS gR gm gf n p r f s (pw * r % p) (fun j => if j = i then pw * 18446744073709551616 % p else fm j) ∧ (∀ B, B ≤ gm → B ≤ gP → Below B w w') := by
  have cF := E.bF.cell
  have cP := E.bP.cell
  have cS := E.bS.cell
  have ci := E.row.cell (i := i) hi
  have fi := E.row.frozen i
  have IN := hid (fun c => in_form gf p f s pw (w.drewN c) (E.fld.drew c) OK hp ho)
  have hin : (i : Int) < (n : Int) := by omega
  have E1 : Hid (∀ nq, EnvF ((w.drewN nq).setCell ⟨gm, i, none⟩ (.int .u64 (pw * 18446744073709551616 % p))) gF gP gS gR gm gf n p r f s pw (fun j => if j = i then pw * 18446744073709551616 % p else fm j)) := fun nq => (E.drew nq).setm A i _
  have B1 : Hid (∀ nq v B, B ≤ gm → Below B w ((w.drewN nq).setCell ⟨gm, i, none⟩ v)) := fun nq v B hB => below_set (below_drewN (Below.refl _ _) nq) hB _ _
  have MU : Hid (∀ w' pw fm c, 0 ≤ pw → EnvF w' gF gP gS gR gm gf n p r f s pw fm → Calls Tryd.prog 50 #[.pointer (some ⟨gf, 0, none⟩), .int .u64 pw, .int .u64 r] (w'.drewN c) fun e w2 => e = .returned (.int .u64 (pw * r % p)) ∧ ∃ k, w2 = (w'.drewN c).drewN k) := fun w' pw fm c h0 E => mul_any gf p f s pw r _ (E.fld.drew c) OK h0 (by omega)
  have AA := hid A
  have k1 := fun W i v => cell_other A.m.2.2.1 W i 0 v
  have k2 := fun W i v => cell_other A.m.1 W i 0 v
  have k3 := fun W i v => cell_other A.m.2.1 W i 0 v
  clear E A
  generalize pw * 18446744073709551616 % (p : Int) = v at *
  go_enter Tryd.func48, Tryd.ntmps48
  go_wp2_with fail
  go_region_held3 (fun W => W.cell? ⟨gS, 0, none⟩ = some (.slice (some ⟨gm, 0, none⟩) n n) ∧ W.cell? ⟨gF, 0, none⟩ = some (.pointer (some ⟨gf, 0, none⟩)) ∧ W.cell? ⟨gP, 0, none⟩ = some (.int .u64 pw)) (first | (refine ⟨?_, ?_, ?_⟩ <;> assumption) | (simp [*]; done)) ((go_at_call 49; go_must (refine (IN.out _).mono ?_; rintro e w3 ⟨rfl, kq, rfl⟩)))
  all_goals
    rename_i hKx hHx
    refine hKx _ _ ?_
    clear hKx hHx
    have E2 := hid (E1.out (1 + kq))
    have B2 := hid (B1.out (1 + kq) (.int .u64 v))
    have hcF := (E1.out (1 + kq)).bF.cell
    have hcP := (E1.out (1 + kq)).bP.cell
    have hcR := (E1.out (1 + kq)).bR.cell
    have hfP := (E1.out (1 + kq)).bP.frozen 0
    have M2 := hid (MU.out _ _ _ 0 hp E2.out)
    clear E1 B1 IN cF cP cS k1 k2 k3 ci fi
    generalize (w.drewN (1 + kq)).setCell ⟨gm, i, none⟩ (.int .u64 v) = w1 at *
    go_wp2_with fail
    refine M2.out.mono ?_
    rintro e w2 ⟨rfl, k, rfl⟩
    have E3 := hid ((E2.out.drew k).setp AA.out (pw * r % p))
    have B3 : Hid (∀ B u, B ≤ gm → B ≤ gP → Below B w ((w1.drewN k).setCell ⟨gP, 0, none⟩ u)) := fun B u h1 h2 => below_set (below_drewN (B2.out B h1) k) h2 _ _
    have hcP' : (w1.drewN k).cell? ⟨gP, 0, none⟩ = some (.int .u64 pw) := by simpa using hcP
    have hfP' : (w1.drewN k).frozen? ⟨gP, 0, none⟩ = false := by simpa using hfP
    clear hcP hfP M2 E2 B2
    go_wp2
    go_end0
    exact ⟨rfl, E3.out, fun B h1 h2 => B3.out B _ h1 h2⟩
theorem Row.eq {w : World} {g n : Nat} {x y : Nat → Int} (h : Row w g n x) (e : ∀ j, j < n → x j = y j) : Row w g n y := by
  obtain ⟨cur, h1, h2, h3⟩ := h
  exact ⟨cur, h1, h2, fun j hj => by rw [← e j hj]; exact h3 j hj⟩
/-- a variable that is laid into a block of its own. -/
theorem alloc_box (w : World) (v : Value) (t : Nat) : Box (w.alloc (.cells #[v] t (0, 0))) w.heap.size v ∧ Below w.heap.size w (w.alloc (.cells #[v] t (0, 0))) ∧ (w.alloc (.cells #[v] t (0, 0))).heap.size = w.heap.size + 1 :=
  ⟨⟨_, heap_alloc_new w _⟩, (Below.refl _ _).alloc (Nat.le_refl _) _, by simp⟩
theorem fmv_step {p r i : Nat} {pw : Int} (h : pw = (r : Int) ^ i % p) : pw * r % p = (r : Int) ^ (i + 1) % p ∧ pw * 18446744073709551616 % p = fmv p r i := by
  subst h
  exact ⟨by rw [Int.pow_succ, Int.mul_emod, Int.emod_emod_of_dvd _ (Int.dvd_refl _), ← Int.mul_emod], by unfold fmv; rw [Int.mul_emod, Int.emod_emod_of_dvd _ (Int.dvd_refl _), ← Int.mul_emod]⟩
/-- what formsOfPowers answers. -/
def FrmR (w w' : World) (p r n : Nat) (e : Ending) : Prop := ∃ gm, e = .returned (.slice (some ⟨gm, 0, none⟩) n n) ∧ Row w' gm n (fmv p r) ∧ w.heap.size ≤ gm
theorem eg_fpow : ∀ args w, (callFunc 48 args).run Tryd.prog w = .ok (.enter 48 args) w := enters_of Tryd.func48 (by kernel_rfl) rfl
set_option maxHeartbeats 3200000 in
set_option maxRecDepth 100000 in
theorem forms_any (gf p r n : Nat) (f s : Int) (w : World) (F : Fld w gf p f s) (OK : Ok p f s) (hn : n ≤ 1048576) (ho : 0 < n → (p : Int) % 2 = 1) :
    Calls Tryd.prog 29 #[.pointer (some ⟨gf, 0, none⟩), .int .u64 r, .int .i64 n] w fun e w' => FrmR w w' p r n e ∧ Below w.heap.size w w' := by
  have h2 := OK.h2
  obtain ⟨X1, B1, Z1⟩ := alloc_box w (.pointer (some ⟨gf, 0, none⟩)) 54
  obtain ⟨X2, B2, Z2⟩ := alloc_box (w.alloc (.cells #[.pointer (some ⟨gf, 0, none⟩)] 54 (0, 0))) (.int .u64 r) 22
  have hlt := F.lt
  rw [Z1] at X2 B2 Z2
  have X1' := X1.below B2 (by omega)
  have B2' := B1.trans (B2.mono (by omega))
  have HB := hid B2'
  have HX1 := hid X1'
  have HX2 := hid X2
  have HZ := hid Z2
  have FF := hid F
  clear X1 B1 Z1 X2 B2 Z2 X1' B2' F
  go_enter Tryd.func29, Tryd.ntmps29
  go_wp2_with (at_make; refine wp_make _ rfl _ _ rfl _ _ n rfl rfl (by omega) (by omega) (by omega) ?_; intro w1 R1 C1 Z1; have HR := hid R1; have HC := hid C1; have HZ1 := hid Z1; clear R1 C1 Z1)
  have hz := HZ.out
  have hz1 := HZ1.out
  have R1 := HR.out
  have C1 := HC.out
  rw [hz] at hz1 R1 C1
  obtain ⟨X3, B3, Z3⟩ := alloc_box w1 (.slice (some ⟨w.heap.size + 1 + 1, 0, none⟩) n n) 36
  obtain ⟨X4, B4, Z4⟩ := alloc_box (w1.alloc (.cells #[.slice (some ⟨w.heap.size + 1 + 1, 0, none⟩) n n] 36 (0, 0))) (.int .u64 1) 22
  rw [Z3] at X4 B4 Z4
  have D2 := HB.out.trans (C1.mono (by omega))
  have D4 := D2.trans ((B3.trans (B4.mono (by omega))).mono D2.size)
  have E0 : EnvF ((w1.alloc (.cells #[.slice (some ⟨w.heap.size + 1 + 1, 0, none⟩) n n] 36 (0, 0))).alloc (.cells #[.int .u64 1] 22 (0, 0))) w.heap.size (w1.heap.size + 1) w1.heap.size (w.heap.size + 1) (w.heap.size + 1 + 1) gf n p r f s 1 (fun _ => 0) :=
    ⟨((HX1.out.below C1 (by omega)).below B3 (by omega)).below B4 (by omega), X4, X3.below B4 (by omega), ((HX2.out.below C1 (by omega)).below B3 (by omega)).below B4 (by omega), (R1.below B3 (by omega)).below B4 (by omega), FF.out.below D4 hlt⟩
  have AP : ApF w.heap.size (w1.heap.size + 1) w1.heap.size (w.heap.size + 1) (w.heap.size + 1 + 1) gf := ⟨⟨by omega, by omega, by omega, by omega, by omega⟩, ⟨by omega, by omega, by omega, by omega, by omega⟩⟩
  have EA := hid (each_any n 48 #[.pointer (some ⟨w.heap.size, 0, none⟩), .pointer (some ⟨w1.heap.size + 1, 0, none⟩), .pointer (some ⟨w1.heap.size, 0, none⟩), .pointer (some ⟨w.heap.size + 1, 0, none⟩)] eg_fpow
    (fun i W => ∃ pw fm, EnvF W w.heap.size (w1.heap.size + 1) w1.heap.size (w.heap.size + 1) (w.heap.size + 1 + 1) gf n p r f s pw fm ∧ pw = (r : Int) ^ i % p ∧ (∀ j, j < i → fm j = fmv p r j) ∧ Below w.heap.size w W)
    _ (by omega) ⟨1, _, E0, by rw [Int.pow_zero, Int.emod_eq_of_lt (by omega) (by omega)], fun j hj => absurd hj (by omega), D4⟩ (by
      rintro i W hi ⟨pw, fm, E, hpw, hfm, hB⟩
      refine (fpow_any E AP OK i hi hn (ho (by omega)) (by rw [hpw]; exact Int.emod_nonneg _ (by omega))).mono ?_
      rintro e w' ⟨rfl, E', B'⟩
      obtain ⟨s1, s2⟩ := fmv_step hpw
      refine ⟨rfl, _, _, E', s1, fun j hj => ?_, hB.trans (B' _ (by omega) (by omega))⟩
      show (if j = i then _ else _) = _
      by_cases e : j = i
      · rw [if_pos e, s2, e]
      · rw [if_neg e]; exact hfm j (by omega)))
  have BB : Hid (w.heap.size ≤ w.heap.size + 1 + 1) := by show _ ≤ _; omega
  clear hz hz1 R1 C1 X3 B3 Z3 X4 B4 Z4 D2 D4 E0 AP HZ HZ1 HR HC HB HX1 HX2 FF hlt
  refine EA.out.mono ?_
  rintro e w5 ⟨rfl, pw, fm, E5, _, hfm, B5⟩
  have D : Hid (FrmR w w5 p r n (.returned (.slice (some ⟨w.heap.size + 1 + 1, 0, none⟩) n n))) := ⟨_, rfl, E5.row.eq hfm, BB.out⟩
  have cS := E5.bS.cell
  have B5' := hid B5
  clear E5 B5 hfm EA BB
  go_wp2
  go_ret
  exact ⟨D.out, B5'.out⟩
end Go.Proofs.YtcclkahoonlieaaDoor
