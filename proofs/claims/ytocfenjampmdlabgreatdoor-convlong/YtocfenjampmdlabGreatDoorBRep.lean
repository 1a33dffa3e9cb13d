/- What 'Print' answers: the decimal digits of a number. -/
/- What 'isNumber' and 'Parse' answer: which texts are numbers, and which number each is. -/
/- What 'withGroup' and 'groupOf' do: a number times a group's base, and the group; the word of up to 19 digits. -/
/- What 'groupOf' and 'Parse' answer of a text that is a number. -/
/- What is printed is parsed: decimal digits of a number, and the number of these. -/
import Derived.Test.YtocfenjampmdlabGreatDoorBFmt
import Derived.Test.YtocfenjampmdlabGreatDoorBDec
import Derived.Deep.LoopGhost
namespace Go.Proofs.YtocfenjampmdlabGreatDoor.B
open Go.RowKit NumB

/-- the table of powers of ten lies. -/
def Tab (w : World) : Prop := Lib.TabIs Tryz.prog w "internal/strconv.uint64pow10" .u64 Lib.pow10Tab
theorem Tryz.glob : Tryz.prog.globalNamed "internal/strconv.uint64pow10" = some 3 := by kernel_rfl
theorem Tab.below {B : Nat} {w w' : World} (h : Tab w) (hb : Below B w w') (hB : 3 < B) : Tab w' := var?_below hb Tryz.glob hB h
theorem Tab.lt {w : World} (h : Tab w) : 3 < w.heap.size := by
  unfold Tab Lib.TabIs World.var? at h
  simp only [Tryz.glob, Option.bind_some] at h
  apply Nat.lt_of_not_le
  intro hc
  rw [Array.getElem?_eq_none hc] at h
  simp at h

theorem Only.grown {g : Nat} {w w' : World} (h : Only g w w') : w.grownBy w' (some g) := ⟨h.os, h.tape, h.output, by rw [h.size]; exact Nat.le_refl _, fun k _ hk => h.block k (fun e => hk (by rw [e]))⟩
theorem own_only {g base n : Nat} {e : TypeId} {v : Value} {xs : List Value} {w w' : World} (h : w.ownsRow base e 1 v n xs) (o : Only g w w') (hg : g < base) : w'.ownsRow base e 1 v n xs := by
  refine h.kept o.grown ?_
  rcases hob : v.ownBlock with _ | bk
  · exact Or.inl rfl
  · right
    have := (h.lt bk hob).1
    intro e; cases e; omega
theorem own_block {base n k : Nat} {e : TypeId} {v : Value} {xs : List Value} {w w' : World} (h : w.ownsRow base e 1 v n xs) (o : w.grownBy w' v.ownBlock) (hk : k < base) (hw : k < w.heap.size) : w'.heap[k]? = w.heap[k]? :=
  o.block k hw (fun e => by have := (h.lt k e.symm).1; omega)
theorem gB_int : ((gB : Nat) : Int) = 10000000000000000000 := by decide
def gC (gs : List Nat) : List Value := gs.map fun (g : Nat) => Value.int .u64 (g : Int)
theorem gC_snoc (gs : List Nat) (g : Nat) : gC (gs ++ [g]) = gC gs ++ [.int .u64 (g : Int)] := by simp [gC]
theorem gC_len (gs : List Nat) : (gC gs).length = gs.length := by simp [gC]

/-- what the first loop of 'Print' keeps: 'r' is what is still to be cut into groups. -/
def PrRel (w : World) (A K : Nat) (r : Nat) (lv gv' : Value) (wr : World) : Prop :=
  ∃ (k c : Nat) (X : Nat → Int) (gs : List Nat), lv = .slice (some ⟨w.heap.size, 0, none⟩) k c ∧ k ≤ c ∧ c ≤ K ∧ Row wr w.heap.size K X ∧ Wd X 0 k ∧ Nm X 0 k ∧ V X 0 k = (r : Int) ∧
    wr.ownsRow (w.heap.size + 1) 22 1 gv' gs.length (gC gs) ∧ Below w.heap.size w wr ∧ w.heap.size + 1 ≤ wr.heap.size ∧ A = gv gs + r * gB ^ gs.length ∧ (∀ g ∈ gs, g < gB) ∧ (r = 0 → ∃ t, gs.getLast? = some t ∧ t ≠ 0)

theorem bld_below {T e : TypeId} {B b : Nat} {bs : List Value} {w w' : World} (h : Lib.IsBuilder T e B b bs w) (hb : Below w.heap.size w w') : Lib.IsBuilder T e B b bs w' := by
  have hg : w.grownBy w' none := ⟨hb.os, hb.tape, hb.output, hb.size, fun k hk _ => hb.block k hk⟩
  have key : ∀ p, Lib.BuilderAt T e B b p bs w → Lib.BuilderAt T e B b p bs w' := by
    rintro p ⟨hB, v, hbk, hown, hne⟩
    refine ⟨hB, v, ?_, hown.kept hg (by cases hv : v.ownBlock <;> simp), hne⟩
    rw [hb.block b (Array.getElem?_eq_some_iff.1 hbk).1]; exact hbk
  rcases h with h | h
  · exact Or.inl (key _ h)
  · exact Or.inr (key _ h)
theorem bld_new (w : World) : Lib.IsBuilder 73 5 w.heap.size w.heap.size [] (w.alloc (.cells #[.pointer none, .slice none 0 0] 73)) :=
  Or.inl ⟨Nat.le_refl _, .slice none 0 0, heap_alloc_new w _, World.ownsRow_nil _ _ _ _, by simp [Value.ownBlock]⟩
theorem bytes_size (l : List UInt8) : (⟨l.toArray⟩ : ByteArray).size = l.length := by simp [ByteArray.size]
theorem bytes_append (a b : List UInt8) : Lib.byteCells a ++ Lib.byteCells b = Lib.byteCells (a ++ b) := by simp [Lib.byteCells]
theorem group19 {g : Nat} (h : g < gB) : Lib.nDigits g ≤ 19 := (padk_eq 19 g (by decide) (by rw [← gB_pow]; exact h)).2
theorem rep_zero (k : Nat) : Lib.repeatL [48] k = List.replicate k 48 := by
  induction k with
  | zero => rfl
  | succ k ih => rw [Lib.repeatL, ih, List.replicate_succ]; rfl

/-- one round of it. -/
theorem PrRel.step {w : World} {A K r q g k : Nat} {w3 : World} {X : Nat → Int} {gs : List Nat} {v' : Value} (_hK : K ≤ 9223372036854775807) (hk : k ≤ K)
    (R3 : Row w3 w.heap.size K X) (W3 : Wd X 0 k) (V3 : V X 0 k = (q : Int)) (own3 : w3.ownsRow (w.heap.size + 1) 22 1 v' (gs.length + 1) (gC gs ++ [.int .u64 (g : Int)])) (B3 : Below w.heap.size w w3) (hsz : w.heap.size + 1 ≤ w3.heap.size)
    (hA : A = gv gs + r * gB ^ gs.length) (hgs : ∀ g ∈ gs, g < gB) (hg : g < gB) (hr : q * gB + g = r) (hr0 : 0 < r) :
    PrRel w A K q (.slice (some ⟨w.heap.size, 0, none⟩) (tr X 0 k) (tr X 0 k)) v' w3 := by
  have hl := tr_le X 0 k
  refine ⟨tr X 0 k, tr X 0 k, X, gs ++ [g], rfl, Nat.le_refl _, by omega, R3, W3.mono hl, tr_nm X 0 k, by rw [V_tr]; exact V3, ?_, B3, hsz, ?_, ?_, ?_⟩
  · rw [gC_snoc]; simpa using own3
  · rw [gv_snoc, hA, List.length_append, List.length_singleton, Nat.pow_succ, ← hr]
    generalize gv gs = x
    generalize gB ^ gs.length = p
    generalize gB = b
    grind
  · intro x hx
    rcases List.mem_append.1 hx with h | h
    · exact hgs x h
    · simp at h; subst h; exact hg
  · intro hq
    subst hq
    exact ⟨g, by simp, by omega⟩

set_option maxHeartbeats 1600000 in
set_option maxRecDepth 100000 in
/-- 'Print': the decimal digits. -/
theorem print_any (v : Value) (n : Nat) (A : Nat) (w : World) (h : Nt w v n A) (hn : n ≤ 1000000) (ht : Tab w) :
    Calls Tryz.prog 19 #[v] w fun e w' => e = .returned (.string ⟨(Lib.decDigits A).toArray⟩) ∧ Below w.heap.size w w' := by
  have hAP := hid h.lt
  have H := hid (norm_any v n A w h (by omega))
  have HT := hid ht
  clear h ht
  go_enter Tryz.func19, Tryz.ntmps19
  go_wp2_with fail
  refine H.out.mono ?_
  rintro e w1 ⟨K, X, rfl, R1, W1, N1, V1, l1, B1, Z1⟩
  have HZ := hid Z1
  have HV1 := hid V1
  clear H Z1 V1
  by_cases hK : K = 0
  · subst hK
    have hA : A = 0 := by have := HV1.out; simp [V] at this; omega
    subst hA
    clear R1 W1 N1
    go_wp2
    go_ret
    exact ⟨by rw [Lib.decDigits_one (by decide)]; rfl, B1⟩
  · have hq : ((K : Int) == 0) = false := beq_eq_false_iff_ne.2 (by omega)
    have hApos : 0 < A := by
      obtain ⟨k', rfl⟩ : ∃ k', K = k' + 1 := ⟨K - 1, by omega⟩
      have := V_ge W1 (by rcases N1 with h | h; omega; simpa using h)
      have := P_pos k'
      have := HV1.out
      omega
    have HR := hid R1
    have HW := hid W1
    have HN := hid N1
    clear R1 W1 N1
    go_wp2
    go_loopg [3, 4] A (fun gk lv gv wr => Hid (PrRel w A K gk lv gv wr))
    case atStart => exact ⟨K, K, X, [], rfl, Nat.le_refl _, Nat.le_refl _, HR.out, HW.out, HN.out, HV1.out, World.ownsRow_nil _ _ _ _, B1, by rw [HZ.out]; exact Nat.le_refl _, by simp [gv], by simp, fun h => by omega⟩
    case round =>
      obtain ⟨k, c, X', gs, rfl, hkc, hcK, R2, W2, N2, V2, own, B2, hsz, hA, hgs, hlast⟩ := hrel.out
      clear hrel HR HW HN HV1 HZ B1
      by_cases hk0 : k = 0
      · subst hk0
        have hgk : gk = 0 := by simp [V] at V2; omega
        subst hgk
        obtain ⟨m, f, D, hm, hf, hDm, hD, hDp, hD0, hDl, hfm⟩ := groups_fn gs (hlast rfl)
        have hAg : A = D 0 := by rw [hA, hD0]; simp
        have hlen : m < 2 * n := group_len (A := A) (by rw [hAg, hD0]; have : 1 * gB ^ m ≤ f m * gB ^ m := Nat.mul_le_mul_right _ hfm; omega) hAP.out
        have hfb : ∀ j, j ≤ m → f j < gB := fun j hj => by
          rw [hf j]; simp only [List.getD, List.getElem?_eq_getElem (show j < gs.length by omega)]; exact hgs _ (List.getElem_mem _)
        rcases own.2 with ⟨-, h0⟩ | ⟨gg, cap, cur, rfl, hgb, hgg, hgc, hgm, hgs2, htk⟩
        · omega
        · have hcell : ∀ j, j ≤ m → wr.cell? ⟨gg, j, none⟩ = some (.int .u64 (f j : Int)) := fun j hj => by
            rw [own.cellAt j (by omega), hf j]
            simp [gC, List.getD, List.getElem?_eq_getElem (show j < gs.length by omega)]
          have hggs : gg < wr.heap.size := (Array.getElem?_eq_some_iff.1 hgg).1
          have hcm := hcell m (Nat.le_refl _)
          have hgm64 : f m < 18446744073709551616 := by have := hfb m (Nat.le_refl _); unfold gB at this; omega
          have TB := hid (HT.out.below B2 HT.out.lt)
          have HC := hid hcell
          have HF := hid hfb
          have HA := hid hAg
          have HDm := hid hDm
          have HD := hid hD
          have HDp := hid hDp
          rw [hm]
          clear hcell hgs hA hAg V2 own hgg htk hlast R2 W2 N2 hgs2 hm hf hDm hD hDp hD0 hDl hfb
          obtain ⟨wo, hwo⟩ : ∃ x, x = wr := ⟨_, rfl⟩
          subst hwo
          have A0 : Below wo.heap.size wo (wo.alloc (.cells #[.pointer none, .slice none 0 0] 73)) := (Below.refl _ _).alloc (Nat.le_refl _) _
          have HA0 := hid A0
          clear A0
          go_wp2_with fail
          refine (format_any (f m) hgm64 _ (TB.out.below HA0.out TB.out.lt)).mono ?_
          rintro e w2 ⟨rfl, Bf⟩
          have I0 := bld_below (bld_new wo) Bf
          have Bw : Below wo.heap.size wo w2 := HA0.out.trans (Bf.mono (by simp))
          have n19 := group19 (HF.out m (Nat.le_refl _))
          have HI0 := hid I0
          clear I0 Bf
          go_wp2_with fail
          refine (writeString_any wo.heap.size wo.heap.size [] ⟨(Lib.decDigits (f m)).toArray⟩ w2 HI0.out (by rw [bytes_size, Lib.decDigits_length]; simp; omega) Bw.size).mono ?_
          rintro e w3 ⟨rfl, I1, B3⟩
          have HI1 := hid I1
          clear I1 HI0
          go_wp2
          go_loopw [7] (fun i wb => ∃ k : Nat, k ≤ m ∧ i = .int .i64 ((k : Int) - 1) ∧ Hid (Lib.IsBuilder 73 5 wo.heap.size wo.heap.size (Lib.byteCells (Lib.decDigits (D k))) wb ∧ Below wo.heap.size wo wb ∧ Lib.nDigits (D k) ≤ 19 * (m + 1 - k))) (fun i _ => (intOf i + 1).toNat)
          case atStart => exact ⟨m, Nat.le_refl _, rfl, by rw [HDm.out]; exact Or.inr HI1.out, Bw.trans B3, by rw [HDm.out]; omega⟩
          case round =>
            obtain ⟨k, hk, rfl, hr⟩ := hrel
            obtain ⟨I2, B5, l2⟩ := hr.out
            have HI2 := hid I2
            clear I2 hr HI1 hcm HDm
            cases k with
            | zero =>
              go_wp2_with fail
              refine (Tryz.Builder_String_any wo.heap.size wo.heap.size _ wr HI2.out B5.size).mono ?_
              rintro e w4 ⟨rfl, B6⟩
              go_wp2
              go_ret
              refine ⟨?_, B2.trans ((B5.trans B6).mono (by omega))⟩
              rw [HA.out]; rfl
            | succ k =>
              have gk := HC.out k (by omega)
              have hgk' : wr.cell? ⟨gg, k, none⟩ = some (.int .u64 (f k : Int)) := (B5.cell (p := ⟨gg, k, none⟩) hggs).trans gk
              have fk := HF.out k (by omega)
              have n19' := group19 fk
              have fk64 : f k < 18446744073709551616 := by unfold gB at fk; omega
              have hdec := (dec_group (f k) (D (k + 1)) fk (HDp.out (k + 1) (by omega))).1
              rw [← HD.out k (by omega)] at hdec
              have HDec := hid hdec
              have hlk : (Lib.decDigits (f k)).length = Lib.nDigits (f k) := Lib.decDigits_length _
              have T2 := hid (TB.out.below B5 TB.out.lt)
              clear gk hdec fk
              go_wp2_with fail
              refine (format_any (f k) fk64 _ T2.out).mono ?_
              rintro e w4 ⟨rfl, B6⟩
              have I3 := hid (bld_below HI2.out B6)
              have B7 : Below wo.heap.size wo w4 := B5.trans (B6.mono B5.size)
              have HLk := hid hlk
              clear HI2
              go_wp2_with fail
              rw [show (19 : Int) - (Lib.nDigits (f k) : Int) = ((19 - Lib.nDigits (f k) : Nat) : Int) by omega]
              refine (Tryz.strings_Repeat ⟨#[48]⟩ (19 - Lib.nDigits (f k)) w4 (by omega) (by show 1 * _ ≤ _; omega)).mono ?_
              rintro e w5 ⟨rfl, B8⟩
              have I4 := hid (bld_below I3.out B8)
              have B9 : Below wo.heap.size wo w5 := B7.trans (B8.mono B7.size)
              clear I3 B6 B8
              have e48 : Lib.repeatL (⟨#[48]⟩ : ByteArray).data.toList (19 - Lib.nDigits (f k)) = List.replicate (19 - Lib.nDigits (f k)) 48 := rep_zero _
              rw [e48]
              go_wp2_with fail
              refine (writeString_any wo.heap.size wo.heap.size _ ⟨(List.replicate (19 - Lib.nDigits (f k)) (48 : UInt8)).toArray⟩ w5 I4.out (by rw [bytes_size, Lib.byteCells_length, Lib.decDigits_length, List.length_replicate]; omega) B9.size).mono ?_
              rintro e w6 ⟨rfl, I5, B10⟩
              have B11 : Below wo.heap.size wo w6 := B9.trans B10
              have HI5 := hid I5
              clear I5 I4
              go_wp2_with fail
              refine (writeString_any wo.heap.size wo.heap.size _ ⟨(Lib.decDigits (f k)).toArray⟩ w6 (Or.inr HI5.out) (by rw [bytes_size, List.length_append, Lib.strCells_length, bytes_size, Lib.byteCells_length, Lib.decDigits_length, Lib.decDigits_length, List.length_replicate]; omega) B11.size).mono ?_
              rintro e w7 ⟨rfl, I6, B12⟩
              have HI6 := hid I6
              clear I6 HI5
              go_wp2
              refine ⟨⟨k, by omega, rfl, ?_⟩, by simp [intOf]⟩
              refine ⟨Or.inr ?_, B11.trans B12, ?_⟩
              · have := HI6.out
                rw [Lib.strCells_toArray, Lib.strCells_toArray, List.append_assoc, bytes_append, bytes_append] at this
                rw [HDec.out]; exact this
              · rw [← Lib.decDigits_length, HDec.out, List.length_append, List.length_append, List.length_replicate, Lib.decDigits_length, Lib.decDigits_length]; omega
      · have hki : (0 : Int) < (k : Int) := by omega
        have hr0 : 0 < gk := by
          obtain ⟨k', rfl⟩ : ∃ k', k = k' + 1 := ⟨k - 1, by omega⟩
          have := V_ge W2 (by rcases N2 with h | h; omega; simpa using h)
          have := P_pos k'
          omega
        have hlen : gs.length < 2 * n := group_len (A := A) (by rw [hA]; have : 1 * gB ^ gs.length ≤ gk * gB ^ gs.length := Nat.mul_le_mul_right _ hr0; omega) hAP.out
        have HA := hid hA
        have HV2 := hid V2
        have HL := hid hlast
        have HG := hid hgs
        obtain ⟨i0, hi, hz0, hz1, hz2⟩ := info_parts Tryz.info22
        clear hA V2 hlast hgs N2
        go_wp2_with fail
        refine (divBy_any w.heap.size 0 k c K X' 10000000000000000000 wr R2 (by omega) (by omega) (by omega) W2 (by decide) (by decide)).mono ?_
        rintro e w2 ⟨r', X2, rfl, R3, O3, V3, W3, -, r0, r1⟩
        obtain ⟨g, rfl⟩ := Int.eq_ofNat_of_zero_le r0
        obtain ⟨q, hqv⟩ := Int.eq_ofNat_of_zero_le (V_bd k W3).1
        have hg : g < gB := by unfold gB; omega
        have hr : q * gB + g = gk := by
          have e1 := V3
          rw [hqv, HV2.out] at e1
          unfold gB
          omega
        have own2 := own_only own O3 (by omega)
        have hs2 := O3.size
        have HQ := hid hqv
        have HR := hid hr
        have OWN := hid own2
        have B3 := B2.trans (O3.below (Nat.le_refl _))
        have hsz2 : w.heap.size + 1 ≤ w2.heap.size := by omega
        clear V3 own own2 hqv hr hs2 r0 r1
        go_wp2_with (at_builtin; refine wpList_append_own _ rfl (.tmp 17) (.tmp 20) 26 rfl (w.heap.size + 1) 22 i0 (.int .u64 0) 1 8 Tryz.underlying26 hi hz0 hz1 hz2 rfl (by decide) _ gs.length (gC gs) rfl (OWN.out.alloc _) ⟨w2.heap.size, 0, none⟩ 1 1 [.int .u64 (g : Int)] rfl rfl (cell_one_new _ _ _) (by intro u hu; simp at hu; subst hu; rfl) (by unfold maxLen; omega) (by omega) (by simp; omega) ?_; intro v' w3 own3 grow3 _)
        have Bk : ∀ k, k ≤ w.heap.size → w3.heap[k]? = w2.heap[k]? := fun j hj => by
          rw [own_block (OWN.out.alloc (.cells #[.int .u64 (g : Int)] 22)) grow3 (by omega) (by simp; omega)]
          exact Below.heap_alloc _ _ _ (by omega)
        have R4 : Row w3 w.heap.size K X2 := by
          obtain ⟨cur, h1, h2, h3⟩ := R3
          exact ⟨cur, by rw [Bk _ (Nat.le_refl _)]; exact h1, h2, h3⟩
        have B4 : Below w.heap.size w w3 := B3.trans ⟨by rw [grow3.os]; rfl, by rw [grow3.tape]; rfl, by rw [grow3.output]; rfl, Nat.le_trans (by simp) grow3.size, fun j hj => Bk j (by omega)⟩
        have hsz3 : w.heap.size + 1 ≤ w3.heap.size := Nat.le_trans (by simp; omega) grow3.size
        have HB := hid Bk
        have HS := hid (PrRel.step (by omega) (by omega) R4 W3 HQ.out own3 B4 hsz3 HA.out HG.out hg HR.out hr0)
        clear Bk grow3 own3 R3 W3 R2 W2
        go_wp2_with fail
        refine (trimmed_pos w.heap.size 0 k c X2 0 w3 (by omega) (by omega) (fun j hj => by rw [Nat.zero_add]; exact R4.cell (by omega))).mono ?_
        rintro e w4 ⟨rfl, rfl⟩
        go_wp2
        go_roundg q
        case measure => have := HR.out; have : 1 * q ≤ q * gB := by rw [Nat.mul_comm q]; exact Nat.mul_le_mul_right q (by decide)
                        unfold gB at *; omega
        case rel => exact HS
end Go.Proofs.YtocfenjampmdlabGreatDoor.B
namespace Go.Proofs.YtocfenjampmdlabGreatDoor.B
open Go.RowKit NumB

/-- decimal digits without a 0 too much ahead of them. -/
def IsNum (s : ByteArray) : Prop := (∀ j (h : j < s.size), 48 ≤ s[j].toNat ∧ s[j].toNat ≤ 57) ∧ (s.toList = [48] ∨ ∃ h : 0 < s.size, s[0].toNat ≠ 48)

def NumRet (s : ByteArray) (e : Ending) : Prop := ∃ b, e = .returned (.bool b) ∧ (b = true ↔ IsNum s)
theorem numRet_no {s : ByteArray} (h : ¬ IsNum s) : NumRet s (.returned (.bool false)) := ⟨false, rfl, ⟨(fun e => by cases e), fun e => absurd e h⟩⟩
theorem numRet_yes {s : ByteArray} (h : IsNum s) : NumRet s (.returned (.bool true)) := ⟨true, rfl, ⟨fun _ => h, fun _ => rfl⟩⟩
theorem toList_eq (s : ByteArray) : s.toList = s.data.toList := Lib.toList_data s
theorem toList_len (s : ByteArray) : s.toList.length = s.size := by rw [toList_eq]; rfl
end Go.Proofs.YtocfenjampmdlabGreatDoor.B
namespace Go.Proofs.YtocfenjampmdlabGreatDoor.B
open Go.RowKit NumB

/-- the first k words of a row of the call's own. -/
def ws (X : Nat → Int) (k : Nat) : List Value := (List.range k).map fun j => Value.int .u64 (X j)
theorem ws_len (X : Nat → Int) (k : Nat) : (ws X k).length = k := by simp [ws]
theorem ws_get (X : Nat → Int) (k j : Nat) (h : j < k) : (ws X k)[j]? = some (.int .u64 (X j)) := by simp [ws, h]
theorem ws_set (X : Nat → Int) (k j : Nat) (v : Int) : (ws X k).set j (.int .u64 v) = ws (upd X j v) k := by
  apply List.ext_getElem?
  intro i
  rw [List.getElem?_set]
  by_cases hi : i < k
  · by_cases e : j = i
    · subst e; rw [if_pos rfl, if_pos (by rw [ws_len]; exact hi), ws_get _ _ _ hi, upd_same]
    · rw [if_neg e, ws_get _ _ _ hi, ws_get _ _ _ hi, upd_other _ _ _ _ (Ne.symm e)]
  · have h1 : (ws (upd X j v) k)[i]? = none := List.getElem?_eq_none (by rw [ws_len]; omega)
    rw [h1]
    by_cases e : j = i
    · subst e; rw [if_pos rfl, if_neg (by rw [ws_len]; exact hi)]
    · rw [if_neg e]; exact List.getElem?_eq_none (by rw [ws_len]; omega)
theorem ws_snoc (X : Nat → Int) (k : Nat) (v : Int) : ws X k ++ [.int .u64 v] = ws (upd X k v) (k + 1) := by
  unfold ws
  rw [List.range_succ, List.map_append]
  congr 1
  · exact List.map_congr_left (fun j hj => by rw [upd_other _ _ _ _ (by have := List.mem_range.1 hj; omega)])
  · simp [upd_same]
def OwnW (w : World) (base g k cap : Nat) (X : Nat → Int) : Prop := w.ownsRow base 22 1 (.slice (some ⟨g, 0, none⟩) k cap) k (ws X k)
theorem OwnW.cell {w : World} {base g k cap : Nat} {X : Nat → Int} (h : OwnW w base g k cap X) {j : Nat} (hj : j < k) : w.cell? ⟨g, j, none⟩ = some (.int .u64 (X j)) := by
  rw [World.ownsRow.cellAt h j (by omega), ws_get _ _ _ hj]
theorem OwnW.set {w : World} {base g k cap : Nat} {X : Nat → Int} (h : OwnW w base g k cap X) (j : Nat) (v : Int) : OwnW (w.setCell ⟨g, j, none⟩ (.int .u64 v)) base g k cap (upd X j v) := by
  have := (World.ownsRow.stored h j (.int .u64 v)).1
  rw [ws_set] at this
  exact this
theorem OwnW.lt {w : World} {base g k cap : Nat} {X : Nat → Int} (h : OwnW w base g k cap X) : base ≤ g ∧ g < w.heap.size := World.ownsRow.lt h g rfl
theorem OwnW.caps {w : World} {base g k cap : Nat} {X : Nat → Int} (h : OwnW w base g k cap X) : k ≤ cap ∧ cap ≤ 9223372036854775807 := by
  rcases h.2 with ⟨h', _⟩ | ⟨g', cap', cur, h', _, _, h1, h2, _⟩
  · simp at h'
  · simp only [Value.slice.injEq, Option.some.injEq, Addr.mk.injEq, and_true, true_and] at h'
    obtain ⟨rfl, rfl⟩ := h'
    unfold maxLen at h2
    exact ⟨h1, h2⟩
/-- two words out of a product and a word. -/
theorem two_word (m o : Int) (hm : 0 ≤ m) (ho : 0 ≤ o ∧ o ≤ 18446744073709551615) (h : m + o ≤ 340282366920938463463374607431768211455) :
    hi m + hi (lo m + o) = hi (m + o) ∧ lo (lo m + o) = lo (m + o) ∧ 0 ≤ hi (m + o) ∧ hi (m + o) ≤ 18446744073709551615 ∧ 0 ≤ hi m ∧ 0 ≤ hi (lo m + o) := by
  unfold hi lo; omega
theorem grp_step (x x' : Nat → Int) (k : Nat) (c t G : Int) (hx : x' k = x k) (h : V x' 0 k + c * P k = t) :
    V (upd x' k (lo (x' k * G + c))) 0 (k + 1) + hi (x' k * G + c) * P (k + 1) = t + x k * G * P k := by
  have e0 := V_upd_top x' 0 k (lo (x' k * G + c))
  rw [Nat.zero_add] at e0
  rw [e0]
  have e := lo_hi (x' k * G + c)
  rw [hx] at e ⊢
  generalize lo (x k * G + c) = l at *
  generalize hi (x k * G + c) = m at *
  simp only [P]
  generalize P k = p at *
  generalize x k = u at *
  have : l = u * G + c - m * 18446744073709551616 := by omega
  rw [← h, this]; grind

theorem nm_grow {X X' : Nat → Int} {j : Nat} (hX : Wd X 0 j) (hX' : Wd X' 0 j) (h : V X 0 j ≤ V X' 0 j) (hn : Nm X 0 j) : Nm X' 0 j := by
  cases j with
  | zero => exact Or.inl rfl
  | succ n =>
    refine Or.inr fun e => ?_
    rw [Nat.add_sub_cancel] at e
    have h1 := V_ge hX (by rcases hn with h' | h'; omega; simpa using h')
    have h2 := (V_bd n (hX'.mono (by omega))).2
    have h3 : V X' 0 (n + 1) = V X' 0 n + X' (0 + n) * P n := rfl
    rw [e, Int.zero_mul] at h3
    omega
end Go.Proofs.YtocfenjampmdlabGreatDoor.B
namespace Go.Proofs.YtocfenjampmdlabGreatDoor.B
open Go.RowKit NumB

/-- the number of decimal digits. -/
def dval (l : List UInt8) : Nat := l.foldl (fun a c => 10 * a + (c.toNat - 48)) 0
theorem dval_snoc (l : List UInt8) (c : UInt8) : dval (l ++ [c]) = 10 * dval l + (c.toNat - 48) := by simp [dval]
def Digs (l : List UInt8) : Prop := ∀ c ∈ l, 48 ≤ c.toNat ∧ c.toNat ≤ 57
theorem rev_ind {P : List UInt8 → Prop} (h0 : P []) (hs : ∀ t c, P t → P (t ++ [c])) (l : List UInt8) : P l := by
  have key : ∀ r : List UInt8, P r.reverse := by
    intro r
    induction r with
    | nil => exact h0
    | cons c t ih => rw [List.reverse_cons]; exact hs _ _ ih
  have := key l.reverse
  rwa [List.reverse_reverse] at this
theorem dval_lt (l : List UInt8) (h : Digs l) : dval l < 10 ^ l.length := by
  revert h
  refine rev_ind (P := fun l => Digs l → dval l < 10 ^ l.length) (fun _ => by simp [dval]) (fun t c ih h => ?_) l
  have h1 := ih (fun x hx => h x (by simp [hx]))
  have h2 := h c (by simp)
  rw [dval_snoc, List.length_append, List.length_singleton, Nat.pow_succ]
  omega
theorem dval_append (a : List UInt8) (b : List UInt8) : dval (a ++ b) = dval a * 10 ^ b.length + dval b := by
  refine rev_ind (P := fun b => dval (a ++ b) = dval a * 10 ^ b.length + dval b) (by simp [dval]) (fun t c ih => ?_) b
  rw [← List.append_assoc, dval_snoc, dval_snoc, ih, List.length_append, List.length_singleton, Nat.pow_succ]
  generalize dval a = x
  generalize 10 ^ t.length = p
  generalize dval t = z
  grind
theorem take_snoc (s : ByteArray) (k : Nat) (h : k < s.size) : s.data.toList.take (k + 1) = s.data.toList.take k ++ [s[k]] := by
  rw [List.take_succ_eq_append_getElem (by simpa using h)]; rfl

theorem ext_take (t : ByteArray) (n : Nat) : (t.extract 0 n).data.toList = t.data.toList.take n := by
  simp [ByteArray.data_extract]
theorem ext_drop (t : ByteArray) (n : Nat) : (t.extract n t.size).data.toList = t.data.toList.drop n := by
  rw [ByteArray.data_extract, Array.toList_extract, List.extract_eq_take_drop, List.take_of_length_le]
  rw [List.length_drop]
  exact Nat.le_refl _
theorem OwnW.nt {w : World} {base g k cap : Nat} {X : Nat → Int} (h : OwnW w base g k cap X) (hw : Wd X 0 k) : Nt w (.slice (some ⟨g, 0, none⟩) k cap) k (V X 0 k) := by
  obtain ⟨c1, c2⟩ := h.caps
  exact ⟨X, 0, ⟨_, cap, rfl, c1, c2, hw, (fun e => by cases e), fun _ => ⟨g, 0, rfl, h.lt.2, fun j hj => by rw [Nat.zero_add]; exact h.cell hj⟩⟩, rfl⟩
theorem OwnW.nz {w : World} {base g k cap : Nat} {X : Nat → Int} (h : OwnW w base g k cap X) (hw : Wd X 0 k) (hn : Nm X 0 k) : Nz w (.slice (some ⟨g, 0, none⟩) k cap) k (V X 0 k) := by
  obtain ⟨c1, c2⟩ := h.caps
  exact ⟨X, 0, ⟨_, cap, rfl, c1, c2, hw, (fun e => by cases e), fun _ => ⟨g, 0, rfl, h.lt.2, fun j hj => by rw [Nat.zero_add]; exact h.cell hj⟩⟩, hn, rfl⟩
def szOf : Value → Nat
  | .string t => t.size
  | _ => 0
def PsRel (s : ByteArray) (w : World) (g cap : Nat) (t : ByteArray) (k : Nat) (wr : World) : Prop :=
  ∃ (pos : Nat) (X : Nat → Int), t.data.toList = s.data.toList.drop pos ∧ t.size + pos = s.size ∧ OwnW wr g g k cap X ∧ Wd X 0 k ∧ V X 0 k = (dval (s.data.toList.take pos) : Int) ∧ Below g w wr ∧ g ≤ wr.heap.size ∧ k + (t.size + 18) / 19 ≤ cap ∧ (pos = 0 ∨ t.size % 19 = 0) ∧ Nm X 0 k
theorem take_add' (l : List UInt8) (p n : Nat) : l.take (p + n) = l.take p ++ (l.drop p).take n := by rw [List.take_add]
theorem group_val (l : List UInt8) (p n : Nat) (h : p + n ≤ l.length) : dval (l.take (p + n)) = dval (l.take p) * 10 ^ n + dval ((l.drop p).take n) := by
  rw [take_add', dval_append, List.length_take, List.length_drop, Nat.min_eq_left (by omega)]
theorem pow19 : (10 : Nat) ^ 19 = 10000000000000000000 := by decide
theorem hid_digs {s : ByteArray} (H : Hid (IsNum s)) : Digs s.data.toList := by
  intro c hc
  obtain ⟨j, hj, rfl⟩ := List.getElem_of_mem hc
  exact H.out.1 j (by simpa using hj)
theorem PsRel.step {s : ByteArray} {w : World} {g cap : Nat} {t t1 t2 : ByteArray} {k k' n : Nat} {wr wr' : World} {X X' : Nat → Int} {pos : Nat}
    (h1 : t.data.toList = s.data.toList.drop pos) (h2 : t.size + pos = s.size) (h3 : V X 0 k = (dval (s.data.toList.take pos) : Int)) (h4 : Below g w wr) (h6 : k + (t.size + 18) / 19 ≤ cap) (h7 : pos = 0 ∨ t.size % 19 = 0)
    (hn : n = (t.size - 1) % 19 + 1) (h0 : 0 < t.size)
    (e1 : t1.data.toList = t.data.toList.take n) (e2 : t2.data.toList = t.data.toList.drop n)
    (c1 : OwnW wr' g g k' cap X') (c2 : Wd X' 0 k') (c3 : V X' 0 k' = V X 0 k * 10000000000000000000 + (dval t1.data.toList : Int)) (c4 : k' ≤ k + 1) (c5 : Below g wr wr') (c6 : wr.heap.size ≤ wr'.heap.size) (hg : g ≤ wr.heap.size) (c7 : Nm X' 0 k') :
    PsRel s w g cap t2 k' wr' ∧ t2.size < t.size := by
  have l1 : s.data.toList.length = s.size := rfl
  have l2 : t.data.toList.length = t.size := rfl
  have l3 : t2.data.toList.length = t2.size := rfl
  have l4 : t2.size = t.size - n := by rw [← l3, e2, List.length_drop, l2]
  have hnt : n ≤ t.size := by omega
  refine ⟨⟨pos + n, X', ?_, by omega, c1, c2, ?_, h4.trans c5, by omega, by omega, by omega, c7⟩, by omega⟩
  · rw [e2, h1, List.drop_drop]
  · rw [group_val _ _ _ (by omega), ← h1, ← e1, c3, h3]
    rcases h7 with rfl | h7
    · simp [dval]
    · have : n = 19 := by omega
      subst this
      rw [pow19]
      simp [Int.natCast_add, Int.natCast_mul]
end Go.Proofs.YtocfenjampmdlabGreatDoor.B
namespace Go.Proofs.YtocfenjampmdlabGreatDoor.B
open Go.RowKit NumB
open Go.Lib (decDigits)

theorem dec_small {u : Nat} (h : u < 10) : decDigits u = [UInt8.ofNat (48 + u)] := by rw [decDigits, dif_pos h]
theorem dig_nat {d : Nat} (h : d < 10) : (UInt8.ofNat (48 + d)).toNat = 48 + d := by simp; omega
theorem dec_ind {Q : Nat → Prop} (h0 : ∀ u, u < 10 → Q u) (hs : ∀ u, ¬ u < 10 → Q (u / 10) → Q u) (u : Nat) : Q u := by
  induction u using Nat.strongRecOn with
  | ind u ih =>
    by_cases h : u < 10
    · exact h0 u h
    · exact hs u h (ih _ (by omega))
theorem dval_dec (u : Nat) : dval (decDigits u) = u := by
  refine dec_ind (Q := fun u => dval (decDigits u) = u) (fun u h => ?_) (fun u h ih => ?_) u
  · rw [dec_small h]
    have := dig_nat h
    simp only [dval, List.foldl, this]; omega
  · have := dig_nat (d := u % 10) (by omega)
    rw [decDigits_big h, dval_snoc, ih, this]; omega
theorem digs_dec (u : Nat) : Digs (decDigits u) := by
  refine dec_ind (Q := fun u => Digs (decDigits u)) (fun u h => ?_) (fun u h ih => ?_) u
  · rw [dec_small h]
    have := dig_nat h
    intro c hc
    simp only [List.mem_singleton] at hc
    subst hc; rw [this]; omega
  · have := dig_nat (d := u % 10) (by omega)
    rw [decDigits_big h]
    intro c hc
    rcases List.mem_append.1 hc with hc | hc
    · exact ih c hc
    · simp only [List.mem_singleton] at hc
      subst hc; rw [this]; omega
theorem head_dec (u : Nat) (hu : 0 < u) : ∃ c l, decDigits u = c :: l ∧ c.toNat ≠ 48 := by
  refine dec_ind (Q := fun u => 0 < u → ∃ c l, decDigits u = c :: l ∧ c.toNat ≠ 48) (fun u h h0 => ?_) (fun u h ih h0 => ?_) u hu
  · exact ⟨_, [], dec_small h, by rw [dig_nat h]; omega⟩
  · obtain ⟨c, l, e, hc⟩ := ih (by omega)
    exact ⟨c, l ++ [UInt8.ofNat (48 + u % 10)], by rw [decDigits_big h, e]; rfl, hc⟩
theorem len_dec (u : Nat) : ∀ m, 0 < m → u < 10 ^ m → (decDigits u).length ≤ m := by
  refine dec_ind (Q := fun u => ∀ m, 0 < m → u < 10 ^ m → (decDigits u).length ≤ m) (fun u h m h0 _ => ?_) (fun u h ih m h0 hm => ?_) u
  · rw [dec_small h]; exact h0
  · rw [decDigits_big h, List.length_append, List.length_singleton]
    match m, h0 with
    | 1, _ => omega
    | m + 2, _ =>
      have := ih (m + 1) (by omega) (by rw [Nat.pow_succ] at hm; omega)
      omega
theorem isNum_dec (u : Nat) : IsNum ⟨(decDigits u).toArray⟩ := by
  constructor
  · intro j hj
    exact digs_dec u _ (by show (decDigits u).toArray[j] ∈ _; simp)
  · by_cases h : u = 0
    · subst h
      left
      rw [toList_eq]
      show (decDigits 0) = [48]
      rw [dec_small (by decide)]; rfl
    · right
      obtain ⟨c, l, e, hc⟩ := head_dec u (by omega)
      rw [e]
      exact ⟨by simp [ByteArray.size], hc⟩
theorem P_le_pow : ∀ k, P k ≤ ((10 ^ (20 * k) : Nat) : Int)
  | 0 => by simp [P]
  | k + 1 => by
    have ih := P_le_pow k
    rw [show 20 * (k + 1) = 20 * k + 20 by omega, Nat.pow_add]
    have e : (10 : Nat) ^ 20 = 100000000000000000000 := by decide
    rw [e]
    generalize 10 ^ (20 * k) = p at *
    simp only [P]
    omega
theorem len_dec_nt {w : World} {v : Value} {n A : Nat} (h : Nt w v n A) : (decDigits A).length ≤ 20 * n + 1 := by
  refine len_dec A (20 * n + 1) (by omega) ?_
  have h1 := h.lt
  have h2 := P_le_pow n
  rw [Nat.pow_succ]
  omega
end Go.Proofs.YtocfenjampmdlabGreatDoor.B
