/- Which texts are whole numbers: what bigint's Parse answers. -/
import Derived.Test.YtnaiahjgdakneaaDoorAwb
import Derived.Test.YtnaiahjgdakneaaDoorRpa
namespace Go.Proofs.YtnaiahjgdakneaaDoor
open Go.RowKit Num
open Go.Lib (decDigits)

/-- a text is a whole number. -/
def OKs (neg : Bool) (t : List UInt8) : Prop := IsNum ⟨t.toArray⟩ ∧ (neg = true → dval t ≠ 0)
/-- the code, and the text that is told. -/
def TX (s : ByteArray) (neg : Bool) (t : List UInt8) (c : Int) (b : ByteArray) : Prop := (OKs neg t ∧ c = 0 ∧ b = s) ∨ (¬ OKs neg t ∧ c = 16 ∧ b = ⟨#[48]⟩)
theorem TX.uniq {s : ByteArray} {neg : Bool} {t : List UInt8} {c c' : Int} {b b' : ByteArray} (h : TX s neg t c b) (h' : TX s neg t c' b') : c = c' ∧ b = b' := by
  rcases h with ⟨h1, h2, h3⟩ | ⟨h1, h2, h3⟩ <;> rcases h' with ⟨k1, k2, k3⟩ | ⟨k1, k2, k3⟩
  · exact ⟨by omega, by rw [h3, k3]⟩
  · exact absurd h1 k1
  · exact absurd k1 h1
  · exact ⟨by omega, by rw [h3, k3]⟩
/-- what s is made of. -/
def Made (s : ByteArray) (neg : Bool) (t : List UInt8) : Prop := s.data.toList = if neg then 45 :: t else t
theorem idt_zero : (⟨(idt 0).toArray⟩ : ByteArray) = ⟨#[48]⟩ := by decide +kernel
theorem num_dec {t : List UInt8} (h : IsNum ⟨t.toArray⟩) : decDigits (dval t) = t := by
  have := congrArg (fun b : ByteArray => b.data.toList) (num_text h)
  simpa [dt] using this.symm
theorem idt_made {s : ByteArray} {neg : Bool} {t : List UInt8} (hm : Made s neg t) (h : OKs neg t) : (⟨(idt (sg neg (dval t))).toArray⟩ : ByteArray) = s := by
  apply bytes_eq
  show idt (sg neg (dval t)) = s.data.toList
  rw [hm]
  unfold idt sg
  cases neg
  · simp only [Bool.false_eq_true, if_false]
    rw [if_neg (by omega), Int.natAbs_natCast, num_dec h.1]
  · have := h.2 rfl
    simp only [if_true]
    rw [if_pos (by omega), Int.natAbs_neg, Int.natAbs_natCast, num_dec h.1]
set_option maxHeartbeats 1600000 in
set_option maxRecDepth 100000 in
theorem Parse_any (s : ByteArray) (neg : Bool) (t : List UInt8) (w : World) (h1 : Lib.hasPrefix s.data.toList [45] = neg) (h2 : Lib.trimPrefix s.data.toList [45] = t) (hm : Made s neg t) (hl : t.length ≤ 200) :
    Calls Tryd.prog 6 #[.string s] w fun e w' => (∃ v A c, e = .returned (.tuple #[v, .int .i64 c]) ∧ It w' v 11 A ∧ TX s neg t c ⟨(idt A).toArray⟩) ∧ Below w.heap.size w w' := by
  have P1 := Tryd.strings_HasPrefix s ⟨#[45]⟩
  have P2 := Tryd.strings_TrimPrefix s ⟨#[45]⟩
  rw [show Lib.hasPrefix s.data.toList (⟨#[45]⟩ : ByteArray).data.toList = neg from h1] at P1
  rw [show Lib.trimPrefix s.data.toList (⟨#[45]⟩ : ByteArray).data.toList = t from h2] at P2
  have H1 := hid P1
  have H2 := hid P2
  have HM := hid hm
  have T0 := hid (below_new w (.cells #[.bool false, .slice none 0 0] 26))
  have V0 := hid (var_new w)
  have hsz : (⟨t.toArray⟩ : ByteArray).size = t.length := by simp [ByteArray.size]
  clear P1 P2 h1 h2 hm
  by_cases hn : IsNum ⟨t.toArray⟩
  · have H3 := hid (fun W => parse_yes ⟨t.toArray⟩ W (by omega) hn)
    by_cases hz : neg = true ∧ dval t = 0
    · have TT : Hid (TX s neg t 16 ⟨#[48]⟩) := Or.inr ⟨fun h => h.2 hz.1 hz.2, rfl, rfl⟩
      obtain ⟨rfl, hz⟩ := hz
      have HZ := hid hz
      clear hz hn
      go_enter Tryd.func6, Tryd.ntmps6
      go_wp2_with fail
      generalize w.alloc (.cells #[.bool false, .slice none 0 0] 26) = wa at *
      refine (H1.out wa).mono ?_
      rintro e w1 ⟨rfl, rfl⟩
      go_wp2_with fail
      refine (H2.out w1).mono ?_
      rintro e w2 ⟨rfl, rfl⟩
      go_wp2_with fail
      refine (H3.out w2).mono ?_
      rintro e w3 ⟨v, k, rfl, z, hk, C3, _⟩
      have z' : Nz w3 v k 0 := by have := z; simp only [HZ.out] at this; exact this
      have hk0 : k = 0 := z'.len.1.1 rfl
      subst hk0
      obtain ⟨ao, cap, rfl⟩ := z.shape
      have V3 := hid (V0.out.go C3)
      obtain ⟨c0, c1, f0, f1, l0⟩ := Var.facts V3.out
      clear z z' H1 H2 H3
      go_wp2
      refine bodyPost_ret (ret_var2 (Var.set V3.out) rfl rfl rfl) rfl ?_
      exact ⟨⟨_, 0, _, rfl, ⟨false, none, 0, 0, 0, rfl, nil_nz _, by omega, rfl, by simp, by omega⟩, by rw [idt_zero]; exact TT.out⟩, (bt T0.out C3).trans ((only_two _ _ _ _).below (Nat.le_refl _))⟩
    · have ok : OKs neg t := ⟨hn, fun a b => hz ⟨a, b⟩⟩
      have TT : Hid (TX s neg t 0 ⟨(idt (sg neg (dval t))).toArray⟩) := Or.inl ⟨ok, rfl, idt_made HM.out ok⟩
      have HZ := hid hz
      clear hz hn ok
      go_enter Tryd.func6, Tryd.ntmps6
      go_wp2_with fail
      generalize w.alloc (.cells #[.bool false, .slice none 0 0] 26) = wa at *
      refine (H1.out wa).mono ?_
      rintro e w1 ⟨rfl, rfl⟩
      go_wp2_with fail
      refine (H2.out w1).mono ?_
      rintro e w2 ⟨rfl, rfl⟩
      go_wp2_with fail
      refine (H3.out w2).mono ?_
      rintro e w3 ⟨v, k, rfl, z, hk, C3, _⟩
      have zl := z.len.1
      have Z := hid z
      obtain ⟨ao, cap, rfl⟩ := z.shape
      have V3 := hid (V0.out.go C3)
      have kb : k ≤ 11 := by simp only [hsz] at hk; omega
      have hk0 : neg = true → ((k : Int) == 0) = false := fun hneg => beq_eq_false_iff_ne.2 (fun e => HZ.out ⟨hneg, by have := zl.2 (by omega); omega⟩)
      clear z H1 H2 H3 zl hk
      have SG := hid (signed_any neg _ k _ w3 Z.out)
      cases neg
      · clear hk0
        go_wp2_with fail
        refine SG.out.mono ?_
        rintro e w4 ⟨v4, rfl, I4, C4⟩
        obtain ⟨p4, a4, k4, cc4, rfl⟩ := I4.shape
        have J4 := hid I4
        have V4 := hid (V3.out.go C4)
        obtain ⟨c0, c1, f0, f1, l0⟩ := Var.facts V4.out
        clear I4
        go_wp2
        refine bodyPost_ret (ret_var2 (Var.set V4.out) rfl rfl rfl) rfl ?_
        exact ⟨⟨_, _, _, rfl, (J4.out.off V4.out (only_two _ _ _ _)).mono kb, TT.out⟩, (bt (bt T0.out C3) C4).trans ((only_two _ _ _ _).below (Nat.le_refl _))⟩
      · have hk1 := hk0 rfl
        clear hk0
        go_wp2_with fail
        refine SG.out.mono ?_
        rintro e w4 ⟨v4, rfl, I4, C4⟩
        obtain ⟨p4, a4, k4, cc4, rfl⟩ := I4.shape
        have J4 := hid I4
        have V4 := hid (V3.out.go C4)
        obtain ⟨c0, c1, f0, f1, l0⟩ := Var.facts V4.out
        clear I4
        go_wp2
        refine bodyPost_ret (ret_var2 (Var.set V4.out) rfl rfl rfl) rfl ?_
        exact ⟨⟨_, _, _, rfl, (J4.out.off V4.out (only_two _ _ _ _)).mono kb, TT.out⟩, (bt (bt T0.out C3) C4).trans ((only_two _ _ _ _).below (Nat.le_refl _))⟩
  · have TT : Hid (TX s neg t 16 ⟨#[48]⟩) := Or.inr ⟨fun h => hn h.1, rfl, rfl⟩
    have H3 := hid (fun W => parse_no ⟨t.toArray⟩ W (by omega) hn)
    clear hn
    go_enter Tryd.func6, Tryd.ntmps6
    go_wp2_with fail
    generalize w.alloc (.cells #[.bool false, .slice none 0 0] 26) = wa at *
    refine (H1.out wa).mono ?_
    rintro e w1 ⟨rfl, rfl⟩
    go_wp2_with fail
    refine (H2.out w1).mono ?_
    rintro e w2 ⟨rfl, rfl⟩
    go_wp2_with fail
    refine (H3.out w2).mono ?_
    rintro e w3 ⟨rfl, rfl⟩
    obtain ⟨c0, c1, f0, f1, l0⟩ := Var.facts V0.out
    clear H1 H2 H3
    go_wp2
    refine bodyPost_ret (ret_var2 (Var.set V0.out) rfl rfl rfl) rfl ?_
    exact ⟨⟨_, 0, _, rfl, ⟨false, none, 0, 0, 0, rfl, nil_nz _, by omega, rfl, by simp, by omega⟩, by rw [idt_zero]; exact TT.out⟩, T0.out.trans ((only_two _ _ _ _).below (Nat.le_refl _))⟩
end Go.Proofs.YtnaiahjgdakneaaDoor
