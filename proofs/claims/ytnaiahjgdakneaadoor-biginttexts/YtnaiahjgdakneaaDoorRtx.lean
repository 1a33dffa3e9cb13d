/- Which texts are whole numbers, after the reference. -/
import Derived.Test.YtnaiahjgdakneaaDoorBtx
namespace Go.Proofs.YtnaiahjgdakneaaDoor
open Go.RowKit Num
open Go.Lib (decDigits)

/-- the reference's text of a number. -/
def rtx (ng : Bool) (S : ByteArray) : ByteArray := if ng then ⟨#[45]⟩ ++ S else S
set_option maxHeartbeats 800000 in
theorem made_any (neg : Bool) (S : ByteArray) (w : World) :
    Calls Tryd.prog 24 #[.bool neg, .string S] w fun e w' => e = .returned (.agg #[.bool (neg && !(S.toList == [48])), .string S]) ∧ Below w.heap.size w w' := by
  go_enter Tryd.func24, Tryd.ntmps24
  cases neg
  · go_wp2
    refine bodyPost_ret (v := .agg #[.bool false, .string S]) (by simp [results, Tryd.results24, go_sem]) rfl ?_
    exact ⟨rfl, below_new w _⟩
  · go_wp2
    refine bodyPost_ret (v := .agg #[.bool (!(S.toList == [48])), .string S]) (by simp [results, Tryd.results24, go_sem]) rfl ?_
    exact ⟨by simp, below_new w _⟩
set_option maxHeartbeats 800000 in
theorem rprint_any (ng : Bool) (S : ByteArray) (w : World) (hS : S.size ≤ 100000) :
    Calls Tryd.prog 25 #[.agg #[.bool ng, .string S]] w fun e w' => e = .returned (.string (rtx ng S)) ∧ Below w.heap.size w w' := by
  have h1 : (S.size : Int) ≤ 100000 := by omega
  go_enter Tryd.func25, Tryd.ntmps25
  cases ng
  · go_wp2
    go_ret
    exact ⟨rfl, below_new w _⟩
  · go_wp2
    go_ret
    exact ⟨rfl, below_new w _⟩
theorem Blk.two {w : World} {g : Nat} {a b : Value} {t : TypeId} (h : Blk w g #[a, b] t) :
    w.cell? ⟨g, 0, none⟩ = some a ∧ w.cell? ⟨g, 1, none⟩ = some b ∧ w.frozen? ⟨g, 0, none⟩ = false ∧ w.frozen? ⟨g, 1, none⟩ = false ∧ g < w.heap.size := by
  have hl := Blk.lt h
  unfold Blk at h
  refine ⟨?_, ?_, ?_, ?_, hl⟩
  · simp only [World.cell?, h]; rfl
  · simp only [World.cell?, h]; rfl
  · simp only [World.frozen?, h]; rfl
  · simp only [World.frozen?, h]; rfl
theorem Blk.set2 {w : World} {g : Nat} {a b a' b' : Value} {t : TypeId} (h : Blk w g #[a, b] t) : Blk ((w.setCell ⟨g, 0, none⟩ a').setCell ⟨g, 1, none⟩ b') g #[a', b'] t := by
  unfold Blk at *
  have e1 := heap_setCell_same w g 0 _ _ a' h
  rw [heap_setCell_same _ g 1 _ _ b' e1]
  rfl
theorem ret_ref2 {fn : Func} {tmps : Array Value} {w : World} {t u : Tmp} {g : Nat} {p : Bool} {S : ByteArray} {v : Value} (hv : Blk w g #[.bool p, .string S] 31) (h : fn.results = #[.cell t 31, .tmp u])
    (ht : tmps[t]?.getD undef = .pointer (some ⟨g, 0, none⟩)) (hu : tmps[u]?.getD undef = v) :
    (results fn tmps).run Tryd.prog w = .ok (.tuple #[.agg #[.bool p, .string S], v]) w := by
  obtain ⟨c0, c1, _⟩ := hv.two
  simp [results, h, go_sem, ht, hu, c0, c1]
theorem extract_one {s : ByteArray} {t : List UInt8} (hm : s.data.toList = 45 :: t) : s.extract 1 (t.length + 1) = ⟨t.toArray⟩ := by
  apply bytes_eq
  rw [ByteArray.data_extract, Array.toList_extract, hm]
  simp
theorem zero_text {t : List UInt8} (h : IsNum ⟨t.toArray⟩) : ((⟨t.toArray⟩ : ByteArray).toList == [48]) = decide (dval t = 0) := by
  rw [toList_eq]
  by_cases hz : dval t = 0
  · have := num_dec h
    rw [hz, dec_small (by decide)] at this
    rw [decide_eq_true hz]
    show (t == [48]) = true
    rw [← this]
    rfl
  · rw [decide_eq_false hz]
    show (t == [48]) = false
    rw [beq_eq_false_iff_ne]
    rintro rfl
    exact hz (by decide)
set_option maxHeartbeats 1600000 in
set_option maxRecDepth 100000 in
theorem rp_yes (s : ByteArray) (t : List UInt8) (w : World) (hm : s.data.toList = 45 :: t) (hl : t.length ≤ 200) :
    Calls Tryd.prog 7 #[.string s] w fun e w' => (∃ ng S c, e = .returned (.tuple #[.agg #[.bool ng, .string S], .int .i64 c]) ∧ S.size ≤ 200 ∧ TX s true t c (rtx ng S)) ∧ Below w.heap.size w w' := by
  have hsz : s.size = t.length + 1 := by rw [Lib.size_eq, hm]; rfl
  have he := empty_no (s := s) (by omega)
  have h0 : s[0].toNat = 45 := by
    have : s[0] = s.data.toList[0]'(by rw [hm]; simp) := rfl
    rw [this]
    simp only [hm, List.getElem_cons_zero]
    rfl
  have hpos : (0 : Int) < (s.size : Int) := by omega
  have h0' : ((s[0].toNat : Int) == 45) = true := by simp [h0]
  have EX := hid (extract_one hm)
  have TS : (⟨t.toArray⟩ : ByteArray).size = t.length := by simp [ByteArray.size]
  have T0 : Hid (∀ u v : Value, Below w.heap.size w (w.alloc (.cells #[u, v] 31))) := fun u v => below_new w _
  have ZT : Hid (IsNum ⟨t.toArray⟩ → ((⟨t.toArray⟩ : ByteArray).toList == [48]) = decide (dval t = 0)) := fun h => zero_text h
  have ST : Hid (s = ⟨#[45]⟩ ++ ⟨t.toArray⟩) := by
    apply bytes_eq
    rw [hm]
    simp
  have HM := hid hm
  clear hm
  go_enter Tryd.func7, Tryd.ntmps7
  go_wp2_with fail
  rw [EX.out]
  refine (rparse_any ⟨t.toArray⟩ _ (by omega)).mono ?_
  rintro e w2 ⟨⟨c, rfl, hc⟩, rfl⟩
  rcases hc with ⟨h1, rfl⟩ | ⟨_, h2, _⟩ | ⟨h1, _, rfl⟩
  · have TT : Hid (TX s true t 16 (rtx false ⟨#[48]⟩)) := Or.inr ⟨fun h => h1 h.1, rfl, rfl⟩
    clear h1
    go_wp2
    refine bodyPost_ret (v := .tuple #[.agg #[.bool false, .string ⟨#[48]⟩], .int .i64 16]) (by simp [results, Tryd.results7, go_sem]) rfl ?_
    exact ⟨⟨_, _, _, rfl, by decide, TT.out⟩, T0.out _ _⟩
  · omega
  · have zt := ZT.out h1
    by_cases hz : dval t = 0
    · rw [decide_eq_true hz] at zt
      have TT : Hid (TX s true t 16 (rtx false ⟨#[48]⟩)) := Or.inr ⟨fun h => h.2 rfl hz, rfl, rfl⟩
      clear h1 hz
      generalize (⟨t.toArray⟩ : ByteArray) = T at *
      go_wp2
      refine bodyPost_ret (v := .tuple #[.agg #[.bool false, .string ⟨#[48]⟩], .int .i64 16]) (by simp [results, Tryd.results7, go_sem]) rfl ?_
      exact ⟨⟨_, _, _, rfl, by decide, TT.out⟩, T0.out _ _⟩
    · rw [decide_eq_false hz] at zt
      have TT : Hid (TX s true t 0 (rtx true ⟨t.toArray⟩)) := Or.inl ⟨⟨h1, fun _ => hz⟩, rfl, by rw [ST.out]; rfl⟩
      have MA := made_any true ⟨t.toArray⟩
      rw [zt] at MA
      have MA' := hid MA
      clear h1 hz MA
      generalize (⟨t.toArray⟩ : ByteArray) = T at *
      have TSz : T.size ≤ 200 := by omega
      go_wp2_with fail
      have G0 : Hid (Blk (w.alloc (.cells #[.bool false, .string ⟨#[]⟩] 31)) w.heap.size #[.bool false, .string ⟨#[]⟩] 31) := Blk.new _ _ _
      have B0 := hid (T0.out (.bool false) (.string ⟨#[]⟩))
      generalize w.alloc (.cells #[.bool false, .string ⟨#[]⟩] 31) = wa at *
      refine (MA'.out _).mono ?_
      rintro e w3 ⟨rfl, C3⟩
      have G3 := hid (G0.out.below C3 (Blk.lt G0.out))
      have B3 := hid (bt B0.out C3)
      obtain ⟨c0, c1, f0, f1, l0⟩ := Blk.two G3.out
      clear C3 MA' G0
      go_wp2
      refine bodyPost_ret (ret_ref2 (Blk.set2 G3.out) rfl rfl rfl) rfl ?_
      exact ⟨⟨_, _, _, rfl, TSz, TT.out⟩, B3.out.trans ((only_two _ _ _ _).below (Nat.le_refl _))⟩
set_option maxHeartbeats 1600000 in
set_option maxRecDepth 100000 in
theorem rp_rest (s : ByteArray) (w : World) (hm : ∀ t, s.data.toList ≠ 45 :: t) (hl : s.size ≤ 200) :
    Calls Tryd.prog 7 #[.string s] w fun e w' => (∃ ng S c, e = .returned (.tuple #[.agg #[.bool ng, .string S], .int .i64 c]) ∧ S.size ≤ 200 ∧ TX s false s.data.toList c (rtx ng S)) ∧ Below w.heap.size w w' := by
  have es : (⟨s.data.toList.toArray⟩ : ByteArray) = s := by apply bytes_eq; rfl
  have T0 : Hid (∀ u v : Value, Below w.heap.size w (w.alloc (.cells #[u, v] 31))) := fun u v => below_new w _
  have NO : Hid (¬ IsNum s → TX s false s.data.toList 16 (rtx false ⟨#[48]⟩)) := fun h => Or.inr ⟨fun h' => h (by have := h'.1; rw [es] at this; exact this), rfl, rfl⟩
  have YES : Hid (IsNum s → TX s false s.data.toList 0 (rtx false s)) := fun h => Or.inl ⟨⟨by rw [es]; exact h, (fun e => by cases e)⟩, rfl, rfl⟩
  have MA := hid (made_any false s)
  have HH : s.toList.isEmpty = true ∨ (s.toList.isEmpty = false ∧ (0 : Int) < (s.size : Int) ∧ ∃ h : 0 < s.size, ((s[0].toNat : Int) == 45) = false) := by
    by_cases hz : s.size = 0
    · exact Or.inl (empty_yes hz)
    · have hpos : 0 < s.size := by omega
      refine Or.inr ⟨empty_no hpos, by omega, hpos, beq_eq_false_iff_ne.2 fun h => ?_⟩
      have hd : s[0] = s.data.toList[0]'(by rw [← Lib.size_eq]; exact hpos) := rfl
      have h45 : s[0] = 45 := UInt8.toNat_inj.1 (by rw [show (45 : UInt8).toNat = 45 from rfl]; omega)
      cases hc : s.data.toList with
      | nil => rw [Lib.size_eq, hc] at hpos; simp at hpos
      | cons c t =>
        refine hm t ?_
        rw [hc]
        have : s.data.toList[0]'(by rw [← Lib.size_eq]; exact hpos) = c := by simp only [hc, List.getElem_cons_zero]
        rw [hd, this] at h45
        rw [h45]
  clear hm es
  rcases HH with he | ⟨he, hp, hpos, h0⟩
  · go_enter Tryd.func7, Tryd.ntmps7
    go_wp2_with fail
    refine (rparse_any s _ (by omega)).mono ?_
    rintro e w2 ⟨⟨c, rfl, hc⟩, rfl⟩
    rcases hc with ⟨h1, rfl⟩ | ⟨_, h2, _⟩ | ⟨h1, _, rfl⟩
    · have TT := hid (NO.out h1)
      clear h1
      go_wp2
      refine bodyPost_ret (v := .tuple #[.agg #[.bool false, .string ⟨#[48]⟩], .int .i64 16]) (by simp [results, Tryd.results7, go_sem]) rfl ?_
      exact ⟨⟨_, _, _, rfl, by decide, TT.out⟩, T0.out _ _⟩
    · omega
    · have TT := hid (YES.out h1)
      clear h1
      go_wp2_with fail
      have G0 : Hid (Blk (w.alloc (.cells #[.bool false, .string ⟨#[]⟩] 31)) w.heap.size #[.bool false, .string ⟨#[]⟩] 31) := Blk.new _ _ _
      have B0 := hid (T0.out (.bool false) (.string ⟨#[]⟩))
      generalize w.alloc (.cells #[.bool false, .string ⟨#[]⟩] 31) = wa at *
      refine (MA.out _).mono ?_
      rintro e w3 ⟨rfl, C3⟩
      have G3 := hid (G0.out.below C3 (Blk.lt G0.out))
      have B3 := hid (bt B0.out C3)
      obtain ⟨c0, c1, f0, f1, l0⟩ := Blk.two G3.out
      clear C3 MA G0
      go_wp2
      refine bodyPost_ret (ret_ref2 (Blk.set2 G3.out) rfl rfl rfl) rfl ?_
      exact ⟨⟨_, _, _, rfl, hl, TT.out⟩, B3.out.trans ((only_two _ _ _ _).below (Nat.le_refl _))⟩
  · go_enter Tryd.func7, Tryd.ntmps7
    go_wp2_with fail
    refine (rparse_any s _ (by omega)).mono ?_
    rintro e w2 ⟨⟨c, rfl, hc⟩, rfl⟩
    rcases hc with ⟨h1, rfl⟩ | ⟨_, h2, _⟩ | ⟨h1, _, rfl⟩
    · have TT := hid (NO.out h1)
      clear h1
      go_wp2
      refine bodyPost_ret (v := .tuple #[.agg #[.bool false, .string ⟨#[48]⟩], .int .i64 16]) (by simp [results, Tryd.results7, go_sem]) rfl ?_
      exact ⟨⟨_, _, _, rfl, by decide, TT.out⟩, T0.out _ _⟩
    · omega
    · have TT := hid (YES.out h1)
      clear h1
      go_wp2_with fail
      have G0 : Hid (Blk (w.alloc (.cells #[.bool false, .string ⟨#[]⟩] 31)) w.heap.size #[.bool false, .string ⟨#[]⟩] 31) := Blk.new _ _ _
      have B0 := hid (T0.out (.bool false) (.string ⟨#[]⟩))
      generalize w.alloc (.cells #[.bool false, .string ⟨#[]⟩] 31) = wa at *
      refine (MA.out _).mono ?_
      rintro e w3 ⟨rfl, C3⟩
      have G3 := hid (G0.out.below C3 (Blk.lt G0.out))
      have B3 := hid (bt B0.out C3)
      obtain ⟨c0, c1, f0, f1, l0⟩ := Blk.two G3.out
      clear C3 MA G0
      go_wp2
      refine bodyPost_ret (ret_ref2 (Blk.set2 G3.out) rfl rfl rfl) rfl ?_
      exact ⟨⟨_, _, _, rfl, hl, TT.out⟩, B3.out.trans ((only_two _ _ _ _).below (Nat.le_refl _))⟩
end Go.Proofs.YtnaiahjgdakneaaDoor
