/- "DivMod" of the reference: quotient and rest by decimal digits. -/
import Derived.Test.YtnaiahjgdakneaaGreatDoorRefp
namespace Go.Proofs.YtnaiahjgdakneaaGreatDoor
open Go.RowKit Num
open Go.Lib (decDigits)
theorem own_below {base n : Nat} {e : TypeId} {v : Value} {xs : List Value} {w w' : World} (h : w.ownsRow base e 1 v n xs) (o : Below w.heap.size w w') : w'.ownsRow base e 1 v n xs := by
  refine ⟨h.1, ?_⟩
  rcases h.2 with h0 | ⟨g', cap, cur, rfl, hb, hg', h1, h2, h3, h4⟩
  · exact Or.inl h0
  · refine Or.inr ⟨g', cap, cur, rfl, hb, ?_, h1, h2, h3, h4⟩
    rw [o.block g' (Array.getElem?_eq_some_iff.1 hg').1]; exact hg'
def DvRel (x : List UInt8) (b i r : Nat) (L : List UInt8) : Prop := Digs L ∧ L.length = i ∧ dval (x.take i) = dval L * b + r
theorem DvRel.step {x : List UInt8} {b i r n s : Nat} {c : UInt8} {L : List UInt8} (h : DvRel x b i r L) (hi : x.take (i + 1) = x.take i ++ [c]) (hs : s + n * b = 10 * r + (c.toNat - 48)) (hn : n ≤ 9) : DvRel x b (i + 1) s (L ++ [UInt8.ofNat (48 + n)]) := by
  obtain ⟨h1, h2, h3⟩ := h
  refine ⟨digs_snoc h1 (by omega), by simp [h2], ?_⟩
  rw [hi, dval_snoc, h3, dval_snoc, dig_nat (by omega), Nat.add_sub_cancel_left]
  have e1 : 10 * (dval L * b + r) = 10 * dval L * b + 10 * r := by rw [Nat.mul_add, Nat.mul_assoc]
  have e2 : (10 * dval L + n) * b = 10 * dval L * b + n * b := Nat.add_mul _ _ _
  omega
theorem DvRel.done {x : List UInt8} {b r : Nat} {L : List UInt8} (h : DvRel x b x.length r L) (hr : r < b) : dval L = dval x / b ∧ r = dval x % b := by
  obtain ⟨_, _, h3⟩ := h
  rw [List.take_of_length_le (Nat.le_refl _)] at h3
  have hb : 0 < b := by omega
  rw [h3]
  constructor
  · rw [Nat.mul_comm, Nat.mul_add_div hb, Nat.div_eq_of_lt hr]; omega
  · rw [Nat.mul_comm, Nat.mul_add_mod, Nat.mod_eq_of_lt hr]
def nOf : Value → Nat
  | .string s => dval s.data.toList
  | _ => 0
theorem nOf_dt (s : Nat) : nOf (.string (dt s)) = s := dval_dt s
theorem ext_one (x : ByteArray) (i : Nat) (h : i < x.size) : (x.extract i (i + 1)).data.toList = [x[i]] := by
  have h0 : (x.extract i (i + 1)).data = x.data.extract i (i + 1) := by simp
  rw [h0, Array.toList_extract]
  have hl : x.data.toList.length = x.size := rfl
  simp only [List.extract_eq_take_drop, Nat.add_sub_cancel_left]
  rw [List.drop_eq_getElem_cons (by omega)]
  rfl
theorem cat_list (a b : ByteArray) : (a ++ b).data.toList = a.data.toList ++ b.data.toList := by simp
set_option maxHeartbeats 3200000 in
set_option maxRecDepth 100000 in
theorem rdiv_any (a b : Nat) (w : World) (hb : 0 < b) (ha : (dt a).size ≤ 100000) (hbs : (dt b).size ≤ 100000) :
    Calls Tryz.prog 35 #[.string (dt a), .string (dt b)] w fun e w' => e = .returned (.tuple #[.string (dt (a / b)), .string (dt (a % b))]) ∧ Below w.heap.size w w' := by
  obtain ⟨i0, hi, hz0, hz1, hz2⟩ := info_parts Tryz.infoByte
  obtain ⟨x, hx⟩ : ∃ x, x = dt a := ⟨_, rfl⟩
  have HX := hid (And.intro (show dval x.data.toList = a by rw [hx]; exact dval_dt a) (show Digs x.data.toList by rw [hx]; exact digs_dt a))
  rw [← hx] at ha ⊢
  clear hx
  go_enter Tryz.func35, Tryz.ntmps35
  go_wp2
  go_loopw [6, 7, 8] (fun out lv iv wr => ∃ (i r : Nat) (L : List UInt8), lv = .string (dt r) ∧ iv = .int .i64 i ∧ i ≤ x.size ∧ r < b ∧ Hid (DvRel x.data.toList b i r L ∧ OwB wr w.heap.size out L ∧ Below w.heap.size w wr) ∧ w.heap.size ≤ wr.heap.size) (fun _ _ iv _ => 500000 - (intOf iv).toNat)
  case atStart => exact ⟨0, 0, [], by rw [dt0], rfl, by omega, hb, ⟨⟨(fun c hc => by simp at hc), rfl, by simp [dval]⟩, World.ownsRow_nil _ _ _ _, Below.refl _ _⟩, Nat.le_refl _⟩
  case round =>
    obtain ⟨i, r, L, rfl, rfl, hi2, hrb, hr, hsz⟩ := hrel
    by_cases hgo : i < x.size
    · have hgo' : (i : Int) < x.size := by omega
      have hgo2 : (i : Int) + 1 ≤ x.size := by omega
      have qw : IntKind.i64.wrap ((i : Int) + 1) = (i : Int) + 1 := by rw [IntKind.wrap_i64]; omega
      have hl1 : (dt r).size ≤ (dt b).size := by rw [dt_size, dt_size]; exact len_le (by omega)
      have hl2 : ¬ 9223372036854775807 < (dt r).size + (min (i + 1) x.size - i) := by omega
      have e1 : (dt r ++ x.extract i (i + 1)).data.toList = decDigits r ++ [x[i]] := by rw [cat_list, ext_one x i hgo, dt_list]
      obtain ⟨c1, c2⟩ := digs_at HX.out.2 hgo
      have ed : Digs (dt r ++ x.extract i (i + 1)).data.toList := by
        rw [e1]
        intro c hc
        rcases List.mem_append.1 hc with hc | hc
        · exact digs_dec r c hc
        · rw [List.mem_singleton.1 hc]; exact ⟨c1, c2⟩
      have ev : dval (dt r ++ x.extract i (i + 1)).data.toList = 10 * r + (x[i].toNat - 48) := by rw [e1, dval_snoc, dval_dec]
      have es : (dt r ++ x.extract i (i + 1)).size ≤ 1000000 := by
        have : (dt r ++ x.extract i (i + 1)).data.toList.length = (dt r ++ x.extract i (i + 1)).size := rfl
        rw [← this, e1, List.length_append, List.length_singleton, ← dt_size]; omega
      have hdz : (decDigits (10 * r + (x[i].toNat - 48))).length ≤ 200000 := by
        have h1 := dval_lt _ ed
        rw [ev] at h1
        have h2 : (dt r ++ x.extract i (i + 1)).data.toList.length = (dt r).size + 1 := by rw [e1, List.length_append, List.length_singleton, ← dt_size]
        rw [h2] at h1
        have := len_dec _ _ (by omega) h1
        omega
      have HSt := hid (strip_any (dt r ++ x.extract i (i + 1)) wr es ed)
      rw [ev] at HSt
      have HTk := hid (take_snoc x i hgo)
      obtain ⟨d0, hd0⟩ : ∃ d0, d0 = 10 * r + (x[i].toNat - 48) := ⟨_, rfl⟩
      rw [← hd0] at HSt hdz
      have HDz := hid hdz
      have HD0 := hid hd0
      have hd1 : d0 < 10 * b := by omega
      clear e1 ed ev es hd0 c1 c2 hdz
      go_wp2_with fail
      refine HSt.out.mono ?_
      rintro e w1 ⟨rfl, rfl⟩
      clear HSt
      go_wp2
      have OW0 := hid hr.out.2
      have DV0 := hid hr.out.1
      clear hr
      go_loopw [7, 9] (fun lv nv wi => ∃ (n s : Nat), lv = .string (dt s) ∧ nv = .int .i64 n ∧ n ≤ 9 ∧ s ≤ d0 ∧ Hid (s + n * b = d0 ∧ OwB wi w.heap.size u6 L ∧ Below w.heap.size w wi) ∧ w.heap.size ≤ wi.heap.size) (fun lv _ _ => nOf lv)
      case atStart => exact ⟨0, d0, rfl, rfl, by omega, Nat.le_refl _, ⟨by omega, OW0.out.1, OW0.out.2⟩, hsz⟩
      case round =>
        obtain ⟨n, s, rfl, rfl, hn9, hsd, hs, hsz2⟩ := hrel
        by_cases hge : b ≤ s
        · have hcg : decide (0 ≤ cmpI s b) = true := by simpa using cmpI_ge (a := (s : Int)) (b := (b : Int)) (by omega)
          have hss : (dt s).size ≤ 400000 := by
            have := len_le hsd
            have := HDz.out
            rw [dt_size]; omega
          have RC := hid (rcmp_any s b wr)
          have RS := hid (rsub_any s b wr hss hge)
          have hn8 : n + 1 ≤ 9 := by
            have h1 := hs.out.1
            have h2 : (n + 1) * b < 10 * b := by rw [Nat.add_mul]; omega
            have := Nat.lt_of_mul_lt_mul_right h2
            omega
          generalize cmpI s b = cv at *
          go_wp2_with fail
          refine RC.out.mono ?_
          rintro e w2 ⟨rfl, rfl⟩
          go_wp2_with fail
          refine RS.out.mono ?_
          rintro e w3 ⟨rfl, C3⟩
          go_wp2
          refine ⟨⟨n + 1, s - b, rfl, rfl, hn8, by omega, ⟨?_, own_below hs.out.2.1 C3, hs.out.2.2.trans (C3.mono hsz2)⟩, Nat.le_trans hsz2 C3.size⟩, by rw [nOf_dt, nOf_dt]; omega⟩
          have h1 := hs.out.1
          rw [Nat.add_mul]; omega
        · have hcl : cmpI s b = -1 := cmpI_lt (by omega)
          have RC := hid (rcmp_any s b wr)
          rw [hcl] at RC
          have ST := hid (DV0.out.step HTk.out (by rw [← HD0.out]; exact hs.out.1) hn9)
          have OWN := hid hs.out.2.1
          have hL : L.length ≤ 400001 := by rw [DV0.out.2.1]; omega
          have HN := hid (dig_nat (d := n) (by omega))
          have n9 : (n : Int) ≤ 9 := by omega
          go_wp2_with fail
          refine RC.out.mono ?_
          rintro e w2 ⟨rfl, rfl⟩
          go_wp2_with (at_builtin; refine wpList_append_own _ rfl (.tmp 33) (.tmp 37) 62 rfl w.heap.size 5 i0 (.int .u8 0) 1 1 Tryz.underlying62 hi hz0 hz1 hz2 rfl (by decide) _ L.length (Lib.byteCells L) rfl (OWN.out.alloc _) ⟨w2.heap.size, 0, none⟩ 1 1 [.int .u8 (48 + (n : Int))] rfl rfl (cell_one_new _ _ _) (by intro u hu; simp at hu; subst hu; rfl) (by unfold maxLen; omega) (by omega) (by simp; omega) ?_; intro v' w3 own3 grow3 _)
          have ez : (48 + (n : Int)) = ((UInt8.ofNat (48 + n)).toNat : Int) := by rw [HN.out]; omega
          rw [ez] at own3
          have hp := OwB.push OWN.out hsz2 rfl own3 grow3
          exact ⟨⟨i + 1, s, _, rfl, rfl, by omega, by omega, ⟨ST.out, hp.1, hs.out.2.2.trans hp.2.1⟩, hp.2.2⟩, by simp only [intOf]; omega⟩
    · have hgo' : ¬ (i : Int) < x.size := by omega
      have hx : i = x.data.toList.length := by have : x.data.toList.length = x.size := rfl; omega
      have hd := hr.out.1
      rw [hx] at hd
      have HD := hid (hd.done hrb)
      rw [HX.out.1] at HD
      have HT := hid hr.out.2.1.str
      have hL : L.length ≤ 400001 := by rw [hr.out.1.2.1]; omega
      have HG := hid hr.out.1.1
      clear hx hd
      go_wp2_with fail
      rw [HT.out]
      go_wp2_with fail
      refine (strip_any _ wr (by simp [ByteArray.size]; omega) HG.out).mono ?_
      rintro e w3 ⟨rfl, rfl⟩
      go_wp2
      go_ret2
      exact ⟨by rw [← HD.out.1, ← HD.out.2]; rfl, hr.out.2.2⟩
end Go.Proofs.YtnaiahjgdakneaaGreatDoor
