/- Package pyxref1: DivNat's walk. -/
import Derived.Test.YtipjeepcgdmomaaDoorRefI
namespace Go.Proofs.YtipjeepcgdmomaaDoor
open Go.RowKit

theorem cmpI_up {m n : Nat} (h : n ≤ m) : ∃ z, cmpI m n = z ∧ 0 ≤ z := by
  rcases Nat.eq_or_lt_of_le h with e | e
  · exact ⟨0, cmpI_eq e.symm, by omega⟩
  · exact ⟨1, cmpI_gt e, by omega⟩
theorem mkD_one (rs : List Nat) : ∀ u ∈ rs.map mkD_, u.oneCell' = true := by
  intro u hu
  obtain ⟨d, _, rfl⟩ := List.mem_map.1 hu
  rfl
/-- append of digits, nil or not, onto a row of one's own. -/
theorem wpList_append_dig {w : World} {ops : Array Oper} {rest : List Oper} {o : Oper} {a : Act} {Q : Exit → Act → World → Prop} (hgd : o.guard = none) (s x : Operand)
    (ho : o.op = .call { callee := .builtin .append, args := #[s, x], argTypes := #[38, 38] }) (base : Nat) (v : Value) (n : Nat) (xs : List Value) (hs : a.eval s = v) (hown : w.ownsRow base 3 1 v n xs)
    (R : Option Addr) (m c : Nat) (rs : List Nat) (hx : a.eval x = .slice R m c) (hd : DigC w R m c rs) (hn : n + m ≤ 4000000) (hb : base ≤ w.heap.size)
    (h : ∀ v' w', w'.ownsRow base 3 1 v' (n + m) (xs ++ rs.map mkD_) → Below base w w' → wpList Tryd.prog ops Q rest (a.put o.dst v') w') : wpList Tryd.prog ops Q (o :: rest) a w := by
  obtain ⟨i0, hi, hz0, hz1, hz2⟩ := info_parts info_int
  cases R with
  | none =>
    obtain ⟨h1, ⟨h2, h3⟩, _⟩ := hd
    obtain rfl := h3 rfl
    obtain rfl : m = 0 := by omega
    obtain rfl : rs = [] := List.eq_nil_of_length_eq_zero h1
    exact wpList_append_own_none hgd s x 38 ho base 3 i0 1 Tryd.underlying38 hi v n xs hs hown hx (h v w (by simpa using hown) (Below.refl _ _))
  | some ad =>
    exact wpList_append_own w hgd s x 38 ho base 3 i0 (.int .i64 0) 1 8 Tryd.underlying38 hi hz0 hz1 hz2 rfl (by decide) v n xs hs hown ad m c (rs.map mkD_) hx (by simp [hd.1]) hd.src (mkD_one rs) (by unfold maxLen; omega) (by omega) hb
      fun v' w' h1 h2 _ => h v' w' h1 ((Below.refl _ _).grown h2 hb (own_base hown))
def cellN (w : World) (g p : Nat) : Nat := (intOf ((w.cell? ⟨g, p, none⟩).getD undef)).toNat
theorem cellN_own {w : World} {base g L cap j : Nat} {ds : List Nat} (h : w.ownsRow base 3 1 (.slice (some ⟨g, 0, none⟩) L cap) L (ds.map mkD_)) (hl : ds.length = L) (hj : j < L) : cellN w g j = ds.getD j 0 := by
  unfold cellN
  rw [own_cell h hl hj]
  simp [intOf]
/-- What is left, in memory apart from block g. -/
def RemC (g : Nat) (wr : World) (r : Value) (rs : List Nat) : Prop := ∃ (R : Option Addr) (nr cr : Nat), r = .slice R nr cr ∧ DigC wr R nr cr rs ∧ Norm rs ∧ ∀ ad, R = some ad → g < ad.block
def DivO (w : World) (a b : List Nat) (n : Nat) (r s : Value) (wr : World) : Prop := ∃ (q : Int) (qs rs : List Nat), -1 ≤ q ∧ q < n ∧ s = .int .i64 q ∧ RemC w.heap.size wr r rs ∧ dv rs < dv b ∧ DivN a b qs rs (q + 1).toNat ∧
  wr.ownsRow w.heap.size 3 1 (.slice (some ⟨w.heap.size, 0, none⟩) n n) n (qs.map mkD_) ∧ Below w.heap.size w wr ∧ w.heap.size < wr.heap.size
def DivP (w : World) (a b : List Nat) (n p : Nat) (r : Value) (wr : World) : Prop := ∃ (qs rs : List Nat), RemC w.heap.size wr r rs ∧ qs.getD p 0 * dv b + dv rs < 10 * dv b ∧ DivN a b qs rs p ∧
  wr.ownsRow w.heap.size 3 1 (.slice (some ⟨w.heap.size, 0, none⟩) n n) n (qs.map mkD_) ∧ Below w.heap.size w wr ∧ w.heap.size < wr.heap.size

set_option maxRecDepth 100000 in
set_option maxHeartbeats 1600000 in
theorem divNat_c (A B : Option Addr) (n m ca cb : Nat) (a b : List Nat) (w : World) (ha : DigC w A n ca a) (hb : DigC w B m cb b) (nb : Norm b) (hn : n ≤ 400000) (hm : m ≤ 400000) (h0 : 0 < dv b) :
    Calls Tryd.prog 40 #[.slice A n ca, .slice B m cb] w (RetQR w (dv a / dv b) (dv a % dv b)) := by
  obtain ⟨i0, hi, hz0, hz1, hz2⟩ := info_parts info_int
  have LA := Lib.hid ha.1
  have LB := Lib.hid hb.1
  have DA := Lib.hid ha.2.2.2.1
  have DB := Lib.hid hb.2.2.2.1
  have HA := Lib.hid ha
  have HB_ := Lib.hid hb
  have NB := Lib.hid nb
  have H0 := Lib.hid h0
  clear ha hb nb h0
  have hmk := run_make_row' (P := Tryd.prog) 38 3 (.int .i64 0) 8 Tryd.underlying38 info_int rfl .i64 .i64 n (by omega) (by omega) w
  have HO := Lib.hid (own_made (w := w) n (by omega))
  have HBH := Lib.hid (show Below w.heap.size w (w.alloc (.cells (madeCells #[.int .i64 0] n) 3)) from (Below.refl _ _).alloc (Nat.le_refl _) _)
  go_enter Tryd.func40, Tryd.ntmps40
  go_wp2
  go_loopw [7, 8] (fun r s wr => DivO w a b n r s wr) (fun _ s _ => (intOf s + 1).toNat)
  case atStart =>
    refine ⟨(n : Int) - 1, List.replicate n 0, [], by omega, by omega, rfl, ⟨none, 0, 0, rfl, ⟨rfl, ⟨Nat.le_refl _, fun _ => rfl⟩, by omega, by simp, fun h => absurd h (by omega)⟩, Or.inl rfl, fun ad h => by cases h⟩, H0.out, ?_, HO.out, HBH.out, by simp⟩
    rw [show ((n : Int) - 1 + 1).toNat = n by omega, ← LA.out]
    exact divN_0 a b
  case round =>
    obtain ⟨q, qs, rs, hq1, hq2, rfl, ⟨R, nr, cr, rfl, HR, NR, HF⟩, hlt, HD, hown, HB, hsz⟩ := hrel
    clear hmk
    by_cases hq : 0 ≤ q
    · obtain ⟨p, rfl⟩ : ∃ p : Nat, q = p := ⟨q.toNat, by omega⟩
      have hp : p < n := by omega
      have e1 : ((p : Int) + 1).toNat = p + 1 := by omega
      rw [e1] at HD
      obtain ⟨b1, o1, hA, hlt1, hcc⟩ := (HA.out.below HB).2.2.2.2 (by omega)
      have c1 := hcc p hp
      obtain ⟨x, hx⟩ : ∃ x, a.getD p 0 = x := ⟨_, rfl⟩
      have hx9 : x < 10 := by rw [← hx]; exact dig_lt DA.out p
      rw [hx] at c1
      have HX := Lib.hid hx
      have hnr : nr ≤ m := by
        have h1 := norm_len NR (Nat.lt_trans hlt (dv_lt DB.out))
        rw [HR.1, LB.out] at h1
        exact h1
      have HLT := Lib.hid hlt
      have HRL := Lib.hid HR.1
      clear hcc hx e1 hlt
      subst hA
      have hpi : (p : Int) < (n : Int) := by omega
      have ho1 := World.ownsRow_lit (base := wr.heap.size) (e := 3) (size := 1) wr #[.int .i64 (x : Int)] 1 (Nat.le_refl _) (by unfold maxLen; omega) (by simp)
      have HO1 := Lib.hid ho1
      have happ : ∀ (v' : Value) (w1 : World), w1.ownsRow wr.heap.size 3 1 v' (1 + nr) ([.int .i64 (x : Int)] ++ rs.map mkD_) → Below wr.heap.size wr w1 → ∃ (D : Option Addr) (cap : Nat), v' = .slice D (1 + nr) cap ∧ DigC w1 D (1 + nr) cap (x :: rs) ∧ (∀ ad, D = some ad → w.heap.size < ad.block) := by
        intro v' w1 ho hbel
        have hl : (x :: rs).length = 1 + nr := by simp [HRL.out]; omega
        have ho' : w1.ownsRow wr.heap.size 3 1 v' (x :: rs).length ((x :: rs).map mkD_) := by rw [hl]; simpa [mkD_] using ho
        obtain ⟨D, cap, e, hD⟩ := dig_own ho' (by
          intro d hd
          rcases List.mem_cons.1 hd with h | h
          · omega
          · exact HR.2.2.2.1 d h) (by rw [hl]; omega)
        rw [hl] at e hD
        refine ⟨D, cap, e, hD, fun ad h => ?_⟩
        subst e
        have := own_fresh ho ad h
        omega
      have HAPP := Lib.hid happ
      clear ho1 happ
      go_wp2_with (first
        | (at_builtin; refine wpList_append_dig rfl _ _ rfl wr.heap.size _ 1 _ rfl HO1.out R nr cr rs rfl (HR.alloc _) (by omega) (by simp) ?_)
        | go_in)
      intro v' w1 ho1 hb1
      have hbw : Below wr.heap.size wr w1 := ((Below.refl _ _).alloc (Nat.le_refl _) _).trans hb1
      obtain ⟨D, cap, rfl, HD1, HF1⟩ := HAPP.out v' w1 ho1 hbw
      have hown1 := own_below hown hbw
      have HB1 : Below w.heap.size w w1 := HB.trans (hbw.mono (by omega))
      have hsz1 : w.heap.size < w1.heap.size := Nat.lt_of_lt_of_le hsz hbw.size
      have HTH := Lib.hid fun m h => dv_trim (ds := x :: rs) (m := m) h
      clear ho1 hb1 HO1 HAPP hown HB hsz HR hbw
      go_wp2_with fail
      refine (trim_c D _ cap (x :: rs) _ HD1).mono ?_
      rintro e w2 ⟨_, ⟨t, ht, rfl⟩, rfl, rfl⟩
      have H1 := HTH.out t ht
      have H2 := HD1.take (m := t) (by have := ht.1; have h2 := HRL.out; simp at this; omega)
      have hdv : dv ((x :: rs).take t) = a.getD p 0 + 10 * dv rs := by rw [H1.1, HX.out]; rfl
      have HDn := divN_down HD (by rw [LA.out]; exact hp) hdv
      have hq0 : qs.getD p 0 = 0 := HD.2.2.1 p (by omega)
      have hP : DivP w a b n p (.slice D t cap) w1 := ⟨qs, _, ⟨D, t, cap, rfl, H2, H1.2, HF1⟩, by
        rw [hq0, hdv, HX.out]
        have := HLT.out
        omega, HDn, hown1, HB1, hsz1⟩
      have HP := Lib.hid hP
      clear H1 H2 hdv HDn hq0 hP HD HTH HD1 HF1 hown1 ht NR HF HB1 hsz1
      go_wp2
      go_loopw [7] (fun r wx => DivP w a b n p r wx) (fun _ wx => 10 - cellN wx w.heap.size p)
      case atStart => exact HP.out
      case round =>
        clear HP HLT HRL HX c1 hnr hlt1
        obtain ⟨es, ts, ⟨T, nt, ct, rfl, HT, NT, HFT⟩, hten, HE, hown, HB, hsz⟩ := hrel
        have hnt : nt ≤ m + 1 := by
          have h1 := norm_len NT (Nat.lt_of_le_of_lt (show dv ts ≤ 10 * dv b by omega) (ten_lt (dv_lt DB.out)))
          rw [HT.1, LB.out] at h1
          exact h1
        have HES := Lib.hid (HE.1.trans LA.out)
        have hpe := own_cell hown HES.out hp
        have hme := cellN_own hown HES.out hp
        obtain ⟨y, hy⟩ : ∃ y, es.getD p 0 = y := ⟨_, rfl⟩
        rw [hy] at hpe hme hten
        have hy9 : y < 10 := by rw [← hy]; exact dig_lt HE.2.1 p
        have HY := Lib.hid hy
        have HME := Lib.hid hme
        have HTEN := Lib.hid hten
        clear hy hme hten
        have C := cmpNat_c T B nt m ct cb ts b wr HT (HB_.out.below HB) NT NB.out
        by_cases hle : dv b ≤ dv ts
        · obtain ⟨z, hz, hz0⟩ := cmpI_up hle
          rw [hz] at C
          have HC := Lib.hid C
          have hy8 : y + 1 < 10 := times_lt HTEN.out hle
          have HLE := Lib.hid hle
          clear C hz hle
          go_wp2_with fail
          refine HC.out.mono ?_
          rintro e w2 ⟨v, hv, rfl, hb2⟩
          obtain rfl : v = .int .i64 z := hv
          have HT2 := HT.below hb2
          have hown2 := own_below hown hb2
          have HB2 : Below w.heap.size w w2 := HB.trans (hb2.mono (by omega))
          have hsz2 : w.heap.size < w2.heap.size := Nat.lt_of_lt_of_le hsz hb2.size
          clear HC HT hown hb2 HB hsz hpe
          go_wp2_with fail
          refine (subNat_f T B nt m ct cb ts b _ HT2 (HB_.out.below HB2) (by omega) (by have := len_le HT2.2.2.2.1 NB.out HLE.out; rw [HT2.1, LB.out] at this; exact this) HLE.out).mono ?_
          rintro e w3 ⟨U, nu, cu, us, ⟨HU, NU, hU, HFU⟩, rfl, hb3⟩
          have hown3 := own_below hown2 hb3
          have HB3 : Below w.heap.size w w3 := HB2.trans (hb3.mono (by omega))
          have hsz3 : w.heap.size < w3.heap.size := Nat.lt_of_lt_of_le hsz2 hb3.size
          have HFU2 : ∀ ad, U = some ad → w.heap.size < ad.block := fun ad h => Nat.lt_of_lt_of_le hsz2 (HFU ad h)
          have hpe := own_cell hown3 HES.out hp
          rw [HY.out] at hpe
          have fz := hown3.frozenAt p
          have HE2 := divN_once HE (by rw [LA.out]; exact hp) HLE.out hU (by rw [HY.out]; exact hy8)
          have hP : DivP w a b n p (.slice U nu cu) (w3.setCell ⟨w.heap.size, p, none⟩ (.int .i64 (y + 1 : Nat))) := by
            refine ⟨_, us, ⟨U, nu, cu, rfl, HU.far fun ad h => ?_, NU, HFU2⟩, ?_, HE2, own_set' (by rw [HY.out]) hown3, HB3.setCell (Nat.le_refl _) _, by simpa using hsz3⟩
            · have := HFU2 ad h
              omega
            · rw [HY.out]
              have e1 : (es.set p (y + 1)).getD p 0 = y + 1 := by
                simp [List.getD_eq_getElem?_getD, show p < es.length by rw [HES.out]; exact hp]
              rw [e1, hU, Nat.add_mul, Nat.one_mul]
              have := HTEN.out
              have := HLE.out
              omega
          have hmN : cellN (w3.setCell ⟨w.heap.size, p, none⟩ (.int .i64 (y + 1 : Nat))) w.heap.size p = y + 1 := by
            have h := cellN_own (own_set (j := p) (v := y + 1) hown3) (by simp [HES.out]) hp
            rw [h]
            simp [List.getD_eq_getElem?_getD, show p < es.length by rw [HES.out]; exact hp]
          have HP := Lib.hid hP
          have HMN := Lib.hid hmN
          clear hown2 hown3 HB2 HB3 hsz2 HT2 HU NU hU HFU HFU2 HE2 hP hmN hb3 HE NT HFT
          go_wp2
          go_roundw
          case rel => exact HP.out
          case measure =>
            have e1 := HMN.out
            have e2 := HME.out
            simp only [Int.natCast_add] at e1
            rw [e2]
            first | (rw [e1]; omega) | (simp at e1 ⊢; rw [e1]; omega)
        · have hz := cmpI_lt (show dv ts < dv b by omega)
          rw [hz] at C
          have HC := Lib.hid C
          have hltb : dv ts < dv b := by omega
          have HLE := Lib.hid hltb
          clear C hz hle hltb
          go_wp2_with fail
          refine HC.out.mono ?_
          rintro e w2 ⟨v, hv, rfl, hb2⟩
          obtain rfl : v = .int .i64 (-1) := hv
          have HT2 := HT.below hb2
          have hown2 := own_below hown hb2
          have HB2 : Below w.heap.size w w2 := HB.trans (hb2.mono (by omega))
          have hsz2 : w.heap.size < w2.heap.size := Nat.lt_of_lt_of_le hsz hb2.size
          clear HC HT hown hb2 HB hsz hpe
          go_wp2
          go_roundw
          case rel => exact ⟨(p : Int) - 1, es, ts, by omega, by omega, rfl, ⟨T, nt, ct, rfl, HT2, NT, HFT⟩, HLE.out, by rw [show ((p : Int) - 1 + 1).toNat = p by omega]; exact HE, hown2, HB2, hsz2⟩
          case measure => simp [intOf]
    · obtain rfl : q = -1 := by omega
      have hE := divN_end HD hlt
      have HEQ := Lib.hid hE.1
      have HER := Lib.hid hE.2
      have HES := Lib.hid (HD.1.trans LA.out)
      have hown2 : wr.ownsRow w.heap.size 3 1 (.slice (some ⟨w.heap.size, 0, none⟩) n n) qs.length (qs.map mkD_) := by rw [HES.out]; exact hown
      obtain ⟨D, cap, hv, HDD⟩ := dig_own hown2 HD.2.1 (by rw [HES.out]; omega)
      have hv' : D = some ⟨w.heap.size, 0, none⟩ ∧ qs.length = n ∧ cap = n := by
        injection hv with h1 h2 h3
        exact ⟨h1.symm, h2.symm, h3.symm⟩
      obtain ⟨rfl, _, rfl⟩ := hv'
      rw [HES.out] at HDD
      have HDH := Lib.hid HDD
      have HTH := Lib.hid fun m h => dv_trim (ds := qs) (m := m) h
      clear hE hv hown2 HDD HD hlt
      go_wp2_with fail
      refine (trim_c _ _ _ qs _ HDH.out).mono ?_
      rintro e w1 ⟨_, ⟨t, ht, rfl⟩, rfl, rfl⟩
      have H1 := HTH.out t ht
      have H2 := HDH.out.take (m := t) (by have := ht.1; rw [HES.out] at this; exact this)
      rw [HEQ.out] at H1
      go_wp2
      go_ret2
      exact ⟨_, _, _, _, _, _, _, _, ⟨H2, H1.2, H1.1, fun ad h => by injection h with h; subst h; exact Nat.le_refl _⟩, ⟨HR, NR, HER.out, fun ad h => Nat.le_of_lt (HF ad h)⟩, rfl, HB⟩
end Go.Proofs.YtipjeepcgdmomaaDoor
