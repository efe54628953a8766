/- Package roll: whole. -/
import Derived.Test.YtkjckdndkljeeaaRollA
import Derived.Test.YtkjckdndkljeeaaRollB
namespace Go.Proofs.Ytkjckdndkljeeaa
open Go.RowKit
/-- What whole answers. -/
def whV : Option (Rec × Nat) → Value
  | none => .tuple #[.agg #[.int .i64 0, .string ⟨#[]⟩], .int .i64 0, .bool false]
  | some (r, n) => .tuple #[.agg #[.int .i64 r.seq, .string ⟨r.body.toArray⟩], .int .i64 n, .bool true]
/-- From place k on, q of them: as the model cuts it. -/
theorem Bs.mid {w : World} {B n c g o : Nat} {l : List UInt8} (h : Bs w B (some ⟨g, o, none⟩) n c l) {k q : Nat} (hq : k + q ≤ n) (hc : ¬ c = k) : Bs w B (some ⟨g, o + k, none⟩) q (c - k) ((l.drop k).take q) := by
  have := (h.cut_no (k := k) (by omega) hc).head (k := q) (by omega)
  simpa [Addr.add_lit] using this
theorem getD_lt {l : List UInt8} {k : Nat} (h : k < l.length) : l.getD k 0 = l[k] := by simp [List.getD_eq_getElem?_getD, List.getElem?_eq_getElem h]
theorem lenB_lt (l : List UInt8) : lenB l ≤ 16383 := by
  unfold lenB
  split
  · next x y _ =>
    have := u8_lt x
    have := u8_lt y
    split <;> omega
  · omega
theorem blk2 {w : World} {g : Nat} {t : TypeId} {a b : Value} (h : Blk w g t #[a, b]) : g < w.heap.size ∧ w.cell? ⟨g, 0, none⟩ = some a ∧ w.cell? ⟨g, 1, none⟩ = some b := by
  have x0 := h.cell 0
  have x1 := h.cell 1
  simp at x0 x1
  exact ⟨h.lt, x0, x1⟩
theorem rec_end {w : World} {k : Nat} {t : TypeId} {a b : Value} (h : Blk w k t #[a, b]) (a' b' : Value) : ((w.setCell ⟨k, 0, none⟩ a').setCell ⟨k, 1, none⟩ b').cell? ⟨k, 0, none⟩ = some a' ∧ ((w.setCell ⟨k, 0, none⟩ a').setCell ⟨k, 1, none⟩ b').cell? ⟨k, 1, none⟩ = some b' := by
  have H : Blk ((w.setCell ⟨k, 0, none⟩ a').setCell ⟨k, 1, none⟩ b') k t #[a', b'] := (h.set_ 0 a').set_ 1 b'
  exact (blk2 H).2
theorem cel_below {w w' : World} {g i : Nat} {v : Value} (h : w.cell? ⟨g, i, none⟩ = some v) (hb : Below w.heap.size w w') : w'.cell? ⟨g, i, none⟩ = some v := (hb.cell (World.block_lt_of_cell? w _ h)).trans h
set_option maxRecDepth 100000 in
set_option maxHeartbeats 3200000 in
theorem whole_c (A : Option Addr) (n c : Nat) (l : List UInt8) (o : Nat) (last : Int) (R : Option (Rec × Nat)) (w : World) (h : Bs w w.heap.size A n c l) (hR : wholeB l o last = R) (hn : n ≤ 281474976710656) (ho : o ≤ 9223372036854775807) :
    Calls Try.prog 43 #[.slice A n c, .int .i64 (o : Int), .int .i64 last] w fun e w' => e = .returned (whV R) ∧ Below w.heap.size w w' := by
  have hlen := h.len
  have hroom := h.room
  obtain ⟨m, hm⟩ : ∃ m, lenB l = m := ⟨_, rfl⟩
  have hm2 := lenB_lt l
  unfold wholeB at hR
  rw [hm] at hR hm2
  have HL := Lib.hid h
  have HM := Lib.hid hm
  have HR := Lib.hid hR
  clear h hm hR
  go_enter Try.func43, Try.ntmps43
  go_wp2_with fail
  obtain ⟨W, hW⟩ : ∃ W, w.alloc (.cells #[.int .i64 0, .string ⟨#[]⟩] 58) = W := ⟨_, rfl⟩
  have HK := Lib.hid (show Blk W w.heap.size 58 #[.int .i64 0, .string ⟨#[]⟩] by rw [← hW]; exact Blk.new _ _ _)
  have hb : Below w.heap.size w W := by rw [← hW]; exact (Below.refl _ _).alloc (Nat.le_refl _) _
  obtain ⟨k, hk⟩ : ∃ k, w.heap.size = k := ⟨_, rfl⟩
  have HLW := Lib.hid ((HL.out.below hb).more hb.size)
  have HKk := Lib.hid (show w.heap.size ≤ k by omega)
  rw [hk] at HK
  rw [hW, hk]
  clear hW hk HL
  (with_reducible refine (length_c A n c l m _ HLW.out HM.out).mono ?_)
  rintro e w1 ⟨rfl, hb1⟩
  have HL1 := Lib.hid ((HLW.out.below hb1).more hb1.size)
  have HK1 := Lib.hid (HK.out.below hb1 HK.out.lt)
  have HB1 := Lib.hid (hb.trans (hb1.mono hb.size))
  clear hb hb1 HLW HK
  by_cases h1 : m < 10 ∨ n < m + 10
  · as_aux_lemma =>
    obtain rfl : R = none := by rw [← HR.out, if_pos (by rw [hlen]; exact h1)]
    have hk1 := HK1.out.lt
    obtain ⟨lk, x0, x1⟩ := blk2 HK1.out
    have f0 := HK1.out.frozen 0
    have f1 := HK1.out.frozen 1
    by_cases h2 : m < 10
    · have h2' : (m : Int) < 10 := by omega
      go_wp2
      obtain ⟨p0, p1⟩ := rec_end HK1.out (.int .i64 0) (.string ⟨#[]⟩)
      exact bodyPost_ret (v := whV none) (by simp [whV, results, Try.results43, go_sem, p0, p1]) rfl ⟨rfl, (HB1.out.setCell (p := ⟨k, 0, none⟩) HKk.out _).setCell (p := ⟨k, 1, none⟩) HKk.out _⟩
    · have h2' : ¬ (m : Int) < 10 := by omega
      have h3' : (n : Int) - 10 < (m : Int) := by omega
      go_wp2
      obtain ⟨p0, p1⟩ := rec_end HK1.out (.int .i64 0) (.string ⟨#[]⟩)
      exact bodyPost_ret (v := whV none) (by simp [whV, results, Try.results43, go_sem, p0, p1]) rfl ⟨rfl, (HB1.out.setCell (p := ⟨k, 0, none⟩) HKk.out _).setCell (p := ⟨k, 1, none⟩) HKk.out _⟩
  · have hm3 : 10 ≤ m ∧ m + 10 ≤ n := by omega
    obtain ⟨g, o', _, rfl, _, _⟩ := HL1.out.at_ (k := 0) (by omega)
    have hT : Bs w1 w1.heap.size (some ⟨g, o' + 10, none⟩) m (c - 10) ((l.drop 10).take m) := HL1.out.mid (by omega) (by omega)
    have hS : Bs w1 w1.heap.size (some ⟨g, o' + 2, none⟩) 8 (c - 2) ((l.drop 2).take 8) := HL1.out.mid (by omega) (by omega)
    obtain ⟨T, hTT⟩ : ∃ T, (l.drop 10).take m = T := ⟨_, rfl⟩
    have hR := HR.out
    rw [if_neg (by rw [hlen]; exact h1)] at hR
    rw [hTT] at hT hR
    have hTl := hT.len
    obtain ⟨g1, o1, hml, e1, _, cm⟩ := hT.at_ (k := m - 1) (by omega)
    cases e1
    rw [getD_lt hml] at hR
    obtain ⟨x, hx⟩ : ∃ x : Nat, (T[m - 1]'hml).toNat = x := ⟨_, rfl⟩
    have hx2 := u8_lt (T[m - 1]'hml)
    rw [hx] at cm hx2
    have i2 : ¬ (n : Int) - 10 < (m : Int) := by omega
    have i3 : (10 : Int) ≤ 10 + (m : Int) := by omega
    have i4 : 10 + (m : Int) ≤ (c : Int) := by omega
    have i5 : ¬ c = 10 := by omega
    have i6 : (0 : Int) ≤ (m : Int) - 1 := by omega
    have i6b : (1 : Int) ≤ (m : Int) := by omega
    have i7 : (m : Int) - 1 < (m : Int) := by omega
    have i8 : ((m : Int) - 1).toNat = m - 1 := by omega
    have i9 : (10 + (m : Int)).toNat = 10 + m := by omega
    have i1 : ¬ (m : Int) < 10 := by omega
    clear h1
    by_cases hx3 : x = 255
    · as_aux_lemma =>
      subst hx3
      have hxe : (((255 : Nat) : Int) == 255) = true := rfl
      have HT := Lib.hid hT
      have HS := Lib.hid hS
      have HRR := Lib.hid hR
      have HTl := Lib.hid hTl
      have HTx := Lib.hid hx
      obtain ⟨β, hβ⟩ : ∃ β, ((l.drop 2).take 8 == be8 (sumM o T)) = β := ⟨_, rfl⟩
      have HBe := Lib.hid hβ
      clear hR hx hT hS hTT HL1 HR HM hβ hTl
      have j1 : (2 : Int) ≤ 10 := by omega
      have j2 : (10 : Int) ≤ (c : Int) := by omega
      have j3 : ¬ c = 2 := by omega
      go_upto_region 6 with fail
      go_cut [46] (fun v wx => v = .bool (!β) ∧ Below w1.heap.size w1 wx)
      case first =>
        as_aux_lemma =>
        have hw1 : IntKind.i64.wrap ((m : Int) - 1) = (m : Int) - 1 := by rw [IntKind.wrap_i64]; omega
        have HBd := Lib.hid (show Below w1.heap.size w1 w1.drew from (Below.refl _ _).drew)
        refine wp_region_ord (S := fun V => Below w1.heap.size w1 V) (by kernel_rfl) ?_
        refine ord_take (v := ?_) (i := 0) (fuel := 14) (by simp; rfl) (by kernel_rfl) (by kernel_rfl) (by kernel_rfl) (Or.inl ⟨by rfl, fun w' hSw => ?_⟩) HBd.out ?_
        rotate_left
        · go_simp
          all_goals with_reducible rfl
        simp only [Act.put, List.setIfInBounds_toArray, List.set_cons_zero, List.set_cons_succ]
        refine ord_take (v := ?_) (i := 1) (fuel := 13) (by simp; rfl) (by kernel_rfl) (by kernel_rfl) (by kernel_rfl) (Or.inl ⟨by rfl, fun w' hSw => ?_⟩) HBd.out ?_
        rotate_left
        · go_simp
          all_goals with_reducible rfl
        simp only [Act.put, List.setIfInBounds_toArray, List.set_cons_zero, List.set_cons_succ]
        refine ord_take (v := ?_) (i := 2) (fuel := 12) (by simp; rfl) (by kernel_rfl) (by kernel_rfl) (by kernel_rfl) (Or.inl ⟨by rfl, fun w' hSw => ?_⟩) HBd.out ?_
        rotate_left
        · go_simp
          all_goals with_reducible rfl
        simp only [Act.put, List.setIfInBounds_toArray, List.set_cons_zero, List.set_cons_succ]
        refine ord_take (v := ?_) (i := 3) (fuel := 11) (by simp; rfl) (by kernel_rfl) (by kernel_rfl) (by kernel_rfl) (Or.inl ⟨by rfl, fun w' hSw => ?_⟩) HBd.out ?_
        rotate_left
        · go_simp
          all_goals with_reducible rfl
        simp only [Act.put, List.setIfInBounds_toArray, List.set_cons_zero, List.set_cons_succ]
        refine ord_take (v := ?_) (i := 4) (fuel := 10) (by simp; rfl) (by kernel_rfl) (by kernel_rfl) (by kernel_rfl) (Or.inl ⟨by rfl, fun w' hSw => ?_⟩) HBd.out ?_
        rotate_left
        · dsimp only at hSw
          have cc := cel_below cm hSw
          go_simp
          all_goals with_reducible rfl
        simp only [Act.put, List.setIfInBounds_toArray, List.set_cons_zero, List.set_cons_succ]
        refine ord_take (v := ?_) (i := 5) (fuel := 9) (by simp; rfl) (by kernel_rfl) (by kernel_rfl) (by kernel_rfl) (Or.inl ⟨by rfl, fun w' hSw => ?_⟩) HBd.out ?_
        rotate_left
        · go_simp
          all_goals with_reducible rfl
        simp only [Act.put, List.setIfInBounds_toArray, List.set_cons_zero, List.set_cons_succ]
        refine ord_take (v := ?_) (i := 6) (fuel := 8) (by simp; rfl) (by kernel_rfl) (by kernel_rfl) (by kernel_rfl) (Or.inl ⟨by rfl, fun w' hSw => ?_⟩) HBd.out ?_
        rotate_left
        · go_simp
          all_goals with_reducible rfl
        simp only [Act.put, List.setIfInBounds_toArray, List.set_cons_zero, List.set_cons_succ]
        refine ord_take (v := ?_) (i := 7) (fuel := 7) (by simp; rfl) (by kernel_rfl) (by kernel_rfl) (by kernel_rfl) (Or.inl ⟨by rfl, fun w' hSw => ?_⟩) HBd.out ?_
        rotate_left
        · go_simp
          all_goals with_reducible rfl
        simp only [Act.put, List.setIfInBounds_toArray, List.set_cons_zero, List.set_cons_succ]
        refine ord_take (v := ?_) (i := 8) (fuel := 6) (by simp; rfl) (by kernel_rfl) (by kernel_rfl) (by kernel_rfl) (Or.inl ⟨by rfl, fun w' hSw => ?_⟩) HBd.out ?_
        rotate_left
        · go_simp
          all_goals with_reducible rfl
        simp only [Act.put, List.setIfInBounds_toArray, List.set_cons_zero, List.set_cons_succ]
        refine ord_take (v := ?_) (i := 9) (fuel := 5) (by simp; rfl) (by kernel_rfl) (by kernel_rfl) (by kernel_rfl) (Or.inl ⟨by rfl, fun w' hSw => ?_⟩) HBd.out ?_
        rotate_left
        · go_simp
          all_goals with_reducible rfl
        simp only [Act.put, List.setIfInBounds_toArray, List.set_cons_zero, List.set_cons_succ]
        refine ord_take (v := ?_) (i := 10) (fuel := 4) (by simp; rfl) (by kernel_rfl) (by kernel_rfl) (by kernel_rfl) (Or.inl ⟨by rfl, fun w' hSw => ?_⟩) HBd.out ?_
        rotate_left
        · go_simp
          all_goals with_reducible rfl
        simp only [Act.put, List.setIfInBounds_toArray, List.set_cons_zero, List.set_cons_succ]
        refine ord_call (f := 48) (args := #[.slice (some ⟨g, o' + 10, none⟩) m (c - 10), .int .i64 (o : Int)]) (w1 := w1.drew) (i := 11) (fuel := 3) (by simp; rfl) (by kernel_rfl) (by rfl) ?_ ?_
        · go_simp
          all_goals with_reducible rfl
        refine (marked_c o _ _ m (c - 10) T _ ((HT.out.below HBd.out).more HBd.out.size) rfl ho (by omega)).mono ?_
        rintro e w2 ⟨rfl, hO, hb⟩
        have HB2 := Lib.hid (show Below w1.heap.size w1 w2 from HBd.out.trans (hb.mono HBd.out.size))
        have HO2 := Lib.hid hO
        clear hO hb
        refine ⟨_, rfl, HB2.out, ?_⟩
        simp only [Act.put, List.setIfInBounds_toArray, List.set_cons_zero, List.set_cons_succ]
        refine ord_call (f := 54) (args := #[.slice (some ⟨g, o' + 2, none⟩) 8 (c - 2), .slice (some ⟨w1.drew.heap.size, 0, none⟩) 8 8]) (w1 := w2) (i := 12) (fuel := 2) (by simp; rfl) (by kernel_rfl) (by rfl) ?_ ?_
        · go_simp
          all_goals with_reducible rfl
        refine (equal_c _ _ _ _ _ _ _ _ β _ ((HS.out.below HB2.out).more HB2.out.size) HO2.out.bs HBe.out).mono ?_
        rintro e w' ⟨rfl, rfl⟩
        refine ⟨_, rfl, HB2.out, ?_⟩
        simp only [Act.put, List.setIfInBounds_toArray, List.set_cons_zero, List.set_cons_succ]
        refine ord_take (v := ?_) (i := 13) (fuel := 1) (by simp; rfl) (by kernel_rfl) (by kernel_rfl) (by kernel_rfl) (Or.inl ⟨by rfl, fun w' hSw => ?_⟩) HB2.out ?_
        rotate_left
        · go_simp
          all_goals with_reducible rfl
        simp only [Act.put, List.setIfInBounds_toArray, List.set_cons_zero, List.set_cons_succ]
        refine ord_take (v := ?_) (i := 14) (fuel := 0) (by simp; rfl) (by kernel_rfl) (by kernel_rfl) (by kernel_rfl) (Or.inl ⟨by rfl, fun w' hSw => ?_⟩) HB2.out ?_
        rotate_left
        · go_simp
          all_goals with_reducible rfl
        simp only [Act.put, List.setIfInBounds_toArray, List.set_cons_zero, List.set_cons_succ]
        refine ord_done (by kernel_rfl) ?_ _
        go_wp2_with fail
        go_meet
        case rel => exact ⟨rfl, HB2.out⟩
      case rest =>
        as_aux_lemma =>
        obtain ⟨rfl, hb⟩ := hcut
        obtain ⟨w3, rfl⟩ : ∃ V : World, V = wc := ⟨_, rfl⟩
        have HT3 := Lib.hid ((HT.out.below hb).more hb.size)
        have HK3 := Lib.hid (HK1.out.below hb HK1.out.lt)
        have HB3 := Lib.hid (HB1.out.trans (hb.mono HB1.out.size))
        clear hb HT HS HK1 HB1 cm
        cases β with
        | false =>
          obtain rfl : R = none := by rw [← HRR.out, if_pos (.inr (by have := HBe.out; simpa using this))]
          have hk1 := HK3.out.lt
          obtain ⟨lk, x0, x1⟩ := blk2 HK3.out
          have f0 := HK3.out.frozen 0
          have f1 := HK3.out.frozen 1
          go_wp2
          obtain ⟨p0, p1⟩ := rec_end HK3.out (.int .i64 0) (.string ⟨#[]⟩)
          exact bodyPost_ret (v := whV none) (by simp [whV, results, Try.results43, go_sem, p0, p1]) rfl ⟨rfl, (HB3.out.setCell (p := ⟨k, 0, none⟩) HKk.out _).setCell (p := ⟨k, 1, none⟩) HKk.out _⟩
        | true =>
          have hR := HRR.out
          rw [if_neg (by
            have h1 := HBe.out
            have h2 := HTx.out
            intro h
            rcases h with h | h
            · exact h (by rw [← u8_back (T[m - 1]'hml), h2]; rfl)
            · exact h (by simpa using h1))] at hR
          have HRR := Lib.hid hR
          have k1 : (8 : Int) ≤ ((c - 10 : Nat) : Int) := by omega
          have HN8 := Lib.hid (HT3.out.head (k := 8) (by omega))
          obtain ⟨sq, hsq⟩ : ∃ sq, sgnB (numB (T.take 8)) = sq := ⟨_, rfl⟩
          have HSQ := Lib.hid hsq
          rw [hsq] at HRR
          clear hR hsq
          go_wp2_with fail
          (with_reducible refine (rnumber_c _ 8 (c - 10) (T.take 8) sq _ HN8.out HSQ.out (by omega)).mono ?_)
          rintro e w' ⟨rfl, rfl⟩
          have k2 : (8 : Int) ≤ (m : Int) - 1 := by omega
          have k3 : (m : Int) - 1 ≤ ((c - 10 : Nat) : Int) := by omega
          have k4 : ¬ c - 10 = 8 := by omega
          have hX : Bs w3 w3.heap.size (some ⟨g, o' + 10 + 8, none⟩) (m - 1 - 8) (c - 10 - 8) ((T.take (m - 1)).drop 8) := by
            have := (HT3.out.head (k := m - 1) (by omega)).cut_no (k := 8) (by omega) k4
            simpa [Addr.add_lit] using this
          obtain ⟨X, hXX⟩ : ∃ X, (T.take (m - 1)).drop 8 = X := ⟨_, rfl⟩
          obtain ⟨nx, hnx⟩ : ∃ nx, m - 1 - 8 = nx := ⟨_, rfl⟩
          rw [hXX, hnx] at hX
          rw [hXX] at HRR
          have HX := Lib.hid hX
          have hnx2 : nx ≤ 16383 := by omega
          have HNX := Lib.hid hnx
          clear hX hXX
          go_wp2_with fail
          clear hnx
          have hXl := HX.out.len
          have hf := firstS_le X
          by_cases hno : firstS X = 0 ∨ firstN X < 0 ∨ (nx : Int) - firstS X < firstN X
          · as_aux_lemma =>
            have hnone : txtB X = none := by
              unfold txtB
              rw [if_pos (by rcases hno with h | h | h; exact .inl h; exact .inr (.inl h); exact .inr (.inr (by omega)))]
            obtain rfl : R = none := by
              rw [← HRR.out, hnone]
              split <;> rfl
            have HNO := Lib.hid hno
            clear hno hnone
            (with_reducible refine (readText_no _ nx _ X _ HX.out (by omega) HNO.out).mono ?_)
            rintro e w' ⟨rfl, rfl⟩
            have hk1 := HK3.out.lt
            obtain ⟨lk, x0, x1⟩ := blk2 HK3.out
            have f0 := HK3.out.frozen 0
            have f1 := HK3.out.frozen 1
            by_cases hs : sq ≤ last
            · go_wp2
              obtain ⟨p0, p1⟩ := rec_end HK3.out (.int .i64 0) (.string ⟨#[]⟩)
              exact bodyPost_ret (v := whV none) (by simp [whV, results, Try.results43, go_sem, p0, p1]) rfl ⟨rfl, (HB3.out.setCell (p := ⟨k, 0, none⟩) HKk.out _).setCell (p := ⟨k, 1, none⟩) HKk.out _⟩
            · go_wp2
              obtain ⟨p0, p1⟩ := rec_end HK3.out (.int .i64 0) (.string ⟨#[]⟩)
              exact bodyPost_ret (v := whV none) (by simp [whV, results, Try.results43, go_sem, p0, p1]) rfl ⟨rfl, (HB3.out.setCell (p := ⟨k, 0, none⟩) HKk.out _).setCell (p := ⟨k, 1, none⟩) HKk.out _⟩
          · as_aux_lemma =>
            obtain ⟨y, hy⟩ := Int.eq_ofNat_of_zero_le (show 0 ≤ firstN X by omega)
            obtain ⟨s, hsx⟩ : ∃ s, firstS X = s := ⟨_, rfl⟩
            have h0 : s ≠ 0 := by omega
            have hsy : s + y ≤ nx := by omega
            have HY := Lib.hid hy
            have HSX := Lib.hid hsx
            clear hno hy hsx hf
            (with_reducible refine (readText_yes _ nx _ X _ y s HX.out (by omega) HY.out HSX.out h0 hsy).mono ?_)
            rintro e w4 ⟨rfl, hO, hb⟩
            have HK4 := Lib.hid (HK3.out.below hb HK3.out.lt)
            have HB4 := Lib.hid (HB3.out.trans (hb.mono HB3.out.size))
            clear hO hb HK3 HB3 HX HT3 HN8
            have hk1 := HK4.out.lt
            obtain ⟨lk, x0, x1⟩ := blk2 HK4.out
            have f0 := HK4.out.frozen 0
            have f1 := HK4.out.frozen 1
            by_cases hs : sq ≤ last
            · obtain rfl : R = none := by rw [← HRR.out, if_pos hs]
              go_wp2
              obtain ⟨p0, p1⟩ := rec_end HK4.out (.int .i64 0) (.string ⟨#[]⟩)
              exact bodyPost_ret (v := whV none) (by simp [whV, results, Try.results43, go_sem, p0, p1]) rfl ⟨rfl, (HB4.out.setCell (p := ⟨k, 0, none⟩) HKk.out _).setCell (p := ⟨k, 1, none⟩) HKk.out _⟩
            · by_cases hr : s + y = nx
              · have hz : ((nx - (s + y) : Nat) : Int) = 0 := by omega
                have HRS := Lib.hid (show R = some (⟨sq, X.drop s⟩, 10 + m) by
                  rw [← HRR.out, if_neg hs]
                  have : txtB X = some (X.drop s) := by
                    unfold txtB
                    rw [if_neg (by have := HY.out; have := HSX.out; omega), HSX.out]
                  rw [this])
                have HTK := Lib.hid (show (X.drop s).take y = X.drop s from List.take_of_length_le (by rw [List.length_drop]; omega))
                go_wp2
                rw [HTK.out]
                obtain ⟨p0, p1⟩ := rec_end HK4.out (.int .i64 sq) (.string ⟨(X.drop s).toArray⟩)
                have HRE := HRS.out
                clear HRS HRR
                subst HRE
                exact bodyPost_ret (v := whV (some (⟨sq, X.drop s⟩, 10 + m))) (by simp [whV, results, Try.results43, go_sem, p0, p1]) rfl ⟨rfl, (HB4.out.setCell (p := ⟨k, 0, none⟩) HKk.out _).setCell (p := ⟨k, 1, none⟩) HKk.out _⟩
              · have hz : (0 : Int) < ((nx - (s + y) : Nat) : Int) := by omega
                obtain rfl : R = none := by
                  rw [← HRR.out, if_neg hs]
                  have : txtB X = none := by
                    unfold txtB
                    rw [if_pos (by have := HY.out; have := HSX.out; omega)]
                  rw [this]
                go_wp2
                obtain ⟨p0, p1⟩ := rec_end HK4.out (.int .i64 0) (.string ⟨#[]⟩)
                exact bodyPost_ret (v := whV none) (by simp [whV, results, Try.results43, go_sem, p0, p1]) rfl ⟨rfl, (HB4.out.setCell (p := ⟨k, 0, none⟩) HKk.out _).setCell (p := ⟨k, 1, none⟩) HKk.out _⟩
    · as_aux_lemma =>
      obtain rfl : R = none := by rw [← hR, if_pos (.inl (fun e => hx3 (by rw [← hx, e]; rfl)))]
      have hx3' : ((x : Int) == 255) = false := by simp; omega
      have hx3'' : ((x : Int) != 255) = true := by simp; omega
      have hk1 := HK1.out.lt
      obtain ⟨lk, x0, x1⟩ := blk2 HK1.out
      have f0 := HK1.out.frozen 0
      have f1 := HK1.out.frozen 1
      clear hR hx hT hS hTT HL1 HR HM
      go_upto_region 6 with fail
      have hw1 : IntKind.i64.wrap ((m : Int) - 1) = (m : Int) - 1 := by rw [IntKind.wrap_i64]; omega
      refine wp_region_ord (S := fun V => V = w1.drew) (by kernel_rfl) ?_
      refine ord_take (v := ?_) (i := 0) (fuel := 14) (by simp; rfl) (by kernel_rfl) (by kernel_rfl) (by kernel_rfl) (Or.inl ⟨by rfl, fun w' hSw => ?_⟩) rfl ?_
      rotate_left
      · go_simp
        all_goals with_reducible rfl
      simp only [Act.put, List.setIfInBounds_toArray, List.set_cons_zero, List.set_cons_succ]
      refine ord_take (v := ?_) (i := 1) (fuel := 13) (by simp; rfl) (by kernel_rfl) (by kernel_rfl) (by kernel_rfl) (Or.inl ⟨by rfl, fun w' hSw => ?_⟩) rfl ?_
      rotate_left
      · go_simp
        all_goals with_reducible rfl
      simp only [Act.put, List.setIfInBounds_toArray, List.set_cons_zero, List.set_cons_succ]
      refine ord_take (v := ?_) (i := 2) (fuel := 12) (by simp; rfl) (by kernel_rfl) (by kernel_rfl) (by kernel_rfl) (Or.inl ⟨by rfl, fun w' hSw => ?_⟩) rfl ?_
      rotate_left
      · go_simp
        all_goals with_reducible rfl
      simp only [Act.put, List.setIfInBounds_toArray, List.set_cons_zero, List.set_cons_succ]
      refine ord_take (v := ?_) (i := 3) (fuel := 11) (by simp; rfl) (by kernel_rfl) (by kernel_rfl) (by kernel_rfl) (Or.inl ⟨by rfl, fun w' hSw => ?_⟩) rfl ?_
      rotate_left
      · go_simp
        all_goals with_reducible rfl
      simp only [Act.put, List.setIfInBounds_toArray, List.set_cons_zero, List.set_cons_succ]
      refine ord_take (v := ?_) (i := 4) (fuel := 10) (by simp; rfl) (by kernel_rfl) (by kernel_rfl) (by kernel_rfl) (Or.inl ⟨by rfl, fun w' hSw => ?_⟩) rfl ?_
      rotate_left
      · dsimp only at hSw
        subst hSw
        have cc : w1.drew.cell? ⟨g, o' + 10 + (m - 1), none⟩ = _ := cm
        go_simp
        all_goals with_reducible rfl
      simp only [Act.put, List.setIfInBounds_toArray, List.set_cons_zero, List.set_cons_succ]
      refine ord_take (v := ?_) (i := 5) (fuel := 9) (by simp; rfl) (by kernel_rfl) (by kernel_rfl) (by kernel_rfl) (Or.inl ⟨by rfl, fun w' hSw => ?_⟩) rfl ?_
      rotate_left
      · go_simp
        all_goals with_reducible rfl
      simp only [Act.put, List.setIfInBounds_toArray, List.set_cons_zero, List.set_cons_succ]
      refine ord_take (v := ?_) (i := 6) (fuel := 8) (by simp; rfl) (by kernel_rfl) (by kernel_rfl) (by kernel_rfl) (Or.inl ⟨by rfl, fun w' hSw => ?_⟩) rfl ?_
      rotate_left
      · go_simp
        all_goals with_reducible rfl
      simp only [Act.put, List.setIfInBounds_toArray, List.set_cons_zero, List.set_cons_succ]
      refine ord_take (v := undef) (i := 7) (fuel := 7) (by simp; rfl) (by kernel_rfl) (by kernel_rfl) (by kernel_rfl) (Or.inr ⟨by rfl, rfl⟩) rfl ?_
      simp only [Act.put, List.setIfInBounds_toArray, List.set_cons_zero, List.set_cons_succ]
      refine ord_take (v := undef) (i := 8) (fuel := 6) (by simp; rfl) (by kernel_rfl) (by kernel_rfl) (by kernel_rfl) (Or.inr ⟨by rfl, rfl⟩) rfl ?_
      simp only [Act.put, List.setIfInBounds_toArray, List.set_cons_zero, List.set_cons_succ]
      refine ord_take (v := undef) (i := 9) (fuel := 5) (by simp; rfl) (by kernel_rfl) (by kernel_rfl) (by kernel_rfl) (Or.inr ⟨by rfl, rfl⟩) rfl ?_
      simp only [Act.put, List.setIfInBounds_toArray, List.set_cons_zero, List.set_cons_succ]
      refine ord_take (v := undef) (i := 10) (fuel := 4) (by simp; rfl) (by kernel_rfl) (by kernel_rfl) (by kernel_rfl) (Or.inr ⟨by rfl, rfl⟩) rfl ?_
      simp only [Act.put, List.setIfInBounds_toArray, List.set_cons_zero, List.set_cons_succ]
      refine ord_take (v := undef) (i := 11) (fuel := 3) (by simp; rfl) (by kernel_rfl) (by kernel_rfl) (by kernel_rfl) (Or.inr ⟨by rfl, rfl⟩) rfl ?_
      simp only [Act.put, List.setIfInBounds_toArray, List.set_cons_zero, List.set_cons_succ]
      refine ord_take (v := undef) (i := 12) (fuel := 2) (by simp; rfl) (by kernel_rfl) (by kernel_rfl) (by kernel_rfl) (Or.inr ⟨by rfl, rfl⟩) rfl ?_
      simp only [Act.put, List.setIfInBounds_toArray, List.set_cons_zero, List.set_cons_succ]
      refine ord_take (v := undef) (i := 13) (fuel := 1) (by simp; rfl) (by kernel_rfl) (by kernel_rfl) (by kernel_rfl) (Or.inr ⟨by rfl, rfl⟩) rfl ?_
      simp only [Act.put, List.setIfInBounds_toArray, List.set_cons_zero, List.set_cons_succ]
      refine ord_take (v := ?_) (i := 14) (fuel := 0) (by simp; rfl) (by kernel_rfl) (by kernel_rfl) (by kernel_rfl) (Or.inl ⟨by rfl, fun w' hSw => ?_⟩) rfl ?_
      rotate_left
      · go_simp
        all_goals with_reducible rfl
      simp only [Act.put, List.setIfInBounds_toArray, List.set_cons_zero, List.set_cons_succ]
      refine ord_done (by kernel_rfl) ?_ _
      clear hw1
      go_wp2
      have p2 : (w1.setCell ⟨k, 0, none⟩ (.int .i64 0)).cell? ⟨k, 0, none⟩ = some (.int .i64 0) := (blk2 (HK1.out.set_ 0 (.int .i64 0))).2.1
      obtain ⟨p0, p1⟩ := rec_end HK1.out (.int .i64 0) (.string ⟨#[]⟩)
      exact bodyPost_ret (v := whV none) (by simp [whV, results, Try.results43, go_sem, p2, p1]) rfl ⟨rfl, ((HB1.out.setCell (p := ⟨k, 0, none⟩) HKk.out _).setCell (p := ⟨k, 1, none⟩) HKk.out _).drew⟩
end Go.Proofs.Ytkjckdndkljeeaa
