/- Package roll: Open, Append. -/
import Derived.Test.YtkjckdndkljeeaaRollH
namespace Go.Proofs.Ytkjckdndkljeeaa
open Go.RowKit
theorem Rl.base {T E : TypeId} {w : World} {B B' p g c u : Nat} {a z : Int} {A : Option Addr} {L : List Rec} (h : Rl T E w B p g a z A c L u) (hB : B' ≤ B) : Rl T E w B' p g a z A c L u := by
  refine ⟨h.1, h.2.1, ?_⟩
  rcases h.2.2 with h0 | ⟨k, cap, cur, e, q1, q2⟩
  · exact .inl h0
  · exact .inr ⟨k, cap, cur, e, Nat.le_trans hB q1, q2⟩
def OpE (T E : TypeId) (Sl' : World → Nat → Nat → Nat → Sst → Prop) (w : World) (g d n : Nat) (a z : Int) (R : Sst × Option (List Rec × Nat) × Int) (e : Ending) (w' : World) : Prop :=
  Sl' w' g d n R.1 ∧ But [g, d] w w' ∧ match R.2.1 with
    | none => e = .returned (.tuple #[.pointer none, .int .i64 R.2.2])
    | some q => ∃ (p : Nat) (A : Option Addr) (c : Nat), e = .returned (.tuple #[.pointer (some ⟨p, 0, none⟩), .int .i64 R.2.2]) ∧ w.heap.size ≤ p ∧ Rl T E w' w.heap.size p g a z A c q.1 q.2
theorem findF_L : ∀ (f : Nat) (b : List UInt8) (u : Nat) (last : Int), u ≤ b.length → (findF f b u last).1.length + u ≤ (findF f b u last).2
  | 0, b, u, last, h => by simp [findF]
  | f + 1, b, u, last, h => by
    unfold findF
    cases hw : wholeB (b.drop u) u last with
    | none => simp
    | some q =>
      obtain ⟨r, n⟩ := q
      have h1 := wholeB_size hw
      rw [List.length_drop] at h1
      have := findF_L f b (u + n) r.seq (by omega)
      simp only [List.length_cons]
      omega
theorem findB_L (b : List UInt8) : (findB b).1.length ≤ (findB b).2 := by
  have := findF_L b.length b 0 0 (by omega)
  exact this
theorem opS_bad {s : Sst} {n : Nat} {a z : Int} (h : badA n a z = true) : opS s n a z = (s, none, 1) := by
  unfold opS
  rw [if_pos h]
theorem opS_dead {s : Sst} {n : Nat} {a z : Int} (h : badA n a z = false) (hd : s.dead = true) : opS s n a z = (s, none, 6) := by
  unfold opS
  rw [if_neg (by rw [h]; decide), if_pos hd]
theorem opS_on {s s' : Sst} {n a z u : Nat} {l : List UInt8} {L : List Rec} {β : Bool} (h : badA n (a : Int) (z : Int) = false) (hd : s.dead = false) (hl : (s.l.drop a).take z = l) (hf : findB l = (L, u)) (hw : wipeB s n (a : Int) u z (l.drop u) = (s', β)) :
    opS s n (a : Int) (z : Int) = if β = true then (s', some (L, u), 0) else (s', none, 6) := by
  unfold opS
  rw [if_neg (by rw [h]; decide), if_neg (by rw [hd]; decide)]
  simp only [Int.toNat_natCast, hl, hf, hw]
theorem sizeS_w {w : World} {g d n : Nat} {s : Sst} (h : SlS w g d n s) : Calls Try.prog 29 #[.pointer (some ⟨g, 0, none⟩)] w fun e w' => e = .returned (.int .i64 n) ∧ w = w' := size_c h
theorem readS_no {w : World} {g d n : Nat} {s : Sst} (a m : Int) (h : SlS w g d n s) (ha : a ≤ 9223372036854775807) (hβ : okB s.dead a m n = false) : Calls Try.prog 15 #[.pointer (some ⟨g, 0, none⟩), .int .i64 a, .int .i64 m] w fun e w' => e = .returned (.tuple #[.slice none 0 0, .bool false]) ∧ w = w' := read_no a m h ha hβ
theorem readS_yes {w : World} {g d n : Nat} {s : Sst} (a m : Nat) (x y : Int) (h : SlS w g d n s) (hx : x = (a : Int)) (hy : y = (m : Int)) (hd : s.dead = false) (hm : a + m ≤ n) : Calls Try.prog 15 #[.pointer (some ⟨g, 0, none⟩), .int .i64 x, .int .i64 y] w fun e w' => e = .returned (.tuple #[.slice (some ⟨w.heap.size, 0, none⟩) m m, .bool true]) ∧ Row w' w.heap.size ((s.l.drop a).take m) ∧ Below w.heap.size w w' := read_yes a m x y h hx hy hd hm
set_option maxRecDepth 100000 in
set_option maxHeartbeats 800000 in
theorem openNil_c (a z : Int) (w : World) : Calls Try.prog 9 #[.pointer none, .int .i64 a, .int .i64 z] w fun e w' => e = .returned (.tuple #[.pointer none, .int .i64 1]) ∧ w = w' := by
  go_enter Try.func9, Try.ntmps9
  go_wp2
  go_ret2
  exact ⟨rfl, rfl⟩
set_option maxRecDepth 100000 in
set_option maxHeartbeats 3200000 in
theorem open_c {g d n : Nat} {s : Sst} (a z : Int) (K : Int) (w : World) (h : SlS w g d n s) (ho : s.Ok n K) (hK : K ≤ 1000000000000000000) (ha : a ≤ 9223372036854775807) (R : Sst × Option (List Rec × Nat) × Int) (hR : opS s n a z = R) :
    Calls Try.prog 9 #[.pointer (some ⟨g, 0, none⟩), .int .i64 a, .int .i64 z] w (OpE 66 58 SlS w g d n a z R) := by
  have hn := h.2.2.2.2
  have H := Lib.hid h
  have HO := Lib.hid ho
  have HR := Lib.hid hR
  clear h ho hR
  by_cases h1 : z < 32
  · have HE := Lib.hid (show R = (s, none, 1) by rw [← HR.out, opS_bad (by unfold badA; simp [h1])])
    go_enter Try.func9, Try.ntmps9
    go_wp2
    go_ret2
    rw [HE.out]
    exact ⟨H.out, But.refl _ _, rfl⟩
  by_cases h2 : 8192 < z
  · have HE := Lib.hid (show R = (s, none, 1) by rw [← HR.out, opS_bad (by unfold badA; simp [h2])])
    go_enter Try.func9, Try.ntmps9
    go_wp2
    go_ret2
    rw [HE.out]
    exact ⟨H.out, But.refl _ _, rfl⟩
  by_cases h3 : a < 0
  · have HE := Lib.hid (show R = (s, none, 1) by rw [← HR.out, opS_bad (by unfold badA; simp [h3])])
    go_enter Try.func9, Try.ntmps9
    go_wp2
    go_ret2
    rw [HE.out]
    exact ⟨H.out, But.refl _ _, rfl⟩
  by_cases h4 : (n : Int) - z < a
  · have HE := Lib.hid (show R = (s, none, 1) by rw [← HR.out, opS_bad (by unfold badA; simp [h4])])
    go_enter Try.func9, Try.ntmps9
    go_wp2_with fail
    (with_reducible refine (sizeS_w H.out).mono ?_)
    rintro e w' ⟨rfl, rfl⟩
    go_wp2
    go_ret2
    rw [HE.out]
    exact ⟨H.out, But.refl _ _, rfl⟩
  have HBad := Lib.hid (show badA n a z = false by unfold badA; simp; omega)
  obtain ⟨aN, rfl⟩ := Int.eq_ofNat_of_zero_le (show 0 ≤ a by omega)
  obtain ⟨zN, rfl⟩ := Int.eq_ofNat_of_zero_le (show 0 ≤ z by omega)
  cases hd : s.dead with
  | true =>
    have HE := Lib.hid (show R = (s, none, 6) by rw [← HR.out, opS_dead HBad.out hd])
    have HND := Lib.hid (show okB s.dead (aN : Int) (zN : Int) n = false by rw [hd]; rfl)
    clear hd
    go_enter Try.func9, Try.ntmps9
    go_wp2_with fail
    (with_reducible refine (sizeS_w H.out).mono ?_)
    rintro e w' ⟨rfl, rfl⟩
    go_wp2_with fail
    (with_reducible refine (readS_no _ _ H.out ha HND.out).mono ?_)
    rintro e w' ⟨rfl, rfl⟩
    go_wp2
    go_ret2
    rw [HE.out]
    exact ⟨H.out, But.refl _ _, rfl⟩
  | false =>
    have HD := Lib.hid hd
    obtain ⟨l, hl⟩ : ∃ l, (s.l.drop aN).take zN = l := ⟨_, rfl⟩
    have HL := Lib.hid hl
    have hll : l.length = zN := by rw [← hl, List.length_take, List.length_drop, H.out.2.2.1]; omega
    have HLL := Lib.hid hll
    obtain ⟨L, u, hf⟩ : ∃ L u, findB l = (L, u) := ⟨_, _, rfl⟩
    have HF := Lib.hid hf
    have huz : u ≤ zN := by have := findB_u l; rw [hf] at this; simp only at this; omega
    have hLu : L.length ≤ u := by have := findB_L l; rw [hf] at this; exact this
    obtain ⟨s', β, hw⟩ : ∃ s' β, wipeB s n (aN : Int) u zN (l.drop u) = (s', β) := ⟨_, _, rfl⟩
    have HW := Lib.hid hw
    have HE := Lib.hid (show R = if β = true then (s', some (L, u), 0) else (s', none, 6) by rw [← HR.out, opS_on HBad.out hd hl hf hw])
    clear hd hl hll hf hw HR
    go_enter Try.func9, Try.ntmps9
    go_wp2_with fail
    (with_reducible refine (sizeS_w H.out).mono ?_)
    rintro e w' ⟨rfl, rfl⟩
    go_wp2_with fail
    (with_reducible refine (readS_yes aN zN _ _ H.out rfl rfl HD.out (by omega)).mono ?_)
    rintro e w2 ⟨rfl, hr2, hb2⟩
    rw [HL.out] at hr2
    obtain ⟨b0, hb0⟩ : ∃ b0, w.heap.size = b0 := ⟨_, rfl⟩
    rw [hb0] at hr2 ⊢
    have HBs2 := Lib.hid (hr2.bs (n := zN) HLL.out)
    have HRw2 := Lib.hid hr2
    have HS2 := Lib.hid (H.out.below hb2)
    have HB2 := Lib.hid hb2
    have hbw : w.heap.size ≤ b0 := by omega
    clear hr2 hb2
    go_wp2_with fail
    obtain ⟨p, hp⟩ : ∃ p, w2.heap.size = p := ⟨_, rfl⟩
    obtain ⟨V, hV⟩ : ∃ V, w2.alloc (.cells #[.pointer (some ⟨g, 0, none⟩), .int .i64 (aN : Int), .int .i64 (zN : Int), .slice none 0 0, .int .i64 0] 66) = V := ⟨_, rfl⟩
    have hA : Below w2.heap.size w2 V := by rw [← hV]; exact (Below.refl _ _).alloc (Nat.le_refl _) _
    have HP := Lib.hid (show RlG V V.heap.size p g (aN : Int) (zN : Int) none 0 [] 0 from ⟨by rw [← hV, ← hp]; exact Blk.new _ _ _, World.ownsRow_nil _ _ _ _⟩)
    have HSv := Lib.hid (HS2.out.below hA)
    have HRv := Lib.hid (HRw2.out.below hA)
    have HBv := Lib.hid (HB2.out.trans (hA.mono HB2.out.size))
    have HNE := Lib.hid (show b0 ≠ p by have := Blk.lt HRw2.out; omega)
    have hpw : w.heap.size ≤ p := by have := HB2.out.size; omega
    have HPX := Lib.hid (show g ∉ [p] ∧ d ∉ [p] by have := HS2.out.lt; simp; omega)
    rw [hV, hp]
    clear hV hp hA HS2 HRw2 HBs2 HB2
    have HBsv := Lib.hid (HRv.out.bs (n := zN) HLL.out)
    (with_reducible refine (find_c _ zN zN l _ HP.out HBsv.out (by omega) (by intro ad e; cases e; exact HNE.out)).mono ?_)
    rintro e V2 ⟨rfl, A2, c2, hr, hb⟩
    rw [HF.out] at hr
    have HR2 := Lib.hid hr
    have HS2 := Lib.hid (HSv.out.but hb HPX.out.1 HPX.out.2)
    have HRw := Lib.hid (show Bs V2 V2.heap.size (some ⟨b0, 0, none⟩) zN zN l from (Row.but HRv.out hb (by simp; exact HNE.out)).bs HLL.out)
    have HB2 := Lib.hid (HBv.out.trans (hb.below (B := w.heap.size) HBv.out.size (by simp; exact hpw)))
    have HBV := Lib.hid (show w.heap.size ≤ V.heap.size from HBv.out.size)
    clear hr hb HP HSv HRv HBv HBsv
    obtain ⟨Ar, hAr⟩ : ∃ Ar, some (⟨b0, 0, none⟩ : Addr) = Ar := ⟨_, rfl⟩
    rw [hAr] at HRw ⊢
    clear hAr
    have HC := Lib.hid (HRw.out.cut (k := u) huz)
    obtain ⟨Ax, hAx⟩ : ∃ Ax, (if zN = u then Ar else Option.map (fun x => x.add u) Ar) = Ax := ⟨_, rfl⟩
    rw [hAx] at HC
    obtain ⟨lp, x0, x1, x2, x3, x4⟩ := HR2.out.cells
    have i1 : (0 : Int) ≤ (u : Int) := by omega
    have i2 : (u : Int) ≤ (zN : Int) := by omega
    go_wp2_with fail
    (with_reducible refine (wipe_c K _ (zN - u) (zN - u) (l.drop u) _ HR2.out HS2.out HC.out HO.out hK (by omega) huz (by omega) (by omega) (by omega) HW.out).mono ?_)
    rintro e V3 ⟨rfl, hs, hb⟩
    have HS3 := Lib.hid hs
    have HR3 := Lib.hid (HR2.out.slab (HR2.out.far HS2.out.1 (by decide) (by decide)) (HR2.out.far HS2.out.2.1 (by decide) (by decide)) hb)
    have HB3 := Lib.hid ((But.of_below HB2.out [g, d]).trans hb)
    clear hs hb
    cases β with
    | false =>
      go_wp2
      go_ret2
      rw [HE.out]
      exact ⟨HS3.out, HB3.out, rfl⟩
    | true =>
      go_wp2
      go_ret2
      rw [HE.out]
      exact ⟨HS3.out, HB3.out, p, A2, c2, rfl, hpw, HR3.out.base HBV.out⟩
end Go.Proofs.Ytkjckdndkljeeaa
