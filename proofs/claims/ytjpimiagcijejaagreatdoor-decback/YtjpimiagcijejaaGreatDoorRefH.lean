/- Package pyxref1: MulNat's walk. -/
import Derived.Test.YtjpimiagcijejaaGreatDoorRefG
namespace Go.Proofs.YtjpimiagcijejaaGreatDoor
open Go.RowKit
theorem own_set' {w : World} {base g L cap j v : Nat} {ds : List Nat} {x : Int} (hx : x = (v : Int)) (h : w.ownsRow base 3 1 (.slice (some ⟨g, 0, none⟩) L cap) L (ds.map mkD_)) : (w.setCell ⟨g, j, none⟩ (.int .i64 x)).ownsRow base 3 1 (.slice (some ⟨g, 0, none⟩) L cap) L ((ds.set j v).map mkD_) := by
  subst hx
  exact own_set h

set_option maxRecDepth 100000 in
set_option maxHeartbeats 1600000 in
theorem mulNat_c (A B : Option Addr) (n m ca cb : Nat) (a b : List Nat) (w : World) (ha : DigC w A n ca a) (hb : DigC w B m cb b) (hn : n ≤ 400000) (hm : m ≤ 400000) :
    Calls Tryz.prog 43 #[.slice A n ca, .slice B m cb] w (RetN w (dv a * dv b)) := by
  have LA := Lib.hid ha.1
  have LB := Lib.hid hb.1
  have DA := Lib.hid ha.2.2.2.1
  have DB := Lib.hid hb.2.2.2.1
  have HA := Lib.hid ha
  have HB_ := Lib.hid hb
  clear ha hb
  obtain ⟨L, hL⟩ : ∃ L, n + m + 1 = L := ⟨_, rfl⟩
  have HLL := Lib.hid hL
  have hL1 : n + m < L := by omega
  have hL2 : L ≤ 1000000 := by omega
  have hmk := run_make_row' (P := Tryz.prog) 54 3 (.int .i64 0) 8 Tryz.underlying54 info_int rfl .i64 .i64 L (by omega) (by omega)
  have ec : (L : Int) = (n : Int) + (m : Int) + 1 := by omega
  rw [ec] at hmk
  have hmk2 := hmk w
  have hO := own_made (w := w) L (by omega)
  have HO := Lib.hid hO
  have HBl : Below w.heap.size w (w.alloc (.cells (madeCells #[.int .i64 0] L) 3)) := (Below.refl _ _).alloc (Nat.le_refl _) _
  have HBH := Lib.hid HBl
  clear hL ec hmk hO HBl
  go_enter Tryz.func43, Tryz.ntmps43
  go_wp2
  go_loopw [6] (fun q wr => ∃ (i : Nat) (ds : List Nat), i ≤ n ∧ q = .int .i64 i ∧ OutN a b L i ds ∧ wr.ownsRow w.heap.size 3 1 (.slice (some ⟨w.heap.size, 0, none⟩) L L) L (ds.map mkD_) ∧ Below w.heap.size w wr) (fun q _ => n - (intOf q).toNat)
  case atStart => exact ⟨0, _, by omega, rfl, outN_0 a b L, HO.out, HBH.out⟩
  case round =>
    obtain ⟨i, ds, hi, rfl, HI, hown, HB⟩ := hrel
    clear hmk2
    by_cases hlt : i < n
    · have M0 := mulN_0 HI
      have HIn : (i : Int) < (n : Int) := by omega
      go_wp2
      go_loopw [7, 8] (fun s q wx => ∃ (k c : Nat) (es : List Nat), s = .int .i64 c ∧ q = .int .i64 k ∧ MulN a b L i k c es ∧ wx.ownsRow w.heap.size 3 1 (.slice (some ⟨w.heap.size, 0, none⟩) L L) L (es.map mkD_) ∧ Below w.heap.size w wx) (fun _ q _ => m + 1 - (intOf q).toNat)
      case atStart => exact ⟨0, 0, _, rfl, rfl, M0, hown, HB⟩
      case round =>
        clear hown HB HI M0
        obtain ⟨k, c, es, rfl, rfl, HM, hown, HB⟩ := hrel
        have hc9 := HM.2.2.1
        have hk1 : k ≤ m + 1 := by have := HM.2.2.2.1; rw [LB.out] at this; exact this
        by_cases hgo : k < m ∨ 0 < c
        · have hkm : k ≤ m := by
            rcases hgo with h | h
            · omega
            · rcases Nat.lt_or_ge m k with h' | h'
              · have := HM.2.2.2.2.1 (by rw [LB.out]; omega)
                omega
              · exact h'
          have HS := mulN_s DA.out DB.out (by rw [LB.out]; omega) HM (by rw [LB.out]; exact hgo)
          have hik := HS.1
          have co := own_cell hown HM.1 hik
          have fz := hown.frozenAt (i + k)
          obtain ⟨b1, o1, hA, hlt1, hcc⟩ := (HA.out.below HB).2.2.2.2 (by omega)
          have c1 := hcc i hlt
          obtain ⟨x, hx⟩ : ∃ x, a.getD i 0 = x := ⟨_, rfl⟩
          obtain ⟨y, hy⟩ : ∃ y, b.getD k 0 = y := ⟨_, rfl⟩
          obtain ⟨d, hd⟩ : ∃ d, es.getD (i + k) 0 = d := ⟨_, rfl⟩
          have hx9 : x < 10 := by rw [← hx]; exact dig_lt DA.out i
          have hy9 : y < 10 := by rw [← hy]; exact dig_lt DB.out k
          have hd9 : d < 10 := by rw [← hd]; exact dig_lt HM.2.1 _
          rw [hx] at c1
          rw [hd] at co
          have HCC : ∀ w1, Below wr.heap.size wr w1 → Calls Tryz.prog 56 #[.slice B m cb, .int .i64 k] w1 fun e w' => e = .returned (.int .i64 (y : Nat)) ∧ w1 = w' := by
            intro w1 h1
            have := digit_c B m cb k b w1 ((HB_.out.below HB).below h1)
            rwa [hy] at this
          have HC := Lib.hid HCC
          have HM2 := HS.2
          rw [hx, hy, hd] at HM2
          clear hcc hx hy hd HCC HS HM
          subst hA
          obtain ⟨p, hp⟩ : ∃ p, x * y = p := ⟨_, rfl⟩
          have hp81 : p ≤ 81 := by rw [← hp]; exact Nat.mul_le_mul (show x ≤ 9 by omega) (show y ≤ 9 by omega)
          rw [hp] at HM2
          have hpi : (x : Int) * (y : Int) = (p : Int) := by rw [← hp, Int.natCast_mul]
          have hw0 : IntKind.i64.wrap ((i : Int) + (k : Int)) = (i : Int) + (k : Int) := IntWalk.i64_in _ (by omega)
          have hw1 : IntKind.i64.wrap ((x : Int) * (y : Int)) = (p : Int) := by rw [hpi]; exact IntWalk.i64_in _ (by omega)
          have hw2 : IntKind.i64.wrap ((d : Int) + (p : Int)) = (d : Int) + (p : Int) := IntWalk.i64_in _ (by omega)
          have hw3 : IntKind.i64.wrap ((d : Int) + (p : Int) + (c : Int)) = (d : Int) + (p : Int) + (c : Int) := IntWalk.i64_in _ (by omega)
          have j0 : (0 : Int) ≤ (i : Int) + (k : Int) := by omega
          have j1 : (i : Int) + (k : Int) < (L : Int) := by omega
          have j2 : ((i : Int) + (k : Int)).toNat = i + k := by omega
          clear hp hpi
          rcases (show k < m ∨ (¬ k < m ∧ 0 < c) by omega) with h | ⟨h, h'⟩
          all_goals
            go_wp2
            go_quiet ((go_at_call 56; exact quiet_same (HC.out _ (bel_drewN (Below.refl _ _) _))))
            clear hw0 hw1 hw2 hw3
            go_wp2
            go_roundw
            case rel => exact ⟨k + 1, (d + p + c) / 10, _, by go_num, by go_num, HM2, own_set' (by omega) hown, (bel_drewN HB _).setCell (Nat.le_refl _) _⟩
            case measure => simp [intOf]; omega
        · have h1 : ¬ k < m := fun h => hgo (Or.inl h)
          obtain rfl : c = 0 := by omega
          have HE := mulN_end HM (by rw [LB.out]; omega) rfl
          go_wp2
          go_roundw
          case rel => exact ⟨i + 1, _, by omega, by go_num, HE, hown, HB⟩
          case measure => simp [intOf]; omega
    · have hE := outN_end HI (by rw [LA.out]; omega)
      have HE := Lib.hid hE
      have HL2 := Lib.hid HI.1
      have D9 := Lib.hid HI.2.1
      have hown2 : wr.ownsRow w.heap.size 3 1 (.slice (some ⟨w.heap.size, 0, none⟩) L L) ds.length (ds.map mkD_) := by rw [HL2.out]; exact hown
      obtain ⟨D, cap, hv, HD⟩ := dig_own hown2 D9.out (by rw [HL2.out]; omega)
      have hv' : D = some ⟨w.heap.size, 0, none⟩ ∧ ds.length = L ∧ cap = L := by
        injection hv with h1 h2 h3
        exact ⟨h1.symm, h2.symm, h3.symm⟩
      obtain ⟨rfl, _, rfl⟩ := hv'
      rw [HL2.out] at HD
      have HDH := Lib.hid HD
      have HTH := Lib.hid fun m h => dv_trim (ds := ds) (m := m) h
      clear hE hv hown2 HD HI
      go_wp2_with fail
      refine (trim_c _ _ _ ds _ HDH.out).mono ?_
      rintro e w1 ⟨_, ⟨t, ht, rfl⟩, rfl, rfl⟩
      have H1 := HTH.out t ht
      have H2 := HDH.out.take (by have := ht.1; rw [HL2.out] at this; exact this)
      rw [HE.out] at H1
      go_wp2
      go_ret
      exact ⟨_, _, _, _, ⟨H2, H1.2, H1.1⟩, rfl, HB⟩
end Go.Proofs.YtjpimiagcijejaaGreatDoor
