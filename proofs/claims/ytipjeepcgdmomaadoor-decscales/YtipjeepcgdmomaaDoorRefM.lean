/- Package pyxref1: Words2, Words4, Two, Left, Right, Bits. -/
import Derived.Test.YtipjeepcgdmomaaDoorRefL
namespace Go.Proofs.YtipjeepcgdmomaaDoor
open Go.RowKit

def W2R (N : Nat) (s0 s1 : Int) (p : Bool) : Prop := N < 340282366920938463463374607431768211456 ∧ p = true ∧ U64 s0 ∧ U64 s1 ∧ v2 s0 s1 = N ∨ 340282366920938463463374607431768211456 ≤ N ∧ p = false ∧ s0 = 0 ∧ s1 = 0
theorem w2_no {N : Nat} (h : 18446744073709551616 ≤ N / 18446744073709551616) : W2R N 0 0 false := Or.inr ⟨by omega, rfl, rfl, rfl⟩
theorem w2_yes {N : Nat} (h : N / 18446744073709551616 < 18446744073709551616) : W2R N ((N % 18446744073709551616 : Nat) : Int) ((N / 18446744073709551616 : Nat) : Int) true := by
  refine Or.inl ⟨by omega, rfl, ?_, ?_, ?_⟩
  · unfold U64; omega
  · unfold U64; omega
  · unfold v2; rw [Int.toNat_natCast, Int.toNat_natCast]; omega
theorem rad20 : (18446744073709551616 : Nat) < 10 ^ 20 := by decide
theorem dv_le_pow {w : World} {A : Option Addr} {n cap : Nat} {ds : List Nat} (h : DigC w A n cap ds) : dv ds < 10 ^ n := by
  have := dv_lt h.2.2.2.1
  rwa [h.1] at this
theorem div_len {w : World} {A : Option Addr} {n cap m N : Nat} {ds : List Nat} (h : DigC w A n cap ds) (hn : Norm ds) (e : dv ds = N / 18446744073709551616) (hN : N < 10 ^ m) : n ≤ m :=
  lenA h hn (Nat.lt_of_le_of_lt (by rw [e]; exact Nat.div_le_self _ _) hN)

set_option maxRecDepth 100000 in
set_option maxHeartbeats 800000 in
theorem words2_c (A : Option Addr) (n cap : Nat) (ds : List Nat) (w : World) (h : DigC w A n cap ds) (hn : n ≤ 10000) :
    Calls Tryd.prog 22 #[.slice A n cap] w (Ret w (IsAgg2Bool (W2R (dv ds)))) := by
  have W := Lib.hid (ns0 w 0 0)
  have h0 := h.alloc (.cells #[.int .u64 0, .int .u64 0] 24)
  obtain ⟨N, hN⟩ : ∃ N, dv ds = N := ⟨_, rfl⟩
  have hNn : N < 10 ^ n := by rw [← hN]; exact dv_le_pow h
  have HNn := Lib.hid hNn
  have HN := Lib.hid hN
  rw [hN]
  clear h hN hNn
  go_enter Tryd.func22, Tryd.ntmps22
  go_wp2_with fail
  refine (radix_c _).mono ?_
  rintro e w1 ⟨A1, n1, k1, d1, ⟨D1, N1, E1⟩, rfl, hb1⟩
  have l1 : n1 ≤ 20 := lenA D1 N1 (by rw [E1]; exact rad20)
  have W1 := Lib.hid (W.out.below hb1)
  have h1 := h0.below hb1
  have E1h := Lib.hid E1
  clear W h0 hb1 E1
  go_wp2_with fail
  refine (divNat_c A A1 n n1 cap k1 ds d1 _ h1 D1 N1 (by omega) (by omega) (by rw [E1h.out]; decide)).mono ?_
  rintro e w2 ⟨A2, n2, k2, d2, A3, n3, k3, d3, ⟨D2, N2, E2, -⟩, ⟨D3, N3, E3, -⟩, rfl, hb2⟩
  rw [HN.out, E1h.out] at E2 E3
  have l2 : n2 ≤ n := div_len D2 N2 E2 HNn.out
  have W2 := Lib.hid (W1.out.below hb2)
  have E2h := Lib.hid E2
  have E3h := Lib.hid E3
  clear W1 h1 hb2 E2 E3 D1
  go_wp2_with fail
  refine (radix_c _).mono ?_
  rintro e w3 ⟨A4, n4, k4, d4, ⟨D4, N4, E4⟩, rfl, hb3⟩
  have l4 : n4 ≤ 20 := lenA D4 N4 (by rw [E4]; exact rad20)
  have W3 := Lib.hid (W2.out.below hb3)
  replace D2 := D2.below hb3
  replace D3 := D3.below hb3
  have E4h := Lib.hid E4
  clear W2 hb3 E4
  go_wp2_with fail
  have C := cmpNat_c A2 A4 n2 n4 k2 k4 d2 d4 w3 D2 D4 N2 N4
  rw [E2h.out, E4h.out] at C
  by_cases hle : 18446744073709551616 ≤ N / 18446744073709551616
  · obtain ⟨z, hz, hz0⟩ := cmpI_up hle
    rw [hz] at C
    refine C.mono ?_
    rintro e w4 ⟨v, hv, rfl, hb4⟩
    obtain rfl : v = .int .i64 z := hv
    have W4 := Lib.hid (W3.out.below hb4)
    have H := Lib.hid (w2_no hle)
    have BB := W4.out.blk (g := w.heap.size) (t := 24) (cs := #[.int .u64 0, .int .u64 0]) (by simp)
    have c0 := BB.cell 0
    have c1 := BB.cell 1
    have f0 := BB.frozen 0
    have f1 := BB.frozen 1
    simp at c0 c1
    have hg := BB.lt
    clear C hz W3 hb4 hle
    go_wp2
    exact bodyPost_ret (v := .tuple #[.agg #[.int .u64 0, .int .u64 0], .bool false]) (by simp [results, Tryd.results22, go_sem, c0, c1]) rfl ⟨_, ⟨_, _, _, H.out, rfl⟩, rfl, (W4.out.1.setCell (p := ⟨w.heap.size, 0, none⟩) (Nat.le_refl _) _).setCell (p := ⟨w.heap.size, 1, none⟩) (Nat.le_refl _) _⟩
  · have hz := cmpI_lt (show N / 18446744073709551616 < 18446744073709551616 by omega)
    rw [hz] at C
    refine C.mono ?_
    rintro e w4 ⟨v, hv, rfl, hb4⟩
    obtain rfl : v = .int .i64 (-1) := hv
    have W4 := Lib.hid (W3.out.below hb4)
    replace D2 := D2.below hb4
    replace D3 := D3.below hb4
    have H := Lib.hid (w2_yes (N := N) (by omega))
    have s2 : dv d2 < 18446744073709551616 := by rw [E2h.out]; omega
    have s3 : dv d3 < 18446744073709551616 := by rw [E3h.out]; omega
    have BB := W4.out.blk (g := w.heap.size) (t := 24) (cs := #[.int .u64 0, .int .u64 0]) (by simp)
    have c0 := BB.cell 0
    have c1 := BB.cell 1
    have f0 := BB.frozen 0
    have f1 := BB.frozen 1
    simp at c0 c1
    have hg := BB.lt
    clear C hz W3 hb4 hle
    go_wp2_with fail
    refine (shortN_c A3 n3 k3 d3 _ D3 s3).mono ?_
    rintro e w5 ⟨rfl, rfl⟩
    go_wp2_with fail
    refine (shortN_c A2 n2 k2 d2 _ D2 s2).mono ?_
    rintro e w5 ⟨rfl, rfl⟩
    rw [E2h.out, E3h.out]
    generalize hX : ((N % 18446744073709551616 : Nat) : Int) = X at H ⊢
    generalize hY : ((N / 18446744073709551616 : Nat) : Int) = Y at H ⊢
    clear hX hY s2 s3 E2h E3h
    go_wp2
    exact bodyPost_ret (v := .tuple #[.agg #[.int .u64 X, .int .u64 Y], .bool true]) (by simp [results, Tryd.results22, go_sem, c0, c1]) rfl ⟨_, ⟨_, _, _, H.out, rfl⟩, rfl, (W4.out.1.setCell (p := ⟨w.heap.size, 0, none⟩) (Nat.le_refl _) _).setCell (p := ⟨w.heap.size, 1, none⟩) (Nat.le_refl _) _⟩

end Go.Proofs.YtipjeepcgdmomaaDoor
