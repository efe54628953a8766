/- Package pyxref1: Words4. -/
import Derived.Test.YtdpkmhgmglljjaaRefM
namespace Go.Proofs.Ytdpkmhgmglljjaa
open Go.RowKit

theorem HB.setOne {w0 w : World} {g i : Nat} {t : TypeId} {cs : Array Value} {bs : List (Nat × TypeId × Array Value)} (h : HB w0 ((g, t, cs) :: bs) w) (hg : w0.heap.size ≤ g) (hne : ∀ b ∈ bs, b.1 ≠ g) (u : Value) :
    HB w0 ((g, t, cs.setIfInBounds i u) :: bs) (w.setCell ⟨g, i, none⟩ u) := by
  refine ⟨h.1.setCell hg u, fun x hx => ?_⟩
  rcases List.mem_cons.1 hx with rfl | hx
  · exact (h.2 _ (List.mem_cons_self ..)).set_ i u
  · exact (h.2 x (List.mem_cons_of_mem _ hx)).far (hne x hx) u
/-- So far: the lower words; M is left. -/
def W4I (N M : Nat) (s : Value) (o0 o1 o2 o3 : Int) : Prop := U64 o0 ∧ U64 o1 ∧ U64 o2 ∧ U64 o3 ∧
  (s = .int .i64 0 ∧ o0 = 0 ∧ o1 = 0 ∧ o2 = 0 ∧ o3 = 0 ∧ N = M ∨ s = .int .i64 1 ∧ o1 = 0 ∧ o2 = 0 ∧ o3 = 0 ∧ N = o0.toNat + M * 18446744073709551616 ∨
   s = .int .i64 2 ∧ o2 = 0 ∧ o3 = 0 ∧ N = o0.toNat + o1.toNat * 18446744073709551616 + M * 340282366920938463463374607431768211456 ∨
   s = .int .i64 3 ∧ o3 = 0 ∧ N = o0.toNat + o1.toNat * 18446744073709551616 + o2.toNat * 340282366920938463463374607431768211456 + M * 6277101735386680763835789423207666416102355444464034512896 ∨
   s = .int .i64 4 ∧ N = v4 o0 o1 o2 o3 + M * 115792089237316195423570985008687907853269984665640564039457584007913129639936)
def W4R (N : Nat) (c0 c1 c2 c3 : Int) : Prop := U64 c0 ∧ U64 c1 ∧ U64 c2 ∧ U64 c3 ∧ v4 c0 c1 c2 c3 = N % 115792089237316195423570985008687907853269984665640564039457584007913129639936
theorem v4_lt {a b c d : Int} (ha : U64 a) (hb : U64 b) (hc : U64 c) (hd : U64 d) : v4 a b c d < 115792089237316195423570985008687907853269984665640564039457584007913129639936 := by unfold U64 v4 v2 at *; omega
theorem w4_end {N M : Nat} {o0 o1 o2 o3 : Int} (h0 : U64 o0) (h1 : U64 o1) (h2 : U64 o2) (h3 : U64 o3) (h : N = v4 o0 o1 o2 o3 + M * 115792089237316195423570985008687907853269984665640564039457584007913129639936) : W4R N o0 o1 o2 o3 := by
  refine ⟨h0, h1, h2, h3, ?_⟩
  have := v4_lt h0 h1 h2 h3
  omega
theorem dm (M : Nat) : M = M % 18446744073709551616 + M / 18446744073709551616 * 18446744073709551616 := by omega
theorem u64_mod (M : Nat) : U64 ((M % 18446744073709551616 : Nat) : Int) := by unfold U64; omega
theorem w4_1 {N M : Nat} (e : N = M) : W4I N (M / 18446744073709551616) (.int .i64 1) ((M % 18446744073709551616 : Nat) : Int) 0 0 0 :=
  ⟨u64_mod M, u64_0, u64_0, u64_0, Or.inr (Or.inl ⟨rfl, rfl, rfl, rfl, by rw [Int.toNat_natCast]; omega⟩)⟩
theorem w4_2 {N M : Nat} {o0 : Int} (h0 : U64 o0) (e : N = o0.toNat + M * 18446744073709551616) : W4I N (M / 18446744073709551616) (.int .i64 2) o0 ((M % 18446744073709551616 : Nat) : Int) 0 0 :=
  ⟨h0, u64_mod M, u64_0, u64_0, Or.inr (Or.inr (Or.inl ⟨rfl, rfl, rfl, by rw [Int.toNat_natCast]; omega⟩))⟩
theorem w4_3 {N M : Nat} {o0 o1 : Int} (h0 : U64 o0) (h1 : U64 o1) (e : N = o0.toNat + o1.toNat * 18446744073709551616 + M * 340282366920938463463374607431768211456) : W4I N (M / 18446744073709551616) (.int .i64 3) o0 o1 ((M % 18446744073709551616 : Nat) : Int) 0 :=
  ⟨h0, h1, u64_mod M, u64_0, Or.inr (Or.inr (Or.inr (Or.inl ⟨rfl, rfl, by rw [Int.toNat_natCast]; omega⟩)))⟩
theorem w4_4 {N M : Nat} {o0 o1 o2 : Int} (h0 : U64 o0) (h1 : U64 o1) (h2 : U64 o2) (e : N = o0.toNat + o1.toNat * 18446744073709551616 + o2.toNat * 340282366920938463463374607431768211456 + M * 6277101735386680763835789423207666416102355444464034512896) :
    W4I N (M / 18446744073709551616) (.int .i64 4) o0 o1 o2 ((M % 18446744073709551616 : Nat) : Int) := by
  refine ⟨h0, h1, h2, u64_mod M, Or.inr (Or.inr (Or.inr (Or.inr ⟨rfl, ?_⟩)))⟩
  have h := dm M
  unfold v4 v2
  rw [Int.toNat_natCast]
  generalize M / 18446744073709551616 = q at *
  generalize M % 18446744073709551616 = r at *
  generalize o0.toNat = x at *
  generalize o1.toNat = y at *
  generalize o2.toNat = z at *
  subst h
  subst e
  rw [Nat.add_mul, Nat.add_mul, Nat.mul_assoc q, Nat.mul_assoc r]
  omega
def WB (w : World) (o0 o1 o2 o3 : Int) (wr : World) : Prop := HB w [(w.heap.size + 1, 27, #[.int .u64 o0, .int .u64 o1, .int .u64 o2, .int .u64 o3]), (w.heap.size, 27, #[.int .u64 0, .int .u64 0, .int .u64 0, .int .u64 0])] wr
theorem wb0 (w : World) : WB w 0 0 0 0 ((w.alloc (.cells #[.int .u64 0, .int .u64 0, .int .u64 0, .int .u64 0] 27)).alloc (.cells #[.int .u64 0, .int .u64 0, .int .u64 0, .int .u64 0] 27)) := by
  have h := ((HB.start (Below.refl w.heap.size w)).push #[.int .u64 0, .int .u64 0, .int .u64 0, .int .u64 0] 27).push #[.int .u64 0, .int .u64 0, .int .u64 0, .int .u64 0] 27
  unfold WB
  simpa using h
theorem wb_set {w wr : World} {o0 o1 o2 o3 : Int} (h : WB w o0 o1 o2 o3 wr) (i : Nat) (u : Value) : HB w [(w.heap.size + 1, 27, (#[.int .u64 o0, .int .u64 o1, .int .u64 o2, .int .u64 o3] : Array Value).setIfInBounds i u), (w.heap.size, 27, #[.int .u64 0, .int .u64 0, .int .u64 0, .int .u64 0])] (wr.setCell ⟨w.heap.size + 1, i, none⟩ u) :=
  HB.setOne h (by omega) (by simp) u

set_option maxHeartbeats 1600000 in
theorem words4_c (A : Option Addr) (n cap : Nat) (ds : List Nat) (w : World) (h : DigC w A n cap ds) (hn : n ≤ 10000) :
    Calls Try.prog 28 #[.slice A n cap] w (Ret w (IsAgg4 (W4R (dv ds)))) := by
  have W0 := Lib.hid (wb0 w)
  have h0 := Lib.hid ((h.alloc (.cells #[.int .u64 0, .int .u64 0, .int .u64 0, .int .u64 0] 27)).alloc (.cells #[.int .u64 0, .int .u64 0, .int .u64 0, .int .u64 0] 27))
  obtain ⟨N, hN⟩ : ∃ N, dv ds = N := ⟨_, rfl⟩
  have HN := Lib.hid hN
  rw [hN]
  clear h hN
  go_enter Try.func28, Try.ntmps28
  go_wp2
  go_loopw [0, 4] (fun v s wr => ∃ (R : Option Addr) (m k : Nat) (es : List Nat) (M : Nat) (o0 o1 o2 o3 : Int), v = .slice R m k ∧ DigC wr R m k es ∧ m ≤ n ∧ dv es = M ∧ W4I N M s o0 o1 o2 o3 ∧ WB w o0 o1 o2 o3 wr) (fun _ s _ => (4 - intOf s).toNat)
  case atStart => exact ⟨A, n, cap, ds, N, 0, 0, 0, 0, rfl, h0.out, Nat.le_refl _, HN.out, ⟨u64_0, u64_0, u64_0, u64_0, Or.inl ⟨rfl, rfl, rfl, rfl, rfl, rfl⟩⟩, W0.out⟩
  case round =>
    clear W0 h0 HN
    obtain ⟨R, m, k, es, M, o0, o1, o2, o3, rfl, DR, hm, ER, ⟨u0, u1, u2, u3, HI⟩, HW⟩ := hrel
    have hMn : M < 10 ^ m := by rw [← ER]; exact dv_le_pow DR
    have HMn := Lib.hid hMn
    have ERh := Lib.hid ER
    have W1 := Lib.hid HW
    clear ER HW hMn
    rcases HI with ⟨rfl, rfl, rfl, rfl, rfl, e⟩ | ⟨rfl, rfl, rfl, rfl, e⟩ | ⟨rfl, rfl, rfl, e⟩ | ⟨rfl, rfl, e⟩ | ⟨rfl, e⟩
    rotate_right
    · have H := Lib.hid (w4_end u0 u1 u2 u3 e)
      have B1 := W1.out.blk (g := w.heap.size + 1) (t := 27) (cs := #[.int .u64 o0, .int .u64 o1, .int .u64 o2, .int .u64 o3]) (by simp)
      have B0 := W1.out.blk (g := w.heap.size) (t := 27) (cs := #[.int .u64 0, .int .u64 0, .int .u64 0, .int .u64 0]) (by simp)
      have c0 := B1.cell 0
      have c1 := B1.cell 1
      have c2 := B1.cell 2
      have c3 := B1.cell 3
      have d0 := B0.cell 0
      have d1 := B0.cell 1
      have d2 := B0.cell 2
      have d3 := B0.cell 3
      have f0 := B0.frozen 0
      have f1 := B0.frozen 1
      have f2 := B0.frozen 2
      have f3 := B0.frozen 3
      simp at c0 c1 c2 c3 d0 d1 d2 d3
      have hg := B0.lt
      clear e
      go_wp2
      refine bodyPost_ret (v := .agg #[.int .u64 o0, .int .u64 o1, .int .u64 o2, .int .u64 o3]) (by simp [results, Try.results28, go_sem, d0, d1, d2, d3]) rfl ⟨_, ⟨_, _, _, _, H.out, rfl⟩, rfl, ?_⟩
      exact (((W1.out.1.setCell (p := ⟨w.heap.size, 0, none⟩) (Nat.le_refl _) _).setCell (p := ⟨w.heap.size, 1, none⟩) (Nat.le_refl _) _).setCell (p := ⟨w.heap.size, 2, none⟩) (Nat.le_refl _) _).setCell (p := ⟨w.heap.size, 3, none⟩) (Nat.le_refl _) _
    · have EH := Lib.hid e
      clear e
      go_wp2_with fail
      refine (radix_c _).mono ?_
      rintro e w1 ⟨A1, n1, k1, d1, ⟨D1, N1, E1⟩, rfl, hb1⟩
      have l1 : n1 ≤ 20 := lenA D1 N1 (by rw [E1]; exact rad20)
      have W2 := Lib.hid (W1.out.below hb1)
      replace DR := DR.below hb1
      have E1h := Lib.hid E1
      clear W1 hb1 E1
      go_wp2_with fail
      refine (divNat_c R A1 m n1 k k1 es d1 _ DR D1 N1 (by omega) (by omega) (by rw [E1h.out]; decide)).mono ?_
      rintro e w2 ⟨A2, n2, k2, d2, A3, n3, k3, d3, ⟨D2, N2, E2, F2⟩, ⟨D3, N3, E3, -⟩, rfl, hb2⟩
      rw [ERh.out, E1h.out] at E2 E3
      have l2 : n2 ≤ m := div_len D2 N2 E2 HMn.out
      have hg0 := (W2.out.blk (g := w.heap.size + 1) (t := 27) (cs := #[.int .u64 0, .int .u64 0, .int .u64 0, .int .u64 0]) (by simp)).lt
      have F2' : ∀ ad, A2 = some ad → w.heap.size + 1 ≠ ad.block := fun ad h => by have := F2 ad h; omega
      have W3 := Lib.hid (W2.out.below hb2)
      have E2h := Lib.hid E2
      have E3h := Lib.hid E3
      have s3 : dv d3 < 18446744073709551616 := by rw [E3]; omega
      have D2h := Lib.hid fun (u : Value) => D2.far (g := w.heap.size + 1) (j := 0) (u := u) F2'
      clear W2 hb2 E2 E3 D1 DR F2 F2' hg0
      go_wp2_with fail
      refine (shortN_c A3 n3 k3 d3 _ D3 s3).mono ?_
      rintro e w5 ⟨rfl, rfl⟩
      rw [E3h.out]
      have HS := w4_1 EH.out
      generalize ((M % 18446744073709551616 : Nat) : Int) = X at HS ⊢
      have HSh := Lib.hid HS
      have B1 := W3.out.blk (g := w.heap.size + 1) (t := 27) (cs := #[.int .u64 0, .int .u64 0, .int .u64 0, .int .u64 0]) (by simp)
      have c0 := B1.cell 0
      have f0 := B1.frozen 0
      simp at c0
      have hg := B1.lt
      have HWB := wb_set W3.out 0 (.int .u64 X)
      simp at HWB
      have HWBh := Lib.hid HWB
      clear s3 E3h HS HWB B1
      go_wp2
      go_roundw
      case rel => exact ⟨_, _, _, _, _, _, _, _, _, rfl, D2h.out _, by omega, E2h.out, HSh.out, HWBh.out⟩
      case measure => simp [intOf]
    · have EH := Lib.hid e
      clear e
      go_wp2_with fail
      refine (radix_c _).mono ?_
      rintro e w1 ⟨A1, n1, k1, d1, ⟨D1, N1, E1⟩, rfl, hb1⟩
      have l1 : n1 ≤ 20 := lenA D1 N1 (by rw [E1]; exact rad20)
      have W2 := Lib.hid (W1.out.below hb1)
      replace DR := DR.below hb1
      have E1h := Lib.hid E1
      clear W1 hb1 E1
      go_wp2_with fail
      refine (divNat_c R A1 m n1 k k1 es d1 _ DR D1 N1 (by omega) (by omega) (by rw [E1h.out]; decide)).mono ?_
      rintro e w2 ⟨A2, n2, k2, d2, A3, n3, k3, d3, ⟨D2, N2, E2, F2⟩, ⟨D3, N3, E3, -⟩, rfl, hb2⟩
      rw [ERh.out, E1h.out] at E2 E3
      have l2 : n2 ≤ m := div_len D2 N2 E2 HMn.out
      have hg0 := (W2.out.blk (g := w.heap.size + 1) (t := 27) (cs := #[.int .u64 o0, .int .u64 0, .int .u64 0, .int .u64 0]) (by simp)).lt
      have F2' : ∀ ad, A2 = some ad → w.heap.size + 1 ≠ ad.block := fun ad h => by have := F2 ad h; omega
      have W3 := Lib.hid (W2.out.below hb2)
      have E2h := Lib.hid E2
      have E3h := Lib.hid E3
      have s3 : dv d3 < 18446744073709551616 := by rw [E3]; omega
      have D2h := Lib.hid fun (u : Value) => D2.far (g := w.heap.size + 1) (j := 1) (u := u) F2'
      clear W2 hb2 E2 E3 D1 DR F2 F2' hg0
      go_wp2_with fail
      refine (shortN_c A3 n3 k3 d3 _ D3 s3).mono ?_
      rintro e w5 ⟨rfl, rfl⟩
      rw [E3h.out]
      have HS := w4_2 u0 EH.out
      generalize ((M % 18446744073709551616 : Nat) : Int) = X at HS ⊢
      have HSh := Lib.hid HS
      have B1 := W3.out.blk (g := w.heap.size + 1) (t := 27) (cs := #[.int .u64 o0, .int .u64 0, .int .u64 0, .int .u64 0]) (by simp)
      have c0 := B1.cell 1
      have f0 := B1.frozen 1
      simp at c0
      have hg := B1.lt
      have HWB := wb_set W3.out 1 (.int .u64 X)
      simp at HWB
      have HWBh := Lib.hid HWB
      clear s3 E3h HS HWB B1
      go_wp2
      go_roundw
      case rel => exact ⟨_, _, _, _, _, _, _, _, _, rfl, D2h.out _, by omega, E2h.out, HSh.out, HWBh.out⟩
      case measure => simp [intOf]
    · have EH := Lib.hid e
      clear e
      go_wp2_with fail
      refine (radix_c _).mono ?_
      rintro e w1 ⟨A1, n1, k1, d1, ⟨D1, N1, E1⟩, rfl, hb1⟩
      have l1 : n1 ≤ 20 := lenA D1 N1 (by rw [E1]; exact rad20)
      have W2 := Lib.hid (W1.out.below hb1)
      replace DR := DR.below hb1
      have E1h := Lib.hid E1
      clear W1 hb1 E1
      go_wp2_with fail
      refine (divNat_c R A1 m n1 k k1 es d1 _ DR D1 N1 (by omega) (by omega) (by rw [E1h.out]; decide)).mono ?_
      rintro e w2 ⟨A2, n2, k2, d2, A3, n3, k3, d3, ⟨D2, N2, E2, F2⟩, ⟨D3, N3, E3, -⟩, rfl, hb2⟩
      rw [ERh.out, E1h.out] at E2 E3
      have l2 : n2 ≤ m := div_len D2 N2 E2 HMn.out
      have hg0 := (W2.out.blk (g := w.heap.size + 1) (t := 27) (cs := #[.int .u64 o0, .int .u64 o1, .int .u64 0, .int .u64 0]) (by simp)).lt
      have F2' : ∀ ad, A2 = some ad → w.heap.size + 1 ≠ ad.block := fun ad h => by have := F2 ad h; omega
      have W3 := Lib.hid (W2.out.below hb2)
      have E2h := Lib.hid E2
      have E3h := Lib.hid E3
      have s3 : dv d3 < 18446744073709551616 := by rw [E3]; omega
      have D2h := Lib.hid fun (u : Value) => D2.far (g := w.heap.size + 1) (j := 2) (u := u) F2'
      clear W2 hb2 E2 E3 D1 DR F2 F2' hg0
      go_wp2_with fail
      refine (shortN_c A3 n3 k3 d3 _ D3 s3).mono ?_
      rintro e w5 ⟨rfl, rfl⟩
      rw [E3h.out]
      have HS := w4_3 u0 u1 EH.out
      generalize ((M % 18446744073709551616 : Nat) : Int) = X at HS ⊢
      have HSh := Lib.hid HS
      have B1 := W3.out.blk (g := w.heap.size + 1) (t := 27) (cs := #[.int .u64 o0, .int .u64 o1, .int .u64 0, .int .u64 0]) (by simp)
      have c0 := B1.cell 2
      have f0 := B1.frozen 2
      simp at c0
      have hg := B1.lt
      have HWB := wb_set W3.out 2 (.int .u64 X)
      simp at HWB
      have HWBh := Lib.hid HWB
      clear s3 E3h HS HWB B1
      go_wp2
      go_roundw
      case rel => exact ⟨_, _, _, _, _, _, _, _, _, rfl, D2h.out _, by omega, E2h.out, HSh.out, HWBh.out⟩
      case measure => simp [intOf]
    · have EH := Lib.hid e
      clear e
      go_wp2_with fail
      refine (radix_c _).mono ?_
      rintro e w1 ⟨A1, n1, k1, d1, ⟨D1, N1, E1⟩, rfl, hb1⟩
      have l1 : n1 ≤ 20 := lenA D1 N1 (by rw [E1]; exact rad20)
      have W2 := Lib.hid (W1.out.below hb1)
      replace DR := DR.below hb1
      have E1h := Lib.hid E1
      clear W1 hb1 E1
      go_wp2_with fail
      refine (divNat_c R A1 m n1 k k1 es d1 _ DR D1 N1 (by omega) (by omega) (by rw [E1h.out]; decide)).mono ?_
      rintro e w2 ⟨A2, n2, k2, d2, A3, n3, k3, d3, ⟨D2, N2, E2, F2⟩, ⟨D3, N3, E3, -⟩, rfl, hb2⟩
      rw [ERh.out, E1h.out] at E2 E3
      have l2 : n2 ≤ m := div_len D2 N2 E2 HMn.out
      have hg0 := (W2.out.blk (g := w.heap.size + 1) (t := 27) (cs := #[.int .u64 o0, .int .u64 o1, .int .u64 o2, .int .u64 0]) (by simp)).lt
      have F2' : ∀ ad, A2 = some ad → w.heap.size + 1 ≠ ad.block := fun ad h => by have := F2 ad h; omega
      have W3 := Lib.hid (W2.out.below hb2)
      have E2h := Lib.hid E2
      have E3h := Lib.hid E3
      have s3 : dv d3 < 18446744073709551616 := by rw [E3]; omega
      have D2h := Lib.hid fun (u : Value) => D2.far (g := w.heap.size + 1) (j := 3) (u := u) F2'
      clear W2 hb2 E2 E3 D1 DR F2 F2' hg0
      go_wp2_with fail
      refine (shortN_c A3 n3 k3 d3 _ D3 s3).mono ?_
      rintro e w5 ⟨rfl, rfl⟩
      rw [E3h.out]
      have HS := w4_4 u0 u1 u2 EH.out
      generalize ((M % 18446744073709551616 : Nat) : Int) = X at HS ⊢
      have HSh := Lib.hid HS
      have B1 := W3.out.blk (g := w.heap.size + 1) (t := 27) (cs := #[.int .u64 o0, .int .u64 o1, .int .u64 o2, .int .u64 0]) (by simp)
      have c0 := B1.cell 3
      have f0 := B1.frozen 3
      simp at c0
      have hg := B1.lt
      have HWB := wb_set W3.out 3 (.int .u64 X)
      simp at HWB
      have HWBh := Lib.hid HWB
      clear s3 E3h HS HWB B1
      go_wp2
      go_roundw
      case rel => exact ⟨_, _, _, _, _, _, _, _, _, rfl, D2h.out _, by omega, E2h.out, HSh.out, HWBh.out⟩
      case measure => simp [intOf]
end Go.Proofs.Ytdpkmhgmglljjaa
