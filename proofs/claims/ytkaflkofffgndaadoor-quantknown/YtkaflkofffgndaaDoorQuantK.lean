/- Package quant at any decimals: rounded, known, Div. -/
import Derived.Test.YtkaflkofffgndaaDoorQTellP
import Derived.Test.YtkaflkofffgndaaDoorQuantF
import Derived.Test.YtkaflkofffgndaaDoorOrd
namespace Go.Proofs.YtkaflkofffgndaaDoor
open Go.RowKit
theorem dec_form {n : Bool} {a b z s : Int} (h : DecIs n a b z) : decV z s = .agg #[.bool n, .int .u64 a, .int .u64 b, .int .i64 s] := by
  obtain ⟨h1, h2, h3, h4⟩ := h
  have e1 : ((z.natAbs % 18446744073709551616 : Nat) : Int) = a := by rw [← h4]; unfold U64 v2 at *; omega
  have e2 : ((z.natAbs / 18446744073709551616 : Nat) : Int) = b := by rw [← h4]; unfold U64 v2 at *; omega
  unfold decV
  rw [e1, e2, h1]
theorem ans_ok {z s : Int} {v : Value} (h : IsDecE z s 0 v) : Ans (okV z s) v := by
  obtain ⟨n, a, b, hd, rfl⟩ := h
  exact ⟨n, a, b, s, 0, by unfold okV; rw [dec_form hd], rfl⟩
theorem rounded_all (n : Bool) (x0 x1 x2 x3 d0 d1 t mode : Int) (w : World) (hx0 : U64 x0) (hx1 : U64 x1) (hx2 : U64 x2) (hx3 : U64 x3) (hd0 : U64 d0) (hd1 : U64 d1) (hD : 0 < v2 d0 d1) (h0 : 0 ≤ t) (h9 : t ≤ 9) (hm : mode = 0 ∨ mode = 1 ∨ mode = 2 ∨ mode = 3 ∨ mode = 4) :
    Calls Tryd.prog 18 #[.bool n, .agg #[.int .u64 x0, .int .u64 x1, .int .u64 x2, .int .u64 x3], .agg #[.int .u64 d0, .int .u64 d1], .int .i64 t, .int .i64 mode] w (Ret w (Ans (chkV n (roundN n (v4 x0 x1 x2 x3) (v2 d0 d1) mode) t))) := by
  obtain ⟨N, hN⟩ : ∃ N, roundN n (v4 x0 x1 x2 x3) (v2 d0 d1) mode = N := ⟨_, rfl⟩
  rw [hN]
  by_cases hb : N < 1000000000000000000000000000000
  · refine (rounded_c n x0 x1 x2 x3 d0 d1 t mode w hx0 hx1 hx2 hx3 hd0 hd1 hD h0 h9 hm N hN hb).mono ?_
    rintro e w' ⟨v, hv, he, hbl⟩
    refine ⟨v, ?_, he, hbl⟩
    unfold chkV
    rw [if_pos ⟨hb, h0, h9⟩]
    exact ans_ok hv
  · refine (rounded_over n x0 x1 x2 x3 d0 d1 t mode w hx0 hx1 hx2 hx3 hd0 hd1 hD hm N hN (by omega)).mono ?_
    rintro e w' ⟨v, hv, he, hbl⟩
    refine ⟨v, ?_, he, hbl⟩
    unfold chkV
    rw [if_neg (fun h => hb h.1)]
    exact hv
theorem qknown_all (t m : Int) (w : World) : Calls Tryd.prog 14 #[.int .i64 t, .int .i64 m] w fun e w' => e = .returned (.bool (decide (GoodM t m))) ∧ w = w' := by
  by_cases h0 : 0 ≤ t
  · by_cases h1 : t ≤ 9
    · by_cases h2 : 0 ≤ m
      · by_cases h3 : m ≤ 4
        · skip
          rw [show decide (GoodM t m) = true from (decide_eq_true ⟨h0, h1, h2, h3⟩)]
          go_enter Tryd.func14, Tryd.ntmps14
          go_wp2
          go_ret
          exact ⟨by first | rfl | simp, rfl⟩
        · skip
          rw [show decide (GoodM t m) = false from (decide_eq_false (fun h => h3 h.2.2.2))]
          go_enter Tryd.func14, Tryd.ntmps14
          go_wp2
          go_ret
          exact ⟨by first | rfl | simp, rfl⟩
      · skip
        rw [show decide (GoodM t m) = false from (decide_eq_false (fun h => h2 h.2.2.1))]
        go_enter Tryd.func14, Tryd.ntmps14
        go_wp2
        go_ret
        exact ⟨by first | rfl | simp, rfl⟩
    · skip
      rw [show decide (GoodM t m) = false from (decide_eq_false (fun h => h1 h.2.1))]
      go_enter Tryd.func14, Tryd.ntmps14
      go_wp2
      go_ret
      exact ⟨by first | rfl | simp, rfl⟩
  · skip
    rw [show decide (GoodM t m) = false from (decide_eq_false (fun h => h0 h.1))]
    go_enter Tryd.func14, Tryd.ntmps14
    go_wp2
    go_ret
    exact ⟨by first | rfl | simp, rfl⟩
end Go.Proofs.YtkaflkofffgndaaDoor
