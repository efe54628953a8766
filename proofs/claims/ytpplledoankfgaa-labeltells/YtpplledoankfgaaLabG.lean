/- The statements of label: the chapter's example; LabelOrder. -/
import Derived.Test.YtpplledoankfgaaLabF
namespace Go.Proofs.Ytpplledoankfgaa
open Go.RowKit
theorem read_v (s : List UInt8) (n : Nat) (z v x : Int) (w : World) (hs : s.length ≤ 281474976710656) (hv : readV s = (n, v, x)) (hz : z = (n : Int)) : Calls Try.prog 8 #[.string ⟨s.toArray⟩] w fun e w' => e = .returned (.tuple #[.agg #[.int .u64 z, .int .i64 v], .int .i64 x]) ∧ Below w.heap.size w w' := by
  subst hz
  have h := read_c s w hs
  rw [hv] at h
  exact h
theorem print_v (n : Nat) (x v : Int) (w : World) (t : List UInt8) (hx : x = (n : Int)) (hn : n < 18446744073709551616) (ht : printL n v = t) : Calls Try.prog 16 #[.agg #[.int .u64 x, .int .i64 v]] w fun e w' => e = .returned (.string ⟨t.toArray⟩) ∧ Below w.heap.size w w' := by
  subst ht
  exact print_c n x v w hx hn
theorem bel_tr2 {w w1 w2 : World} (h : Below w.heap.size w w1) (h' : Below w1.heap.size w1 w2) : Below w.heap.size w w2 := h.trans (h'.mono h.size)
theorem rd_102 : readV [49, 58, 48, 50] = (5, 1, 0) := by decide +kernel
theorem pr_102 : printL 5 1 = [49, 58, 48, 50] := by decide +kernel
set_option maxRecDepth 100000 in
set_option maxHeartbeats 1600000 in
theorem known8_c (w : World) : Calls Try.prog 10 #[] w fun e w' => e = .returned (.bool true) ∧ Below w.heap.size w w' := by
  have hA := Blk.new w 25 #[.int .u64 5, .int .i64 1]
  go_enter Try.func10, Try.ntmps10
  go_wp2_with fail
  (with_reducible refine (read_v [49, 58, 48, 50] 5 5 1 0 _ (by decide) rd_102 rfl).mono ?_)
  rintro e w1 ⟨rfl, hb⟩
  have HA1 := Lib.hid (hA.below hb hA.lt)
  have HB1 := Lib.hid (bel_tr2 (bel_alloc (Below.refl _ _) _) hb)
  clear hA hb
  have HA2 := Lib.hid (HA1.out.alloc (.cells #[.int .u64 5, .int .i64 1] 25))
  have HC2 := Lib.hid (Blk.new w1 25 #[.int .u64 5, .int .i64 1])
  have HB2 := Lib.hid (bel_alloc HB1.out (.cells #[.int .u64 5, .int .i64 1] 25))
  obtain ⟨_, a0, a1, _, _⟩ := two_of HA2.out
  have HE := eqLab_same 5 1
  go_wp2_with fail
  (with_reducible refine (print_v 5 5 1 _ [49, 58, 48, 50] rfl (by decide) pr_102).mono ?_)
  rintro e w2 ⟨rfl, hb⟩
  have HA3 := Lib.hid (HA2.out.below hb HA2.out.lt)
  have HC3 := Lib.hid (HC2.out.below hb HC2.out.lt)
  have HB3 := Lib.hid (bel_tr2 HB2.out hb)
  clear a0 a1 hb HA2 HC2 HB2
  obtain ⟨_, a0, a1, _, _⟩ := two_of HA3.out
  obtain ⟨_, c0, c1, _, _⟩ := two_of HC3.out
  go_wp2
  go_ret
  exact ⟨rfl, HB3.out⟩
end Go.Proofs.Ytpplledoankfgaa
