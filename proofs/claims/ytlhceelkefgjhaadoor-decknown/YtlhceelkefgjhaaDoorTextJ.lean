/- Package dec: texts with too many digits are refused; what is not right has no text. -/
import Derived.Test.YtlhceelkefgjhaaDoorTextH
namespace Go.Proofs.YtlhceelkefgjhaaDoor
open Go.RowKit
set_option maxHeartbeats 800000 in
theorem digits_long (l : List UInt8) (most : Int) (w : World) (hl : 1 ≤ l.length) (hm : most < (l.length : Int)) (hb : l.length ≤ 1000) :
    Calls Tryd.prog 18 #[.string ⟨l.toArray⟩, .int .i64 most] w fun e w' => e = .returned (.bool false) ∧ w = w' := by
  have g1 : decide ((l.length : Int) < 1) = false := by simp; omega
  have g2 : decide (most < (l.length : Int)) = true := by simp; omega
  go_enter Tryd.func18, Tryd.ntmps18
  go_wp2
  go_ret
  exact ⟨rfl, rfl⟩
set_option maxRecDepth 100000 in
set_option maxHeartbeats 1600000 in
theorem print_no (n : Bool) (c0 c1 s : Int) (w : World) (h0 : U64 c0) (h1 : U64 c1) (hr : ¬ RightD n c0 c1 s) :
    Calls Tryd.prog 11 #[.agg #[.bool n, .int .u64 c0, .int .u64 c1, .int .i64 s]] w (Ret w (· = .string ⟨#[]⟩)) := by
  have HR := Lib.hid hr
  clear hr
  have W : HB w [(w.heap.size, 26, #[.bool n, .int .u64 c0, .int .u64 c1, .int .i64 s])] (w.alloc (.cells #[.bool n, .int .u64 c0, .int .u64 c1, .int .i64 s] 26)) := (HB.start (Below.refl _ w)).push _ _
  go_enter Tryd.func11, Tryd.ntmps11
  go_wp2_with fail
  have RC := right_c n c0 c1 s (w.alloc (.cells #[.bool n, .int .u64 c0, .int .u64 c1, .int .i64 s] 26)) h0 h1
  rw [decide_eq_false HR.out] at RC
  refine RC.mono ?_
  clear RC
  rintro e w1 ⟨_, rfl, rfl, hb1⟩
  have W1 := W.below hb1
  have HB1 := Lib.hid W1.bel
  clear W W1 hb1
  go_wp2
  go_ret
  exact ⟨_, rfl, rfl, HB1.out⟩
theorem tail_len' {W P : List UInt8} (hl : W.length ≤ 60) (hp : P.length ≤ 9) : (tailL W P).length ≤ 100 := by
  unfold tailL; split
  · omega
  · simp; omega
set_option maxRecDepth 100000 in
set_option maxHeartbeats 1600000 in
theorem read_long (n : Bool) (W P : List UInt8) (m : Int) (w : World) (hW : 31 ≤ W.length) (hW2 : W.length ≤ 60) (hWd : W.all isDig = true) (hP : P.length ≤ 9) (hm : w.cell? ⟨0, 0, none⟩ = some (.int .i64 m)) :
    Calls Tryd.prog 4 #[.string ⟨(readL n W P).toArray⟩] w (Ret w (· = .tuple #[.agg #[.bool false, .int .u64 0, .int .u64 0, .int .i64 0], .int .i64 2])) := by
  have hle : w.heap.size ≤ w.heap.size := Nat.le_refl _
  have tl := tail_len' hW2 hP
  have HW := Lib.hid hWd
  have V : HB w [(w.heap.size, 26, #[.bool false, .int .u64 0, .int .u64 0, .int .i64 0])] (w.alloc (.cells #[.bool false, .int .u64 0, .int .u64 0, .int .i64 0] 26)) := (HB.start (Below.refl _ w)).push _ _
  clear hWd
  go_enter Tryd.func4, Tryd.ntmps4
  go_wp2_with fail
  refine (cutpre_c HW.out (by omega) _).mono ?_
  rintro e w1 ⟨rfl, rfl⟩
  go_wp2_with fail
  refine (cut_c HW.out tl m _ ?_).mono ?_
  · exact cell_keep V.bel hm
  rintro e w1 ⟨rfl, k, rfl⟩
  have hWi : (30 : Int) < (W.length : Int) := by omega
  go_wp2_with fail
  refine (digits_long W 30 _ (by omega) hWi (by omega)).mono ?_
  rintro e w1 ⟨rfl, rfl⟩
  have V3 := V.below (bel_drewN (Below.refl _ _) k)
  generalize hpe : P.isEmpty = b
  obtain ⟨lq, q0, q1, q2, q3⟩ := HB.dec (t := 26) (g := w.heap.size) (a := .bool false) (b := .int .u64 0) (c := .int .u64 0) (d := .int .i64 0) V3 (by simp)
  have Bz := HB.blk (g := w.heap.size) (t := 26) (cs := #[.bool false, .int .u64 0, .int .u64 0, .int .i64 0]) V3 (by simp)
  have fz0 := Bz.frozen 0
  have fz1 := Bz.frozen 1
  have fz2 := Bz.frozen 2
  have fz3 := Bz.frozen 3
  have HB1 := Lib.hid V3.1
  clear Bz V3 V
  go_wp2
  exact bodyPost_ret (v := .tuple #[.agg #[.bool false, .int .u64 0, .int .u64 0, .int .i64 0], .int .i64 2]) (by simp [results, Tryd.results4, go_sem, q0, q1, q2, q3]) rfl ⟨_, rfl, rfl, bel4 HB1.out hle⟩
end Go.Proofs.YtlhceelkefgjhaaDoor
