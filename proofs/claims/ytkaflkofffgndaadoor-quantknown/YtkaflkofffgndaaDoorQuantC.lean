/- quant: tens. -/
import Derived.Test.YtkaflkofffgndaaDoorQuantB
namespace Go.Proofs.YtkaflkofffgndaaDoor
open Go.RowKit
theorem ten_all {k : Int} {s0 s1 : Int} {p : Bool} (h : TenR k s0 s1 p) (h0 : 0 ≤ k) (h1 : k ≤ 38) : U64 s0 ∧ U64 s1 ∧ v2 s0 s1 = 10 ^ k.toNat := by
  obtain ⟨u0, u1, ⟨_, _, e, f⟩ | ⟨n, _⟩⟩ := h
  · exact ⟨u0, u1, f⟩
  · exact absurd ⟨h0, h1⟩ n
def IsTwo (M N : Nat) (v : Value) : Prop := ∃ x y x' y' : Int, (U64 x ∧ U64 y ∧ v2 x y = M) ∧ (U64 x' ∧ U64 y' ∧ v2 x' y' = N) ∧ v = .tuple #[.agg #[.int .u64 x, .int .u64 y], .agg #[.int .u64 x', .int .u64 y']]
set_option maxRecDepth 100000 in
set_option maxHeartbeats 1600000 in
theorem tens_c (k : Int) (w : World) (hlo : -9 ≤ k) (hhi : k ≤ 18) :
    Calls Tryd.prog 15 #[.int .i64 k] w (Ret w (IsTwo (10 ^ k.toNat) (10 ^ (-k).toNat))) := by
  have W : HB w [(w.heap.size + 1, 25, #[.int .u64 0, .int .u64 0]), (w.heap.size, 25, #[.int .u64 0, .int .u64 0])] ((w.alloc (.cells #[.int .u64 0, .int .u64 0] 25)).alloc (.cells #[.int .u64 0, .int .u64 0] 25)) := by
    have h := ((HB.start (Below.refl _ w)).push #[.int .u64 0, .int .u64 0] 25).push #[.int .u64 0, .int .u64 0] 25
    simpa using h
  have hle : w.heap.size ≤ w.heap.size := Nat.le_refl _
  have hle' : w.heap.size ≤ w.heap.size + 1 := by omega
  have hmax : max k 0 = ((k.toNat : Nat) : Int) := by omega
  have hmax' : max (-k) 0 = (((-k).toNat : Nat) : Int) := by omega
  have hwr : IntKind.i64.wrap (-k) = -k := by rw [IntKind.wrap_i64]; omega
  have hA : k.toNat ≤ 18 := by omega
  have hB : (-k).toNat ≤ 9 := by omega
  generalize k.toNat = A at *
  generalize (-k).toNat = B at *
  go_enter Tryd.func15, Tryd.ntmps15
  go_wp2_with fail
  refine (ten_c A _).mono ?_
  rintro e w1 ⟨_, ⟨x, y, p, HT, rfl⟩, rfl, hb⟩
  replace W := W.below hb
  clear hb
  obtain ⟨hx, hy, ex⟩ := ten_all HT (by omega) (by omega)
  have EX := Lib.hid ex
  clear ex HT
  obtain ⟨lp, p0, p1⟩ := HB.two (t := 25) (g := w.heap.size) (a := .int .u64 0) (b := .int .u64 0) W (by simp)
  have Bz := HB.blk (g := w.heap.size) (t := 25) (cs := #[.int .u64 0, .int .u64 0]) W (by simp)
  have fz0 := Bz.frozen 0
  have fz1 := Bz.frozen 1
  clear Bz
  replace W := HB.put2 (g := w.heap.size) (t := 25) (a' := .int .u64 x) (b' := .int .u64 y) (bs' := [(w.heap.size + 1, 25, #[.int .u64 0, .int .u64 0])]) W (a := .int .u64 0) (b := .int .u64 0) (by simp) hle (by simp)
  go_wp2_with fail
  refine (ten_c B _).mono ?_
  rintro e w2 ⟨_, ⟨x', y', p', HT, rfl⟩, rfl, hb⟩
  replace W := W.below hb
  clear hb lp p0 p1 fz0 fz1
  obtain ⟨hx', hy', ex'⟩ := ten_all HT (by omega) (by omega)
  have EX' := Lib.hid ex'
  clear ex' HT
  obtain ⟨lq, q0, q1⟩ := HB.two (t := 25) (g := w.heap.size) (a := .int .u64 x) (b := .int .u64 y) W (by simp)
  obtain ⟨lp, p0, p1⟩ := HB.two (t := 25) (g := w.heap.size + 1) (a := .int .u64 0) (b := .int .u64 0) W (by simp)
  have Bz := HB.blk (g := w.heap.size) (t := 25) (cs := #[.int .u64 x, .int .u64 y]) W (by simp)
  have fz0 := Bz.frozen 0
  have fz1 := Bz.frozen 1
  clear Bz
  have Bz := HB.blk (g := w.heap.size + 1) (t := 25) (cs := #[.int .u64 0, .int .u64 0]) W (by simp)
  have gz0 := Bz.frozen 0
  have gz1 := Bz.frozen 1
  clear Bz
  have HB2 := HB.put2 (g := w.heap.size + 1) (t := 25) (a := .int .u64 0) (b := .int .u64 0) (a' := .int .u64 x') (b' := .int .u64 y') (bs' := [(w.heap.size, 25, #[.int .u64 x, .int .u64 y])]) W (by simp) hle' (by simp)
  have HB3 := HB.put2 (g := w.heap.size) (t := 25) (a := .int .u64 x) (b := .int .u64 y) (a' := .int .u64 x) (b' := .int .u64 y) (bs' := [(w.heap.size + 1, 25, #[.int .u64 x', .int .u64 y'])]) HB2 (by simp) hle (by simp)
  have HB4 := HB.put2 (g := w.heap.size + 1) (t := 25) (a := .int .u64 x') (b := .int .u64 y') (a' := .int .u64 x') (b' := .int .u64 y') (bs' := [(w.heap.size, 25, #[.int .u64 x, .int .u64 y])]) HB3 (by simp) hle' (by simp)
  obtain ⟨lr, r0, r1⟩ := HB.two (t := 25) (g := w.heap.size) (a := .int .u64 x) (b := .int .u64 y) HB4 (by simp)
  obtain ⟨ls, s0, s1⟩ := HB.two (t := 25) (g := w.heap.size + 1) (a := .int .u64 x') (b := .int .u64 y') HB4 (by simp)
  have HB1 := Lib.hid HB4.1
  have R0 := Lib.hid r0
  have R1 := Lib.hid r1
  have S0 := Lib.hid s0
  have S1 := Lib.hid s1
  clear W HB2 HB3 HB4 r0 r1 s0 s1 lr ls
  go_wp2
  go_region
  all_goals
    go_wp2
    refine bodyPost_ret (v := .tuple #[.agg #[.int .u64 x, .int .u64 y], .agg #[.int .u64 x', .int .u64 y']]) (by simp [results, Tryd.results15, go_sem, R0.out, R1.out, S0.out, S1.out]) rfl ⟨_, ⟨_, _, _, _, ⟨hx, hy, EX.out⟩, ⟨hx', hy', EX'.out⟩, rfl⟩, rfl, ?_⟩
    exact HB1.out.drew
end Go.Proofs.YtkaflkofffgndaaDoor
