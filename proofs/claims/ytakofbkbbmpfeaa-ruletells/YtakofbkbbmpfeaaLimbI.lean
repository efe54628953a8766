/- Contract: Div. -/
/- Contract: Div, by what is not 0. -/
/- Contracts: Ten; the statements' own helpers. -/
import Derived.Test.YtakofbkbbmpfeaaPlain5
namespace Go.Proofs.Ytakofbkbbmpfeaa
open Go.RowKit

set_option maxHeartbeats 400000 in
theorem of_x (a : Int) (w : World) :
    Calls Try.prog 73 #[.int .u64 a] w fun e w' => e = .returned (.agg #[.int .u64 a, .int .u64 0]) ∧ w.alloc (.cells #[.int .u64 a, .int .u64 0] 47) = w' := by
  go_enter Try.func73, Try.ntmps73
  go_wp2
  exact bodyPost_ret (v := .agg #[.int .u64 a, .int .u64 0]) (by simp [results, Try.results73, go_sem]) rfl ⟨rfl, rfl⟩

def mk64 (n : Nat) : Value := .int .u64 n
def DivR (a b c d b0 b1 q0 q1 q2 q3 r0 r1 : Int) (p : Bool) : Prop :=
  v2 b0 b1 = 0 ∧ p = false ∧ q0 = 0 ∧ q1 = 0 ∧ q2 = 0 ∧ q3 = 0 ∧ r0 = 0 ∧ r1 = 0 ∨
  0 < v2 b0 b1 ∧ p = true ∧ U64 q0 ∧ U64 q1 ∧ U64 q2 ∧ U64 q3 ∧ U64 r0 ∧ U64 r1 ∧ v4 q0 q1 q2 q3 = v4 a b c d / v2 b0 b1 ∧ v2 r0 r1 = v4 a b c d % v2 b0 b1
def IsDiv (Q : Int → Int → Int → Int → Int → Int → Bool → Prop) (v : Value) : Prop := ∃ (q0 q1 q2 q3 r0 r1 : Int) (p : Bool), Q q0 q1 q2 q3 r0 r1 p ∧ v = .tuple #[.agg #[.int .u64 q0, .int .u64 q1, .int .u64 q2, .int .u64 q3], .agg #[.int .u64 r0, .int .u64 r1], .bool p]
theorem v2_zero {b0 b1 : Int} (h0 : U64 b0) (h1 : U64 b1) : v2 b0 b1 = 0 ↔ b0 = 0 ∧ b1 = 0 := by unfold U64 v2 at *; omega

end Go.Proofs.Ytakofbkbbmpfeaa

namespace Go.Proofs.Ytakofbkbbmpfeaa
open Go.RowKit

theorem v4_val (a b c d : Nat) : val64 [a, b, c, d] = v4 a b c d := by
  rw [v4_nat]
  simp only [val64]
  omega
theorem map_set64 (l : List Nat) (i v : Nat) : ((l.map mk64).toArray.setIfInBounds i (mk64 v)) = ((l.set i v).map mk64).toArray := by
  simp [List.map_set]
theorem isFour {l : List Nat} (h : l.length = 4) : ∃ p0 p1 p2 p3, l = [p0, p1, p2, p3] := by
  match l, h with
  | [p0, p1, p2, p3], _ => exact ⟨_, _, _, _, rfl⟩
theorem Blk.cell64 {w : World} {g t : Nat} {l : List Nat} (h : Blk w g t (l.map mk64).toArray) {i : Nat} (hi : i < l.length) : w.cell? ⟨g, i, none⟩ = some (.int .u64 (l.getD i 0 : Nat)) := by
  rw [h.cell]
  simp [mk64, hi]
theorem u64_cast {x : Nat} (h : x < 18446744073709551616) : U64 (x : Int) := u64_nat h

theorem or_walk (x s : Nat) (hx : x < 18446744073709551616) (hs : s < 64) : bits .or .u64 (x : Int) (IntKind.u64.wrap (2 ^ s)) = ((x ||| 2 ^ s : Nat) : Int) := by
  have h := pow_le_64 s hs
  have e : IntKind.u64.wrap (2 ^ s) = ((2 ^ s : Nat) : Int) := by
    have : (2 : Int) ^ s = ((2 ^ s : Nat) : Int) := by rw [Int.natCast_pow]; rfl
    rw [this, IntKind.wrap_u64]
    generalize 2 ^ s = p at *
    omega
  rw [e, u64_or_nat x _ hx (by omega)]
theorem cmpI_ge {m n : Nat} (h : n ≤ m) : 0 ≤ cmpI m n := by
  unfold cmpI
  rcases Nat.eq_or_lt_of_le h with e | e
  · rw [if_pos e.symm]; decide
  · rw [if_neg (by omega), if_neg (by omega)]; decide
theorem cmpI_lt {m n : Nat} (h : m < n) : cmpI m n = -1 := by unfold cmpI; rw [if_neg (by omega), if_pos h]
theorem double_ge {A k : Nat} {r0 r1 β t0 t1 ov : Int} {B : Nat} (h : DoubleW r0 r1 β t0 t1 ov) (hb : β = ((A / 2 ^ k % 2 : Nat) : Int)) (ho : ov = 0) (hge : B ≤ 2 * v2 r0 r1 + A / 2 ^ k % 2) : B ≤ v2 t0 t1 := by
  obtain ⟨_, _, _, hd⟩ := h
  have ho2 : ov.toNat = 0 := by omega
  rw [ho2, Nat.zero_mul, Nat.add_zero, hb, Int.toNat_natCast] at hd
  omega
theorem divI_word {A B : Nat} {x : Int} {q : List Nat} {r0 r1 : Int} (h : DivI A B x q r0 r1) (W : Nat) : q.getD W 0 < 18446744073709551616 := by
  obtain ⟨_, _, _, _, h2, _⟩ := h
  exact getD_lt64 h2 W
theorem divI_facts {A B : Nat} {x : Int} {q : List Nat} {r0 r1 : Int} (h : DivI A B x q r0 r1) : q.length = 4 ∧ U64 r0 ∧ U64 r1 := by
  obtain ⟨_, _, _, h1, _, h2, h3, _, _⟩ := h
  exact ⟨h1, h2, h3⟩

end Go.Proofs.Ytakofbkbbmpfeaa

namespace Go.Proofs.Ytakofbkbbmpfeaa
open Go.RowKit

theorem v4_inj {a b c d a' b' c' d' : Int} (ha : U64 a) (hb : U64 b) (hc : U64 c) (hd : U64 d) (ha' : U64 a') (hb' : U64 b') (hc' : U64 c') (hd' : U64 d') (h : v4 a b c d = v4 a' b' c' d') : a = a' ∧ b = b' ∧ c = c' ∧ d = d' := by
  unfold U64 at *
  unfold v4 v2 at h
  omega
theorem v2_inj {a b a' b' : Int} (ha : U64 a) (hb : U64 b) (ha' : U64 a') (hb' : U64 b') (h : v2 a b = v2 a' b') : a = a' ∧ b = b' := by
  unfold U64 at *
  unfold v2 at h
  omega
theorem v4_low {a b c d : Int} (ha : U64 a) (hb : U64 b) (hc : U64 c) (hd : U64 d) (h : v4 a b c d < 340282366920938463463374607431768211456) : c = 0 ∧ d = 0 ∧ v4 a b c d = v2 a b := by
  unfold U64 at *
  unfold v4 v2 at *
  omega

def TenR (k : Int) (s0 s1 : Int) (p : Bool) : Prop := U64 s0 ∧ U64 s1 ∧ (0 ≤ k ∧ k ≤ 38 ∧ p = true ∧ v2 s0 s1 = 10 ^ k.toNat ∨ ¬ (0 ≤ k ∧ k ≤ 38) ∧ p = false ∧ s0 = 0 ∧ s1 = 0)
def TenI (m : Nat) (a b : Int) : Prop := U64 a ∧ U64 b ∧ v2 a b = 10 ^ m
theorem u64_10 : U64 10 := by simp [U64]
theorem ten_le {m : Nat} (h : m ≤ 38) : 10 ^ m < 340282366920938463463374607431768211456 := by
  have : 10 ^ m ≤ 10 ^ 38 := Nat.pow_le_pow_right (by decide) h
  omega
theorem tenI_0 : TenI 0 1 0 := by simp [TenI, U64, v2]
theorem tenI_s {m : Nat} {a b x y z u s0 s1 : Int} {p : Bool} (hm : m < 38) (h : TenI m a b) (hm : MulR a b 10 0 x y z u) (hs : ShortR x y z u s0 s1 p) : TenI (m + 1) s0 s1 := by
  obtain ⟨_, _, e⟩ := h
  obtain ⟨u0, u1, u2, u3, e2⟩ := hm
  have e3 : v2 10 0 = 10 := by simp [v2]
  rw [e, e3, ← Nat.pow_succ] at e2
  have hl := ten_le (m := m + 1) (by omega)
  rw [← e2] at hl
  obtain ⟨hz, hu, hv⟩ := v4_low u0 u1 u2 u3 hl
  rw [hv] at e2
  rcases hs with ⟨_, _, rfl, rfl⟩ | ⟨hn, _⟩
  · exact ⟨u0, u1, e2⟩
  · exact absurd ⟨hz, hu⟩ hn

end Go.Proofs.Ytakofbkbbmpfeaa
