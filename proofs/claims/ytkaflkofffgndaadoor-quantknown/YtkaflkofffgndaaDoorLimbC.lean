/- Contracts: Short, Wide, double, shift, halves, bitsOfWord, Bits. -/
import Derived.Test.YtkaflkofffgndaaDoorLimbB
import Derived.Test.YtkaflkofffgndaaDoorPlain2
namespace Go.Proofs.YtkaflkofffgndaaDoor
open Go.RowKit

def ShortR (a b c d s0 s1 : Int) (p : Bool) : Prop := (c = 0 ∧ d = 0) ∧ p = true ∧ s0 = a ∧ s1 = b ∨ ¬ (c = 0 ∧ d = 0) ∧ p = false ∧ s0 = 0 ∧ s1 = 0
set_option maxHeartbeats 400000 in
theorem short_c (a b c d : Int) (w : World) :
    Calls Tryd.prog 16 #[.agg #[.int .u64 a, .int .u64 b, .int .u64 c, .int .u64 d]] w (Ret w (IsAgg2Bool (ShortR a b c d))) := by
  by_cases hc : c = 0
  · have gc : (c != 0) = false := by simp [hc]
    by_cases hd : d = 0
    · have gd : (d != 0) = false := by simp [hd]
      have H : ShortR a b c d a b true := Or.inl ⟨⟨hc, hd⟩, rfl, rfl, rfl⟩
      clear hc hd
      go_enter Tryd.func16, Tryd.ntmps16
      go_wp2
      exact bodyPost_ret (v := .tuple #[.agg #[.int .u64 a, .int .u64 b], .bool true]) (by simp [results, Tryd.results16, go_sem]) rfl ⟨_, ⟨_, _, _, H, rfl⟩, rfl, ((Below.refl _ _).alloc (Nat.le_refl _) _).alloc (by simp) _⟩
    · have gd : (d != 0) = true := by simp [hd]
      have H : ShortR a b c d 0 0 false := Or.inr ⟨fun h => hd h.2, rfl, rfl, rfl⟩
      clear hc hd
      go_enter Tryd.func16, Tryd.ntmps16
      go_wp2
      exact bodyPost_ret (v := .tuple #[.agg #[.int .u64 0, .int .u64 0], .bool false]) (by simp [results, Tryd.results16, go_sem]) rfl ⟨_, ⟨_, _, _, H, rfl⟩, rfl, ((Below.refl _ _).alloc (Nat.le_refl _) _).alloc (by simp) _⟩
  · have gc : (c != 0) = true := by simp [hc]
    have H : ShortR a b c d 0 0 false := Or.inr ⟨fun h => hc h.1, rfl, rfl, rfl⟩
    clear hc
    go_enter Tryd.func16, Tryd.ntmps16
    go_wp2
    exact bodyPost_ret (v := .tuple #[.agg #[.int .u64 0, .int .u64 0], .bool false]) (by simp [results, Tryd.results16, go_sem]) rfl ⟨_, ⟨_, _, _, H, rfl⟩, rfl, ((Below.refl _ _).alloc (Nat.le_refl _) _).alloc (by simp) _⟩

set_option maxHeartbeats 400000 in
theorem wide_c (a b : Int) (w : World) :
    Calls Tryd.prog 39 #[.agg #[.int .u64 a, .int .u64 b]] w (Ret w (· = .agg #[.int .u64 a, .int .u64 b, .int .u64 0, .int .u64 0])) := by
  go_enter Tryd.func39, Tryd.ntmps39
  go_wp2
  exact bodyPost_ret (v := .agg #[.int .u64 a, .int .u64 b, .int .u64 0, .int .u64 0]) (by simp [results, Tryd.results39, go_sem]) rfl ⟨_, rfl, rfl, ((Below.refl _ _).alloc (Nat.le_refl _) _).alloc (by simp) _⟩

def IsAgg2Int (Q : Int → Int → Int → Prop) (v : Value) : Prop := ∃ a b o : Int, Q a b o ∧ v = .tuple #[.agg #[.int .u64 a, .int .u64 b], .int .u64 o]
set_option maxHeartbeats 400000 in
theorem double_c (a0 a1 b : Int) (w : World) (h0 : U64 a0) (h1 : U64 a1) (hb : b = 0 ∨ b = 1) :
    Calls Tryd.prog 45 #[.agg #[.int .u64 a0, .int .u64 a1], .int .u64 b] w (Ret w (IsAgg2Int (DoubleW a0 a1 b))) := by
  have H := doubleW_of a0 a1 b h0 h1 hb
  clear hb
  go_enter Tryd.func45, Tryd.ntmps45
  go_wp2
  go_region
  go_wp2
  exact bodyPost_ret (v := .tuple #[.agg #[_, _], _]) (by simp [results, Tryd.results45, go_sem]) rfl ⟨_, ⟨_, _, _, H, rfl⟩, rfl, ((((Below.refl _ _).alloc (Nat.le_refl _) _).alloc (by simp) _)).drew⟩

def IsShift (k : Int) (v : Value) : Prop := ∃ s r : Int, ShiftR k s r ∧ v = .tuple #[.int .i64 s, .int .u64 r]
def IsHalves (Q : Int → Int → Int → Int → Prop) (v : Value) : Prop := ∃ a b c d : Int, Q a b c d ∧ v = .agg #[.int .u32 a, .int .u32 b, .int .u32 c, .int .u32 d]
set_option maxHeartbeats 400000 in
theorem halves_c (a b : Int) (w : World) (ha : U64 a) (hb : U64 b) :
    Calls Tryd.prog 30 #[.agg #[.int .u64 a, .int .u64 b]] w (Ret w (IsHalves (HalvesW a b))) := by
  have H := halvesW_of a b ha hb
  go_enter Tryd.func30, Tryd.ntmps30
  go_wp2
  exact bodyPost_ret (v := .agg #[_, _, _, _]) (by simp [results, Tryd.results30, go_sem]) rfl ⟨_, ⟨_, _, _, _, H, rfl⟩, rfl, ((Below.refl _ _).alloc (Nat.le_refl _) _).alloc (by simp) _⟩

/-- x is a by 2 to the k; k is no more than a's bits. -/
def ShrK (a x : Int) (k : Nat) : Prop := U64 a ∧ x.toNat = a.toNat / 2 ^ k ∧ 0 ≤ x ∧ k ≤ 64 ∧ (0 < k → 2 ^ (k - 1) ≤ a.toNat)
theorem shrK_0 {a : Int} (h : U64 a) : ShrK a a 0 := by unfold ShrK; exact ⟨h, by simp, h.1, by omega, by simp⟩
theorem shrK_s {a x : Int} {k : Nat} (h : ShrK a x k) (hx : x ≠ 0) : ShrK a (x / 2) (k + 1) ∧ k < 64 := by
  obtain ⟨ha, e, h0, hk, _⟩ := h
  have hp : 0 < 2 ^ k := Nat.pow_pos (by decide)
  have h1 : 2 ^ k ≤ a.toNat := by
    rcases Nat.lt_or_ge a.toNat (2 ^ k) with c | c
    · rw [Nat.div_eq_of_lt c] at e; omega
    · exact c
  have h64 : k < 64 := by
    rcases Nat.lt_or_ge k 64 with c | c
    · exact c
    · have : 2 ^ 64 ≤ 2 ^ k := Nat.pow_le_pow_right (by decide) c
      unfold U64 at ha
      omega
  refine ⟨⟨ha, ?_, by omega, by omega, fun _ => by simpa using h1⟩, h64⟩
  rw [Nat.pow_succ, ← Nat.div_div_eq_div_mul, ← e]
  omega
theorem shrK_end {a x : Int} {k : Nat} (h : ShrK a x k) (hx : x = 0) : BitsN a.toNat k := by
  obtain ⟨ha, e, h0, hk, h1⟩ := h
  refine ⟨?_, h1⟩
  have hp : 0 < 2 ^ k := Nat.pow_pos (by decide)
  rcases Nat.lt_or_ge a.toNat (2 ^ k) with c | c
  · exact c
  · have := Nat.div_pos c hp
    omega

def IsBits (m : Nat) (v : Value) : Prop := ∃ n : Nat, n ≤ 256 ∧ BitsN m n ∧ v = .int .i64 n
set_option maxHeartbeats 400000 in
theorem bitsOfWord_c (a : Int) (w : World) (ha : U64 a) :
    Calls Tryd.prog 58 #[.int .u64 a] w fun e w' => ∃ n : Nat, (n ≤ 64 ∧ BitsN a.toNat n) ∧ e = .returned (.int .i64 n) ∧ w = w' := by
  go_enter Tryd.func58, Tryd.ntmps58
  go_wp2
  go_loop [0, 3] (fun x n => ∃ (k : Nat) (y : Int), ShrK a y k ∧ n = .int .i64 k ∧ x = .int .u64 y) (fun x _ => (intOf x).toNat)
  case atStart => exact ⟨0, a, shrK_0 ha, rfl, rfl⟩
  case round =>
    obtain ⟨k, y, hr, rfl, rfl⟩ := hrel
    by_cases hy : y = 0
    · have H := shrK_end hr hy
      have hk : k ≤ 64 := hr.2.2.2.1
      have g : (y != 0) = false := by simp [hy]
      clear hy
      go_wp2
      go_ret
      exact ⟨k, ⟨hk, H⟩, rfl, rfl⟩
    · have ⟨H, hk⟩ := shrK_s hr hy
      have g : (y != 0) = true := by simp [hy]
      have h0 : 0 ≤ y := hr.2.2.1
      have h1 : 0 < y := by omega
      clear hy
      go_wp2
      go_round
      case rel => exact ⟨k + 1, _, H, by go_num, rfl⟩
      case measure => simp [intOf]; omega
end Go.Proofs.YtkaflkofffgndaaDoor
