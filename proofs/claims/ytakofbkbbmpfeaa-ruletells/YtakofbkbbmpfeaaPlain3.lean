/- Plain facts: four words shifted. -/
import Derived.Test.YtakofbkbbmpfeaaLimbD
namespace Go.Proofs.Ytakofbkbbmpfeaa

/-- The words that the shifts make. -/
def lw0 (x r : Int) : Int := IntKind.u64.wrap (x * 2 ^ r.toNat)
def lw1 (x y r : Int) : Int := bits .or .u64 (IntKind.u64.wrap (x * 2 ^ r.toNat)) (y / 2 ^ (64 - r).toNat)
def rw0 (x r : Int) : Int := x / 2 ^ r.toNat
def rw1 (x y r : Int) : Int := bits .or .u64 (x / 2 ^ r.toNat) (IntKind.u64.wrap (y * 2 ^ (64 - r).toNat))

theorem pq (n : Nat) (h : n < 64) : 2 ^ n * 2 ^ (64 - n) = 18446744073709551616 := by
  rw [← Nat.pow_add]
  have : n + (64 - n) = 64 := by omega
  rw [this]
theorem cast_mul_pow (x n : Nat) : (x : Int) * 2 ^ n = ((x * 2 ^ n : Nat) : Int) := by
  rw [Int.natCast_mul, Int.natCast_pow]; rfl
theorem cast_div_pow (x n : Nat) : (x : Int) / 2 ^ n = ((x / 2 ^ n : Nat) : Int) := by
  rw [Int.natCast_ediv, Int.natCast_pow]; rfl
theorem wrap_nat (x : Nat) : IntKind.u64.wrap (x : Int) = ((x % 18446744073709551616 : Nat) : Int) := by rw [IntKind.wrap_u64]; omega

/-- What the walk's words are, as numbers: n: the bits, below 64. -/
theorem lw0_nat (x n : Nat) : lw0 x n = ((x * 2 ^ n % 18446744073709551616 : Nat) : Int) := by
  unfold lw0
  rw [Int.toNat_natCast, cast_mul_pow, wrap_nat]
theorem mod_low (x n : Nat) (hn : n < 64) : x * 2 ^ n % 18446744073709551616 % 2 ^ n = 0 := by
  rw [← pq n hn, Nat.mod_mul_right_mod, Nat.mul_mod_left]
theorem div_high (y n : Nat) (hy : y < 18446744073709551616) (hn : n < 64) : y / 2 ^ (64 - n) < 2 ^ n := by
  rw [Nat.div_lt_iff_lt_mul (Nat.pow_pos (by decide)), pq n hn]
  exact hy
theorem pow_le_64 (n : Nat) (hn : n < 64) : 2 ^ n ≤ 9223372036854775808 := by
  have : 2 ^ n ≤ 2 ^ 63 := Nat.pow_le_pow_right (by decide) (by omega)
  exact this
theorem lw1_nat (x y n : Nat) (hy : y < 18446744073709551616) (hn : n < 64) :
    lw1 x y n = ((x * 2 ^ n % 18446744073709551616 + y / 2 ^ (64 - n) : Nat) : Int) ∧ x * 2 ^ n % 18446744073709551616 + y / 2 ^ (64 - n) < 18446744073709551616 := by
  have h1 := mod_low x n hn
  have h2 := div_high y n hy hn
  have h3 := pow_le_64 n hn
  have e : (64 - (n : Int)).toNat = 64 - n := by omega
  have hj := or_join n _ _ h1 h2 (by omega) (by omega)
  refine ⟨?_, ?_⟩
  · unfold lw1
    rw [Int.toNat_natCast, e, cast_mul_pow, wrap_nat, cast_div_pow, hj]
  · have e2 := nat_join n _ _ h1 h2
    rw [← e2]
    exact Nat.or_lt_two_pow (n := 64) (by omega) (by omega)
/-- A word by a power of two: what stays, and what goes over. -/
theorem word_shl (x n : Nat) (hn : n < 64) : x * 2 ^ n = x * 2 ^ n % 18446744073709551616 + x / 2 ^ (64 - n) * 18446744073709551616 := by
  have e : x * 2 ^ n / 18446744073709551616 = x / 2 ^ (64 - n) := by
    rw [← pq n hn, Nat.mul_comm x, Nat.mul_div_mul_left _ _ (Nat.pow_pos (by decide))]
  rw [← e]
  omega
theorem rw0_nat (x n : Nat) : rw0 x n = ((x / 2 ^ n : Nat) : Int) := by
  unfold rw0
  rw [Int.toNat_natCast, cast_div_pow]
theorem wrap_high (y n : Nat) (hn : n < 64) : y * 2 ^ (64 - n) % 18446744073709551616 = y % 2 ^ n * 2 ^ (64 - n) := by
  rw [← pq n hn, Nat.mul_mod_mul_right]
theorem rw1_nat (x y n : Nat) (hx : x < 18446744073709551616) (hn : n < 64) :
    rw1 x y n = ((x / 2 ^ n + y % 2 ^ n * 2 ^ (64 - n) : Nat) : Int) ∧ x / 2 ^ n + y % 2 ^ n * 2 ^ (64 - n) < 18446744073709551616 := by
  have h1 : y % 2 ^ n * 2 ^ (64 - n) % 2 ^ (64 - n) = 0 := Nat.mul_mod_left _ _
  have h2 : x / 2 ^ n < 2 ^ (64 - n) := by
    rw [Nat.div_lt_iff_lt_mul (Nat.pow_pos (by decide)), Nat.mul_comm, pq n hn]
    exact hx
  have e : (64 - (n : Int)).toNat = 64 - n := by omega
  have hw := wrap_high y n hn
  have hlt : y % 2 ^ n * 2 ^ (64 - n) < 18446744073709551616 := by omega
  have hx2 : x / 2 ^ n < 18446744073709551616 := Nat.lt_of_le_of_lt (Nat.div_le_self _ _) hx
  have hj := nat_join (64 - n) _ _ h1 h2
  rw [Nat.or_comm] at hj
  refine ⟨?_, ?_⟩
  · unfold rw1
    rw [Int.toNat_natCast, e, cast_mul_pow, wrap_nat, cast_div_pow, hw, u64_or_nat _ _ hx2 hlt, hj, Nat.add_comm]
  · have : x / 2 ^ n ||| y % 2 ^ n * 2 ^ (64 - n) < 2 ^ 64 := Nat.or_lt_two_pow (by omega) (by omega)
    omega

def LeftR (a b c d k x y z u : Int) : Prop := U64 x ∧ U64 y ∧ U64 z ∧ U64 u ∧ v4 x y z u = v4 a b c d * 2 ^ clampK k % 115792089237316195423570985008687907853269984665640564039457584007913129639936
def RightR (a b c d k x y z u : Int) : Prop := U64 x ∧ U64 y ∧ U64 z ∧ U64 u ∧ v4 x y z u = v4 a b c d / 2 ^ clampK k

theorem v4_nat (a b c d : Nat) : v4 a b c d = a + b * 18446744073709551616 + c * 340282366920938463463374607431768211456 + d * 6277101735386680763835789423207666416102355444464034512896 := by
  unfold v4 v2; omega
theorem clamp_split {k s r : Int} (h : ShiftR k s r) : clampK k = r.toNat + 64 * s.toNat := by unfold ShiftR at h; omega

theorem tp0 : 2 ^ (64 * Int.toNat 0) = 1 := rfl
theorem tp1 : 2 ^ (64 * Int.toNat 1) = 18446744073709551616 := rfl
theorem tp2 : 2 ^ (64 * Int.toNat 2) = 340282366920938463463374607431768211456 := rfl
theorem tp3 : 2 ^ (64 * Int.toNat 3) = 6277101735386680763835789423207666416102355444464034512896 := rfl
theorem tp4 : 2 ^ (64 * Int.toNat 4) = 115792089237316195423570985008687907853269984665640564039457584007913129639936 := rfl

theorem left_of (a b c d k s r : Int) (h : ShiftR k s r) (ha : U64 a) (hb : U64 b) (hc : U64 c) (hd : U64 d) :
    (s = 0 → LeftR a b c d k (lw0 a r) (lw1 b a r) (lw1 c b r) (lw1 d c r)) ∧ (s = 1 → LeftR a b c d k 0 (lw0 a r) (lw1 b a r) (lw1 c b r)) ∧
    (s = 2 → LeftR a b c d k 0 0 (lw0 a r) (lw1 b a r)) ∧ (s = 3 → LeftR a b c d k 0 0 0 (lw0 a r)) ∧ (s = 4 → LeftR a b c d k 0 0 0 0) := by
  have hk := clamp_split h
  obtain ⟨-, hs0, hs4, hr0, hr1⟩ := h
  obtain ⟨ha0, ha1⟩ := ha
  obtain ⟨hb0, hb1⟩ := hb
  obtain ⟨hc0, hc1⟩ := hc
  obtain ⟨hd0, hd1⟩ := hd
  obtain ⟨n, rfl⟩ := Int.eq_ofNat_of_zero_le hr0
  obtain ⟨a, rfl⟩ := Int.eq_ofNat_of_zero_le ha0
  obtain ⟨b, rfl⟩ := Int.eq_ofNat_of_zero_le hb0
  obtain ⟨c, rfl⟩ := Int.eq_ofNat_of_zero_le hc0
  obtain ⟨d, rfl⟩ := Int.eq_ofNat_of_zero_le hd0
  have hn : n < 64 := by omega
  have A0 := lw0_nat a n
  obtain ⟨B0, B1⟩ := lw1_nat b a n (by omega) hn
  obtain ⟨C0, C1⟩ := lw1_nat c b n (by omega) hn
  obtain ⟨D0, D1⟩ := lw1_nat d c n (by omega) hn
  have ea := word_shl a n hn
  have eb := word_shl b n hn
  have ec := word_shl c n hn
  have ed := word_shl d n hn
  have ev : v4 a b c d * 2 ^ n = a * 2 ^ n + b * 2 ^ n * 18446744073709551616 + c * 2 ^ n * 340282366920938463463374607431768211456 + d * 2 ^ n * 6277101735386680763835789423207666416102355444464034512896 := by
    rw [v4_nat, Nat.add_mul, Nat.add_mul, Nat.add_mul, Nat.mul_right_comm b, Nat.mul_right_comm c, Nat.mul_right_comm d]
  have ek : ∀ t, v4 a b c d * 2 ^ (n + 64 * t) = v4 a b c d * 2 ^ n * 2 ^ (64 * t) := fun t => by rw [Nat.pow_add, Nat.mul_assoc]
  have hA : a * 2 ^ n % 18446744073709551616 < 18446744073709551616 := Nat.mod_lt _ (by decide)
  unfold LeftR
  rw [hk, Int.toNat_natCast, ek, ev, A0, B0, C0, D0]
  generalize a * 2 ^ n % 18446744073709551616 = la at *
  generalize b * 2 ^ n % 18446744073709551616 = lb at *
  generalize c * 2 ^ n % 18446744073709551616 = lc at *
  generalize d * 2 ^ n % 18446744073709551616 = ld at *
  generalize a / 2 ^ (64 - n) = xa at *
  generalize b / 2 ^ (64 - n) = xb at *
  generalize c / 2 ^ (64 - n) = xc at *
  generalize d / 2 ^ (64 - n) = xd at *
  rw [ea, eb, ec, ed]
  clear ea eb ec ed A0 B0 C0 D0 ev ek hk
  refine ⟨?_, ?_, ?_, ?_, ?_⟩
  all_goals
    rintro rfl
    unfold U64 v4 v2
    simp only [tp0, tp1, tp2, tp3, tp4, Int.toNat_natCast]
    refine ⟨by omega, by omega, by omega, by omega, by omega⟩

theorem right_core (a b c d n : Nat) (hn : n < 64) :
    v4 a b c d / 2 ^ n = (a / 2 ^ n + b % 2 ^ n * 2 ^ (64 - n)) + (b / 2 ^ n + c % 2 ^ n * 2 ^ (64 - n)) * 18446744073709551616
      + (c / 2 ^ n + d % 2 ^ n * 2 ^ (64 - n)) * 340282366920938463463374607431768211456 + d / 2 ^ n * 6277101735386680763835789423207666416102355444464034512896 := by
  have hp : 0 < 2 ^ n := Nat.pow_pos (by decide)
  have hpq := pq n hn
  have ea := Nat.div_add_mod a (2 ^ n)
  have eb := Nat.div_add_mod b (2 ^ n)
  have ec := Nat.div_add_mod c (2 ^ n)
  have ed := Nat.div_add_mod d (2 ^ n)
  have la := Nat.mod_lt a hp
  rw [v4_nat]
  generalize a / 2 ^ n = A at *
  generalize b / 2 ^ n = B at *
  generalize c / 2 ^ n = C at *
  generalize d / 2 ^ n = D at *
  generalize a % 2 ^ n = a' at *
  generalize b % 2 ^ n = b' at *
  generalize c % 2 ^ n = c' at *
  generalize d % 2 ^ n = d' at *
  generalize 2 ^ n = p at *
  generalize 2 ^ (64 - n) = q at *
  have kb : p * (b' * q) = b' * 18446744073709551616 := by rw [← hpq, Nat.mul_left_comm]
  have kc : p * (c' * q) = c' * 18446744073709551616 := by rw [← hpq, Nat.mul_left_comm]
  have kd : p * (d' * q) = d' * 18446744073709551616 := by rw [← hpq, Nat.mul_left_comm]
  generalize b' * q = b'' at *
  generalize c' * q = c'' at *
  generalize d' * q = d'' at *
  have e : a + b * 18446744073709551616 + c * 340282366920938463463374607431768211456 + d * 6277101735386680763835789423207666416102355444464034512896
      = a' + p * ((A + b'') + (B + c'') * 18446744073709551616 + (C + d'') * 340282366920938463463374607431768211456 + D * 6277101735386680763835789423207666416102355444464034512896) := by
    rw [← ea, ← eb, ← ec, ← ed]
    simp only [Nat.mul_add, ← Nat.mul_assoc p]
    rw [kb, kc, kd]
    omega
  rw [e, Nat.add_mul_div_left _ _ hp, Nat.div_eq_of_lt la, Nat.zero_add]

theorem v4_n3 (a b c : Nat) : v4 a b c 0 = a + b * 18446744073709551616 + c * 340282366920938463463374607431768211456 := by unfold v4 v2; omega
theorem v4_n2 (a b : Nat) : v4 a b 0 0 = a + b * 18446744073709551616 := by unfold v4 v2; omega
theorem v4_n1 (a : Nat) : v4 a 0 0 0 = a := by unfold v4 v2; omega
theorem v4_n0 : v4 0 0 0 0 = 0 := by simp [v4, v2]
theorem skip1 (a b c d : Nat) (ha : a < 18446744073709551616) : v4 a b c d / 18446744073709551616 = v4 b c d 0 := by
  have e : v4 a b c d = a + 18446744073709551616 * v4 b c d 0 := by simp only [v4_nat, v4_n3]; omega
  rw [e, Nat.add_mul_div_left _ _ (by decide), Nat.div_eq_of_lt ha, Nat.zero_add]
theorem skip2 (a b c d : Nat) (ha : a < 18446744073709551616) (hb : b < 18446744073709551616) : v4 a b c d / 340282366920938463463374607431768211456 = v4 c d 0 0 := by
  have e : v4 a b c d = (a + b * 18446744073709551616) + 340282366920938463463374607431768211456 * v4 c d 0 0 := by simp only [v4_nat, v4_n2]; omega
  rw [e, Nat.add_mul_div_left _ _ (by decide), Nat.div_eq_of_lt (by omega), Nat.zero_add]
theorem skip3 (a b c d : Nat) (ha : a < 18446744073709551616) (hb : b < 18446744073709551616) (hc : c < 18446744073709551616) : v4 a b c d / 6277101735386680763835789423207666416102355444464034512896 = v4 d 0 0 0 := by
  have e : v4 a b c d = (a + b * 18446744073709551616 + c * 340282366920938463463374607431768211456) + 6277101735386680763835789423207666416102355444464034512896 * v4 d 0 0 0 := by simp only [v4_nat, v4_n1]; omega
  rw [e, Nat.add_mul_div_left _ _ (by decide), Nat.div_eq_of_lt (by omega), Nat.zero_add]
theorem skip4 (a b c d : Nat) (ha : a < 18446744073709551616) (hb : b < 18446744073709551616) (hc : c < 18446744073709551616) (hd : d < 18446744073709551616) : v4 a b c d / 115792089237316195423570985008687907853269984665640564039457584007913129639936 = 0 := by
  rw [v4_nat]
  exact Nat.div_eq_of_lt (by omega)
theorem core3 (a b c n : Nat) (hn : n < 64) : v4 a b c 0 / 2 ^ n = (a / 2 ^ n + b % 2 ^ n * 2 ^ (64 - n)) + (b / 2 ^ n + c % 2 ^ n * 2 ^ (64 - n)) * 18446744073709551616 + c / 2 ^ n * 340282366920938463463374607431768211456 := by
  have hp : 0 < 2 ^ n := Nat.pow_pos (by decide)
  have hpq := pq n hn
  have ea := Nat.div_add_mod a (2 ^ n)
  have eb := Nat.div_add_mod b (2 ^ n)
  have ec := Nat.div_add_mod c (2 ^ n)
  have la := Nat.mod_lt a hp
  rw [v4_n3]
  generalize a / 2 ^ n = A at *
  generalize b / 2 ^ n = B at *
  generalize c / 2 ^ n = C at *
  generalize a % 2 ^ n = a' at *
  generalize b % 2 ^ n = b' at *
  generalize c % 2 ^ n = c' at *
  generalize 2 ^ n = p at *
  generalize 2 ^ (64 - n) = q at *
  have kb : p * (b' * q) = b' * 18446744073709551616 := by rw [← hpq, Nat.mul_left_comm]
  have kc : p * (c' * q) = c' * 18446744073709551616 := by rw [← hpq, Nat.mul_left_comm]
  generalize b' * q = b'' at *
  generalize c' * q = c'' at *
  have e : a + b * 18446744073709551616 + c * 340282366920938463463374607431768211456 = a' + p * ((A + b'') + (B + c'') * 18446744073709551616 + C * 340282366920938463463374607431768211456) := by
    rw [← ea, ← eb, ← ec]
    simp only [Nat.mul_add, ← Nat.mul_assoc p]
    rw [kb, kc]
    omega
  rw [e, Nat.add_mul_div_left _ _ hp, Nat.div_eq_of_lt la, Nat.zero_add]
theorem core2 (a b n : Nat) (hn : n < 64) : v4 a b 0 0 / 2 ^ n = (a / 2 ^ n + b % 2 ^ n * 2 ^ (64 - n)) + b / 2 ^ n * 18446744073709551616 := by
  have hp : 0 < 2 ^ n := Nat.pow_pos (by decide)
  have hpq := pq n hn
  have ea := Nat.div_add_mod a (2 ^ n)
  have eb := Nat.div_add_mod b (2 ^ n)
  have la := Nat.mod_lt a hp
  rw [v4_n2]
  generalize a / 2 ^ n = A at *
  generalize b / 2 ^ n = B at *
  generalize a % 2 ^ n = a' at *
  generalize b % 2 ^ n = b' at *
  generalize 2 ^ n = p at *
  generalize 2 ^ (64 - n) = q at *
  have kb : p * (b' * q) = b' * 18446744073709551616 := by rw [← hpq, Nat.mul_left_comm]
  generalize b' * q = b'' at *
  have e : a + b * 18446744073709551616 = a' + p * ((A + b'') + B * 18446744073709551616) := by
    rw [← ea, ← eb]
    simp only [Nat.mul_add, ← Nat.mul_assoc p]
    rw [kb]
    omega
  rw [e, Nat.add_mul_div_left _ _ hp, Nat.div_eq_of_lt la, Nat.zero_add]
theorem core1 (a n : Nat) : v4 a 0 0 0 / 2 ^ n = a / 2 ^ n := by rw [v4_n1]
theorem u64_nat {x : Nat} (h : x < 18446744073709551616) : U64 (x : Int) := by unfold U64; omega
theorem u64_zero : U64 0 := by unfold U64; omega

theorem right_of0 (a b c d n : Nat) (k : Int) (hk : clampK k = n) (hn : n < 64) (ha : a < 18446744073709551616) (hb : b < 18446744073709551616) (hc : c < 18446744073709551616) (hd : d < 18446744073709551616) :
    RightR a b c d k (rw1 a b n) (rw1 b c n) (rw1 c d n) (rw0 d n) := by
  have D0 := rw0_nat d n
  obtain ⟨A0, A1⟩ := rw1_nat a b n ha hn
  obtain ⟨B0, B1⟩ := rw1_nat b c n hb hn
  obtain ⟨C0, C1⟩ := rw1_nat c d n hc hn
  have D1 : d / 2 ^ n < 18446744073709551616 := Nat.lt_of_le_of_lt (Nat.div_le_self _ _) hd
  unfold RightR
  rw [hk, A0, B0, C0, D0, right_core a b c d n hn, v4_nat]
  exact ⟨u64_nat A1, u64_nat B1, u64_nat C1, u64_nat D1, rfl⟩
theorem right_of1 (a b c d n : Nat) (k : Int) (hk : clampK k = n + 64) (hn : n < 64) (ha : a < 18446744073709551616) (hb : b < 18446744073709551616) (hc : c < 18446744073709551616) (hd : d < 18446744073709551616) :
    RightR a b c d k (rw1 b c n) (rw1 c d n) (rw0 d n) 0 := by
  have D0 := rw0_nat d n
  obtain ⟨B0, B1⟩ := rw1_nat b c n hb hn
  obtain ⟨C0, C1⟩ := rw1_nat c d n hc hn
  have D1 : d / 2 ^ n < 18446744073709551616 := Nat.lt_of_le_of_lt (Nat.div_le_self _ _) hd
  unfold RightR
  rw [hk, B0, C0, D0, Nat.add_comm n, Nat.pow_add, ← Nat.div_div_eq_div_mul, show (2 : Nat) ^ 64 = 18446744073709551616 from rfl, skip1 a b c d ha, core3 b c d n hn, v4_n3]
  refine ⟨u64_nat B1, u64_nat C1, u64_nat D1, u64_zero, rfl⟩
theorem right_of2 (a b c d n : Nat) (k : Int) (hk : clampK k = n + 128) (hn : n < 64) (ha : a < 18446744073709551616) (hb : b < 18446744073709551616) (hc : c < 18446744073709551616) (hd : d < 18446744073709551616) :
    RightR a b c d k (rw1 c d n) (rw0 d n) 0 0 := by
  have D0 := rw0_nat d n
  obtain ⟨C0, C1⟩ := rw1_nat c d n hc hn
  have D1 : d / 2 ^ n < 18446744073709551616 := Nat.lt_of_le_of_lt (Nat.div_le_self _ _) hd
  unfold RightR
  rw [hk, C0, D0, Nat.add_comm n, Nat.pow_add, ← Nat.div_div_eq_div_mul, show (2 : Nat) ^ 128 = 340282366920938463463374607431768211456 from rfl, skip2 a b c d ha hb, core2 c d n hn, v4_n2]
  refine ⟨u64_nat C1, u64_nat D1, u64_zero, u64_zero, rfl⟩
theorem right_of3 (a b c d n : Nat) (k : Int) (hk : clampK k = n + 192) (_hn : n < 64) (ha : a < 18446744073709551616) (hb : b < 18446744073709551616) (hc : c < 18446744073709551616) (hd : d < 18446744073709551616) :
    RightR a b c d k (rw0 d n) 0 0 0 := by
  have D0 := rw0_nat d n
  have D1 : d / 2 ^ n < 18446744073709551616 := Nat.lt_of_le_of_lt (Nat.div_le_self _ _) hd
  unfold RightR
  rw [hk, D0, Nat.add_comm n, Nat.pow_add, ← Nat.div_div_eq_div_mul, show (2 : Nat) ^ 192 = 6277101735386680763835789423207666416102355444464034512896 from rfl, skip3 a b c d ha hb hc, core1 d n, v4_n1]
  refine ⟨u64_nat D1, u64_zero, u64_zero, u64_zero, rfl⟩
theorem right_of4 (a b c d n : Nat) (k : Int) (hk : clampK k = n + 256) (ha : a < 18446744073709551616) (hb : b < 18446744073709551616) (hc : c < 18446744073709551616) (hd : d < 18446744073709551616) :
    RightR a b c d k 0 0 0 0 := by
  unfold RightR
  rw [hk, Nat.add_comm n, Nat.pow_add, ← Nat.div_div_eq_div_mul, show (2 : Nat) ^ 256 = 115792089237316195423570985008687907853269984665640564039457584007913129639936 from rfl, skip4 a b c d ha hb hc hd, Nat.zero_div, v4_n0]
  refine ⟨u64_zero, u64_zero, u64_zero, u64_zero, rfl⟩

theorem right_of (a b c d k s r : Int) (h : ShiftR k s r) (ha : U64 a) (hb : U64 b) (hc : U64 c) (hd : U64 d) :
    (s = 0 → RightR a b c d k (rw1 a b r) (rw1 b c r) (rw1 c d r) (rw0 d r)) ∧ (s = 1 → RightR a b c d k (rw1 b c r) (rw1 c d r) (rw0 d r) 0) ∧
    (s = 2 → RightR a b c d k (rw1 c d r) (rw0 d r) 0 0) ∧ (s = 3 → RightR a b c d k (rw0 d r) 0 0 0) ∧ (s = 4 → RightR a b c d k 0 0 0 0) := by
  have hk := clamp_split h
  obtain ⟨-, hs0, hs4, hr0, hr1⟩ := h
  obtain ⟨ha0, ha1⟩ := ha
  obtain ⟨hb0, hb1⟩ := hb
  obtain ⟨hc0, hc1⟩ := hc
  obtain ⟨hd0, hd1⟩ := hd
  obtain ⟨n, rfl⟩ := Int.eq_ofNat_of_zero_le hr0
  obtain ⟨a, rfl⟩ := Int.eq_ofNat_of_zero_le ha0
  obtain ⟨b, rfl⟩ := Int.eq_ofNat_of_zero_le hb0
  obtain ⟨c, rfl⟩ := Int.eq_ofNat_of_zero_le hc0
  obtain ⟨d, rfl⟩ := Int.eq_ofNat_of_zero_le hd0
  refine ⟨fun e => right_of0 a b c d n k ?_ ?_ ?_ ?_ ?_ ?_, fun e => right_of1 a b c d n k ?_ ?_ ?_ ?_ ?_ ?_, fun e => right_of2 a b c d n k ?_ ?_ ?_ ?_ ?_ ?_, fun e => right_of3 a b c d n k ?_ ?_ ?_ ?_ ?_ ?_, fun e => right_of4 a b c d n k ?_ ?_ ?_ ?_ ?_⟩
  all_goals omega
end Go.Proofs.Ytakofbkbbmpfeaa
