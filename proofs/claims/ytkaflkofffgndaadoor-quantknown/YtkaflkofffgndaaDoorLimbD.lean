/- Contracts: Bits, words. -/
import Derived.Test.YtkaflkofffgndaaDoorLimbC
namespace Go.Proofs.YtkaflkofffgndaaDoor
open Go.RowKit

theorem bits_shift {hi lo s n : Nat} (hl : lo < 2 ^ s) (h0 : 0 < hi) (h : BitsN hi n) : BitsN (lo + hi * 2 ^ s) (s + n) ∧ 0 < n := by
  obtain ⟨h1, h2⟩ := h
  have hn : 0 < n := by
    rcases Nat.eq_zero_or_pos n with c | c
    · subst c; simp at h1; omega
    · exact c
  refine ⟨⟨?_, fun _ => ?_⟩, hn⟩
  · rw [Nat.pow_add]
    have : (hi + 1) * 2 ^ s ≤ 2 ^ n * 2 ^ s := Nat.mul_le_mul_right _ h1
    rw [Nat.add_mul, Nat.one_mul] at this
    rw [Nat.mul_comm (2 ^ s)]
    omega
  · have e : s + n - 1 = (n - 1) + s := by omega
    rw [e, Nat.pow_add]
    have := Nat.mul_le_mul_right (2 ^ s) (h2 hn)
    omega
theorem u64_toNat {a : Int} (h : U64 a) : a.toNat < 2 ^ 64 := by unfold U64 at h; omega
theorem bits_d {a b c d : Int} {n : Nat} (ha : U64 a) (hb : U64 b) (hc : U64 c) (hd : U64 d) (h : d ≠ 0) (hn : BitsN d.toNat n) : BitsN (v4 a b c d) (192 + n) := by
  have := (bits_shift (hi := d.toNat) (lo := v2 a b + c.toNat * 340282366920938463463374607431768211456) (s := 192) (by unfold v2 U64 at *; omega) (by unfold U64 at *; omega) hn).1
  have e : v4 a b c d = v2 a b + c.toNat * 340282366920938463463374607431768211456 + d.toNat * 2 ^ 192 := by unfold v4 v2; omega
  rw [e]; exact this
theorem bits_cc {a b c d : Int} {n : Nat} (ha : U64 a) (hb : U64 b) (hc : U64 c) (hd : d = 0) (h : c ≠ 0) (hn : BitsN c.toNat n) : BitsN (v4 a b c d) (128 + n) := by
  have := (bits_shift (hi := c.toNat) (lo := v2 a b) (s := 128) (by unfold v2 U64 at *; omega) (by unfold U64 at *; omega) hn).1
  have e : v4 a b c d = v2 a b + c.toNat * 2 ^ 128 := by unfold v4 v2; omega
  rw [e]; exact this
theorem bits_b {a b c d : Int} {n : Nat} (ha : U64 a) (hb : U64 b) (hc : c = 0) (hd : d = 0) (h : b ≠ 0) (hn : BitsN b.toNat n) : BitsN (v4 a b c d) (64 + n) := by
  have := (bits_shift (hi := b.toNat) (lo := a.toNat) (s := 64) (by unfold U64 at *; omega) (by unfold U64 at *; omega) hn).1
  have e : v4 a b c d = a.toNat + b.toNat * 2 ^ 64 := by unfold v4 v2; omega
  rw [e]; exact this
theorem bits_a {a b c d : Int} {n : Nat} (hb : b = 0) (hc : c = 0) (hd : d = 0) (hn : BitsN a.toNat n) : BitsN (v4 a b c d) n := by
  have e : v4 a b c d = a.toNat := by unfold v4 v2; omega
  rw [e]; exact hn
theorem bits_none {a b c d : Int} (ha : a = 0) (hb : b = 0) (hc : c = 0) (hd : d = 0) : BitsN (v4 a b c d) 0 := by
  subst ha hb hc hd; simp [BitsN, v4, v2]

set_option maxHeartbeats 800000 in
theorem bits_c (a b c d : Int) (w : World) (ha : U64 a) (hb : U64 b) (hc : U64 c) (hd : U64 d) :
    Calls Tryd.prog 44 #[.agg #[.int .u64 a, .int .u64 b, .int .u64 c, .int .u64 d]] w (Ret w (IsBits (v4 a b c d))) := by
  by_cases h3 : d = 0
  · have g3 : (d != 0) = false := by simp [h3]
    by_cases h2 : c = 0
    · have g2 : (c != 0) = false := by simp [h2]
      by_cases h1 : b = 0
      · have g1 : (b != 0) = false := by simp [h1]
        by_cases h0 : a = 0
        · have g0 : (a != 0) = false := by simp [h0]
          have H := bits_none h0 h1 h2 h3
          clear h0 h1 h2 h3
          go_enter Tryd.func44, Tryd.ntmps44
          go_wp2
          refine wp_loop_rounds 5 ?_
          iterate 5 (rw [rounds_succ]; go_wp2)
          go_ret
          exact ⟨_, ⟨0, by omega, H, rfl⟩, rfl, (Below.refl _ _).alloc (Nat.le_refl _) _⟩
        · have g0 : (a != 0) = true := by simp [h0]
          have H := fun n => bits_a (a := a) (n := n) h1 h2 h3
          have H' := Lib.hid H
          clear h0 h1 h2 h3 H
          go_enter Tryd.func44, Tryd.ntmps44
          go_wp2
          refine wp_loop_rounds 4 ?_
          iterate 3 (rw [rounds_succ]; go_wp2)
          rw [rounds_succ]
          go_wp2_with fail
          refine (bitsOfWord_c a _ ha).mono ?_
          rintro e w1 ⟨n, ⟨hn, hq⟩, rfl, rfl⟩
          have HH := H'.out n hq
          go_wp2
          go_ret
          exact ⟨_, ⟨n, by omega, HH, by go_num⟩, rfl, (Below.refl _ _).alloc (Nat.le_refl _) _⟩
      · have g1 : (b != 0) = true := by simp [h1]
        have H := fun n => bits_b (a := a) (n := n) ha hb h2 h3 h1
        have H' := Lib.hid H
        clear h1 h2 h3 H
        go_enter Tryd.func44, Tryd.ntmps44
        go_wp2
        refine wp_loop_rounds 3 ?_
        iterate 2 (rw [rounds_succ]; go_wp2)
        rw [rounds_succ]
        go_wp2_with fail
        refine (bitsOfWord_c b _ hb).mono ?_
        rintro e w1 ⟨n, ⟨hn, hq⟩, rfl, rfl⟩
        have HH := H'.out n hq
        go_wp2
        go_ret
        exact ⟨_, ⟨64 + n, by omega, HH, by go_num⟩, rfl, (Below.refl _ _).alloc (Nat.le_refl _) _⟩
    · have g2 : (c != 0) = true := by simp [h2]
      have H := fun n => bits_cc (a := a) (n := n) ha hb hc h3 h2
      have H' := Lib.hid H
      clear h2 h3 H
      go_enter Tryd.func44, Tryd.ntmps44
      go_wp2
      refine wp_loop_rounds 2 ?_
      rw [rounds_succ]
      go_wp2
      rw [rounds_succ]
      go_wp2_with fail
      refine (bitsOfWord_c c _ hc).mono ?_
      rintro e w1 ⟨n, ⟨hn, hq⟩, rfl, rfl⟩
      have HH := H'.out n hq
      go_wp2
      go_ret
      exact ⟨_, ⟨128 + n, by omega, HH, by go_num⟩, rfl, (Below.refl _ _).alloc (Nat.le_refl _) _⟩
  · have g3 : (d != 0) = true := by simp [h3]
    have H := fun n => bits_d (n := n) ha hb hc hd h3
    have H' := Lib.hid H
    clear h3 H
    go_enter Tryd.func44, Tryd.ntmps44
    go_wp2
    refine wp_loop_rounds 1 ?_
    rw [rounds_succ]
    go_wp2_with fail
    refine (bitsOfWord_c d _ hd).mono ?_
    rintro e w1 ⟨n, ⟨hn, hq⟩, rfl, rfl⟩
    have HH := H'.out n hq
    go_wp2
    go_ret
    exact ⟨_, ⟨192 + n, by omega, HH, by go_num⟩, rfl, (Below.refl _ _).alloc (Nat.le_refl _) _⟩

theorem join_w (x y : Int) (hx : U32 x) (hy : U32 y) : bits BinOp.or IntKind.u64 (IntKind.u64.wrap x) (IntKind.u64.wrap (IntKind.u64.wrap y * 4294967296)) = x + y * 4294967296 := by
  obtain ⟨h1, h2⟩ := hx
  obtain ⟨h3, h4⟩ := hy
  obtain ⟨a, rfl⟩ := Int.eq_ofNat_of_zero_le h1
  obtain ⟨b, rfl⟩ := Int.eq_ofNat_of_zero_le h3
  have e1 : IntKind.u64.wrap (a : Int) = (a : Int) := by rw [IntKind.wrap_u64]; omega
  have e2 : IntKind.u64.wrap (IntKind.u64.wrap (b : Int) * 4294967296) = ((b * 4294967296 : Nat) : Int) := by rw [IntKind.wrap_u64, IntKind.wrap_u64]; omega
  rw [e1, e2, u64_or_nat _ _ (by omega) (by omega), Nat.or_comm, nat_join 32 _ _ (by omega) (by omega)]
  omega
def IsAgg4 (Q : Int → Int → Int → Int → Prop) (v : Value) : Prop := ∃ a b c d : Int, Q a b c d ∧ v = .agg #[.int .u64 a, .int .u64 b, .int .u64 c, .int .u64 d]
def WordsR (h0 h1 h2 h3 h4 h5 h6 h7 a b c d : Int) : Prop := U64 a ∧ U64 b ∧ U64 c ∧ U64 d ∧ a = h0 + h1 * 4294967296 ∧ b = h2 + h3 * 4294967296 ∧ c = h4 + h5 * 4294967296 ∧ d = h6 + h7 * 4294967296

set_option maxHeartbeats 800000 in
theorem words_c (h0 h1 h2 h3 h4 h5 h6 h7 : Int) (w : World) (u0 : U32 h0) (u1 : U32 h1) (u2 : U32 h2) (u3 : U32 h3) (u4 : U32 h4) (u5 : U32 h5) (u6 : U32 h6) (u7 : U32 h7) :
    Calls Tryd.prog 31 #[.agg #[.int .u32 h0, .int .u32 h1, .int .u32 h2, .int .u32 h3, .int .u32 h4, .int .u32 h5, .int .u32 h6, .int .u32 h7]] w (Ret w (IsAgg4 (WordsR h0 h1 h2 h3 h4 h5 h6 h7))) := by
  have H : WordsR h0 h1 h2 h3 h4 h5 h6 h7 (bits BinOp.or IntKind.u64 (IntKind.u64.wrap h0) (IntKind.u64.wrap (IntKind.u64.wrap h1 * 4294967296))) (bits BinOp.or IntKind.u64 (IntKind.u64.wrap h2) (IntKind.u64.wrap (IntKind.u64.wrap h3 * 4294967296))) (bits BinOp.or IntKind.u64 (IntKind.u64.wrap h4) (IntKind.u64.wrap (IntKind.u64.wrap h5 * 4294967296))) (bits BinOp.or IntKind.u64 (IntKind.u64.wrap h6) (IntKind.u64.wrap (IntKind.u64.wrap h7 * 4294967296))) := by
    rw [join_w _ _ u0 u1, join_w _ _ u2 u3, join_w _ _ u4 u5, join_w _ _ u6 u7]
    unfold WordsR U64
    unfold U32 at *
    omega
  clear u0 u1 u2 u3 u4 u5 u6 u7
  go_enter Tryd.func31, Tryd.ntmps31
  go_wp2
  refine wp_loop_rounds 5 ?_
  iterate 4 (rw [rounds_succ]; go_wp2; go_region; go_wp2)
  rw [rounds_succ]
  go_wp2
  exact bodyPost_ret (v := .agg #[_, _, _, _]) (by simp [results, Tryd.results31, go_sem]) rfl ⟨_, ⟨_, _, _, _, H, rfl⟩, rfl, (((((((Below.refl _ _).alloc (Nat.le_refl _) _).alloc (by simp) _)).alloc (by simp; omega) _).drew.drew).drew).drew⟩

end Go.Proofs.YtkaflkofffgndaaDoor
