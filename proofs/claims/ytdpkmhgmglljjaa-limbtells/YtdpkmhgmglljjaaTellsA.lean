/- LimbTells: facts. -/
import Derived.Test.YtdpkmhgmglljjaaRefO
namespace Go.Proofs.Ytdpkmhgmglljjaa
open Go.RowKit

theorem v2_40 {a b : Int} (ha : U64 a) (hb : U64 b) : v2 a b < 10 ^ 40 := by unfold U64 v2 at *; omega
theorem v2_41 {a b c d : Int} (ha : U64 a) (hb : U64 b) (hc : U64 c) (hd : U64 d) : v2 a b + v2 c d < 10 ^ 41 := by unfold U64 v2 at *; omega
theorem add_same {x0 x1 y0 y1 s0 s1 t0 t1 : Int} {p q : Bool} (h : AddR x0 x1 y0 y1 s0 s1 p) (g : W2R (v2 x0 x1 + v2 y0 y1) t0 t1 q) : s0 = t0 ∧ s1 = t1 ∧ p = q := by
  obtain ⟨h0, h1, ⟨hl, rfl, e⟩ | ⟨hl, rfl, rfl, rfl⟩⟩ := h
  · rcases g with ⟨_, rfl, g0, g1, f⟩ | ⟨hl2, _⟩
    · obtain ⟨a, b⟩ := v2_inj h0 h1 g0 g1 (e.trans f.symm)
      exact ⟨a, b, rfl⟩
    · omega
  · rcases g with ⟨hl2, _⟩ | ⟨_, rfl, rfl, rfl⟩
    · omega
    · exact ⟨rfl, rfl, rfl⟩
theorem cmp_k (x0 x1 y0 y1 c : Int) (w : World) (h : cmpI (v2 x0 x1) (v2 y0 y1) = c) (hx0 : U64 x0) (hx1 : U64 x1) (hy0 : U64 y0) (hy1 : U64 y1) :
    Calls Try.prog 19 #[.agg #[.int .u64 x0, .int .u64 x1], .agg #[.int .u64 y0, .int .u64 y1]] w (Ret w (IsInt c)) := by
  have C := cmp_c x0 x1 y0 y1 w hx0 hx1 hy0 hy1
  rwa [h] at C
theorem cmpNat_k (A B : Option Addr) (n m ca cb : Nat) (a b : List Nat) (M N : Nat) (c : Int) (w : World) (ha : DigC w A n ca a) (hb : DigC w B m cb b) (na : Norm a) (nb : Norm b) (ea : dv a = M) (eb : dv b = N) (h : cmpI M N = c) :
    Calls Try.prog 26 #[.slice A n ca, .slice B m cb] w (Ret w (IsInt c)) := by
  have C := cmpNat_c A B n m ca cb a b w ha hb na nb
  rwa [ea, eb, h] at C
theorem mul_same {x0 x1 y0 y1 c0 c1 c2 c3 e0 e1 e2 e3 : Int} (h : MulR x0 x1 y0 y1 c0 c1 c2 c3) (g : W4R (v2 x0 x1 * v2 y0 y1) e0 e1 e2 e3) : e0 = c0 ∧ e1 = c1 ∧ e2 = c2 ∧ e3 = c3 := by
  obtain ⟨h0, h1, h2, h3, e⟩ := h
  obtain ⟨g0, g1, g2, g3, f⟩ := g
  rw [← e, Nat.mod_eq_of_lt (v4_lt h0 h1 h2 h3)] at f
  exact v4_inj g0 g1 g2 g3 h0 h1 h2 h3 f
theorem mul_80 {a b c d : Int} (ha : U64 a) (hb : U64 b) (hc : U64 c) (hd : U64 d) : v2 a b * v2 c d < 10 ^ 160 :=
  mul160 (Nat.lt_trans (v2_40 ha hb) (by decide)) (Nat.lt_trans (v2_40 hc hd) (by decide))
theorem div_same {a b c d b0 b1 q0 q1 q2 q3 r0 r1 e0 e1 e2 e3 : Int} (h : DivR a b c d b0 b1 q0 q1 q2 q3 r0 r1 true) (ha : U64 a) (hb : U64 b) (hc : U64 c) (hd : U64 d) (g : W4R (v4 a b c d / v2 b0 b1) e0 e1 e2 e3) : q0 = e0 ∧ q1 = e1 ∧ q2 = e2 ∧ q3 = e3 := by
  rcases h with ⟨_, h, _⟩ | ⟨_, _, h0, h1, h2, h3, _, _, e, _⟩
  · cases h
  · obtain ⟨g0, g1, g2, g3, f⟩ := g
    rw [Nat.mod_eq_of_lt (Nat.lt_of_le_of_lt (Nat.div_le_self _ _) (v4_lt ha hb hc hd)), ← e] at f
    exact v4_inj h0 h1 h2 h3 g0 g1 g2 g3 f.symm
theorem tenNat_k (k : Int) (m : Nat) (h : k = m) (hm : m ≤ 1000) (w : World) : Calls Try.prog 32 #[.int .i64 k] w (RetN w (10 ^ m)) := by
  subst h
  exact tenNat_c m hm w
theorem div_rem {a b c d b0 b1 q0 q1 q2 q3 r0 r1 : Int} (h : DivR a b c d b0 b1 q0 q1 q2 q3 r0 r1 true) : (U64 r0 ∧ U64 r1) ∧ cmpI (v2 r0 r1) (v4 a b c d % v2 b0 b1) = 0 ∧ 0 < v2 b0 b1 := by
  rcases h with ⟨_, h, _⟩ | ⟨hp, _, _, _, _, _, h4, h5, _, f⟩
  · cases h
  · exact ⟨⟨h4, h5⟩, cmpI_eq f, hp⟩
theorem div_ok {a b c d b0 b1 q0 q1 q2 q3 r0 r1 : Int} {p : Bool} {n : Nat} {w : World} {A : Option Addr} {cap : Nat} {ds : List Nat} (h : DivR a b c d b0 b1 q0 q1 q2 q3 r0 r1 p) (hd : DigC w A n cap ds) (hn : Norm ds) (e : dv ds = v2 b0 b1) : (p = true ∧ 0 < n) ∨ (p = false ∧ n = 0) := by
  rcases h with ⟨hz, rfl, _⟩ | ⟨hp, rfl, _⟩
  · right
    refine ⟨rfl, ?_⟩
    have := lenA (k := 0) hd hn (by rw [e, hz]; decide)
    omega
  · left
    refine ⟨rfl, ?_⟩
    rcases Nat.eq_zero_or_pos n with h0 | h0
    · have h1 := hd.1
      rw [h0] at h1
      rw [List.eq_nil_of_length_eq_zero h1] at e
      simp [dv] at e
      omega
    · exact h0
theorem short_3 {a b c d s0 s1 : Int} {p : Bool} (h : ShortR a b c d s0 s1 p) : (p = true ∧ c = 0 ∧ d = 0 ∧ s0 = a ∧ s1 = b) ∨ (p = false ∧ c ≠ 0 ∧ s0 = 0 ∧ s1 = 0) ∨ (p = false ∧ c = 0 ∧ d ≠ 0 ∧ s0 = 0 ∧ s1 = 0) := by
  rcases h with ⟨⟨h1, h2⟩, h3, h4, h5⟩ | ⟨hn, h3, h4, h5⟩
  · exact Or.inl ⟨h3, h1, h2, h4, h5⟩
  · by_cases hc : c = 0
    · exact Or.inr (Or.inr ⟨h3, hc, fun hd => hn ⟨hc, hd⟩, h4, h5⟩)
    · exact Or.inr (Or.inl ⟨h3, hc, h4, h5⟩)
theorem ten_3 {k : Int} {s0 s1 : Int} {p : Bool} (h : TenR k s0 s1 p) : U64 s0 ∧ U64 s1 ∧ ((p = true ∧ ∃ j : Nat, k = j ∧ j ≤ 38 ∧ v2 s0 s1 = 10 ^ j) ∨ (p = false ∧ k < 0) ∨ (p = false ∧ 38 < k)) := by
  obtain ⟨u0, u1, ⟨h0, h1, h2, h3⟩ | ⟨hn, h2, _⟩⟩ := h
  · exact ⟨u0, u1, Or.inl ⟨h2, k.toNat, by omega, by omega, h3⟩⟩
  · refine ⟨u0, u1, Or.inr ?_⟩
    by_cases h : k < 0
    · exact Or.inl ⟨h2, h⟩
    · exact Or.inr ⟨h2, by omega⟩
theorem bits_ex4 (a b c d : Int) : ∃ n, BitsN (v4 a b c d) n := by
  rcases Nat.eq_zero_or_pos (v4 a b c d) with h | h
  · exact ⟨0, by rw [h]; simp [BitsN]⟩
  · exact ⟨_, bitsN_log _ (by omega)⟩
theorem right_ex {a b c d : Int} (k : Int) (ha : U64 a) (hb : U64 b) (hc : U64 c) (hd : U64 d) : ∃ x y z u : Int, RightR a b c d k x y z u := by
  obtain ⟨x, y, z, u, h0, h1, h2, h3, e⟩ := words_ex (v4 a b c d / 2 ^ clampK k) (Nat.lt_of_le_of_lt (Nat.div_le_self _ _) (v4_lt ha hb hc hd))
  exact ⟨x, y, z, u, h0, h1, h2, h3, e⟩
theorem right_u4 (a b c d k l0 l1 l2 l3 : Int) (w : World) (ha : U64 a) (hb : U64 b) (hc : U64 c) (hd : U64 d) (h : RightR a b c d k l0 l1 l2 l3) :
    Calls Try.prog 17 #[.agg #[.int .u64 a, .int .u64 b, .int .u64 c, .int .u64 d], .int .i64 k] w (Ret w (· = .agg #[.int .u64 l0, .int .u64 l1, .int .u64 l2, .int .u64 l3])) :=
  (right_c a b c d k w ha hb hc hd).mono fun _ _ ⟨_, ⟨x, y, z, u, hm, hv⟩, he, hw⟩ => by
    obtain ⟨h0, h1, h2, h3, e⟩ := h
    obtain ⟨g0, g1, g2, g3, f⟩ := hm
    obtain ⟨rfl, rfl, rfl, rfl⟩ := v4_inj h0 h1 h2 h3 g0 g1 g2 g3 (e.trans f.symm)
    exact ⟨_, hv, he, hw⟩
theorem refLeft_u (a b c d k l0 l1 l2 l3 : Int) (w : World) (ha : U64 a) (hb : U64 b) (hc : U64 c) (hd : U64 d) (h : LeftR a b c d k l0 l1 l2 l3) :
    Calls Try.prog 33 #[.agg #[.int .u64 a, .int .u64 b, .int .u64 c, .int .u64 d], .int .i64 k] w (Ret w (· = .agg #[.int .u64 l0, .int .u64 l1, .int .u64 l2, .int .u64 l3])) :=
  (refLeft_c a b c d k w ha hb hc hd).mono fun _ _ ⟨_, ⟨x, y, z, u, hm, hv⟩, he, hw⟩ => by
    obtain ⟨h0, h1, h2, h3, e⟩ := h
    obtain ⟨g0, g1, g2, g3, f⟩ := hm
    obtain ⟨rfl, rfl, rfl, rfl⟩ := v4_inj h0 h1 h2 h3 g0 g1 g2 g3 (e.trans f.symm)
    exact ⟨_, hv, he, hw⟩
theorem refRight_u (a b c d k l0 l1 l2 l3 : Int) (w : World) (ha : U64 a) (hb : U64 b) (hc : U64 c) (hd : U64 d) (h : RightR a b c d k l0 l1 l2 l3) :
    Calls Try.prog 34 #[.agg #[.int .u64 a, .int .u64 b, .int .u64 c, .int .u64 d], .int .i64 k] w (Ret w (· = .agg #[.int .u64 l0, .int .u64 l1, .int .u64 l2, .int .u64 l3])) :=
  (refRight_c a b c d k w ha hb hc hd).mono fun _ _ ⟨_, ⟨x, y, z, u, hm, hv⟩, he, hw⟩ => by
    obtain ⟨h0, h1, h2, h3, e⟩ := h
    obtain ⟨g0, g1, g2, g3, f⟩ := hm
    obtain ⟨rfl, rfl, rfl, rfl⟩ := v4_inj h0 h1 h2 h3 g0 g1 g2 g3 (e.trans f.symm)
    exact ⟨_, hv, he, hw⟩
theorem refBits_u (a b c d : Int) (n : Nat) (w : World) (ha : U64 a) (hb : U64 b) (hc : U64 c) (hd : U64 d) (h : BitsN (v4 a b c d) n) :
    Calls Try.prog 35 #[.agg #[.int .u64 a, .int .u64 b, .int .u64 c, .int .u64 d]] w (Ret w (IsInt n)) :=
  (refBits_c a b c d w ha hb hc hd).mono fun _ _ ⟨_, ⟨m, _, hm, hv⟩, he, hw⟩ => ⟨_, by rw [hv, bitsN_unique hm h]; rfl, he, hw⟩
/-- x, y and w lie there. -/
def B3 (w : World) (gx gy gw : Nat) (x0 x1 y0 y1 z : Int) (wx : World) : Prop := HB w [(gw, 27, #[.int .u64 x0, .int .u64 x1, .int .u64 y0, .int .u64 z]), (gy, 23, #[.int .u64 y0, .int .u64 y1]), (gx, 23, #[.int .u64 x0, .int .u64 x1])] wx
theorem b3Mk {w : World} {gx gy gw : Nat} {x0 x1 y0 y1 z : Int} {wx : World} (h : B3 w gx gy gw x0 x1 y0 y1 z wx) : B3 w gx gy gw x0 x1 y0 y1 z wx ∧
    (wx.cell? ⟨gw, 0, none⟩ = some (.int .u64 x0) ∧ wx.cell? ⟨gw, 1, none⟩ = some (.int .u64 x1) ∧ wx.cell? ⟨gw, 2, none⟩ = some (.int .u64 y0) ∧ wx.cell? ⟨gw, 3, none⟩ = some (.int .u64 z)) ∧ (wx.cell? ⟨gx, 0, none⟩ = some (.int .u64 x0) ∧ wx.cell? ⟨gx, 1, none⟩ = some (.int .u64 x1)) :=
  ⟨h, (HB.four (t := 27) h (by simp)).2, (HB.two (t := 23) h (by simp)).2⟩
end Go.Proofs.Ytdpkmhgmglljjaa
