/- Package dec: contracts at decimals that are right and small. -/
/- Package dec: contracts at small decimals: sizeAt, bothAt, difference, Mul, Add, Sub, Cmp. -/
/- Package dec: contracts at small decimals: difference, Mul, Add. -/
/- Package dec: contracts at small decimals: Add, cmpSize, Cmp. -/
/- Package dec: contracts at small decimals: cmpSize, Cmp. -/
import Derived.Test.YtakofbkbbmpfeaaDecA
import Derived.Test.YtakofbkbbmpfeaaRefE
import Derived.Shelf.Small.Wraps
namespace Go.Proofs.Ytakofbkbbmpfeaa
open Go.RowKit

/-- The words of a decimal whose number, with its sign, is z. -/
def DecIs (n : Bool) (a b z : Int) : Prop := n = decide (z < 0) ∧ U64 a ∧ U64 b ∧ v2 a b = z.natAbs
def Sm (z : Int) : Prop := z.natAbs < 100000000000000000000
def IsDec (z s : Int) (v : Value) : Prop := ∃ (n : Bool) (a b : Int), DecIs n a b z ∧ v = .agg #[.bool n, .int .u64 a, .int .u64 b, .int .i64 s]
def IsDecE (z s e : Int) (v : Value) : Prop := ∃ (n : Bool) (a b : Int), DecIs n a b z ∧ v = .tuple #[.agg #[.bool n, .int .u64 a, .int .u64 b, .int .i64 s], .int .i64 e]
theorem decIs_right {n : Bool} {a b z s : Int} (h : DecIs n a b z) (hz : z.natAbs < 1000000000000000000000000000000) (h0 : 0 ≤ s) (h9 : s ≤ 9) : RightD n a b s := by
  obtain ⟨rfl, _, _, e⟩ := h
  refine ⟨by omega, h0, h9, ?_⟩
  rintro ⟨d, e2⟩
  simp at d
  omega
theorem decV_is {z s : Int} (hz : z.natAbs < 1000000000000000000000000000000) : ∃ (n : Bool) (a b : Int), DecIs n a b z ∧ decV z s = .agg #[.bool n, .int .u64 a, .int .u64 b, .int .i64 s] := by
  refine ⟨_, _, _, ⟨rfl, ?_, ?_, ?_⟩, rfl⟩
  · unfold U64; omega
  · unfold U64; omega
  · unfold v2; rw [Int.toNat_natCast, Int.toNat_natCast]; omega
theorem right_d (n : Bool) (a b s z : Int) (w : World) (h : DecIs n a b z) (hz : z.natAbs < 1000000000000000000000000000000) (h0 : 0 ≤ s) (h9 : s ≤ 9) :
    Calls Try.prog 72 #[.agg #[.bool n, .int .u64 a, .int .u64 b, .int .i64 s]] w (Ret w (IsBool true)) := by
  have C := right_c n a b s w h.2.1 h.2.2.1
  have e : decide (RightD n a b s) = true := by simp [decIs_right h hz h0 h9]
  rwa [e] at C
theorem sgn_is {n : Bool} {a b z : Int} (h : DecIs n a b z) : DecIs (sgn (!n) a b) a b (-z) := by
  obtain ⟨rfl, h0, h1, e⟩ := h
  refine ⟨?_, h0, h1, by rw [e]; omega⟩
  rw [sgn, eqW2_0 h0 h1, e]
  by_cases hz : z < 0
  · have : decide (-z < 0) = false := by simp; omega
    rw [this]; simp [hz]
  · by_cases h0 : z = 0
    · subst h0; simp
    · have : decide (-z < 0) = true := by simp; omega
      rw [this]; simp [h0]; omega
theorem bel4 {B g : Nat} {w w' : World} {a b c d : Value} (h : Below B w w') (hg : B ≤ g) : Below B w ((((w'.setCell ⟨g, 0, none⟩ a).setCell ⟨g, 1, none⟩ b).setCell ⟨g, 2, none⟩ c).setCell ⟨g, 3, none⟩ d) :=
  (((h.setCell (p := ⟨g, 0, none⟩) hg _).setCell (p := ⟨g, 1, none⟩) hg _).setCell (p := ⟨g, 2, none⟩) hg _).setCell (p := ⟨g, 3, none⟩) hg _
theorem bel2 {B g : Nat} {w w' : World} {a b : Value} (h : Below B w w') (hg : B ≤ g) : Below B w ((w'.setCell ⟨g, 0, none⟩ a).setCell ⟨g, 1, none⟩ b) :=
  (h.setCell (p := ⟨g, 0, none⟩) hg _).setCell (p := ⟨g, 1, none⟩) hg _

theorem sign_3 {n : Bool} {a b z : Int} (h : DecIs n a b z) : (z = 0 ∧ eqW2 a b 0 0 = true) ∨ (z < 0 ∧ n = true ∧ eqW2 a b 0 0 = false) ∨ (0 < z ∧ n = false ∧ eqW2 a b 0 0 = false) := by
  obtain ⟨rfl, h0, h1, e⟩ := h
  rw [eqW2_0 h0 h1, e]
  rcases (show z = 0 ∨ z < 0 ∨ 0 < z by omega) with h | h | h
  · left; subst h; simp
  · right; left; refine ⟨h, by simp [h], by simp; omega⟩
  · right; right; refine ⟨h, by simp; omega, by simp; omega⟩
theorem nsD {w0 w : World} {n : Bool} {a b s : Int} {g : Nat} (h : HB w0 [(g, 49, #[.bool n, .int .u64 a, .int .u64 b, .int .i64 s])] w) : HB w0 [(g, 49, #[.bool n, .int .u64 a, .int .u64 b, .int .i64 s])] w ∧ (w.cell? ⟨g, 0, none⟩ = some (.bool n) ∧ w.cell? ⟨g, 1, none⟩ = some (.int .u64 a) ∧ w.cell? ⟨g, 2, none⟩ = some (.int .u64 b) ∧ w.cell? ⟨g, 3, none⟩ = some (.int .i64 s)) :=
  ⟨h, (HB.dec (t := 49) (g := g) (a := .bool n) (b := .int .u64 a) (c := .int .u64 b) (d := .int .i64 s) h (by simp)).2⟩
set_option maxRecDepth 100000 in
set_option maxHeartbeats 800000 in
theorem sign_d (n : Bool) (a b s z : Int) (w : World) (h : DecIs n a b z) (hz : z.natAbs < 1000000000000000000000000000000) (h0 : 0 ≤ s) (h9 : s ≤ 9) :
    Calls Try.prog 68 #[.agg #[.bool n, .int .u64 a, .int .u64 b, .int .i64 s]] w (Ret w (IsInt z.sign)) := by
  have W := Lib.hid (d1 w n a b s)
  have HZ := Lib.hid hz
  have HH := Lib.hid h
  have H3 := sign_3 h
  clear hz h
  have hsg : ∀ k, z.sign = k → IsInt z.sign (.int .i64 k) := fun k e => by rw [e]; rfl
  have HSG := Lib.hid hsg
  clear hsg
  have HN : (z = 0 ∧ eqW2 a b 0 0 = true ∧ n = n) ∨ (z < 0 ∧ eqW2 a b 0 0 = false ∧ n = true) ∨ (0 < z ∧ eqW2 a b 0 0 = false ∧ n = false) := by
    rcases H3 with ⟨x, y⟩ | ⟨x, y, u⟩ | ⟨x, y, u⟩
    · exact Or.inl ⟨x, y, rfl⟩
    · exact Or.inr (Or.inl ⟨x, u, y⟩)
    · exact Or.inr (Or.inr ⟨x, u, y⟩)
  clear H3
  rcases HN with ⟨hz, hq, hn⟩ | ⟨hz, hq, hn⟩ | ⟨hz, hq, hn⟩
  all_goals
    have HZ3 := Lib.hid hz
    have HN3 := Lib.hid hn
    clear hz hn
    go_enter Try.func68, Try.ntmps68
    go_wp2
    go_region_held3 (fun w' => HB w [(w.heap.size, 49, #[.bool n, .int .u64 a, .int .u64 b, .int .i64 s])] w' ∧ (w'.cell? ⟨w.heap.size, 0, none⟩ = some (.bool n) ∧ w'.cell? ⟨w.heap.size, 1, none⟩ = some (.int .u64 a) ∧ w'.cell? ⟨w.heap.size, 2, none⟩ = some (.int .u64 b) ∧ w'.cell? ⟨w.heap.size, 3, none⟩ = some (.int .i64 s)))
      (first | exact nsD (HB.drew W.out) | exact nsD (keepB hbx (by assumption)))
      (first
        | (go_at_call 72; (with_reducible refine (right_d n a b s z _ HH.out HZ.out h0 h9).mono ?_); rintro e wx ⟨_, rfl, rfl, hbx⟩)
        | (go_at_call 73; (with_reducible refine (of_c 0 _).mono ?_); rintro e wx ⟨_, rfl, rfl, hbx⟩))
    all_goals
      rename_i hHeld
      obtain ⟨hW, q0, q1, q2, q3⟩ := hHeld
      have HB1 := Lib.hid hW.1
      clear hW
      have hn := HN3.out
      try subst hn
      go_wp2
      go_ret
      exact ⟨_, HSG.out _ (by first | exact Int.sign_eq_neg_one_of_neg HZ3.out | exact Int.sign_eq_one_of_pos HZ3.out | (rw [HZ3.out]; rfl)), rfl, HB1.out⟩

end Go.Proofs.Ytakofbkbbmpfeaa

namespace Go.Proofs.Ytakofbkbbmpfeaa
open Go.RowKit

theorem HB.put2 {w0 w : World} {bs bs' : List (Nat × TypeId × Array Value)} {g : Nat} {t : TypeId} {a b a' b' : Value} (h : HB w0 bs w) (hm : (g, t, #[a, b]) ∈ bs) (hg : w0.heap.size ≤ g) (hs : ∀ x ∈ bs', x ∈ bs ∧ x.1 ≠ g) :
    HB w0 ((g, t, #[a', b']) :: bs') ((w.setCell ⟨g, 0, none⟩ a').setCell ⟨g, 1, none⟩ b') := by
  have B := (h.blk hm)
  refine ⟨bel2 h.1 hg, fun x hx => ?_⟩
  rcases List.mem_cons.1 hx with rfl | hx
  · exact (B.set_ 0 a').set_ 1 b'
  · exact ((h.2 x (hs x hx).1).far (p := ⟨g, 0, none⟩) (hs x hx).2 _).far (p := ⟨g, 1, none⟩) (hs x hx).2 _
theorem pow10_9 {k : Nat} (h : k ≤ 9) : 10 ^ k ≤ 1000000000 := by
  have : 10 ^ k ≤ 10 ^ 9 := Nat.pow_le_pow_right (by decide) h
  exact this
theorem sm_mul {z : Int} {k : Nat} (hz : Sm z) (hk : k ≤ 9) : z.natAbs * 10 ^ k < 100000000000000000000000000000 := by
  have h1 := pow10_9 hk
  have h2 : z.natAbs * 10 ^ k ≤ z.natAbs * 1000000000 := Nat.mul_le_mul_left _ h1
  unfold Sm at hz
  omega
/-- A product below 2 to the 128 in its lower words. -/
theorem mul_short {a b x y c0 c1 c2 c3 s0 s1 : Int} {p : Bool} (hm : MulR a b x y c0 c1 c2 c3) (hs : ShortR c0 c1 c2 c3 s0 s1 p) (hl : v2 a b * v2 x y < 340282366920938463463374607431768211456) : p = true ∧ U64 s0 ∧ U64 s1 ∧ v2 s0 s1 = v2 a b * v2 x y := by
  obtain ⟨h0, h1, h2, h3, e⟩ := hm
  rw [← e] at hl ⊢
  obtain ⟨z2, z3, e2⟩ := v4_low h0 h1 h2 h3 hl
  rcases hs with ⟨_, hp, rfl, rfl⟩ | ⟨hn, _⟩
  · exact ⟨hp, h0, h1, e2.symm⟩
  · exact absurd ⟨z2, z3⟩ hn
theorem size_fin {a b x y c0 c1 c2 c3 s0 s1 z : Int} {k : Nat} {p : Bool} (hz : Sm z) (hk : k ≤ 9) (ea : v2 a b = z.natAbs) (ex : v2 x y = 10 ^ k) (hm : MulR a b x y c0 c1 c2 c3) (hs : ShortR c0 c1 c2 c3 s0 s1 p) : p = true ∧ U64 s0 ∧ U64 s1 ∧ v2 s0 s1 = z.natAbs * 10 ^ k := by
  have h := sm_mul hz hk
  have := mul_short hm hs (by rw [ea, ex]; omega)
  rwa [ea, ex] at this
theorem ten_fin {k : Int} {x y : Int} {p : Bool} (h : TenR k x y p) (h0 : 0 ≤ k) (h9 : k ≤ 9) : U64 x ∧ U64 y ∧ v2 x y = 10 ^ k.toNat := by
  obtain ⟨a, b, ⟨_, _, _, e⟩ | ⟨hn, _⟩⟩ := h
  · exact ⟨a, b, e⟩
  · exact absurd ⟨h0, by omega⟩ hn
/-- A number at a greater Scale. -/
def upN (z s t : Int) : Nat := z.natAbs * 10 ^ (t - s).toNat
def IsUp (N : Nat) (v : Value) : Prop := ∃ x y : Int, (U64 x ∧ U64 y ∧ v2 x y = N) ∧ v = .tuple #[.agg #[.int .u64 x, .int .u64 y], .bool true]
def IsUp2 (M N : Nat) (v : Value) : Prop := ∃ x y x' y' : Int, (U64 x ∧ U64 y ∧ v2 x y = M) ∧ (U64 x' ∧ U64 y' ∧ v2 x' y' = N) ∧ v = .tuple #[.agg #[.int .u64 x, .int .u64 y], .agg #[.int .u64 x', .int .u64 y'], .bool true]

end Go.Proofs.Ytakofbkbbmpfeaa

namespace Go.Proofs.Ytakofbkbbmpfeaa
open Go.RowKit

theorem sub_fin {x y x' y' s0 s1 : Int} {p : Bool} (h : SubR x y x' y' s0 s1 p) (hle : v2 x' y' ≤ v2 x y) : p = true ∧ U64 s0 ∧ U64 s1 ∧ v2 s0 s1 = v2 x y - v2 x' y' := by
  obtain ⟨a, b, ⟨_, hp, e⟩ | ⟨hl, _⟩⟩ := h
  · exact ⟨hp, a, b, by omega⟩
  · omega
theorem sub_no {x y x' y' s0 s1 : Int} {p : Bool} (h : SubR x y x' y' s0 s1 p) (hlt : v2 x y < v2 x' y') : p = false := by
  obtain ⟨a, b, ⟨hl, _⟩ | ⟨_, hp, _⟩⟩ := h
  · omega
  · exact hp
theorem isDecE_of {z z' s e : Int} {w : World} {f : FuncId} {args : Array Value} (h : Calls Try.prog f args w (Ret w (IsDecE z s e))) (hz : z = z') : Calls Try.prog f args w (Ret w (IsDecE z' s e)) := by
  subst hz
  exact h

theorem mul_sign {n : Bool} {a b z : Int} {n' : Bool} {a' b' z' : Int} (h : DecIs n a b z) (h' : DecIs n' a' b' z') : zOf (n != n') (z.natAbs * z'.natAbs) = z * z' := by
  obtain ⟨rfl, _⟩ := h
  obtain ⟨rfl, _⟩ := h'
  have e : ((z.natAbs * z'.natAbs : Nat) : Int) = (z.natAbs : Int) * (z'.natAbs : Int) := Int.natCast_mul _ _
  unfold zOf
  rw [e]
  by_cases h1 : z < 0
  · have e1 : (z.natAbs : Int) = -z := by omega
    by_cases h2 : z' < 0
    · have e2 : (z'.natAbs : Int) = -z' := by omega
      rw [e1, e2, decide_eq_true h1, decide_eq_true h2, Int.neg_mul_neg]
      rfl
    · have e2 : (z'.natAbs : Int) = z' := by omega
      rw [e1, e2, decide_eq_true h1, decide_eq_false h2, Int.neg_mul, Int.neg_neg]
      rfl
  · have e1 : (z.natAbs : Int) = z := by omega
    by_cases h2 : z' < 0
    · have e2 : (z'.natAbs : Int) = -z' := by omega
      rw [e1, e2, decide_eq_false h1, decide_eq_true h2, Int.mul_neg, Int.neg_neg]
      rfl
    · have e2 : (z'.natAbs : Int) = z' := by omega
      rw [e1, e2, decide_eq_false h1, decide_eq_false h2]
      rfl

end Go.Proofs.Ytakofbkbbmpfeaa

namespace Go.Proofs.Ytakofbkbbmpfeaa
open Go.RowKit

/-- A decimal's number at a greater Scale, with its sign. -/
def zAt (z s t : Int) : Int := z * ((10 ^ (t - s).toNat : Nat) : Int)
theorem zAt_of {n : Bool} {a b z : Int} (s t : Int) (h : DecIs n a b z) : zAt z s t = zOf n (upN z s t) := by
  obtain ⟨rfl, _⟩ := h
  unfold zAt zOf upN
  rw [Int.natCast_mul]
  generalize ((10 ^ (t - s).toNat : Nat) : Int) = p
  by_cases hz : z < 0
  · rw [decide_eq_true hz, if_pos rfl, show (z.natAbs : Int) = -z by omega, Int.neg_mul, Int.neg_neg]
  · rw [decide_eq_false hz, if_neg (by simp), show (z.natAbs : Int) = z by omega]
theorem zOf_add (n : Bool) (M N : Nat) : zOf n M + zOf n N = zOf n (M + N) := by unfold zOf; cases n <;> simp <;> omega
theorem zOf_ge (n : Bool) (M N : Nat) (h : N ≤ M) : zOf n M + zOf (!n) N = zOf n (M - N) := by unfold zOf; cases n <;> simp <;> omega
theorem zOf_lt (n : Bool) (M N : Nat) (h : M < N) : zOf n M + zOf (!n) N = zOf (!n) (N - M) := by unfold zOf; cases n <;> simp <;> omega
theorem up_lt9 {z s t : Int} (hz : Sm z) (h0 : 0 ≤ s) (h9 : t ≤ 9) : upN z s t < 100000000000000000000000000000 := sm_mul hz (by omega)
theorem add_fin {x y x' y' s0 s1 : Int} {p : Bool} (h : AddR x y x' y' s0 s1 p) (hl : v2 x y + v2 x' y' < 1000000000000000000000000000000) : p = true ∧ U64 s0 ∧ U64 s1 ∧ v2 s0 s1 = v2 x y + v2 x' y' := by
  obtain ⟨a, b, ⟨_, hp, e⟩ | ⟨hl2, _⟩⟩ := h
  · exact ⟨hp, a, b, e⟩
  · omega
theorem sm_30 {z : Int} (h : Sm z) : z.natAbs < 1000000000000000000000000000000 := by unfold Sm at h; omega

end Go.Proofs.Ytakofbkbbmpfeaa

namespace Go.Proofs.Ytakofbkbbmpfeaa
open Go.RowKit

def cmpZ (x y : Int) : Int := if x = y then 0 else if x < y then -1 else 1

theorem up_sign (z s t : Int) : (0 < z ∧ zAt z s t = (upN z s t : Int) ∧ 0 < upN z s t) ∨ (z = 0 ∧ zAt z s t = 0 ∧ upN z s t = 0) ∨ (z < 0 ∧ zAt z s t = -(upN z s t : Int) ∧ 0 < upN z s t) := by
  unfold zAt upN
  rw [Int.natCast_mul]
  have hp : 0 < 10 ^ (t - s).toNat := Nat.pow_pos (by decide)
  generalize 10 ^ (t - s).toNat = p at *
  rcases (show 0 < z ∨ z = 0 ∨ z < 0 by omega) with h | h | h
  · left
    refine ⟨h, ?_, Nat.mul_pos (by omega) hp⟩
    rw [show (z.natAbs : Int) = z by omega]
  · right; left
    subst h
    simp
  · right; right
    refine ⟨h, ?_, Nat.mul_pos (by omega) hp⟩
    rw [show (z.natAbs : Int) = -z by omega, Int.neg_mul, Int.neg_neg]
theorem sign_pos {z : Int} (h : 0 < z) : z.sign = 1 := Int.sign_eq_one_of_pos h
theorem sign_neg {z : Int} (h : z < 0) : z.sign = -1 := Int.sign_eq_neg_one_of_neg h
theorem cmpZ_cases (x y : Int) : (x < y ∧ cmpZ x y = -1) ∨ (x = y ∧ cmpZ x y = 0) ∨ (y < x ∧ cmpZ x y = 1) := by
  unfold cmpZ
  rcases (show x < y ∨ x = y ∨ y < x by omega) with h | h | h
  · left; exact ⟨h, by rw [if_neg (by omega), if_pos h]⟩
  · right; left; exact ⟨h, by rw [if_pos h]⟩
  · right; right; exact ⟨h, by rw [if_neg (by omega), if_neg (by omega)]⟩
theorem cmpI_cases (x y : Nat) : (x < y ∧ cmpI x y = -1) ∨ (x = y ∧ cmpI x y = 0) ∨ (y < x ∧ cmpI x y = 1) := by
  unfold cmpI
  rcases (show x < y ∨ x = y ∨ y < x by omega) with h | h | h
  · left; exact ⟨h, by rw [if_neg (by omega), if_pos h]⟩
  · right; left; exact ⟨h, by rw [if_pos h]⟩
  · right; right; exact ⟨h, by rw [if_neg (by omega), if_neg (by omega)]⟩
theorem compareInt_cases (x y : Int) : (x < y ∧ Lib.compareInt x y = -1) ∨ (x = y ∧ Lib.compareInt x y = 0) ∨ (y < x ∧ Lib.compareInt x y = 1) := by
  unfold Lib.compareInt
  rcases (show x < y ∨ x = y ∨ y < x by omega) with h | h | h
  · left; exact ⟨h, by rw [if_pos h]⟩
  · right; left; exact ⟨h, by rw [if_neg (by omega), if_neg (by omega)]⟩
  · right; right; exact ⟨h, by rw [if_neg (by omega), if_pos (by omega)]⟩
theorem cmp_same (z s z' s' t : Int) (h : z.sign = z'.sign) : z.sign * cmpI (upN z s t) (upN z' s' t) = cmpZ (zAt z s t) (zAt z' s' t) := by
  have c1 := cmpI_cases (upN z s t) (upN z' s' t)
  have c2 := cmpZ_cases (zAt z s t) (zAt z' s' t)
  generalize cmpI (upN z s t) (upN z' s' t) = u at *
  generalize cmpZ (zAt z s t) (zAt z' s' t) = v at *
  rcases up_sign z s t with ⟨a, b, c⟩ | ⟨a, b, c⟩ | ⟨a, b, c⟩ <;> rcases up_sign z' s' t with ⟨a', b', c'⟩ | ⟨a', b', c'⟩ | ⟨a', b', c'⟩
  · rw [sign_pos a]; omega
  · rw [sign_pos a, a'] at h; simp at h
  · rw [sign_pos a, sign_neg a'] at h; omega
  · rw [sign_pos a', a] at h; simp at h
  · rw [a]; simp; omega
  · rw [sign_neg a', a] at h; simp at h
  · rw [sign_neg a, sign_pos a'] at h; omega
  · rw [sign_neg a, a'] at h; simp at h
  · rw [sign_neg a]; omega
theorem cmp_diff (z s z' s' t : Int) (h : z.sign ≠ z'.sign) : Lib.compareInt z.sign z'.sign = cmpZ (zAt z s t) (zAt z' s' t) := by
  have c1 := compareInt_cases z.sign z'.sign
  have c2 := cmpZ_cases (zAt z s t) (zAt z' s' t)
  generalize Lib.compareInt z.sign z'.sign = u at *
  generalize cmpZ (zAt z s t) (zAt z' s' t) = v at *
  rcases up_sign z s t with ⟨a, b, c⟩ | ⟨a, b, c⟩ | ⟨a, b, c⟩ <;> rcases up_sign z' s' t with ⟨a', b', c'⟩ | ⟨a', b', c'⟩ | ⟨a', b', c'⟩
  · rw [sign_pos a, sign_pos a'] at h; omega
  · rw [sign_pos a, a', Int.sign_zero] at c1; omega
  · rw [sign_pos a, sign_neg a'] at c1; omega
  · rw [sign_pos a', a, Int.sign_zero] at c1; omega
  · rw [a, a'] at h; omega
  · rw [sign_neg a', a, Int.sign_zero] at c1; omega
  · rw [sign_neg a, sign_pos a'] at c1; omega
  · rw [sign_neg a, a', Int.sign_zero] at c1; omega
  · rw [sign_neg a, sign_neg a'] at h; omega
theorem cmpI_range (m n : Nat) : -1 ≤ cmpI m n ∧ cmpI m n ≤ 1 := by rcases cmpI_cases m n with ⟨_, h⟩ | ⟨_, h⟩ | ⟨_, h⟩ <;> omega
theorem sign_range (z : Int) : -1 ≤ z.sign ∧ z.sign ≤ 1 := by
  rcases (show 0 < z ∨ z = 0 ∨ z < 0 by omega) with h | h | h
  · rw [sign_pos h]; omega
  · rw [h]; simp
  · rw [sign_neg h]; omega
theorem sign_wrap (z : Int) (m n : Nat) : IntKind.i64.wrap (z.sign * cmpI m n) = z.sign * cmpI m n := by
  have h1 := sign_range z
  have h2 := cmpI_range m n
  generalize z.sign = x at *
  generalize cmpI m n = y at *
  rcases (show x = -1 ∨ x = 0 ∨ x = 1 by omega) with rfl | rfl | rfl <;> exact IntWalk.i64_in _ (by omega)
theorem dec_same {n : Bool} {a b z z' : Int} (h : DecIs n a b z) (h' : DecIs n a b z') : z = z' := by
  obtain ⟨e1, _, _, e2⟩ := h
  obtain ⟨e3, _, _, e4⟩ := h'
  rw [e1] at e3
  have : z < 0 ↔ z' < 0 := by simpa using e3
  omega

end Go.Proofs.Ytakofbkbbmpfeaa
