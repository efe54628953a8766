/- Package dec: contracts at decimals that are right and small. -/
import Derived.Test.YtlhceelkefgjhaaGreatDoorDecA
import Derived.Test.YtlhceelkefgjhaaGreatDoorRefE
namespace Go.Proofs.YtlhceelkefgjhaaGreatDoor
open Go.RowKit

/-- The words of a decimal whose number, with its sign, is z. -/
def DecIs (n : Bool) (a b z : Int) : Prop := n = decide (z < 0) ∧ U64 a ∧ U64 b ∧ v2 a b = z.natAbs
def Sm (z : Int) : Prop := z.natAbs < 100000000000000000000
def IsDec (z s : Int) (v : Value) : Prop := ∃ (n : Bool) (a b : Int), DecIs n a b z ∧ v = .agg #[.bool n, .int .u64 a, .int .u64 b, .int .i64 s]
def IsDecE (z s e : Int) (v : Value) : Prop := ∃ (n : Bool) (a b : Int), DecIs n a b z ∧ v = .tuple #[.agg #[.bool n, .int .u64 a, .int .u64 b, .int .i64 s], .int .i64 e]
theorem decIs_right {n : Bool} {a b z s : Int} (h : DecIs n a b z) (hz : z.natAbs < 1000000000000000000000000000000) (h0 : 0 ≤ s) (h9 : s ≤ 9) : RightD n a b s := by
  obtain ⟨rfl, _, _, e⟩ := h
  refine ⟨by omega, h0, h9, ?_⟩
  rintro ⟨d, e2⟩
  simp at d
  omega
theorem decV_is {z s : Int} (hz : z.natAbs < 1000000000000000000000000000000) : ∃ (n : Bool) (a b : Int), DecIs n a b z ∧ decV z s = .agg #[.bool n, .int .u64 a, .int .u64 b, .int .i64 s] := by
  refine ⟨_, _, _, ⟨rfl, ?_, ?_, ?_⟩, rfl⟩
  · unfold U64; omega
  · unfold U64; omega
  · unfold v2; rw [Int.toNat_natCast, Int.toNat_natCast]; omega
theorem right_d (n : Bool) (a b s z : Int) (w : World) (h : DecIs n a b z) (hz : z.natAbs < 1000000000000000000000000000000) (h0 : 0 ≤ s) (h9 : s ≤ 9) :
    Calls Tryz.prog 18 #[.agg #[.bool n, .int .u64 a, .int .u64 b, .int .i64 s]] w (Ret w (IsBool true)) := by
  have C := right_c n a b s w h.2.1 h.2.2.1
  have e : decide (RightD n a b s) = true := by simp [decIs_right h hz h0 h9]
  rwa [e] at C
theorem checked_d (n : Bool) (c0 c1 s : Int) (w : World) (h0 : U64 c0) (h1 : U64 c1) (hN : v2 c0 c1 < 1000000000000000000000000000000) (hs0 : 0 ≤ s) (hs9 : s ≤ 9) :
    Calls Tryz.prog 33 #[.bool n, .agg #[.int .u64 c0, .int .u64 c1], .int .i64 s] w (Ret w (IsDecE (zOf n (v2 c0 c1)) s 0)) :=
  (checked_c n c0 c1 s w h0 h1).mono fun e w' ⟨v, hv, he, hb⟩ => by
    obtain ⟨m, a, b, hd, ev⟩ := decV_is (z := zOf n (v2 c0 c1)) (s := s) (by rw [zOf_abs]; exact hN)
    refine ⟨v, ⟨m, a, b, hd, ?_⟩, he, hb⟩
    rw [hv, chkV, if_pos ⟨hN, hs0, hs9⟩, okV, ev]
theorem sgn_is {n : Bool} {a b z : Int} (h : DecIs n a b z) : DecIs (sgn (!n) a b) a b (-z) := by
  obtain ⟨rfl, h0, h1, e⟩ := h
  refine ⟨?_, h0, h1, by rw [e]; omega⟩
  rw [sgn, eqW2_0 h0 h1, e]
  by_cases hz : z < 0
  · have : decide (-z < 0) = false := by simp; omega
    rw [this]; simp [hz]
  · by_cases h0 : z = 0
    · subst h0; simp
    · have : decide (-z < 0) = true := by simp; omega
      rw [this]; simp [h0]; omega
theorem bel4 {B g : Nat} {w w' : World} {a b c d : Value} (h : Below B w w') (hg : B ≤ g) : Below B w ((((w'.setCell ⟨g, 0, none⟩ a).setCell ⟨g, 1, none⟩ b).setCell ⟨g, 2, none⟩ c).setCell ⟨g, 3, none⟩ d) :=
  (((h.setCell (p := ⟨g, 0, none⟩) hg _).setCell (p := ⟨g, 1, none⟩) hg _).setCell (p := ⟨g, 2, none⟩) hg _).setCell (p := ⟨g, 3, none⟩) hg _
theorem bel2 {B g : Nat} {w w' : World} {a b : Value} (h : Below B w w') (hg : B ≤ g) : Below B w ((w'.setCell ⟨g, 0, none⟩ a).setCell ⟨g, 1, none⟩ b) :=
  (h.setCell (p := ⟨g, 0, none⟩) hg _).setCell (p := ⟨g, 1, none⟩) hg _

set_option maxRecDepth 100000 in
set_option maxHeartbeats 800000 in
theorem neg_d (n : Bool) (a b s z : Int) (w : World) (h : DecIs n a b z) (hz : z.natAbs < 1000000000000000000000000000000) (h0 : 0 ≤ s) (h9 : s ≤ 9) :
    Calls Tryz.prog 20 #[.agg #[.bool n, .int .u64 a, .int .u64 b, .int .i64 s]] w (Ret w (IsDec (-z) s)) := by
  have W : HB w [(w.heap.size + 1, 25, #[.bool false, .int .u64 0, .int .u64 0, .int .i64 0]), (w.heap.size, 25, #[.bool n, .int .u64 a, .int .u64 b, .int .i64 s])] ((w.alloc (.cells #[.bool n, .int .u64 a, .int .u64 b, .int .i64 s] 25)).alloc (.cells #[.bool false, .int .u64 0, .int .u64 0, .int .i64 0] 25)) := by
    have h := ((HB.start (Below.refl _ w)).push #[.bool n, .int .u64 a, .int .u64 b, .int .i64 s] 25).push #[.bool false, .int .u64 0, .int .u64 0, .int .i64 0] 25
    simpa using h
  have hle : w.heap.size ≤ w.heap.size + 1 := by omega
  have HS := Lib.hid (sgn_is h)
  have HZ := Lib.hid hz
  have HH := Lib.hid h
  clear hz h
  go_enter Tryz.func20, Tryz.ntmps20
  go_wp2_with fail
  refine (right_d n a b s z _ HH.out HZ.out h0 h9).mono ?_
  rintro e w1 ⟨_, rfl, rfl, hb⟩
  replace W := W.below hb
  clear hb
  obtain ⟨lq, q0, q1, q2, q3⟩ := HB.dec (t := 25) (g := w.heap.size) (a := .bool n) (b := .int .u64 a) (c := .int .u64 b) (d := .int .i64 s) W (by simp)
  go_wp2_with fail
  refine (signed_c (!n) a b s _).mono ?_
  rintro e w2 ⟨_, rfl, rfl, hb⟩
  replace W := W.below hb
  clear hb lq q0 q1 q2 q3
  generalize sgn (!n) a b = m at HS ⊢
  obtain ⟨lq, q0, q1, q2, q3⟩ := HB.dec (t := 25) (g := w.heap.size + 1) (a := .bool false) (b := .int .u64 0) (c := .int .u64 0) (d := .int .i64 0) W (by simp)
  have Bz := HB.blk (g := w.heap.size + 1) (t := 25) (cs := #[.bool false, .int .u64 0, .int .u64 0, .int .i64 0]) W (by simp)
  have fz0 := Bz.frozen 0
  have fz1 := Bz.frozen 1
  have fz2 := Bz.frozen 2
  have fz3 := Bz.frozen 3
  clear Bz
  have HB1 := Lib.hid W.1
  clear W
  go_wp2
  exact bodyPost_ret (v := .agg #[.bool m, .int .u64 a, .int .u64 b, .int .i64 s]) (by simp [results, Tryz.results20, go_sem, q0, q1, q2, q3]) rfl ⟨_, ⟨_, _, _, HS.out, rfl⟩, rfl, bel4 HB1.out hle⟩

theorem sign_3 {n : Bool} {a b z : Int} (h : DecIs n a b z) : (z = 0 ∧ eqW2 a b 0 0 = true) ∨ (z < 0 ∧ n = true ∧ eqW2 a b 0 0 = false) ∨ (0 < z ∧ n = false ∧ eqW2 a b 0 0 = false) := by
  obtain ⟨rfl, h0, h1, e⟩ := h
  rw [eqW2_0 h0 h1, e]
  rcases (show z = 0 ∨ z < 0 ∨ 0 < z by omega) with h | h | h
  · left; subst h; simp
  · right; left; refine ⟨h, by simp [h], by simp; omega⟩
  · right; right; refine ⟨h, by simp; omega, by simp; omega⟩
theorem nsD {w0 w : World} {n : Bool} {a b s : Int} {g : Nat} (h : HB w0 [(g, 25, #[.bool n, .int .u64 a, .int .u64 b, .int .i64 s])] w) : HB w0 [(g, 25, #[.bool n, .int .u64 a, .int .u64 b, .int .i64 s])] w ∧ (w.cell? ⟨g, 0, none⟩ = some (.bool n) ∧ w.cell? ⟨g, 1, none⟩ = some (.int .u64 a) ∧ w.cell? ⟨g, 2, none⟩ = some (.int .u64 b) ∧ w.cell? ⟨g, 3, none⟩ = some (.int .i64 s)) :=
  ⟨h, (HB.dec (t := 25) (g := g) (a := .bool n) (b := .int .u64 a) (c := .int .u64 b) (d := .int .i64 s) h (by simp)).2⟩
set_option maxRecDepth 100000 in
set_option maxHeartbeats 800000 in
theorem sign_d (n : Bool) (a b s z : Int) (w : World) (h : DecIs n a b z) (hz : z.natAbs < 1000000000000000000000000000000) (h0 : 0 ≤ s) (h9 : s ≤ 9) :
    Calls Tryz.prog 22 #[.agg #[.bool n, .int .u64 a, .int .u64 b, .int .i64 s]] w (Ret w (IsInt z.sign)) := by
  have W := Lib.hid (d1 w n a b s)
  have HZ := Lib.hid hz
  have HH := Lib.hid h
  have H3 := sign_3 h
  clear hz h
  have hsg : ∀ k, z.sign = k → IsInt z.sign (.int .i64 k) := fun k e => by rw [e]; rfl
  have HSG := Lib.hid hsg
  clear hsg
  have HN : (z = 0 ∧ eqW2 a b 0 0 = true ∧ n = n) ∨ (z < 0 ∧ eqW2 a b 0 0 = false ∧ n = true) ∨ (0 < z ∧ eqW2 a b 0 0 = false ∧ n = false) := by
    rcases H3 with ⟨x, y⟩ | ⟨x, y, u⟩ | ⟨x, y, u⟩
    · exact Or.inl ⟨x, y, rfl⟩
    · exact Or.inr (Or.inl ⟨x, u, y⟩)
    · exact Or.inr (Or.inr ⟨x, u, y⟩)
  clear H3
  rcases HN with ⟨hz, hq, hn⟩ | ⟨hz, hq, hn⟩ | ⟨hz, hq, hn⟩
  all_goals
    have HZ3 := Lib.hid hz
    have HN3 := Lib.hid hn
    clear hz hn
    go_enter Tryz.func22, Tryz.ntmps22
    go_wp2
    go_region_held3 (fun w' => HB w [(w.heap.size, 25, #[.bool n, .int .u64 a, .int .u64 b, .int .i64 s])] w' ∧ (w'.cell? ⟨w.heap.size, 0, none⟩ = some (.bool n) ∧ w'.cell? ⟨w.heap.size, 1, none⟩ = some (.int .u64 a) ∧ w'.cell? ⟨w.heap.size, 2, none⟩ = some (.int .u64 b) ∧ w'.cell? ⟨w.heap.size, 3, none⟩ = some (.int .i64 s)))
      (first | exact nsD (HB.drew W.out) | exact nsD (keepB hbx (by assumption)))
      (first
        | (go_at_call 18; (with_reducible refine (right_d n a b s z _ HH.out HZ.out h0 h9).mono ?_); rintro e wx ⟨_, rfl, rfl, hbx⟩)
        | (go_at_call 48; (with_reducible refine (of_c 0 _).mono ?_); rintro e wx ⟨_, rfl, rfl, hbx⟩))
    all_goals
      rename_i hHeld
      obtain ⟨hW, q0, q1, q2, q3⟩ := hHeld
      have HB1 := Lib.hid hW.1
      clear hW
      have hn := HN3.out
      try subst hn
      go_wp2
      go_ret
      exact ⟨_, HSG.out _ (by first | exact Int.sign_eq_neg_one_of_neg HZ3.out | exact Int.sign_eq_one_of_pos HZ3.out | (rw [HZ3.out]; rfl)), rfl, HB1.out⟩

end Go.Proofs.YtlhceelkefgjhaaGreatDoor
