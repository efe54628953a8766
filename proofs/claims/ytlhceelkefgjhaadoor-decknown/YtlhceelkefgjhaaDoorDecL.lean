/- The walk of DecKnown. -/
import Derived.Test.YtlhceelkefgjhaaDoorDecK
import Derived.Test.YtlhceelkefgjhaaDoorOrd
import Derived.Deep.CutBlock
import Derived.Deep.DeepCutAuto
namespace Go.Proofs.YtlhceelkefgjhaaDoor
open Go.RowKit
theorem k_read0 (m : Int) (w : World) (HMC : w.cell? ⟨0, 0, none⟩ = some (.int .i64 m)) : Calls Tryd.prog 4 #[.string ⟨#[]⟩] w (Ret w (· = .tuple #[.agg #[.bool false, .int .u64 0, .int .u64 0, .int .i64 0], .int .i64 2])) :=
  read_form1 [] [] [] [] false false m _ (by first | rfl | decide +kernel) (by first | rfl | decide +kernel) (by decide) (by first | rfl | decide +kernel) (by first | rfl | decide +kernel) (by decide) HMC
theorem k_read1 (m : Int) (w : World) (HMC : w.cell? ⟨0, 0, none⟩ = some (.int .i64 m)) : Calls Tryd.prog 4 #[.string ⟨#[45]⟩] w (Ret w (· = .tuple #[.agg #[.bool false, .int .u64 0, .int .u64 0, .int .i64 0], .int .i64 2])) :=
  read_form1 [45] [] [] [] true false m _ (by first | rfl | decide +kernel) (by first | rfl | decide +kernel) (by decide) (by first | rfl | decide +kernel) (by first | rfl | decide +kernel) (by decide) HMC
theorem k_read2 (m : Int) (w : World) (HMC : w.cell? ⟨0, 0, none⟩ = some (.int .i64 m)) : Calls Tryd.prog 4 #[.string ⟨#[45, 48]⟩] w (Ret w (· = .tuple #[.agg #[.bool false, .int .u64 0, .int .u64 0, .int .i64 0], .int .i64 2])) :=
  read_zero [45, 48] [48] [48] [] false m _ (by first | rfl | decide +kernel) (by first | rfl | decide +kernel) (by decide) (by first | rfl | decide +kernel) (by first | rfl | decide +kernel) (.inl ⟨rfl, rfl⟩) (by decide +kernel) HMC
theorem k_read3 (m : Int) (w : World) (HMC : w.cell? ⟨0, 0, none⟩ = some (.int .i64 m)) : Calls Tryd.prog 4 #[.string ⟨#[45, 48, 46, 48, 48]⟩] w (Ret w (· = .tuple #[.agg #[.bool false, .int .u64 0, .int .u64 0, .int .i64 0], .int .i64 2])) :=
  read_zero [45, 48, 46, 48, 48] [48, 46, 48, 48] [48] [48, 48] true m _ (by first | rfl | decide +kernel) (by first | rfl | decide +kernel) (by decide) (by first | rfl | decide +kernel) (by first | rfl | decide +kernel) (.inr ⟨rfl, by first | rfl | decide +kernel⟩) (by decide +kernel) HMC
theorem k_read4 (m : Int) (w : World) (HMC : w.cell? ⟨0, 0, none⟩ = some (.int .i64 m)) : Calls Tryd.prog 4 #[.string ⟨#[49, 46]⟩] w (Ret w (· = .tuple #[.agg #[.bool false, .int .u64 0, .int .u64 0, .int .i64 0], .int .i64 2])) :=
  read_form2 [49, 46] [49, 46] [49] [] false m _ (by first | rfl | decide +kernel) (by first | rfl | decide +kernel) (by decide) (by first | rfl | decide +kernel) (by first | rfl | decide +kernel) (by first | rfl | decide +kernel) (by decide) (by decide) HMC
theorem k_read5 (m : Int) (w : World) (HMC : w.cell? ⟨0, 0, none⟩ = some (.int .i64 m)) : Calls Tryd.prog 4 #[.string ⟨#[46, 53]⟩] w (Ret w (· = .tuple #[.agg #[.bool false, .int .u64 0, .int .u64 0, .int .i64 0], .int .i64 2])) :=
  read_form1 [46, 53] [46, 53] [] [53] false true m _ (by first | rfl | decide +kernel) (by first | rfl | decide +kernel) (by decide) (by first | rfl | decide +kernel) (by first | rfl | decide +kernel) (by decide) HMC
theorem k_read6 (m : Int) (w : World) (HMC : w.cell? ⟨0, 0, none⟩ = some (.int .i64 m)) : Calls Tryd.prog 4 #[.string ⟨#[43, 49]⟩] w (Ret w (· = .tuple #[.agg #[.bool false, .int .u64 0, .int .u64 0, .int .i64 0], .int .i64 2])) :=
  read_form1 [43, 49] [43, 49] [43, 49] [] false false m _ (by first | rfl | decide +kernel) (by first | rfl | decide +kernel) (by decide) (by first | rfl | decide +kernel) (by first | rfl | decide +kernel) (by decide) HMC
theorem k_read7 (m : Int) (w : World) (HMC : w.cell? ⟨0, 0, none⟩ = some (.int .i64 m)) : Calls Tryd.prog 4 #[.string ⟨#[49, 101, 51]⟩] w (Ret w (· = .tuple #[.agg #[.bool false, .int .u64 0, .int .u64 0, .int .i64 0], .int .i64 2])) :=
  read_form1 [49, 101, 51] [49, 101, 51] [49, 101, 51] [] false false m _ (by first | rfl | decide +kernel) (by first | rfl | decide +kernel) (by decide) (by first | rfl | decide +kernel) (by first | rfl | decide +kernel) (by decide) HMC
theorem k_read8 (m : Int) (w : World) (HMC : w.cell? ⟨0, 0, none⟩ = some (.int .i64 m)) : Calls Tryd.prog 4 #[.string ⟨#[49, 46, 48, 48, 48, 48, 48, 48, 48, 48, 48, 48]⟩] w (Ret w (· = .tuple #[.agg #[.bool false, .int .u64 0, .int .u64 0, .int .i64 0], .int .i64 2])) :=
  read_form2 [49, 46, 48, 48, 48, 48, 48, 48, 48, 48, 48, 48] [49, 46, 48, 48, 48, 48, 48, 48, 48, 48, 48, 48] [49] [48, 48, 48, 48, 48, 48, 48, 48, 48, 48] false m _ (by first | rfl | decide +kernel) (by first | rfl | decide +kernel) (by decide) (by first | rfl | decide +kernel) (by first | rfl | decide +kernel) (by first | rfl | decide +kernel) (by decide) (by decide) HMC
theorem k_read9 (m : Int) (w : World) (HMC : w.cell? ⟨0, 0, none⟩ = some (.int .i64 m)) : Calls Tryd.prog 4 #[.string ⟨#[48, 48, 48, 48, 48, 48, 48, 48, 48, 48, 48, 48, 48, 48, 48, 48, 48, 48, 48, 48, 48, 48, 48, 48, 48, 48, 48, 48, 48, 48, 49]⟩] w (Ret w (· = .tuple #[.agg #[.bool false, .int .u64 0, .int .u64 0, .int .i64 0], .int .i64 2])) :=
  read_form1 [48, 48, 48, 48, 48, 48, 48, 48, 48, 48, 48, 48, 48, 48, 48, 48, 48, 48, 48, 48, 48, 48, 48, 48, 48, 48, 48, 48, 48, 48, 49] [48, 48, 48, 48, 48, 48, 48, 48, 48, 48, 48, 48, 48, 48, 48, 48, 48, 48, 48, 48, 48, 48, 48, 48, 48, 48, 48, 48, 48, 48, 49] [48, 48, 48, 48, 48, 48, 48, 48, 48, 48, 48, 48, 48, 48, 48, 48, 48, 48, 48, 48, 48, 48, 48, 48, 48, 48, 48, 48, 48, 48, 49] [] false false m _ (by first | rfl | decide +kernel) (by first | rfl | decide +kernel) (by decide) (by first | rfl | decide +kernel) (by first | rfl | decide +kernel) (by decide) HMC
theorem k_read10 (m : Int) (w : World) (HMC : w.cell? ⟨0, 0, none⟩ = some (.int .i64 m)) : Calls Tryd.prog 4 #[.string ⟨#[32, 49]⟩] w (Ret w (· = .tuple #[.agg #[.bool false, .int .u64 0, .int .u64 0, .int .i64 0], .int .i64 2])) :=
  read_form1 [32, 49] [32, 49] [32, 49] [] false false m _ (by first | rfl | decide +kernel) (by first | rfl | decide +kernel) (by decide) (by first | rfl | decide +kernel) (by first | rfl | decide +kernel) (by decide) HMC
theorem k_read11 (m : Int) (w : World) (HMC : w.cell? ⟨0, 0, none⟩ = some (.int .i64 m)) : Calls Tryd.prog 4 #[.string ⟨#[49, 44, 53]⟩] w (Ret w (· = .tuple #[.agg #[.bool false, .int .u64 0, .int .u64 0, .int .i64 0], .int .i64 2])) :=
  read_form1 [49, 44, 53] [49, 44, 53] [49, 44, 53] [] false false m _ (by first | rfl | decide +kernel) (by first | rfl | decide +kernel) (by decide) (by first | rfl | decide +kernel) (by first | rfl | decide +kernel) (by decide) HMC
theorem k_readO (m : Int) (w : World) (HMC : w.cell? ⟨0, 0, none⟩ = some (.int .i64 m)) : Calls Tryd.prog 4 #[.string ⟨#[57, 57, 57, 57, 57, 57, 57, 57, 57, 57, 57, 57, 57, 57, 57, 57, 57, 57, 57, 57, 57, 57, 57, 57, 57, 57, 57, 57, 57, 57, 46, 57]⟩] w (Ret w (· = .tuple #[.agg #[.bool false, .int .u64 0, .int .u64 0, .int .i64 0], .int .i64 3])) :=
  read_over [57, 57, 57, 57, 57, 57, 57, 57, 57, 57, 57, 57, 57, 57, 57, 57, 57, 57, 57, 57, 57, 57, 57, 57, 57, 57, 57, 57, 57, 57, 46, 57] [57, 57, 57, 57, 57, 57, 57, 57, 57, 57, 57, 57, 57, 57, 57, 57, 57, 57, 57, 57, 57, 57, 57, 57, 57, 57, 57, 57, 57, 57, 46, 57] [57, 57, 57, 57, 57, 57, 57, 57, 57, 57, 57, 57, 57, 57, 57, 57, 57, 57, 57, 57, 57, 57, 57, 57, 57, 57, 57, 57, 57, 57] [57] false true m _ (by first | rfl | decide +kernel) (by first | rfl | decide +kernel) (by decide) (by first | rfl | decide +kernel) (by first | rfl | decide +kernel) (.inr ⟨rfl, by first | rfl | decide +kernel⟩) (by decide +kernel) HMC
theorem k_big : DecIs false 5076944270305263615 54210108624 (zOf false (numL ([57, 57, 57, 57, 57, 57, 57, 57, 57, 57, 57, 57, 57, 57, 57, 57, 57, 57, 57, 57, 57, 57, 57, 57, 57, 57, 57, 57, 57, 57] ++ []))) := by
  refine ⟨by decide +kernel, by unfold U64; omega, by unfold U64; omega, by decide +kernel⟩
theorem k_readB (m : Int) (w : World) (HMC : w.cell? ⟨0, 0, none⟩ = some (.int .i64 m)) : Calls Tryd.prog 4 #[.string ⟨#[57, 57, 57, 57, 57, 57, 57, 57, 57, 57, 57, 57, 57, 57, 57, 57, 57, 57, 57, 57, 57, 57, 57, 57, 57, 57, 57, 57, 57, 57]⟩] w (Ret w (· = .tuple #[.agg #[.bool false, .int .u64 5076944270305263615, .int .u64 54210108624, .int .i64 0], .int .i64 0])) :=
  (read_c false [57, 57, 57, 57, 57, 57, 57, 57, 57, 57, 57, 57, 57, 57, 57, 57, 57, 57, 57, 57, 57, 57, 57, 57, 57, 57, 57, 57, 57, 57] [] m w (by decide) (by decide) (by decide +kernel) (by decide) (by rfl) (by decide +kernel) (fun e => by cases e) HMC).mono fun e w' ⟨v, ⟨n, a, b, hd, ev⟩, he, hb⟩ => by
    obtain ⟨rfl, rfl, rfl⟩ := decIs_one hd k_big
    exact ⟨v, ev, he, hb⟩
theorem kidx (m : Int) (k : Nat) (hk : k < 12) : ∃ s : ByteArray, (∀ w : World, (Instr.index 22 (.agg #[.string ⟨#[]⟩, .string ⟨#[45]⟩, .string ⟨#[45, 48]⟩, .string ⟨#[45, 48, 46, 48, 48]⟩, .string ⟨#[49, 46]⟩, .string ⟨#[46, 53]⟩, .string ⟨#[43, 49]⟩, .string ⟨#[49, 101, 51]⟩, .string ⟨#[49, 46, 48, 48, 48, 48, 48, 48, 48, 48, 48, 48]⟩, .string ⟨#[48, 48, 48, 48, 48, 48, 48, 48, 48, 48, 48, 48, 48, 48, 48, 48, 48, 48, 48, 48, 48, 48, 48, 48, 48, 48, 48, 48, 48, 48, 49]⟩, .string ⟨#[32, 49]⟩, .string ⟨#[49, 44, 53]⟩]) (.int .i64 (k : Int))).run Tryd.prog w = .ok (.string s) w) ∧ ∀ w : World, w.cell? ⟨0, 0, none⟩ = some (.int .i64 m) → Calls Tryd.prog 4 #[.string s] w (Ret w (· = .tuple #[.agg #[.bool false, .int .u64 0, .int .u64 0, .int .i64 0], .int .i64 2])) := by
  rcases (show k = 0 ∨ k = 1 ∨ k = 2 ∨ k = 3 ∨ k = 4 ∨ k = 5 ∨ k = 6 ∨ k = 7 ∨ k = 8 ∨ k = 9 ∨ k = 10 ∨ k = 11 by omega) with rfl | rfl | rfl | rfl | rfl | rfl | rfl | rfl | rfl | rfl | rfl | rfl
  · exact ⟨⟨#[]⟩, fun w => by kernel_rfl, fun w h => k_read0 m w h⟩
  · exact ⟨⟨#[45]⟩, fun w => by kernel_rfl, fun w h => k_read1 m w h⟩
  · exact ⟨⟨#[45, 48]⟩, fun w => by kernel_rfl, fun w h => k_read2 m w h⟩
  · exact ⟨⟨#[45, 48, 46, 48, 48]⟩, fun w => by kernel_rfl, fun w h => k_read3 m w h⟩
  · exact ⟨⟨#[49, 46]⟩, fun w => by kernel_rfl, fun w h => k_read4 m w h⟩
  · exact ⟨⟨#[46, 53]⟩, fun w => by kernel_rfl, fun w h => k_read5 m w h⟩
  · exact ⟨⟨#[43, 49]⟩, fun w => by kernel_rfl, fun w h => k_read6 m w h⟩
  · exact ⟨⟨#[49, 101, 51]⟩, fun w => by kernel_rfl, fun w h => k_read7 m w h⟩
  · exact ⟨⟨#[49, 46, 48, 48, 48, 48, 48, 48, 48, 48, 48, 48]⟩, fun w => by kernel_rfl, fun w h => k_read8 m w h⟩
  · exact ⟨⟨#[48, 48, 48, 48, 48, 48, 48, 48, 48, 48, 48, 48, 48, 48, 48, 48, 48, 48, 48, 48, 48, 48, 48, 48, 48, 48, 48, 48, 48, 48, 49]⟩, fun w => by kernel_rfl, fun w h => k_read9 m w h⟩
  · exact ⟨⟨#[32, 49]⟩, fun w => by kernel_rfl, fun w h => k_read10 m w h⟩
  · exact ⟨⟨#[49, 44, 53]⟩, fun w => by kernel_rfl, fun w h => k_read11 m w h⟩
theorem known_k (m : Int) (w : World) (hm : w.cell? ⟨0, 0, none⟩ = some (.int .i64 m)) (htab : Lib.TabIs Tryd.prog w "internal/strconv.uint64pow10" .u64 Lib.pow10Tab) : Calls Tryd.prog 10 #[] w (Ret w (· = .bool true)) := known_c m w hm htab
theorem print_k (n : Bool) (a b s : Int) (N : Nat) (L : List UInt8) (w : World) (ha : U64 a) (hb : U64 b) (hr : RightD n a b s) (hN : v2 a b = N) (htab : Lib.TabIs Tryd.prog w "internal/strconv.uint64pow10" .u64 Lib.pow10Tab) (hL : printL n N s = L) :
    Calls Tryd.prog 11 #[.agg #[.bool n, .int .u64 a, .int .u64 b, .int .i64 s]] w (Ret w (· = .string ⟨L.toArray⟩)) := by
  subst hL
  exact print_c n a b s w ha hb hr N hN htab
theorem right_k (n : Bool) (a b s : Int) (β : Bool) (w : World) (ha : U64 a) (hb : U64 b) (hβ : decide (RightD n a b s) = β) : Calls Tryd.prog 15 #[.agg #[.bool n, .int .u64 a, .int .u64 b, .int .i64 s]] w (Ret w (· = .bool β)) := by
  subst hβ
  exact right_c n a b s w ha hb
theorem decIs_k {n : Bool} {a z : Int} (h : n = decide (z < 0)) (ha : 0 ≤ a ∧ a < 18446744073709551616) (hz : a = (z.natAbs : Int)) : DecIs n a 0 z := ⟨h, ha, u64_0, by simp [v2]; omega⟩
theorem sign_k (n : Bool) (a s z c : Int) (w : World) (h : n = decide (z < 0)) (ha : 0 ≤ a ∧ a < 18446744073709551616) (hz : a = (z.natAbs : Int)) (hs : 0 ≤ s ∧ s ≤ 9) (hc : z.sign = c) : Calls Tryd.prog 13 #[.agg #[.bool n, .int .u64 a, .int .u64 0, .int .i64 s]] w (Ret w (· = .int .i64 c)) := by
  subst hc
  exact sign_d n a 0 s z w (decIs_k h ha hz) (by omega) hs.1 hs.2
theorem cmp_k (n : Bool) (a s z : Int) (n' : Bool) (a' s' z' t c : Int) (w : World) (h : n = decide (z < 0)) (ha : 0 ≤ a ∧ a < 18446744073709551616) (hz : a = (z.natAbs : Int)) (h' : n' = decide (z' < 0)) (ha' : 0 ≤ a' ∧ a' < 18446744073709551616) (hz' : a' = (z'.natAbs : Int)) (hs : 0 ≤ s ∧ s ≤ 9) (hs' : 0 ≤ s' ∧ s' ≤ 9) (ht : (s < s' ∧ s' = t) ∨ (s' ≤ s ∧ s = t)) (hc : cmpZ (zAt z s t) (zAt z' s' t) = c) :
    Calls Tryd.prog 12 #[.agg #[.bool n, .int .u64 a, .int .u64 0, .int .i64 s], .agg #[.bool n', .int .u64 a', .int .u64 0, .int .i64 s']] w (Ret w (· = .int .i64 c)) := by
  subst hc
  exact cmp_d n a 0 s z n' a' 0 s' z' t w (decIs_k h ha hz) (decIs_k h' ha' hz') (by unfold Sm; omega) (by unfold Sm; omega) hs.1 hs'.1 hs.2 hs'.2 ht
theorem ord_two {P : Program} {ops : Array Oper} {Q : Exit → Act → World → Prop} {md : Region.Mode} {S : World → Prop} {i j : Nat} {oi oj : Oper} {fuel : Nat} {listed : Array Bool} {a : Act} {w : World} (hi : ops[i]? = some oi) (hj : ops[j]? = some oj) (hr : Region.ready md ops listed = [i, j])
    (h1 : NoP P ops oi a w fun v w' => S w' ∧ OrdH P md ops Q S fuel (listed.setIfInBounds i true) (a.put oi.dst v) w') (h2 : NoP P ops oj a w fun v w' => S w' ∧ OrdH P md ops Q S fuel (listed.setIfInBounds j true) (a.put oj.dst v) w') : OrdH P md ops Q S (fuel + 1) listed a w := by
  refine ⟨fun h => (by rw [h] at hr; cases hr), fun k hk ok hok => ?_⟩
  rw [hr] at hk
  rcases (show k = i ∨ k = j by simpa using hk) with rfl | rfl
  · rw [hi] at hok
    cases hok
    exact h1
  · rw [hj] at hok
    cases hok
    exact h2
theorem HB.ne_new {w0 x : World} {bs : List (Nat × TypeId × Array Value)} (h : HB w0 bs x) {g : Nat} (hg : x.heap.size ≤ g) : ∀ b ∈ bs, b.1 ≠ g := fun b hm => by have := (h.2 b hm).lt; omega
theorem blk_cells {w : World} {g : Nat} {t : TypeId} {a b c d : Value} (h : Blk w g t #[a, b, c, d]) : g < w.heap.size ∧ (w.cell? ⟨g, 0, none⟩ = some a ∧ w.cell? ⟨g, 1, none⟩ = some b ∧ w.cell? ⟨g, 2, none⟩ = some c ∧ w.cell? ⟨g, 3, none⟩ = some d) ∧ w.frozen? ⟨g, 0, none⟩ = false ∧ w.frozen? ⟨g, 1, none⟩ = false ∧ w.frozen? ⟨g, 2, none⟩ = false ∧ w.frozen? ⟨g, 3, none⟩ = false := by
  have x0 := h.cell 0
  have x1 := h.cell 1
  have x2 := h.cell 2
  have x3 := h.cell 3
  simp at x0 x1 x2 x3
  exact ⟨h.lt, ⟨x0, x1, x2, x3⟩, h.frozen 0, h.frozen 1, h.frozen 2, h.frozen 3⟩
set_option maxRecDepth 100000 in
set_option maxHeartbeats 6400000 in
theorem decKnown_c (m : Int) (w : World) (hm : w.cell? ⟨0, 0, none⟩ = some (.int .i64 m)) (htab : Lib.TabIs Tryd.prog w "internal/strconv.uint64pow10" .u64 Lib.pow10Tab) : Calls Tryd.prog 3 #[] w (Ret w (IsBool true)) := by
  have HT := Lib.hid htab
  have HM := Lib.hid hm
  clear htab hm
  go_enter Tryd.func3, Tryd.ntmps3
  go_wp2
  go_loopw [28] (fun i wr => ∃ k : Nat, k ≤ 12 ∧ i = .int .i64 k ∧ Below w.heap.size w wr) (fun i _ => 12 - (intOf i).toNat)
  case atStart => exact ⟨0, by omega, rfl, Below.refl _ _⟩
  case round =>
    obtain ⟨k, hk, rfl, hb⟩ := hrel
    have HB0 := Lib.hid hb
    have HMC := Lib.hid (cell_keep hb HM.out)
    clear hb
    by_cases hlt : k < 12
    · as_aux_lemma =>
      obtain ⟨s, hidx, hrd⟩ := kidx m k hlt
      have HRD := Lib.hid hrd
      have hlt' : (k : Int) < 12 := by omega
      clear hrd
      go_wp2_with fail
      (with_reducible refine (HRD.out _ HMC.out).mono ?_)
      rintro e w1 ⟨_, rfl, rfl, hb⟩
      have HB1 := Lib.hid (bel_alloc (HB0.out.trans (hb.mono HB0.out.size)) (.cells #[.bool false, .int .u64 0, .int .u64 0, .int .i64 0] 26))
      clear hb
      go_wp2
      go_roundw
      case rel => exact ⟨k + 1, by omega, by go_num, HB1.out⟩
      case measure => simp [intOf]; omega
    · obtain rfl : k = 12 := by omega
      clear hk hlt
      have V0 : HB w [] wr := HB.start HB0.out
      clear HB0
      go_wp2_with fail
      (with_reducible refine (k_readB m _ (cell_keep V0.bel HM.out)).mono ?_)
      rintro e x1 ⟨_, rfl, rfl, hb⟩
      have V1 := V0.below hb
      clear hb V0
      have V2 := V1.push #[.bool false, .int .u64 5076944270305263615, .int .u64 54210108624, .int .i64 0] 26
      clear V1
      go_wp2_with fail
      (with_reducible refine (k_readO m _ (cell_keep V2.bel HM.out)).mono ?_)
      rintro e x3 ⟨_, rfl, rfl, hb⟩
      have V3 := V2.below hb
      clear hb V2
      have V4 := V3.alloc (.cells #[.bool false, .int .u64 0, .int .u64 0, .int .i64 0] 26)
      clear V3
      go_wp2_with fail
      (with_reducible refine (dOf_k 15 1 1 1 false 15 _ (by decide) (by decide) (by decide) (by decide) (by decide) (by decide)).mono ?_)
      rintro e x5 ⟨_, rfl, rfl, hb⟩
      have V5 := V4.below hb
      clear hb V4
      go_wp2_with fail
      (with_reducible refine (dOf_k (-150) 2 2 2 true 150 _ (by decide) (by decide) (by decide) (by decide) (by decide) (by decide)).mono ?_)
      rintro e x6 ⟨_, rfl, rfl, hb⟩
      have V6 := V5.below hb
      clear hb V5
      go_wp2_with fail
      (with_reducible refine (add_k (V := .tuple #[.agg #[.bool false, .int .u64 0, .int .u64 0, .int .i64 2], .int .i64 0]) (u64_k (by decide)) (u64_k (by decide)) (u64_k (by decide)) (u64_k (by decide)) (by kernel_rfl)).mono ?_)
      rintro e x7 ⟨_, rfl, rfl, hb⟩
      have V7 := V6.below hb
      clear hb V6
      have V8 := V7.push #[.bool false, .int .u64 0, .int .u64 0, .int .i64 2] 26
      clear V7
      go_upto_region 11 with fail
      go_cut [12] (fun e' wx => e' = .int .i64 3 ∧ HB w [(x7.heap.size, 26, #[.bool false, .int .u64 0, .int .u64 0, .int .i64 2]), (x1.heap.size, 26, #[.bool false, .int .u64 5076944270305263615, .int .u64 54210108624, .int .i64 0])] wx)
      case first => as_aux_lemma =>
        have VD := V8.drew
        refine wp_region_ord (S := fun W => HB w [(x7.heap.size, 26, #[.bool false, .int .u64 0, .int .u64 0, .int .i64 2]), (x1.heap.size, 26, #[.bool false, .int .u64 5076944270305263615, .int .u64 54210108624, .int .i64 0])] W) (by kernel_rfl) ?_
        refine ord_take (v := ?_) (i := 0) (fuel := 8) (by simp; rfl) (by kernel_rfl) (by kernel_rfl) (by kernel_rfl) (Or.inl ⟨by rfl, fun w' hSw => ?_⟩) VD ?_
        rotate_left
        · dsimp only at hSw
          obtain ⟨ql, q0, q1, q2, q3⟩ := HB.dec (t := 26) (g := x1.heap.size) (a := .bool false) (b := .int .u64 5076944270305263615) (c := .int .u64 54210108624) (d := .int .i64 0) hSw (by simp)
          go_simp
          all_goals with_reducible rfl
        simp only [Act.put, List.setIfInBounds_toArray, List.set_cons_zero, List.set_cons_succ]
        refine ord_two (i := 1) (j := 6) (fuel := 7) (by simp; rfl) (by simp; rfl) (by kernel_rfl) (Or.inl ⟨by rfl, Or.inr ⟨6, #[.int .i64 1, .int .i64 0], (x7.alloc (.cells #[.bool false, .int .u64 0, .int .u64 0, .int .i64 2] 26)).drew, ?_, ?_⟩⟩) (Or.inl ⟨by rfl, Or.inl ⟨.pointer (some ⟨(x7.alloc (.cells #[.bool false, .int .u64 0, .int .u64 0, .int .i64 2] 26)).drew.heap.size, 0, none⟩), (x7.alloc (.cells #[.bool false, .int .u64 0, .int .u64 0, .int .i64 2] 26)).drew.alloc (.cells #[.bool false, .int .u64 0, .int .u64 0, .int .i64 0] 26), ?_, VD.alloc _, ?_⟩⟩)
        · go_simp
          all_goals with_reducible rfl
        · refine (dOf_k 1 0 0 0 false 1 _ (by decide) (by decide) (by decide) (by decide) (by decide) (by decide)).mono ?_
          rintro e xa ⟨_, rfl, rfl, hb⟩
          have VA := VD.below hb
          clear hb
          refine ⟨_, rfl, VA, ?_⟩
          simp only [Act.put, List.setIfInBounds_toArray, List.set_cons_zero, List.set_cons_succ]
          refine ord_two (i := 2) (j := 6) (fuel := 6) (by simp; rfl) (by simp; rfl) (by kernel_rfl) (Or.inl ⟨by rfl, Or.inr ⟨5, #[.agg #[.bool false, .int .u64 5076944270305263615, .int .u64 54210108624, .int .i64 0], .agg #[.bool false, .int .u64 1, .int .u64 0, .int .i64 0]], xa, ?_, ?_⟩⟩) (Or.inl ⟨by rfl, Or.inl ⟨.pointer (some ⟨xa.heap.size, 0, none⟩), xa.alloc (.cells #[.bool false, .int .u64 0, .int .u64 0, .int .i64 0] 26), ?_, VA.alloc _, ?_⟩⟩)
          · go_simp
            all_goals with_reducible rfl
          · refine (add_k (V := .tuple #[.agg #[.bool false, .int .u64 0, .int .u64 0, .int .i64 0], .int .i64 3]) (u64_k (by decide)) (u64_k (by decide)) (u64_k (by decide)) (u64_k (by decide)) (by kernel_rfl)).mono ?_
            rintro e xb ⟨_, rfl, rfl, hb⟩
            have VB := VA.below hb
            have VC := VB.alloc (.cells #[.bool false, .int .u64 0, .int .u64 0, .int .i64 0] 26)
            clear hb
            refine ⟨_, rfl, VB, ?_⟩
            simp only [Act.put, List.setIfInBounds_toArray, List.set_cons_zero, List.set_cons_succ]
            refine ord_take (v := ?_) (i := 3) (fuel := 5) (by simp; rfl) (by kernel_rfl) (by kernel_rfl) (by kernel_rfl) (Or.inl ⟨by rfl, fun w' hSw => ?_⟩) VB ?_
            rotate_left
            · go_simp
              all_goals with_reducible rfl
            simp only [Act.put, List.setIfInBounds_toArray, List.set_cons_zero, List.set_cons_succ]
            refine ord_take (v := ?_) (i := 4) (fuel := 4) (by simp; rfl) (by kernel_rfl) (by kernel_rfl) (by kernel_rfl) (Or.inl ⟨by rfl, fun w' hSw => ?_⟩) VB ?_
            rotate_left
            · go_simp
              all_goals with_reducible rfl
            simp only [Act.put, List.setIfInBounds_toArray, List.set_cons_zero, List.set_cons_succ]
            refine ord_take (v := ?_) (i := 5) (fuel := 3) (by simp; rfl) (by kernel_rfl) (by kernel_rfl) (by kernel_rfl) (Or.inl ⟨by rfl, fun w' hSw => ?_⟩) VB ?_
            rotate_left
            · go_simp
              all_goals with_reducible rfl
            simp only [Act.put, List.setIfInBounds_toArray, List.set_cons_zero, List.set_cons_succ]
            refine ord_only (v := .pointer (some ⟨xb.heap.size, 0, none⟩)) (w' := xb.alloc (.cells #[.bool false, .int .u64 0, .int .u64 0, .int .i64 0] 26)) (i := 6) (fuel := 2) (by simp; rfl) (by kernel_rfl) (by rfl) ?_ VC ?_
            · go_simp
            simp only [Act.put, List.setIfInBounds_toArray, List.set_cons_zero, List.set_cons_succ]
            refine ord_skip (w' := xb.alloc (.cells #[.bool false, .int .u64 0, .int .u64 0, .int .i64 0] 26)) (i := 7) (fuel := 1) (by simp; rfl) (by kernel_rfl) (by rfl) rfl ?_ VC ?_
            · go_simp
            refine ord_take (v := ?_) (i := 8) (fuel := 0) (by simp; rfl) (by kernel_rfl) (by kernel_rfl) (by kernel_rfl) (Or.inl ⟨by rfl, fun w' hSw => ?_⟩) VC ?_
            rotate_left
            · go_simp
              all_goals with_reducible rfl
            simp only [Act.put, List.setIfInBounds_toArray, List.set_cons_zero, List.set_cons_succ]
            refine ord_done (by kernel_rfl) ?_ _
            go_wp2_with fail
            go_meet
            case rel => exact ⟨rfl, VC⟩
          · go_simp
          · simp only [Act.put, List.setIfInBounds_toArray, List.set_cons_zero, List.set_cons_succ]
            obtain ⟨gz, hgz⟩ : ∃ gz, xa.heap.size = gz := ⟨_, rfl⟩
            have BZ0 : Blk (xa.alloc (.cells #[.bool false, .int .u64 0, .int .u64 0, .int .i64 0] 26)) gz 26 #[.bool false, .int .u64 0, .int .u64 0, .int .i64 0] := by rw [← hgz]; exact Blk.new _ _ _
            have HNE := HB.ne_new VA (g := gz) (by omega)
            have HGZ : w.heap.size ≤ gz := by have := VA.1.size; omega
            have VA2 := VA.alloc (.cells #[.bool false, .int .u64 0, .int .u64 0, .int .i64 0] 26)
            rw [hgz]
            clear hgz
            refine ord_call (f := 5) (args := #[.agg #[.bool false, .int .u64 5076944270305263615, .int .u64 54210108624, .int .i64 0], .agg #[.bool false, .int .u64 1, .int .u64 0, .int .i64 0]]) (w1 := xa.alloc (.cells #[.bool false, .int .u64 0, .int .u64 0, .int .i64 0] 26)) (i := 2) (fuel := 5) (by simp; rfl) (by kernel_rfl) (by rfl) ?_ ?_
            · go_simp
              all_goals with_reducible rfl
            refine (add_k (V := .tuple #[.agg #[.bool false, .int .u64 0, .int .u64 0, .int .i64 0], .int .i64 3]) (u64_k (by decide)) (u64_k (by decide)) (u64_k (by decide)) (u64_k (by decide)) (by kernel_rfl)).mono ?_
            rintro e xb ⟨_, rfl, rfl, hb⟩
            have VB := VA2.below hb
            have BZ := BZ0.below hb BZ0.lt
            clear hb BZ0
            refine ⟨_, rfl, VB, ?_⟩
            simp only [Act.put, List.setIfInBounds_toArray, List.set_cons_zero, List.set_cons_succ]
            obtain ⟨lz, ⟨z0, z1, z2, z3⟩, y0, y1, y2, y3⟩ := blk_cells BZ
            have VS := HB.sub (bs' := [(x7.heap.size, 26, #[.bool false, .int .u64 0, .int .u64 0, .int .i64 2]), (x1.heap.size, 26, #[.bool false, .int .u64 5076944270305263615, .int .u64 54210108624, .int .i64 0])]) (HB.set4 (a' := .bool false) (b' := .int .u64 0) (c' := .int .u64 0) (d' := .int .i64 0) VB BZ HGZ HNE) (by simp)
            refine ord_take (v := ?_) (i := 3) (fuel := 4) (by simp; rfl) (by kernel_rfl) (by kernel_rfl) (by kernel_rfl) (Or.inl ⟨by rfl, fun w' hSw => ?_⟩) VB ?_
            rotate_left
            · go_simp
              all_goals with_reducible rfl
            simp only [Act.put, List.setIfInBounds_toArray, List.set_cons_zero, List.set_cons_succ]
            refine ord_take (v := ?_) (i := 4) (fuel := 3) (by simp; rfl) (by kernel_rfl) (by kernel_rfl) (by kernel_rfl) (Or.inl ⟨by rfl, fun w' hSw => ?_⟩) VB ?_
            rotate_left
            · go_simp
              all_goals with_reducible rfl
            simp only [Act.put, List.setIfInBounds_toArray, List.set_cons_zero, List.set_cons_succ]
            refine ord_take (v := ?_) (i := 5) (fuel := 2) (by simp; rfl) (by kernel_rfl) (by kernel_rfl) (by kernel_rfl) (Or.inl ⟨by rfl, fun w' hSw => ?_⟩) VB ?_
            rotate_left
            · go_simp
              all_goals with_reducible rfl
            simp only [Act.put, List.setIfInBounds_toArray, List.set_cons_zero, List.set_cons_succ]
            refine ord_skip (w' := ((((xb.setCell ⟨gz, 0, none⟩ (.bool false)).setCell ⟨gz, 1, none⟩ (.int .u64 0)).setCell ⟨gz, 2, none⟩ (.int .u64 0)).setCell ⟨gz, 3, none⟩ (.int .i64 0))) (i := 7) (fuel := 1) (by simp; rfl) (by kernel_rfl) (by rfl) rfl ?_ VS ?_
            · go_simp
            clear lz z0 z1 z2 z3 y0 y1 y2 y3
            refine ord_take (v := ?_) (i := 8) (fuel := 0) (by simp; rfl) (by kernel_rfl) (by kernel_rfl) (by kernel_rfl) (Or.inl ⟨by rfl, fun w' hSw => ?_⟩) VS ?_
            rotate_left
            · go_simp
              all_goals with_reducible rfl
            simp only [Act.put, List.setIfInBounds_toArray, List.set_cons_zero, List.set_cons_succ]
            refine ord_done (by kernel_rfl) ?_ _
            go_wp2_with fail
            go_meet
            case rel => exact ⟨rfl, VS⟩
        · go_simp
        · simp only [Act.put, List.setIfInBounds_toArray, List.set_cons_zero, List.set_cons_succ]
          obtain ⟨gz, hgz⟩ : ∃ gz, (x7.alloc (.cells #[.bool false, .int .u64 0, .int .u64 0, .int .i64 2] 26)).drew.heap.size = gz := ⟨_, rfl⟩
          have BZ0 : Blk ((x7.alloc (.cells #[.bool false, .int .u64 0, .int .u64 0, .int .i64 2] 26)).drew.alloc (.cells #[.bool false, .int .u64 0, .int .u64 0, .int .i64 0] 26)) gz 26 #[.bool false, .int .u64 0, .int .u64 0, .int .i64 0] := by rw [← hgz]; exact Blk.new _ _ _
          have HNE := HB.ne_new VD (g := gz) (by omega)
          have HGZ : w.heap.size ≤ gz := by have := VD.1.size; omega
          have VA2 := VD.alloc (.cells #[.bool false, .int .u64 0, .int .u64 0, .int .i64 0] 26)
          rw [hgz]
          clear hgz
          refine ord_call (f := 6) (args := #[.int .i64 1, .int .i64 0]) (w1 := (x7.alloc (.cells #[.bool false, .int .u64 0, .int .u64 0, .int .i64 2] 26)).drew.alloc (.cells #[.bool false, .int .u64 0, .int .u64 0, .int .i64 0] 26)) (i := 1) (fuel := 6) (by simp; rfl) (by kernel_rfl) (by rfl) ?_ ?_
          · go_simp
            all_goals with_reducible rfl
          refine (dOf_k 1 0 0 0 false 1 _ (by decide) (by decide) (by decide) (by decide) (by decide) (by decide)).mono ?_
          rintro e xa ⟨_, rfl, rfl, hb⟩
          have VA := VA2.below hb
          have BZ1 := BZ0.below hb BZ0.lt
          clear hb BZ0
          refine ⟨_, rfl, VA, ?_⟩
          simp only [Act.put, List.setIfInBounds_toArray, List.set_cons_zero, List.set_cons_succ]
          refine ord_call (f := 5) (args := #[.agg #[.bool false, .int .u64 5076944270305263615, .int .u64 54210108624, .int .i64 0], .agg #[.bool false, .int .u64 1, .int .u64 0, .int .i64 0]]) (w1 := xa) (i := 2) (fuel := 5) (by simp; rfl) (by kernel_rfl) (by rfl) ?_ ?_
          · go_simp
            all_goals with_reducible rfl
          refine (add_k (V := .tuple #[.agg #[.bool false, .int .u64 0, .int .u64 0, .int .i64 0], .int .i64 3]) (u64_k (by decide)) (u64_k (by decide)) (u64_k (by decide)) (u64_k (by decide)) (by kernel_rfl)).mono ?_
          rintro e xb ⟨_, rfl, rfl, hb⟩
          have VB := VA.below hb
          have BZ := BZ1.below hb BZ1.lt
          clear hb BZ1
          refine ⟨_, rfl, VB, ?_⟩
          simp only [Act.put, List.setIfInBounds_toArray, List.set_cons_zero, List.set_cons_succ]
          obtain ⟨lz, ⟨z0, z1, z2, z3⟩, y0, y1, y2, y3⟩ := blk_cells BZ
          have VS := HB.sub (bs' := [(x7.heap.size, 26, #[.bool false, .int .u64 0, .int .u64 0, .int .i64 2]), (x1.heap.size, 26, #[.bool false, .int .u64 5076944270305263615, .int .u64 54210108624, .int .i64 0])]) (HB.set4 (a' := .bool false) (b' := .int .u64 0) (c' := .int .u64 0) (d' := .int .i64 0) VB BZ HGZ HNE) (by simp)
          refine ord_take (v := ?_) (i := 3) (fuel := 4) (by simp; rfl) (by kernel_rfl) (by kernel_rfl) (by kernel_rfl) (Or.inl ⟨by rfl, fun w' hSw => ?_⟩) VB ?_
          rotate_left
          · go_simp
            all_goals with_reducible rfl
          simp only [Act.put, List.setIfInBounds_toArray, List.set_cons_zero, List.set_cons_succ]
          refine ord_take (v := ?_) (i := 4) (fuel := 3) (by simp; rfl) (by kernel_rfl) (by kernel_rfl) (by kernel_rfl) (Or.inl ⟨by rfl, fun w' hSw => ?_⟩) VB ?_
          rotate_left
          · go_simp
            all_goals with_reducible rfl
          simp only [Act.put, List.setIfInBounds_toArray, List.set_cons_zero, List.set_cons_succ]
          refine ord_take (v := ?_) (i := 5) (fuel := 2) (by simp; rfl) (by kernel_rfl) (by kernel_rfl) (by kernel_rfl) (Or.inl ⟨by rfl, fun w' hSw => ?_⟩) VB ?_
          rotate_left
          · go_simp
            all_goals with_reducible rfl
          simp only [Act.put, List.setIfInBounds_toArray, List.set_cons_zero, List.set_cons_succ]
          refine ord_skip (w' := ((((xb.setCell ⟨gz, 0, none⟩ (.bool false)).setCell ⟨gz, 1, none⟩ (.int .u64 0)).setCell ⟨gz, 2, none⟩ (.int .u64 0)).setCell ⟨gz, 3, none⟩ (.int .i64 0))) (i := 7) (fuel := 1) (by simp; rfl) (by kernel_rfl) (by rfl) rfl ?_ VS ?_
          · go_simp
          clear lz z0 z1 z2 z3 y0 y1 y2 y3
          refine ord_take (v := ?_) (i := 8) (fuel := 0) (by simp; rfl) (by kernel_rfl) (by kernel_rfl) (by kernel_rfl) (Or.inl ⟨by rfl, fun w' hSw => ?_⟩) VS ?_
          rotate_left
          · go_simp
            all_goals with_reducible rfl
          simp only [Act.put, List.setIfInBounds_toArray, List.set_cons_zero, List.set_cons_succ]
          refine ord_done (by kernel_rfl) ?_ _
          go_wp2_with fail
          go_meet
          case rel => exact ⟨rfl, VS⟩
      case rest => as_aux_lemma =>
        obtain ⟨rfl, hV⟩ := hcut
        have V9 := hV
        clear hV V8
        go_wp2_with fail
        (with_reducible refine (dOf_k (-15) 1 1 1 true 15 _ (by decide) (by decide) (by decide) (by decide) (by decide) (by decide)).mono ?_)
        rintro e x10 ⟨_, rfl, rfl, hb⟩
        have V10 := V9.below hb
        clear hb V9
        go_wp2_with fail
        (with_reducible refine (dOf_k 4 2 2 2 false 4 _ (by decide) (by decide) (by decide) (by decide) (by decide) (by decide)).mono ?_)
        rintro e x11 ⟨_, rfl, rfl, hb⟩
        have V11 := V10.below hb
        clear hb V10
        go_wp2_with fail
        (with_reducible refine (mul_k (V := .tuple #[.agg #[.bool true, .int .u64 60, .int .u64 0, .int .i64 3], .int .i64 0]) (u64_k (by decide)) (u64_k (by decide)) (u64_k (by decide)) (u64_k (by decide)) (by kernel_rfl)).mono ?_)
        rintro e x12 ⟨_, rfl, rfl, hb⟩
        have V12 := V11.below hb
        clear hb V11
        have V13 := V12.push #[.bool true, .int .u64 60, .int .u64 0, .int .i64 3] 26
        clear V12
        go_wp2_with fail
        (with_reducible refine (dOf_k 1 5 5 5 false 1 _ (by decide) (by decide) (by decide) (by decide) (by decide) (by decide)).mono ?_)
        rintro e x14 ⟨_, rfl, rfl, hb⟩
        have V14 := V13.below hb
        clear hb V13
        go_wp2_with fail
        (with_reducible refine (dOf_k 1 5 5 5 false 1 _ (by decide) (by decide) (by decide) (by decide) (by decide) (by decide)).mono ?_)
        rintro e x15 ⟨_, rfl, rfl, hb⟩
        have V15 := V14.below hb
        clear hb V14
        go_wp2_with fail
        (with_reducible refine (mul_k (V := .tuple #[.agg #[.bool false, .int .u64 0, .int .u64 0, .int .i64 0], .int .i64 3]) (u64_k (by decide)) (u64_k (by decide)) (u64_k (by decide)) (u64_k (by decide)) (by kernel_rfl)).mono ?_)
        rintro e x16 ⟨_, rfl, rfl, hb⟩
        have V16 := V15.below hb
        clear hb V15
        have V17 := V16.alloc (.cells #[.bool false, .int .u64 0, .int .u64 0, .int .i64 0] 26)
        clear V16
        obtain ⟨ql, q0, q1, q2, q3⟩ := HB.dec (t := 26) (g := x1.heap.size) (a := .bool false) (b := .int .u64 5076944270305263615) (c := .int .u64 54210108624) (d := .int .i64 0) V17 (by simp)
        go_wp2_with fail
        (with_reducible refine (add_k (V := .tuple #[.agg #[.bool false, .int .u64 0, .int .u64 0, .int .i64 0], .int .i64 1]) (u64_k (by decide)) (u64_k (by decide)) (u64_k (by decide)) (u64_k (by decide)) (by kernel_rfl)).mono ?_)
        rintro e x18 ⟨_, rfl, rfl, hb⟩
        have V18 := V17.below hb
        clear hb V17
        clear ql q0 q1 q2 q3
        have V19 := V18.alloc (.cells #[.bool false, .int .u64 0, .int .u64 0, .int .i64 0] 26)
        clear V18
        go_wp2_with fail
        (with_reducible refine (dOf_k 5 1 1 1 false 5 _ (by decide) (by decide) (by decide) (by decide) (by decide) (by decide)).mono ?_)
        rintro e x20 ⟨_, rfl, rfl, hb⟩
        have V20 := V19.below hb
        clear hb V19
        go_wp2_with fail
        (with_reducible refine (scaled_k (V := .tuple #[.agg #[.bool false, .int .u64 500, .int .u64 0, .int .i64 3], .int .i64 0]) (u64_k (by decide)) (u64_k (by decide)) (by kernel_rfl)).mono ?_)
        rintro e x21 ⟨_, rfl, rfl, hb⟩
        have V21 := V20.below hb
        clear hb V20
        have V22 := V21.push #[.bool false, .int .u64 500, .int .u64 0, .int .i64 3] 26
        clear V21
        go_wp2_with fail
        (with_reducible refine (dOf_k 5 1 1 1 false 5 _ (by decide) (by decide) (by decide) (by decide) (by decide) (by decide)).mono ?_)
        rintro e x23 ⟨_, rfl, rfl, hb⟩
        have V23 := V22.below hb
        clear hb V22
        go_wp2_with fail
        (with_reducible refine (scaled_k (V := .tuple #[.agg #[.bool false, .int .u64 0, .int .u64 0, .int .i64 0], .int .i64 1]) (u64_k (by decide)) (u64_k (by decide)) (by kernel_rfl)).mono ?_)
        rintro e x24 ⟨_, rfl, rfl, hb⟩
        have V24 := V23.below hb
        clear hb V23
        have V25 := V24.alloc (.cells #[.bool false, .int .u64 0, .int .u64 0, .int .i64 0] 26)
        clear V24
        obtain ⟨ql, q0, q1, q2, q3⟩ := HB.dec (t := 26) (g := x1.heap.size) (a := .bool false) (b := .int .u64 5076944270305263615) (c := .int .u64 54210108624) (d := .int .i64 0) V25 (by simp)
        go_wp2_with fail
        (with_reducible refine (scaled_k (V := .tuple #[.agg #[.bool false, .int .u64 0, .int .u64 0, .int .i64 0], .int .i64 3]) (u64_k (by decide)) (u64_k (by decide)) (by kernel_rfl)).mono ?_)
        rintro e x26 ⟨_, rfl, rfl, hb⟩
        have V26 := V25.below hb
        clear hb V25
        clear ql q0 q1 q2 q3
        have V27 := V26.alloc (.cells #[.bool false, .int .u64 0, .int .u64 0, .int .i64 0] 26)
        clear V26
        go_wp2_with fail
        (with_reducible refine (dOf_k 1 0 0 0 false 1 _ (by decide) (by decide) (by decide) (by decide) (by decide) (by decide)).mono ?_)
        rintro e x28 ⟨_, rfl, rfl, hb⟩
        have V28 := V27.below hb
        clear hb V27
        go_wp2_with fail
        (with_reducible refine (dOf_k 25 2 2 2 false 25 _ (by decide) (by decide) (by decide) (by decide) (by decide) (by decide)).mono ?_)
        rintro e x29 ⟨_, rfl, rfl, hb⟩
        have V29 := V28.below hb
        clear hb V28
        go_wp2_with fail
        (with_reducible refine (sub_k (V := .tuple #[.agg #[.bool false, .int .u64 75, .int .u64 0, .int .i64 2], .int .i64 0]) (u64_k (by decide)) (u64_k (by decide)) (u64_k (by decide)) (u64_k (by decide)) (by kernel_rfl)).mono ?_)
        rintro e x30 ⟨_, rfl, rfl, hb⟩
        have V30 := V29.below hb
        clear hb V29
        have V31 := V30.push #[.bool false, .int .u64 75, .int .u64 0, .int .i64 2] 26
        clear V30
        go_wp2_with fail
        (with_reducible refine (known_k m _ (cell_keep V31.bel HM.out) (tabIs_below HT.out V31.bel)).mono ?_)
        rintro e x32 ⟨_, rfl, rfl, hb⟩
        have V32 := V31.below hb
        clear hb V31
        obtain ⟨cl, c0, c1, c2, c3⟩ := HB.dec (t := 26) (g := x7.heap.size) (a := .bool false) (b := .int .u64 0) (c := .int .u64 0) (d := .int .i64 2) V32 (by simp)
        obtain ⟨ql, q0, q1, q2, q3⟩ := HB.dec (t := 26) (g := x12.heap.size) (a := .bool true) (b := .int .u64 60) (c := .int .u64 0) (d := .int .i64 3) V32 (by simp)
        go_wp2_with fail
        (with_reducible refine (print_k true 60 0 3 60 [45, 48, 46, 48, 54, 48] _ (u64_k (by decide)) (u64_k (by decide)) (by decide) (by decide) (tabIs_below HT.out V32.bel) (by decide +kernel)).mono ?_)
        rintro e x33 ⟨_, rfl, rfl, hb⟩
        have V33 := V32.below hb
        clear hb V32
        clear ql q0 q1 q2 q3
        clear cl c0 c1 c2 c3
        obtain ⟨ql, q0, q1, q2, q3⟩ := HB.dec (t := 26) (g := x21.heap.size) (a := .bool false) (b := .int .u64 500) (c := .int .u64 0) (d := .int .i64 3) V33 (by simp)
        go_wp2_with fail
        (with_reducible refine (print_k false 500 0 3 500 [48, 46, 53, 48, 48] _ (u64_k (by decide)) (u64_k (by decide)) (by decide) (by decide) (tabIs_below HT.out V33.bel) (by decide +kernel)).mono ?_)
        rintro e x34 ⟨_, rfl, rfl, hb⟩
        have V34 := V33.below hb
        clear hb V33
        clear ql q0 q1 q2 q3
        obtain ⟨ql, q0, q1, q2, q3⟩ := HB.dec (t := 26) (g := x30.heap.size) (a := .bool false) (b := .int .u64 75) (c := .int .u64 0) (d := .int .i64 2) V34 (by simp)
        go_wp2_with fail
        (with_reducible refine (print_k false 75 0 2 75 [48, 46, 55, 53] _ (u64_k (by decide)) (u64_k (by decide)) (by decide) (by decide) (tabIs_below HT.out V34.bel) (by decide +kernel)).mono ?_)
        rintro e x35 ⟨_, rfl, rfl, hb⟩
        have V35 := V34.below hb
        clear hb V34
        clear ql q0 q1 q2 q3
        go_wp2_with fail
        (with_reducible refine (dOf_k 10 1 1 1 false 10 _ (by decide) (by decide) (by decide) (by decide) (by decide) (by decide)).mono ?_)
        rintro e x36 ⟨_, rfl, rfl, hb⟩
        have V36 := V35.below hb
        clear hb V35
        go_wp2_with fail
        (with_reducible refine (dOf_k 1 0 0 0 false 1 _ (by decide) (by decide) (by decide) (by decide) (by decide) (by decide)).mono ?_)
        rintro e x37 ⟨_, rfl, rfl, hb⟩
        have V37 := V36.below hb
        clear hb V36
        go_wp2_with fail
        (with_reducible refine (cmp_k false 10 1 10 false 1 0 1 1 0 _ (by decide) (by decide) (by decide) (by decide) (by decide) (by decide) (by decide) (by decide) (by decide) (by decide +kernel)).mono ?_)
        rintro e x38 ⟨_, rfl, rfl, hb⟩
        have V38 := V37.below hb
        clear hb V37
        go_wp2_with fail
        (with_reducible refine (dOf_k (-1) 0 0 0 true 1 _ (by decide) (by decide) (by decide) (by decide) (by decide) (by decide)).mono ?_)
        rintro e x39 ⟨_, rfl, rfl, hb⟩
        have V39 := V38.below hb
        clear hb V38
        go_wp2_with fail
        (with_reducible refine (dOf_k 1 5 5 5 false 1 _ (by decide) (by decide) (by decide) (by decide) (by decide) (by decide)).mono ?_)
        rintro e x40 ⟨_, rfl, rfl, hb⟩
        have V40 := V39.below hb
        clear hb V39
        go_wp2_with fail
        (with_reducible refine (cmp_k true 1 0 (-1) false 1 5 1 5 (-1) _ (by decide) (by decide) (by decide) (by decide) (by decide) (by decide) (by decide) (by decide) (by decide) (by decide +kernel)).mono ?_)
        rintro e x41 ⟨_, rfl, rfl, hb⟩
        have V41 := V40.below hb
        clear hb V40
        go_wp2_with fail
        (with_reducible refine (dOf_k (-3) 2 2 2 true 3 _ (by decide) (by decide) (by decide) (by decide) (by decide) (by decide)).mono ?_)
        rintro e x42 ⟨_, rfl, rfl, hb⟩
        have V42 := V41.below hb
        clear hb V41
        go_wp2_with fail
        (with_reducible refine (sign_k true 3 2 (-3) (-1) _ (by decide) (by decide) (by decide) (by decide) (by decide +kernel)).mono ?_)
        rintro e x43 ⟨_, rfl, rfl, hb⟩
        have V43 := V42.below hb
        clear hb V42
        go_wp2_with fail
        (with_reducible refine (dOf_k 0 2 2 2 false 0 _ (by decide) (by decide) (by decide) (by decide) (by decide) (by decide)).mono ?_)
        rintro e x44 ⟨_, rfl, rfl, hb⟩
        have V44 := V43.below hb
        clear hb V43
        go_wp2_with fail
        (with_reducible refine (neg_k (V := .agg #[.bool false, .int .u64 0, .int .u64 0, .int .i64 2]) (u64_k (by decide)) (u64_k (by decide)) (by kernel_rfl)).mono ?_)
        rintro e x45 ⟨_, rfl, rfl, hb⟩
        have V45 := V44.below hb
        clear hb V44
        go_wp2_with fail
        (with_reducible refine (dOf_k 0 2 2 2 false 0 _ (by decide) (by decide) (by decide) (by decide) (by decide) (by decide)).mono ?_)
        rintro e x46 ⟨_, rfl, rfl, hb⟩
        have V46 := V45.below hb
        clear hb V45
        go_wp2_with fail
        (with_reducible refine (right_k true 0 0 0 false _ (u64_k (by decide)) (u64_k (by decide)) (by decide +kernel)).mono ?_)
        rintro e x47 ⟨_, rfl, rfl, hb⟩
        have V47 := V46.below hb
        clear hb V46
        go_wp2_with fail
        (with_reducible refine (print_no true 0 0 0 _ (u64_k (by decide)) (u64_k (by decide)) (by decide +kernel)).mono ?_)
        rintro e x48 ⟨_, rfl, rfl, hb⟩
        have V48 := V47.below hb
        clear hb V47
        go_wp2_with fail
        (with_reducible refine (dOf_k (-5) 99 99 9 true 5 _ (by decide) (by decide) (by decide) (by decide) (by decide) (by decide)).mono ?_)
        rintro e x49 ⟨_, rfl, rfl, hb⟩
        have V49 := V48.below hb
        clear hb V48
        have hfld : ∀ w : World, (Instr.field 26 (.agg #[.bool true, .int .u64 5, .int .u64 0, .int .i64 9]) 2).run Tryd.prog w = .ok (.int .i64 9) w := fun w => by kernel_rfl
        go_wp2
        go_ret
        exact ⟨_, rfl, rfl, V49.bel⟩
end Go.Proofs.YtlhceelkefgjhaaDoor
