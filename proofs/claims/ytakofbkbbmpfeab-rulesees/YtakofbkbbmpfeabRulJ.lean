/- pyxlaw10.small, known. -/
import Derived.Test.YtakofbkbbmpfeabRulI
namespace Go.Proofs.Ytakofbkbbmpfeab
open Go.RowKit
def smallP (L : List RuleP) : PolP := ⟨[⟨1, 0, -1, 10000⟩, ⟨2, 0, 0, 5000⟩], [3], [⟨3, 2, 1⟩, ⟨1, 1, 0⟩], [-1], L⟩
theorem blk_rd {w : World} {g B n : Nat} {T : TypeId} {cs : Array Value} {vs : List Value} (h : Blk w g T cs) (hg : g < B) (hv : cs.toList = vs) : RdR w B (some ⟨g, 0, none⟩) n vs := fun _ => ⟨g, 0, rfl, hg, fun j u hu => by
  rw [Nat.zero_add, h.cell j, ← hu, ← hv]
  simp⟩
theorem nil_rd (w : World) (B : Nat) (A : Option Addr) (vs : List Value) : RdR w B A 0 vs := fun h => absurd h (by decide)
/-- Where a small policy's slices lie. -/
def smS (g : Nat) (Ar : Option Addr) (cr : Nat) : Slp := ⟨some ⟨g + 1, 0, none⟩, 2, some ⟨g + 2, 0, none⟩, 1, some ⟨g + 3, 0, none⟩, 2, some ⟨g + 4, 0, none⟩, 1, Ar, cr⟩
def entC : Array Value := #[.int .i64 1, .int .i64 0, .int .i64 (-1), .int .i64 10000, .int .i64 2, .int .i64 0, .int .i64 0, .int .i64 5000]
def whoC : Array Value := #[.int .u64 3, .int .i64 2, .int .u64 1, .int .u64 1, .int .i64 1, .int .u64 0]
def SmB (w : World) (g : Nat) : Prop := Blk w (g + 1) 38 entC ∧ Blk w (g + 2) 31 #[.int .u64 3] ∧ Blk w (g + 3) 41 whoC ∧ Blk w (g + 4) 3 #[.int .i64 (-1)]
theorem SmB.below {w w' : World} {g : Nat} (h : SmB w g) (hb : Below w.heap.size w w') : SmB w' g := ⟨h.1.below hb h.1.lt, h.2.1.below hb h.2.1.lt, h.2.2.1.below hb h.2.2.1.lt, h.2.2.2.below hb h.2.2.2.lt⟩
theorem SmB.far {w : World} {g : Nat} (h : SmB w g) {p : Addr} (hp : g + 4 < p.block) (v : Value) : SmB (w.setCell p v) g := ⟨h.1.far (by omega) v, h.2.1.far (by omega) v, h.2.2.1.far (by omega) v, h.2.2.2.far (by omega) v⟩
theorem SmB.rd {w : World} {g B : Nat} (h : SmB w g) (hg : g + 4 < B) {Ar : Option Addr} {cr : Nat} {L : List RuleP} (hr : RdR w B Ar L.length (L.flatMap ruleV)) : PolRd w B (smS g Ar cr) (smallP L) :=
  ⟨blk_rd h.1 (by omega) rfl, blk_rd h.2.1 (by omega) rfl, blk_rd h.2.2.1 (by omega) rfl, rd_il (blk_rd h.2.2.2 hg rfl) rfl (Nat.le_refl _), hr⟩
theorem pol5 {w : World} {g : Nat} {a b c d e : Value} (h : Blk w g 28 #[a, b, c, d, e]) : g < w.heap.size ∧ w.cell? ⟨g, 0, none⟩ = some a ∧ w.cell? ⟨g, 1, none⟩ = some b ∧ w.cell? ⟨g, 2, none⟩ = some c ∧ w.cell? ⟨g, 3, none⟩ = some d ∧ w.cell? ⟨g, 4, none⟩ = some e :=
  ⟨h.lt, (h.cell 0).trans rfl, (h.cell 1).trans rfl, (h.cell 2).trans rfl, (h.cell 3).trans rfl, (h.cell 4).trans rfl⟩
def SmRet (w : World) (e : Ending) (w' : World) : Prop := ∃ g, w.heap.size ≤ g ∧ e = .returned (.agg #[.slice (some ⟨g + 1, 0, none⟩) 2 2, .slice (some ⟨g + 2, 0, none⟩) 1 1, .slice (some ⟨g + 3, 0, none⟩) 2 2, .slice (some ⟨g + 4, 0, none⟩) 1 1, .slice none 0 0]) ∧ SmB w' g ∧ Below w.heap.size w w'
theorem blk_at {V : World} {n : Nat} {cs : Array Value} {t : TypeId} (h : V.heap.size = n) : Blk (V.alloc (.cells cs t)) n t cs := h ▸ Blk.new V t cs
set_option maxRecDepth 100000 in
set_option maxHeartbeats 1600000 in
theorem small_c (w : World) : Calls Try.prog 20 #[] w (SmRet w) := by
  go_enter Try.func20, Try.ntmps20
  go_wp2
  refine bodyPost_ret (v := .agg #[.slice (some ⟨w.heap.size + 1, 0, none⟩) 2 2, .slice (some ⟨w.heap.size + 2, 0, none⟩) 1 1, .slice (some ⟨w.heap.size + 3, 0, none⟩) 2 2, .slice (some ⟨w.heap.size + 4, 0, none⟩) 1 1, .slice none 0 0]) (by simp [results, Try.results20, go_sem]) rfl ⟨w.heap.size, Nat.le_refl _, rfl, ⟨?_, ?_, ?_, ?_⟩, ?_⟩
  · exact (((blk_at (by simp)).alloc _).alloc _).alloc _
  · exact ((blk_at (by simp)).alloc _).alloc _
  · exact (blk_at (by simp)).alloc _
  · exact blk_at (by simp)
  · exact bel_alloc (bel_alloc (bel_alloc (bel_alloc (bel_alloc (Below.refl _ _) _) _) _) _) _
theorem wd_small {L : List RuleP} (h : L.length ≤ 10) (hr : ∀ r ∈ L, RuleW r) : PolWd (smallP L) := by
  refine ⟨?_, ?_, hr, Nat.le_of_ble_eq_true rfl, Nat.le_of_ble_eq_true rfl, Nat.le_of_ble_eq_true rfl, Nat.le_of_ble_eq_true rfl, ?_⟩
  · intro g hg
    have : g = 3 := by simpa [smallP] using hg
    omega
  · intro x hx
    have : x = ⟨3, 2, 1⟩ ∨ x = ⟨1, 1, 0⟩ := by simpa [smallP] using hx
    rcases this with rfl | rfl <;> exact ⟨by decide, by decide⟩
  · show L.length ≤ 1000000
    omega
set_option maxRecDepth 100000 in
set_option maxHeartbeats 3200000 in
theorem known_c (w : World) : Calls Try.prog 11 #[] w (RetB w true) := by
  have HSM := Lib.hid (fun V : World => small_c V)
  go_enter Try.func11, Try.ntmps11
  go_wp2_with fail
  (with_reducible refine (HSM.out _).mono ?_)
  rintro e w1 ⟨g, hg, rfl, hS, hb⟩
  have HB1 := Lib.hid hb
  have HS1 := Lib.hid hS
  have hgl : g + 4 < w1.heap.size := hS.2.2.2.lt
  clear hb hS
  obtain ⟨gq, hgq⟩ : ∃ x, w1.heap.size = x := ⟨_, rfl⟩
  obtain ⟨W2, hW2⟩ : ∃ V, w1.alloc (.cells #[.slice (some ⟨g + 1, 0, none⟩) 2 2, .slice (some ⟨g + 2, 0, none⟩) 1 1, .slice (some ⟨g + 3, 0, none⟩) 2 2, .slice (some ⟨g + 4, 0, none⟩) 1 1, .slice none 0 0] 28) = V := ⟨_, rfl⟩
  have HP2 := Lib.hid (show Blk W2 gq 28 #[.slice (some ⟨g + 1, 0, none⟩) 2 2, .slice (some ⟨g + 2, 0, none⟩) 1 1, .slice (some ⟨g + 3, 0, none⟩) 2 2, .slice (some ⟨g + 4, 0, none⟩) 1 1, .slice none 0 0] from by rw [← hW2, ← hgq]; exact Blk.new _ _ _)
  have HX2 := Lib.hid (show Below w1.heap.size w1 W2 from by rw [← hW2]; exact bel_alloc (Below.refl _ _) _)
  have HB2 := Lib.hid (HB1.out.trans (HX2.out.mono HB1.out.size))
  have HS2 := Lib.hid (HS1.out.below HX2.out)
  have h2 : W2.heap.size = gq + 1 := by rw [← hW2, ← hgq]; simp
  have HP3 := Lib.hid (fun (V : World) (hb : Below W2.heap.size W2 V) => ((HS2.out.below hb).rd (B := W2.heap.size) (by rw [h2]; omega) (Ar := none) (cr := 0) (L := []) (nil_rd _ _ _ _)).more hb.size)
  have HM1 := Lib.hid (show Calls Try.prog 21 #[.agg #[.slice (some ⟨g + 1, 0, none⟩) 2 2, .slice (some ⟨g + 2, 0, none⟩) 1 1, .slice (some ⟨g + 3, 0, none⟩) 2 2, .slice (some ⟨g + 4, 0, none⟩) 1 1, .slice none 0 0], .int .i64 0, .int .i64 1, .int .i64 0] W2 (RetB W2 false) from ruMay_c (smS g none 0) (smallP []) W2 2 1 2 1 0 (HP3.out W2 (Below.refl _ _)) (wd_small (by decide) (by simp)) rfl rfl rfl rfl rfl true (right_dec _ _ (by decide +kernel)) 0 1 0 false (by decide +kernel))
  have HW2 := Lib.hid hW2
  have HGQ := Lib.hid hgq
  clear hW2 hgq
  go_wp2_with fail
  rw [HW2.out, HGQ.out]
  (with_reducible refine HM1.out.mono ?_)
  rintro e w3 ⟨rfl, hb⟩
  have HX3 := Lib.hid hb
  have HB3 := Lib.hid (HB2.out.trans (hb.mono HB2.out.size))
  have HQ3 := Lib.hid (HP2.out.below hb HP2.out.lt)
  have HS3 := Lib.hid (HS2.out.below hb)
  clear hb HW2 HM1 HP3
  obtain ⟨l2, y0, y1, y2, y3, y4⟩ := pol5 HQ3.out
  have f4 := HQ3.out.frozen 4
  have h3 : gq < w3.heap.size := l2
  obtain ⟨gr, hgr⟩ : ∃ x, w3.heap.size = x := ⟨_, rfl⟩
  obtain ⟨W4, hW4⟩ : ∃ V, (w3.setCell ⟨gq, 4, none⟩ (.slice (some ⟨gr, 0, none⟩) 1 1)).alloc (.cells #[.int .i64 1, .int .i64 0, .int .i64 1, .int .i64 (-1), .int .i64 0, .int .i64 0, .bool false, .int .u64 0, .int .u64 0, .int .i64 0, .int .u64 0, .int .i64 0] 51) = V := ⟨_, rfl⟩
  have HX4 := Lib.hid (show Below w.heap.size w W4 from by rw [← hW4]; exact bel_alloc (HB3.out.setCell (p := ⟨gq, 4, none⟩) (by have := HB1.out.size; have := HGQ.out; show w.heap.size ≤ gq; omega) _) _)
  have HP4 := Lib.hid (show Blk W4 gq 28 #[.slice (some ⟨g + 1, 0, none⟩) 2 2, .slice (some ⟨g + 2, 0, none⟩) 1 1, .slice (some ⟨g + 3, 0, none⟩) 2 2, .slice (some ⟨g + 4, 0, none⟩) 1 1, .slice (some ⟨gr, 0, none⟩) 1 1] from by rw [← hW4]; have h := (HQ3.out.set_ 4 (.slice (some ⟨gr, 0, none⟩) 1 1)).alloc (.cells #[.int .i64 1, .int .i64 0, .int .i64 1, .int .i64 (-1), .int .i64 0, .int .i64 0, .bool false, .int .u64 0, .int .u64 0, .int .i64 0, .int .u64 0, .int .i64 0] 51); simpa using h)
  have HS4 := Lib.hid (show SmB W4 g from by rw [← hW4]; exact (HS3.out.far (p := ⟨gq, 4, none⟩) (by have := HGQ.out; show g + 4 < gq; omega) _).below (bel_alloc (Below.refl _ _) _))
  have HR4 := Lib.hid (show Blk W4 gr 51 #[.int .i64 1, .int .i64 0, .int .i64 1, .int .i64 (-1), .int .i64 0, .int .i64 0, .bool false, .int .u64 0, .int .u64 0, .int .i64 0, .int .u64 0, .int .i64 0] from by rw [← hW4]; exact blk_at (by simp; exact hgr))
  have h4 : W4.heap.size = gr + 1 := by rw [← hW4, ← hgr]; simp
  have HW4 := Lib.hid hW4
  have HGR := Lib.hid hgr
  clear hW4 hgr
  go_upto_region 4 with fail
  rw [HGR.out, HW4.out]
  clear l2 y0 y1 y2 y3 y4 f4 HW4 HS3 HQ3 HX3
  have HPR := Lib.hid (fun (V : World) (hb : Below W4.heap.size W4 V) => ((HS4.out.below hb).rd (B := W4.heap.size) (by have := HS4.out.2.2.2.lt; exact this) (Ar := (some ⟨gr, 0, none⟩)) (cr := 1) (L := [actR 1 0 1 (-1)]) (blk_rd (HR4.out.below hb HR4.out.lt) HR4.out.lt rfl)).more hb.size)
  have hwd := Lib.hid (wd_small (L := [actR 1 0 1 (-1)]) (by decide) (by intro r hr; have h1 : r = actR 1 0 1 (-1) := (by simpa using hr); subst h1; exact ⟨by decide, by decide, by decide⟩))
  have HRI := Lib.hid (fun (V : World) (hb : Below W4.heap.size W4 V) => show Calls Try.prog 15 #[.agg #[.slice (some ⟨g + 1, 0, none⟩) 2 2, .slice (some ⟨g + 2, 0, none⟩) 1 1, .slice (some ⟨g + 3, 0, none⟩) 2 2, .slice (some ⟨g + 4, 0, none⟩) 1 1, .slice (some ⟨gr, 0, none⟩) 1 1]] V (RetB V true) from ruRight_c (smS g (some ⟨gr, 0, none⟩) 1) (smallP [actR 1 0 1 (-1)]) V 2 1 2 1 1 (HPR.out V hb) hwd.out rfl rfl rfl rfl rfl true (right_dec _ _ (by decide +kernel)))
  have HMA := Lib.hid (fun (V : World) (hb : Below W4.heap.size W4 V) => show Calls Try.prog 21 #[.agg #[.slice (some ⟨g + 1, 0, none⟩) 2 2, .slice (some ⟨g + 2, 0, none⟩) 1 1, .slice (some ⟨g + 3, 0, none⟩) 2 2, .slice (some ⟨g + 4, 0, none⟩) 1 1, .slice (some ⟨gr, 0, none⟩) 1 1], .int .i64 0, .int .i64 1, .int .i64 0] V (RetB V true) from ruMay_c (smS g (some ⟨gr, 0, none⟩) 1) (smallP [actR 1 0 1 (-1)]) V 2 1 2 1 1 (HPR.out V hb) hwd.out rfl rfl rfl rfl rfl true (right_dec _ _ (by decide +kernel)) 0 1 0 true (by decide +kernel))
  have HMB := Lib.hid (fun (V : World) (hb : Below W4.heap.size W4 V) => show Calls Try.prog 21 #[.agg #[.slice (some ⟨g + 1, 0, none⟩) 2 2, .slice (some ⟨g + 2, 0, none⟩) 1 1, .slice (some ⟨g + 3, 0, none⟩) 2 2, .slice (some ⟨g + 4, 0, none⟩) 1 1, .slice (some ⟨gr, 0, none⟩) 1 1], .int .i64 1, .int .i64 1, .int .i64 0] V (RetB V false) from ruMay_c (smS g (some ⟨gr, 0, none⟩) 1) (smallP [actR 1 0 1 (-1)]) V 2 1 2 1 1 (HPR.out V hb) hwd.out rfl rfl rfl rfl rfl true (right_dec _ _ (by decide +kernel)) 1 1 0 false (by decide +kernel))
  obtain ⟨l2, y0, y1, y2, y3, y4⟩ := pol5 HP4.out
  go_wp2_with fail
  (with_reducible refine (HRI.out _ (Below.refl _ _)).mono ?_)
  rintro e w5 ⟨rfl, hb⟩
  have HX5 := Lib.hid hb
  clear hb l2 y0 y1 y2 y3 y4
  obtain ⟨l2, y0, y1, y2, y3, y4⟩ := pol5 (HP4.out.below HX5.out HP4.out.lt)
  go_wp2_with fail
  (with_reducible refine (HMA.out _ HX5.out).mono ?_)
  rintro e w6 ⟨rfl, hb⟩
  have HX6 := Lib.hid (HX5.out.trans (hb.mono HX5.out.size))
  clear hb l2 y0 y1 y2 y3 y4
  obtain ⟨l2, y0, y1, y2, y3, y4⟩ := pol5 (HP4.out.below HX6.out HP4.out.lt)
  go_wp2_with fail
  (with_reducible refine (HMB.out _ HX6.out).mono ?_)
  rintro e w7 ⟨rfl, hb⟩
  have HX7 := Lib.hid (HX4.out.trans ((HX6.out.trans (hb.mono HX6.out.size)).mono HX4.out.size))
  clear hb l2 y0 y1 y2 y3 y4
  go_wp2
  go_ret
  exact ⟨rfl, HX7.out⟩
end Go.Proofs.Ytakofbkbbmpfeab
