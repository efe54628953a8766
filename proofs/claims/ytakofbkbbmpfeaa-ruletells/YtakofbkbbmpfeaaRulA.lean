/- rule.among, rightEnt, rightUnit, rightMay, rightRelease, rightRule. -/
import Derived.Test.YtakofbkbbmpfeaaPolE
import Derived.Test.YtakofbkbbmpfeaaCmpA
namespace Go.Proofs.Ytakofbkbbmpfeaa
open Go.RowKit
theorem false_of {β : Bool} {Q : Prop} (h : β = true ↔ Q) (n : ¬ Q) : β = false := by
  cases β with
  | false => rfl
  | true => exact absurd (h.1 rfl) n
@[go_sem] theorem run_eq2u (a b c d : Int) (w : World) : (Op.equalIn 9998 47 (.agg #[.int .u64 a, .int .u64 b]) (.agg #[.int .u64 c, .int .u64 d])).run Try.prog w = .ok (eqW2 a b c d) w := by
  obtain ⟨i, hi⟩ := info_w
  rw [run_equalIn_array w 9997 _ _ Try.underlying47 hi, cells_w]
  simp only [List.range, List.range.loop, Op.eqItems]
  simp [go_sem, Try.underlying31, eqW2]
  by_cases h0 : a = c <;> by_cases h1 : b = d <;> simp [h0, h1]
theorem among_c (k m : Int) (β : Bool) (w : World) (hβ : (decide (0 ≤ k) && decide (k < m)) = β) : Calls Try.prog 31 #[.int .i64 k, .int .i64 m] w fun e w' => e = .returned (.bool β) ∧ w = w' := by
  by_cases h0 : 0 ≤ k
  · obtain ⟨γ, hγ⟩ : ∃ γ, decide (k < m) = γ := ⟨_, rfl⟩
    have hE := Lib.hid (show γ = β by rw [← hβ, decide_eq_true h0, Bool.true_and, hγ])
    clear hβ
    cases γ
    · have h1 : ¬ k < m := of_decide_eq_false hγ
      clear hγ
      go_enter Try.func31, Try.ntmps31
      go_wp2
      go_ret
      exact ⟨by rw [← hE.out]; rfl, rfl⟩
    · have h1 : k < m := of_decide_eq_true hγ
      clear hγ
      go_enter Try.func31, Try.ntmps31
      go_wp2
      go_ret
      exact ⟨by rw [← hE.out]; rfl, rfl⟩
  · obtain rfl : β = false := by rw [← hβ, decide_eq_false h0, Bool.false_and]
    go_enter Try.func31, Try.ntmps31
    go_wp2
    go_ret
    exact ⟨rfl, rfl⟩
set_option maxRecDepth 100000 in
set_option maxHeartbeats 3200000 in
theorem ruEnt_c (e : EntP) (k : Nat) (w : World) (β : Bool) (hβ : β = true ↔ EntOk k e) :
    Calls Try.prog 44 #[.agg (entV e).toArray, .int .i64 (k : Int)] w (RetB w β) := by
  have HB := Lib.hid hβ
  clear hβ
  obtain ⟨lv, sc, pa, sh⟩ := e
  show Calls Try.prog 44 #[.agg #[.int .i64 lv, .int .i64 sc, .int .i64 pa, .int .i64 sh], .int .i64 (k : Int)] w (RetB w β)
  unfold EntOk at HB
  dsimp only at HB
  have HA := Lib.hid (fun (V : World) (β : Bool) (h : (decide (0 ≤ pa) && decide (pa < (k : Int))) = β) => among_c pa (k : Int) β V h)
  by_cases j1 : 0 ≤ lv
  · skip
    by_cases j2 : lv ≤ 3
    · skip
      by_cases j3 : 0 ≤ sc
      · skip
        by_cases j4 : sc ≤ 4
        · skip
          by_cases hp : pa = -1
          · skip
            subst hp
            by_cases hs : sh = 10000
            · have hsb : (sh == 10000) = true := by simp; omega
              obtain rfl : β = true := HB.out.2 (by refine ⟨j1, j2, j3, j4, ?_, ?_, ?_, ?_, ?_⟩ <;> omega)
              clear hs
              go_enter Try.func44, Try.ntmps44
              go_wp2
              go_ret
              first | exact ⟨rfl, bel_alloc (Below.refl _ _) _⟩ | exact ⟨by simp; omega, bel_alloc (Below.refl _ _) _⟩
            · have hsb : (sh == 10000) = false := by simp; omega
              obtain rfl : β = false := false_of HB.out (by rintro ⟨q1, q2, q3, q4, q5, q6, q7, q8, q9⟩; omega)
              clear hs
              go_enter Try.func44, Try.ntmps44
              go_wp2
              go_ret
              first | exact ⟨rfl, bel_alloc (Below.refl _ _) _⟩ | exact ⟨by simp; omega, bel_alloc (Below.refl _ _) _⟩
          · have hpb : (pa == -1) = false := by simp; omega
            by_cases j5 : 0 ≤ pa
            · skip
              by_cases j6 : pa < (k : Int)
              · skip
                by_cases j7 : 1 ≤ sh
                · skip
                  by_cases j8 : sh ≤ 10000
                  · skip
                    obtain rfl : β = true := HB.out.2 (by refine ⟨j1, j2, j3, j4, ?_, ?_, ?_, ?_, ?_⟩ <;> omega)
                    have HAm := Lib.hid (fun V => HA.out V true (by rw [decide_eq_true j5, decide_eq_true j6]; rfl))
                    clear HA
                    go_enter Try.func44, Try.ntmps44
                    go_wp2_with fail
                    (with_reducible refine (HAm.out _).mono ?_)
                    rintro e w1 ⟨rfl, rfl⟩
                    go_wp2
                    go_ret
                    first | exact ⟨rfl, bel_alloc (Below.refl _ _) _⟩ | exact ⟨by simp; omega, bel_alloc (Below.refl _ _) _⟩
                  · skip
                    obtain rfl : β = false := false_of HB.out (by rintro ⟨q1, q2, q3, q4, q5, q6, q7, q8, q9⟩; omega)
                    have HAm := Lib.hid (fun V => HA.out V true (by rw [decide_eq_true j5, decide_eq_true j6]; rfl))
                    clear HA
                    go_enter Try.func44, Try.ntmps44
                    go_wp2_with fail
                    (with_reducible refine (HAm.out _).mono ?_)
                    rintro e w1 ⟨rfl, rfl⟩
                    go_wp2
                    go_ret
                    first | exact ⟨rfl, bel_alloc (Below.refl _ _) _⟩ | exact ⟨by simp; omega, bel_alloc (Below.refl _ _) _⟩
                · skip
                  obtain rfl : β = false := false_of HB.out (by rintro ⟨q1, q2, q3, q4, q5, q6, q7, q8, q9⟩; omega)
                  have HAm := Lib.hid (fun V => HA.out V true (by rw [decide_eq_true j5, decide_eq_true j6]; rfl))
                  clear HA
                  go_enter Try.func44, Try.ntmps44
                  go_wp2_with fail
                  (with_reducible refine (HAm.out _).mono ?_)
                  rintro e w1 ⟨rfl, rfl⟩
                  go_wp2
                  go_ret
                  first | exact ⟨rfl, bel_alloc (Below.refl _ _) _⟩ | exact ⟨by simp; omega, bel_alloc (Below.refl _ _) _⟩
              · skip
                obtain rfl : β = false := false_of HB.out (by rintro ⟨q1, q2, q3, q4, q5, q6, q7, q8, q9⟩; omega)
                have HAm := Lib.hid (fun V => HA.out V false (by rw [decide_eq_false j6, Bool.and_false]))
                clear HA
                go_enter Try.func44, Try.ntmps44
                go_wp2_with fail
                (with_reducible refine (HAm.out _).mono ?_)
                rintro e w1 ⟨rfl, rfl⟩
                go_wp2
                go_ret
                first | exact ⟨rfl, bel_alloc (Below.refl _ _) _⟩ | exact ⟨by simp; omega, bel_alloc (Below.refl _ _) _⟩
            · skip
              obtain rfl : β = false := false_of HB.out (by rintro ⟨q1, q2, q3, q4, q5, q6, q7, q8, q9⟩; omega)
              have HAm := Lib.hid (fun V => HA.out V false (by rw [decide_eq_false j5, Bool.false_and]))
              clear HA
              go_enter Try.func44, Try.ntmps44
              go_wp2_with fail
              (with_reducible refine (HAm.out _).mono ?_)
              rintro e w1 ⟨rfl, rfl⟩
              go_wp2
              go_ret
              first | exact ⟨rfl, bel_alloc (Below.refl _ _) _⟩ | exact ⟨by simp; omega, bel_alloc (Below.refl _ _) _⟩
        · skip
          obtain rfl : β = false := false_of HB.out (by rintro ⟨q1, q2, q3, q4, q5, q6, q7, q8, q9⟩; omega)
          go_enter Try.func44, Try.ntmps44
          go_wp2
          go_ret
          first | exact ⟨rfl, bel_alloc (Below.refl _ _) _⟩ | exact ⟨by simp; omega, bel_alloc (Below.refl _ _) _⟩
      · skip
        obtain rfl : β = false := false_of HB.out (by rintro ⟨q1, q2, q3, q4, q5, q6, q7, q8, q9⟩; omega)
        go_enter Try.func44, Try.ntmps44
        go_wp2
        go_ret
        first | exact ⟨rfl, bel_alloc (Below.refl _ _) _⟩ | exact ⟨by simp; omega, bel_alloc (Below.refl _ _) _⟩
    · skip
      obtain rfl : β = false := false_of HB.out (by rintro ⟨q1, q2, q3, q4, q5, q6, q7, q8, q9⟩; omega)
      go_enter Try.func44, Try.ntmps44
      go_wp2
      go_ret
      first | exact ⟨rfl, bel_alloc (Below.refl _ _) _⟩ | exact ⟨by simp; omega, bel_alloc (Below.refl _ _) _⟩
  · skip
    obtain rfl : β = false := false_of HB.out (by rintro ⟨q1, q2, q3, q4, q5, q6, q7, q8, q9⟩; omega)
    go_enter Try.func44, Try.ntmps44
    go_wp2
    go_ret
    first | exact ⟨rfl, bel_alloc (Below.refl _ _) _⟩ | exact ⟨by simp; omega, bel_alloc (Below.refl _ _) _⟩
set_option maxRecDepth 100000 in
set_option maxHeartbeats 3200000 in
theorem ruUnit_c (neg : Bool) (c0 c1 : Nat) (sc : Int) (w : World) (h0 : c0 < 18446744073709551616) (h1 : c1 < 18446744073709551616) (β : Bool) (hβ : β = true ↔ 0 < signV neg (c0 : Int) (c1 : Int) sc ∧ sc ≤ 2) :
    Calls Try.prog 61 #[.agg #[.bool neg, .int .u64 (c0 : Int), .int .u64 (c1 : Int), .int .i64 sc]] w (RetB w β) := by
  have HB := Lib.hid hβ
  clear hβ
  have HS := Lib.hid (fun (w' : World) => sign_all neg (c0 : Int) (c1 : Int) sc w' ⟨by omega, by omega⟩ ⟨by omega, by omega⟩)
  obtain ⟨s, hs⟩ : ∃ s, signV neg (c0 : Int) (c1 : Int) sc = s := ⟨_, rfl⟩
  rw [hs] at HS HB
  clear hs h0 h1
  obtain ⟨W, hW⟩ : ∃ W, w.alloc (.cells #[.bool neg, .int .u64 (c0 : Int), .int .u64 (c1 : Int), .int .i64 sc] 49) = W := ⟨_, rfl⟩
  obtain ⟨gp, hgp⟩ : ∃ g, w.heap.size = g := ⟨_, rfl⟩
  have HBW := Lib.hid (show Below w.heap.size w W from by rw [← hW]; exact bel_alloc (Below.refl _ _) _)
  have HT := Lib.hid (show Blk W gp 49 #[.bool neg, .int .u64 (c0 : Int), .int .u64 (c1 : Int), .int .i64 sc] from by rw [← hW, ← hgp]; exact Blk.new _ _ _)
  have HW := Lib.hid hW
  have HGP := Lib.hid hgp
  clear hW hgp
  go_enter Try.func61, Try.ntmps61
  go_wp2_with fail
  rw [HW.out, HGP.out]
  (with_reducible refine (HS.out _).mono ?_)
  rintro e w1 ⟨_, rfl, rfl, hb⟩
  have HB1 := Lib.hid (HBW.out.trans (hb.mono HBW.out.size))
  have r3 : w1.cell? ⟨gp, 3, none⟩ = some (.int .i64 sc) := ((HT.out.below hb HT.out.lt).cell 3).trans rfl
  have rl := (HT.out.below hb HT.out.lt).lt
  clear hb HW
  by_cases j1 : 0 < s
  · by_cases j2 : sc ≤ 2
    · obtain rfl : β = true := HB.out.2 ⟨j1, j2⟩
      have hd : decide (sc ≤ 2) = true := decide_eq_true j2
      go_wp2
      go_ret
      exact ⟨by simp, HB1.out⟩
    · obtain rfl : β = false := false_of HB.out (by omega)
      have hd : decide (sc ≤ 2) = false := decide_eq_false j2
      go_wp2
      go_ret
      exact ⟨by simp, HB1.out⟩
  · obtain rfl : β = false := false_of HB.out (by omega)
    go_wp2
    go_ret
    exact ⟨rfl, HB1.out⟩
set_option maxRecDepth 100000 in
set_option maxHeartbeats 3200000 in
theorem ruRMay_c (tag role verb ent grp line : Int) (neg : Bool) (c0 c1 : Nat) (sc : Int) (toS : Nat) (toL : Int) (ne : Nat) (w : World) (β : Bool) (hβ : β = true ↔ ((1 ≤ verb ∧ verb ≤ 3) ∧ (-1 ≤ ent ∧ ent < (ne : Int)) ∧ grp = 0 ∧ line = 0 ∧ (neg = false ∧ c0 = 0 ∧ c1 = 0 ∧ sc = 0) ∧ toS = 0 ∧ toL = 0)) :
    Calls Try.prog 55 #[.agg #[.int .i64 tag, .int .i64 role, .int .i64 verb, .int .i64 ent, .int .i64 grp, .int .i64 line, .bool neg, .int .u64 (c0 : Int), .int .u64 (c1 : Int), .int .i64 sc, .int .u64 (toS : Int), .int .i64 toL], .int .i64 (ne : Int)] w (RetB w β) := by
  have HB := Lib.hid hβ
  clear hβ
  have HA := Lib.hid (fun (V : World) (β : Bool) (h : (decide (0 ≤ ent) && decide (ent < (ne : Int))) = β) => among_c ent (ne : Int) β V h)
  by_cases k3 : 1 ≤ verb
  · skip
    by_cases k4 : verb ≤ 3
    · skip
      by_cases h5 : ent = -1
      · skip
        subst h5
        by_cases k7 : grp = 0
        · skip
          have hg : (grp == 0) = true := by simp; omega
          by_cases k8 : line = 0
          · skip
            have hl : (line == 0) = true := by simp; omega
            by_cases k9 : neg = false
            · skip
              subst k9
              by_cases ka : c0 = 0 ∧ c1 = 0
              · skip
                have hE : eqW2 (c0 : Int) (c1 : Int) 0 0 = true := eqW2_yes (by omega)
                by_cases kb : sc = 0
                · skip
                  have hsc : (sc == 0) = true := by simp; omega
                  by_cases kc : toS = 0
                  · skip
                    have htS : ((toS : Int) == 0) = true := by simp; omega
                    by_cases kd : toL = 0
                    · skip
                      have htL : (toL == 0) = true := by simp; omega
                      obtain rfl : β = true := HB.out.2 (⟨⟨k3, k4⟩, ⟨by omega, by omega⟩, k7, k8, ⟨rfl, ka.1, ka.2, kb⟩, kc, kd⟩)
                      go_enter Try.func55, Try.ntmps55
                      go_wp2
                      go_ret
                      first | exact ⟨rfl, bel_alloc (Below.refl _ _) _⟩ | exact ⟨by simp; omega, bel_alloc (Below.refl _ _) _⟩
                    · skip
                      obtain rfl : β = false := false_of HB.out (by rintro ⟨⟨q1, q2⟩, ⟨q3, q4⟩, q5, q6, ⟨q7, q8, q9, qa⟩, qb, qc⟩; first | omega | (simp_all; done))
                      have hn : (toL == 0) = false := by simp; omega
                      go_enter Try.func55, Try.ntmps55
                      go_wp2
                      go_ret
                      first | exact ⟨rfl, bel_alloc (Below.refl _ _) _⟩ | exact ⟨by simp; omega, bel_alloc (Below.refl _ _) _⟩
                  · skip
                    obtain rfl : β = false := false_of HB.out (by rintro ⟨⟨q1, q2⟩, ⟨q3, q4⟩, q5, q6, ⟨q7, q8, q9, qa⟩, qb, qc⟩; first | omega | (simp_all; done))
                    have hn : ((toS : Int) == 0) = false := by simp; omega
                    go_enter Try.func55, Try.ntmps55
                    go_wp2
                    go_ret
                    first | exact ⟨rfl, bel_alloc (Below.refl _ _) _⟩ | exact ⟨by simp; omega, bel_alloc (Below.refl _ _) _⟩
                · skip
                  obtain rfl : β = false := false_of HB.out (by rintro ⟨⟨q1, q2⟩, ⟨q3, q4⟩, q5, q6, ⟨q7, q8, q9, qa⟩, qb, qc⟩; first | omega | (simp_all; done))
                  have hn : (sc == 0) = false := by simp; omega
                  go_enter Try.func55, Try.ntmps55
                  go_wp2
                  go_ret
                  first | exact ⟨rfl, bel_alloc (Below.refl _ _) _⟩ | exact ⟨by simp; omega, bel_alloc (Below.refl _ _) _⟩
              · skip
                obtain rfl : β = false := false_of HB.out (by rintro ⟨⟨q1, q2⟩, ⟨q3, q4⟩, q5, q6, ⟨q7, q8, q9, qa⟩, qb, qc⟩; first | omega | (simp_all; done))
                have hE : eqW2 (c0 : Int) (c1 : Int) 0 0 = false := eqW2_no (by omega)
                go_enter Try.func55, Try.ntmps55
                go_wp2
                go_ret
                first | exact ⟨rfl, bel_alloc (Below.refl _ _) _⟩ | exact ⟨by simp; omega, bel_alloc (Below.refl _ _) _⟩
            · skip
              obtain rfl : β = false := false_of HB.out (by rintro ⟨⟨q1, q2⟩, ⟨q3, q4⟩, q5, q6, ⟨q7, q8, q9, qa⟩, qb, qc⟩; first | omega | (simp_all; done))
              obtain rfl : neg = true := by simpa using k9
              go_enter Try.func55, Try.ntmps55
              go_wp2
              go_ret
              first | exact ⟨rfl, bel_alloc (Below.refl _ _) _⟩ | exact ⟨by simp; omega, bel_alloc (Below.refl _ _) _⟩
          · skip
            obtain rfl : β = false := false_of HB.out (by rintro ⟨⟨q1, q2⟩, ⟨q3, q4⟩, q5, q6, ⟨q7, q8, q9, qa⟩, qb, qc⟩; first | omega | (simp_all; done))
            have hn : (line == 0) = false := by simp; omega
            go_enter Try.func55, Try.ntmps55
            go_wp2
            go_ret
            first | exact ⟨rfl, bel_alloc (Below.refl _ _) _⟩ | exact ⟨by simp; omega, bel_alloc (Below.refl _ _) _⟩
        · skip
          obtain rfl : β = false := false_of HB.out (by rintro ⟨⟨q1, q2⟩, ⟨q3, q4⟩, q5, q6, ⟨q7, q8, q9, qa⟩, qb, qc⟩; first | omega | (simp_all; done))
          have hn : (grp == 0) = false := by simp; omega
          go_enter Try.func55, Try.ntmps55
          go_wp2
          go_ret
          first | exact ⟨rfl, bel_alloc (Below.refl _ _) _⟩ | exact ⟨by simp; omega, bel_alloc (Below.refl _ _) _⟩
      · have h5b : (ent != -1) = true := by simp; omega
        by_cases k5 : 0 ≤ ent
        · by_cases k6 : ent < (ne : Int)
          · have HAm := Lib.hid (fun V => HA.out V true (by rw [decide_eq_true k5, decide_eq_true k6]; rfl))
            by_cases k7 : grp = 0
            · skip
              have hg : (grp == 0) = true := by simp; omega
              by_cases k8 : line = 0
              · skip
                have hl : (line == 0) = true := by simp; omega
                by_cases k9 : neg = false
                · skip
                  subst k9
                  by_cases ka : c0 = 0 ∧ c1 = 0
                  · skip
                    have hE : eqW2 (c0 : Int) (c1 : Int) 0 0 = true := eqW2_yes (by omega)
                    by_cases kb : sc = 0
                    · skip
                      have hsc : (sc == 0) = true := by simp; omega
                      by_cases kc : toS = 0
                      · skip
                        have htS : ((toS : Int) == 0) = true := by simp; omega
                        by_cases kd : toL = 0
                        · skip
                          have htL : (toL == 0) = true := by simp; omega
                          obtain rfl : β = true := HB.out.2 (⟨⟨k3, k4⟩, ⟨by omega, k6⟩, k7, k8, ⟨rfl, ka.1, ka.2, kb⟩, kc, kd⟩)
                          go_enter Try.func55, Try.ntmps55
                          go_wp2_with fail
                          (with_reducible refine (HAm.out _).mono ?_)
                          rintro e w1 ⟨rfl, rfl⟩
                          go_wp2
                          go_ret
                          first | exact ⟨rfl, bel_alloc (Below.refl _ _) _⟩ | exact ⟨by simp; omega, bel_alloc (Below.refl _ _) _⟩
                        · skip
                          obtain rfl : β = false := false_of HB.out (by rintro ⟨⟨q1, q2⟩, ⟨q3, q4⟩, q5, q6, ⟨q7, q8, q9, qa⟩, qb, qc⟩; first | omega | (simp_all; done))
                          have hn : (toL == 0) = false := by simp; omega
                          go_enter Try.func55, Try.ntmps55
                          go_wp2_with fail
                          (with_reducible refine (HAm.out _).mono ?_)
                          rintro e w1 ⟨rfl, rfl⟩
                          go_wp2
                          go_ret
                          first | exact ⟨rfl, bel_alloc (Below.refl _ _) _⟩ | exact ⟨by simp; omega, bel_alloc (Below.refl _ _) _⟩
                      · skip
                        obtain rfl : β = false := false_of HB.out (by rintro ⟨⟨q1, q2⟩, ⟨q3, q4⟩, q5, q6, ⟨q7, q8, q9, qa⟩, qb, qc⟩; first | omega | (simp_all; done))
                        have hn : ((toS : Int) == 0) = false := by simp; omega
                        go_enter Try.func55, Try.ntmps55
                        go_wp2_with fail
                        (with_reducible refine (HAm.out _).mono ?_)
                        rintro e w1 ⟨rfl, rfl⟩
                        go_wp2
                        go_ret
                        first | exact ⟨rfl, bel_alloc (Below.refl _ _) _⟩ | exact ⟨by simp; omega, bel_alloc (Below.refl _ _) _⟩
                    · skip
                      obtain rfl : β = false := false_of HB.out (by rintro ⟨⟨q1, q2⟩, ⟨q3, q4⟩, q5, q6, ⟨q7, q8, q9, qa⟩, qb, qc⟩; first | omega | (simp_all; done))
                      have hn : (sc == 0) = false := by simp; omega
                      go_enter Try.func55, Try.ntmps55
                      go_wp2_with fail
                      (with_reducible refine (HAm.out _).mono ?_)
                      rintro e w1 ⟨rfl, rfl⟩
                      go_wp2
                      go_ret
                      first | exact ⟨rfl, bel_alloc (Below.refl _ _) _⟩ | exact ⟨by simp; omega, bel_alloc (Below.refl _ _) _⟩
                  · skip
                    obtain rfl : β = false := false_of HB.out (by rintro ⟨⟨q1, q2⟩, ⟨q3, q4⟩, q5, q6, ⟨q7, q8, q9, qa⟩, qb, qc⟩; first | omega | (simp_all; done))
                    have hE : eqW2 (c0 : Int) (c1 : Int) 0 0 = false := eqW2_no (by omega)
                    go_enter Try.func55, Try.ntmps55
                    go_wp2_with fail
                    (with_reducible refine (HAm.out _).mono ?_)
                    rintro e w1 ⟨rfl, rfl⟩
                    go_wp2
                    go_ret
                    first | exact ⟨rfl, bel_alloc (Below.refl _ _) _⟩ | exact ⟨by simp; omega, bel_alloc (Below.refl _ _) _⟩
                · skip
                  obtain rfl : β = false := false_of HB.out (by rintro ⟨⟨q1, q2⟩, ⟨q3, q4⟩, q5, q6, ⟨q7, q8, q9, qa⟩, qb, qc⟩; first | omega | (simp_all; done))
                  obtain rfl : neg = true := by simpa using k9
                  go_enter Try.func55, Try.ntmps55
                  go_wp2_with fail
                  (with_reducible refine (HAm.out _).mono ?_)
                  rintro e w1 ⟨rfl, rfl⟩
                  go_wp2
                  go_ret
                  first | exact ⟨rfl, bel_alloc (Below.refl _ _) _⟩ | exact ⟨by simp; omega, bel_alloc (Below.refl _ _) _⟩
              · skip
                obtain rfl : β = false := false_of HB.out (by rintro ⟨⟨q1, q2⟩, ⟨q3, q4⟩, q5, q6, ⟨q7, q8, q9, qa⟩, qb, qc⟩; first | omega | (simp_all; done))
                have hn : (line == 0) = false := by simp; omega
                go_enter Try.func55, Try.ntmps55
                go_wp2_with fail
                (with_reducible refine (HAm.out _).mono ?_)
                rintro e w1 ⟨rfl, rfl⟩
                go_wp2
                go_ret
                first | exact ⟨rfl, bel_alloc (Below.refl _ _) _⟩ | exact ⟨by simp; omega, bel_alloc (Below.refl _ _) _⟩
            · skip
              obtain rfl : β = false := false_of HB.out (by rintro ⟨⟨q1, q2⟩, ⟨q3, q4⟩, q5, q6, ⟨q7, q8, q9, qa⟩, qb, qc⟩; first | omega | (simp_all; done))
              have hn : (grp == 0) = false := by simp; omega
              go_enter Try.func55, Try.ntmps55
              go_wp2_with fail
              (with_reducible refine (HAm.out _).mono ?_)
              rintro e w1 ⟨rfl, rfl⟩
              go_wp2
              go_ret
              first | exact ⟨rfl, bel_alloc (Below.refl _ _) _⟩ | exact ⟨by simp; omega, bel_alloc (Below.refl _ _) _⟩
          · have HAm := Lib.hid (fun V => HA.out V false (by rw [decide_eq_false k6, Bool.and_false]))
            obtain rfl : β = false := false_of HB.out (by rintro ⟨⟨q1, q2⟩, ⟨q3, q4⟩, q5, q6, ⟨q7, q8, q9, qa⟩, qb, qc⟩; first | omega | (simp_all; done))
            go_enter Try.func55, Try.ntmps55
            go_wp2_with fail
            (with_reducible refine (HAm.out _).mono ?_)
            rintro e w1 ⟨rfl, rfl⟩
            go_wp2
            go_ret
            first | exact ⟨rfl, bel_alloc (Below.refl _ _) _⟩ | exact ⟨by simp; omega, bel_alloc (Below.refl _ _) _⟩
        · have HAm := Lib.hid (fun V => HA.out V false (by rw [decide_eq_false k5, Bool.false_and]))
          obtain rfl : β = false := false_of HB.out (by rintro ⟨⟨q1, q2⟩, ⟨q3, q4⟩, q5, q6, ⟨q7, q8, q9, qa⟩, qb, qc⟩; first | omega | (simp_all; done))
          go_enter Try.func55, Try.ntmps55
          go_wp2_with fail
          (with_reducible refine (HAm.out _).mono ?_)
          rintro e w1 ⟨rfl, rfl⟩
          go_wp2
          go_ret
          first | exact ⟨rfl, bel_alloc (Below.refl _ _) _⟩ | exact ⟨by simp; omega, bel_alloc (Below.refl _ _) _⟩
    · skip
      obtain rfl : β = false := false_of HB.out (by rintro ⟨⟨q1, q2⟩, ⟨q3, q4⟩, q5, q6, ⟨q7, q8, q9, qa⟩, qb, qc⟩; first | omega | (simp_all; done))
      go_enter Try.func55, Try.ntmps55
      go_wp2
      go_ret
      first | exact ⟨rfl, bel_alloc (Below.refl _ _) _⟩ | exact ⟨by simp; omega, bel_alloc (Below.refl _ _) _⟩
  · skip
    obtain rfl : β = false := false_of HB.out (by rintro ⟨⟨q1, q2⟩, ⟨q3, q4⟩, q5, q6, ⟨q7, q8, q9, qa⟩, qb, qc⟩; first | omega | (simp_all; done))
    go_enter Try.func55, Try.ntmps55
    go_wp2
    go_ret
    first | exact ⟨rfl, bel_alloc (Below.refl _ _) _⟩ | exact ⟨by simp; omega, bel_alloc (Below.refl _ _) _⟩
set_option maxRecDepth 100000 in
set_option maxHeartbeats 3200000 in
theorem ruRel_c (tag role verb ent grp line : Int) (neg : Bool) (c0 c1 : Nat) (sc : Int) (toS : Nat) (toL : Int) (ng : Nat) (w : World) (h0 : c0 < 18446744073709551616) (h1 : c1 < 18446744073709551616) (β : Bool) (hβ : β = true ↔ (verb = 0 ∧ ent = -1 ∧ (0 ≤ grp ∧ grp < (ng : Int)) ∧ (0 ≤ line ∧ line < 6) ∧ (0 < signV neg (c0 : Int) (c1 : Int) sc ∧ sc ≤ 2) ∧ rightB toS toL = true)) :
    Calls Try.prog 56 #[.agg #[.int .i64 tag, .int .i64 role, .int .i64 verb, .int .i64 ent, .int .i64 grp, .int .i64 line, .bool neg, .int .u64 (c0 : Int), .int .u64 (c1 : Int), .int .i64 sc, .int .u64 (toS : Int), .int .i64 toL], .int .i64 (ng : Int)] w (RetB w β) := by
  have HB := Lib.hid hβ
  clear hβ
  have HG := Lib.hid (fun (V : World) (β : Bool) (h : (decide (0 ≤ grp) && decide (grp < (ng : Int))) = β) => among_c grp (ng : Int) β V h)
  have HL := Lib.hid (fun (V : World) (β : Bool) (h : (decide (0 ≤ line) && decide (line < 6)) = β) => among_c line 6 β V h)
  have HR := Lib.hid (fun (w' : World) => labRight_c toS (toS : Int) toL w' rfl)
  obtain ⟨ρ, hr⟩ : ∃ ρ, rightB toS toL = ρ := ⟨_, rfl⟩
  rw [hr] at HR HB
  obtain ⟨υ, hu⟩ : ∃ υ, decide (0 < signV neg (c0 : Int) (c1 : Int) sc ∧ sc ≤ 2) = υ := ⟨_, rfl⟩
  have HU := Lib.hid (fun (w' : World) => ruUnit_c neg c0 c1 sc w' h0 h1 υ (by rw [← hu]; exact decide_eq_true_iff))
  obtain ⟨Q, hQ⟩ : ∃ Q : Prop, (0 < signV neg (c0 : Int) (c1 : Int) sc ∧ sc ≤ 2) = Q := ⟨_, rfl⟩
  have hu2 : υ = true ↔ Q := by rw [← hu, ← hQ]; exact decide_eq_true_iff
  rw [hQ, ← hu2] at HB
  clear hr hu hQ hu2 h0 h1
  obtain ⟨W, hW⟩ : ∃ W, w.alloc (.cells #[.int .i64 tag, .int .i64 role, .int .i64 verb, .int .i64 ent, .int .i64 grp, .int .i64 line, .bool neg, .int .u64 (c0 : Int), .int .u64 (c1 : Int), .int .i64 sc, .int .u64 (toS : Int), .int .i64 toL] 51) = W := ⟨_, rfl⟩
  obtain ⟨gp, hgp⟩ : ∃ g, w.heap.size = g := ⟨_, rfl⟩
  have HBW := Lib.hid (show Below w.heap.size w W from by rw [← hW]; exact bel_alloc (Below.refl _ _) _)
  have HT := Lib.hid (show Blk W gp 51 #[.int .i64 tag, .int .i64 role, .int .i64 verb, .int .i64 ent, .int .i64 grp, .int .i64 line, .bool neg, .int .u64 (c0 : Int), .int .u64 (c1 : Int), .int .i64 sc, .int .u64 (toS : Int), .int .i64 toL] from by rw [← hW, ← hgp]; exact Blk.new _ _ _)
  have HW := Lib.hid hW
  have HGP := Lib.hid hgp
  have C1 := HT.out
  have r2 : W.cell? ⟨gp, 2, none⟩ = some (.int .i64 verb) := (C1.cell 2).trans rfl
  have r3 : W.cell? ⟨gp, 3, none⟩ = some (.int .i64 ent) := (C1.cell 3).trans rfl
  have r4 : W.cell? ⟨gp, 4, none⟩ = some (.int .i64 grp) := (C1.cell 4).trans rfl
  have r5 : W.cell? ⟨gp, 5, none⟩ = some (.int .i64 line) := (C1.cell 5).trans rfl
  have r6 : W.cell? ⟨gp, 6, none⟩ = some (.bool neg) := (C1.cell 6).trans rfl
  have r7 : W.cell? ⟨gp, 7, none⟩ = some (.int .u64 (c0 : Int)) := (C1.cell 7).trans rfl
  have r8 : W.cell? ⟨gp, 8, none⟩ = some (.int .u64 (c1 : Int)) := (C1.cell 8).trans rfl
  have r9 : W.cell? ⟨gp, 9, none⟩ = some (.int .i64 sc) := (C1.cell 9).trans rfl
  have rl := C1.lt
  clear hW hgp C1
  go_enter Try.func56, Try.ntmps56
  by_cases j1 : verb = 0
  · have j1b : (verb != 0) = false := by simp; omega
    have J1 := Lib.hid j1
    clear j1
    by_cases j2 : ent = -1
    · have j2b : (ent != -1) = false := by simp; omega
      have J2 := Lib.hid j2
      clear j2
      by_cases j3 : 0 ≤ grp ∧ grp < (ng : Int)
      · skip
        have HGm := Lib.hid (fun V => HG.out V true (by rw [decide_eq_true j3.1, decide_eq_true j3.2]; rfl))
        by_cases j4 : 0 ≤ line ∧ line < 6
        · skip
          have HLm := Lib.hid (fun V => HL.out V true (by rw [decide_eq_true j4.1, decide_eq_true j4.2]; rfl))
          go_wp2_with fail
          rw [HW.out, HGP.out]
          (with_reducible refine (HGm.out _).mono ?_)
          rintro e w1 ⟨rfl, rfl⟩
          go_wp2_with fail
          (with_reducible refine (HLm.out _).mono ?_)
          rintro e w1 ⟨rfl, rfl⟩
          go_wp2_with fail
          (with_reducible refine (HU.out _).mono ?_)
          rintro e w2 ⟨rfl, hb⟩
          have HB2 := Lib.hid (HBW.out.trans (hb.mono HBW.out.size))
          have C2 := HT.out.below hb HT.out.lt
          have s10 : w2.cell? ⟨gp, 10, none⟩ = some (.int .u64 (toS : Int)) := (C2.cell 10).trans rfl
          have s11 : w2.cell? ⟨gp, 11, none⟩ = some (.int .i64 toL) := (C2.cell 11).trans rfl
          have sl := C2.lt
          clear hb C2
          cases υ
          · skip
            obtain rfl : β = false := false_of HB.out (by rintro ⟨q1, q2, q3, q4, q5, q6⟩; cases q5)
            go_wp2
            go_ret
            exact ⟨rfl, HB2.out⟩
          · go_wp2_with fail
            (with_reducible refine (HR.out _).mono ?_)
            rintro e w3 ⟨rfl, hb⟩
            have HB3 := Lib.hid (HB2.out.trans (hb.mono HB2.out.size))
            clear hb
            obtain rfl : β = ρ := by
              cases ρ with
              | true => exact HB.out.2 ⟨J1.out, J2.out, j3, j4, by first | rfl | trivial, by first | rfl | trivial⟩
              | false => exact false_of HB.out (by rintro ⟨q1, q2, q3, q4, q5, q6⟩; cases q6)
            go_wp2
            go_ret
            exact ⟨rfl, HB3.out⟩
        · skip
          have HLm := Lib.hid (fun V => HL.out V false (by rw [← Bool.decide_and, decide_eq_false j4]))
          obtain rfl : β = false := false_of HB.out (by rintro ⟨q1, q2, q3, q4, q5, q6⟩; exact j4 q4)
          go_wp2_with fail
          rw [HW.out, HGP.out]
          (with_reducible refine (HGm.out _).mono ?_)
          rintro e w1 ⟨rfl, rfl⟩
          go_wp2_with fail
          (with_reducible refine (HLm.out _).mono ?_)
          rintro e w1 ⟨rfl, rfl⟩
          go_wp2
          go_ret
          exact ⟨rfl, HBW.out⟩
      · skip
        have HGm := Lib.hid (fun V => HG.out V false (by rw [← Bool.decide_and, decide_eq_false j3]))
        obtain rfl : β = false := false_of HB.out (by rintro ⟨q1, q2, q3, q4, q5, q6⟩; exact j3 q3)
        go_wp2_with fail
        rw [HW.out, HGP.out]
        (with_reducible refine (HGm.out _).mono ?_)
        rintro e w1 ⟨rfl, rfl⟩
        go_wp2
        go_ret
        exact ⟨rfl, HBW.out⟩
    · have j2b : (ent != -1) = true := by simp; omega
      obtain rfl : β = false := false_of HB.out (by rintro ⟨q1, q2, ⟨q3, q4⟩, ⟨q5, q6⟩, q7, q8⟩; first | omega | (simp_all; done))
      go_wp2
      go_ret
      rw [HW.out]
      exact ⟨rfl, HBW.out⟩
  · have j1b : (verb != 0) = true := by simp; omega
    obtain rfl : β = false := false_of HB.out (by rintro ⟨q1, q2, ⟨q3, q4⟩, ⟨q5, q6⟩, q7, q8⟩; first | omega | (simp_all; done))
    go_wp2
    go_ret
    rw [HW.out]
    exact ⟨rfl, HBW.out⟩
set_option maxRecDepth 100000 in
set_option maxHeartbeats 3200000 in
theorem ruRule_c (Ae Ag Ah Au Ar : Option Addr) (ne ce ng cg nh ch nu cu nr cr : Nat) (r : RuleP) (w : World) (hW : RuleW r) (β : Bool) (hβ : β = true ↔ RulP ne nu ng r) :
    Calls Try.prog 46 #[.agg #[.slice Ae ne ce, .slice Ag ng cg, .slice Ah nh ch, .slice Au nu cu, .slice Ar nr cr], .agg (ruleV r).toArray] w (RetB w β) := by
  have HB := Lib.hid hβ
  clear hβ
  obtain ⟨tag, role, verb, ent, grp, line, neg, c0, c1, sc, toS, toL⟩ := r
  obtain ⟨hw0, hw1, hw2⟩ := hW
  unfold RulP at HB
  dsimp only at HB hw0 hw1 hw2
  show Calls Try.prog 46 #[.agg #[.slice Ae ne ce, .slice Ag ng cg, .slice Ah nh ch, .slice Au nu cu, .slice Ar nr cr], .agg #[.int .i64 tag, .int .i64 role, .int .i64 verb, .int .i64 ent, .int .i64 grp, .int .i64 line, .bool neg, .int .u64 (c0 : Int), .int .u64 (c1 : Int), .int .i64 sc, .int .u64 (toS : Int), .int .i64 toL]] w (RetB w β)
  have HA := Lib.hid (fun (V : World) (β : Bool) (h : (decide (0 ≤ role) && decide (role < (nu : Int))) = β) => among_c role (nu : Int) β V h)
  have HM := Lib.hid (fun (V : World) (β : Bool) hβ => ruRMay_c tag role verb ent grp line neg c0 c1 sc toS toL ne V β hβ)
  have HR := Lib.hid (fun (V : World) (β : Bool) hβ => ruRel_c tag role verb ent grp line neg c0 c1 sc toS toL ng V hw0 hw1 β hβ)
  have hS : 0 < signV neg (c0 : Int) (c1 : Int) sc → decide (RightD neg (c0 : Int) (c1 : Int) sc) = true := by
    intro h
    apply decide_eq_true
    apply Classical.byContradiction
    intro hn
    rw [signV, if_neg hn] at h
    exact absurd h (by decide)
  obtain ⟨W, hW⟩ : ∃ W, (w.alloc (.cells #[.slice Ae ne ce, .slice Ag ng cg, .slice Ah nh ch, .slice Au nu cu, .slice Ar nr cr] 28)).alloc (.cells #[.int .i64 tag, .int .i64 role, .int .i64 verb, .int .i64 ent, .int .i64 grp, .int .i64 line, .bool neg, .int .u64 (c0 : Int), .int .u64 (c1 : Int), .int .i64 sc, .int .u64 (toS : Int), .int .i64 toL] 51) = W := ⟨_, rfl⟩
  obtain ⟨gp, hgp⟩ : ∃ g, w.heap.size = g := ⟨_, rfl⟩
  have HBW := Lib.hid (show Below w.heap.size w W from by rw [← hW]; exact bel_alloc (bel_alloc (Below.refl _ _) _) _)
  have HP := Lib.hid (show Blk W gp 28 #[.slice Ae ne ce, .slice Ag ng cg, .slice Ah nh ch, .slice Au nu cu, .slice Ar nr cr] from by rw [← hW, ← hgp]; exact (Blk.new _ _ _).alloc _)
  have HT := Lib.hid (show Blk W (gp + 1) 51 #[.int .i64 tag, .int .i64 role, .int .i64 verb, .int .i64 ent, .int .i64 grp, .int .i64 line, .bool neg, .int .u64 (c0 : Int), .int .u64 (c1 : Int), .int .i64 sc, .int .u64 (toS : Int), .int .i64 toL] from by rw [← hW, ← hgp]; have h := Blk.new (w.alloc (.cells #[.slice Ae ne ce, .slice Ag ng cg, .slice Ah nh ch, .slice Au nu cu, .slice Ar nr cr] 28)) 51 #[.int .i64 tag, .int .i64 role, .int .i64 verb, .int .i64 ent, .int .i64 grp, .int .i64 line, .bool neg, .int .u64 (c0 : Int), .int .u64 (c1 : Int), .int .i64 sc, .int .u64 (toS : Int), .int .i64 toL]; simpa using h)
  have HW := Lib.hid hW
  have HGP := Lib.hid hgp
  have x0 : W.cell? ⟨gp, 0, none⟩ = some (.slice Ae ne ce) := (HP.out.cell 0).trans rfl
  have x1 : W.cell? ⟨gp, 1, none⟩ = some (.slice Ag ng cg) := (HP.out.cell 1).trans rfl
  have x3 : W.cell? ⟨gp, 3, none⟩ = some (.slice Au nu cu) := (HP.out.cell 3).trans rfl
  have xl := HP.out.lt
  have C1 := HT.out
  have r0 : W.cell? ⟨gp + 1, 0, none⟩ = some (.int .i64 tag) := (C1.cell 0).trans rfl
  have r1 : W.cell? ⟨gp + 1, 1, none⟩ = some (.int .i64 role) := (C1.cell 1).trans rfl
  have r2 : W.cell? ⟨gp + 1, 2, none⟩ = some (.int .i64 verb) := (C1.cell 2).trans rfl
  have r3 : W.cell? ⟨gp + 1, 3, none⟩ = some (.int .i64 ent) := (C1.cell 3).trans rfl
  have r4 : W.cell? ⟨gp + 1, 4, none⟩ = some (.int .i64 grp) := (C1.cell 4).trans rfl
  have r5 : W.cell? ⟨gp + 1, 5, none⟩ = some (.int .i64 line) := (C1.cell 5).trans rfl
  have r6 : W.cell? ⟨gp + 1, 6, none⟩ = some (.bool neg) := (C1.cell 6).trans rfl
  have r7 : W.cell? ⟨gp + 1, 7, none⟩ = some (.int .u64 (c0 : Int)) := (C1.cell 7).trans rfl
  have r8 : W.cell? ⟨gp + 1, 8, none⟩ = some (.int .u64 (c1 : Int)) := (C1.cell 8).trans rfl
  have r9 : W.cell? ⟨gp + 1, 9, none⟩ = some (.int .i64 sc) := (C1.cell 9).trans rfl
  have r10 : W.cell? ⟨gp + 1, 10, none⟩ = some (.int .u64 (toS : Int)) := (C1.cell 10).trans rfl
  have r11 : W.cell? ⟨gp + 1, 11, none⟩ = some (.int .i64 toL) := (C1.cell 11).trans rfl
  have rl := C1.lt
  clear hW hgp C1 hw0 hw1 hw2
  have HSG := Lib.hid hS
  clear hS
  go_enter Try.func46, Try.ntmps46
  by_cases j0 : 0 ≤ role ∧ role < (nu : Int)
  · have HAm := Lib.hid (fun V => HA.out V true (by rw [decide_eq_true j0.1, decide_eq_true j0.2]; rfl))
    go_wp2_with fail
    rw [HW.out, HGP.out]
    (with_reducible refine (HAm.out _).mono ?_)
    rintro e w1 ⟨rfl, rfl⟩
    by_cases h1 : tag = 1
    · have hb1 : (tag == 1) = true := by simp; omega
      have HMm := Lib.hid (fun V => HM.out V β (HB.out.trans ⟨by rintro ⟨q0, ⟨q1, q2⟩ | ⟨q1, q2⟩⟩; exact q2; omega, fun h => ⟨j0, .inl ⟨.inl h1, h⟩⟩⟩))
      clear h1
      go_wp2_with fail
      (with_reducible refine (HMm.out _).mono ?_)
      rintro e w2 ⟨rfl, hb⟩
      have HB2 := Lib.hid (HBW.out.trans (hb.mono HBW.out.size))
      clear hb
      go_wp2
      go_ret
      exact ⟨rfl, HB2.out⟩
    · have hb1 : (tag == 1) = false := by simp; omega
      by_cases h2 : tag = 2
      · have hb2 : (tag == 2) = true := by simp; omega
        have HMm := Lib.hid (fun V => HM.out V β (HB.out.trans ⟨by rintro ⟨q0, ⟨q1, q2⟩ | ⟨q1, q2⟩⟩; exact q2; omega, fun h => ⟨j0, .inl ⟨.inr h2, h⟩⟩⟩))
        clear h1 h2
        go_wp2_with fail
        (with_reducible refine (HMm.out _).mono ?_)
        rintro e w2 ⟨rfl, hb⟩
        have HB2 := Lib.hid (HBW.out.trans (hb.mono HBW.out.size))
        clear hb
        go_wp2
        go_ret
        exact ⟨rfl, HB2.out⟩
      · have hb2 : (tag == 2) = false := by simp; omega
        by_cases h3 : tag = 3
        · have hb3 : (tag == 3) = true := by simp; omega
          have HRm := Lib.hid (fun V => HR.out V β (HB.out.trans ⟨by
            rintro ⟨q0, ⟨q1, q2⟩ | ⟨q1, q2, q3, q4, q5, q6, q7, q8, q9⟩⟩
            · omega
            · exact ⟨q2, q3, q4, q5, ⟨q7, q8⟩, q9⟩, by
            rintro ⟨q2, q3, q4, q5, ⟨q7, q8⟩, q9⟩
            exact ⟨j0, .inr ⟨h3, q2, q3, q4, q5, HSG.out q7, q7, q8, q9⟩⟩⟩))
          clear h1 h2 h3
          go_wp2_with fail
          (with_reducible refine (HRm.out _).mono ?_)
          rintro e w2 ⟨rfl, hb⟩
          have HB2 := Lib.hid (HBW.out.trans (hb.mono HBW.out.size))
          clear hb
          go_wp2
          go_ret
          exact ⟨rfl, HB2.out⟩
        · have hb3 : (tag == 3) = false := by simp; omega
          obtain rfl : β = false := false_of HB.out (by rintro ⟨q0, ⟨q1, q2⟩ | ⟨q1, q2⟩⟩ <;> omega)
          go_wp2
          go_ret
          exact ⟨rfl, HBW.out⟩
  · have HAm := Lib.hid (fun V => HA.out V false (by rw [← Bool.decide_and, decide_eq_false j0]))
    obtain rfl : β = false := false_of HB.out (fun h => j0 h.1)
    go_wp2_with fail
    rw [HW.out, HGP.out]
    (with_reducible refine (HAm.out _).mono ?_)
    rintro e w1 ⟨rfl, rfl⟩
    go_wp2
    go_ret
    exact ⟨rfl, HBW.out⟩
end Go.Proofs.Ytakofbkbbmpfeaa
