/- pyxref4.rightRule: is a rule right? -/
import Derived.Test.YtakofbkbbmpfeaaPolA
import Derived.Test.YtakofbkbbmpfeaaRefQ
import Derived.Test.YtakofbkbbmpfeaaLabE
namespace Go.Proofs.Ytakofbkbbmpfeaa
open Go.RowKit
/-- Its words are words. -/
def RuleW (r : RuleP) : Prop := r.c0 < 18446744073709551616 ∧ r.c1 < 18446744073709551616 ∧ r.toS < 18446744073709551616
/-- A rule that is right, of ne entities, nr roles, ng groups. -/
def RulP (ne nr ng : Nat) (r : RuleP) : Prop := (0 ≤ r.role ∧ r.role < (nr : Int)) ∧
  (((r.tag = 1 ∨ r.tag = 2) ∧ (1 ≤ r.verb ∧ r.verb ≤ 3) ∧ (-1 ≤ r.ent ∧ r.ent < (ne : Int)) ∧ r.grp = 0 ∧ r.line = 0 ∧ (r.neg = false ∧ r.c0 = 0 ∧ r.c1 = 0 ∧ r.sc = 0) ∧ r.toS = 0 ∧ r.toL = 0) ∨
   (r.tag = 3 ∧ r.verb = 0 ∧ r.ent = -1 ∧ (0 ≤ r.grp ∧ r.grp < (ng : Int)) ∧ (0 ≤ r.line ∧ r.line < 6) ∧ decide (RightD r.neg (r.c0 : Int) (r.c1 : Int) r.sc) = true ∧ 0 < signV r.neg (r.c0 : Int) (r.c1 : Int) r.sc ∧ r.sc ≤ 2 ∧ rightB r.toS r.toL = true))
def Sl5 (Ae Ag Ah Au Ar : Option Addr) (ne ce ng cg nh ch nu cu nr cr : Nat) : Value := .agg #[.slice Ae ne ce, .slice Ag ng cg, .slice Ah nh ch, .slice Au nu cu, .slice Ar nr cr]
set_option maxRecDepth 100000 in
set_option maxHeartbeats 3200000 in
theorem rightRule_c (Ae Ag Ah Au Ar : Option Addr) (ne ce ng cg nh ch nu cu nr cr : Nat) (r : RuleP) (w : World) (hW : RuleW r) (β : Bool) (hβ : β = true ↔ RulP ne nu ng r) :
    Calls Try.prog 30 #[.agg #[.slice Ae ne ce, .slice Ag ng cg, .slice Ah nh ch, .slice Au nu cu, .slice Ar nr cr], .agg (ruleV r).toArray] w (RetB w β) := by
  obtain ⟨tag, role, verb, ent, grp, line, neg, c0, c1, sc, toS, toL⟩ := r
  obtain ⟨hw0, hw1, hw2⟩ := hW
  unfold RulP at hβ
  dsimp only at hβ hw0 hw1 hw2
  show Calls Try.prog 30 #[.agg #[.slice Ae ne ce, .slice Ag ng cg, .slice Ah nh ch, .slice Au nu cu, .slice Ar nr cr], .agg #[.int .i64 tag, .int .i64 role, .int .i64 verb, .int .i64 ent, .int .i64 grp, .int .i64 line, .bool neg, .int .u64 (c0 : Int), .int .u64 (c1 : Int), .int .i64 sc, .int .u64 (toS : Int), .int .i64 toL]] w (RetB w β)
  have HB := Lib.hid hβ
  have HD := Lib.hid (fun (w' : World) (β : Bool) (h : decide (RightD neg (c0 : Int) (c1 : Int) sc) = β) => rdec_v neg (c0 : Int) (c1 : Int) sc β w' ⟨by omega, by omega⟩ ⟨by omega, by omega⟩ h)
  have HS := Lib.hid (fun (w' : World) => rsign_all neg (c0 : Int) (c1 : Int) sc w' ⟨by omega, by omega⟩ ⟨by omega, by omega⟩)
  have HR := Lib.hid (fun (w' : World) => rright_c toS (toS : Int) toL w' rfl)
  obtain ⟨δ, hd⟩ : ∃ δ, decide (RightD neg (c0 : Int) (c1 : Int) sc) = δ := ⟨_, rfl⟩
  obtain ⟨s, hs⟩ : ∃ s, signV neg (c0 : Int) (c1 : Int) sc = s := ⟨_, rfl⟩
  obtain ⟨ρ, hr⟩ : ∃ ρ, rightB toS toL = ρ := ⟨_, rfl⟩
  rw [hs] at HS
  rw [hr] at HR
  have HD2 := Lib.hid (fun (w' : World) => HD.out w' δ hd)
  have hβ2 := HB.out
  rw [hd, hs, hr] at hβ2
  have HB2 := Lib.hid hβ2
  clear hβ hβ2 HB HD hd hs hr
  by_cases k1 : 0 ≤ role
  · by_cases k2 : role < (nu : Int)
    · by_cases h1 : tag = 1
      · have hb1 : (tag == 1) = true := by simp; omega
        by_cases k3 : 1 ≤ verb
        · skip
          by_cases k4 : verb ≤ 3
          · skip
            by_cases k5 : -1 ≤ ent
            · skip
              by_cases k6 : ent < (ne : Int)
              · skip
                by_cases k7 : grp = 0
                · skip
                  have hg : (grp == 0) = true := by simp; omega
                  by_cases k8 : line = 0
                  · skip
                    have hl : (line == 0) = true := by simp; omega
                    by_cases k9 : neg = false
                    · skip
                      subst k9
                      by_cases ka : c0 = 0 ∧ c1 = 0
                      · skip
                        have hE : eqW2 (c0 : Int) (c1 : Int) 0 0 = true := eqW2_yes (by omega)
                        by_cases kb : sc = 0
                        · skip
                          have hsc : (sc == 0) = true := by simp; omega
                          by_cases kc : toS = 0
                          · skip
                            have htS : ((toS : Int) == 0) = true := by simp; omega
                            by_cases kd : toL = 0
                            · skip
                              have htL : (toL == 0) = true := by simp; omega
                              obtain rfl : β = true := HB2.out.2 ⟨⟨k1, k2⟩, .inl ⟨by omega, ⟨k3, k4⟩, ⟨k5, k6⟩, k7, k8, ⟨rfl, ka.1, ka.2, kb⟩, kc, kd⟩⟩
                              go_enter Try.func30, Try.ntmps30
                              go_wp2
                              go_ret
                              exact ⟨rfl, bel_alloc (bel_alloc (Below.refl _ _) _) _⟩
                            · skip
                              obtain rfl : β = false := by
                                cases β with
                                | false => rfl
                                | true => exact absurd (HB2.out.1 rfl) (by rintro ⟨⟨q0, q1⟩, (⟨q2, ⟨q3, q4⟩, ⟨q5, q6⟩, q7, q8, ⟨q9, qa, qb, qc⟩, qd, qe⟩ | ⟨q2, q3, q4, ⟨q5, q6⟩, ⟨q7, q8⟩, q9, qa, qb, qc⟩)⟩ <;> first | omega | simp_all)
                              have hn : (toL == 0) = false := by simp; omega
                              go_enter Try.func30, Try.ntmps30
                              go_wp2
                              go_ret
                              exact ⟨rfl, bel_alloc (bel_alloc (Below.refl _ _) _) _⟩
                          · skip
                            obtain rfl : β = false := by
                              cases β with
                              | false => rfl
                              | true => exact absurd (HB2.out.1 rfl) (by rintro ⟨⟨q0, q1⟩, (⟨q2, ⟨q3, q4⟩, ⟨q5, q6⟩, q7, q8, ⟨q9, qa, qb, qc⟩, qd, qe⟩ | ⟨q2, q3, q4, ⟨q5, q6⟩, ⟨q7, q8⟩, q9, qa, qb, qc⟩)⟩ <;> first | omega | simp_all)
                            have hn : ((toS : Int) == 0) = false := by simp; omega
                            go_enter Try.func30, Try.ntmps30
                            go_wp2
                            go_ret
                            exact ⟨rfl, bel_alloc (bel_alloc (Below.refl _ _) _) _⟩
                        · skip
                          obtain rfl : β = false := by
                            cases β with
                            | false => rfl
                            | true => exact absurd (HB2.out.1 rfl) (by rintro ⟨⟨q0, q1⟩, (⟨q2, ⟨q3, q4⟩, ⟨q5, q6⟩, q7, q8, ⟨q9, qa, qb, qc⟩, qd, qe⟩ | ⟨q2, q3, q4, ⟨q5, q6⟩, ⟨q7, q8⟩, q9, qa, qb, qc⟩)⟩ <;> first | omega | simp_all)
                          have hn : (sc == 0) = false := by simp; omega
                          go_enter Try.func30, Try.ntmps30
                          go_wp2
                          go_ret
                          exact ⟨rfl, bel_alloc (bel_alloc (Below.refl _ _) _) _⟩
                      · skip
                        obtain rfl : β = false := by
                          cases β with
                          | false => rfl
                          | true => exact absurd (HB2.out.1 rfl) (by rintro ⟨⟨q0, q1⟩, (⟨q2, ⟨q3, q4⟩, ⟨q5, q6⟩, q7, q8, ⟨q9, qa, qb, qc⟩, qd, qe⟩ | ⟨q2, q3, q4, ⟨q5, q6⟩, ⟨q7, q8⟩, q9, qa, qb, qc⟩)⟩ <;> first | omega | simp_all)
                        have hE : eqW2 (c0 : Int) (c1 : Int) 0 0 = false := eqW2_no (by omega)
                        go_enter Try.func30, Try.ntmps30
                        go_wp2
                        go_ret
                        exact ⟨rfl, bel_alloc (bel_alloc (Below.refl _ _) _) _⟩
                    · skip
                      obtain rfl : β = false := by
                        cases β with
                        | false => rfl
                        | true => exact absurd (HB2.out.1 rfl) (by rintro ⟨⟨q0, q1⟩, (⟨q2, ⟨q3, q4⟩, ⟨q5, q6⟩, q7, q8, ⟨q9, qa, qb, qc⟩, qd, qe⟩ | ⟨q2, q3, q4, ⟨q5, q6⟩, ⟨q7, q8⟩, q9, qa, qb, qc⟩)⟩ <;> first | omega | simp_all)
                      obtain rfl : neg = true := by simpa using k9
                      go_enter Try.func30, Try.ntmps30
                      go_wp2
                      go_ret
                      exact ⟨rfl, bel_alloc (bel_alloc (Below.refl _ _) _) _⟩
                  · skip
                    obtain rfl : β = false := by
                      cases β with
                      | false => rfl
                      | true => exact absurd (HB2.out.1 rfl) (by rintro ⟨⟨q0, q1⟩, (⟨q2, ⟨q3, q4⟩, ⟨q5, q6⟩, q7, q8, ⟨q9, qa, qb, qc⟩, qd, qe⟩ | ⟨q2, q3, q4, ⟨q5, q6⟩, ⟨q7, q8⟩, q9, qa, qb, qc⟩)⟩ <;> first | omega | simp_all)
                    have hn : (line == 0) = false := by simp; omega
                    go_enter Try.func30, Try.ntmps30
                    go_wp2
                    go_ret
                    exact ⟨rfl, bel_alloc (bel_alloc (Below.refl _ _) _) _⟩
                · skip
                  obtain rfl : β = false := by
                    cases β with
                    | false => rfl
                    | true => exact absurd (HB2.out.1 rfl) (by rintro ⟨⟨q0, q1⟩, (⟨q2, ⟨q3, q4⟩, ⟨q5, q6⟩, q7, q8, ⟨q9, qa, qb, qc⟩, qd, qe⟩ | ⟨q2, q3, q4, ⟨q5, q6⟩, ⟨q7, q8⟩, q9, qa, qb, qc⟩)⟩ <;> first | omega | simp_all)
                  have hn : (grp == 0) = false := by simp; omega
                  go_enter Try.func30, Try.ntmps30
                  go_wp2
                  go_ret
                  exact ⟨rfl, bel_alloc (bel_alloc (Below.refl _ _) _) _⟩
              · skip
                obtain rfl : β = false := by
                  cases β with
                  | false => rfl
                  | true => exact absurd (HB2.out.1 rfl) (by rintro ⟨⟨q0, q1⟩, (⟨q2, ⟨q3, q4⟩, ⟨q5, q6⟩, q7, q8, ⟨q9, qa, qb, qc⟩, qd, qe⟩ | ⟨q2, q3, q4, ⟨q5, q6⟩, ⟨q7, q8⟩, q9, qa, qb, qc⟩)⟩ <;> first | omega | simp_all)
                go_enter Try.func30, Try.ntmps30
                go_wp2
                go_ret
                exact ⟨rfl, bel_alloc (bel_alloc (Below.refl _ _) _) _⟩
            · skip
              obtain rfl : β = false := by
                cases β with
                | false => rfl
                | true => exact absurd (HB2.out.1 rfl) (by rintro ⟨⟨q0, q1⟩, (⟨q2, ⟨q3, q4⟩, ⟨q5, q6⟩, q7, q8, ⟨q9, qa, qb, qc⟩, qd, qe⟩ | ⟨q2, q3, q4, ⟨q5, q6⟩, ⟨q7, q8⟩, q9, qa, qb, qc⟩)⟩ <;> first | omega | simp_all)
              go_enter Try.func30, Try.ntmps30
              go_wp2
              go_ret
              exact ⟨rfl, bel_alloc (bel_alloc (Below.refl _ _) _) _⟩
          · skip
            obtain rfl : β = false := by
              cases β with
              | false => rfl
              | true => exact absurd (HB2.out.1 rfl) (by rintro ⟨⟨q0, q1⟩, (⟨q2, ⟨q3, q4⟩, ⟨q5, q6⟩, q7, q8, ⟨q9, qa, qb, qc⟩, qd, qe⟩ | ⟨q2, q3, q4, ⟨q5, q6⟩, ⟨q7, q8⟩, q9, qa, qb, qc⟩)⟩ <;> first | omega | simp_all)
            go_enter Try.func30, Try.ntmps30
            go_wp2
            go_ret
            exact ⟨rfl, bel_alloc (bel_alloc (Below.refl _ _) _) _⟩
        · skip
          obtain rfl : β = false := by
            cases β with
            | false => rfl
            | true => exact absurd (HB2.out.1 rfl) (by rintro ⟨⟨q0, q1⟩, (⟨q2, ⟨q3, q4⟩, ⟨q5, q6⟩, q7, q8, ⟨q9, qa, qb, qc⟩, qd, qe⟩ | ⟨q2, q3, q4, ⟨q5, q6⟩, ⟨q7, q8⟩, q9, qa, qb, qc⟩)⟩ <;> first | omega | simp_all)
          go_enter Try.func30, Try.ntmps30
          go_wp2
          go_ret
          exact ⟨rfl, bel_alloc (bel_alloc (Below.refl _ _) _) _⟩
      · have hb1 : (tag == 1) = false := by simp; omega
        by_cases h2 : tag = 2
        · have hb2 : (tag == 2) = true := by simp; omega
          by_cases k3 : 1 ≤ verb
          · skip
            by_cases k4 : verb ≤ 3
            · skip
              by_cases k5 : -1 ≤ ent
              · skip
                by_cases k6 : ent < (ne : Int)
                · skip
                  by_cases k7 : grp = 0
                  · skip
                    have hg : (grp == 0) = true := by simp; omega
                    by_cases k8 : line = 0
                    · skip
                      have hl : (line == 0) = true := by simp; omega
                      by_cases k9 : neg = false
                      · skip
                        subst k9
                        by_cases ka : c0 = 0 ∧ c1 = 0
                        · skip
                          have hE : eqW2 (c0 : Int) (c1 : Int) 0 0 = true := eqW2_yes (by omega)
                          by_cases kb : sc = 0
                          · skip
                            have hsc : (sc == 0) = true := by simp; omega
                            by_cases kc : toS = 0
                            · skip
                              have htS : ((toS : Int) == 0) = true := by simp; omega
                              by_cases kd : toL = 0
                              · skip
                                have htL : (toL == 0) = true := by simp; omega
                                obtain rfl : β = true := HB2.out.2 ⟨⟨k1, k2⟩, .inl ⟨by omega, ⟨k3, k4⟩, ⟨k5, k6⟩, k7, k8, ⟨rfl, ka.1, ka.2, kb⟩, kc, kd⟩⟩
                                go_enter Try.func30, Try.ntmps30
                                go_wp2
                                go_ret
                                exact ⟨rfl, bel_alloc (bel_alloc (Below.refl _ _) _) _⟩
                              · skip
                                obtain rfl : β = false := by
                                  cases β with
                                  | false => rfl
                                  | true => exact absurd (HB2.out.1 rfl) (by rintro ⟨⟨q0, q1⟩, (⟨q2, ⟨q3, q4⟩, ⟨q5, q6⟩, q7, q8, ⟨q9, qa, qb, qc⟩, qd, qe⟩ | ⟨q2, q3, q4, ⟨q5, q6⟩, ⟨q7, q8⟩, q9, qa, qb, qc⟩)⟩ <;> first | omega | simp_all)
                                have hn : (toL == 0) = false := by simp; omega
                                go_enter Try.func30, Try.ntmps30
                                go_wp2
                                go_ret
                                exact ⟨rfl, bel_alloc (bel_alloc (Below.refl _ _) _) _⟩
                            · skip
                              obtain rfl : β = false := by
                                cases β with
                                | false => rfl
                                | true => exact absurd (HB2.out.1 rfl) (by rintro ⟨⟨q0, q1⟩, (⟨q2, ⟨q3, q4⟩, ⟨q5, q6⟩, q7, q8, ⟨q9, qa, qb, qc⟩, qd, qe⟩ | ⟨q2, q3, q4, ⟨q5, q6⟩, ⟨q7, q8⟩, q9, qa, qb, qc⟩)⟩ <;> first | omega | simp_all)
                              have hn : ((toS : Int) == 0) = false := by simp; omega
                              go_enter Try.func30, Try.ntmps30
                              go_wp2
                              go_ret
                              exact ⟨rfl, bel_alloc (bel_alloc (Below.refl _ _) _) _⟩
                          · skip
                            obtain rfl : β = false := by
                              cases β with
                              | false => rfl
                              | true => exact absurd (HB2.out.1 rfl) (by rintro ⟨⟨q0, q1⟩, (⟨q2, ⟨q3, q4⟩, ⟨q5, q6⟩, q7, q8, ⟨q9, qa, qb, qc⟩, qd, qe⟩ | ⟨q2, q3, q4, ⟨q5, q6⟩, ⟨q7, q8⟩, q9, qa, qb, qc⟩)⟩ <;> first | omega | simp_all)
                            have hn : (sc == 0) = false := by simp; omega
                            go_enter Try.func30, Try.ntmps30
                            go_wp2
                            go_ret
                            exact ⟨rfl, bel_alloc (bel_alloc (Below.refl _ _) _) _⟩
                        · skip
                          obtain rfl : β = false := by
                            cases β with
                            | false => rfl
                            | true => exact absurd (HB2.out.1 rfl) (by rintro ⟨⟨q0, q1⟩, (⟨q2, ⟨q3, q4⟩, ⟨q5, q6⟩, q7, q8, ⟨q9, qa, qb, qc⟩, qd, qe⟩ | ⟨q2, q3, q4, ⟨q5, q6⟩, ⟨q7, q8⟩, q9, qa, qb, qc⟩)⟩ <;> first | omega | simp_all)
                          have hE : eqW2 (c0 : Int) (c1 : Int) 0 0 = false := eqW2_no (by omega)
                          go_enter Try.func30, Try.ntmps30
                          go_wp2
                          go_ret
                          exact ⟨rfl, bel_alloc (bel_alloc (Below.refl _ _) _) _⟩
                      · skip
                        obtain rfl : β = false := by
                          cases β with
                          | false => rfl
                          | true => exact absurd (HB2.out.1 rfl) (by rintro ⟨⟨q0, q1⟩, (⟨q2, ⟨q3, q4⟩, ⟨q5, q6⟩, q7, q8, ⟨q9, qa, qb, qc⟩, qd, qe⟩ | ⟨q2, q3, q4, ⟨q5, q6⟩, ⟨q7, q8⟩, q9, qa, qb, qc⟩)⟩ <;> first | omega | simp_all)
                        obtain rfl : neg = true := by simpa using k9
                        go_enter Try.func30, Try.ntmps30
                        go_wp2
                        go_ret
                        exact ⟨rfl, bel_alloc (bel_alloc (Below.refl _ _) _) _⟩
                    · skip
                      obtain rfl : β = false := by
                        cases β with
                        | false => rfl
                        | true => exact absurd (HB2.out.1 rfl) (by rintro ⟨⟨q0, q1⟩, (⟨q2, ⟨q3, q4⟩, ⟨q5, q6⟩, q7, q8, ⟨q9, qa, qb, qc⟩, qd, qe⟩ | ⟨q2, q3, q4, ⟨q5, q6⟩, ⟨q7, q8⟩, q9, qa, qb, qc⟩)⟩ <;> first | omega | simp_all)
                      have hn : (line == 0) = false := by simp; omega
                      go_enter Try.func30, Try.ntmps30
                      go_wp2
                      go_ret
                      exact ⟨rfl, bel_alloc (bel_alloc (Below.refl _ _) _) _⟩
                  · skip
                    obtain rfl : β = false := by
                      cases β with
                      | false => rfl
                      | true => exact absurd (HB2.out.1 rfl) (by rintro ⟨⟨q0, q1⟩, (⟨q2, ⟨q3, q4⟩, ⟨q5, q6⟩, q7, q8, ⟨q9, qa, qb, qc⟩, qd, qe⟩ | ⟨q2, q3, q4, ⟨q5, q6⟩, ⟨q7, q8⟩, q9, qa, qb, qc⟩)⟩ <;> first | omega | simp_all)
                    have hn : (grp == 0) = false := by simp; omega
                    go_enter Try.func30, Try.ntmps30
                    go_wp2
                    go_ret
                    exact ⟨rfl, bel_alloc (bel_alloc (Below.refl _ _) _) _⟩
                · skip
                  obtain rfl : β = false := by
                    cases β with
                    | false => rfl
                    | true => exact absurd (HB2.out.1 rfl) (by rintro ⟨⟨q0, q1⟩, (⟨q2, ⟨q3, q4⟩, ⟨q5, q6⟩, q7, q8, ⟨q9, qa, qb, qc⟩, qd, qe⟩ | ⟨q2, q3, q4, ⟨q5, q6⟩, ⟨q7, q8⟩, q9, qa, qb, qc⟩)⟩ <;> first | omega | simp_all)
                  go_enter Try.func30, Try.ntmps30
                  go_wp2
                  go_ret
                  exact ⟨rfl, bel_alloc (bel_alloc (Below.refl _ _) _) _⟩
              · skip
                obtain rfl : β = false := by
                  cases β with
                  | false => rfl
                  | true => exact absurd (HB2.out.1 rfl) (by rintro ⟨⟨q0, q1⟩, (⟨q2, ⟨q3, q4⟩, ⟨q5, q6⟩, q7, q8, ⟨q9, qa, qb, qc⟩, qd, qe⟩ | ⟨q2, q3, q4, ⟨q5, q6⟩, ⟨q7, q8⟩, q9, qa, qb, qc⟩)⟩ <;> first | omega | simp_all)
                go_enter Try.func30, Try.ntmps30
                go_wp2
                go_ret
                exact ⟨rfl, bel_alloc (bel_alloc (Below.refl _ _) _) _⟩
            · skip
              obtain rfl : β = false := by
                cases β with
                | false => rfl
                | true => exact absurd (HB2.out.1 rfl) (by rintro ⟨⟨q0, q1⟩, (⟨q2, ⟨q3, q4⟩, ⟨q5, q6⟩, q7, q8, ⟨q9, qa, qb, qc⟩, qd, qe⟩ | ⟨q2, q3, q4, ⟨q5, q6⟩, ⟨q7, q8⟩, q9, qa, qb, qc⟩)⟩ <;> first | omega | simp_all)
              go_enter Try.func30, Try.ntmps30
              go_wp2
              go_ret
              exact ⟨rfl, bel_alloc (bel_alloc (Below.refl _ _) _) _⟩
          · skip
            obtain rfl : β = false := by
              cases β with
              | false => rfl
              | true => exact absurd (HB2.out.1 rfl) (by rintro ⟨⟨q0, q1⟩, (⟨q2, ⟨q3, q4⟩, ⟨q5, q6⟩, q7, q8, ⟨q9, qa, qb, qc⟩, qd, qe⟩ | ⟨q2, q3, q4, ⟨q5, q6⟩, ⟨q7, q8⟩, q9, qa, qb, qc⟩)⟩ <;> first | omega | simp_all)
            go_enter Try.func30, Try.ntmps30
            go_wp2
            go_ret
            exact ⟨rfl, bel_alloc (bel_alloc (Below.refl _ _) _) _⟩
        · have hb2 : (tag == 2) = false := by simp; omega
          by_cases h3 : tag = 3
          · have hb3 : ((3 : Int) == 1) = false := by decide
            subst h3
            have h3 : (3 : Int) = 3 := rfl
            clear h1 h2 hb1 hb2 hb3
            by_cases j3 : verb = 0
            · skip
              obtain rfl := j3
              by_cases j4 : ent = -1
              · skip
                obtain rfl := j4
                by_cases j5 : 0 ≤ grp
                · skip
                  by_cases j6 : grp < (ng : Int)
                  · skip
                    by_cases j7 : 0 ≤ line
                    · skip
                      by_cases j8 : line < 6
                      · skip
                        go_enter Try.func30, Try.ntmps30
                        go_wp2_with fail
                        obtain ⟨W, hW⟩ : ∃ W, (w.alloc (.cells #[.slice Ae ne ce, .slice Ag ng cg, .slice Ah nh ch, .slice Au nu cu, .slice Ar nr cr] 28)).alloc (.cells #[.int .i64 3, .int .i64 role, .int .i64 0, .int .i64 (-1), .int .i64 grp, .int .i64 line, .bool neg, .int .u64 (c0 : Int), .int .u64 (c1 : Int), .int .i64 sc, .int .u64 (toS : Int), .int .i64 toL] 51) = W := ⟨_, rfl⟩
                        have HBW := Lib.hid (show Below w.heap.size w W from by rw [← hW]; exact bel_alloc (bel_alloc (Below.refl _ _) _) _)
                        have HT := Lib.hid (show Blk W (w.heap.size + 1) 51 #[.int .i64 3, .int .i64 role, .int .i64 0, .int .i64 (-1), .int .i64 grp, .int .i64 line, .bool neg, .int .u64 (c0 : Int), .int .u64 (c1 : Int), .int .i64 sc, .int .u64 (toS : Int), .int .i64 toL] from by rw [← hW]; have h := Blk.new (w.alloc (.cells #[.slice Ae ne ce, .slice Ag ng cg, .slice Ah nh ch, .slice Au nu cu, .slice Ar nr cr] 28)) 51 #[.int .i64 3, .int .i64 role, .int .i64 0, .int .i64 (-1), .int .i64 grp, .int .i64 line, .bool neg, .int .u64 (c0 : Int), .int .u64 (c1 : Int), .int .i64 sc, .int .u64 (toS : Int), .int .i64 toL]; simpa using h)
                        rw [hW]
                        clear hW
                        (with_reducible refine (HD2.out _).mono ?_)
                        rintro e w1 ⟨_, rfl, rfl, hb⟩
                        have HT1 := Lib.hid (HT.out.below hb HT.out.lt)
                        have HBW1 := Lib.hid (HBW.out.trans (hb.mono HBW.out.size))
                        have r16 : w1.cell? ⟨w.heap.size + 1, 6, none⟩ = some (.bool neg) := (HT1.out.cell 6).trans rfl
                        have r17 : w1.cell? ⟨w.heap.size + 1, 7, none⟩ = some (.int .u64 (c0 : Int)) := (HT1.out.cell 7).trans rfl
                        have r18 : w1.cell? ⟨w.heap.size + 1, 8, none⟩ = some (.int .u64 (c1 : Int)) := (HT1.out.cell 8).trans rfl
                        have r19 : w1.cell? ⟨w.heap.size + 1, 9, none⟩ = some (.int .i64 sc) := (HT1.out.cell 9).trans rfl
                        have r110 : w1.cell? ⟨w.heap.size + 1, 10, none⟩ = some (.int .u64 (toS : Int)) := (HT1.out.cell 10).trans rfl
                        have r111 : w1.cell? ⟨w.heap.size + 1, 11, none⟩ = some (.int .i64 toL) := (HT1.out.cell 11).trans rfl
                        have rl1 := HT1.out.lt
                        clear hb
                        cases δ
                        · skip
                          obtain rfl : β = false := by
                            cases β with
                            | false => rfl
                            | true => exact absurd (HB2.out.1 rfl) (by rintro ⟨⟨q0, q1⟩, (⟨q2, ⟨q3, q4⟩, ⟨q5, q6⟩, q7, q8, ⟨q9, qa, qb, qc⟩, qd, qe⟩ | ⟨q2, q3, q4, ⟨q5, q6⟩, ⟨q7, q8⟩, q9, qa, qb, qc⟩)⟩ <;> first | omega | simp_all)
                          go_wp2
                          go_ret
                          exact ⟨rfl, HBW1.out⟩
                        · go_wp2_with fail
                          (with_reducible refine (HS.out _).mono ?_)
                          rintro e w2 ⟨_, rfl, rfl, hb⟩
                          have HT2 := Lib.hid (HT1.out.below hb HT1.out.lt)
                          have HBW2 := Lib.hid (HBW1.out.trans (hb.mono HBW1.out.size))
                          have r26 : w2.cell? ⟨w.heap.size + 1, 6, none⟩ = some (.bool neg) := (HT2.out.cell 6).trans rfl
                          have r27 : w2.cell? ⟨w.heap.size + 1, 7, none⟩ = some (.int .u64 (c0 : Int)) := (HT2.out.cell 7).trans rfl
                          have r28 : w2.cell? ⟨w.heap.size + 1, 8, none⟩ = some (.int .u64 (c1 : Int)) := (HT2.out.cell 8).trans rfl
                          have r29 : w2.cell? ⟨w.heap.size + 1, 9, none⟩ = some (.int .i64 sc) := (HT2.out.cell 9).trans rfl
                          have r210 : w2.cell? ⟨w.heap.size + 1, 10, none⟩ = some (.int .u64 (toS : Int)) := (HT2.out.cell 10).trans rfl
                          have r211 : w2.cell? ⟨w.heap.size + 1, 11, none⟩ = some (.int .i64 toL) := (HT2.out.cell 11).trans rfl
                          have rl2 := HT2.out.lt
                          clear hb
                          by_cases j9 : 0 < s
                          · by_cases ja : sc ≤ 2
                            · go_wp2_with fail
                              (with_reducible refine (HR.out _).mono ?_)
                              rintro e w3 ⟨rfl, hb⟩
                              have HBW3 := Lib.hid (HBW2.out.trans (hb.mono HBW2.out.size))
                              obtain rfl : β = ρ := by
                                cases ρ with
                                | true => exact HB2.out.2 (by refine ⟨⟨k1, k2⟩, .inr ⟨?_, ?_, ?_, ⟨j5, j6⟩, ⟨j7, j8⟩, ?_, j9, ja, ?_⟩⟩ <;> first | rfl | trivial)
                                | false =>
                                  cases β with
                                  | false => rfl
                                  | true => exact absurd (HB2.out.1 rfl) (by rintro ⟨⟨q0, q1⟩, (⟨q2, ⟨q3, q4⟩, ⟨q5, q6⟩, q7, q8, ⟨q9, qa, qb, qc⟩, qd, qe⟩ | ⟨q2, q3, q4, ⟨q5, q6⟩, ⟨q7, q8⟩, q9, qa, qb, qc⟩)⟩ <;> first | omega | simp_all)
                              clear hb
                              go_wp2
                              go_ret
                              exact ⟨rfl, HBW3.out⟩
                            · skip
                              obtain rfl : β = false := by
                                cases β with
                                | false => rfl
                                | true => exact absurd (HB2.out.1 rfl) (by rintro ⟨⟨q0, q1⟩, (⟨q2, ⟨q3, q4⟩, ⟨q5, q6⟩, q7, q8, ⟨q9, qa, qb, qc⟩, qd, qe⟩ | ⟨q2, q3, q4, ⟨q5, q6⟩, ⟨q7, q8⟩, q9, qa, qb, qc⟩)⟩ <;> first | omega | simp_all)
                              go_wp2
                              go_ret
                              exact ⟨rfl, HBW2.out⟩
                          · skip
                            obtain rfl : β = false := by
                              cases β with
                              | false => rfl
                              | true => exact absurd (HB2.out.1 rfl) (by rintro ⟨⟨q0, q1⟩, (⟨q2, ⟨q3, q4⟩, ⟨q5, q6⟩, q7, q8, ⟨q9, qa, qb, qc⟩, qd, qe⟩ | ⟨q2, q3, q4, ⟨q5, q6⟩, ⟨q7, q8⟩, q9, qa, qb, qc⟩)⟩ <;> first | omega | simp_all)
                            go_wp2
                            go_ret
                            exact ⟨rfl, HBW2.out⟩
                      · skip
                        obtain rfl : β = false := by
                          cases β with
                          | false => rfl
                          | true => exact absurd (HB2.out.1 rfl) (by rintro ⟨⟨q0, q1⟩, (⟨q2, ⟨q3, q4⟩, ⟨q5, q6⟩, q7, q8, ⟨q9, qa, qb, qc⟩, qd, qe⟩ | ⟨q2, q3, q4, ⟨q5, q6⟩, ⟨q7, q8⟩, q9, qa, qb, qc⟩)⟩ <;> first | omega | simp_all)
                        go_enter Try.func30, Try.ntmps30
                        go_wp2
                        go_ret
                        exact ⟨rfl, bel_alloc (bel_alloc (Below.refl _ _) _) _⟩
                    · skip
                      obtain rfl : β = false := by
                        cases β with
                        | false => rfl
                        | true => exact absurd (HB2.out.1 rfl) (by rintro ⟨⟨q0, q1⟩, (⟨q2, ⟨q3, q4⟩, ⟨q5, q6⟩, q7, q8, ⟨q9, qa, qb, qc⟩, qd, qe⟩ | ⟨q2, q3, q4, ⟨q5, q6⟩, ⟨q7, q8⟩, q9, qa, qb, qc⟩)⟩ <;> first | omega | simp_all)
                      go_enter Try.func30, Try.ntmps30
                      go_wp2
                      go_ret
                      exact ⟨rfl, bel_alloc (bel_alloc (Below.refl _ _) _) _⟩
                  · skip
                    obtain rfl : β = false := by
                      cases β with
                      | false => rfl
                      | true => exact absurd (HB2.out.1 rfl) (by rintro ⟨⟨q0, q1⟩, (⟨q2, ⟨q3, q4⟩, ⟨q5, q6⟩, q7, q8, ⟨q9, qa, qb, qc⟩, qd, qe⟩ | ⟨q2, q3, q4, ⟨q5, q6⟩, ⟨q7, q8⟩, q9, qa, qb, qc⟩)⟩ <;> first | omega | simp_all)
                    go_enter Try.func30, Try.ntmps30
                    go_wp2
                    go_ret
                    exact ⟨rfl, bel_alloc (bel_alloc (Below.refl _ _) _) _⟩
                · skip
                  obtain rfl : β = false := by
                    cases β with
                    | false => rfl
                    | true => exact absurd (HB2.out.1 rfl) (by rintro ⟨⟨q0, q1⟩, (⟨q2, ⟨q3, q4⟩, ⟨q5, q6⟩, q7, q8, ⟨q9, qa, qb, qc⟩, qd, qe⟩ | ⟨q2, q3, q4, ⟨q5, q6⟩, ⟨q7, q8⟩, q9, qa, qb, qc⟩)⟩ <;> first | omega | simp_all)
                  go_enter Try.func30, Try.ntmps30
                  go_wp2
                  go_ret
                  exact ⟨rfl, bel_alloc (bel_alloc (Below.refl _ _) _) _⟩
              · skip
                obtain rfl : β = false := by
                  cases β with
                  | false => rfl
                  | true => exact absurd (HB2.out.1 rfl) (by rintro ⟨⟨q0, q1⟩, (⟨q2, ⟨q3, q4⟩, ⟨q5, q6⟩, q7, q8, ⟨q9, qa, qb, qc⟩, qd, qe⟩ | ⟨q2, q3, q4, ⟨q5, q6⟩, ⟨q7, q8⟩, q9, qa, qb, qc⟩)⟩ <;> first | omega | simp_all)
                have hn : (ent == -1) = false := by simp; omega
                go_enter Try.func30, Try.ntmps30
                go_wp2
                go_ret
                exact ⟨rfl, bel_alloc (bel_alloc (Below.refl _ _) _) _⟩
            · skip
              obtain rfl : β = false := by
                cases β with
                | false => rfl
                | true => exact absurd (HB2.out.1 rfl) (by rintro ⟨⟨q0, q1⟩, (⟨q2, ⟨q3, q4⟩, ⟨q5, q6⟩, q7, q8, ⟨q9, qa, qb, qc⟩, qd, qe⟩ | ⟨q2, q3, q4, ⟨q5, q6⟩, ⟨q7, q8⟩, q9, qa, qb, qc⟩)⟩ <;> first | omega | simp_all)
              have hn : (verb == 0) = false := by simp; omega
              go_enter Try.func30, Try.ntmps30
              go_wp2
              go_ret
              exact ⟨rfl, bel_alloc (bel_alloc (Below.refl _ _) _) _⟩
          · have hb3 : (tag == 3) = false := by simp; omega
            obtain rfl : β = false := by
              cases β with
              | false => rfl
              | true => exact absurd (HB2.out.1 rfl) (by rintro ⟨⟨q0, q1⟩, (⟨q2, ⟨q3, q4⟩, ⟨q5, q6⟩, q7, q8, ⟨q9, qa, qb, qc⟩, qd, qe⟩ | ⟨q2, q3, q4, ⟨q5, q6⟩, ⟨q7, q8⟩, q9, qa, qb, qc⟩)⟩ <;> first | omega | simp_all)
            go_enter Try.func30, Try.ntmps30
            go_wp2
            go_ret
            exact ⟨rfl, bel_alloc (bel_alloc (Below.refl _ _) _) _⟩
    · skip
      obtain rfl : β = false := by
        cases β with
        | false => rfl
        | true => exact absurd (HB2.out.1 rfl) (by rintro ⟨⟨q0, q1⟩, (⟨q2, ⟨q3, q4⟩, ⟨q5, q6⟩, q7, q8, ⟨q9, qa, qb, qc⟩, qd, qe⟩ | ⟨q2, q3, q4, ⟨q5, q6⟩, ⟨q7, q8⟩, q9, qa, qb, qc⟩)⟩ <;> first | omega | simp_all)
      go_enter Try.func30, Try.ntmps30
      go_wp2
      go_ret
      exact ⟨rfl, bel_alloc (bel_alloc (Below.refl _ _) _) _⟩
  · skip
    obtain rfl : β = false := by
      cases β with
      | false => rfl
      | true => exact absurd (HB2.out.1 rfl) (by rintro ⟨⟨q0, q1⟩, (⟨q2, ⟨q3, q4⟩, ⟨q5, q6⟩, q7, q8, ⟨q9, qa, qb, qc⟩, qd, qe⟩ | ⟨q2, q3, q4, ⟨q5, q6⟩, ⟨q7, q8⟩, q9, qa, qb, qc⟩)⟩ <;> first | omega | simp_all)
    go_enter Try.func30, Try.ntmps30
    go_wp2
    go_ret
    exact ⟨rfl, bel_alloc (bel_alloc (Below.refl _ _) _) _⟩
end Go.Proofs.Ytakofbkbbmpfeaa
