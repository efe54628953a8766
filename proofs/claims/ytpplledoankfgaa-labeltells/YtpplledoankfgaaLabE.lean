/- Labels of pyxref4: Below, Join, Meet, OfEnt; of pyxhand; two labels compared. -/
import Derived.Test.YtpplledoankfgaaLabD
import Derived.ProofKit
namespace Go.Proofs.Ytpplledoankfgaa
open Go.RowKit
theorem under_lab : Try.prog.underlying 25 = some (.struct (Try.prog.fieldsOf 25)) := by kernel_rfl
theorem stood_lab : Try.prog.stoodInHeld 25 = false := by kernel_rfl
theorem fields_lab : (Try.prog.fieldsOf 25).toList.map (fun f => (f.name, f.type, f.offset)) = [("Set", 23, 0), ("Level", 3, 1)] := by kernel_rfl
theorem part_l0 (a v : Int) (w : World) : (part 23 #[.int .u64 a, .int .i64 v] 0).run Try.prog w = .ok (.int .u64 a) w := by kernel_rfl
theorem part_l1 (a v : Int) (w : World) : (part 3 #[.int .u64 a, .int .i64 v] 1).run Try.prog w = .ok (.int .i64 v) w := by kernel_rfl
def eqLab (a v b u : Int) : Bool := a == b && v == u
@[go_sem] theorem run_eqLab (a v b u : Int) (w : World) : (Op.equalIn 10000 25 (.agg #[.int .u64 a, .int .i64 v]) (.agg #[.int .u64 b, .int .i64 u])).run Try.prog w = .ok (eqLab a v b u) w := by
  rw [run_equalIn_struct w 9999 _ _ _ under_lab stood_lab]
  have h := fields_lab
  generalize (Try.prog.fieldsOf 25).toList = fs at h ⊢
  rcases fs with _ | ⟨f, _ | ⟨g, _ | ⟨k, fs⟩⟩⟩ <;> simp at h
  obtain ⟨⟨f1, f2, f3⟩, g1, g2, g3⟩ := h
  simp only [Op.eqFields, f1, f2, f3, g1, g2, g3, Sem.run_bind, Sem.run_ite, part_l0, part_l1, Result.andThen_ok]
  have e1 := run_equalIn_int (P := Try.prog) w 9998 23 .u64 .u64 a b Try.underlying23
  have e3 := run_equalIn_int (P := Try.prog) w 9998 3 .i64 .i64 v u Try.underlying3
  simp only [e1, e3, Result.andThen_ok]
  simp only [eqLab]
  cases a == b <;> cases v == u <;> simp
@[go_sem] theorem eqLab_same (a v : Int) : eqLab a v a v = true := by simp [eqLab]
theorem eqLab_nat (a b : Nat) (v u : Int) : eqLab (a : Int) v (b : Int) u = (decide (a = b) && decide (v = u)) := by
  unfold eqLab
  congr 1
  by_cases h : a = b
  · subst h; simp
  · have : ¬ (a : Int) = (b : Int) := by omega
    simp [h, this]
section
variable (a b : Nat) (x y v u : Int) (w : World) (hx : x = (a : Int)) (hy : y = (b : Int)) (ha : a < 18446744073709551616) (hb : b < 18446744073709551616)
include hx hy ha hb
theorem rjoin_c : Calls Try.prog 24 #[.agg #[.int .u64 x, .int .i64 v], .agg #[.int .u64 y, .int .i64 u]] w (RetL w (a ||| b) (max v u)) := by
  have ho := or_bits ha hb hx hy
  clear hx hy
  go_enter Try.func24, Try.ntmps24
  go_wp2
  all_goals exact bodyPost_ret (v := .agg #[.int .u64 ((a ||| b : Nat) : Int), .int .i64 (max v u)]) (by simp [results, Try.results24, go_sem]; omega) rfl ⟨rfl, bel_alloc (bel_alloc (bel_alloc (Below.refl _ _) _) _) _⟩
theorem rmeet_c : Calls Try.prog 25 #[.agg #[.int .u64 x, .int .i64 v], .agg #[.int .u64 y, .int .i64 u]] w (RetL w (a &&& b) (min v u)) := by
  have ho := and_bits ha hb hx hy
  clear hx hy
  go_enter Try.func25, Try.ntmps25
  go_wp2
  all_goals exact bodyPost_ret (v := .agg #[.int .u64 ((a &&& b : Nat) : Int), .int .i64 (min v u)]) (by simp [results, Try.results25, go_sem]; omega) rfl ⟨rfl, bel_alloc (bel_alloc (bel_alloc (Below.refl _ _) _) _) _⟩
end
theorem within_c (x : Int) (w : World) : Calls Try.prog 31 #[.int .i64 x, .int .i64 0, .int .i64 3] w fun e w' => e = .returned (.int .i64 (min (max x 0) 3)) ∧ w = w' := by
  rcases (by omega : x < 0 ∨ x = 0 ∨ (0 < x ∧ x < 3) ∨ 3 ≤ x) with hv | rfl | ⟨hv, hv3⟩ | hv
  · have h0 : x < 3 := by omega
    rw [show min (max x 0) 3 = (0 : Int) by omega]
    go_enter Try.func31, Try.ntmps31
    go_wp2
    go_ret
    exact ⟨ret_int (by simp), rfl⟩
  · rw [show min (max (0 : Int) 0) 3 = (0 : Int) by omega]
    go_enter Try.func31, Try.ntmps31
    go_wp2
    go_ret
    exact ⟨ret_int (by simp), rfl⟩
  · rw [show min (max x 0) 3 = x by omega]
    go_enter Try.func31, Try.ntmps31
    go_wp2
    go_ret
    exact ⟨ret_int (by simp), rfl⟩
  · rw [show min (max x 0) 3 = (3 : Int) by omega]
    go_enter Try.func31, Try.ntmps31
    go_wp2
    go_ret
    exact ⟨ret_int (by simp), rfl⟩
theorem wrap_pow {k : Nat} (hk : k ≤ 8) : IntKind.u64.wrap ((2 : Int) ^ k) = ((2 ^ k : Nat) : Int) := by
  have h := pow_all k (by omega)
  rw [IntKind.wrap_u64, show ((2 : Int) ^ k) = ((2 ^ k : Nat) : Int) by simp]
  generalize (2 ^ k : Nat) = p at h ⊢
  omega
theorem rof_c (x v : Int) (w : World) : Calls Try.prog 26 #[.int .i64 x, .int .i64 v] w (RetL w (ofSet x) (min (max v 0) 3)) := by
  have HW := Lib.hid (fun w' => within_c v w')
  obtain ⟨m, hm⟩ : ∃ m, min (max v 0) 3 = m := ⟨_, rfl⟩
  rw [hm] at HW ⊢
  by_cases hs : 0 ≤ x ∧ x < 8
  · obtain ⟨k, rfl⟩ : ∃ k : Nat, x = (k : Int) := ⟨x.toNat, by omega⟩
    have hk : k < 8 := by omega
    rw [ofSet_nat hk]
    obtain ⟨h0, h8⟩ := hs
    go_enter Try.func26, Try.ntmps26
    go_wp2_with fail
    (with_reducible refine (HW.out _).mono ?_)
    rintro e w' ⟨rfl, rfl⟩
    have hwp := wrap_pow (k := k) (by omega)
    go_wp2
    refine bodyPost_ret (v := .agg #[.int .u64 ((2 ^ k : Nat) : Int), .int .i64 m]) (by simp [results, Try.results26, go_sem]) rfl ⟨rfl, ?_⟩
    exact bel_alloc (bel_alloc (Below.refl _ _) _) _
  · have : ofSet x = 0 := by unfold ofSet; rw [if_neg hs]
    rw [this]
    by_cases h0 : 0 ≤ x
    · have h8 : ¬ x < 8 := fun h => hs ⟨h0, h⟩
      go_enter Try.func26, Try.ntmps26
      go_wp2_with fail
      (with_reducible refine (HW.out _).mono ?_)
      rintro e w' ⟨rfl, rfl⟩
      go_wp2
      refine bodyPost_ret (v := .agg #[.int .u64 ((0 : Nat) : Int), .int .i64 m]) (by simp [results, Try.results26, go_sem]) rfl ⟨rfl, ?_⟩
      exact bel_alloc (bel_alloc (Below.refl _ _) _) _
    · skip
      go_enter Try.func26, Try.ntmps26
      go_wp2_with fail
      (with_reducible refine (HW.out _).mono ?_)
      rintro e w' ⟨rfl, rfl⟩
      go_wp2
      refine bodyPost_ret (v := .agg #[.int .u64 ((0 : Nat) : Int), .int .i64 m]) (by simp [results, Try.results26, go_sem]) rfl ⟨rfl, ?_⟩
      exact bel_alloc (bel_alloc (Below.refl _ _) _) _
/-- Below, bit by bit. -/
def BlI (a b k : Nat) : Prop := ∀ j, j < k → a.testBit j = true → b.testBit j = true
theorem BlI.next {a b k : Nat} (h : BlI a b k) (hk : a.testBit k = true → b.testBit k = true) : BlI a b (k + 1) := fun j hj hb => by
  rcases Nat.lt_or_ge j k with c | c
  · exact h j c hb
  · obtain rfl : j = k := by omega
    exact hk hb
theorem blI_end {a b : Nat} (ha : a < 18446744073709551616) (h : BlI a b 64) : a &&& b = a := sub_iff.2 fun i hi => by
  rcases Nat.lt_or_ge i 64 with c | c
  · exact h i c hi
  · have : a < 2 ^ i := Nat.lt_of_lt_of_le ha (Nat.pow_le_pow_right (n := 2) (by decide) c)
    rw [Nat.testBit_lt_two_pow this] at hi
    cases hi
def RbRel (W : World) (a b : Nat) (i : Value) (wr : World) : Prop := ∃ k : Nat, k ≤ 64 ∧ i = .int .i64 k ∧ BlI a b k ∧ wr = W
set_option maxRecDepth 100000 in
set_option maxHeartbeats 1600000 in
theorem rbelow_c (a b : Nat) (x y v u : Int) (w : World) (hx : x = (a : Int)) (hy : y = (b : Int)) (ha : a < 18446744073709551616) : Calls Try.prog 23 #[.agg #[.int .u64 x, .int .i64 v], .agg #[.int .u64 y, .int .i64 u]] w (RetB w (belowB a v b u)) := by
  subst hx hy
  have HB0 := Lib.hid (bel_alloc (bel_alloc (Below.refl w.heap.size w) (.cells #[.int .u64 (a : Int), .int .i64 v] 25)) (.cells #[.int .u64 (b : Int), .int .i64 u] 25))
  have X := two_of ((Blk.new w 25 #[.int .u64 (a : Int), .int .i64 v]).alloc (.cells #[.int .u64 (b : Int), .int .i64 u] 25))
  have Y := two_of (Blk.new (w.alloc (.cells #[.int .u64 (a : Int), .int .i64 v] 25)) 25 #[.int .u64 (b : Int), .int .i64 u])
  obtain ⟨_, x0, x1, _, _⟩ := X
  obtain ⟨_, y0, y1, _, _⟩ := Y
  simp only [World.size_alloc] at y0 y1
  obtain ⟨W, hW⟩ : ∃ W, (w.alloc (.cells #[.int .u64 (a : Int), .int .i64 v] 25)).alloc (.cells #[.int .u64 (b : Int), .int .i64 u] 25) = W := ⟨_, rfl⟩
  rw [hW] at HB0 x0 x1 y0 y1
  go_enter Try.func23, Try.ntmps23
  go_wp2_with fail
  clear hW
  go_loopw [5] (fun i wr => RbRel W a b i wr) (fun i _ => 64 - (intOf i).toNat)
  case atStart => exact ⟨0, by omega, rfl, fun j hj => by omega, rfl⟩
  case round =>
    obtain ⟨k, hk, rfl, hI, rfl⟩ := hrel
    have HI := Lib.hid hI
    clear hI
    by_cases hlt : k < 64
    · have hlt' : (k : Int) < 64 := by omega
      have RA := Lib.hid (fun w' => has_c a k (a : Int) (k : Int) w' rfl rfl hlt)
      have RB := Lib.hid (fun w' => has_c b k (b : Int) (k : Int) w' rfl rfl hlt)
      cases ht : a.testBit k
      · rw [ht] at RA
        go_wp2_with fail
        (with_reducible refine (RA.out _).mono ?_)
        rintro e w' ⟨rfl, rfl⟩
        go_wp2
        go_roundw
        case rel => exact ⟨k + 1, by omega, by go_num, HI.out.next (fun h => by rw [ht] at h; cases h), rfl⟩
        case measure => simp [intOf]; omega
      · rw [ht] at RA
        cases ht2 : b.testBit k
        · rw [ht2] at RB
          have HV := Lib.hid (show belowB a v b u = false by
            cases e : belowB a v b u
            · rfl
            · have := sub_iff.1 (belowB_iff.1 e).1 k ht
              rw [ht2] at this; cases this)
          go_wp2_with fail
          (with_reducible refine (RA.out _).mono ?_)
          rintro e w' ⟨rfl, rfl⟩
          go_wp2_with fail
          (with_reducible refine (RB.out _).mono ?_)
          rintro e w' ⟨rfl, rfl⟩
          go_wp2
          go_ret
          exact ⟨by rw [HV.out]; rfl, HB0.out⟩
        · rw [ht2] at RB
          go_wp2_with fail
          (with_reducible refine (RA.out _).mono ?_)
          rintro e w' ⟨rfl, rfl⟩
          go_wp2_with fail
          (with_reducible refine (RB.out _).mono ?_)
          rintro e w' ⟨rfl, rfl⟩
          go_wp2
          go_roundw
          case rel => exact ⟨k + 1, by omega, by go_num, HI.out.next (fun _ => ht2), rfl⟩
          case measure => simp [intOf]; omega
    · obtain rfl : k = 64 := by omega
      have he := blI_end ha HI.out
      go_wp2
      go_ret
      exact ⟨by simp [belowB, he], HB0.out⟩
end Go.Proofs.Ytpplledoankfgaa
