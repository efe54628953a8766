/- ReadLabel of pyxref4; Label of pyxhand. -/
import Derived.Test.YtpplledoankfgaaLabE
namespace Go.Proofs.Ytpplledoankfgaa
open Go.RowKit
theorem RdB.lev {w V : World} {n : Nat} {v y : Int} (h : RdB w n v V) : RdB w n y (V.setCell ⟨w.heap.size + 1, 1, none⟩ (.int .i64 y)) := by
  refine ⟨h.1.far (p := ⟨w.heap.size + 1, 1, none⟩) (by simp) _, ?_, h.2.2.setCell (p := ⟨w.heap.size + 1, 1, none⟩) (by simp) _⟩
  have := h.2.1.set_ 1 (.int .i64 y)
  simpa using this
def RlRel (w : World) (s : List UInt8) (i : Value) (wr : World) : Prop :=
  ∃ (k n : Nat) (v : Int), k ≤ s.length ∧ i = .int .i64 k ∧ n < 256 ∧ v = (if k = 0 then 0 else levL s) ∧ lenL n (s.drop (max k 2)) = lenL 0 (s.drop 2) ∧ RdB w n v wr
theorem lenL_no {s : List UInt8} {k n : Nat} (h : k < s.length) (hc : ¬ (48 ≤ s[k].toNat ∧ s[k].toNat < 56)) : lenL n (s.drop k) = lenL n (s.drop (k + 1)) := by
  rw [List.drop_eq_getElem_cons h, lenL, if_neg hc]
theorem lenL_yes {s : List UInt8} {k n : Nat} (h : k < s.length) (hc : 48 ≤ s[k].toNat ∧ s[k].toNat < 56) : lenL n (s.drop k) = lenL (n ||| 2 ^ (s[k].toNat - 48)) (s.drop (k + 1)) := by
  rw [List.drop_eq_getElem_cons h, lenL, if_pos hc]
theorem levL_at {s : List UInt8} (h : 0 < s.length) : levL s = (s[0].toNat : Int) - 48 := by
  match s, h with
  | a :: l, _ => rfl
set_option maxRecDepth 100000 in
set_option maxHeartbeats 1600000 in
theorem rread_c (s : List UInt8) (w : World) (hs : s.length ≤ 281474976710656) : Calls Try.prog 20 #[.string ⟨s.toArray⟩] w (RetR w (readV s)) := by
  have hR0 : RdB w 0 0 ((w.alloc (.cells #[.int .u64 0, .int .i64 0] 25)).alloc (.cells #[.int .u64 0, .int .i64 0] 25)) :=
    ⟨(Blk.new w 25 #[.int .u64 0, .int .i64 0]).alloc _, by have := Blk.new (w.alloc (.cells #[.int .u64 0, .int .i64 0] 25)) 25 #[.int .u64 0, .int .i64 0]; simpa using this, bel_alloc (bel_alloc (Below.refl _ _) _) _⟩
  rw [← rread_eq]
  go_enter Try.func20, Try.ntmps20
  go_wp2
  go_loopw [5] (fun i wr => RlRel w s i wr) (fun i _ => s.length - (intOf i).toNat)
  case atStart => exact ⟨0, 0, 0, by omega, rfl, by omega, rfl, rfl, hR0⟩
  case round =>
    obtain ⟨k, n, v, hk, rfl, hn, hv, hl, hr⟩ := hrel
    have HR := Lib.hid hr
    have HQ := Lib.hid hl
    have HV := Lib.hid hv
    clear hr hl hv hR0
    by_cases hlt : k < s.length
    · have hlt' : (k : Int) < (s.length : Int) := by omega
      obtain ⟨x, hx⟩ : ∃ x : Nat, ((⟨s.toArray⟩ : ByteArray)[k]'hlt).toNat = x := ⟨_, rfl⟩
      have hx2 : s[k].toNat = x := hx
      have hx256 : x < 256 := by rw [← hx]; exact u8_lt _
      obtain ⟨la, a0, a1, fa0, fa1⟩ := two_of HR.out.2.1
      by_cases h0 : k = 0
      · subst h0
        have HLV := Lib.hid (levL_at hlt)
        rw [hx2] at HLV
        clear hx2
        have HR2 := Lib.hid (HR.out.lev (y := (x : Int) - 48))
        go_wp2
        clear la a0 a1 fa0 fa1
        go_roundw
        case rel => exact ⟨1, n, (x : Int) - 48, by omega, by go_num, hn, by simp [HLV.out], HQ.out, HR2.out⟩
        case measure => simp [intOf]; omega
      · by_cases h1 : k = 1
        · subst h1
          have HV1 := Lib.hid (show v = levL s from HV.out)
          clear hx2
          go_wp2
          clear la a0 a1 fa0 fa1
          go_roundw
          case rel => exact ⟨2, n, v, by omega, by go_num, hn, HV1.out, HQ.out, HR.out⟩
          case measure => simp [intOf]; omega
        · have HV1 := Lib.hid (show v = levL s by rw [HV.out, if_neg h0])
          have h0' : ¬ (k : Int) = 0 := by omega
          have h1' : (1 : Int) < (k : Int) := by omega
          have HQ1 := Lib.hid (show lenL n (s.drop k) = lenL 0 (s.drop 2) by rw [← HQ.out, show max k 2 = k by omega])
          have hmx : max (k + 1) 2 = k + 1 := by omega
          have HNO := Lib.hid (lenL_no (n := n) hlt)
          have HYES := Lib.hid (lenL_yes (n := n) hlt)
          rw [hx2] at HNO HYES
          clear hx2
          by_cases hc1 : 48 ≤ x
          · have hc1' : (48 : Int) ≤ (x : Int) := by omega
            by_cases hc2 : x < 56
            · have hc2' : (x : Int) < 56 := by omega
              have HE := Lib.hid ((HYES.out ⟨hc1, hc2⟩).symm.trans HQ1.out)
              obtain ⟨m, hm⟩ : ∃ m : Nat, x - 48 = m := ⟨_, rfl⟩
              rw [hm] at HE
              have hm8 : m < 8 := by omega
              have hwr : (x : Int) - 48 = (m : Int) := by omega
              have hor := or_bits (a := n) (b := 2 ^ m) (x := (n : Int)) (y := ((2 ^ m : Nat) : Int)) (by omega) (by have := pow_all m (by omega); omega) rfl rfl
              have hor2 : n ||| 2 ^ m < 256 := by
                have : 2 ^ m < 2 ^ 8 := Nat.pow_lt_pow_right (by decide) hm8
                exact Nat.or_lt_two_pow (n := 8) hn this
              have hwp := wrap_pow (k := m) (by omega)
              have hw8 : IntKind.u8.wrap (m : Int) = (m : Int) := by rw [IntKind.wrap_u8]; omega
              have hw64 : IntKind.u64.wrap (m : Int) = (m : Int) := by rw [IntKind.wrap_u64]; omega
              have hmin : min m 64 = m := by omega
              obtain ⟨p, hp⟩ : ∃ p : Int, ((2 ^ m : Nat) : Int) = p := ⟨_, rfl⟩
              rw [hp] at hwp hor
              obtain ⟨r, hr⟩ : ∃ r, n ||| 2 ^ m = r := ⟨_, rfl⟩
              rw [hr] at hor hor2 HE
              clear hp hr hm
              go_wp2_with fail
              clear la a0 a1 fa0 fa1
              have HRd := Lib.hid (show RdB w n v wr.drew from ⟨HR.out.1.drew, HR.out.2.1.drew, HR.out.2.2.drew⟩)
              have HRs := Lib.hid (HRd.out.set (m := r) (y := (r : Int)) rfl)
              obtain ⟨la, a0, a1, fa0, fa1⟩ := two_of HRd.out.2.1
              refine wp_region_ord (S := fun _ => True) (by kernel_rfl) ?_
              refine ord_take (v := ?_) (i := 0) (fuel := 10) (by simp; rfl) (by kernel_rfl) (by kernel_rfl) (by kernel_rfl) (Or.inl ⟨by rfl, fun w' hSw => ?_⟩) trivial ?_
              rotate_left
              · go_simp
                all_goals with_reducible rfl
              simp only [Act.put, List.setIfInBounds_toArray, List.set_cons_zero, List.set_cons_succ]
              refine ord_take (v := ?_) (i := 2) (fuel := 9) (by simp; rfl) (by kernel_rfl) (by kernel_rfl) (by kernel_rfl) (Or.inl ⟨by rfl, fun w' hSw => ?_⟩) trivial ?_
              rotate_left
              · go_simp
                all_goals with_reducible rfl
              simp only [Act.put, List.setIfInBounds_toArray, List.set_cons_zero, List.set_cons_succ]
              refine ord_take (v := ?_) (i := 3) (fuel := 8) (by simp; rfl) (by kernel_rfl) (by kernel_rfl) (by kernel_rfl) (Or.inl ⟨by rfl, fun w' hSw => ?_⟩) trivial ?_
              rotate_left
              · go_simp
                all_goals with_reducible rfl
              simp only [Act.put, List.setIfInBounds_toArray, List.set_cons_zero, List.set_cons_succ]
              refine ord_take (v := ?_) (i := 4) (fuel := 7) (by simp; rfl) (by kernel_rfl) (by kernel_rfl) (by kernel_rfl) (Or.inl ⟨by rfl, fun w' hSw => ?_⟩) trivial ?_
              rotate_left
              · go_simp
                all_goals with_reducible rfl
              simp only [Act.put, List.setIfInBounds_toArray, List.set_cons_zero, List.set_cons_succ]
              refine ord_take (v := ?_) (i := 5) (fuel := 6) (by simp; rfl) (by kernel_rfl) (by kernel_rfl) (by kernel_rfl) (Or.inl ⟨by rfl, fun w' hSw => ?_⟩) trivial ?_
              rotate_left
              · go_simp
                all_goals with_reducible rfl
              simp only [Act.put, List.setIfInBounds_toArray, List.set_cons_zero, List.set_cons_succ]
              refine ord_take (v := ?_) (i := 6) (fuel := 5) (by simp; rfl) (by kernel_rfl) (by kernel_rfl) (by kernel_rfl) (Or.inl ⟨by rfl, fun w' hSw => ?_⟩) trivial ?_
              rotate_left
              · go_simp
                all_goals with_reducible rfl
              simp only [Act.put, List.setIfInBounds_toArray, List.set_cons_zero, List.set_cons_succ]
              refine ord_take (v := ?_) (i := 7) (fuel := 4) (by simp; rfl) (by kernel_rfl) (by kernel_rfl) (by kernel_rfl) (Or.inl ⟨by rfl, fun w' hSw => ?_⟩) trivial ?_
              rotate_left
              · go_simp
                all_goals with_reducible rfl
              simp only [Act.put, List.setIfInBounds_toArray, List.set_cons_zero, List.set_cons_succ]
              refine ord_only (v := ?_) (w' := wr.drew) (i := 1) (fuel := 3) (by simp; rfl) (by kernel_rfl) (by rfl) ?_ trivial ?_
              rotate_left
              · go_simp
                all_goals with_reducible rfl
              simp only [Act.put, List.setIfInBounds_toArray, List.set_cons_zero, List.set_cons_succ]
              refine ord_take (v := ?_) (i := 8) (fuel := 2) (by simp; rfl) (by kernel_rfl) (by kernel_rfl) (by kernel_rfl) (Or.inl ⟨by rfl, fun w' hSw => ?_⟩) trivial ?_
              rotate_left
              · go_simp
                all_goals with_reducible rfl
              simp only [Act.put, List.setIfInBounds_toArray, List.set_cons_zero, List.set_cons_succ]
              refine ord_take (v := ?_) (i := 9) (fuel := 1) (by simp; rfl) (by kernel_rfl) (by kernel_rfl) (by kernel_rfl) (Or.inl ⟨by rfl, fun w' hSw => ?_⟩) trivial ?_
              rotate_left
              · go_simp
                all_goals with_reducible rfl
              simp only [Act.put, List.setIfInBounds_toArray, List.set_cons_zero, List.set_cons_succ]
              refine ord_skip (w' := wr.drew.setCell ⟨w.heap.size + 1, 0, none⟩ (.int .u64 (r : Int))) (i := 10) (fuel := 0) (by simp; rfl) (by kernel_rfl) (by rfl) (by rfl) ?_ trivial ?_
              · go_simp
                all_goals with_reducible rfl
              refine ord_done (by kernel_rfl) ?_ _
              clear la a0 a1 fa0 fa1
              go_wp2
              go_roundw
              case rel => exact ⟨k + 1, r, v, by omega, by go_num, hor2, by rw [HV1.out, if_neg (by omega)], by rw [hmx]; exact HE.out, HRs.out⟩
              case measure => simp [intOf]; omega
            · have hc2' : ¬ (x : Int) < 56 := by omega
              have HE := Lib.hid ((HNO.out (fun h => hc2 h.2)).symm.trans HQ1.out)
              go_wp2
              clear la a0 a1 fa0 fa1
              go_roundw
              case rel => exact ⟨k + 1, n, v, by omega, by go_num, hn, by rw [HV1.out, if_neg (by omega)], by rw [hmx]; exact HE.out, HR.out⟩
              case measure => simp [intOf]; omega
          · have hc1' : ¬ (48 : Int) ≤ (x : Int) := by omega
            have HE := Lib.hid ((HNO.out (fun h => hc1 h.1)).symm.trans HQ1.out)
            go_wp2
            clear la a0 a1 fa0 fa1
            go_roundw
            case rel => exact ⟨k + 1, n, v, by omega, by go_num, hn, by rw [HV1.out, if_neg (by omega)], by rw [hmx]; exact HE.out, HR.out⟩
            case measure => simp [intOf]; omega
    · obtain rfl : k = s.length := by omega
      obtain ⟨la, a0, a1, fa0, fa1⟩ := two_of HR.out.2.1
      have hlt' : ¬ (s.length : Int) < (s.length : Int) := by omega
      have HN := Lib.hid (show n = lenL 0 (s.drop 2) by rw [← HQ.out, List.drop_eq_nil_of_le (by omega), lenL])
      have HPC := Lib.hid (fun w' => rprint_c n (n : Int) v w' rfl)
      by_cases h2 : s.length < 2
      · have h2' : (s.length : Int) < 2 := by omega
        have HE := Lib.hid (show rreadV s = (0, 0, 2) by unfold rreadV; rw [if_pos (.inl h2)])
        obtain ⟨_, q0, q1, f0, f1⟩ := two_of HR.out.1
        go_wp2
        refine bodyPost_ret (v := .tuple #[.agg #[.int .u64 0, .int .i64 0], .int .i64 2]) (by simp [results, Try.results20, go_sem, q0, q1]) rfl ⟨?_, ?_⟩
        · rw [HE.out]; rfl
        · exact bel2 HR.out.2.2 (Nat.le_refl _)
      · have h2' : ¬ (s.length : Int) < 2 := by omega
        have HV1 := Lib.hid (show v = levL s by rw [HV.out, if_neg (by omega)])
        by_cases hpe : printL n v = s
        · have HE := Lib.hid (show rreadV s = (n, v, 0) by
            unfold rreadV
            rw [← HN.out, ← HV1.out, if_neg (by rw [hpe]; simp; omega)])
          rw [hpe] at HPC
          go_wp2_with fail
          (with_reducible refine (HPC.out _).mono ?_)
          rintro e w3 ⟨rfl, hb⟩
          have HR3 := Lib.hid (HR.out.below hb)
          clear hb la a0 a1 fa0 fa1
          obtain ⟨lq, q0, q1, f0, f1⟩ := two_of HR3.out.1
          obtain ⟨la, a0, a1, fa0, fa1⟩ := two_of HR3.out.2.1
          go_wp2
          refine bodyPost_ret (v := .tuple #[.agg #[.int .u64 (n : Int), .int .i64 v], .int .i64 0]) (by simp [results, Try.results20, go_sem, q0, q1]) rfl ⟨?_, ?_⟩
          · rw [HE.out]
          · exact bel2 HR3.out.2.2 (Nat.le_refl _)
        · have HE := Lib.hid (show rreadV s = (0, 0, 2) by
            unfold rreadV
            rw [← HN.out, ← HV1.out, if_pos (.inr hpe)])
          have hne : (printL n v == s) = false := by simpa using hpe
          obtain ⟨P, hP⟩ : ∃ P, printL n v = P := ⟨_, rfl⟩
          rw [hP] at hne HPC hpe
          clear hP
          go_wp2_with fail
          (with_reducible refine (HPC.out _).mono ?_)
          rintro e w3 ⟨rfl, hb⟩
          have HR3 := Lib.hid (HR.out.below hb)
          clear hb la a0 a1 fa0 fa1
          obtain ⟨_, q0, q1, f0, f1⟩ := two_of HR3.out.1
          go_wp2
          refine bodyPost_ret (v := .tuple #[.agg #[.int .u64 0, .int .i64 0], .int .i64 2]) (by simp [results, Try.results20, go_sem, q0, q1]) rfl ⟨?_, ?_⟩
          · rw [HE.out]; rfl
          · exact bel2 HR3.out.2.2 (Nat.le_refl _)
def RetH (w : World) (e : Ending) (w' : World) : Prop := ∃ (n : Nat) (v : Int), n < 18446744073709551616 ∧ (-9223372036854775808 ≤ v ∧ v ≤ 9223372036854775807) ∧ e = .returned (.agg #[.int .u64 (n : Int), .int .i64 v]) ∧ Below w.heap.size w w'
set_option maxRecDepth 100000 in
set_option maxHeartbeats 1600000 in
theorem hlabel_c (n v : Int) (w : World) (hv : -9223372036854775808 ≤ v ∧ v ≤ 9223372036854775807) : Calls Try.prog 17 #[.int .i64 n, .int .i64 v] w (RetH w) := by
  obtain ⟨N, hN⟩ : ∃ N : Nat, IntKind.u64.wrap n = (N : Int) := ⟨(IntKind.u64.wrap n).toNat, by rw [IntKind.wrap_u64]; omega⟩
  have HN := Lib.hid (show N < 18446744073709551616 by rw [IntKind.wrap_u64] at hN; omega)
  have HV := Lib.hid hv
  clear hv
  go_enter Try.func17, Try.ntmps17
  go_wp2_with fail
  (with_reducible refine (pickB v 12 _ (by omega) (by omega)).mono ?_)
  rintro e w' ⟨k, hk, rfl, rfl⟩
  by_cases h10 : (k : Int) = 10
  · have h0 := HV.out
    have h1 := HN.out
    go_wp2
    refine bodyPost_ret (v := .agg #[.int .u64 ((N : Nat) : Int), .int .i64 (v)]) (by simp [results, Try.results17, go_sem]) rfl ⟨_, _, by omega, by omega, rfl, ?_⟩
    exact bel_alloc (Below.refl _ _) _
  · by_cases h11 : (k : Int) = 11
    · go_wp2_with fail
      (with_reducible refine (pickB n 512 _ (by omega) (by omega)).mono ?_)
      rintro e w' ⟨a, ha, rfl, rfl⟩
      go_wp2_with fail
      (with_reducible refine (pickB _ 7 _ (by omega) (by omega)).mono ?_)
      rintro e w' ⟨b, hb, rfl, rfl⟩
      go_wp2
      refine bodyPost_ret (v := .agg #[.int .u64 ((a : Nat) : Int), .int .i64 ((b : Int) - 2)]) (by simp [results, Try.results17, go_sem]) rfl ⟨_, _, by omega, by omega, rfl, ?_⟩
      exact bel_alloc (Below.refl _ _) _
    · go_wp2_with fail
      (with_reducible refine (pickB n 256 _ (by omega) (by omega)).mono ?_)
      rintro e w' ⟨a, ha, rfl, rfl⟩
      go_wp2_with fail
      (with_reducible refine (pickB v 4 _ (by omega) (by omega)).mono ?_)
      rintro e w' ⟨b, hb, rfl, rfl⟩
      go_wp2
      refine bodyPost_ret (v := .agg #[.int .u64 ((a : Nat) : Int), .int .i64 ((b : Int))]) (by simp [results, Try.results17, go_sem]) rfl ⟨_, _, by omega, by omega, rfl, ?_⟩
      exact bel_alloc (Below.refl _ _) _
end Go.Proofs.Ytpplledoankfgaa
