/- Package label: Read. -/
import Derived.Test.YtpplledoankfgaaLabC
import Derived.Test.YtpplledoankfgaaOrd2
namespace Go.Proofs.Ytpplledoankfgaa
open Go.RowKit
/-- A label and an Errno were returned; what was there stays. -/
def RetR (w : World) (q : Nat × Int × Int) (e : Ending) (w' : World) : Prop := e = .returned (.tuple #[.agg #[.int .u64 (q.1 : Int), .int .i64 q.2.1], .int .i64 q.2.2]) ∧ Below w.heap.size w w'
theorem two_of {w : World} {g : Nat} {t : TypeId} {a b : Value} (x : Blk w g t #[a, b]) : g < w.heap.size ∧ w.cell? ⟨g, 0, none⟩ = some a ∧ w.cell? ⟨g, 1, none⟩ = some b ∧ w.frozen? ⟨g, 0, none⟩ = false ∧ w.frozen? ⟨g, 1, none⟩ = false := by
  have x0 := x.cell 0
  have x1 := x.cell 1
  simp at x0 x1
  exact ⟨x.lt, x0, x1, x.frozen 0, x.frozen 1⟩
theorem bel2 {B g : Nat} {w w' : World} {a b : Value} (h : Below B w w') (hg : B ≤ g) : Below B w ((w'.setCell ⟨g, 0, none⟩ a).setCell ⟨g, 1, none⟩ b) :=
  (h.setCell (p := ⟨g, 0, none⟩) hg a).setCell (p := ⟨g, 1, none⟩) hg b
/-- The result's cells, and the label under way. -/
def RdB (w : World) (n : Nat) (v : Int) (V : World) : Prop :=
  Blk V w.heap.size 25 #[.int .u64 0, .int .i64 0] ∧ Blk V (w.heap.size + 1) 25 #[.int .u64 (n : Int), .int .i64 v] ∧ Below w.heap.size w V
theorem RdB.below {w V V' : World} {n : Nat} {v : Int} (h : RdB w n v V) (hb : Below V.heap.size V V') : RdB w n v V' := ⟨h.1.below hb h.1.lt, h.2.1.below hb h.2.1.lt, h.2.2.trans (hb.mono h.2.2.size)⟩
theorem RdB.set {w V : World} {n m : Nat} {v y : Int} (h : RdB w n v V) (hy : y = (m : Int)) : RdB w m v (V.setCell ⟨w.heap.size + 1, 0, none⟩ (.int .u64 y)) := by
  subst hy
  refine ⟨h.1.far (p := ⟨w.heap.size + 1, 0, none⟩) (by simp) _, ?_, h.2.2.setCell (p := ⟨w.heap.size + 1, 0, none⟩) (by simp) _⟩
  have := h.2.1.set_ 0 (.int .u64 (m : Int))
  simpa using this
def RdRel (w : World) (s : List UInt8) (v : Int) (t i : Value) (wr : World) : Prop :=
  ∃ (k n : Nat) (q : Int), 2 ≤ k ∧ k ≤ s.length ∧ i = .int .i64 k ∧ t = .int .i64 q ∧ -1 ≤ q ∧ n < 256 ∧ rdL n q (s.drop k) = rdL 0 (-1) (s.drop 2) ∧ RdB w n v wr
theorem rdL_no {s : List UInt8} {k n : Nat} {q : Int} (h : k < s.length) (hc : (s[k].toNat : Int) - 48 ≤ q ∨ 8 ≤ (s[k].toNat : Int) - 48) : rdL n q (s.drop k) = none := by
  rw [List.drop_eq_getElem_cons h, rdL, if_pos hc]
theorem rdL_go {s : List UInt8} {k n : Nat} {q : Int} (h : k < s.length) (hc : ¬ ((s[k].toNat : Int) - 48 ≤ q ∨ 8 ≤ (s[k].toNat : Int) - 48)) : rdL n q (s.drop k) = rdL (n ||| 2 ^ (s[k].toNat - 48)) ((s[k].toNat : Int) - 48) (s.drop (k + 1)) := by
  rw [List.drop_eq_getElem_cons h, rdL, if_neg hc]
theorem rdL_all {s : List UInt8} {k n : Nat} {q : Int} (h : s.length ≤ k) : rdL n q (s.drop k) = some n := by
  rw [List.drop_eq_nil_of_le h, rdL]
theorem readV_at {s : List UInt8} (h0 : 0 < s.length) (h1 : 1 < s.length) (hb : s[1].toNat = 58) : readV s = match rdL 0 (-1) (s.drop 2) with
      | some n => if rightB n ((s[0].toNat : Int) - 48) then (n, (s[0].toNat : Int) - 48, 0) else (0, 0, 2)
      | none => (0, 0, 2) := by
  match s, h1 with
  | a :: b :: l, _ =>
    simp only [List.getElem_cons_succ, List.getElem_cons_zero] at hb
    rw [readV, if_pos hb]
    rfl
theorem readV_short {s : List UInt8} (h : s.length < 2) : readV s = (0, 0, 2) := by
  match s, h with
  | [], _ => rfl
  | [_], _ => rfl
  | _ :: _ :: _, h => simp at h; omega
theorem readV_colon {s : List UInt8} (h1 : 1 < s.length) (hb : ¬ s[1].toNat = 58) : readV s = (0, 0, 2) := by
  match s, h1 with
  | a :: b :: l, _ =>
    simp only [List.getElem_cons_succ, List.getElem_cons_zero] at hb
    rw [readV, if_neg hb]
set_option maxRecDepth 100000 in
set_option maxHeartbeats 1600000 in
theorem read_c (s : List UInt8) (w : World) (hs : s.length ≤ 281474976710656) : Calls Try.prog 8 #[.string ⟨s.toArray⟩] w (RetR w (readV s)) := by
  have hb0 := Blk.new w 25 #[.int .u64 0, .int .i64 0]
  have hl0 := bel_alloc (Below.refl w.heap.size w) (.cells #[.int .u64 0, .int .i64 0] 25)
  have HB0 := Lib.hid hb0
  have HL0 := Lib.hid hl0
  clear hb0 hl0
  by_cases h2 : s.length < 2
  · have HV := Lib.hid (readV_short h2)
    have h2' : (s.length : Int) < 2 := by omega
    go_enter Try.func8, Try.ntmps8
    obtain ⟨_, q0, q1, f0, f1⟩ := two_of HB0.out
    go_wp2
    refine bodyPost_ret (v := .tuple #[.agg #[.int .u64 0, .int .i64 0], .int .i64 2]) (by simp [results, Try.results8, go_sem, q0, q1]) rfl ⟨?_, ?_⟩
    · rw [HV.out]; rfl
    · exact HL0.out
  · have h2' : ¬ (s.length : Int) < 2 := by omega
    have h1 : 1 < s.length := by omega
    have h1' : (1 : Int) < (s.length : Int) := by omega
    by_cases hc : s[1].toNat = 58
    · have hc2 : ((⟨s.toArray⟩ : ByteArray)[1]'h1).toNat = 58 := hc
      have h0 : 0 < s.length := by omega
      have HV := Lib.hid (readV_at h0 h1 hc)
      have h0' : (0 : Int) < (s.length : Int) := by omega
      obtain ⟨x, hx⟩ : ∃ x : Nat, ((⟨s.toArray⟩ : ByteArray)[0]'h0).toNat = x := ⟨_, rfl⟩
      have hx2 : s[0].toNat = x := hx
      have hx256 : x < 256 := by rw [← hx]; exact u8_lt _
      rw [hx2] at HV
      clear hx2
      obtain ⟨v, hv⟩ : ∃ v : Int, (x : Int) - 48 = v := ⟨_, rfl⟩
      have HN := Lib.hid (fun w' => by have h := number_c (x : Int) w' (by omega) (by omega); rw [hv] at h; exact h)
      rw [hv] at HV
      have HRR := Lib.hid (fun n w' => right_c n (n : Int) v w' rfl)
      have hR0 : RdB w 0 v ((w.alloc (.cells #[.int .u64 0, .int .i64 0] 25)).alloc (.cells #[.int .u64 0, .int .i64 v] 25)) :=
        ⟨HB0.out.alloc _, by have := Blk.new (w.alloc (.cells #[.int .u64 0, .int .i64 0] 25)) 25 #[.int .u64 0, .int .i64 v]; simpa using this, bel_alloc HL0.out _⟩
      obtain ⟨W2, hW2⟩ : ∃ W2, (w.alloc (.cells #[.int .u64 0, .int .i64 0] 25)).alloc (.cells #[.int .u64 0, .int .i64 v] 25) = W2 := ⟨_, rfl⟩
      rw [hW2] at hR0
      go_enter Try.func8, Try.ntmps8
      go_wp2_with fail
      (with_reducible refine (HN.out _).mono ?_)
      rintro e w' ⟨rfl, rfl⟩
      go_wp2_with fail
      clear hv hx hW2 HB0 HL0 hx256 hc2
      go_loopw [5, 6] (fun t i wr => RdRel w s v t i wr) (fun _ i _ => s.length - (intOf i).toNat)
      case atStart => exact ⟨2, 0, -1, by omega, by omega, rfl, rfl, by omega, by omega, rfl, hR0⟩
      case round =>
        obtain ⟨k, n, q, hk2, hkl, rfl, rfl, hq, hn, hrd, hr⟩ := hrel
        have HR := Lib.hid hr
        have HQ := Lib.hid hrd
        clear hr hrd hR0
        by_cases hlt : k < s.length
        · have hlt' : (k : Int) < (s.length : Int) := by omega
          obtain ⟨x, hx⟩ : ∃ x : Nat, ((⟨s.toArray⟩ : ByteArray)[k]'hlt).toNat = x := ⟨_, rfl⟩
          have hx2 : s[k].toNat = x := hx
          have hx256 : x < 256 := by rw [← hx]; exact u8_lt _
          have HNO := Lib.hid (rdL_no (n := n) (q := q) hlt)
          have HGO := Lib.hid (rdL_go (n := n) (q := q) hlt)
          rw [hx2] at HNO HGO
          clear hx2
          obtain ⟨y, hy⟩ : ∃ y : Int, (x : Int) - 48 = y := ⟨_, rfl⟩
          have HN2 := Lib.hid (fun w' => by have h := number_c (x : Int) w' (by omega) (by omega); rw [hy] at h; exact h)
          rw [hy] at HNO HGO
          obtain ⟨_, q0, q1, f0, f1⟩ := two_of HR.out.1
          by_cases hc1 : y ≤ q
          · have HE := Lib.hid (HQ.out.symm.trans (HNO.out (.inl hc1)))
            go_wp2_with fail
            (with_reducible refine (HN2.out _).mono ?_)
            rintro e w' ⟨rfl, rfl⟩
            go_wp2
            refine bodyPost_ret (v := .tuple #[.agg #[.int .u64 0, .int .i64 0], .int .i64 2]) (by simp [results, Try.results8, go_sem, q0, q1]) rfl ⟨?_, ?_⟩
            · rw [HV.out, HE.out]; rfl
            · exact bel2 HR.out.2.2 (Nat.le_refl _)
          · by_cases hc8 : 8 ≤ y
            · have HE := Lib.hid (HQ.out.symm.trans (HNO.out (.inr hc8)))
              go_wp2_with fail
              (with_reducible refine (HN2.out _).mono ?_)
              rintro e w' ⟨rfl, rfl⟩
              go_wp2
              refine bodyPost_ret (v := .tuple #[.agg #[.int .u64 0, .int .i64 0], .int .i64 2]) (by simp [results, Try.results8, go_sem, q0, q1]) rfl ⟨?_, ?_⟩
              · rw [HV.out, HE.out]; rfl
              · exact bel2 HR.out.2.2 (Nat.le_refl _)
            · have HE := Lib.hid ((HGO.out (fun h => h.elim hc1 hc8)).symm.trans HQ.out)
              obtain ⟨m, hm⟩ : ∃ m : Nat, x - 48 = m := ⟨_, rfl⟩
              rw [hm] at HE
              have hm8 : m < 8 := by omega
              obtain rfl : y = (m : Int) := by omega
              clear hy hm
              have h8 := pow_all m (by omega)
              have hor := or_bits (a := n) (b := 2 ^ m) (x := (n : Int)) (y := ((2 ^ m : Nat) : Int)) (by omega) (by omega) rfl rfl
              have hor2 : n ||| 2 ^ m < 256 := by
                have : 2 ^ m < 2 ^ 8 := Nat.pow_lt_pow_right (by decide) hm8
                exact Nat.or_lt_two_pow (n := 8) hn this
              have HBIT := Lib.hid (fun w' => bit_c m (m : Int) w' rfl (by omega))
              obtain ⟨p, hp⟩ : ∃ p : Int, ((2 ^ m : Nat) : Int) = p := ⟨_, rfl⟩
              rw [hp] at HBIT hor
              obtain ⟨r, hr⟩ : ∃ r, n ||| 2 ^ m = r := ⟨_, rfl⟩
              rw [hr] at hor hor2 HE
              clear hp hr h8
              go_wp2_with fail
              (with_reducible refine (HN2.out _).mono ?_)
              rintro e w' ⟨rfl, rfl⟩
              go_wp2_with fail
              clear q0 q1 f0 f1
              have HRd := Lib.hid (show RdB w n v wr.drew from ⟨HR.out.1.drew, HR.out.2.1.drew, HR.out.2.2.drew⟩)
              have HRs := Lib.hid (HRd.out.set (m := r) (y := (r : Int)) rfl)
              obtain ⟨la, a0, a1, fa0, fa1⟩ := two_of HRd.out.2.1
              refine wp_region_ord (S := fun _ => True) (by kernel_rfl) ?_
              refine ord_take (v := ?_) (i := 0) (fuel := 6) (by simp; rfl) (by kernel_rfl) (by kernel_rfl) (by kernel_rfl) (Or.inl ⟨by rfl, fun w' hSw => ?_⟩) trivial ?_
              rotate_left
              · go_simp
                all_goals with_reducible rfl
              simp only [Act.put, List.setIfInBounds_toArray, List.set_cons_zero, List.set_cons_succ]
              refine ord_take (v := ?_) (i := 2) (fuel := 5) (by simp; rfl) (by kernel_rfl) (by kernel_rfl) (by kernel_rfl) (Or.inl ⟨by rfl, fun w' hSw => ?_⟩) trivial ?_
              rotate_left
              · go_simp
                all_goals with_reducible rfl
              simp only [Act.put, List.setIfInBounds_toArray, List.set_cons_zero, List.set_cons_succ]
              refine ord_two (i := 1) (j := 3) (fuel := 4) (by kernel_rfl) ?_ ?_
              · as_aux_lemma =>
                refine ordI_only (v := ?_) (w' := wr.drew) (by simp; rfl) (by rfl) ?_ trivial ?_
                rotate_left
                · go_simp
                  all_goals with_reducible rfl
                simp only [Act.put, List.setIfInBounds_toArray, List.set_cons_zero, List.set_cons_succ]
                refine ord_call (f := 28) (args := #[.int .i64 (m : Int)]) (w1 := wr.drew) (i := 3) (fuel := 3) (by simp; rfl) (by kernel_rfl) (by rfl) ?_ ?_
                · go_simp
                  all_goals with_reducible rfl
                refine (HBIT.out _).mono ?_
                rintro e w' ⟨rfl, rfl⟩
                refine ⟨_, rfl, trivial, ?_⟩
                simp only [Act.put, List.setIfInBounds_toArray, List.set_cons_zero, List.set_cons_succ]
                refine ord_take (v := ?_) (i := 4) (fuel := 2) (by simp; rfl) (by kernel_rfl) (by kernel_rfl) (by kernel_rfl) (Or.inl ⟨by rfl, fun w' hSw => ?_⟩) trivial ?_
                rotate_left
                · go_simp
                  all_goals with_reducible rfl
                simp only [Act.put, List.setIfInBounds_toArray, List.set_cons_zero, List.set_cons_succ]
                refine ord_take (v := ?_) (i := 5) (fuel := 1) (by simp; rfl) (by kernel_rfl) (by kernel_rfl) (by kernel_rfl) (Or.inl ⟨by rfl, fun w' hSw => ?_⟩) trivial ?_
                rotate_left
                · go_simp
                  all_goals with_reducible rfl
                simp only [Act.put, List.setIfInBounds_toArray, List.set_cons_zero, List.set_cons_succ]
                refine ord_skip (w' := wr.drew.setCell ⟨w.heap.size + 1, 0, none⟩ (.int .u64 (r : Int))) (i := 6) (fuel := 0) (by simp; rfl) (by kernel_rfl) (by rfl) (by rfl) ?_ trivial ?_
                · go_simp
                  all_goals with_reducible rfl
                refine ord_done (by kernel_rfl) ?_ _
                clear la a0 a1 fa0 fa1
                go_wp2
                go_roundw
                case rel => exact ⟨k + 1, r, (m : Int), by omega, by omega, by go_num, rfl, by omega, hor2, HE.out, HRs.out⟩
                case measure => simp [intOf]; omega
              · as_aux_lemma =>
                refine ordI_call (f := 28) (args := #[.int .i64 (m : Int)]) (w1 := wr.drew) (by simp; rfl) (by rfl) ?_ ?_
                · go_simp
                  all_goals with_reducible rfl
                refine (HBIT.out _).mono ?_
                rintro e w' ⟨rfl, rfl⟩
                refine ⟨_, rfl, trivial, ?_⟩
                simp only [Act.put, List.setIfInBounds_toArray, List.set_cons_zero, List.set_cons_succ]
                refine ord_only (v := ?_) (w' := wr.drew) (i := 1) (fuel := 3) (by simp; rfl) (by kernel_rfl) (by rfl) ?_ trivial ?_
                rotate_left
                · go_simp
                  all_goals with_reducible rfl
                simp only [Act.put, List.setIfInBounds_toArray, List.set_cons_zero, List.set_cons_succ]
                refine ord_take (v := ?_) (i := 4) (fuel := 2) (by simp; rfl) (by kernel_rfl) (by kernel_rfl) (by kernel_rfl) (Or.inl ⟨by rfl, fun w' hSw => ?_⟩) trivial ?_
                rotate_left
                · go_simp
                  all_goals with_reducible rfl
                simp only [Act.put, List.setIfInBounds_toArray, List.set_cons_zero, List.set_cons_succ]
                refine ord_take (v := ?_) (i := 5) (fuel := 1) (by simp; rfl) (by kernel_rfl) (by kernel_rfl) (by kernel_rfl) (Or.inl ⟨by rfl, fun w' hSw => ?_⟩) trivial ?_
                rotate_left
                · go_simp
                  all_goals with_reducible rfl
                simp only [Act.put, List.setIfInBounds_toArray, List.set_cons_zero, List.set_cons_succ]
                refine ord_skip (w' := wr.drew.setCell ⟨w.heap.size + 1, 0, none⟩ (.int .u64 (r : Int))) (i := 6) (fuel := 0) (by simp; rfl) (by kernel_rfl) (by rfl) (by rfl) ?_ trivial ?_
                · go_simp
                  all_goals with_reducible rfl
                refine ord_done (by kernel_rfl) ?_ _
                clear la a0 a1 fa0 fa1
                go_wp2
                go_roundw
                case rel => exact ⟨k + 1, r, (m : Int), by omega, by omega, by go_num, rfl, by omega, hor2, HE.out, HRs.out⟩
                case measure => simp [intOf]; omega
        · obtain rfl : k = s.length := by omega
          have HE := Lib.hid (HQ.out.symm.trans (rdL_all (Nat.le_refl _)))
          obtain ⟨la, a0, a1, fa0, fa1⟩ := two_of HR.out.2.1
          have hlt' : ¬ (s.length : Int) < (s.length : Int) := by omega
          cases hrr : rightB n v
          · have HRC := Lib.hid (fun w' => by have h := HRR.out n w'; rw [hrr] at h; exact h)
            have HV2 := Lib.hid (show readV s = (0, 0, 2) by rw [HV.out, HE.out]; simp only [hrr]; rfl)
            go_wp2_with fail
            (with_reducible refine (HRC.out _).mono ?_)
            rintro e w3 ⟨rfl, hb⟩
            have HR3 := Lib.hid (HR.out.below hb)
            clear hb la a0 a1 fa0 fa1
            obtain ⟨lq, q0, q1, f0, f1⟩ := two_of HR3.out.1
            go_wp2
            refine bodyPost_ret (v := .tuple #[.agg #[.int .u64 0, .int .i64 0], .int .i64 2]) (by simp [results, Try.results8, go_sem, q0, q1]) rfl ⟨?_, ?_⟩
            · rw [HV2.out]; rfl
            · exact bel2 HR3.out.2.2 (Nat.le_refl _)
          · have HRC := Lib.hid (fun w' => by have h := HRR.out n w'; rw [hrr] at h; exact h)
            have HV2 := Lib.hid (show readV s = (n, v, 0) by rw [HV.out, HE.out]; simp only [hrr]; rfl)
            go_wp2_with fail
            (with_reducible refine (HRC.out _).mono ?_)
            rintro e w3 ⟨rfl, hb⟩
            have HR3 := Lib.hid (HR.out.below hb)
            clear hb la a0 a1 fa0 fa1
            obtain ⟨lq, q0, q1, f0, f1⟩ := two_of HR3.out.1
            obtain ⟨la, a0, a1, fa0, fa1⟩ := two_of HR3.out.2.1
            go_wp2
            refine bodyPost_ret (v := .tuple #[.agg #[.int .u64 (n : Int), .int .i64 v], .int .i64 0]) (by simp [results, Try.results8, go_sem, q0, q1]) rfl ⟨?_, ?_⟩
            · rw [HV2.out]
            · exact bel2 HR3.out.2.2 (Nat.le_refl _)
    · have HV := Lib.hid (readV_colon h1 hc)
      have hc2 : ¬ ((⟨s.toArray⟩ : ByteArray)[1]'h1).toNat = 58 := hc
      go_enter Try.func8, Try.ntmps8
      obtain ⟨_, q0, q1, f0, f1⟩ := two_of HB0.out
      go_wp2
      refine bodyPost_ret (v := .tuple #[.agg #[.int .u64 0, .int .i64 0], .int .i64 2]) (by simp [results, Try.results8, go_sem, q0, q1]) rfl ⟨?_, ?_⟩
      · rw [HV.out]; rfl
      · exact HL0.out
end Go.Proofs.Ytpplledoankfgaa
