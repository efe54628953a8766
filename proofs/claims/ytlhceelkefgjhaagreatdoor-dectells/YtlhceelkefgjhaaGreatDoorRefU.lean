/- pyxref1.Print, dec.Print at any decimals. -/
import Derived.Test.YtlhceelkefgjhaaGreatDoorTextO
import Derived.Test.YtlhceelkefgjhaaGreatDoorRefQ
namespace Go.Proofs.YtlhceelkefgjhaaGreatDoor
open Go.RowKit
def printV (n : Bool) (a b s : Int) : List UInt8 := if RightD n a b s then printL n (v2 a b) s else []
theorem print_all (n : Bool) (a b s : Int) (w : World) (ha : U64 a) (hb1 : U64 b) (htab : Lib.TabIs Tryz.prog w "internal/strconv.uint64pow10" .u64 Lib.pow10Tab) :
    Calls Tryz.prog 26 #[.agg #[.bool n, .int .u64 a, .int .u64 b, .int .i64 s]] w (Ret w (· = .string ⟨(printV n a b s).toArray⟩)) := by
  unfold printV
  by_cases hr : RightD n a b s
  · rw [if_pos hr]
    exact print_c n a b s w ha hb1 hr _ rfl htab
  · rw [if_neg hr]
    exact print_no n a b s w ha hb1 hr
theorem conv_one (c : UInt8) (x : Int) (w : World) (hx : (c.toNat : Int) = x) : (convert 72 9 (.slice (some ⟨w.heap.size, 0, none⟩) 1 1)).run Tryz.prog (w.alloc (.cells #[.int .u8 x] 5)) = .ok (.string ⟨#[c]⟩) (w.alloc (.cells #[.int .u8 x] 5)) := by
  subst hx
  refine run_convert_bytes_back _ 72 9 5 ⟨w.heap.size, 0, none⟩ 1 [c] Tryz.underlying72 Tryz.underlying5 Tryz.underlying9 fun j hj => ?_
  obtain rfl : j = 0 := by simpa using hj
  simp [Addr.add]
theorem cons_l (c : UInt8) (L : List UInt8) : (⟨#[c]⟩ ++ ⟨L.toArray⟩ : ByteArray) = ⟨(c :: L).toArray⟩ := bytes_app [c] L
def PrS (w : World) (n : Bool) (a b s : Int) (ds : List Nat) (A : Option Addr) (m cap sn K : Nat) (sv kv : Value) (wr : World) : Prop := ∃ k : Nat, k ≤ K ∧ sv = .string ⟨(sL ds sn k).toArray⟩ ∧ kv = .int .i64 k ∧ DigC wr A m cap ds ∧ HB w [(w.heap.size, 25, #[.bool n, .int .u64 a, .int .u64 b, .int .i64 s])] wr
set_option maxRecDepth 100000 in
set_option maxHeartbeats 6400000 in
theorem rprint_yes (n : Bool) (a b s : Int) (w : World) (ha : U64 a) (hb1 : U64 b) (hr : RightD n a b s) :
    Calls Tryz.prog 27 #[.agg #[.bool n, .int .u64 a, .int .u64 b, .int .i64 s]] w (Ret w (· = .string ⟨(printL n (v2 a b) s).toArray⟩)) := by
  have W := d1 w n a b s
  have h0 := hr.2.1
  have h9 := hr.2.2.1
  have H30 := Lib.hid hr.1
  have HR := Lib.hid (decide_eq_true hr)
  obtain ⟨R, hR⟩ : ∃ R, printL n (v2 a b) s = R := ⟨_, rfl⟩
  rw [hR]
  have HRr := Lib.hid hR
  clear hr hR
  go_enter Tryz.func27, Tryz.ntmps27
  go_wp2_with fail
  refine (rdec_v n a b s true _ ha hb1 HR.out).mono ?_
  rintro e w1 ⟨_, rfl, rfl, hb⟩
  replace W := W.below hb
  clear hb
  obtain ⟨lq, q0, q1, q2, q3⟩ := HB.dec (t := 25) (g := w.heap.size) (a := .bool n) (b := .int .u64 a) (c := .int .u64 b) (d := .int .i64 s) W (by simp)
  go_wp2_with fail
  refine (nat2_c a b _ ha hb1).mono ?_
  rintro e w2 ⟨A, m, cap, ds, ⟨D, N, E⟩, rfl, hb⟩
  have l30 : m ≤ 30 := lenA D N (by rw [E]; exact H30.out)
  replace W := W.below hb
  clear hb lq q0 q1 q2 q3
  obtain ⟨sn, rfl⟩ : ∃ sn : Nat, s = (sn : Int) := ⟨s.toNat, by omega⟩
  obtain ⟨K, hK⟩ : ∃ K, max ds.length (sn + 1) = K := ⟨_, rfl⟩
  have EP := Lib.hid (HRr.out.symm.trans (print_ch n D.2.2.2.1 N E K hK.symm))
  have hdl := D.1
  have hKm : K = max m (sn + 1) := by rw [← hK, hdl]
  have hK40 : K ≤ 40 := by omega
  have hD9 := Lib.hid D.2.2.2.1
  clear E N hdl hK HRr H30 HR
  have HKm := Lib.hid hKm
  have HW := Lib.hid W
  have HD := Lib.hid D
  clear W D hKm
  go_wp2
  go_loopw [4, 5] (fun sv kv wr => PrS w n a b sn ds A m cap sn K sv kv wr) (fun _ kv _ => K - (intOf kv).toNat)
  case atStart => exact ⟨0, Nat.zero_le _, rfl, rfl, HD.out, HW.out⟩
  case round =>
    obtain ⟨k, hk, rfl, rfl, D, W⟩ := hrel
    clear HD HW
    obtain ⟨lq, q0, q1, q2, q3⟩ := HB.dec (t := 25) (g := w.heap.size) (a := .bool n) (b := .int .u64 a) (c := .int .u64 b) (d := .int .i64 (sn : Int)) W (by simp)
    obtain ⟨S, hS⟩ : ∃ S, sL ds sn k = S := ⟨_, rfl⟩
    have hSl : S.length ≤ 100 := by have := sL_length ds sn k; rw [hS] at this; omega
    rw [hS]
    have HS := Lib.hid hS
    clear hS
    by_cases hlt : k < K
    · obtain ⟨d, hd⟩ : ∃ d, ds.getD k 0 = d := ⟨_, rfl⟩
      have hd9 : d < 10 := by rw [← hd]; exact dig_lt hD9.out k
      have DC := digit_c A m cap k ds wr D
      rw [hd] at DC
      have HDC := Lib.hid DC
      have HDd := Lib.hid hd
      clear DC hd
      have hx : ((chr_ d).toNat : Int) = 48 + (d : Int) := by rw [chr_nat hd9]; omega
      have CV := conv_one (chr_ d) (48 + (d : Int)) wr hx
      clear hx
      have ew8 : IntKind.u8.wrap (48 + (d : Int)) = 48 + (d : Int) := by rw [IntKind.wrap_u8]; omega
      have g0 : (0 : Int) ≤ (d : Int) := by omega
      have g9 : (d : Int) ≤ 9 := by omega
      have c1 := cons_l (chr_ d)
      have C1 := Lib.hid c1
      clear c1
      have WA := Lib.hid (W.alloc (.cells #[.int .u8 (48 + (d : Int))] 5))
      have DA := Lib.hid (D.alloc (.cells #[.int .u8 (48 + (d : Int))] 5))
      clear W D
      have hgs : ((k : Int) < (m : Int) ∧ k < m) ∨ ((decide ((k : Int) < (m : Int)) = false ∧ decide (k < m) = false) ∧ (k : Int) ≤ (sn : Int) ∧ k ≤ sn) := by
        have := HKm.out
        rcases Nat.lt_or_ge k m with h | h
        · exact .inl ⟨by omega, h⟩
        · exact .inr ⟨⟨decide_eq_false (by omega), decide_eq_false (by omega)⟩, by omega, by omega⟩
      have hps : (k = sn ∧ 0 < k) ∨ (k = sn ∧ k = 0) ∨ (k ≠ sn) := by omega
      rcases hgs with ⟨hg1, hg1n⟩ | ⟨⟨hg1, hg1n⟩, hg2, hg2n⟩
      all_goals
        rcases hps with ⟨hp1, hp⟩ | ⟨hp1, hp⟩ | hp
        · have HN := Lib.hid (sL_next_p HS.out ⟨hp1, hp⟩)
          rw [HDd.out] at HN
          have CP := Lib.hid (cons_l 46 S)
          have hpi : (0 : Int) < (k : Int) := by omega
          have hpe : ((k : Int) == (sn : Int)) = true := by simp; omega
          have hpn : (k == sn) = true := by simp; omega
          clear hp1
          go_wp2_with (first | (go_at_call 55; refine HDC.out.mono ?_; rintro e w9 ⟨rfl, rfl⟩))
          go_roundw
          case rel => exact ⟨k + 1, hlt, by rw [HN.out, ← C1.out (46 :: S), ← CP.out], by go_num, DA.out, WA.out⟩
          case measure => simp [intOf]; omega
        · have HN := Lib.hid (sL_next_n HS.out (fun h => absurd h.2 (by omega)))
          have hpe : ((k : Int) == (sn : Int)) = true := by simp; omega
          have hpn : (k == sn) = true := by simp; omega
          have hpzn : decide (0 < k) = false := decide_eq_false (by omega)
          have hpz : decide ((0 : Int) < (k : Int)) = false := decide_eq_false (by omega)
          clear hp1 hp
          rw [HDd.out] at HN
          have CP := Lib.hid (cons_l 46 S)
          go_wp2_with (first | (go_at_call 55; refine HDC.out.mono ?_; rintro e w9 ⟨rfl, rfl⟩))
          go_roundw
          case rel => exact ⟨k + 1, hlt, by rw [HN.out, ← C1.out S], by go_num, DA.out, WA.out⟩
          case measure => simp [intOf]; omega
        · have HN := Lib.hid (sL_next_n HS.out (fun h => hp h.1))
          rw [HDd.out] at HN
          have CP := Lib.hid (cons_l 46 S)
          have hpi : ((k : Int) == (sn : Int)) = false := by simp; omega
          have hpn : (k == sn) = false := by simp; omega
          go_wp2_with (first | (go_at_call 55; refine HDC.out.mono ?_; rintro e w9 ⟨rfl, rfl⟩))
          go_roundw
          case rel => exact ⟨k + 1, hlt, by rw [HN.out, ← C1.out S], by go_num, DA.out, WA.out⟩
          case measure => simp [intOf]; omega
    · obtain rfl : k = K := by omega
      have gm : decide ((k : Int) < (m : Int)) = false := decide_eq_false (by have := HKm.out; omega)
      have gs : decide ((k : Int) ≤ (sn : Int)) = false := decide_eq_false (by have := HKm.out; omega)
      have gmn : decide (k < m) = false := decide_eq_false (by have := HKm.out; omega)
      have gsn : decide (k ≤ sn) = false := decide_eq_false (by have := HKm.out; omega)
      have HB1 := Lib.hid W.1
      have CP := Lib.hid (cons_l 45 S)
      clear W D hlt hk
      cases n
      · have ER : R = S := by rw [EP.out]; simp [HS.out]
        have HER := Lib.hid ER
        clear ER EP
        go_wp2
        go_ret
        refine ⟨.string ⟨S.toArray⟩, ?_, rfl, HB1.out⟩
        show Value.string _ = Value.string _
        rw [HER.out]
      · have ER : R = 45 :: S := by rw [EP.out]; simp [HS.out]
        have HER := Lib.hid ER
        clear ER EP
        go_wp2
        go_ret
        refine ⟨.string (⟨#[45]⟩ ++ ⟨S.toArray⟩), ?_, rfl, HB1.out⟩
        show Value.string _ = Value.string _
        rw [HER.out, CP.out]
set_option maxRecDepth 100000 in
set_option maxHeartbeats 6400000 in
theorem rprint_no (n : Bool) (a b s : Int) (w : World) (ha : U64 a) (hb1 : U64 b) (hr : ¬ RightD n a b s) :
    Calls Tryz.prog 27 #[.agg #[.bool n, .int .u64 a, .int .u64 b, .int .i64 s]] w (Ret w (· = .string ⟨#[]⟩)) := by
  have W := d1 w n a b s
  have HR := Lib.hid (decide_eq_false hr)
  clear hr
  go_enter Tryz.func27, Tryz.ntmps27
  go_wp2_with fail
  refine (rdec_v n a b s false _ ha hb1 HR.out).mono ?_
  rintro e w1 ⟨_, rfl, rfl, hb⟩
  replace W := W.below hb
  clear hb
  have HB1 := Lib.hid W.1
  clear W
  go_wp2
  go_ret
  exact ⟨_, rfl, rfl, HB1.out⟩
theorem rprint_all (n : Bool) (a b s : Int) (w : World) (ha : U64 a) (hb1 : U64 b) :
    Calls Tryz.prog 27 #[.agg #[.bool n, .int .u64 a, .int .u64 b, .int .i64 s]] w (Ret w (· = .string ⟨(printV n a b s).toArray⟩)) := by
  unfold printV
  by_cases hr : RightD n a b s
  · rw [if_pos hr]
    exact rprint_yes n a b s w ha hb1 hr
  · rw [if_neg hr]
    exact rprint_no n a b s w ha hb1 hr
end Go.Proofs.YtlhceelkefgjhaaGreatDoor
