/- Package label: Read. -/
/- Labels of pyxref4: Below, Join, Meet, OfEnt; of pyxhand; two labels compared. -/
import Derived.Test.YtakofbkbbmpfeaaLabC
import Derived.Test.YtakofbkbbmpfeaaOrd2
import Derived.ProofKit
namespace Go.Proofs.Ytakofbkbbmpfeaa
open Go.RowKit
/-- A label and an Errno were returned; what was there stays. -/
def RetR (w : World) (q : Nat × Int × Int) (e : Ending) (w' : World) : Prop := e = .returned (.tuple #[.agg #[.int .u64 (q.1 : Int), .int .i64 q.2.1], .int .i64 q.2.2]) ∧ Below w.heap.size w w'
theorem two_of {w : World} {g : Nat} {t : TypeId} {a b : Value} (x : Blk w g t #[a, b]) : g < w.heap.size ∧ w.cell? ⟨g, 0, none⟩ = some a ∧ w.cell? ⟨g, 1, none⟩ = some b ∧ w.frozen? ⟨g, 0, none⟩ = false ∧ w.frozen? ⟨g, 1, none⟩ = false := by
  have x0 := x.cell 0
  have x1 := x.cell 1
  simp at x0 x1
  exact ⟨x.lt, x0, x1, x.frozen 0, x.frozen 1⟩
theorem labBel2 {B g : Nat} {w w' : World} {a b : Value} (h : Below B w w') (hg : B ≤ g) : Below B w ((w'.setCell ⟨g, 0, none⟩ a).setCell ⟨g, 1, none⟩ b) :=
  (h.setCell (p := ⟨g, 0, none⟩) hg a).setCell (p := ⟨g, 1, none⟩) hg b
/-- The result's cells, and the label under way. -/
def RdB (w : World) (n : Nat) (v : Int) (V : World) : Prop :=
  Blk V w.heap.size 33 #[.int .u64 0, .int .i64 0] ∧ Blk V (w.heap.size + 1) 33 #[.int .u64 (n : Int), .int .i64 v] ∧ Below w.heap.size w V
theorem RdB.below {w V V' : World} {n : Nat} {v : Int} (h : RdB w n v V) (hb : Below V.heap.size V V') : RdB w n v V' := ⟨h.1.below hb h.1.lt, h.2.1.below hb h.2.1.lt, h.2.2.trans (hb.mono h.2.2.size)⟩
theorem RdB.set {w V : World} {n m : Nat} {v y : Int} (h : RdB w n v V) (hy : y = (m : Int)) : RdB w m v (V.setCell ⟨w.heap.size + 1, 0, none⟩ (.int .u64 y)) := by
  subst hy
  refine ⟨h.1.far (p := ⟨w.heap.size + 1, 0, none⟩) (by simp) _, ?_, h.2.2.setCell (p := ⟨w.heap.size + 1, 0, none⟩) (by simp) _⟩
  have := h.2.1.set_ 0 (.int .u64 (m : Int))
  simpa using this
def RdRel (w : World) (s : List UInt8) (v : Int) (t i : Value) (wr : World) : Prop :=
  ∃ (k n : Nat) (q : Int), 2 ≤ k ∧ k ≤ s.length ∧ i = .int .i64 k ∧ t = .int .i64 q ∧ -1 ≤ q ∧ n < 256 ∧ rdL n q (s.drop k) = rdL 0 (-1) (s.drop 2) ∧ RdB w n v wr
theorem rdL_no {s : List UInt8} {k n : Nat} {q : Int} (h : k < s.length) (hc : (s[k].toNat : Int) - 48 ≤ q ∨ 8 ≤ (s[k].toNat : Int) - 48) : rdL n q (s.drop k) = none := by
  rw [List.drop_eq_getElem_cons h, rdL, if_pos hc]
theorem rdL_go {s : List UInt8} {k n : Nat} {q : Int} (h : k < s.length) (hc : ¬ ((s[k].toNat : Int) - 48 ≤ q ∨ 8 ≤ (s[k].toNat : Int) - 48)) : rdL n q (s.drop k) = rdL (n ||| 2 ^ (s[k].toNat - 48)) ((s[k].toNat : Int) - 48) (s.drop (k + 1)) := by
  rw [List.drop_eq_getElem_cons h, rdL, if_neg hc]
theorem rdL_all {s : List UInt8} {k n : Nat} {q : Int} (h : s.length ≤ k) : rdL n q (s.drop k) = some n := by
  rw [List.drop_eq_nil_of_le h, rdL]
theorem readV_at {s : List UInt8} (h0 : 0 < s.length) (h1 : 1 < s.length) (hb : s[1].toNat = 58) : readV s = match rdL 0 (-1) (s.drop 2) with
      | some n => if rightB n ((s[0].toNat : Int) - 48) then (n, (s[0].toNat : Int) - 48, 0) else (0, 0, 2)
      | none => (0, 0, 2) := by
  match s, h1 with
  | a :: b :: l, _ =>
    simp only [List.getElem_cons_succ, List.getElem_cons_zero] at hb
    rw [readV, if_pos hb]
    rfl
theorem readV_short {s : List UInt8} (h : s.length < 2) : readV s = (0, 0, 2) := by
  match s, h with
  | [], _ => rfl
  | [_], _ => rfl
  | _ :: _ :: _, h => simp at h; omega
theorem readV_colon {s : List UInt8} (h1 : 1 < s.length) (hb : ¬ s[1].toNat = 58) : readV s = (0, 0, 2) := by
  match s, h1 with
  | a :: b :: l, _ =>
    simp only [List.getElem_cons_succ, List.getElem_cons_zero] at hb
    rw [readV, if_neg hb]
end Go.Proofs.Ytakofbkbbmpfeaa

namespace Go.Proofs.Ytakofbkbbmpfeaa
open Go.RowKit
theorem under_lab : Try.prog.underlying 33 = some (.struct (Try.prog.fieldsOf 33)) := by kernel_rfl
theorem stood_lab : Try.prog.stoodInHeld 33 = false := by kernel_rfl
theorem fields_lab : (Try.prog.fieldsOf 33).toList.map (fun f => (f.name, f.type, f.offset)) = [("Set", 31, 0), ("Level", 3, 1)] := by kernel_rfl
theorem part_l0 (a v : Int) (w : World) : (part 31 #[.int .u64 a, .int .i64 v] 0).run Try.prog w = .ok (.int .u64 a) w := by kernel_rfl
theorem part_l1 (a v : Int) (w : World) : (part 3 #[.int .u64 a, .int .i64 v] 1).run Try.prog w = .ok (.int .i64 v) w := by kernel_rfl
def eqLab (a v b u : Int) : Bool := a == b && v == u
@[go_sem] theorem run_eqLab (a v b u : Int) (w : World) : (Op.equalIn 10000 33 (.agg #[.int .u64 a, .int .i64 v]) (.agg #[.int .u64 b, .int .i64 u])).run Try.prog w = .ok (eqLab a v b u) w := by
  rw [run_equalIn_struct w 9999 _ _ _ under_lab stood_lab]
  have h := fields_lab
  generalize (Try.prog.fieldsOf 33).toList = fs at h ⊢
  rcases fs with _ | ⟨f, _ | ⟨g, _ | ⟨k, fs⟩⟩⟩ <;> simp at h
  obtain ⟨⟨f1, f2, f3⟩, g1, g2, g3⟩ := h
  simp only [Op.eqFields, f1, f2, f3, g1, g2, g3, Sem.run_bind, Sem.run_ite, part_l0, part_l1, Result.andThen_ok]
  have e1 := run_equalIn_int (P := Try.prog) w 9998 31 .u64 .u64 a b Try.underlying31
  have e3 := run_equalIn_int (P := Try.prog) w 9998 3 .i64 .i64 v u Try.underlying3
  simp only [e1, e3, Result.andThen_ok]
  simp only [eqLab]
  cases a == b <;> cases v == u <;> simp
@[go_sem] theorem eqLab_same (a v : Int) : eqLab a v a v = true := by simp [eqLab]
theorem eqLab_nat (a b : Nat) (v u : Int) : eqLab (a : Int) v (b : Int) u = (decide (a = b) && decide (v = u)) := by
  unfold eqLab
  congr 1
  by_cases h : a = b
  · subst h; simp
  · have : ¬ (a : Int) = (b : Int) := by omega
    simp [h, this]
section
variable (a b : Nat) (x y v u : Int) (w : World) (hx : x = (a : Int)) (hy : y = (b : Int)) (ha : a < 18446744073709551616) (hb : b < 18446744073709551616)
include hx hy ha hb
theorem rjoin_c : Calls Try.prog 39 #[.agg #[.int .u64 x, .int .i64 v], .agg #[.int .u64 y, .int .i64 u]] w (RetL w (a ||| b) (max v u)) := by
  have ho := or_bits ha hb hx hy
  clear hx hy
  go_enter Try.func39, Try.ntmps39
  go_wp2
  all_goals exact bodyPost_ret (v := .agg #[.int .u64 ((a ||| b : Nat) : Int), .int .i64 (max v u)]) (by simp [results, Try.results39, go_sem]; omega) rfl ⟨rfl, bel_alloc (bel_alloc (bel_alloc (Below.refl _ _) _) _) _⟩
end
theorem labWithin_c (x : Int) (w : World) : Calls Try.prog 52 #[.int .i64 x, .int .i64 0, .int .i64 3] w fun e w' => e = .returned (.int .i64 (min (max x 0) 3)) ∧ w = w' := by
  rcases (by omega : x < 0 ∨ x = 0 ∨ (0 < x ∧ x < 3) ∨ 3 ≤ x) with hv | rfl | ⟨hv, hv3⟩ | hv
  · have h0 : x < 3 := by omega
    rw [show min (max x 0) 3 = (0 : Int) by omega]
    go_enter Try.func52, Try.ntmps52
    go_wp2
    go_ret
    exact ⟨ret_int (by simp), rfl⟩
  · rw [show min (max (0 : Int) 0) 3 = (0 : Int) by omega]
    go_enter Try.func52, Try.ntmps52
    go_wp2
    go_ret
    exact ⟨ret_int (by simp), rfl⟩
  · rw [show min (max x 0) 3 = x by omega]
    go_enter Try.func52, Try.ntmps52
    go_wp2
    go_ret
    exact ⟨ret_int (by simp), rfl⟩
  · rw [show min (max x 0) 3 = (3 : Int) by omega]
    go_enter Try.func52, Try.ntmps52
    go_wp2
    go_ret
    exact ⟨ret_int (by simp), rfl⟩
theorem wrap_pow {k : Nat} (hk : k ≤ 8) : IntKind.u64.wrap ((2 : Int) ^ k) = ((2 ^ k : Nat) : Int) := by
  have h := pow_all k (by omega)
  rw [IntKind.wrap_u64, show ((2 : Int) ^ k) = ((2 ^ k : Nat) : Int) by simp]
  generalize (2 ^ k : Nat) = p at h ⊢
  omega
theorem rof_c (x v : Int) (w : World) : Calls Try.prog 35 #[.int .i64 x, .int .i64 v] w (RetL w (ofSet x) (min (max v 0) 3)) := by
  have HW := Lib.hid (fun w' => labWithin_c v w')
  obtain ⟨m, hm⟩ : ∃ m, min (max v 0) 3 = m := ⟨_, rfl⟩
  rw [hm] at HW ⊢
  by_cases hs : 0 ≤ x ∧ x < 8
  · obtain ⟨k, rfl⟩ : ∃ k : Nat, x = (k : Int) := ⟨x.toNat, by omega⟩
    have hk : k < 8 := by omega
    rw [ofSet_nat hk]
    obtain ⟨h0, h8⟩ := hs
    go_enter Try.func35, Try.ntmps35
    go_wp2_with fail
    (with_reducible refine (HW.out _).mono ?_)
    rintro e w' ⟨rfl, rfl⟩
    have hwp := wrap_pow (k := k) (by omega)
    go_wp2
    refine bodyPost_ret (v := .agg #[.int .u64 ((2 ^ k : Nat) : Int), .int .i64 m]) (by simp [results, Try.results35, go_sem]) rfl ⟨rfl, ?_⟩
    exact bel_alloc (bel_alloc (Below.refl _ _) _) _
  · have : ofSet x = 0 := by unfold ofSet; rw [if_neg hs]
    rw [this]
    by_cases h0 : 0 ≤ x
    · have h8 : ¬ x < 8 := fun h => hs ⟨h0, h⟩
      go_enter Try.func35, Try.ntmps35
      go_wp2_with fail
      (with_reducible refine (HW.out _).mono ?_)
      rintro e w' ⟨rfl, rfl⟩
      go_wp2
      refine bodyPost_ret (v := .agg #[.int .u64 ((0 : Nat) : Int), .int .i64 m]) (by simp [results, Try.results35, go_sem]) rfl ⟨rfl, ?_⟩
      exact bel_alloc (bel_alloc (Below.refl _ _) _) _
    · skip
      go_enter Try.func35, Try.ntmps35
      go_wp2_with fail
      (with_reducible refine (HW.out _).mono ?_)
      rintro e w' ⟨rfl, rfl⟩
      go_wp2
      refine bodyPost_ret (v := .agg #[.int .u64 ((0 : Nat) : Int), .int .i64 m]) (by simp [results, Try.results35, go_sem]) rfl ⟨rfl, ?_⟩
      exact bel_alloc (bel_alloc (Below.refl _ _) _) _
/-- Below, bit by bit. -/
def BlI (a b k : Nat) : Prop := ∀ j, j < k → a.testBit j = true → b.testBit j = true
theorem BlI.next {a b k : Nat} (h : BlI a b k) (hk : a.testBit k = true → b.testBit k = true) : BlI a b (k + 1) := fun j hj hb => by
  rcases Nat.lt_or_ge j k with c | c
  · exact h j c hb
  · obtain rfl : j = k := by omega
    exact hk hb
theorem blI_end {a b : Nat} (ha : a < 18446744073709551616) (h : BlI a b 64) : a &&& b = a := sub_iff.2 fun i hi => by
  rcases Nat.lt_or_ge i 64 with c | c
  · exact h i c hi
  · have : a < 2 ^ i := Nat.lt_of_lt_of_le ha (Nat.pow_le_pow_right (n := 2) (by decide) c)
    rw [Nat.testBit_lt_two_pow this] at hi
    cases hi
def RbRel (W : World) (a b : Nat) (i : Value) (wr : World) : Prop := ∃ k : Nat, k ≤ 64 ∧ i = .int .i64 k ∧ BlI a b k ∧ wr = W
set_option maxRecDepth 100000 in
set_option maxHeartbeats 1600000 in
theorem rbelow_c (a b : Nat) (x y v u : Int) (w : World) (hx : x = (a : Int)) (hy : y = (b : Int)) (ha : a < 18446744073709551616) : Calls Try.prog 41 #[.agg #[.int .u64 x, .int .i64 v], .agg #[.int .u64 y, .int .i64 u]] w (RetB w (belowB a v b u)) := by
  subst hx hy
  have HB0 := Lib.hid (bel_alloc (bel_alloc (Below.refl w.heap.size w) (.cells #[.int .u64 (a : Int), .int .i64 v] 33)) (.cells #[.int .u64 (b : Int), .int .i64 u] 33))
  have X := two_of ((Blk.new w 33 #[.int .u64 (a : Int), .int .i64 v]).alloc (.cells #[.int .u64 (b : Int), .int .i64 u] 33))
  have Y := two_of (Blk.new (w.alloc (.cells #[.int .u64 (a : Int), .int .i64 v] 33)) 33 #[.int .u64 (b : Int), .int .i64 u])
  obtain ⟨_, x0, x1, _, _⟩ := X
  obtain ⟨_, y0, y1, _, _⟩ := Y
  simp only [World.size_alloc] at y0 y1
  obtain ⟨W, hW⟩ : ∃ W, (w.alloc (.cells #[.int .u64 (a : Int), .int .i64 v] 33)).alloc (.cells #[.int .u64 (b : Int), .int .i64 u] 33) = W := ⟨_, rfl⟩
  rw [hW] at HB0 x0 x1 y0 y1
  go_enter Try.func41, Try.ntmps41
  go_wp2_with fail
  clear hW
  go_loopw [5] (fun i wr => RbRel W a b i wr) (fun i _ => 64 - (intOf i).toNat)
  case atStart => exact ⟨0, by omega, rfl, fun j hj => by omega, rfl⟩
  case round =>
    obtain ⟨k, hk, rfl, hI, rfl⟩ := hrel
    have HI := Lib.hid hI
    clear hI
    by_cases hlt : k < 64
    · have hlt' : (k : Int) < 64 := by omega
      have RA := Lib.hid (fun w' => has_c a k (a : Int) (k : Int) w' rfl rfl hlt)
      have RB := Lib.hid (fun w' => has_c b k (b : Int) (k : Int) w' rfl rfl hlt)
      cases ht : a.testBit k
      · rw [ht] at RA
        go_wp2_with fail
        (with_reducible refine (RA.out _).mono ?_)
        rintro e w' ⟨rfl, rfl⟩
        go_wp2
        go_roundw
        case rel => exact ⟨k + 1, by omega, by go_num, HI.out.next (fun h => by rw [ht] at h; cases h), rfl⟩
        case measure => simp [intOf]; omega
      · rw [ht] at RA
        cases ht2 : b.testBit k
        · rw [ht2] at RB
          have HV := Lib.hid (show belowB a v b u = false by
            cases e : belowB a v b u
            · rfl
            · have := sub_iff.1 (belowB_iff.1 e).1 k ht
              rw [ht2] at this; cases this)
          go_wp2_with fail
          (with_reducible refine (RA.out _).mono ?_)
          rintro e w' ⟨rfl, rfl⟩
          go_wp2_with fail
          (with_reducible refine (RB.out _).mono ?_)
          rintro e w' ⟨rfl, rfl⟩
          go_wp2
          go_ret
          exact ⟨by rw [HV.out]; rfl, HB0.out⟩
        · rw [ht2] at RB
          go_wp2_with fail
          (with_reducible refine (RA.out _).mono ?_)
          rintro e w' ⟨rfl, rfl⟩
          go_wp2_with fail
          (with_reducible refine (RB.out _).mono ?_)
          rintro e w' ⟨rfl, rfl⟩
          go_wp2
          go_roundw
          case rel => exact ⟨k + 1, by omega, by go_num, HI.out.next (fun _ => ht2), rfl⟩
          case measure => simp [intOf]; omega
    · obtain rfl : k = 64 := by omega
      have he := blI_end ha HI.out
      go_wp2
      go_ret
      exact ⟨by simp [belowB, he], HB0.out⟩
end Go.Proofs.Ytakofbkbbmpfeaa
