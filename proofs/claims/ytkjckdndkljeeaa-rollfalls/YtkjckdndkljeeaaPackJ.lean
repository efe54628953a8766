/- Package pack: ReadText where it answers OK. -/
import Derived.Test.YtkjckdndkljeeaaPackH
import Derived.Deep.RegionHeld3
namespace Go.Proofs.Ytkjckdndkljeeaa
open Go.RowKit
set_option maxRecDepth 100000 in
set_option maxHeartbeats 3200000 in
theorem readText_yes (A : Option Addr) (n c : Nat) (l : List UInt8) (w : World) (y s : Nat) (hl : Bs w w.heap.size A n c l) (hn : n ≤ 281474976710656) (hx : firstN l = (y : Int)) (hs : firstS l = s) (h0 : s ≠ 0) (hy : s + y ≤ n) :
    Calls Try.prog 56 #[.slice A n c] w fun e w' => e = .returned (.tuple #[.string ⟨((l.drop s).take y).toArray⟩, .slice (some ⟨w.heap.size, 0, none⟩) (n - (s + y)) (n - (s + y)), .int .i64 0]) ∧ Own w' w.heap.size w.heap.size (n - (s + y)) (n - (s + y)) (l.drop (s + y)) ∧ Below w.heap.size w w' := by
  have hsn : s ≤ n := by omega
  have hnc := hl.room
  have hz : ((s : Int) == 0) = false := by simp; omega
  have hy0 : (0 : Int) ≤ (y : Int) := by omega
  have hyn : (y : Int) ≤ (n : Int) - (s : Int) := by omega
  have b1 : (s : Int) ≤ (s : Int) + (y : Int) := by omega
  have b2 : (s : Int) + (y : Int) ≤ (c : Int) := by omega
  have b3 : (s : Int) + (y : Int) ≤ (n : Int) := by omega
  have HL := Lib.hid hl
  have HX := Lib.hid hx
  have HS := Lib.hid hs
  clear hl hx hs h0
  go_enter Try.func56, Try.ntmps56
  go_wp2_with fail
  refine (first_c A n c l _ w.heap.size HL.out hn).mono ?_
  rintro e w' ⟨rfl, rfl⟩
  rw [HX.out, HS.out]
  go_wp2
  by_cases hcs : c = s
  · obtain rfl : y = 0 := by omega
    have hcs' : c = s + 0 := hcs
    have HC1 := Lib.hid ((HL.out.cut_yes hsn hcs).head (k := 0) (by omega))
    have HC2 := Lib.hid (HL.out.cut_yes hy hcs')
    rw [hcs', Nat.sub_self] at HC2
    rw [hcs, Nat.sub_self] at HC1
    clear hcs'
    have HN0 := Lib.hid (show n - (s + 0) = 0 by omega)
    rw [HN0.out] at HC2
    subst hcs
    have q1 : (convert 30 9 (.slice A 0 0)).run Try.prog w.drew = .ok (.string ⟨((l.drop c).take 0).toArray⟩) w.drew := str_run (HC1.out.below (Below.refl _ _).drew)
    have ht : ((c : Int) + ((0 : Nat) : Int)).toNat = c := by omega
    have RC := Lib.hid (roomy_c A 0 0 (l.drop c) 0 0 w.drew rfl (HC2.out.below (Below.refl _ _).drew) (by omega))
    go_region_with ((go_at_call 58; (with_reducible refine RC.out.mono ?_); rintro e w2 ⟨rfl, ho, hb⟩; have q2 := str_run (HC1.out.below ((Below.refl _ _).drew.trans hb)); have HO := Lib.hid ho; have HB := Lib.hid ((Below.refl _ _).drew.trans hb); clear ho hb))
    all_goals
      go_wp2
      go_ret3
      rw [HN0.out]
      exact ⟨rfl, HO.out, HB.out⟩
  · by_cases hce : c = s + y
    · skip
      have HC1 := Lib.hid ((HL.out.cut_no hsn hcs).head (k := y) (by omega))
      have HC2 := Lib.hid (HL.out.cut_yes hy hce)
      rw [hce, Nat.sub_self] at HC2
      rw [hce] at HC1
      rw [Nat.add_sub_cancel_left] at HC1
      have HN0 := Lib.hid (show n - (s + y) = 0 by omega)
      rw [HN0.out] at HC2
      subst hce
      have q1 : (convert 30 9 (.slice (A.map (·.add s)) y y)).run Try.prog w.drew = .ok (.string ⟨((l.drop s).take y).toArray⟩) w.drew := str_run (HC1.out.below (Below.refl _ _).drew)
      have ht : ((s : Int) + (y : Int)).toNat = s + y := by omega
      have RC := Lib.hid (roomy_c A 0 0 (l.drop (s + y)) 0 0 w.drew rfl (HC2.out.below (Below.refl _ _).drew) (by omega))
      go_region_with ((go_at_call 58; (with_reducible refine RC.out.mono ?_); rintro e w2 ⟨rfl, ho, hb⟩; have q2 := str_run (HC1.out.below ((Below.refl _ _).drew.trans hb)); have HO := Lib.hid ho; have HB := Lib.hid ((Below.refl _ _).drew.trans hb); clear ho hb))
      all_goals
        go_wp2
        go_ret3
        rw [HN0.out]
        exact ⟨rfl, HO.out, HB.out⟩
    · skip
      have HC1 := Lib.hid ((HL.out.cut_no hsn hcs).head (k := y) (by omega))
      have HC2 := Lib.hid (HL.out.cut_no hy hce)
      have q1 : (convert 30 9 (.slice (A.map (·.add s)) y (c - s))).run Try.prog w.drew = .ok (.string ⟨((l.drop s).take y).toArray⟩) w.drew := str_run (HC1.out.below (Below.refl _ _).drew)
      have ht : ((s : Int) + (y : Int)).toNat = s + y := by omega
      have RC := Lib.hid (roomy_c (A.map (·.add (s + y))) (n - (s + y)) (c - (s + y)) (l.drop (s + y)) 0 0 w.drew rfl (HC2.out.below (Below.refl _ _).drew) (by omega))
      go_region_with ((go_at_call 58; (with_reducible refine RC.out.mono ?_); rintro e w2 ⟨rfl, ho, hb⟩; have q2 := str_run (HC1.out.below ((Below.refl _ _).drew.trans hb)); have HO := Lib.hid ho; have HB := Lib.hid ((Below.refl _ _).drew.trans hb); clear ho hb))
      all_goals
        go_wp2
        go_ret3
        exact ⟨rfl, HO.out, HB.out⟩
end Go.Proofs.Ytkjckdndkljeeaa
