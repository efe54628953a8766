/- Package dec: Print at right decimals. -/
import Derived.Test.YtjpimiagcijejaaGreatDoorTextD
namespace Go.Proofs.YtjpimiagcijejaaGreatDoor
open Go.RowKit
theorem figL_ge (N : Nat) (m : Int) : m ≤ (figL N m).length := by
  unfold figL; rw [padL_length]; omega
theorem figL_le (N : Nat) (m : Int) (hN : N < 1000000000000000000000000000000) (hm : m ≤ 100) : (figL N m).length ≤ 200 := by
  have h1 : N / 1000000000000000 < 18446744073709551616 := by omega
  have h2 : N % 1000000000000000 < 18446744073709551616 := by omega
  have l1 : (Lib.decDigits (N / 1000000000000000)).length ≤ 20 := by rw [Lib.decDigits_length]; exact nDig_le _ h1
  have l2 : (Lib.decDigits (N % 1000000000000000)).length ≤ 20 := by rw [Lib.decDigits_length]; exact nDig_le _ h2
  have l3 := trimLeftB_le (Lib.decDigits (N / 1000000000000000) ++ padL (Lib.decDigits (N % 1000000000000000)) 15) 48
  rw [List.length_append, padL_length] at l3
  unfold figL
  rw [padL_length]
  omega
theorem ext_l (L : List UInt8) (i j : Nat) : (⟨L.toArray⟩ : ByteArray).extract i j = ⟨((L.take j).drop i).toArray⟩ := by
  apply ByteArray.ext
  simp [List.drop_take]
theorem dot_join (L : List UInt8) (a : Nat) : (⟨L.toArray⟩ : ByteArray).extract 0 a ++ ⟨#[46]⟩ ++ (⟨L.toArray⟩ : ByteArray).extract a L.length = ⟨(L.take a ++ [46] ++ L.drop a).toArray⟩ := by
  rw [ext_l, ext_l, List.take_length, List.drop_zero, ← bytes_app, ← bytes_app]
def dotL (L : List UInt8) (s : Int) : List UInt8 := if s = 0 then L else L.take (L.length - s.toNat) ++ [46] ++ L.drop (L.length - s.toNat)
def printL (n : Bool) (N : Nat) (s : Int) : List UInt8 := if n then 45 :: dotL (figL N (s + 1)) s else dotL (figL N (s + 1)) s
theorem minus_l (L : List UInt8) : (⟨#[45]⟩ ++ ⟨L.toArray⟩ : ByteArray) = ⟨(45 :: L).toArray⟩ := bytes_app [45] L
set_option maxRecDepth 100000 in
set_option maxHeartbeats 1600000 in
theorem print_c (n : Bool) (c0 c1 s : Int) (w : World) (h0 : U64 c0) (h1 : U64 c1) (hr : RightD n c0 c1 s) (N : Nat) (hN : v2 c0 c1 = N) (htab : Lib.TabIs Tryz.prog w "internal/strconv.uint64pow10" .u64 Lib.pow10Tab) :
    Calls Tryz.prog 27 #[.agg #[.bool n, .int .u64 c0, .int .u64 c1, .int .i64 s]] w (Ret w (· = .string ⟨(printL n N s).toArray⟩)) := by
  have hs : 0 ≤ s ∧ s ≤ 9 := ⟨hr.2.1, hr.2.2.1⟩
  have HR := Lib.hid hr
  have HN := Lib.hid (And.intro hN (hN ▸ hr.1))
  have HT := Lib.hid htab
  clear hr hN htab
  have W : HB w [(w.heap.size, 25, #[.bool n, .int .u64 c0, .int .u64 c1, .int .i64 s])] (w.alloc (.cells #[.bool n, .int .u64 c0, .int .u64 c1, .int .i64 s] 25)) := (HB.start (Below.refl _ w)).push _ _
  go_enter Tryz.func27, Tryz.ntmps27
  go_wp2_with fail
  have RC := right_c n c0 c1 s (w.alloc (.cells #[.bool n, .int .u64 c0, .int .u64 c1, .int .i64 s] 25)) h0 h1
  rw [decide_eq_true HR.out] at RC
  refine RC.mono ?_
  clear RC
  rintro e w1 ⟨_, rfl, rfl, hb1⟩
  have W1 := W.below hb1
  obtain ⟨g1, k0, k1, k2, k3⟩ := HB.dec (t := 25) (g := w.heap.size) (a := .bool n) (b := .int .u64 c0) (c := .int .u64 c1) (d := .int .i64 s) W1 (by simp)
  have T1 := tabIs_below HT.out W1.bel
  have HT1 := Lib.hid T1
  clear T1
  have sw : wrap64 (s + 1) = s + 1 := by unfold wrap64; omega
  go_wp2_with fail
  refine (figures_c c0 c1 (s + 1) w1 h0 h1 N HN.out.1 HN.out.2 (by omega) (by omega) HT1.out).mono ?_
  rintro e w2 ⟨_, rfl, rfl, hb2⟩
  have W2 := W1.below hb2
  obtain ⟨g2, p0, p1, p2, p3⟩ := HB.dec (t := 25) (g := w.heap.size) (a := .bool n) (b := .int .u64 c0) (c := .int .u64 c1) (d := .int .i64 s) W2 (by simp)
  have HB2 := Lib.hid W2.bel
  have q1 := figL_ge N (s + 1)
  have q2 := figL_le N (s + 1) HN.out.2 (by omega)
  clear W W1 W2 hb1 hb2 k0 k1 k2 k3 HT HT1 HN HR sw
  have EP : printL n N s = if n then 45 :: dotL (figL N (s + 1)) s else dotL (figL N (s + 1)) s := rfl
  replace EP := Lib.hid EP
  generalize figL N (s + 1) = L at *
  by_cases hs0 : s = 0
  · subst hs0
    cases n
    · go_wp2
      go_ret
      exact ⟨_, rfl, congrArg (fun l : List UInt8 => Ending.returned (.string ⟨l.toArray⟩)) (by rw [EP.out]; rfl), HB2.out⟩
    · go_wp2
      go_ret
      exact ⟨_, rfl, congrArg (fun x : ByteArray => Ending.returned (.string x)) (by rw [EP.out, minus_l]; rfl), HB2.out⟩
  · have hs1 : 0 < s := by omega
    obtain ⟨a, ha⟩ : ∃ a : Nat, (L.length : Int) - s = (a : Int) := ⟨((L.length : Int) - s).toNat, by omega⟩
    have ha1 : a ≤ L.length := by omega
    have ha2 : L.length - s.toNat = a := by omega
    have ED : dotL L s = L.take a ++ [46] ++ L.drop a := by unfold dotL; rw [if_neg hs0, ha2]
    have lM : (L.take a ++ [46] ++ L.drop a).length ≤ 201 := by simp; omega
    rw [ED] at EP
    clear ED
    go_wp2
    go_quiet (fail)
    rw [dot_join]
    generalize L.take a ++ [46] ++ L.drop a = M at *
    cases n
    · go_wp2
      go_ret
      exact ⟨_, rfl, congrArg (fun l : List UInt8 => Ending.returned (.string ⟨l.toArray⟩)) (by rw [EP.out]; rfl), bel_drewN HB2.out _⟩
    · go_wp2
      go_ret
      exact ⟨_, rfl, congrArg (fun x : ByteArray => Ending.returned (.string x)) (by rw [EP.out, minus_l]; rfl), bel_drewN HB2.out _⟩
end Go.Proofs.YtjpimiagcijejaaGreatDoor
