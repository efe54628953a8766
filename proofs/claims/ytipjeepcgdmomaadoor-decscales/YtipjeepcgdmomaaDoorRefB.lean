/- Package pyxref1: trim. -/
import Derived.Test.YtipjeepcgdmomaaDoorRefA
namespace Go.Proofs.YtipjeepcgdmomaaDoor
open Go.RowKit

/-- m is where ds ends, its zeros behind left out. -/
def TrimAt (ds : List Nat) (m : Nat) : Prop := m ≤ ds.length ∧ (∀ j, m ≤ j → ds.getD j 0 = 0) ∧ (0 < m → ds.getD (m - 1) 0 ≠ 0)
def TrimUp (ds : List Nat) (m : Nat) : Prop := m ≤ ds.length ∧ (∀ j, m ≤ j → ds.getD j 0 = 0)
theorem trimUp_0 (ds : List Nat) : TrimUp ds ds.length := ⟨Nat.le_refl _, fun j hj => by rw [List.getD_eq_getElem?_getD, List.getElem?_eq_none hj]; rfl⟩
theorem trimUp_s {ds : List Nat} {m : Nat} (h : TrimUp ds (m + 1)) (hz : ds.getD m 0 = 0) : TrimUp ds m :=
  ⟨by have := h.1; omega, fun j hj => by
    rcases Nat.eq_or_lt_of_le hj with e | e
    · rw [← e]; exact hz
    · exact h.2 j e⟩
theorem DigC.take {w : World} {A : Option Addr} {n cap m : Nat} {ds : List Nat} (h : DigC w A n cap ds) (hm : m ≤ n) : DigC w A m cap (ds.take m) := by
  obtain ⟨h1, h2, h3, h4, h5⟩ := h
  refine ⟨by rw [List.length_take]; omega, ⟨by have := h2.1; omega, h2.2⟩, by omega, fun d hd => h4 d (List.mem_of_mem_take hd), fun hp => ?_⟩
  obtain ⟨b, off, e, hlt, hc⟩ := h5 (by omega)
  refine ⟨b, off, e, hlt, fun j hj => ?_⟩
  rw [hc j (by omega)]
  simp [List.getD_eq_getElem?_getD, hj]
/-- The length of a slice value. -/
def lenOf : Value → Nat
  | .slice _ n _ => n
  | _ => 0
def IsTrim (A : Option Addr) (cap : Nat) (ds : List Nat) (v : Value) : Prop := ∃ m : Nat, TrimAt ds m ∧ v = .slice A m cap

set_option maxHeartbeats 800000 in
theorem trim_c (A : Option Addr) (n cap : Nat) (ds : List Nat) (w : World) (h : DigC w A n cap ds) :
    Calls Tryd.prog 58 #[.slice A n cap] w fun e w' => ∃ v, IsTrim A cap ds v ∧ e = .returned v ∧ w = w' := by
  obtain ⟨rfl, ⟨h2, hnil⟩, h3, h4, h5⟩ := h
  clear hnil
  have H5 := Lib.hid h5
  clear h5 h4
  go_enter Tryd.func58, Tryd.ntmps58
  go_wp2
  go_loop [0] (fun s => ∃ m : Nat, m ≤ ds.length ∧ TrimUp ds m ∧ s = .slice A m cap) (fun s => lenOf s)
  case atStart => exact ⟨ds.length, Nat.le_refl _, trimUp_0 ds, rfl⟩
  case round =>
    obtain ⟨m, hm, HT, rfl⟩ := hrel
    by_cases hz : m = 0
    · subst hz
      go_wp2
      go_ret
      exact ⟨_, ⟨0, ⟨Nat.zero_le _, HT.2, fun h => absurd h (by omega)⟩, rfl⟩, rfl, rfl⟩
    · obtain ⟨p, rfl⟩ : ∃ p, m = p + 1 := ⟨m - 1, by omega⟩
      obtain ⟨b, off, rfl, hlt, hc⟩ := H5.out (by omega)
      have cp := hc p (by omega)
      obtain ⟨d, hd⟩ : ∃ d, ds.getD p 0 = d := ⟨_, rfl⟩
      rw [hd] at cp
      by_cases hd0 : d = 0
      · have HT2 := trimUp_s HT (hd.trans hd0)
        subst hd0
        clear hd hc
        go_wp2
        go_round
        case rel => exact ⟨p, by omega, HT2, rfl⟩
        case measure => simp [lenOf]
      · have HD := Lib.hid hd
        have g : ((d : Int) == 0) = false := by simp; omega
        clear hd hc
        go_wp2
        go_ret
        exact ⟨_, ⟨p + 1, ⟨hm, HT.2, fun _ => by rw [Nat.add_sub_cancel, HD.out]; exact hd0⟩, rfl⟩, rfl, rfl⟩
end Go.Proofs.YtipjeepcgdmomaaDoor
