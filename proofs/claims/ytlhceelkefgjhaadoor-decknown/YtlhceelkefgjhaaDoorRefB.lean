/- Package pyxref1: trim. -/
import Derived.Test.YtlhceelkefgjhaaDoorRefA
namespace Go.Proofs.YtlhceelkefgjhaaDoor
open Go.RowKit

/-- m is where ds ends, its zeros behind left out. -/
def TrimAt (ds : List Nat) (m : Nat) : Prop := m ≤ ds.length ∧ (∀ j, m ≤ j → ds.getD j 0 = 0) ∧ (0 < m → ds.getD (m - 1) 0 ≠ 0)
def TrimUp (ds : List Nat) (m : Nat) : Prop := m ≤ ds.length ∧ (∀ j, m ≤ j → ds.getD j 0 = 0)
theorem trimUp_0 (ds : List Nat) : TrimUp ds ds.length := ⟨Nat.le_refl _, fun j hj => by rw [List.getD_eq_getElem?_getD, List.getElem?_eq_none hj]; rfl⟩
theorem trimUp_s {ds : List Nat} {m : Nat} (h : TrimUp ds (m + 1)) (hz : ds.getD m 0 = 0) : TrimUp ds m :=
  ⟨by have := h.1; omega, fun j hj => by
    rcases Nat.eq_or_lt_of_le hj with e | e
    · rw [← e]; exact hz
    · exact h.2 j e⟩
theorem DigC.take {w : World} {A : Option Addr} {n cap m : Nat} {ds : List Nat} (h : DigC w A n cap ds) (hm : m ≤ n) : DigC w A m cap (ds.take m) := by
  obtain ⟨h1, h2, h3, h4, h5⟩ := h
  refine ⟨by rw [List.length_take]; omega, ⟨by have := h2.1; omega, h2.2⟩, by omega, fun d hd => h4 d (List.mem_of_mem_take hd), fun hp => ?_⟩
  obtain ⟨b, off, e, hlt, hc⟩ := h5 (by omega)
  refine ⟨b, off, e, hlt, fun j hj => ?_⟩
  rw [hc j (by omega)]
  simp [List.getD_eq_getElem?_getD, hj]
/-- The length of a slice value. -/
def lenOf : Value → Nat
  | .slice _ n _ => n
  | _ => 0
def IsTrim (A : Option Addr) (cap : Nat) (ds : List Nat) (v : Value) : Prop := ∃ m : Nat, TrimAt ds m ∧ v = .slice A m cap

end Go.Proofs.YtlhceelkefgjhaaDoor
