/- Sums that are one to one, plainly: no Go text in sight. -/
import Derived.Laws.BitsAllLaws
import Derived.Laws.Bits64
namespace Go.Proofs.Ytkjckdndkljeeaa

/-- A word turned left by nine bits. -/
def rotL (h : Nat) : Nat := h * 512 % 18446744073709551616 + h / 36028797018963968
def stp (h c : Nat) : Nat := (rotL h ^^^ c) * 11400714819323198485 % 18446744073709551616
def sumM (seed : Nat) (l : List UInt8) : Nat := stp (l.foldl (fun h c => stp h c.toNat) seed) 255
theorem stp_lt (h c : Nat) : stp h c < 18446744073709551616 := Nat.mod_lt _ (by decide)
theorem rotL_lt {h : Nat} (hh : h < 18446744073709551616) : rotL h < 18446744073709551616 := by unfold rotL; omega
theorem rotL_inj {g h : Nat} (hg : g < 18446744073709551616) (hh : h < 18446744073709551616) (e : rotL g = rotL h) : g = h := by
  have e1 : ∀ x : Nat, x * 512 % 18446744073709551616 = x % 36028797018963968 * 512 := fun x => Nat.mul_mod_mul_right 512 x 36028797018963968
  unfold rotL at e
  rw [e1 g, e1 h] at e
  omega
theorem xor_inj {x y c : Nat} (e : x ^^^ c = y ^^^ c) : x = y := by
  have := congrArg (· ^^^ c) e
  simpa [Nat.xor_assoc] using this
theorem xor_inj' {x c d : Nat} (e : x ^^^ c = x ^^^ d) : c = d := by
  rw [Nat.xor_comm x c, Nat.xor_comm x d] at e
  exact xor_inj e
theorem mulK {x : Nat} (hx : x < 18446744073709551616) : x * 11400714819323198485 % 18446744073709551616 * 17428512612931826493 % 18446744073709551616 = x := by
  rw [Nat.mod_mul_mod, Nat.mul_assoc, ← Nat.mul_mod_mod, show 11400714819323198485 * 17428512612931826493 % 18446744073709551616 = 1 by decide, Nat.mul_one]
  exact Nat.mod_eq_of_lt hx
theorem mulK_inj {x y : Nat} (hx : x < 18446744073709551616) (hy : y < 18446744073709551616) (e : x * 11400714819323198485 % 18446744073709551616 = y * 11400714819323198485 % 18446744073709551616) : x = y := by
  rw [← mulK hx, ← mulK hy, e]
theorem xor_lt {x c : Nat} (hx : x < 18446744073709551616) (hc : c < 256) : x ^^^ c < 18446744073709551616 := Nat.xor_lt_two_pow (n := 64) hx (by omega)
/-- Each step is one to one in what was there. -/
theorem stp_left {g h c : Nat} (hg : g < 18446744073709551616) (hh : h < 18446744073709551616) (hc : c < 256) : stp g c = stp h c ↔ g = h := by
  constructor
  · intro e
    exact rotL_inj hg hh (xor_inj (mulK_inj (xor_lt (rotL_lt hg) hc) (xor_lt (rotL_lt hh) hc) e))
  · rintro rfl
    rfl
/-- And in its byte. -/
theorem stp_right {g c d : Nat} (hg : g < 18446744073709551616) (hc : c < 256) (hd : d < 256) : stp g c = stp g d ↔ c = d := by
  constructor
  · intro e
    exact xor_inj' (mulK_inj (xor_lt (rotL_lt hg) hc) (xor_lt (rotL_lt hg) hd) e)
  · rintro rfl
    rfl
def foldM (seed : Nat) (l : List UInt8) : Nat := l.foldl (fun h c => stp h c.toNat) seed
theorem foldM_lt : ∀ (l : List UInt8) {seed : Nat}, seed < 18446744073709551616 → foldM seed l < 18446744073709551616
  | [], _, h => h
  | c :: l, seed, _ => foldM_lt l (seed := stp seed c.toNat) (stp_lt _ _)
theorem foldM_inj : ∀ (l : List UInt8) {g h : Nat}, g < 18446744073709551616 → h < 18446744073709551616 → (foldM g l = foldM h l ↔ g = h)
  | [], _, _, _, _ => Iff.rfl
  | c :: l, g, h, hg, hh => (foldM_inj l (g := stp g c.toNat) (h := stp h c.toNat) (stp_lt _ _) (stp_lt _ _)).trans (stp_left hg hh (UInt8.toNat_lt c))
theorem foldM_app (seed : Nat) (l r : List UInt8) : foldM seed (l ++ r) = foldM (foldM seed l) r := by unfold foldM; rw [List.foldl_append]
theorem sumM_is (seed : Nat) (l : List UInt8) : sumM seed l = stp (foldM seed l) 255 := rfl
/-- A sum of two parts. -/
theorem sumM_cut (seed : Nat) (l : List UInt8) (k : Nat) : sumM seed l = sumM (foldM seed (l.take k)) (l.drop k) := by
  rw [sumM_is, sumM_is, ← foldM_app, List.take_append_drop]
/-- Of another seed another sum. -/
theorem sumM_seed (l : List UInt8) {g h : Nat} (hg : g < 18446744073709551616) (hh : h < 18446744073709551616) : sumM g l = sumM h l ↔ g = h := by
  rw [sumM_is, sumM_is, stp_left (foldM_lt l hg) (foldM_lt l hh) (by decide), foldM_inj l hg hh]
/-- Of one byte that is another one another sum. -/
theorem sumM_set (l : List UInt8) {g k : Nat} (hg : g < 18446744073709551616) (hk : k < l.length) (c : UInt8) : sumM g (l.set k c) = sumM g l ↔ c = l[k] := by
  have e1 : l.set k c = l.take k ++ (c :: l.drop (k + 1)) := List.set_eq_take_append_cons_drop.trans (by rw [if_pos hk])
  have e2 : l = l.take k ++ (l[k] :: l.drop (k + 1)) := by rw [← List.drop_eq_getElem_cons hk, List.take_append_drop]
  have hp := foldM_lt (l.take k) hg
  rw [e1]
  conv => lhs; rhs; rw [e2]
  rw [sumM_is, sumM_is, foldM_app, foldM_app, stp_left (foldM_lt _ hp) (foldM_lt _ hp) (by decide)]
  show foldM (stp (foldM g (l.take k)) c.toNat) (l.drop (k + 1)) = foldM (stp (foldM g (l.take k)) l[k].toNat) (l.drop (k + 1)) ↔ _
  rw [foldM_inj _ (stp_lt _ _) (stp_lt _ _), stp_right hp (UInt8.toNat_lt c) (UInt8.toNat_lt _)]
  exact ⟨fun h => UInt8.toNat_inj.1 h, fun h => by rw [h]⟩
end Go.Proofs.Ytkjckdndkljeeaa
