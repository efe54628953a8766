/- RoleTells, RoleGrows. -/
import Derived.Test.YtiocmkaplblelaaRoleE
namespace Go.Proofs.Ytiocmkaplblelaa
open Go.RowKit
set_option maxRecDepth 100000 in
set_option maxHeartbeats 1600000 in
theorem roleTells_c (A : Option Addr) (n c : Nat) (xs : List Int) (b r k : Int) (w : World) (h : IL w w.heap.size A n c xs) (hn : n ≤ 9223372036854775807) (hb1 : -9223372036854775808 ≤ b) (hb2 : b ≤ 9223372036854775807) (hr0 : 0 ≤ r) (hr1 : r < 18446744073709551616) :
    Calls Try.prog 4 #[.slice A n c, .int .i64 b, .int .u64 r, .int .i64 k] w (RetB w true) := by
  have HP := Lib.hid (parents_c A n c xs b w h hn hb1 hb2)
  obtain ⟨ρ, rfl⟩ : ∃ ρ : Nat, r = (ρ : Int) := ⟨r.toNat, by omega⟩
  clear h
  go_enter Try.func4, Try.ntmps4
  go_wp2_with fail
  (with_reducible refine HP.out.mono ?_)
  rintro e w1 ⟨A, n', c, L, rfl, hL, hn10, _, hb⟩
  have HL := Lib.hid hL
  have HB := Lib.hid hb
  clear hL hb HP
  go_wp2_with fail
  (with_reducible refine (pickB k 14 _ (by omega) (by omega)).mono ?_)
  rintro e w' ⟨m, hm, rfl, rfl⟩
  go_wp2_with fail
  (with_reducible refine (known9_c w1).mono ?_)
  rintro e w2 ⟨rfl, hb2⟩
  have HL2 := Lib.hid (il_up HL.out hb2)
  have HB2 := Lib.hid (HB.out.trans (hb2.mono HB.out.size))
  have HR1 := Lib.hid (roRight_c A n' c L w2 HL2.out (by omega))
  have HR2 := Lib.hid (rfRight_c A n' c L w2 HL2.out (by omega))
  have HA1 := Lib.hid (roAll_c A n' c L ρ (ρ : Int) w2 HL2.out (by omega) rfl (by omega))
  have HA2 := Lib.hid (rfAll_c A n' c L ρ (ρ : Int) w2 HL2.out (by omega) rfl)
  have HH1 := Lib.hid (roHas_c A n' c L ρ (ρ : Int) ((m : Int) - 2) w2 HL2.out (by omega) rfl (by omega) (by omega))
  have HH2 := Lib.hid (rfHas_c A n' c L ρ (ρ : Int) ((m : Int) - 2) w2 HL2.out (by omega) rfl)
  obtain ⟨β, hβ⟩ : ∃ β, rightL L = β := ⟨_, rfl⟩
  obtain ⟨a, ha⟩ : ∃ a : Int, ((allV L ρ : Nat) : Int) = a := ⟨_, rfl⟩
  obtain ⟨γ, hγ⟩ : ∃ γ, hasV L ρ ((m : Int) - 2) = γ := ⟨_, rfl⟩
  rw [hβ] at HR1 HR2
  rw [ha] at HA1 HA2
  rw [hγ] at HH1 HH2
  clear hb2 HL HB hβ ha hγ
  go_wp2_with fail
  (with_reducible refine (HR1.out).mono ?_)
  rintro e w' ⟨rfl, rfl⟩
  go_wp2_with fail
  (with_reducible refine (HR2.out).mono ?_)
  rintro e w' ⟨rfl, rfl⟩
  go_wp2_with fail
  (with_reducible refine (HA1.out).mono ?_)
  rintro e w' ⟨rfl, rfl⟩
  go_wp2_with fail
  (with_reducible refine (HA2.out).mono ?_)
  rintro e w' ⟨rfl, rfl⟩
  go_wp2_with fail
  (with_reducible refine (HH1.out).mono ?_)
  rintro e w' ⟨rfl, rfl⟩
  go_wp2_with fail
  (with_reducible refine (HH2.out).mono ?_)
  rintro e w' ⟨rfl, rfl⟩
  go_wp2
  go_ret
  exact ⟨rfl, HB2.out⟩
end Go.Proofs.Ytiocmkaplblelaa
