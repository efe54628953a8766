/- Package dec: padded, digits. -/
import Derived.Test.YtlhceelkefgjhaaGreatDoorTextA
import Derived.Test.YtlhceelkefgjhaaGreatDoorDecA
namespace Go.Proofs.YtlhceelkefgjhaaGreatDoor
open Go.RowKit

theorem bytes_app (a b : List UInt8) : (⟨a.toArray⟩ ++ ⟨b.toArray⟩ : ByteArray) = ⟨(a ++ b).toArray⟩ := by
  apply ByteArray.ext
  simp
/-- l with zeros ahead, up to m bytes. -/
def padL (l : List UInt8) (m : Int) : List UInt8 := Lib.repeatL [48] (m - l.length).toNat ++ l
set_option maxHeartbeats 800000 in
theorem padded_c (l : List UInt8) (m : Int) (w : World) (hl : l.length ≤ 1000) (h0 : -1000 ≤ m) (h1 : m ≤ 1000) :
    Calls Tryz.prog 73 #[.string ⟨l.toArray⟩, .int .i64 m] w (Ret w (· = .string ⟨(padL l m).toArray⟩)) := by
  have e : max (m - (l.length : Int)) 0 = (((m - l.length).toNat : Nat) : Int) := by omega
  have hk : (m - (l.length : Int)).toNat ≤ 2000 := by omega
  unfold padL
  generalize (m - (l.length : Int)).toNat = k at *
  have E := Lib.hid e
  clear e
  have hrl : (Lib.repeatL [48] k).length = k := by rw [Lib.repeatL_length]; simp
  have hlen : ¬ 9223372036854775807 < (Lib.repeatL [48] k).length + l.length := by omega
  clear hrl
  go_enter Tryz.func73, Tryz.ntmps73
  go_wp2_with fail
  rw [E.out]
  refine (Tryz.strings_Repeat ⟨#[48]⟩ k _ (by omega) (by show 1 * k ≤ _; omega)).mono ?_
  rintro e w1 ⟨rfl, hb⟩
  go_wp2
  go_ret
  exact ⟨_, rfl, congrArg (fun x : ByteArray => Ending.returned (.string x)) (bytes_app _ _), hb⟩
/-- A digit? -/
def isDig (c : UInt8) : Bool := decide (48 ≤ c.toNat ∧ c.toNat ≤ 57)
def digB (l : List UInt8) (most : Int) : Bool := decide (1 ≤ l.length ∧ (l.length : Int) ≤ most) && l.all isDig
theorem take_dig {l : List UInt8} (h : l.all isDig = true) (i : Nat) (hi : i < l.length) : 48 ≤ l[i].toNat ∧ l[i].toNat ≤ 57 := by
  have := List.all_eq_true.1 h l[i] (List.getElem_mem hi)
  simpa [isDig] using this
set_option maxHeartbeats 800000 in
theorem digits_yes (l : List UInt8) (most : Int) (w : World) (hl : 1 ≤ l.length) (hm : (l.length : Int) ≤ most) (hb : l.length ≤ 1000) (hd : l.all isDig = true) :
    Calls Tryz.prog 46 #[.string ⟨l.toArray⟩, .int .i64 most] w fun e w' => e = .returned (.bool true) ∧ w = w' := by
  have g1 : decide ((l.length : Int) < 1) = false := by simp; omega
  have g2 : decide (most < (l.length : Int)) = false := by simp; omega
  have HD := Lib.hid (take_dig hd)
  clear hd
  go_enter Tryz.func46, Tryz.ntmps46
  go_wp2
  go_loop [17] (fun s => ∃ k : Nat, k ≤ l.length ∧ s = .int .i64 k) (fun s => l.length - (intOf s).toNat)
  case atStart => exact ⟨0, Nat.zero_le _, rfl⟩
  case round =>
    obtain ⟨k, hk, rfl⟩ := hrel
    by_cases hlt : k < l.length
    · go_wp2
      all_goals first
        | exact ⟨⟨k + 1, by omega, by go_num⟩, by simp [intOf]; omega⟩
        | (exfalso
           have hc : 48 ≤ ((⟨l.toArray⟩ : ByteArray)[k]'hlt).toNat ∧ ((⟨l.toArray⟩ : ByteArray)[k]'hlt).toNat ≤ 57 := HD.out k hlt
           omega)
    · go_wp2
      go_ret
      exact ⟨rfl, rfl⟩
end Go.Proofs.YtlhceelkefgjhaaGreatDoor
