/- Package pack: number, Int. -/
import Derived.Test.YtkjckdndkljeeaaPackC
namespace Go.Proofs.Ytkjckdndkljeeaa
open Go.RowKit
theorem or128_fin : ∀ a : Fin 256, a.val ||| 128 = a.val % 128 + 128 := by decide +kernel
theorem or128 (u : Nat) : bits .or .u8 (IntKind.u8.wrap (u : Int)) 128 = ((u % 128 + 128 : Nat) : Int) := by
  have e : IntKind.u8.wrap (u : Int) = ((u % 256 : Nat) : Int) := by rw [IntKind.wrap_u8]; omega
  have e2 : (128 : Int) = ((128 : Nat) : Int) := rfl
  have hu : u % 256 < 256 := Nat.mod_lt _ (by decide)
  rw [e, e2, (bits_nat .u8 8 (by decide) wraps_u8 (u % 256) 128 hu (by decide)).2]
  have := or128_fin ⟨u % 256, hu⟩
  simp only at this
  rw [this]
  omega
/-- One byte behind a row: what lies in its own block. -/
theorem one_news (w : World) (x : Int) (t : TypeId) : ∀ j u, ([.int .u8 x] : List Value)[j]? = some u → (w.alloc (.cells #[.int .u8 x] t)).cell? ((⟨w.heap.size, 0, none⟩ : Addr).add j) = some u := by
  intro j u hj
  match j, hj with
  | 0, hj => simp at hj; subst hj; simp [Addr.add]
theorem one_ones (x : Int) : ∀ u ∈ ([.int .u8 x] : List Value), u.oneCell' = true := by
  intro u hu
  simp at hu
  subst hu
  rfl
def NumRel (w : World) (B g k0 cap : Nat) (l : List UInt8) (u0 : Nat) (v x : Value) (wr : World) : Prop :=
  ∃ (f u k : Nat) (pre : List UInt8), v = .slice (some ⟨g, 0, none⟩) k cap ∧ x = .int .u64 (u : Int) ∧ k = k0 + pre.length ∧ enc u0 = pre ++ encF f u ∧ f + pre.length = 9 ∧ u * 128 ^ pre.length < 18446744073709551616 ∧ u < 18446744073709551616 ∧ Own wr B g k cap (l ++ pre) ∧ w.grownBy wr (some g)
theorem own_one {w w' : World} {B g k cap : Nat} {l : List UInt8} {x : Int} {c : Nat} (hc : c < 256) (hx : x = (c : Int)) (h : Own w B g k cap l)
    (h' : w'.ownsRow B 5 1 (.slice (some ⟨g, 0, none⟩) (k + 1) cap) (k + 1) (Lib.byteCells l ++ [.int .u8 x])) : Own w' B g (k + 1) cap (l ++ [UInt8.ofNat c]) := by
  refine ⟨by rw [List.length_append, h.1]; rfl, ?_⟩
  rw [Lib.byteCells_append]
  have : Lib.byteCells [UInt8.ofNat c] = [.int .u8 x] := by
    unfold Lib.byteCells
    rw [List.map_cons, List.map_nil, u8_of c hc, hx]
  rw [this]
  exact h'
theorem grown_one {w wr w1 : World} {g : Nat} {o : Obj} (h : w.grownBy wr (some g)) (h' : (wr.alloc o).grownBy w1 (some g)) : w.grownBy w1 (some g) :=
  ⟨h'.os.trans h.os, h'.tape.trans h.tape, h'.output.trans h.output, by have := h'.size; have := h.size; simp at *; omega, fun k hk hne => (h'.block k (by have := h.size; simp; omega) hne).trans ((Below.heap_alloc wr o k (by have := h.size; omega)).trans (h.block k hk hne))⟩
theorem rel_next {w wr w1 : World} {B g k0 cap k f u : Nat} {l pre : List UInt8} {u0 : Nat} {o : Obj} (hk : k = k0 + pre.length) (henc : enc u0 = pre ++ encF f u) (hf : f + pre.length = 9) (hub : u * 128 ^ pre.length < 18446744073709551616) (hu : u < 18446744073709551616)
    (hge : ¬ u < 128) (hown : Own wr B g k cap (l ++ pre)) (hgr : w.grownBy wr (some g))
    (hown' : w1.ownsRow B 5 1 (.slice (some ⟨g, 0, none⟩) (k + 1) cap) (k + 1) (Lib.byteCells (l ++ pre) ++ [.int .u8 (bits .or .u8 (IntKind.u8.wrap (u : Int)) 128)])) (hgr' : (wr.alloc o).grownBy w1 (some g)) :
    NumRel w B g k0 cap l u0 (.slice (some ⟨g, 0, none⟩) (k + 1) cap) (.int .u64 ((u : Int) / 128)) w1 := by
  cases f with
  | zero =>
    have hp : pre.length = 9 := by omega
    rw [hp] at hub
    have := small9 hub
    omega
  | succ f =>
    rw [encF_ge _ _ hge] at henc
    have hO := own_one (c := u % 128 + 128) (by omega) (or128 u) hown hown'
    refine ⟨f, u / 128, k + 1, pre ++ [UInt8.ofNat (u % 128 + 128)], rfl, by congr 1, by rw [List.length_append, hk]; rfl, by rw [henc, List.append_assoc]; rfl, by rw [List.length_append]; simp; omega, ?_, by omega, ?_, grown_one hgr hgr'⟩
    · rw [List.length_append]
      exact step_lt hub
    · rw [← List.append_assoc]
      exact hO
set_option maxRecDepth 100000 in
set_option maxHeartbeats 800000 in
theorem number_c (B g k0 cap : Nat) (l : List UInt8) (n : Int) (w : World) (h0 : -9223372036854775808 ≤ n) (h1 : n ≤ 9223372036854775807) (ho : Own w B g k0 cap l) (hc : k0 + 10 ≤ cap) :
    Calls Try.prog 57 #[.slice (some ⟨g, 0, none⟩) k0 cap, .int .i64 n] w fun e w' => e = .returned (.slice (some ⟨g, 0, none⟩) (k0 + (enc (zig n)).length) cap) ∧ Own w' B g (k0 + (enc (zig n)).length) cap (l ++ enc (zig n)) ∧ w.grownBy w' (some g) := by
  obtain ⟨i0, hi, hz0, hz1, hz2⟩ := info_parts Try.i8
  have hu0 := zig_lt h0 h1
  have HO := Lib.hid ho
  go_enter Try.func57, Try.ntmps57
  go_wp2_with (go_at_call 64; refine (folded_c n _ h0 h1).mono ?_; rintro e w' ⟨rfl, rfl⟩)
  go_loopw [0, 5] (fun v x wr => NumRel w B g k0 cap l (zig n) v x wr) (fun _ x _ => (intOf x).toNat)
  case atStart => exact ⟨9, zig n, k0, [], rfl, rfl, by simp, by simp [enc], rfl, by simpa using hu0, hu0, by simpa using ho, World.grownBy.refl _ _⟩
  case round =>
    obtain ⟨f, u, k, pre, rfl, rfl, hk, henc, hf, hub, hu, hown, hgr⟩ := hrel
    have HK := Lib.hid hk
    have HE := Lib.hid henc
    have HF := Lib.hid hf
    have HUB := Lib.hid hub
    have hroom : k + 1 ≤ cap := by omega
    have HU := Lib.hid hu
    clear hk henc hf hub HO ho hu hu0 h0 h1
    by_cases hlt : u < 128
    · have hlt' : (u : Int) < 128 := by omega
      go_wp2_with (at_builtin; refine wpList_append_fits _ rfl (.tmp 18) (.tmp 21) _ rfl B 5 i0 1 Try.u42 hi hz1 g k cap (Lib.byteCells (l ++ pre)) rfl (hown.2.alloc _) ⟨wr.heap.size, 0, none⟩ 1 1 [.int .u8 (u : Int)] rfl rfl (one_news _ _ _) (one_ones _) hroom ?_; intro w1 hown' hgrow)
      go_ret
      have e : encF f u = [UInt8.ofNat u] := encF_lt f u hlt
      have hO := own_one (c := u) (by omega) rfl hown hown'
      have hE : enc (zig n) = pre ++ [UInt8.ofNat u] := by rw [HE.out, e]
      have hL : k0 + (enc (zig n)).length = k + 1 := by rw [hE, HK.out, List.length_append]; rfl
      rw [hL, hE, ← List.append_assoc]
      exact ⟨rfl, hO, grown_one hgr hgrow⟩
    · have hge : (128 : Int) ≤ (u : Int) := by omega
      go_wp2_with (at_builtin; refine wpList_append_fits _ rfl (.tmp 10) (.tmp 14) _ rfl B 5 i0 1 Try.u42 hi hz1 g k cap (Lib.byteCells (l ++ pre)) rfl (hown.2.alloc _) ⟨wr.heap.size, 0, none⟩ 1 1 [.int .u8 (bits .or .u8 (IntKind.u8.wrap (u : Int)) 128)] rfl rfl (one_news _ _ _) (one_ones _) hroom ?_; intro w1 hown' hgrow)
      have R := rel_next HK.out HE.out HF.out HUB.out HU.out hlt hown hgr hown' hgrow
      go_roundw
      case rel => exact R
      case measure => simp [intOf]; omega
end Go.Proofs.Ytkjckdndkljeeaa
