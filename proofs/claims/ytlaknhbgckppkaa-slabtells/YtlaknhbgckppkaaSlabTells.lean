/- For every input 'SlabTells' returns true and leaves its arguments as they were. No condition. -/
import Derived.Test.YtlaknhbgckppkaaRows
import Derived.WalkKit
import Derived.ProofKit
import Derived.OpenShut
import Derived.ShutString
import Derived.ChangeOld
import Derived.Below
import Derived.SizedLaws
import Derived.Deep.Slices
import Derived.Deep.Fields
import Derived.ChangeSame
import Derived.Test.YtlaknhbgckppkaaSlabJ
import Derived.Test.YtlaknhbgckppkaaPostB
namespace Go.Proofs.Ytlaknhbgckppkaa.slabTells
open Go.ChangeShapes Go.WideShapes Go.ChangeAt Go.RowKit Go.Deep
set_option linter.unusedVariables false

theorem own : ownKnob Try.prog.godebug = none := by kernel_rfl
theorem laidOut : laidOutB Try.prog = true := by kernel_rfl
theorem c3 : Try.prog.cellsOf 3 = 1 := by kernel_rfl
theorem c26 : Try.prog.cellsOf 26 = 1 := by kernel_rfl
theorem c38 : Try.prog.cellsOf 38 = 4 := by kernel_rfl
theorem int_field {H : Type} {enc : TypeId × Value → H} {W : World} {fuel : Nat} {v : Value} {y : DataW H × List MemPlace} (h : DataW.trod enc Try.prog W 0 (fun _ => true) true fuel 3 [v] = some y) : ∃ n : Int, v = .int .i64 n ∧ -9223372036854775808 ≤ n ∧ n ≤ 9223372036854775807 := by
  obtain ⟨n, hn, _, hw⟩ := DataW.trod_int Try.underlying3 h
  obtain ⟨h1, h2⟩ := i64_in hw
  exact ⟨n, by simpa using hn, h1, h2⟩
theorem bytes_field {H : Type} {enc : TypeId × Value → H} {W : World} {fuel : Nat} {v : Value} {y : DataW H × List MemPlace} (h : DataW.trod enc Try.prog W 0 (fun _ => true) true fuel 26 [v] = some y) : ∃ A m c l, v = .slice A m c ∧ Bs W W.heap.size A m c l := by
  rcases open_ints Try.underlying26 Try.underlying5 (by kernel_rfl) h with ⟨hcs, _⟩ | ⟨x, l, c, zs, hcs, _, hl, hm, hz, hx, hcell, hwz⟩
  · obtain rfl : v = .slice none 0 0 := by simpa using hcs
    exact ⟨none, 0, 0, [], rfl, Bs.nil_ _ _⟩
  · obtain rfl : v = .slice (some x) l c := by simpa using hcs
    have hz' : zs.length = c := by simpa using hz
    obtain ⟨bl, hB⟩ := bs_in hl hz' hcell hwz
    exact ⟨_, _, _, bl, rfl, hB⟩
set_option maxRecDepth 100000 in
theorem raws_of {H : Type} {enc : TypeId × Value → H} {W : World} {fuel : Nat} {a : Option Addr} {len cap : Nat} {x : DataW H × List MemPlace}
    (hf : DataW.trod enc Try.prog W 0 (fun _ => true) true fuel 31 (Value.slice a len cap).cells.toList = some x) : Raws W a len ∧ (len = 0 ∨ ∃ es ss, x.1 = .slice es ss ∧ es.length = len) := by
  rcases open_slice Try.underlying31 hf with ⟨hcs, _⟩ | ⟨y, l, c, m, n, D, Pl, hcs, _, hl, hm, hmm, hx, hi⟩
  · simp [Value.cells] at hcs
    obtain ⟨rfl, rfl, rfl⟩ := hcs
    exact ⟨fun h => absurd h (by omega), .inl rfl⟩
  · simp [Value.cells] at hcs
    obtain ⟨rfl, rfl, rfl⟩ := hcs
    have hmm' : m = cap := by simpa using hmm
    have key : ∀ i, i < len → ∃ (x0 x1 x2 : Int) (A : Option Addr) (mm cc : Nat) (bl : List UInt8), (-9223372036854775808 ≤ x0 ∧ x0 ≤ 9223372036854775807) ∧ (-9223372036854775808 ≤ x1 ∧ x1 ≤ 9223372036854775807) ∧ (-9223372036854775808 ≤ x2 ∧ x2 ≤ 9223372036854775807) ∧ Bs W W.heap.size A mm cc bl ∧
        W.cell? (y.add (i * 4 + 0)) = some (.int .i64 x0) ∧ W.cell? (y.add (i * 4 + 1)) = some (.int .i64 x1) ∧ W.cell? (y.add (i * 4 + 2)) = some (.int .i64 x2) ∧ W.cell? (y.add (i * 4 + 3)) = some (.slice A mm cc) := by
      intro i hil
      obtain ⟨cs', hc, ht⟩ := hi i (by omega)
      rw [c38] at hc
      obtain ⟨_, hlen, hat⟩ := World.cells?_some hc
      obtain ⟨xs, n', _, _, _, hxl, hg⟩ := DataW.trod_struct Try.underlying38 ht
      match cs', hlen, xs, hxl with
      | [u0, u1, u2, u3], _, [y0, y1, y2, y3], _ =>
        have t0 : DataW.trod enc Try.prog W 0 (fun _ => true) true n' 3 (([u0, u1, u2, u3].drop 0).take (Try.prog.cellsOf 3)) = some y0 := hg 0 _ rfl
        have t1 : DataW.trod enc Try.prog W 0 (fun _ => true) true n' 3 (([u0, u1, u2, u3].drop 1).take (Try.prog.cellsOf 3)) = some y1 := hg 1 _ rfl
        have t2 : DataW.trod enc Try.prog W 0 (fun _ => true) true n' 3 (([u0, u1, u2, u3].drop 2).take (Try.prog.cellsOf 3)) = some y2 := hg 2 _ rfl
        have t3 : DataW.trod enc Try.prog W 0 (fun _ => true) true n' 26 (([u0, u1, u2, u3].drop 3).take (Try.prog.cellsOf 26)) = some y3 := hg 3 _ rfl
        rw [c3] at t0 t1 t2
        rw [c26] at t3
        obtain ⟨x0, rfl, hx0⟩ := int_field (v := u0) t0
        obtain ⟨x1, rfl, hx1⟩ := int_field (v := u1) t1
        obtain ⟨x2, rfl, hx2⟩ := int_field (v := u2) t2
        obtain ⟨A, mm, cc, bl, rfl, hB⟩ := bytes_field (v := u3) t3
        refine ⟨x0, x1, x2, A, mm, cc, bl, hx0, hx1, hx2, hB, ?_, ?_, ?_, ?_⟩
        · rw [← add_add]; exact hat 0 (by omega)
        · rw [← add_add]; exact hat 1 (by omega)
        · rw [← add_add]; exact hat 2 (by omega)
        · rw [← add_add]; exact hat 3 (by omega)
    refine ⟨fun h0 => ?_, .inr ⟨_, _, by rw [hx], by simp⟩⟩
    obtain ⟨b, off, spot⟩ := y
    obtain ⟨_, _, _, _, _, _, _, _, _, _, _, hc0, _⟩ := key 0 h0
    have hspot : spot = none := by simpa [Addr.add] using World.cell?_spot hc0
    subst hspot
    refine ⟨b, off, rfl, ?_, fun i hil => ?_⟩
    · have := World.block_lt_of_cell? W _ hc0
      simpa [Addr.add_lit] using this
    · obtain ⟨x0, x1, x2, A, mm, cc, bl, hx0, hx1, hx2, hB, k0, k1, k2, k3⟩ := key i hil
      rw [Addr.add_lit] at k0 k1 k2 k3
      exact ⟨x0, x1, x2, A, mm, cc, bl, hx0, hx1, hx2, hB, k0, by rw [Nat.add_assoc]; exact k1, by rw [Nat.add_assoc]; exact k2, by rw [Nat.add_assoc]; exact k3⟩

set_option maxRecDepth 100000 in
theorem lifted (os : Os) (started : os.Started) (H : Type) (enc : TypeId × Value → H) :
    ReturnsInHanded {} Try.checked os 4 .any (Rows.slabTellsSpec.pre6 enc Try.prog Try.f4 Rows.slabTellsRow.domain false) (Rows.slabTellsSpec.post enc Try.prog Try.f4 false true false false) := by
  refine returnsInHanded_of_change_sized (C := Try.checked) own started (by kernel_rfl) Try.func4
    (ChangeSpec.witness6 (enc := enc) (C := Try.checked) false ⟨#[], #[.int .i64 0, .slice none 0 0], []⟩ 8 (by kernel_rfl) (by kernel_rfl) (by kernel_rfl) (by kernel_rfl)) ?_
  intro W base args ds gs before hval0 hW hcnd hsz0 _
  have hsz : (DataW.weightsEach Try.prog (Try.f4.params.toList ++ Rows.slabTellsSpec.plain.varTypes Try.prog) (ds ++ gs)).all (· ≤ reachBytes) = true := hsz0
  have hval : ∀ (j : Nat) t v, Try.f4.params[j]? = some t → args[j]? = some v → Value.okWide Try.prog W .any base t v := hval0
  have hW' := hW
  obtain ⟨p, q, hA0, hV, rfl, hfz, hnd⟩ := hW
  have hA : DataW.TrodAll enc Try.prog W 0 (fun _ => true) true Try.f4.params.toList args.toList ds p := hA0
  rw [Try.params4] at hA hval hsz
  obtain ⟨v0, vs0, d0, ds0, p0, q0, hargs, rfl, rfl, h0, r0⟩ := trodAll_cons hA
  obtain ⟨v1, vs1, d1, ds1, p1, q1, rfl, rfl, rfl, h1, r1⟩ := trodAll_cons r0
  obtain ⟨rfl, rfl, rfl⟩ := trodAll_nil r1
  obtain rfl : args = #[v0, v1] := by cases args; simp_all
  obtain ⟨rfl, rfl⟩ := trodVars_none hV
  obtain ⟨a0, rfl, rfl, rfl, w0⟩ := open_int Try.underlying3 (hval 0 3 v0 rfl rfl) h0
  obtain ⟨a1, len1, cap1, rfl⟩ := okWide_slice Try.underlying31 (hval 1 31 v1 rfl rfl)
  have k1 := h1
  have lt1 : ∀ x ∈ p1, x.block < W.heap.size := by obtain ⟨m, hm⟩ := k1; exact DataW.trod_lt m _ _ _ hm
  obtain ⟨w1, rr1⟩ : Raws W a1 len1 ∧ len1 ≤ 281474976710656 := by
    obtain ⟨fuel, hf⟩ := h1
    obtain ⟨hr, h0 | ⟨es, ss, hx, hl⟩⟩ := raws_of hf
    · exact ⟨hr, by omega⟩
    · simp only at hx
      have := sized_slice hsz (j := 1) (t := 31) (e := 38) rfl (by rw [hx]; rfl) Try.underlying31
      rw [show Try.prog.bytesOf 38 = 48 by kernel_rfl] at this
      simp only [reachBytes] at this
      exact ⟨hr, by omega⟩
  clear hA0 hval0
  refine (slabTells_c a0 a1 len1 cap1 W w1 rr1).mono fun e W' ⟨he, bel⟩ => ?_
  subst he
  exact ⟨_, rfl, _, _, _, [], _, [], hW', trodAll_mk1 (shut_bool Try.underlying4 _), (trodAll_cons_mk (shut_int Try.underlying3 w0) (trodAll_cons_mk (Below.trod laidOut (by kernel_rfl) (of_decide_eq_true (by kernel_rfl)) k1 bel lt1) trodAll_mk0)), rfl, bel.frame _, fun h => by cases h⟩

theorem over : Rows.slabTellsRow.holds Try.pinned (OpenSpec.ofChange Rows.slabTellsSpec) :=
  OpenClaim.holds_of_wide 4 Try.f4 rfl rfl rfl rfl rfl rfl rfl ⟨rfl, rfl, rfl, rfl, rfl⟩ rfl rfl rfl rfl rfl (by kernel_rfl) Try.func4 (by kernel_rfl)
    (of_decide_eq_true (by kernel_rfl)) (by unfold Func.isWrapper; first | (rw [if_pos (by decide +kernel)]; kernel_rfl) | (rw [if_neg (by decide +kernel)]; exact ⟨rfl, rfl⟩))
    (fun os started H enc _ => lifted os started H enc)

/-- The given statement. -/
theorem proved : Rows.SlabTellsSaid := over
#print axioms proved
end Go.Proofs.Ytlaknhbgckppkaa.slabTells
