/- strconv.FormatUint at base 10. -/
/- Package dec: padded, digits. -/
/- Package dec: number, where it fits. -/
/- Package dec: figures. -/
/- Package dec: Print at right decimals. -/
/- Package dec: Read where it answers OK. -/
import Derived.Test.YtkaflkofffgndaaDoorPost
import Derived.Test.YtkaflkofffgndaaDoorShelf
import Derived.Lib.ItoaMem
import Derived.Test.YtkaflkofffgndaaDoorDecA
import Derived.Test.YtkaflkofffgndaaDoorDecF
import Derived.Test.YtkaflkofffgndaaDoorLimbI
namespace Go.Proofs.YtkaflkofffgndaaDoor
open Go.RowKit Go.Sort

def encB : UInt8 → Value := fun b => Value.int .u8 (b.toNat : Int)
theorem bel_putRow {α : Type} [Inhabited α] {B g off : Nat} {w w' : World} {enc : α → Value} {d : Array α} (h : Below B w w') (hg : B ≤ g) : Below B w (putRow enc w' g off d) := by
  refine ⟨h.os, h.tape, h.output, ?_, fun k hk => ?_⟩
  · have := h.size
    unfold putRow mapBlock
    simpa using this
  · rw [← h.block k hk]
    unfold putRow mapBlock
    simp [Array.getElem?_modify, show ¬ g = k by omega]
theorem tabIs_below {P : Program} {w w' : World} {name : String} {k : IntKind} {zs : List Int} (h : Lib.TabIs P w name k zs) (hb : Below w.heap.size w w') : Lib.TabIs P w' name k zs := by
  unfold Lib.TabIs World.var? at *
  cases hg : P.globalNamed name with
  | none => simp [hg] at h
  | some g =>
    simp only [hg, Option.bind_some] at h ⊢
    have hlt : g < w.heap.size := by
      rcases Nat.lt_or_ge g w.heap.size with h' | h'
      · exact h'
      · rw [Array.getElem?_eq_none h'] at h; simp at h
    rw [hb.block g hlt]
    exact h
theorem holds_zero0 (w : World) (T : TypeId) (nd : Nat) (hs : nd ≤ 24) : Holds (fun (b : UInt8) => Value.int .u8 (b.toNat : Int)) (w.alloc (.cells Lib.zeros24 T)) w.heap.size 0 (Array.replicate nd (0 : UInt8)) := fun j hj => by
  have hj' : j < nd := by simpa using hj
  refine ⟨?_, World.frozen?_alloc_new _ _ _ _⟩
  rw [World.cell?_alloc_new, Lib.zeros24_at _ (by omega), getElem!_pos _ j hj]
  simp
set_option maxRecDepth 100000 in
set_option maxHeartbeats 1600000 in
theorem fmtIn_c (u : Nat) (hu : u < 18446744073709551616) (w : World) (htab : Lib.TabIs Tryd.prog w "internal/strconv.uint64pow10" .u64 Lib.pow10Tab) :
    Calls Tryd.prog 52 #[.int .u64 u, .int .i64 10] w (Ret w (· = .string ⟨(Lib.decDigits u).toArray⟩)) := by
  by_cases hs : u < 100
  · have hw : IntKind.i64.wrap (u : Int) = (u : Int) := IntWalk.i64_in _ (by omega)
    have hs' : (u : Int) < 100 := by omega
    go_enter Tryd.func52, Tryd.ntmps52
    go_wp2_with fail
    refine (Tryd.internal_strconv_small u hs _).mono ?_
    rintro e w' ⟨rfl, rfl⟩
    go_wp2
    go_ret
    exact ⟨_, rfl, rfl, Below.refl _ _⟩
  · have g1 : decide ((u : Int) < 100) = false := by simp; omega
    have hu1 : 1 ≤ u := by omega
    have hnd20 : Lib.nDigits u ≤ 20 := by have := Lib.numDigits_eq u hu1 hu; split at this <;> omega
    have hal : Tryd.prog.arrayLen 97 = 24 := by kernel_rfl
    have hsl : ∀ W, (Instr.sliceAt 97 (.pointer (some ⟨w.heap.size, 0, none⟩)) none (some (.int .i64 (Lib.nDigits u : Int))) none).run Tryd.prog W = .ok (.slice (some ⟨w.heap.size, 0, none⟩) (Lib.nDigits u) 24) W := fun W => by
      rw [run_sliceAt_array_h W 97 ⟨w.heap.size, 0, none⟩ Tryd.underlying97 .i64 (Lib.nDigits u : Int) (by omega) (by rw [hal]; omega)]
      go_simp
    have hH0 := holds_zero0 w 97 (Lib.nDigits u) (by omega)
    have hfmt := Tryd.internal_strconv_formatBase10 w.heap.size 0 24 u (Array.replicate (Lib.nDigits u) 0) (w.alloc (.cells Lib.zeros24 97)) hH0 (by rw [Array.size_replicate]; exact Lib.lt_pow_nDigits u) hu (by rw [Array.size_replicate]; omega)
    rw [Array.size_replicate] at hfmt
    have HH0 := Lib.hid hH0
    have HF := Lib.hid hfmt
    have HT := Lib.hid htab
    clear hH0 hal hfmt htab
    go_enter Tryd.func52, Tryd.ntmps52
    go_wp2_with fail
    refine (Tryd.internal_strconv_numDigits u hu1 hu _ (Lib.tabIs_alloc HT.out _)).mono ?_
    rintro e w' ⟨rfl, rfl⟩
    go_wp2_with fail
    refine HF.out.mono ?_
    rintro e w' ⟨rfl, k, v', dk, rfl, hF⟩
    have hcv : (convert 99 9 (.slice (some ⟨w.heap.size, 0, none⟩) (Lib.nDigits u) 24)).run Tryd.prog ((putRow (fun (b : UInt8) => Value.int .u8 (b.toNat : Int)) (w.alloc (.cells Lib.zeros24 97)) w.heap.size 0 dk).drewN k) = .ok (.string ⟨(Lib.decDigits u).toArray⟩) ((putRow (fun (b : UInt8) => Value.int .u8 (b.toNat : Int)) (w.alloc (.cells Lib.zeros24 97)) w.heap.size 0 dk).drewN k) := by
      have h := run_convert_bytes_back (P := Tryd.prog) ((putRow (fun (b : UInt8) => Value.int .u8 (b.toNat : Int)) (w.alloc (.cells Lib.zeros24 97)) w.heap.size 0 dk).drewN k) 99 9 5 ⟨w.heap.size, 0, none⟩ 24 (Lib.decDigits u) Tryd.underlying99 Tryd.underlying5 Tryd.underlying9 (fun j hj => by
        rw [Lib.row_is_numeral hF j hj, Lib.add_plain, World.cell?_drewN]
        exact cell?_putRow (fun (b : UInt8) => Value.int .u8 (b.toNat : Int)) _ w.heap.size 0 _ dk HH0.out (by rw [hF.size, Array.size_replicate]) j (by rw [hF.size]; rw [Lib.decDigits_length] at hj; exact hj))
      rw [Lib.decDigits_length] at h
      exact h
    have HB1 := Lib.hid (bel_putRow (enc := fun (b : UInt8) => Value.int .u8 (b.toNat : Int)) (off := 0) (d := dk) ((Below.refl w.heap.size w).alloc (Nat.le_refl _) (.cells Lib.zeros24 97)) (Nat.le_refl _))
    clear HF HT hF
    go_wp2
    go_ret
    exact ⟨_, rfl, rfl, ⟨HB1.out.os, HB1.out.tape, HB1.out.output, HB1.out.size, HB1.out.block⟩⟩
theorem fmtU_c (u : Nat) (hu : u < 18446744073709551616) (w : World) (htab : Lib.TabIs Tryd.prog w "internal/strconv.uint64pow10" .u64 Lib.pow10Tab) :
    Calls Tryd.prog 40 #[.int .u64 u, .int .i64 10] w (Ret w (· = .string ⟨(Lib.decDigits u).toArray⟩)) := by
  have HT := Lib.hid htab
  clear htab
  go_enter Tryd.func40, Tryd.ntmps40
  go_wp2_with fail
  refine (fmtIn_c u hu _ HT.out).mono ?_
  rintro e w1 ⟨_, rfl, rfl, hb⟩
  go_wp2
  go_ret
  exact ⟨_, rfl, rfl, hb⟩
end Go.Proofs.YtkaflkofffgndaaDoor

namespace Go.Proofs.YtkaflkofffgndaaDoor
open Go.RowKit

theorem bytes_app (a b : List UInt8) : (⟨a.toArray⟩ ++ ⟨b.toArray⟩ : ByteArray) = ⟨(a ++ b).toArray⟩ := by
  apply ByteArray.ext
  simp
/-- l with zeros ahead, up to m bytes. -/
def padL (l : List UInt8) (m : Int) : List UInt8 := Lib.repeatL [48] (m - l.length).toNat ++ l
set_option maxHeartbeats 800000 in
theorem padded_c (l : List UInt8) (m : Int) (w : World) (hl : l.length ≤ 1000) (h0 : -1000 ≤ m) (h1 : m ≤ 1000) :
    Calls Tryd.prog 41 #[.string ⟨l.toArray⟩, .int .i64 m] w (Ret w (· = .string ⟨(padL l m).toArray⟩)) := by
  have e : max (m - (l.length : Int)) 0 = (((m - l.length).toNat : Nat) : Int) := by omega
  have hk : (m - (l.length : Int)).toNat ≤ 2000 := by omega
  unfold padL
  generalize (m - (l.length : Int)).toNat = k at *
  have E := Lib.hid e
  clear e
  have hrl : (Lib.repeatL [48] k).length = k := by rw [Lib.repeatL_length]; simp
  have hlen : ¬ 9223372036854775807 < (Lib.repeatL [48] k).length + l.length := by omega
  clear hrl
  go_enter Tryd.func41, Tryd.ntmps41
  go_wp2_with fail
  rw [E.out]
  refine (Tryd.strings_Repeat ⟨#[48]⟩ k _ (by omega) (by show 1 * k ≤ _; omega)).mono ?_
  rintro e w1 ⟨rfl, hb⟩
  go_wp2
  go_ret
  exact ⟨_, rfl, congrArg (fun x : ByteArray => Ending.returned (.string x)) (bytes_app _ _), hb⟩
/-- A digit? -/
def isDig (c : UInt8) : Bool := decide (48 ≤ c.toNat ∧ c.toNat ≤ 57)
def digB (l : List UInt8) (most : Int) : Bool := decide (1 ≤ l.length ∧ (l.length : Int) ≤ most) && l.all isDig
theorem take_dig {l : List UInt8} (h : l.all isDig = true) (i : Nat) (hi : i < l.length) : 48 ≤ l[i].toNat ∧ l[i].toNat ≤ 57 := by
  have := List.all_eq_true.1 h l[i] (List.getElem_mem hi)
  simpa [isDig] using this
set_option maxHeartbeats 800000 in
theorem digits_yes (l : List UInt8) (most : Int) (w : World) (hl : 1 ≤ l.length) (hm : (l.length : Int) ≤ most) (hb : l.length ≤ 1000) (hd : l.all isDig = true) :
    Calls Tryd.prog 24 #[.string ⟨l.toArray⟩, .int .i64 most] w fun e w' => e = .returned (.bool true) ∧ w = w' := by
  have g1 : decide ((l.length : Int) < 1) = false := by simp; omega
  have g2 : decide (most < (l.length : Int)) = false := by simp; omega
  have HD := Lib.hid (take_dig hd)
  clear hd
  go_enter Tryd.func24, Tryd.ntmps24
  go_wp2
  go_loop [17] (fun s => ∃ k : Nat, k ≤ l.length ∧ s = .int .i64 k) (fun s => l.length - (intOf s).toNat)
  case atStart => exact ⟨0, Nat.zero_le _, rfl⟩
  case round =>
    obtain ⟨k, hk, rfl⟩ := hrel
    by_cases hlt : k < l.length
    · go_wp2
      all_goals first
        | exact ⟨⟨k + 1, by omega, by go_num⟩, by simp [intOf]; omega⟩
        | (exfalso
           have hc : 48 ≤ ((⟨l.toArray⟩ : ByteArray)[k]'hlt).toNat ∧ ((⟨l.toArray⟩ : ByteArray)[k]'hlt).toNat ≤ 57 := HD.out k hlt
           omega)
    · go_wp2
      go_ret
      exact ⟨rfl, rfl⟩
end Go.Proofs.YtkaflkofffgndaaDoor

namespace Go.Proofs.YtkaflkofffgndaaDoor
open Go.RowKit

/-- The number that digits tell. -/
def numL (l : List UInt8) : Nat := l.foldl (fun n c => n * 10 + (c.toNat - 48)) 0
theorem numL_snoc (l : List UInt8) (c : UInt8) : numL (l ++ [c]) = numL l * 10 + (c.toNat - 48) := by simp [numL]
theorem numL_take (l : List UInt8) (k : Nat) (hk : k < l.length) : numL (l.take (k + 1)) = numL (l.take k) * 10 + (l[k].toNat - 48) := by
  rw [List.take_succ_eq_append_getElem hk, numL_snoc]
theorem numL_mono (l : List UInt8) : ∀ d k, k + d = l.length → numL (l.take k) ≤ numL l
  | 0, k, h => by rw [List.take_of_length_le (by omega)]; exact Nat.le_refl _
  | d + 1, k, h => by
    have h1 := numL_mono l d (k + 1) (by omega)
    rw [numL_take l k (by omega)] at h1
    omega
theorem numL_le (l : List UInt8) (k : Nat) (hk : k ≤ l.length) : numL (l.take k) ≤ numL l := numL_mono l (l.length - k) k (by omega)
theorem u8_wrap {n : Nat} (h : 48 ≤ n) (h' : n ≤ 57) : IntKind.u8.wrap ((n : Int) - 48) = ((n - 48 : Nat) : Int) := by
  rw [IntKind.wrap_u8]
  omega
theorem ten_v2 : v2 10 0 = 10 := by simp [v2]
theorem num_step {s0 s1 t0 t1 : Int} {q : Bool} {M d : Nat} (e1 : v2 s0 s1 = M * 10) (hM : M * 10 + d < 1000000000000000000000000000000) (ha : AddR s0 s1 d 0 t0 t1 q) : U64 t0 ∧ U64 t1 ∧ v2 t0 t1 = M * 10 + d := by
  have e2 : v2 (d : Int) 0 = d := by simp [v2]
  obtain ⟨a, b, ⟨_, _, f⟩ | ⟨hl, _⟩⟩ := ha
  · exact ⟨a, b, by rw [f, e1, e2]⟩
  · rw [e1, e2] at hl; omega
theorem short_u {x y c0 c1 c2 c3 s0 s1 : Int} {p : Bool} {M : Nat} (e : v2 x y = M) (hM : M < 1000000000000000000000000000000) (hm : MulR x y 10 0 c0 c1 c2 c3) (hs : ShortR c0 c1 c2 c3 s0 s1 p) : U64 s0 ∧ U64 s1 ∧ v2 s0 s1 = M * 10 := by
  obtain ⟨_, a, b, f⟩ := mul_short hm hs (by rw [e, ten_v2]; omega)
  exact ⟨a, b, by rw [f, e, ten_v2]⟩
theorem n0 (w : World) : HB w [(w.heap.size + 1 + 1, 25, #[.int .u64 0, .int .u64 0]), (w.heap.size, 25, #[.int .u64 0, .int .u64 0])] (((w.alloc (.cells #[.int .u64 0, .int .u64 0] 25)).alloc (.cells #[.int .u64 0, .int .u64 0] 25)).alloc (.cells #[.int .u64 0, .int .u64 0] 25)) := by
  have h := HB.sub (bs' := [(w.heap.size + 1 + 1, 25, #[.int .u64 0, .int .u64 0]), (w.heap.size, 25, #[.int .u64 0, .int .u64 0])]) ((((HB.start (Below.refl _ w)).push #[.int .u64 0, .int .u64 0] 25).push #[.int .u64 0, .int .u64 0] 25).push #[.int .u64 0, .int .u64 0] 25) (by simp)
  exact h

set_option maxRecDepth 100000 in
set_option maxHeartbeats 3200000 in
theorem number_ok (l : List UInt8) (w : World) (hb : l.length ≤ 1000) (hd : l.all isDig = true) (hN : numL l < 1000000000000000000000000000000) :
    Calls Tryd.prog 25 #[.string ⟨l.toArray⟩] w (Ret w (IsUp (numL l))) := by
  have HD := Lib.hid (take_dig hd)
  have W0 := Lib.hid (n0 w)
  have HN := Lib.hid hN
  have hle : w.heap.size ≤ w.heap.size + 1 + 1 := by omega
  clear hd hN
  go_enter Tryd.func25, Tryd.ntmps25
  go_wp2_with fail
  refine (of_x 0 _).mono ?_
  rintro e w1 ⟨rfl, rfl⟩
  go_wp2_with fail
  go_loopw [9] (fun s wr => ∃ (k : Nat) (x y : Int), k ≤ l.length ∧ s = .int .i64 k ∧ (U64 x ∧ U64 y ∧ v2 x y = numL (l.take k)) ∧ HB w [(w.heap.size + 1 + 1, 25, #[.int .u64 x, .int .u64 y]), (w.heap.size, 25, #[.int .u64 0, .int .u64 0])] wr) (fun s _ => l.length - (intOf s).toNat)
  case atStart => exact ⟨0, 0, 0, Nat.zero_le _, rfl, ⟨u64_0, u64_0, rfl⟩, W0.out⟩
  case round =>
    clear W0
    obtain ⟨k, x, y, hk, rfl, ⟨hx, hy, ex⟩, W⟩ := hrel
    have EX := Lib.hid ex
    clear ex
    by_cases hlt : k < l.length
    · have hc := HD.out k hlt
      have hNt := numL_take l k hlt
      have hNl := numL_le l (k + 1) hlt
      obtain ⟨d, hdd⟩ : ∃ d, l[k].toNat - 48 = d := ⟨_, rfl⟩
      have hwr : IntKind.u8.wrap ((((⟨l.toArray⟩ : ByteArray)[k]'hlt).toNat : Int) - 48) = (d : Int) := by
        have := u8_wrap hc.1 hc.2
        rw [hdd] at this
        exact this
      have hd9 : d ≤ 9 := by omega
      have ud : U64 (d : Int) := by unfold U64; omega
      have hwr2 : IntKind.u64.wrap (d : Int) = (d : Int) := by rw [IntKind.wrap_u64]; omega
      rw [hdd] at hNt
      have hM : numL (l.take k) * 10 + d < 1000000000000000000000000000000 := by have := HN.out; omega
      have HM := Lib.hid hM
      have HNT := Lib.hid hNt
      clear hNt hNl hM hc hdd
      have B4 := W.blk (g := w.heap.size + 1 + 1) (t := 25) (cs := #[.int .u64 x, .int .u64 y]) (by simp)
      have B0 := W.blk (g := w.heap.size) (t := 25) (cs := #[.int .u64 0, .int .u64 0]) (by simp)
      have HW := W.1
      have c0 := B4.cell 0
      have c1 := B4.cell 1
      simp at c0 c1
      go_upto_region 5 with fail
      go_cut [12] (fun _ wx => ∃ s0 s1 : Int, (U64 s0 ∧ U64 s1 ∧ v2 s0 s1 = numL (l.take k) * 10) ∧ HB w [(w.heap.size + 1 + 1, 25, #[.int .u64 s0, .int .u64 s1]), (w.heap.size, 25, #[.int .u64 0, .int .u64 0])] wx)
      case first => as_aux_lemma =>
        go_region_with (first
            | (go_at_call 12; refine (of_x 10 _).mono ?_; rintro e w1 ⟨rfl, rfl⟩; have hz := B4.lt)
            | (go_at_call 17; refine (mul_c x y 10 0 _ hx hy u64_10 u64_0).mono ?_; rintro e w2 ⟨_, ⟨m0, m1, m2, m3, HMu, rfl⟩, rfl, hb2⟩)
            | (go_at_call 16; refine (short_c _ _ _ _ _).mono ?_; rintro e w3 ⟨_, ⟨s0, s1, p, HS, rfl⟩, rfl, hb3⟩; have BB := (((B4.alloc _).drew).below hb2 (by have := B4.lt; simp; omega)).below hb3 (by have := hb2.size; have := B4.lt; simp at *; omega); have d0 := BB.cell 0; have d1 := BB.cell 1; have f0 := BB.frozen 0; have f1 := BB.frozen 1; simp at d0 d1))
        all_goals
          have BZ := ((B0.alloc (.cells #[.int .u64 10, .int .u64 0] 25)).drew.below hb2 (by have := B0.lt; simp; omega)).below hb3 (by have := hb2.size; have := B0.lt; simp at *; omega)
          have HZ := (((HW.alloc HW.size (.cells #[.int .u64 10, .int .u64 0] 25)).drew).trans (hb2.mono (by have := HW.size; simp; omega))).trans (hb3.mono (by have := hb2.size; have := HW.size; simp at *; omega))
          have hsu := short_u EX.out (by have := HM.out; omega) HMu HS
          have W3 : HB w [(w.heap.size + 1 + 1, 25, #[.int .u64 x, .int .u64 y]), (w.heap.size, 25, #[.int .u64 0, .int .u64 0])] w3 := ⟨HZ, by simp; exact ⟨BB, BZ⟩⟩
          have W4 := Lib.hid (HB.put2 (g := w.heap.size + 1 + 1) (t := 25) (a := .int .u64 x) (b := .int .u64 y) (a' := .int .u64 s0) (b' := .int .u64 s1) (bs' := [(w.heap.size, 25, #[.int .u64 0, .int .u64 0])]) W3 (by simp) hle (by simp; omega))
          clear W3 BZ HZ
          go_wp2_with fail
          go_meet
          case rel => exact ⟨s0, s1, hsu, W4.out⟩
      case rest => as_aux_lemma =>
        clear W B4 B0 HW c0 c1 hx hy EX
        obtain ⟨s0, s1, ⟨hs0, hs1, es⟩, W⟩ := hcut
        have ES := Lib.hid es
        clear es
        have B4 := W.blk (g := w.heap.size + 1 + 1) (t := 25) (cs := #[.int .u64 s0, .int .u64 s1]) (by simp)
        have B0 := W.blk (g := w.heap.size) (t := 25) (cs := #[.int .u64 0, .int .u64 0]) (by simp)
        have HW := W.1
        have c0 := B4.cell 0
        have c1 := B4.cell 1
        simp at c0 c1
        go_upto_region 6 with fail
        go_cut [19] (fun _ wx => ∃ t0 t1 : Int, (U64 t0 ∧ U64 t1 ∧ v2 t0 t1 = numL (l.take k) * 10 + d) ∧ HB w [(w.heap.size + 1 + 1, 25, #[.int .u64 t0, .int .u64 t1]), (w.heap.size, 25, #[.int .u64 0, .int .u64 0])] wx)
        case first => as_aux_lemma =>
          go_region_with (first
              | (go_at_call 12; refine (of_x (d : Int) _).mono ?_; rintro e w1 ⟨rfl, rfl⟩; have hz := B4.lt)
              | (go_at_call 33; refine (add_c s0 s1 (d : Int) 0 _ hs0 hs1 ud u64_0).mono ?_; rintro e w3 ⟨_, ⟨t0, t1, p, HA, rfl⟩, rfl, hb3⟩; have BB := ((B4.alloc _).drew).below hb3 (by have := B4.lt; simp; omega); have d0 := BB.cell 0; have d1 := BB.cell 1; have f0 := BB.frozen 0; have f1 := BB.frozen 1; simp at d0 d1))
          all_goals
            have BZ := (B0.alloc (.cells #[.int .u64 (d : Int), .int .u64 0] 25)).drew.below hb3 (by have := B0.lt; simp; omega)
            have HZ := ((HW.alloc HW.size (.cells #[.int .u64 (d : Int), .int .u64 0] 25)).drew).trans (hb3.mono (by have := HW.size; simp; omega))
            have hsu := num_step ES.out HM.out HA
            have W3 : HB w [(w.heap.size + 1 + 1, 25, #[.int .u64 s0, .int .u64 s1]), (w.heap.size, 25, #[.int .u64 0, .int .u64 0])] w3 := ⟨HZ, by simp; exact ⟨BB, BZ⟩⟩
            have W4 := Lib.hid (HB.put2 (g := w.heap.size + 1 + 1) (t := 25) (a := .int .u64 s0) (b := .int .u64 s1) (a' := .int .u64 t0) (b' := .int .u64 t1) (bs' := [(w.heap.size, 25, #[.int .u64 0, .int .u64 0])]) W3 (by simp) hle (by simp; omega))
            clear W3 BZ HZ
            go_wp2_with fail
            go_meet
            case rel => exact ⟨t0, t1, hsu, W4.out⟩
        case rest => as_aux_lemma =>
          clear W B4 B0 HW c0 c1 hs0 hs1 ES hwr hwr2
          obtain ⟨t0, t1, ⟨ht0, ht1, et⟩, W⟩ := hcut
          have hf : fitB t0 t1 = true := by unfold fitB; rw [et]; simp [HM.out]
          have ET := Lib.hid (et.trans HNT.out.symm)
          obtain ⟨lq, q0, q1⟩ := HB.two (t := 25) (g := w.heap.size + 1 + 1) (a := .int .u64 t0) (b := .int .u64 t1) W (by simp)
          have C := fits_c t0 t1 wc ht0 ht1
          rw [hf] at C
          have HC := Lib.hid C
          clear et hf C
          go_wp2_with fail
          refine HC.out.mono ?_
          rintro e w5 ⟨_, rfl, rfl, hb5⟩
          have W5 := Lib.hid (W.below hb5)
          clear HC hb5 W q0 q1 lq
          go_wp2
          go_roundw
          case rel => exact ⟨k + 1, t0, t1, by omega, by go_num, ⟨ht0, ht1, ET.out⟩, W5.out⟩
          case measure => simp [intOf]; omega
    · obtain rfl : k = l.length := by omega
      have ex := EX.out
      rw [List.take_length] at ex
      have EXL := Lib.hid ex
      obtain ⟨lq, q0, q1⟩ := HB.two (t := 25) (g := w.heap.size + 1 + 1) (a := .int .u64 x) (b := .int .u64 y) W (by simp)
      obtain ⟨lp, p0, p1⟩ := HB.two (t := 25) (g := w.heap.size) (a := .int .u64 0) (b := .int .u64 0) W (by simp)
      have B0 := W.blk (g := w.heap.size) (t := 25) (cs := #[.int .u64 0, .int .u64 0]) (by simp)
      have f0 := B0.frozen 0
      have f1 := B0.frozen 1
      have HB1 := Lib.hid W.1
      clear W B0 ex EX
      go_wp2
      exact bodyPost_ret (v := .tuple #[.agg #[.int .u64 x, .int .u64 y], .bool true]) (by simp [results, Tryd.results25, go_sem, p0, p1]) rfl ⟨_, ⟨_, _, ⟨hx, hy, EXL.out⟩, rfl⟩, rfl, bel2 HB1.out (Nat.le_refl _)⟩
end Go.Proofs.YtkaflkofffgndaaDoor

namespace Go.Proofs.YtkaflkofffgndaaDoor
open Go.RowKit

set_option maxHeartbeats 400000 in
theorem wide_x (a b : Int) (w : World) : Calls Tryd.prog 39 #[.agg #[.int .u64 a, .int .u64 b]] w fun e w' => e = .returned (.agg #[.int .u64 a, .int .u64 b, .int .u64 0, .int .u64 0]) ∧ (w.alloc (.cells #[.int .u64 a, .int .u64 b] 25)).alloc (.cells #[.int .u64 a, .int .u64 b, .int .u64 0, .int .u64 0] 44) = w' := by
  go_enter Tryd.func39, Tryd.ntmps39
  go_wp2
  exact bodyPost_ret (v := .agg #[.int .u64 a, .int .u64 b, .int .u64 0, .int .u64 0]) (by simp [results, Tryd.results39, go_sem]) rfl ⟨rfl, rfl⟩
theorem cutp {P Q : Prop} (hp : P) (h : P → Q) : Q := h hp
theorem Blk.set4 {w : World} {g : Nat} {t : TypeId} {a b c d a' b' c' d' : Value} (h : Blk w g t #[a, b, c, d]) : Blk ((((w.setCell ⟨g, 0, none⟩ a').setCell ⟨g, 1, none⟩ b').setCell ⟨g, 2, none⟩ c').setCell ⟨g, 3, none⟩ d') g t #[a', b', c', d'] :=
  (((h.set_ 0 a').set_ 1 b').set_ 2 c').set_ 3 d'
theorem Blk.set2 {w : World} {g : Nat} {t : TypeId} {a b a' b' : Value} (h : Blk w g t #[a, b]) : Blk ((w.setCell ⟨g, 0, none⟩ a').setCell ⟨g, 1, none⟩ b') g t #[a', b'] := (h.set_ 0 a').set_ 1 b'
theorem fMk {w0 w : World} {g h : Nat} {x0 x1 c0 c1 : Int} (H : HB w0 [(h, 25, #[.int .u64 x0, .int .u64 x1]), (g, 25, #[.int .u64 c0, .int .u64 c1])] w) : HB w0 [(h, 25, #[.int .u64 x0, .int .u64 x1]), (g, 25, #[.int .u64 c0, .int .u64 c1])] w ∧ (w.cell? ⟨h, 0, none⟩ = some (.int .u64 x0) ∧ w.cell? ⟨h, 1, none⟩ = some (.int .u64 x1)) ∧ (w.cell? ⟨g, 0, none⟩ = some (.int .u64 c0) ∧ w.cell? ⟨g, 1, none⟩ = some (.int .u64 c1)) :=
  ⟨H, (HB.two (t := 25) H (by simp)).2, (HB.two (t := 25) H (by simp)).2⟩

def figL (N : Nat) (m : Int) : List UInt8 := padL (Lib.trimLeftB (Lib.decDigits (N / 1000000000000000) ++ padL (Lib.decDigits (N % 1000000000000000)) 15) 48) m
theorem padL_length (l : List UInt8) (m : Int) : (padL l m).length = (m - l.length).toNat + l.length := by
  unfold padL; rw [List.length_append, Lib.repeatL_length]; simp
theorem trimLeftB_le (l : List UInt8) (c : UInt8) : (Lib.trimLeftB l c).length ≤ l.length := by
  unfold Lib.trimLeftB; exact (List.dropWhile_sublist _).length_le
theorem fig_halves {c0 c1 x0 x1 d0 d1 d2 d3 r0 r1 : Int} {ok : Bool} {N : Nat} (hN : v2 c0 c1 = N) (hb : N < 1000000000000000000000000000000) (ex : v2 x0 x1 = 1000000000000000) (HD : DivR c0 c1 0 0 x0 x1 d0 d1 d2 d3 r0 r1 ok) :
    d0 = ((N / 1000000000000000 : Nat) : Int) ∧ r0 = ((N % 1000000000000000 : Nat) : Int) := by
  rcases HD with ⟨h, _⟩ | ⟨_, _, u0, u1, u2, u3, u4, u5, e1, e2⟩
  · omega
  · have e : v4 c0 c1 0 0 = N := by unfold v4; rw [hN]; simp [v2]
    rw [e, ex] at e1 e2
    have q : N / 1000000000000000 < 1000000000000000 := by omega
    have q2 : N % 1000000000000000 < 1000000000000000 := by omega
    generalize N / 1000000000000000 = A at *
    generalize N % 1000000000000000 = B at *
    unfold v4 v2 at e1
    unfold v2 at e2
    unfold U64 at *
    constructor
    · have z : v2 d2 d3 = 0 := by unfold v2; omega
      omega
    · omega
theorem gMk {w0 w : World} {g h : Nat} {d0 d1 d2 d3 r0 r1 : Int} (H : HB w0 [(g, 44, #[.int .u64 d0, .int .u64 d1, .int .u64 d2, .int .u64 d3]), (h, 25, #[.int .u64 r0, .int .u64 r1])] w) : HB w0 [(g, 44, #[.int .u64 d0, .int .u64 d1, .int .u64 d2, .int .u64 d3]), (h, 25, #[.int .u64 r0, .int .u64 r1])] w ∧ w.cell? ⟨g, 0, none⟩ = some (.int .u64 d0) ∧ w.cell? ⟨h, 0, none⟩ = some (.int .u64 r0) :=
  ⟨H, (HB.blk H (g := g) (t := 44) (cs := #[.int .u64 d0, .int .u64 d1, .int .u64 d2, .int .u64 d3]) (by simp)).cell 0, (HB.blk H (g := h) (t := 25) (cs := #[.int .u64 r0, .int .u64 r1]) (by simp)).cell 0⟩
theorem nDig_pow : ∀ (k u : Nat), u < 10 ^ (k + 1) → Lib.nDigits u ≤ k + 1
  | 0, u, h => by rw [Lib.nDigits_small (by simpa using h)]; omega
  | k + 1, u, h => by
    by_cases h' : u < 10
    · rw [Lib.nDigits_small h']; omega
    · rw [Lib.nDigits_big h']
      have := nDig_pow k (u / 10) (by rw [Nat.pow_succ] at h; omega)
      omega
theorem nDig_le (u : Nat) (h : u < 18446744073709551616) : Lib.nDigits u ≤ 20 := nDig_pow 19 u (Nat.lt_of_lt_of_le h (by decide))
theorem figL_at {N hi lo : Nat} {m : Int} (h : N / 1000000000000000 = hi) (h' : N % 1000000000000000 = lo) : figL N m = padL (Lib.trimLeftB (⟨(Lib.decDigits hi).toArray⟩ ++ ⟨(padL (Lib.decDigits lo) 15).toArray⟩ : ByteArray).data.toList 48) m := by
  rw [bytes_app]; subst h h'; rfl

set_option maxRecDepth 100000 in
set_option maxHeartbeats 3200000 in
theorem figures_c (c0 c1 least : Int) (w : World) (h0 : U64 c0) (h1 : U64 c1) (N : Nat) (hN : v2 c0 c1 = N) (hb : N < 1000000000000000000000000000000) (hm0 : -1000 ≤ least) (hm1 : least ≤ 1000) (htab : Lib.TabIs Tryd.prog w "internal/strconv.uint64pow10" .u64 Lib.pow10Tab) :
    Calls Tryd.prog 27 #[.agg #[.int .u64 c0, .int .u64 c1], .int .i64 least] w (Ret w (· = .string ⟨(figL N least).toArray⟩)) := by
  have HN := Lib.hid (And.intro hN hb)
  have HT := Lib.hid htab
  clear hN hb htab
  have W : HB w [(w.heap.size, 25, #[.int .u64 c0, .int .u64 c1])] (w.alloc (.cells #[.int .u64 c0, .int .u64 c1] 25)) := (HB.start (Below.refl _ w)).push #[.int .u64 c0, .int .u64 c1] 25
  go_enter Tryd.func27, Tryd.ntmps27
  go_wp2_with fail
  refine (ten_c 15 _).mono ?_
  rintro e w1 ⟨_, ⟨x0, x1, p, HX, rfl⟩, rfl, hb⟩
  obtain ⟨hx0, hx1, ex⟩ : U64 x0 ∧ U64 x1 ∧ v2 x0 x1 = 1000000000000000 := by
    obtain ⟨a, b, ⟨_, _, _, e⟩ | ⟨hn, _⟩⟩ := HX
    · exact ⟨a, b, e⟩
    · omega
  have EX := Lib.hid ex
  replace W := W.below hb
  have lq := (HB.two (t := 25) (g := w.heap.size) (a := .int .u64 c0) (b := .int .u64 c1) W (by simp)).1
  replace W := W.push #[.int .u64 x0, .int .u64 x1] 25
  clear hb HX ex
  go_upto_region 2 with fail
  go_cut [7, 8] (fun s t wx => ∃ (gq gr : Nat) (d0 d1 d2 d3 r0 r1 : Int) (ok : Bool), s = .pointer (some ⟨gq, 0, none⟩) ∧ t = .pointer (some ⟨gr, 0, none⟩) ∧ DivR c0 c1 0 0 x0 x1 d0 d1 d2 d3 r0 r1 ok ∧ HB w [(gq, 44, #[.int .u64 d0, .int .u64 d1, .int .u64 d2, .int .u64 d3]), (gr, 25, #[.int .u64 r0, .int .u64 r1])] wx)
  case first =>
    go_region_held3 (fun w' => HB w [(w1.heap.size, 25, #[.int .u64 x0, .int .u64 x1]), (w.heap.size, 25, #[.int .u64 c0, .int .u64 c1])] w' ∧ (w'.cell? ⟨w1.heap.size, 0, none⟩ = some (.int .u64 x0) ∧ w'.cell? ⟨w1.heap.size, 1, none⟩ = some (.int .u64 x1)) ∧ (w'.cell? ⟨w.heap.size, 0, none⟩ = some (.int .u64 c0) ∧ w'.cell? ⟨w.heap.size, 1, none⟩ = some (.int .u64 c1)))
      ((refine fMk ?_; repeat (first | (with_reducible exact HWx) | (with_reducible exact W) | (with_reducible refine HB.drew ?_) | (with_reducible refine HB.alloc ?_ _) | ((with_reducible refine HB.set_ ?_ ?_ ?_ _); rotate_left; (focus (simp; omega)); (focus (simp; omega))))))
      (first
        | (go_at_call 39; (with_reducible refine (wide_x c0 c1 _).mono ?_); rintro e wx ⟨rfl, rfl⟩)
        | (go_at_call 32; (with_reducible refine (div_c c0 c1 0 0 x0 x1 _ h0 h1 u64_0 u64_0 hx0 hx1).mono ?_); rintro e wx ⟨_, ⟨d0, d1, d2, d3, r0, r1, ok, HD, rfl⟩, rfl, hbx⟩; have HWx := keepB hbx (by assumption); have HBx := HB.bel HWx; have hszx := hbx.size; (try simp at hszx); (try ((refine cutp (P := Blk wx (w1.heap.size + 1) 44 #[.int .u64 0, .int .u64 0, .int .u64 0, .int .u64 0]) ?_ ?_); (focus ((refine Blk.below ?_ hbx ?_); (focus ((repeat (first | ((with_reducible refine Blk.new_at ?_); (simp; done)) | (with_reducible refine Blk.drew ?_) | (with_reducible refine Blk.alloc ?_ _))); done)); (first | (simp; done) | (simp; omega)))); intro A1; have l1 := A1.lt; have a10 := A1.cell 0; have a11 := A1.cell 1; have a12 := A1.cell 2; have a13 := A1.cell 3; have b10 := A1.frozen 0; have b11 := A1.frozen 1; have b12 := A1.frozen 2; have b13 := A1.frozen 3; simp at a10 a11 a12 a13)); (try ((refine cutp (P := Blk wx (w1.heap.size + 1) 25 #[.int .u64 0, .int .u64 0]) ?_ ?_); (focus ((refine Blk.below ?_ hbx ?_); (focus ((repeat (first | ((with_reducible refine Blk.new_at ?_); (simp; done)) | (with_reducible refine Blk.drew ?_) | (with_reducible refine Blk.alloc ?_ _))); done)); (first | (simp; done) | (simp; omega)))); intro C1; have m1 := C1.lt; have e10 := C1.cell 0; have e11 := C1.cell 1; have f10 := C1.frozen 0; have f11 := C1.frozen 1; simp at e10 e11)); (try ((refine cutp (P := Blk wx (w1.heap.size + 1 + 1) 44 #[.int .u64 0, .int .u64 0, .int .u64 0, .int .u64 0]) ?_ ?_); (focus ((refine Blk.below ?_ hbx ?_); (focus ((repeat (first | ((with_reducible refine Blk.new_at ?_); (simp; done)) | (with_reducible refine Blk.drew ?_) | (with_reducible refine Blk.alloc ?_ _))); done)); (first | (simp; done) | (simp; omega)))); intro A2; have l2 := A2.lt; have a20 := A2.cell 0; have a21 := A2.cell 1; have a22 := A2.cell 2; have a23 := A2.cell 3; have b20 := A2.frozen 0; have b21 := A2.frozen 1; have b22 := A2.frozen 2; have b23 := A2.frozen 3; simp at a20 a21 a22 a23)); (try ((refine cutp (P := Blk wx (w1.heap.size + 1 + 1) 25 #[.int .u64 0, .int .u64 0]) ?_ ?_); (focus ((refine Blk.below ?_ hbx ?_); (focus ((repeat (first | ((with_reducible refine Blk.new_at ?_); (simp; done)) | (with_reducible refine Blk.drew ?_) | (with_reducible refine Blk.alloc ?_ _))); done)); (first | (simp; done) | (simp; omega)))); intro C2; have m2 := C2.lt; have e20 := C2.cell 0; have e21 := C2.cell 1; have f20 := C2.frozen 0; have f21 := C2.frozen 1; simp at e20 e21)); (try ((refine cutp (P := Blk wx (w1.heap.size + 1 + 1 + 1) 44 #[.int .u64 0, .int .u64 0, .int .u64 0, .int .u64 0]) ?_ ?_); (focus ((refine Blk.below ?_ hbx ?_); (focus ((repeat (first | ((with_reducible refine Blk.new_at ?_); (simp; done)) | (with_reducible refine Blk.drew ?_) | (with_reducible refine Blk.alloc ?_ _))); done)); (first | (simp; done) | (simp; omega)))); intro A3; have l3 := A3.lt; have a30 := A3.cell 0; have a31 := A3.cell 1; have a32 := A3.cell 2; have a33 := A3.cell 3; have b30 := A3.frozen 0; have b31 := A3.frozen 1; have b32 := A3.frozen 2; have b33 := A3.frozen 3; simp at a30 a31 a32 a33)); (try ((refine cutp (P := Blk wx (w1.heap.size + 1 + 1 + 1) 25 #[.int .u64 0, .int .u64 0]) ?_ ?_); (focus ((refine Blk.below ?_ hbx ?_); (focus ((repeat (first | ((with_reducible refine Blk.new_at ?_); (simp; done)) | (with_reducible refine Blk.drew ?_) | (with_reducible refine Blk.alloc ?_ _))); done)); (first | (simp; done) | (simp; omega)))); intro C3; have m3 := C3.lt; have e30 := C3.cell 0; have e31 := C3.cell 1; have f30 := C3.frozen 0; have f31 := C3.frozen 1; simp at e30 e31)); (try ((refine cutp (P := Blk wx (w1.heap.size + 1 + 1 + 1 + 1) 44 #[.int .u64 0, .int .u64 0, .int .u64 0, .int .u64 0]) ?_ ?_); (focus ((refine Blk.below ?_ hbx ?_); (focus ((repeat (first | ((with_reducible refine Blk.new_at ?_); (simp; done)) | (with_reducible refine Blk.drew ?_) | (with_reducible refine Blk.alloc ?_ _))); done)); (first | (simp; done) | (simp; omega)))); intro A4; have l4 := A4.lt; have a40 := A4.cell 0; have a41 := A4.cell 1; have a42 := A4.cell 2; have a43 := A4.cell 3; have b40 := A4.frozen 0; have b41 := A4.frozen 1; have b42 := A4.frozen 2; have b43 := A4.frozen 3; simp at a40 a41 a42 a43)); (try ((refine cutp (P := Blk wx (w1.heap.size + 1 + 1 + 1 + 1) 25 #[.int .u64 0, .int .u64 0]) ?_ ?_); (focus ((refine Blk.below ?_ hbx ?_); (focus ((repeat (first | ((with_reducible refine Blk.new_at ?_); (simp; done)) | (with_reducible refine Blk.drew ?_) | (with_reducible refine Blk.alloc ?_ _))); done)); (first | (simp; done) | (simp; omega)))); intro C4; have m4 := C4.lt; have e40 := C4.cell 0; have e41 := C4.cell 1; have f40 := C4.frozen 0; have f41 := C4.frozen 1; simp at e40 e41))))
    all_goals
      go_wp2_with fail
      go_meet
      case rel =>
        refine ⟨_, _, d0, d1, d2, d3, r0, r1, ok, rfl, rfl, HD, ?_, ?_⟩
        · repeat (first | (with_reducible exact HBx) | (with_reducible refine bel_alloc ?_ _) | ((with_reducible refine Below.setCell ?_ ?_ _); rotate_left; (focus (simp; omega))))
        · intro b hb
          simp only [List.mem_cons, List.not_mem_nil, or_false] at hb
          rcases hb with rfl | rfl
          · dsimp only
            repeat (first | ((with_reducible refine Blk.new_at ?_); (simp; done)) | (with_reducible refine Blk.alloc ?_ _) | (with_reducible exact Blk.set4 A1) | (with_reducible exact Blk.set4 A2) | (with_reducible exact Blk.set4 A3) | (with_reducible exact Blk.set4 A4) | (with_reducible assumption) | (with_reducible refine Blk.set4 (a := .int .u64 0) (b := .int .u64 0) (c := .int .u64 0) (d := .int .u64 0) ?_) | (refine Blk.far (p := ⟨_, _, none⟩) ?_ (by first | (simp; done) | (simp; omega)) _))
          · dsimp only
            repeat (first | ((with_reducible refine Blk.new_at ?_); (simp; done)) | (with_reducible refine Blk.alloc ?_ _) | (with_reducible exact Blk.set2 C1) | (with_reducible exact Blk.set2 C2) | (with_reducible exact Blk.set2 C3) | (with_reducible exact Blk.set2 C4) | (with_reducible assumption) | (with_reducible refine Blk.set2 (a := .int .u64 0) (b := .int .u64 0) ?_) | (refine Blk.far (p := ⟨_, _, none⟩) ?_ (by first | (simp; done) | (simp; omega)) _))
  case rest =>
    clear W
    obtain ⟨gq, gr, d0, d1, d2, d3, r0, r1, ok, rfl, rfl, HD, W⟩ := hcut
    obtain ⟨e1, e2⟩ := fig_halves HN.out.1 HN.out.2 EX.out HD
    have EF := Lib.hid (figL_at (N := N) (m := least) rfl rfl)
    have hhi : N / 1000000000000000 < 18446744073709551616 := by have := HN.out.2; omega
    have hlo : N % 1000000000000000 < 18446744073709551616 := by omega
    clear HN EX HD
    generalize N / 1000000000000000 = hi at *
    generalize N % 1000000000000000 = lo at *
    subst e1 e2
    have l1 : (Lib.decDigits hi).length ≤ 20 := by rw [Lib.decDigits_length]; exact nDig_le hi hhi
    have l2 : (Lib.decDigits lo).length ≤ 20 := by rw [Lib.decDigits_length]; exact nDig_le lo hlo
    have l3 : (padL (Lib.decDigits lo) 15).length ≤ 40 := by rw [padL_length]; omega
    have hlen : ¬ 9223372036854775807 < (Lib.decDigits hi).length + (padL (Lib.decDigits lo) 15).length := by omega
    have l4 : (Lib.trimLeftB (⟨(Lib.decDigits hi).toArray⟩ ++ ⟨(padL (Lib.decDigits lo) 15).toArray⟩ : ByteArray).data.toList 48).length ≤ 1000 := by
      refine Nat.le_trans (trimLeftB_le _ _) ?_
      rw [bytes_app]
      simp
      omega
    go_upto_region 3 with fail
    go_region_held3 (fun w' => HB w [(gq, 44, #[.int .u64 (hi : Int), .int .u64 d1, .int .u64 d2, .int .u64 d3]), (gr, 25, #[.int .u64 (lo : Int), .int .u64 r1])] w' ∧ w'.cell? ⟨gq, 0, none⟩ = some (.int .u64 (hi : Int)) ∧ w'.cell? ⟨gr, 0, none⟩ = some (.int .u64 (lo : Int)))
      ((refine gMk ?_; repeat (first | (with_reducible exact HWx) | (with_reducible exact W) | (with_reducible refine HB.drew ?_))))
      (first
        | (go_at_call 40; (first | (with_reducible refine (fmtU_c hi hhi _ (tabIs_below HT.out (belB (by assumption)))).mono ?_) | (with_reducible refine (fmtU_c lo hlo _ (tabIs_below HT.out (belB (by assumption)))).mono ?_)); rintro e wx ⟨_, rfl, rfl, hbx⟩; have HWx := keepB hbx (by assumption))
        | (go_at_call 41; (with_reducible refine (padded_c (Lib.decDigits lo) 15 _ (by omega) (by omega) (by omega)).mono ?_); rintro e wx ⟨_, rfl, rfl, hbx⟩; have HWx := keepB hbx (by assumption)))
    have HBx := HB.bel HWx
    go_wp2_with fail
    refine (Tryd.strings_TrimLeft_one _ 48 (by decide) _).mono ?_
    rintro e w2 ⟨rfl, rfl⟩
    go_wp2_with fail
    refine (padded_c _ least _ l4 hm0 hm1).mono ?_
    rintro e w3 ⟨_, rfl, rfl, hb3⟩
    go_wp2
    go_ret
    exact ⟨_, rfl, congrArg (fun l : List UInt8 => Ending.returned (.string ⟨l.toArray⟩)) EF.out.symm, HBx.trans (hb3.mono HBx.size)⟩
end Go.Proofs.YtkaflkofffgndaaDoor

namespace Go.Proofs.YtkaflkofffgndaaDoor
open Go.RowKit
theorem figL_ge (N : Nat) (m : Int) : m ≤ (figL N m).length := by
  unfold figL; rw [padL_length]; omega
theorem figL_le (N : Nat) (m : Int) (hN : N < 1000000000000000000000000000000) (hm : m ≤ 100) : (figL N m).length ≤ 200 := by
  have h1 : N / 1000000000000000 < 18446744073709551616 := by omega
  have h2 : N % 1000000000000000 < 18446744073709551616 := by omega
  have l1 : (Lib.decDigits (N / 1000000000000000)).length ≤ 20 := by rw [Lib.decDigits_length]; exact nDig_le _ h1
  have l2 : (Lib.decDigits (N % 1000000000000000)).length ≤ 20 := by rw [Lib.decDigits_length]; exact nDig_le _ h2
  have l3 := trimLeftB_le (Lib.decDigits (N / 1000000000000000) ++ padL (Lib.decDigits (N % 1000000000000000)) 15) 48
  rw [List.length_append, padL_length] at l3
  unfold figL
  rw [padL_length]
  omega
theorem ext_l (L : List UInt8) (i j : Nat) : (⟨L.toArray⟩ : ByteArray).extract i j = ⟨((L.take j).drop i).toArray⟩ := by
  apply ByteArray.ext
  simp [List.drop_take]
theorem dot_join (L : List UInt8) (a : Nat) : (⟨L.toArray⟩ : ByteArray).extract 0 a ++ ⟨#[46]⟩ ++ (⟨L.toArray⟩ : ByteArray).extract a L.length = ⟨(L.take a ++ [46] ++ L.drop a).toArray⟩ := by
  rw [ext_l, ext_l, List.take_length, List.drop_zero, ← bytes_app, ← bytes_app]
def dotL (L : List UInt8) (s : Int) : List UInt8 := if s = 0 then L else L.take (L.length - s.toNat) ++ [46] ++ L.drop (L.length - s.toNat)
def printL (n : Bool) (N : Nat) (s : Int) : List UInt8 := if n then 45 :: dotL (figL N (s + 1)) s else dotL (figL N (s + 1)) s
theorem minus_l (L : List UInt8) : (⟨#[45]⟩ ++ ⟨L.toArray⟩ : ByteArray) = ⟨(45 :: L).toArray⟩ := bytes_app [45] L
set_option maxRecDepth 100000 in
set_option maxHeartbeats 1600000 in
theorem print_c (n : Bool) (c0 c1 s : Int) (w : World) (h0 : U64 c0) (h1 : U64 c1) (hr : RightD n c0 c1 s) (N : Nat) (hN : v2 c0 c1 = N) (htab : Lib.TabIs Tryd.prog w "internal/strconv.uint64pow10" .u64 Lib.pow10Tab) :
    Calls Tryd.prog 11 #[.agg #[.bool n, .int .u64 c0, .int .u64 c1, .int .i64 s]] w (Ret w (· = .string ⟨(printL n N s).toArray⟩)) := by
  have hs : 0 ≤ s ∧ s ≤ 9 := ⟨hr.2.1, hr.2.2.1⟩
  have HR := Lib.hid hr
  have HN := Lib.hid (And.intro hN (hN ▸ hr.1))
  have HT := Lib.hid htab
  clear hr hN htab
  have W : HB w [(w.heap.size, 27, #[.bool n, .int .u64 c0, .int .u64 c1, .int .i64 s])] (w.alloc (.cells #[.bool n, .int .u64 c0, .int .u64 c1, .int .i64 s] 27)) := (HB.start (Below.refl _ w)).push _ _
  go_enter Tryd.func11, Tryd.ntmps11
  go_wp2_with fail
  have RC := right_c n c0 c1 s (w.alloc (.cells #[.bool n, .int .u64 c0, .int .u64 c1, .int .i64 s] 27)) h0 h1
  rw [decide_eq_true HR.out] at RC
  refine RC.mono ?_
  clear RC
  rintro e w1 ⟨_, rfl, rfl, hb1⟩
  have W1 := W.below hb1
  obtain ⟨g1, k0, k1, k2, k3⟩ := HB.dec (t := 27) (g := w.heap.size) (a := .bool n) (b := .int .u64 c0) (c := .int .u64 c1) (d := .int .i64 s) W1 (by simp)
  have T1 := tabIs_below HT.out W1.bel
  have HT1 := Lib.hid T1
  clear T1
  have sw : wrap64 (s + 1) = s + 1 := by unfold wrap64; omega
  go_wp2_with fail
  refine (figures_c c0 c1 (s + 1) w1 h0 h1 N HN.out.1 HN.out.2 (by omega) (by omega) HT1.out).mono ?_
  rintro e w2 ⟨_, rfl, rfl, hb2⟩
  have W2 := W1.below hb2
  obtain ⟨g2, p0, p1, p2, p3⟩ := HB.dec (t := 27) (g := w.heap.size) (a := .bool n) (b := .int .u64 c0) (c := .int .u64 c1) (d := .int .i64 s) W2 (by simp)
  have HB2 := Lib.hid W2.bel
  have q1 := figL_ge N (s + 1)
  have q2 := figL_le N (s + 1) HN.out.2 (by omega)
  clear W W1 W2 hb1 hb2 k0 k1 k2 k3 HT HT1 HN HR sw
  have EP : printL n N s = if n then 45 :: dotL (figL N (s + 1)) s else dotL (figL N (s + 1)) s := rfl
  replace EP := Lib.hid EP
  generalize figL N (s + 1) = L at *
  by_cases hs0 : s = 0
  · subst hs0
    cases n
    · go_wp2
      go_ret
      exact ⟨_, rfl, congrArg (fun l : List UInt8 => Ending.returned (.string ⟨l.toArray⟩)) (by rw [EP.out]; rfl), HB2.out⟩
    · go_wp2
      go_ret
      exact ⟨_, rfl, congrArg (fun x : ByteArray => Ending.returned (.string x)) (by rw [EP.out, minus_l]; rfl), HB2.out⟩
  · have hs1 : 0 < s := by omega
    obtain ⟨a, ha⟩ : ∃ a : Nat, (L.length : Int) - s = (a : Int) := ⟨((L.length : Int) - s).toNat, by omega⟩
    have ha1 : a ≤ L.length := by omega
    have ha2 : L.length - s.toNat = a := by omega
    have ED : dotL L s = L.take a ++ [46] ++ L.drop a := by unfold dotL; rw [if_neg hs0, ha2]
    have lM : (L.take a ++ [46] ++ L.drop a).length ≤ 201 := by simp; omega
    rw [ED] at EP
    clear ED
    go_wp2
    go_quiet (fail)
    rw [dot_join]
    generalize L.take a ++ [46] ++ L.drop a = M at *
    cases n
    · go_wp2
      go_ret
      exact ⟨_, rfl, congrArg (fun l : List UInt8 => Ending.returned (.string ⟨l.toArray⟩)) (by rw [EP.out]; rfl), bel_drewN HB2.out _⟩
    · go_wp2
      go_ret
      exact ⟨_, rfl, congrArg (fun x : ByteArray => Ending.returned (.string x)) (by rw [EP.out, minus_l]; rfl), bel_drewN HB2.out _⟩
end Go.Proofs.YtkaflkofffgndaaDoor

namespace Go.Proofs.YtkaflkofffgndaaDoor
open Go.RowKit
/-- The text: a minus or none, the whole digits, a point and its digits or none. -/
def tailL (W P : List UInt8) : List UInt8 := if P = [] then W else W ++ 46 :: P
def readL (n : Bool) (W P : List UInt8) : List UInt8 := if n then 45 :: tailL W P else tailL W P
theorem dig_ne {c : UInt8} (h : isDig c = true) : c ≠ 45 ∧ c ≠ 46 := by
  unfold isDig at h
  simp at h
  constructor <;> (rintro rfl; simp at h)
theorem index_dot : ∀ (W R : List UInt8), W.all isDig = true → Lib.index (W ++ 46 :: R) [46] = W.length
  | [], R, _ => by simp [Lib.index, List.isPrefixOf]
  | c :: W, R, h => by
    simp only [List.all_cons, Bool.and_eq_true] at h
    have ih := index_dot W R h.2
    have hc := (dig_ne h.1).2
    simp [Lib.index, List.isPrefixOf, ih, Ne.symm hc]
theorem index_none : ∀ (W : List UInt8), W.all isDig = true → Lib.index W [46] = -1
  | [], _ => by simp [Lib.index]
  | c :: W, h => by
    simp only [List.all_cons, Bool.and_eq_true] at h
    have ih := index_none W h.2
    have hc := (dig_ne h.1).2
    simp [Lib.index, List.isPrefixOf, ih, Ne.symm hc]
theorem cut_tail {W P : List UInt8} (hW : W.all isDig = true) : Lib.cut (tailL W P) [46] = (W, P, !P.isEmpty) := by
  unfold tailL Lib.cut
  by_cases hP : P = []
  · subst hP
    simp [index_none W hW]
  · rw [if_neg hP, index_dot W P hW]
    simp [hP, Int.natCast_nonneg]
theorem pre_read {n : Bool} {W P : List UInt8} (hW : W.all isDig = true) (hl : 1 ≤ W.length) : Lib.hasPrefix (readL n W P) [45] = n ∧ Lib.trimPrefix (readL n W P) [45] = tailL W P := by
  have h : Lib.hasPrefix (readL n W P) [45] = n := by
    cases n
    · cases W with
      | nil => simp at hl
      | cons c W =>
        simp only [List.all_cons, Bool.and_eq_true] at hW
        have hc := (dig_ne hW.1).1
        unfold Lib.hasPrefix readL tailL
        by_cases hP : P = [] <;> simp [hP, List.isPrefixOf, Ne.symm hc]
    · simp [Lib.hasPrefix, readL, List.isPrefixOf]
  refine ⟨h, ?_⟩
  unfold Lib.trimPrefix
  rw [h]
  cases n <;> simp [readL]
theorem tail_len {W P : List UInt8} (hl : W.length ≤ 30) (hp : P.length ≤ 9) : (tailL W P).length ≤ 40 := by
  unfold tailL; split
  · omega
  · simp; omega
theorem cell_keep {w wx : World} {a : Addr} {v : Value} (hb : Below w.heap.size w wx) (h : w.cell? a = some v) : wx.cell? a = some v := (hb.cell (World.block_lt_of_cell? _ _ h)).trans h
theorem cutpre_c {n : Bool} {W P : List UInt8} (hW : W.all isDig = true) (hl : 1 ≤ W.length) (w : World) :
    Calls Tryd.prog 22 #[.string ⟨(readL n W P).toArray⟩, .string ⟨#[45]⟩] w fun e w' => e = .returned (.tuple #[.string ⟨(tailL W P).toArray⟩, .bool n]) ∧ w = w' := by
  obtain ⟨e1, e2⟩ := pre_read (n := n) (P := P) hW hl
  refine (Tryd.strings_CutPrefix _ _ _).mono ?_
  rintro e w1 ⟨rfl, rfl⟩
  refine ⟨?_, rfl⟩
  show Ending.returned (.tuple #[.string ⟨(Lib.trimPrefix (readL n W P) [45]).toArray⟩, .bool (Lib.hasPrefix (readL n W P) [45])]) = _
  rw [e1, e2]
theorem cut_c {W P : List UInt8} (hW : W.all isDig = true) (tl : (tailL W P).length ≤ 100) (m : Int) (w : World) (hm : w.cell? ⟨0, 0, none⟩ = some (.int .i64 m)) :
    Calls Tryd.prog 23 #[.string ⟨(tailL W P).toArray⟩, .string ⟨#[46]⟩] w fun e w' => e = .returned (.tuple #[.string ⟨W.toArray⟩, .string ⟨P.toArray⟩, .bool (!P.isEmpty)]) ∧ ∃ k, w' = w.drewN k := by
  refine (Tryd.strings_Cut _ _ m _ (by show (tailL W P).length < _; omega) hm).mono ?_
  rintro e w1 ⟨rfl, k, rfl⟩
  refine ⟨?_, k, rfl⟩
  show Ending.returned (.tuple #[.string ⟨(Lib.cut (tailL W P) [46]).1.toArray⟩, .string ⟨(Lib.cut (tailL W P) [46]).2.1.toArray⟩, .bool (Lib.cut (tailL W P) [46]).2.2]) = _
  rw [cut_tail hW]
theorem number_app (W P : List UInt8) (w : World) (hb : W.length + P.length ≤ 1000) (hW : W.all isDig = true) (hP : P.all isDig = true) (hN : numL (W ++ P) < 1000000000000000000000000000000) :
    Calls Tryd.prog 25 #[.string (⟨W.toArray⟩ ++ ⟨P.toArray⟩)] w (Ret w (IsUp (numL (W ++ P)))) := by
  rw [bytes_app]
  exact number_ok _ w (by simp; omega) (by rw [List.all_append, hW, hP]; rfl) hN
set_option maxRecDepth 100000 in
set_option maxHeartbeats 1600000 in
theorem read_c (n : Bool) (W P : List UInt8) (m : Int) (w : World) (hW : 1 ≤ W.length) (hW2 : W.length ≤ 30) (hWd : W.all isDig = true) (hP : P.length ≤ 9) (hPd : P.all isDig = true) (hN : numL (W ++ P) < 1000000000000000000000000000000) (hz : n = true → numL (W ++ P) ≠ 0) (hm : w.cell? ⟨0, 0, none⟩ = some (.int .i64 m)) :
    Calls Tryd.prog 9 #[.string ⟨(readL n W P).toArray⟩] w (Ret w (IsDecE (zOf n (numL (W ++ P))) P.length 0)) := by
  have hle : w.heap.size ≤ w.heap.size := Nat.le_refl _
  have tl := tail_len hW2 hP
  have HN := Lib.hid (And.intro hN hz)
  have HW := Lib.hid (And.intro hWd hPd)
  have V : HB w [(w.heap.size, 27, #[.bool false, .int .u64 0, .int .u64 0, .int .i64 0])] (w.alloc (.cells #[.bool false, .int .u64 0, .int .u64 0, .int .i64 0] 27)) := (HB.start (Below.refl _ w)).push _ _
  clear hN hz hWd hPd
  go_enter Tryd.func9, Tryd.ntmps9
  go_wp2_with fail
  refine (cutpre_c HW.out.1 hW _).mono ?_
  rintro e w1 ⟨rfl, rfl⟩
  go_wp2_with fail
  refine (cut_c HW.out.1 (by omega) m _ ?_).mono ?_
  · exact cell_keep V.bel hm
  rintro e w1 ⟨rfl, k, rfl⟩
  have hWi : (W.length : Int) ≤ 30 := by omega
  have hPi : (P.length : Int) ≤ 9 := by omega
  go_wp2_with fail
  refine (digits_yes W 30 _ hW hWi (by omega) HW.out.1).mono ?_
  rintro e w1 ⟨rfl, rfl⟩
  have hlen : ¬ 9223372036854775807 < W.length + P.length := by omega
  generalize hpe : P.isEmpty = b
  cases b
  · have hP1 : 1 ≤ P.length := by cases P with
      | nil => simp at hpe
      | cons _ _ => simp
    go_wp2_with fail
    refine (digits_yes P 9 _ hP1 hPi (by omega) HW.out.2).mono ?_
    rintro e w1 ⟨rfl, rfl⟩
    go_wp2_with fail
    refine (number_app W P _ (by omega) HW.out.1 HW.out.2 HN.out.1).mono ?_
    rintro e w1 ⟨_, ⟨x, y, HX, rfl⟩, rfl, hb1⟩
    have V1 := V.below (Below.trans (bel_drewN (Below.refl _ _) k) hb1)
    obtain ⟨hx, hy, ex⟩ := HX
    have EX := Lib.hid ex
    have HXL := Lib.hid (ex.symm ▸ HN.out.1)
    clear ex
    have V1c := V1.alloc (.cells #[.int .u64 x, .int .u64 y] 25)
    cases n
    · go_wp2_with fail
      go_quiet (fail)
      have V2 := V1c.below (bel_drewN (Below.refl _ _) nq)
      clear V1c
      go_wp2_with fail
      refine (checked_d false x y P.length _ hx hy HXL.out (by omega) hPi).mono ?_
      rintro e w2 ⟨_, ⟨m', a', b', HD, rfl⟩, rfl, hb⟩
      rw [EX.out] at HD
      have V3 := V2.below hb
      obtain ⟨lq, q0, q1, q2, q3⟩ := HB.dec (t := 27) (g := w.heap.size) (a := .bool false) (b := .int .u64 0) (c := .int .u64 0) (d := .int .i64 0) V3 (by simp)
      have Bz := HB.blk (g := w.heap.size) (t := 27) (cs := #[.bool false, .int .u64 0, .int .u64 0, .int .i64 0]) V3 (by simp)
      have fz0 := Bz.frozen 0
      have fz1 := Bz.frozen 1
      have fz2 := Bz.frozen 2
      have fz3 := Bz.frozen 3
      have HB1 := Lib.hid V3.1
      have HDh := Lib.hid HD
      clear Bz V3 V2 HD V V1 hb hb1
      go_wp2
      exact bodyPost_ret (v := .tuple #[.agg #[.bool m', .int .u64 a', .int .u64 b', .int .i64 P.length], .int .i64 0]) (by simp [results, Tryd.results9, go_sem, q0, q1, q2, q3]) rfl ⟨_, ⟨_, _, _, HDh.out, rfl⟩, rfl, bel4 HB1.out hle⟩
    · have hβ : eqW2 x y 0 0 = false := by
        rw [eqW2_0 hx hy, EX.out]
        simpa using HN.out.2 rfl
      go_wp2_with fail
      go_region_held3 (fun w' => w'.cell? ⟨w1.heap.size, 0, none⟩ = some (.int .u64 x) ∧ w'.cell? ⟨w1.heap.size, 1, none⟩ = some (.int .u64 y)) (simp [go_sem]) (first | (go_at_call 12; refine (of_x _ _).mono ?_; rintro e wx ⟨rfl, rfl⟩))
      have V2 := (V1c.alloc (.cells #[.int .u64 0, .int .u64 0] 25)).drew
      clear V1c
      go_wp2_with fail
      refine (checked_d true x y P.length _ hx hy HXL.out (by omega) hPi).mono ?_
      rintro e w2 ⟨_, ⟨m', a', b', HD, rfl⟩, rfl, hb⟩
      rw [EX.out] at HD
      have V3 := V2.below hb
      obtain ⟨lq, q0, q1, q2, q3⟩ := HB.dec (t := 27) (g := w.heap.size) (a := .bool false) (b := .int .u64 0) (c := .int .u64 0) (d := .int .i64 0) V3 (by simp)
      have Bz := HB.blk (g := w.heap.size) (t := 27) (cs := #[.bool false, .int .u64 0, .int .u64 0, .int .i64 0]) V3 (by simp)
      have fz0 := Bz.frozen 0
      have fz1 := Bz.frozen 1
      have fz2 := Bz.frozen 2
      have fz3 := Bz.frozen 3
      have HB1 := Lib.hid V3.1
      have HDh := Lib.hid HD
      clear Bz V3 V2 HD V V1 hb hb1
      go_wp2
      exact bodyPost_ret (v := .tuple #[.agg #[.bool m', .int .u64 a', .int .u64 b', .int .i64 P.length], .int .i64 0]) (by simp [results, Tryd.results9, go_sem, q0, q1, q2, q3]) rfl ⟨_, ⟨_, _, _, HDh.out, rfl⟩, rfl, bel4 HB1.out hle⟩
  · go_wp2_with fail
    refine (number_app W P _ (by omega) HW.out.1 HW.out.2 HN.out.1).mono ?_
    rintro e w1 ⟨_, ⟨x, y, HX, rfl⟩, rfl, hb1⟩
    have V1 := V.below (Below.trans (bel_drewN (Below.refl _ _) k) hb1)
    obtain ⟨hx, hy, ex⟩ := HX
    have EX := Lib.hid ex
    have HXL := Lib.hid (ex.symm ▸ HN.out.1)
    clear ex
    have V1c := V1.alloc (.cells #[.int .u64 x, .int .u64 y] 25)
    cases n
    · go_wp2_with fail
      go_quiet (fail)
      have V2 := V1c.below (bel_drewN (Below.refl _ _) nq)
      clear V1c
      go_wp2_with fail
      refine (checked_d false x y P.length _ hx hy HXL.out (by omega) hPi).mono ?_
      rintro e w2 ⟨_, ⟨m', a', b', HD, rfl⟩, rfl, hb⟩
      rw [EX.out] at HD
      have V3 := V2.below hb
      obtain ⟨lq, q0, q1, q2, q3⟩ := HB.dec (t := 27) (g := w.heap.size) (a := .bool false) (b := .int .u64 0) (c := .int .u64 0) (d := .int .i64 0) V3 (by simp)
      have Bz := HB.blk (g := w.heap.size) (t := 27) (cs := #[.bool false, .int .u64 0, .int .u64 0, .int .i64 0]) V3 (by simp)
      have fz0 := Bz.frozen 0
      have fz1 := Bz.frozen 1
      have fz2 := Bz.frozen 2
      have fz3 := Bz.frozen 3
      have HB1 := Lib.hid V3.1
      have HDh := Lib.hid HD
      clear Bz V3 V2 HD V V1 hb hb1
      go_wp2
      exact bodyPost_ret (v := .tuple #[.agg #[.bool m', .int .u64 a', .int .u64 b', .int .i64 P.length], .int .i64 0]) (by simp [results, Tryd.results9, go_sem, q0, q1, q2, q3]) rfl ⟨_, ⟨_, _, _, HDh.out, rfl⟩, rfl, bel4 HB1.out hle⟩
    · have hβ : eqW2 x y 0 0 = false := by
        rw [eqW2_0 hx hy, EX.out]
        simpa using HN.out.2 rfl
      go_wp2_with fail
      go_region_held3 (fun w' => w'.cell? ⟨w1.heap.size, 0, none⟩ = some (.int .u64 x) ∧ w'.cell? ⟨w1.heap.size, 1, none⟩ = some (.int .u64 y)) (simp [go_sem]) (first | (go_at_call 12; refine (of_x _ _).mono ?_; rintro e wx ⟨rfl, rfl⟩))
      have V2 := (V1c.alloc (.cells #[.int .u64 0, .int .u64 0] 25)).drew
      clear V1c
      go_wp2_with fail
      refine (checked_d true x y P.length _ hx hy HXL.out (by omega) hPi).mono ?_
      rintro e w2 ⟨_, ⟨m', a', b', HD, rfl⟩, rfl, hb⟩
      rw [EX.out] at HD
      have V3 := V2.below hb
      obtain ⟨lq, q0, q1, q2, q3⟩ := HB.dec (t := 27) (g := w.heap.size) (a := .bool false) (b := .int .u64 0) (c := .int .u64 0) (d := .int .i64 0) V3 (by simp)
      have Bz := HB.blk (g := w.heap.size) (t := 27) (cs := #[.bool false, .int .u64 0, .int .u64 0, .int .i64 0]) V3 (by simp)
      have fz0 := Bz.frozen 0
      have fz1 := Bz.frozen 1
      have fz2 := Bz.frozen 2
      have fz3 := Bz.frozen 3
      have HB1 := Lib.hid V3.1
      have HDh := Lib.hid HD
      clear Bz V3 V2 HD V V1 hb hb1
      go_wp2
      exact bodyPost_ret (v := .tuple #[.agg #[.bool m', .int .u64 a', .int .u64 b', .int .i64 P.length], .int .i64 0]) (by simp [results, Tryd.results9, go_sem, q0, q1, q2, q3]) rfl ⟨_, ⟨_, _, _, HDh.out, rfl⟩, rfl, bel4 HB1.out hle⟩
end Go.Proofs.YtkaflkofffgndaaDoor
