/- Package pyxref1: SubNat. -/
/- Package pyxref1: MulNat. -/
/- Package pyxref1: MulNat's walk. -/
/- Package pyxref1: DivNat. -/
/- Package pyxref1: DivNat's walk. -/
/- Package pyxref1: TenNat, radix, Within, short. -/
/- Package pyxref1: short, Nat2, Nat4. -/
/- Package pyxref1: Words2, Words4, Two, Left, Right, Bits. -/
/- Package pyxref1: Make, Of. -/
import Derived.Test.YtakofbkbbmpfeaaRefE
import Derived.Deep.OwnRows
import Derived.Laws.AppendOwnNone
import Derived.Deep.RegionHeld3
import Derived.Test.YtakofbkbbmpfeaaDecF
namespace Go.Proofs.Ytakofbkbbmpfeaa
open Go.RowKit

def SubI (a b ds : List Nat) (k c : Nat) : Prop := ds.length = k ∧ (∀ d ∈ ds, d < 10) ∧ c ≤ 1 ∧ dv ds + dv (b.take k) + (if c = 0 then 0 else 10 ^ k) = dv (a.take k) + 2 * (if c = 0 then 0 else 10 ^ k)
theorem subI_0 (a b : List Nat) : SubI a b [] 0 0 := ⟨rfl, by simp, by omega, by simp [dv]⟩
theorem subI_val {a b ds : List Nat} {k c : Nat} (h : SubI a b ds k c) : dv ds + dv (b.take k) = dv (a.take k) + c * 10 ^ k := by
  obtain ⟨_, _, h3, h4⟩ := h
  rcases (show c = 0 ∨ c = 1 by omega) with rfl | rfl
  · simpa using h4
  · simp at h4 ⊢; omega
theorem subI_mk {a b ds : List Nat} {k c : Nat} (h1 : ds.length = k) (h2 : ∀ d ∈ ds, d < 10) (h3 : c ≤ 1) (h4 : dv ds + dv (b.take k) = dv (a.take k) + c * 10 ^ k) : SubI a b ds k c := by
  refine ⟨h1, h2, h3, ?_⟩
  rcases (show c = 0 ∨ c = 1 by omega) with rfl | rfl
  · simpa using h4
  · simp at h4 ⊢; omega
theorem dig_snoc_lt {ds : List Nat} {s : Nat} (h : ∀ d ∈ ds, d < 10) (hs : s < 10) : ∀ d ∈ ds ++ [s], d < 10 := by
  intro d hd
  rcases List.mem_append.1 hd with hd | hd
  · exact h d hd
  · simp at hd; omega
/-- A digit that needs no borrowing. -/
theorem subI_ge {a b ds : List Nat} {k c x y s : Nat} (ha : ∀ d ∈ a, d < 10) (h : SubI a b ds k c) (hx : a.getD k 0 = x) (hy : b.getD k 0 = y) (e : x = s + y + c) : SubI a b (ds ++ [s]) (k + 1) 0 := by
  have h4 := subI_val h
  obtain ⟨h1, h2, h3, _⟩ := h
  have x9 := dig_lt ha k
  refine subI_mk (by simp [h1]) (dig_snoc_lt h2 (by omega)) (by omega) ?_
  rw [dv_snoc, h1, dv_take, dv_take, hx, hy]
  have : x * 10 ^ k = s * 10 ^ k + y * 10 ^ k + c * 10 ^ k := by rw [e, Nat.add_mul, Nat.add_mul]
  omega
/-- One that does. -/
theorem subI_lt {a b ds : List Nat} {k c x y s : Nat} (hb : ∀ d ∈ b, d < 10) (h : SubI a b ds k c) (hx : a.getD k 0 = x) (hy : b.getD k 0 = y) (e : x + 10 = s + y + c) (hlt : x < y + c) : SubI a b (ds ++ [s]) (k + 1) 1 := by
  have h4 := subI_val h
  obtain ⟨h1, h2, h3, _⟩ := h
  have y9 := dig_lt hb k
  refine subI_mk (by simp [h1]) (dig_snoc_lt h2 (by omega)) (by omega) ?_
  rw [dv_snoc, h1, dv_take, dv_take, hx, hy, Nat.pow_succ]
  have : x * 10 ^ k + 10 * 10 ^ k = s * 10 ^ k + y * 10 ^ k + c * 10 ^ k := by rw [← Nat.add_mul, ← Nat.add_mul, ← Nat.add_mul, e]
  omega
theorem subI_end {a b ds : List Nat} {c : Nat} (h : SubI a b ds a.length c) (hl : b.length ≤ a.length) (hle : dv b ≤ dv a) : dv ds = dv a - dv b := by
  have h4 := subI_val h
  obtain ⟨h1, h2, h3, _⟩ := h
  have h5 := dv_lt h2
  rw [List.take_length, List.take_of_length_le hl] at h4
  rw [h1] at h5
  rcases (show c = 0 ∨ c = 1 by omega) with rfl | rfl <;> omega

theorem quiet_same {P : Program} {f : FuncId} {args : Array Value} {w : World} {n : Nat} {v : Value} (h : Calls P f args (w.drewN n) fun e w' => e = .returned v ∧ w.drewN n = w') :
    Calls P f args (w.drewN n) fun e w'' => e = .returned v ∧ ∃ m, w'' = w.drewN m := h.mono fun _ _ ⟨he, hm⟩ => ⟨he, n, hm.symm⟩

theorem new1 {w w2 : World} {t : TypeId} {v v' : Value} (hv : v' = v) (hw : w2 = w.alloc (.cells #[v'] t)) : ∀ (j : Nat) (u : Value), [v][j]? = some u → w2.cell? ((⟨w.heap.size, 0, none⟩ : Addr).add j) = some u := by
  subst hv
  subst hw
  intro j u hj
  match j, hj with
  | 0, hj =>
    simp at hj
    subst hj
    simp [Addr.add]

/-- .. in memory that was not there before. -/
def RetF (w : World) (N : Nat) (e : Ending) (w' : World) : Prop := ∃ (A : Option Addr) (n cap : Nat) (ds : List Nat), (DigC w' A n cap ds ∧ Norm ds ∧ dv ds = N ∧ ∀ ad, A = some ad → w.heap.size ≤ ad.block) ∧ e = .returned (.slice A n cap) ∧ Below w.heap.size w w'
theorem own_fresh {w : World} {base : Nat} {e : TypeId} {size n m cap : Nat} {A : Option Addr} {xs : List Value} (h : w.ownsRow base e size (.slice A m cap) n xs) : ∀ ad, A = some ad → base ≤ ad.block := by
  intro ad hA
  subst hA
  exact own_base h _ rfl

set_option maxRecDepth 100000 in
set_option maxHeartbeats 1600000 in
theorem subNat_f (A B : Option Addr) (n m ca cb : Nat) (a b : List Nat) (w : World) (ha : DigC w A n ca a) (hb : DigC w B m cb b) (hn : n ≤ 900000) (hmn : m ≤ n) (hle : dv b ≤ dv a) :
    Calls Try.prog 71 #[.slice A n ca, .slice B m cb] w (RetF w (dv a - dv b)) := by
  obtain ⟨i0, hi, hz0, hz1, hz2⟩ := info_parts info_int
  have LA := Lib.hid ha.1
  have LB := Lib.hid hb.1
  have DA := Lib.hid ha.2.2.2.1
  have DB := Lib.hid hb.2.2.2.1
  have HA := Lib.hid ha
  have HB_ := Lib.hid hb
  have HLE := Lib.hid hle
  clear ha hb hle
  go_enter Try.func71, Try.ntmps71
  go_wp2
  go_loopw [5, 6, 7] (fun v s q wr => ∃ (k c : Nat) (ds : List Nat), k ≤ n ∧ s = .int .i64 c ∧ q = .int .i64 k ∧ SubI a b ds k c ∧ wr.ownsRow w.heap.size 3 1 v ds.length (ds.map mkD_) ∧ Below w.heap.size w wr) (fun _ _ q _ => n - (intOf q).toNat)
  case atStart => exact ⟨0, 0, [], by omega, rfl, rfl, subI_0 a b, World.ownsRow_nil _ _ _ _, Below.refl _ _⟩
  case round =>
    obtain ⟨k, c, ds, hk, rfl, rfl, HI, hown, HB⟩ := hrel
    have hc1 := HI.2.2.1
    have hsz := HB.size
    have HL := Lib.hid HI.1
    have hdl : ds.length ≤ 900001 := by rw [HL.out]; omega
    by_cases hlt : k < n
    · obtain ⟨b1, o1, hA, hlt1, hcc⟩ := (HA.out.below HB).2.2.2.2 (by omega)
      have c1 := hcc k hlt
      obtain ⟨x, hx⟩ : ∃ x, a.getD k 0 = x := ⟨_, rfl⟩
      obtain ⟨y, hy⟩ : ∃ y, b.getD k 0 = y := ⟨_, rfl⟩
      have hx9 : x < 10 := by rw [← hx]; exact dig_lt DA.out k
      have hy9 : y < 10 := by rw [← hy]; exact dig_lt DB.out k
      rw [hx] at c1
      have HX := Lib.hid hx
      have HY := Lib.hid hy
      have HCC : ∀ w1, Below wr.heap.size wr w1 → Calls Try.prog 69 #[.slice B m cb, .int .i64 k] w1 fun e w' => e = .returned (.int .i64 (y : Nat)) ∧ w1 = w' := by
        intro w1 h1
        have := digit_c B m cb k b w1 ((HB_.out.below HB).below h1)
        rwa [hy] at this
      have HC := Lib.hid HCC
      clear hcc hx hy HCC
      subst hA
      have hki : (k : Int) < (n : Int) := by omega
      by_cases hs : x < y + c
      · obtain ⟨s, hsd⟩ : ∃ s, x + 10 = s + y + c := ⟨x + 10 - y - c, by omega⟩
        have HI2 := subI_lt DB.out HI HX.out HY.out hsd hs
        have HSD := Lib.hid hsd
        have hneg : (x : Int) - (y : Int) - (c : Int) < 0 := by omega
        have hw1 : IntKind.i64.wrap ((x : Int) - (y : Int)) = (x : Int) - (y : Int) := IntWalk.i64_in _ (by omega)
        have hw2 : IntKind.i64.wrap ((x : Int) - (y : Int) - (c : Int)) = (x : Int) - (y : Int) - (c : Int) := IntWalk.i64_in _ (by omega)
        have hs10 : (x : Int) - (y : Int) - (c : Int) + 10 = (s : Int) := by omega
        have HS10 := Lib.hid hs10
        have hs9 : s < 10 := by omega
        clear hs10 hsd
        go_wp2
        go_quiet ((go_at_call 69; exact quiet_same (HC.out _ (bel_drewN (Below.refl _ _) _))))
        clear hw1 hw2
        go_wp2_with (first
          | (at_builtin; refine wpList_append_own _ rfl _ _ 80 rfl w.heap.size 3 i0 (.int .i64 0) 1 8 Try.underlying80 hi hz0 hz1 hz2 rfl (by decide) _ _ _ rfl (hown.alloc _) ⟨wr.heap.size, 0, none⟩ 1 1 [.int .i64 (s : Int)] rfl rfl (new1 (w := wr.drewN nq) (by rw [HS10.out]) rfl) (by intro u hu; simp at hu; subst hu; rfl) (by unfold maxLen; omega) (by omega) (by simp; omega) ?_)
          | go_in)
        intro v' w1 hown' hgrow _
        have HB2 : Below w.heap.size w w1 := ((bel_drewN HB _).alloc hsz _).grown hgrow (by simp; omega) (own_base hown)
        have hown2 : w1.ownsRow w.heap.size 3 1 v' (ds ++ [s]).length ((ds ++ [s]).map mkD_) := by
          rw [List.length_append, List.length_singleton, List.map_append]
          simpa [mkD_] using hown'
        clear hown' hgrow
        go_wp2
        go_roundw
        case rel => exact ⟨k + 1, 1, _, by omega, rfl, by go_num, HI2, hown2, HB2⟩
        case measure => simp [intOf]; omega
      · obtain ⟨s, hsd⟩ : ∃ s, x = s + y + c := ⟨x - y - c, by omega⟩
        have HI2 := subI_ge DA.out HI HX.out HY.out hsd
        have hneg : ¬ (x : Int) - (y : Int) - (c : Int) < 0 := by omega
        have hw1 : IntKind.i64.wrap ((x : Int) - (y : Int)) = (x : Int) - (y : Int) := IntWalk.i64_in _ (by omega)
        have hw2 : IntKind.i64.wrap ((x : Int) - (y : Int) - (c : Int)) = (x : Int) - (y : Int) - (c : Int) := IntWalk.i64_in _ (by omega)
        have hs10 : (x : Int) - (y : Int) - (c : Int) = (s : Int) := by omega
        have HS10 := Lib.hid hs10
        have hs9 : s < 10 := by omega
        clear hs10 hsd
        go_wp2
        go_quiet ((go_at_call 69; exact quiet_same (HC.out _ (bel_drewN (Below.refl _ _) _))))
        clear hw1 hw2
        go_wp2_with (first
          | (at_builtin; refine wpList_append_own _ rfl _ _ 80 rfl w.heap.size 3 i0 (.int .i64 0) 1 8 Try.underlying80 hi hz0 hz1 hz2 rfl (by decide) _ _ _ rfl (hown.alloc _) ⟨wr.heap.size, 0, none⟩ 1 1 [.int .i64 (s : Int)] rfl rfl (new1 (w := wr.drewN nq) (by rw [HS10.out]) rfl) (by intro u hu; simp at hu; subst hu; rfl) (by unfold maxLen; omega) (by omega) (by simp; omega) ?_)
          | go_in)
        intro v' w1 hown' hgrow _
        have HB2 : Below w.heap.size w w1 := ((bel_drewN HB _).alloc hsz _).grown hgrow (by simp; omega) (own_base hown)
        have hown2 : w1.ownsRow w.heap.size 3 1 v' (ds ++ [s]).length ((ds ++ [s]).map mkD_) := by
          rw [List.length_append, List.length_singleton, List.map_append]
          simpa [mkD_] using hown'
        clear hown' hgrow
        go_wp2
        go_roundw
        case rel => exact ⟨k + 1, 0, _, by omega, rfl, by go_num, HI2, hown2, HB2⟩
        case measure => simp [intOf]; omega
    · have hkn : k = n := by omega
      have hE : dv ds = dv a - dv b := by
        have h := HI
        rw [hkn, ← LA.out] at h
        exact subI_end h (by rw [LA.out, LB.out]; omega) HLE.out
      have HE := Lib.hid hE
      obtain ⟨D, cap, rfl, HD⟩ := dig_own hown HI.2.1 (by rw [HL.out]; omega)
      have HTH := Lib.hid fun m h => dv_trim (ds := ds) (m := m) h
      have HF := Lib.hid (own_fresh hown)
      clear hE hkn hown
      go_wp2_with fail
      refine (trim_c D _ cap ds _ HD).mono ?_
      rintro e w1 ⟨_, ⟨t, ht, rfl⟩, rfl, rfl⟩
      have H1 := HTH.out t ht
      have H2 := HD.take ht.1
      rw [HE.out] at H1
      go_wp2
      go_ret
      exact ⟨_, _, _, _, ⟨H2, H1.2, H1.1, HF.out⟩, rfl, HB⟩
end Go.Proofs.Ytakofbkbbmpfeaa

namespace Go.Proofs.Ytakofbkbbmpfeaa
open Go.RowKit

theorem dv_set (l : List Nat) (j v : Nat) (h : j < l.length) : dv (l.set j v) + l.getD j 0 * 10 ^ j = dv l + v * 10 ^ j := by
  induction l generalizing j with
  | nil => simp at h
  | cons x l ih =>
    cases j with
    | zero => simp [dv]; omega
    | succ j =>
      have := ih j (by simpa using h)
      simp only [List.set_cons_succ, dv, Nat.pow_succ, List.getD_cons_succ]
      rw [Nat.mul_comm (10 ^ j) 10, Nat.mul_left_comm, Nat.mul_left_comm v]
      omega
theorem getD_set (l : List Nat) (j k v : Nat) (h : j ≠ k) : (l.set j v).getD k 0 = l.getD k 0 := by
  rw [List.getD_eq_getElem?_getD, List.getD_eq_getElem?_getD, List.getElem?_set_ne h]
theorem dv_rep (n : Nat) : dv (List.replicate n 0) = 0 := by
  induction n with
  | zero => rfl
  | succ n ih => simp [List.replicate_succ, dv, ih]
theorem getD_rep (n j : Nat) : (List.replicate n 0).getD j 0 = 0 := by
  rw [List.getD_eq_getElem?_getD, List.getElem?_replicate]
  split <;> rfl
/-- So far: the first i digits of a times b. -/
def OutN (a b : List Nat) (L i : Nat) (ds : List Nat) : Prop := ds.length = L ∧ (∀ d ∈ ds, d < 10) ∧ (∀ j, i + b.length ≤ j → ds.getD j 0 = 0) ∧ dv ds = dv (a.take i) * dv b
/-- .. and of digit i times the first k of b, with a carry. -/
def MulN (a b : List Nat) (L i k c : Nat) (ds : List Nat) : Prop :=
  ds.length = L ∧ (∀ d ∈ ds, d < 10) ∧ c ≤ 9 ∧ k ≤ b.length + 1 ∧ (k = b.length + 1 → c = 0) ∧ (∀ j, i + b.length + 1 ≤ j → ds.getD j 0 = 0) ∧
    (k ≤ b.length → ∀ j, i + b.length ≤ j → k ≤ j - i → ds.getD j 0 = 0) ∧ dv ds + c * 10 ^ (i + k) = dv (a.take i) * dv b + a.getD i 0 * dv (b.take k) * 10 ^ i
theorem outN_0 (a b : List Nat) (L : Nat) : OutN a b L 0 (List.replicate L 0) :=
  ⟨by simp, fun d hd => by rw [List.eq_of_mem_replicate hd]; decide, fun j _ => getD_rep L j, by simp [dv_rep, dv]⟩
theorem mulN_0 {a b ds : List Nat} {L i : Nat} (h : OutN a b L i ds) : MulN a b L i 0 0 ds := by
  obtain ⟨h1, h2, h3, h4⟩ := h
  exact ⟨h1, h2, by omega, by omega, by omega, fun j hj => h3 j (by omega), fun _ j hj _ => h3 j hj, by simp [dv, h4]⟩
theorem mem_set_lt {ds : List Nat} {j v : Nat} (h : ∀ d ∈ ds, d < 10) (hv : v < 10) : ∀ d ∈ ds.set j v, d < 10 := by
  intro d hd
  rcases List.mem_or_eq_of_mem_set hd with h' | h'
  · exact h d h'
  · omega
theorem mulN_s {a b ds : List Nat} {L i k c : Nat} (ha : ∀ d ∈ a, d < 10) (hb : ∀ d ∈ b, d < 10) (hL : i + b.length < L) (h : MulN a b L i k c ds) (hg : k < b.length ∨ 0 < c) :
    i + k < L ∧ MulN a b L i (k + 1) ((ds.getD (i + k) 0 + a.getD i 0 * b.getD k 0 + c) / 10) (ds.set (i + k) ((ds.getD (i + k) 0 + a.getD i 0 * b.getD k 0 + c) % 10)) := by
  obtain ⟨h1, h2, h3, h4, h5, h6, h7, h8⟩ := h
  have hk : k ≤ b.length := by omega
  have x9 := dig_lt ha i
  have y9 := dig_lt hb k
  have d9 := dig_lt h2 (i + k)
  have hxy : a.getD i 0 * b.getD k 0 ≤ 9 * 9 := Nat.mul_le_mul (by omega) (by omega)
  have hend : k = b.length → ds.getD (i + k) 0 + a.getD i 0 * b.getD k 0 = 0 := by
    intro e
    have e1 := h7 hk (i + k) (by omega) (by omega)
    have e2 : b.getD k 0 = 0 := by rw [List.getD_eq_getElem?_getD, List.getElem?_eq_none (by omega)]; rfl
    rw [e1, e2]; rfl
  have hset := dv_set ds (i + k) ((ds.getD (i + k) 0 + a.getD i 0 * b.getD k 0 + c) % 10) (by omega)
  generalize hs : ds.getD (i + k) 0 + a.getD i 0 * b.getD k 0 + c = s at *
  refine ⟨by omega, by simp [h1], mem_set_lt h2 (by omega), by omega, by omega, ?_, ?_, ?_, ?_⟩
  · intro e
    have := hend (by omega)
    omega
  · intro j hj
    rw [getD_set _ _ _ _ (by omega)]
    exact h6 j hj
  · intro hk1 j hj hkj
    rw [getD_set _ _ _ _ (by omega)]
    exact h7 hk j hj (by omega)
  · rw [dv_take, Nat.mul_add, Nat.add_mul]
    have e1 : s * 10 ^ (i + k) = s % 10 * 10 ^ (i + k) + s / 10 * 10 ^ (i + (k + 1)) := by
      rw [← Nat.add_assoc, Nat.pow_succ, Nat.mul_comm (10 ^ (i + k)) 10, ← Nat.mul_assoc, ← Nat.add_mul, Nat.mul_comm (s / 10), Nat.mod_add_div]
    have e2 : s * 10 ^ (i + k) = ds.getD (i + k) 0 * 10 ^ (i + k) + a.getD i 0 * b.getD k 0 * 10 ^ (i + k) + c * 10 ^ (i + k) := by rw [← hs, Nat.add_mul, Nat.add_mul]
    have e3 : a.getD i 0 * (b.getD k 0 * 10 ^ k) * 10 ^ i = a.getD i 0 * b.getD k 0 * 10 ^ (i + k) := by
      rw [Nat.pow_add, Nat.mul_assoc, Nat.mul_assoc, Nat.mul_assoc, Nat.mul_comm (10 ^ k)]
    omega
theorem mulN_end {a b ds : List Nat} {L i k c : Nat} (h : MulN a b L i k c ds) (hk : b.length ≤ k) (hc : c = 0) : OutN a b L (i + 1) ds := by
  obtain ⟨h1, h2, _, _, _, h6, _, h8⟩ := h
  refine ⟨h1, h2, fun j hj => h6 j (by omega), ?_⟩
  rw [hc, Nat.zero_mul, Nat.add_zero, List.take_of_length_le hk] at h8
  rw [h8, dv_take, Nat.add_mul, Nat.mul_right_comm]
theorem outN_end {a b ds : List Nat} {L i : Nat} (h : OutN a b L i ds) (hi : a.length ≤ i) : dv ds = dv a * dv b := by
  rw [h.2.2.2, List.take_of_length_le hi]
def mSl (g L : Nat) : Value := .slice (some ⟨g, 0, none⟩) L L
theorem own_made {w : World} (L : Nat) (hL : L ≤ 2000000) : (w.alloc (.cells (madeCells #[.int .i64 0] L) 3)).ownsRow w.heap.size 3 1 (.slice (some ⟨w.heap.size, 0, none⟩) L L) L ((List.replicate L 0).map mkD_) := by
  have h := World.ownsRow_lit (base := w.heap.size) (e := 3) (size := 1) w (madeCells #[.int .i64 0] L) L (Nat.le_refl _) (by unfold maxLen; omega) (by simp [size_madeCells])
  rw [toList_madeCells_one] at h
  simpa [mkD_] using h
theorem own_set {w : World} {base g L cap j v : Nat} {ds : List Nat} (h : w.ownsRow base 3 1 (.slice (some ⟨g, 0, none⟩) L cap) L (ds.map mkD_)) : (w.setCell ⟨g, j, none⟩ (.int .i64 (v : Int))).ownsRow base 3 1 (.slice (some ⟨g, 0, none⟩) L cap) L ((ds.set j v).map mkD_) := by
  have := (h.stored j (.int .i64 (v : Int))).1
  rw [List.map_set]
  exact this
theorem own_cell {w : World} {base g L cap j : Nat} {ds : List Nat} (h : w.ownsRow base 3 1 (.slice (some ⟨g, 0, none⟩) L cap) L (ds.map mkD_)) (hl : ds.length = L) (hj : j < L) : w.cell? ⟨g, j, none⟩ = some (.int .i64 (ds.getD j 0 : Nat)) := by
  rw [h.cellAt j (by omega)]
  simp [mkD_, List.getD_eq_getElem?_getD, show j < ds.length by omega]
end Go.Proofs.Ytakofbkbbmpfeaa

namespace Go.Proofs.Ytakofbkbbmpfeaa
open Go.RowKit
theorem own_set' {w : World} {base g L cap j v : Nat} {ds : List Nat} {x : Int} (hx : x = (v : Int)) (h : w.ownsRow base 3 1 (.slice (some ⟨g, 0, none⟩) L cap) L (ds.map mkD_)) : (w.setCell ⟨g, j, none⟩ (.int .i64 x)).ownsRow base 3 1 (.slice (some ⟨g, 0, none⟩) L cap) L ((ds.set j v).map mkD_) := by
  subst hx
  exact own_set h

set_option maxRecDepth 100000 in
set_option maxHeartbeats 1600000 in
theorem mulNat_c (A B : Option Addr) (n m ca cb : Nat) (a b : List Nat) (w : World) (ha : DigC w A n ca a) (hb : DigC w B m cb b) (hn : n ≤ 400000) (hm : m ≤ 400000) :
    Calls Try.prog 63 #[.slice A n ca, .slice B m cb] w (RetN w (dv a * dv b)) := by
  have LA := Lib.hid ha.1
  have LB := Lib.hid hb.1
  have DA := Lib.hid ha.2.2.2.1
  have DB := Lib.hid hb.2.2.2.1
  have HA := Lib.hid ha
  have HB_ := Lib.hid hb
  clear ha hb
  obtain ⟨L, hL⟩ : ∃ L, n + m + 1 = L := ⟨_, rfl⟩
  have HLL := Lib.hid hL
  have hL1 : n + m < L := by omega
  have hL2 : L ≤ 1000000 := by omega
  have hmk := run_make_row' (P := Try.prog) 80 3 (.int .i64 0) 8 Try.underlying80 info_int rfl .i64 .i64 L (by omega) (by omega)
  have ec : (L : Int) = (n : Int) + (m : Int) + 1 := by omega
  rw [ec] at hmk
  have hmk2 := hmk w
  have hO := own_made (w := w) L (by omega)
  have HO := Lib.hid hO
  have HBl : Below w.heap.size w (w.alloc (.cells (madeCells #[.int .i64 0] L) 3)) := (Below.refl _ _).alloc (Nat.le_refl _) _
  have HBH := Lib.hid HBl
  clear hL ec hmk hO HBl
  go_enter Try.func63, Try.ntmps63
  go_wp2
  go_loopw [6] (fun q wr => ∃ (i : Nat) (ds : List Nat), i ≤ n ∧ q = .int .i64 i ∧ OutN a b L i ds ∧ wr.ownsRow w.heap.size 3 1 (.slice (some ⟨w.heap.size, 0, none⟩) L L) L (ds.map mkD_) ∧ Below w.heap.size w wr) (fun q _ => n - (intOf q).toNat)
  case atStart => exact ⟨0, _, by omega, rfl, outN_0 a b L, HO.out, HBH.out⟩
  case round =>
    obtain ⟨i, ds, hi, rfl, HI, hown, HB⟩ := hrel
    clear hmk2
    by_cases hlt : i < n
    · have M0 := mulN_0 HI
      have HIn : (i : Int) < (n : Int) := by omega
      go_wp2
      go_loopw [7, 8] (fun s q wx => ∃ (k c : Nat) (es : List Nat), s = .int .i64 c ∧ q = .int .i64 k ∧ MulN a b L i k c es ∧ wx.ownsRow w.heap.size 3 1 (.slice (some ⟨w.heap.size, 0, none⟩) L L) L (es.map mkD_) ∧ Below w.heap.size w wx) (fun _ q _ => m + 1 - (intOf q).toNat)
      case atStart => exact ⟨0, 0, _, rfl, rfl, M0, hown, HB⟩
      case round =>
        clear hown HB HI M0
        obtain ⟨k, c, es, rfl, rfl, HM, hown, HB⟩ := hrel
        have hc9 := HM.2.2.1
        have hk1 : k ≤ m + 1 := by have := HM.2.2.2.1; rw [LB.out] at this; exact this
        by_cases hgo : k < m ∨ 0 < c
        · have hkm : k ≤ m := by
            rcases hgo with h | h
            · omega
            · rcases Nat.lt_or_ge m k with h' | h'
              · have := HM.2.2.2.2.1 (by rw [LB.out]; omega)
                omega
              · exact h'
          have HS := mulN_s DA.out DB.out (by rw [LB.out]; omega) HM (by rw [LB.out]; exact hgo)
          have hik := HS.1
          have co := own_cell hown HM.1 hik
          have fz := hown.frozenAt (i + k)
          obtain ⟨b1, o1, hA, hlt1, hcc⟩ := (HA.out.below HB).2.2.2.2 (by omega)
          have c1 := hcc i hlt
          obtain ⟨x, hx⟩ : ∃ x, a.getD i 0 = x := ⟨_, rfl⟩
          obtain ⟨y, hy⟩ : ∃ y, b.getD k 0 = y := ⟨_, rfl⟩
          obtain ⟨d, hd⟩ : ∃ d, es.getD (i + k) 0 = d := ⟨_, rfl⟩
          have hx9 : x < 10 := by rw [← hx]; exact dig_lt DA.out i
          have hy9 : y < 10 := by rw [← hy]; exact dig_lt DB.out k
          have hd9 : d < 10 := by rw [← hd]; exact dig_lt HM.2.1 _
          rw [hx] at c1
          rw [hd] at co
          have HCC : ∀ w1, Below wr.heap.size wr w1 → Calls Try.prog 69 #[.slice B m cb, .int .i64 k] w1 fun e w' => e = .returned (.int .i64 (y : Nat)) ∧ w1 = w' := by
            intro w1 h1
            have := digit_c B m cb k b w1 ((HB_.out.below HB).below h1)
            rwa [hy] at this
          have HC := Lib.hid HCC
          have HM2 := HS.2
          rw [hx, hy, hd] at HM2
          clear hcc hx hy hd HCC HS HM
          subst hA
          obtain ⟨p, hp⟩ : ∃ p, x * y = p := ⟨_, rfl⟩
          have hp81 : p ≤ 81 := by rw [← hp]; exact Nat.mul_le_mul (show x ≤ 9 by omega) (show y ≤ 9 by omega)
          rw [hp] at HM2
          have hpi : (x : Int) * (y : Int) = (p : Int) := by rw [← hp, Int.natCast_mul]
          have hw0 : IntKind.i64.wrap ((i : Int) + (k : Int)) = (i : Int) + (k : Int) := IntWalk.i64_in _ (by omega)
          have hw1 : IntKind.i64.wrap ((x : Int) * (y : Int)) = (p : Int) := by rw [hpi]; exact IntWalk.i64_in _ (by omega)
          have hw2 : IntKind.i64.wrap ((d : Int) + (p : Int)) = (d : Int) + (p : Int) := IntWalk.i64_in _ (by omega)
          have hw3 : IntKind.i64.wrap ((d : Int) + (p : Int) + (c : Int)) = (d : Int) + (p : Int) + (c : Int) := IntWalk.i64_in _ (by omega)
          have j0 : (0 : Int) ≤ (i : Int) + (k : Int) := by omega
          have j1 : (i : Int) + (k : Int) < (L : Int) := by omega
          have j2 : ((i : Int) + (k : Int)).toNat = i + k := by omega
          clear hp hpi
          rcases (show k < m ∨ (¬ k < m ∧ 0 < c) by omega) with h | ⟨h, h'⟩
          all_goals
            go_wp2
            go_quiet ((go_at_call 69; exact quiet_same (HC.out _ (bel_drewN (Below.refl _ _) _))))
            clear hw0 hw1 hw2 hw3
            go_wp2
            go_roundw
            case rel => exact ⟨k + 1, (d + p + c) / 10, _, by go_num, by go_num, HM2, own_set' (by omega) hown, (bel_drewN HB _).setCell (Nat.le_refl _) _⟩
            case measure => simp [intOf]; omega
        · have h1 : ¬ k < m := fun h => hgo (Or.inl h)
          obtain rfl : c = 0 := by omega
          have HE := mulN_end HM (by rw [LB.out]; omega) rfl
          go_wp2
          go_roundw
          case rel => exact ⟨i + 1, _, by omega, by go_num, HE, hown, HB⟩
          case measure => simp [intOf]; omega
    · have hE := outN_end HI (by rw [LA.out]; omega)
      have HE := Lib.hid hE
      have HL2 := Lib.hid HI.1
      have D9 := Lib.hid HI.2.1
      have hown2 : wr.ownsRow w.heap.size 3 1 (.slice (some ⟨w.heap.size, 0, none⟩) L L) ds.length (ds.map mkD_) := by rw [HL2.out]; exact hown
      obtain ⟨D, cap, hv, HD⟩ := dig_own hown2 D9.out (by rw [HL2.out]; omega)
      have hv' : D = some ⟨w.heap.size, 0, none⟩ ∧ ds.length = L ∧ cap = L := by
        injection hv with h1 h2 h3
        exact ⟨h1.symm, h2.symm, h3.symm⟩
      obtain ⟨rfl, _, rfl⟩ := hv'
      rw [HL2.out] at HD
      have HDH := Lib.hid HD
      have HTH := Lib.hid fun m h => dv_trim (ds := ds) (m := m) h
      clear hE hv hown2 HD HI
      go_wp2_with fail
      refine (trim_c _ _ _ ds _ HDH.out).mono ?_
      rintro e w1 ⟨_, ⟨t, ht, rfl⟩, rfl, rfl⟩
      have H1 := HTH.out t ht
      have H2 := HDH.out.take (by have := ht.1; rw [HL2.out] at this; exact this)
      rw [HE.out] at H1
      go_wp2
      go_ret
      exact ⟨_, _, _, _, ⟨H2, H1.2, H1.1⟩, rfl, HB⟩
end Go.Proofs.Ytakofbkbbmpfeaa

namespace Go.Proofs.Ytakofbkbbmpfeaa
open Go.RowKit

/-- From digit k on: qs times b, and rs is left. -/
def DivN (a b qs rs : List Nat) (k : Nat) : Prop := qs.length = a.length ∧ (∀ d ∈ qs, d < 10) ∧ (∀ t, t < k → qs.getD t 0 = 0) ∧ dv (a.drop k) = dv (qs.drop k) * dv b + dv rs
theorem divN_0 (a b : List Nat) : DivN a b (List.replicate a.length 0) [] a.length := by
  refine ⟨by simp, fun d hd => by rw [List.eq_of_mem_replicate hd]; decide, fun t _ => getD_rep _ t, ?_⟩
  simp [dv]
/-- The next digit comes down. -/
theorem divN_down {a b qs rs rs' : List Nat} {k : Nat} (h : DivN a b qs rs (k + 1)) (hk : k < a.length) (e : dv rs' = a.getD k 0 + 10 * dv rs) : DivN a b qs rs' k := by
  obtain ⟨h1, h2, h3, h4⟩ := h
  refine ⟨h1, h2, fun t ht => h3 t (by omega), ?_⟩
  rw [dv_drop a k hk, h4, dv_drop qs k (by omega), h3 k (by omega), Nat.zero_add, e, Nat.mul_assoc]
  omega
theorem dv_set_drop (l : List Nat) (k v : Nat) (hk : k < l.length) : dv ((l.set k v).drop k) + l.getD k 0 = dv (l.drop k) + v := by
  rw [dv_drop (l.set k v) k (by simpa using hk), dv_drop l k hk]
  have e1 : (l.set k v).getD k 0 = v := by simp [List.getD_eq_getElem?_getD, hk]
  have e2 : (l.set k v).drop (k + 1) = l.drop (k + 1) := by rw [List.drop_set_of_lt (by omega)]
  rw [e1, e2]
  omega
/-- Once more. -/
theorem divN_once {a b qs rs rs' : List Nat} {k : Nat} (h : DivN a b qs rs k) (hk : k < a.length) (hle : dv b ≤ dv rs) (e : dv rs' = dv rs - dv b) (h9 : qs.getD k 0 + 1 < 10) : DivN a b (qs.set k (qs.getD k 0 + 1)) rs' k := by
  obtain ⟨h1, h2, h3, h4⟩ := h
  refine ⟨by simpa using h1, mem_set_lt h2 h9, fun t ht => by rw [getD_set _ _ _ _ (by omega)]; exact h3 t ht, ?_⟩
  have hs := dv_set_drop qs k (qs.getD k 0 + 1) (by omega)
  have e2 : dv ((qs.set k (qs.getD k 0 + 1)).drop k) = dv (qs.drop k) + 1 := by omega
  rw [e2, h4, Nat.add_mul, Nat.one_mul]
  omega
theorem divN_end {a b qs rs : List Nat} (h : DivN a b qs rs 0) (hlt : dv rs < dv b) : dv qs = dv a / dv b ∧ dv rs = dv a % dv b := by
  obtain ⟨_, _, _, h4⟩ := h
  simp only [List.drop_zero] at h4
  have h5 : dv b * dv qs + dv rs = dv a := by rw [h4, Nat.mul_comm]
  constructor
  · rw [← h5, Nat.mul_add_div (by omega), Nat.div_eq_of_lt hlt, Nat.add_zero]
  · rw [← h5, Nat.mul_add_mod, Nat.mod_eq_of_lt hlt]
theorem norm_len {l : List Nat} {k : Nat} (h : Norm l) (hlt : dv l < 10 ^ k) : l.length ≤ k := by
  rcases h with rfl | h
  · simp
  · by_cases h0 : l = []
    · subst h0; simp
    · have h1 := dv_ge h0 h
      rcases Nat.lt_or_ge k l.length with c | c
      · have : 10 ^ k ≤ 10 ^ (l.length - 1) := Nat.pow_le_pow_right (by decide) (by omega)
        omega
      · exact c
theorem times_lt {t B r : Nat} (h : t * B + r < 10 * B) (hle : B ≤ r) : t + 1 < 10 := by
  rcases Nat.lt_or_ge (t + 1) 10 with c | c
  · exact c
  · have : 10 * B ≤ (t + 1) * B := Nat.mul_le_mul_right _ c
    rw [Nat.add_mul, Nat.one_mul] at this
    omega
theorem ten_lt {m B : Nat} (h : B < 10 ^ m) : 10 * B < 10 ^ (m + 1) := by rw [Nat.pow_succ]; omega
/-- A store into another block leaves digits. -/
theorem DigC.far {w : World} {A : Option Addr} {n cap g j : Nat} {ds : List Nat} {u : Value} (h : DigC w A n cap ds) (hf : ∀ ad, A = some ad → g ≠ ad.block) : DigC (w.setCell ⟨g, j, none⟩ u) A n cap ds := by
  obtain ⟨h1, h2, h3, h4, h5⟩ := h
  refine ⟨h1, h2, h3, h4, fun hn => ?_⟩
  obtain ⟨b, off, e, hlt, hc⟩ := h5 hn
  refine ⟨b, off, e, by simpa using hlt, fun i hi => ?_⟩
  have := hf _ e
  rw [World.cell?_of_block (w := w) (Below.heap_setCell w ⟨g, j, none⟩ u b (fun h => this h.symm))]
  exact hc i hi
/-- Digits as the source of an append. -/
theorem DigC.src {w : World} {ad : Addr} {n cap : Nat} {ds : List Nat} (h : DigC w (some ad) n cap ds) : ∀ j u, (ds.map mkD_)[j]? = some u → w.cell? (ad.add j) = some u := by
  obtain ⟨h1, h2, h3, h4, h5⟩ := h
  intro j u hu
  have hj : j < ds.length := by
    have := (List.getElem?_eq_some_iff.1 hu).1
    simpa using this
  obtain ⟨b, off, e, hlt, hc⟩ := h5 (by omega)
  injection e with e
  subst e
  have e2 : (⟨b, off, none⟩ : Addr).add j = ⟨b, off + j, none⟩ := Addr.add_lit ..
  rw [e2, hc j (by omega)]
  simp [mkD_, hj] at hu
  rw [← hu]
  simp [List.getD_eq_getElem?_getD, hj]
/-- It returned two of them. -/
def RetQR (w : World) (Q R : Nat) (e : Ending) (w' : World) : Prop := ∃ (A : Option Addr) (n cap : Nat) (ds : List Nat) (A' : Option Addr) (n' cap' : Nat) (ds' : List Nat),
  (DigC w' A n cap ds ∧ Norm ds ∧ dv ds = Q ∧ ∀ ad, A = some ad → w.heap.size ≤ ad.block) ∧ (DigC w' A' n' cap' ds' ∧ Norm ds' ∧ dv ds' = R ∧ ∀ ad, A' = some ad → w.heap.size ≤ ad.block) ∧ e = .returned (.tuple #[.slice A n cap, .slice A' n' cap']) ∧ Below w.heap.size w w'
end Go.Proofs.Ytakofbkbbmpfeaa

namespace Go.Proofs.Ytakofbkbbmpfeaa
open Go.RowKit

theorem cmpI_up {m n : Nat} (h : n ≤ m) : ∃ z, cmpI m n = z ∧ 0 ≤ z := by
  rcases Nat.eq_or_lt_of_le h with e | e
  · exact ⟨0, cmpI_eq e.symm, by omega⟩
  · exact ⟨1, cmpI_gt e, by omega⟩
theorem mkD_one (rs : List Nat) : ∀ u ∈ rs.map mkD_, u.oneCell' = true := by
  intro u hu
  obtain ⟨d, _, rfl⟩ := List.mem_map.1 hu
  rfl
/-- append of digits, nil or not, onto a row of one's own. -/
theorem wpList_append_dig {w : World} {ops : Array Oper} {rest : List Oper} {o : Oper} {a : Act} {Q : Exit → Act → World → Prop} (hgd : o.guard = none) (s x : Operand)
    (ho : o.op = .call { callee := .builtin .append, args := #[s, x], argTypes := #[80, 80] }) (base : Nat) (v : Value) (n : Nat) (xs : List Value) (hs : a.eval s = v) (hown : w.ownsRow base 3 1 v n xs)
    (R : Option Addr) (m c : Nat) (rs : List Nat) (hx : a.eval x = .slice R m c) (hd : DigC w R m c rs) (hn : n + m ≤ 4000000) (hb : base ≤ w.heap.size)
    (h : ∀ v' w', w'.ownsRow base 3 1 v' (n + m) (xs ++ rs.map mkD_) → Below base w w' → wpList Try.prog ops Q rest (a.put o.dst v') w') : wpList Try.prog ops Q (o :: rest) a w := by
  obtain ⟨i0, hi, hz0, hz1, hz2⟩ := info_parts info_int
  cases R with
  | none =>
    obtain ⟨h1, ⟨h2, h3⟩, _⟩ := hd
    obtain rfl := h3 rfl
    obtain rfl : m = 0 := by omega
    obtain rfl : rs = [] := List.eq_nil_of_length_eq_zero h1
    exact wpList_append_own_none hgd s x 80 ho base 3 i0 1 Try.underlying80 hi v n xs hs hown hx (h v w (by simpa using hown) (Below.refl _ _))
  | some ad =>
    exact wpList_append_own w hgd s x 80 ho base 3 i0 (.int .i64 0) 1 8 Try.underlying80 hi hz0 hz1 hz2 rfl (by decide) v n xs hs hown ad m c (rs.map mkD_) hx (by simp [hd.1]) hd.src (mkD_one rs) (by unfold maxLen; omega) (by omega) hb
      fun v' w' h1 h2 _ => h v' w' h1 ((Below.refl _ _).grown h2 hb (own_base hown))
def cellN (w : World) (g p : Nat) : Nat := (intOf ((w.cell? ⟨g, p, none⟩).getD undef)).toNat
theorem cellN_own {w : World} {base g L cap j : Nat} {ds : List Nat} (h : w.ownsRow base 3 1 (.slice (some ⟨g, 0, none⟩) L cap) L (ds.map mkD_)) (hl : ds.length = L) (hj : j < L) : cellN w g j = ds.getD j 0 := by
  unfold cellN
  rw [own_cell h hl hj]
  simp [intOf]
/-- What is left, in memory apart from block g. -/
def RemC (g : Nat) (wr : World) (r : Value) (rs : List Nat) : Prop := ∃ (R : Option Addr) (nr cr : Nat), r = .slice R nr cr ∧ DigC wr R nr cr rs ∧ Norm rs ∧ ∀ ad, R = some ad → g < ad.block
def DivO (w : World) (a b : List Nat) (n : Nat) (r s : Value) (wr : World) : Prop := ∃ (q : Int) (qs rs : List Nat), -1 ≤ q ∧ q < n ∧ s = .int .i64 q ∧ RemC w.heap.size wr r rs ∧ dv rs < dv b ∧ DivN a b qs rs (q + 1).toNat ∧
  wr.ownsRow w.heap.size 3 1 (.slice (some ⟨w.heap.size, 0, none⟩) n n) n (qs.map mkD_) ∧ Below w.heap.size w wr ∧ w.heap.size < wr.heap.size
def DivP (w : World) (a b : List Nat) (n p : Nat) (r : Value) (wr : World) : Prop := ∃ (qs rs : List Nat), RemC w.heap.size wr r rs ∧ qs.getD p 0 * dv b + dv rs < 10 * dv b ∧ DivN a b qs rs p ∧
  wr.ownsRow w.heap.size 3 1 (.slice (some ⟨w.heap.size, 0, none⟩) n n) n (qs.map mkD_) ∧ Below w.heap.size w wr ∧ w.heap.size < wr.heap.size

set_option maxRecDepth 100000 in
set_option maxHeartbeats 1600000 in
theorem divNat_c (A B : Option Addr) (n m ca cb : Nat) (a b : List Nat) (w : World) (ha : DigC w A n ca a) (hb : DigC w B m cb b) (nb : Norm b) (hn : n ≤ 400000) (hm : m ≤ 400000) (h0 : 0 < dv b) :
    Calls Try.prog 65 #[.slice A n ca, .slice B m cb] w (RetQR w (dv a / dv b) (dv a % dv b)) := by
  obtain ⟨i0, hi, hz0, hz1, hz2⟩ := info_parts info_int
  have LA := Lib.hid ha.1
  have LB := Lib.hid hb.1
  have DA := Lib.hid ha.2.2.2.1
  have DB := Lib.hid hb.2.2.2.1
  have HA := Lib.hid ha
  have HB_ := Lib.hid hb
  have NB := Lib.hid nb
  have H0 := Lib.hid h0
  clear ha hb nb h0
  have hmk := run_make_row' (P := Try.prog) 80 3 (.int .i64 0) 8 Try.underlying80 info_int rfl .i64 .i64 n (by omega) (by omega) w
  have HO := Lib.hid (own_made (w := w) n (by omega))
  have HBH := Lib.hid (show Below w.heap.size w (w.alloc (.cells (madeCells #[.int .i64 0] n) 3)) from (Below.refl _ _).alloc (Nat.le_refl _) _)
  go_enter Try.func65, Try.ntmps65
  go_wp2
  go_loopw [7, 8] (fun r s wr => DivO w a b n r s wr) (fun _ s _ => (intOf s + 1).toNat)
  case atStart =>
    refine ⟨(n : Int) - 1, List.replicate n 0, [], by omega, by omega, rfl, ⟨none, 0, 0, rfl, ⟨rfl, ⟨Nat.le_refl _, fun _ => rfl⟩, by omega, by simp, fun h => absurd h (by omega)⟩, Or.inl rfl, fun ad h => by cases h⟩, H0.out, ?_, HO.out, HBH.out, by simp⟩
    rw [show ((n : Int) - 1 + 1).toNat = n by omega, ← LA.out]
    exact divN_0 a b
  case round =>
    obtain ⟨q, qs, rs, hq1, hq2, rfl, ⟨R, nr, cr, rfl, HR, NR, HF⟩, hlt, HD, hown, HB, hsz⟩ := hrel
    clear hmk
    by_cases hq : 0 ≤ q
    · obtain ⟨p, rfl⟩ : ∃ p : Nat, q = p := ⟨q.toNat, by omega⟩
      have hp : p < n := by omega
      have e1 : ((p : Int) + 1).toNat = p + 1 := by omega
      rw [e1] at HD
      obtain ⟨b1, o1, hA, hlt1, hcc⟩ := (HA.out.below HB).2.2.2.2 (by omega)
      have c1 := hcc p hp
      obtain ⟨x, hx⟩ : ∃ x, a.getD p 0 = x := ⟨_, rfl⟩
      have hx9 : x < 10 := by rw [← hx]; exact dig_lt DA.out p
      rw [hx] at c1
      have HX := Lib.hid hx
      have hnr : nr ≤ m := by
        have h1 := norm_len NR (Nat.lt_trans hlt (dv_lt DB.out))
        rw [HR.1, LB.out] at h1
        exact h1
      have HLT := Lib.hid hlt
      have HRL := Lib.hid HR.1
      clear hcc hx e1 hlt
      subst hA
      have hpi : (p : Int) < (n : Int) := by omega
      have ho1 := World.ownsRow_lit (base := wr.heap.size) (e := 3) (size := 1) wr #[.int .i64 (x : Int)] 1 (Nat.le_refl _) (by unfold maxLen; omega) (by simp)
      have HO1 := Lib.hid ho1
      have happ : ∀ (v' : Value) (w1 : World), w1.ownsRow wr.heap.size 3 1 v' (1 + nr) ([.int .i64 (x : Int)] ++ rs.map mkD_) → Below wr.heap.size wr w1 → ∃ (D : Option Addr) (cap : Nat), v' = .slice D (1 + nr) cap ∧ DigC w1 D (1 + nr) cap (x :: rs) ∧ (∀ ad, D = some ad → w.heap.size < ad.block) := by
        intro v' w1 ho hbel
        have hl : (x :: rs).length = 1 + nr := by simp [HRL.out]; omega
        have ho' : w1.ownsRow wr.heap.size 3 1 v' (x :: rs).length ((x :: rs).map mkD_) := by rw [hl]; simpa [mkD_] using ho
        obtain ⟨D, cap, e, hD⟩ := dig_own ho' (by
          intro d hd
          rcases List.mem_cons.1 hd with h | h
          · omega
          · exact HR.2.2.2.1 d h) (by rw [hl]; omega)
        rw [hl] at e hD
        refine ⟨D, cap, e, hD, fun ad h => ?_⟩
        subst e
        have := own_fresh ho ad h
        omega
      have HAPP := Lib.hid happ
      clear ho1 happ
      go_wp2_with (first
        | (at_builtin; refine wpList_append_dig rfl _ _ rfl wr.heap.size _ 1 _ rfl HO1.out R nr cr rs rfl (HR.alloc _) (by omega) (by simp) ?_)
        | go_in)
      intro v' w1 ho1 hb1
      have hbw : Below wr.heap.size wr w1 := ((Below.refl _ _).alloc (Nat.le_refl _) _).trans hb1
      obtain ⟨D, cap, rfl, HD1, HF1⟩ := HAPP.out v' w1 ho1 hbw
      have hown1 := own_below hown hbw
      have HB1 : Below w.heap.size w w1 := HB.trans (hbw.mono (by omega))
      have hsz1 : w.heap.size < w1.heap.size := Nat.lt_of_lt_of_le hsz hbw.size
      have HTH := Lib.hid fun m h => dv_trim (ds := x :: rs) (m := m) h
      clear ho1 hb1 HO1 HAPP hown HB hsz HR hbw
      go_wp2_with fail
      refine (trim_c D _ cap (x :: rs) _ HD1).mono ?_
      rintro e w2 ⟨_, ⟨t, ht, rfl⟩, rfl, rfl⟩
      have H1 := HTH.out t ht
      have H2 := HD1.take (m := t) (by have := ht.1; have h2 := HRL.out; simp at this; omega)
      have hdv : dv ((x :: rs).take t) = a.getD p 0 + 10 * dv rs := by rw [H1.1, HX.out]; rfl
      have HDn := divN_down HD (by rw [LA.out]; exact hp) hdv
      have hq0 : qs.getD p 0 = 0 := HD.2.2.1 p (by omega)
      have hP : DivP w a b n p (.slice D t cap) w1 := ⟨qs, _, ⟨D, t, cap, rfl, H2, H1.2, HF1⟩, by
        rw [hq0, hdv, HX.out]
        have := HLT.out
        omega, HDn, hown1, HB1, hsz1⟩
      have HP := Lib.hid hP
      clear H1 H2 hdv HDn hq0 hP HD HTH HD1 HF1 hown1 ht NR HF HB1 hsz1
      go_wp2
      go_loopw [7] (fun r wx => DivP w a b n p r wx) (fun _ wx => 10 - cellN wx w.heap.size p)
      case atStart => exact HP.out
      case round =>
        clear HP HLT HRL HX c1 hnr hlt1
        obtain ⟨es, ts, ⟨T, nt, ct, rfl, HT, NT, HFT⟩, hten, HE, hown, HB, hsz⟩ := hrel
        have hnt : nt ≤ m + 1 := by
          have h1 := norm_len NT (Nat.lt_of_le_of_lt (show dv ts ≤ 10 * dv b by omega) (ten_lt (dv_lt DB.out)))
          rw [HT.1, LB.out] at h1
          exact h1
        have HES := Lib.hid (HE.1.trans LA.out)
        have hpe := own_cell hown HES.out hp
        have hme := cellN_own hown HES.out hp
        obtain ⟨y, hy⟩ : ∃ y, es.getD p 0 = y := ⟨_, rfl⟩
        rw [hy] at hpe hme hten
        have hy9 : y < 10 := by rw [← hy]; exact dig_lt HE.2.1 p
        have HY := Lib.hid hy
        have HME := Lib.hid hme
        have HTEN := Lib.hid hten
        clear hy hme hten
        have C := cmpNat_c T B nt m ct cb ts b wr HT (HB_.out.below HB) NT NB.out
        by_cases hle : dv b ≤ dv ts
        · obtain ⟨z, hz, hz0⟩ := cmpI_up hle
          rw [hz] at C
          have HC := Lib.hid C
          have hy8 : y + 1 < 10 := times_lt HTEN.out hle
          have HLE := Lib.hid hle
          clear C hz hle
          go_wp2_with fail
          refine HC.out.mono ?_
          rintro e w2 ⟨v, hv, rfl, hb2⟩
          obtain rfl : v = .int .i64 z := hv
          have HT2 := HT.below hb2
          have hown2 := own_below hown hb2
          have HB2 : Below w.heap.size w w2 := HB.trans (hb2.mono (by omega))
          have hsz2 : w.heap.size < w2.heap.size := Nat.lt_of_lt_of_le hsz hb2.size
          clear HC HT hown hb2 HB hsz hpe
          go_wp2_with fail
          refine (subNat_f T B nt m ct cb ts b _ HT2 (HB_.out.below HB2) (by omega) (by have := len_le HT2.2.2.2.1 NB.out HLE.out; rw [HT2.1, LB.out] at this; exact this) HLE.out).mono ?_
          rintro e w3 ⟨U, nu, cu, us, ⟨HU, NU, hU, HFU⟩, rfl, hb3⟩
          have hown3 := own_below hown2 hb3
          have HB3 : Below w.heap.size w w3 := HB2.trans (hb3.mono (by omega))
          have hsz3 : w.heap.size < w3.heap.size := Nat.lt_of_lt_of_le hsz2 hb3.size
          have HFU2 : ∀ ad, U = some ad → w.heap.size < ad.block := fun ad h => Nat.lt_of_lt_of_le hsz2 (HFU ad h)
          have hpe := own_cell hown3 HES.out hp
          rw [HY.out] at hpe
          have fz := hown3.frozenAt p
          have HE2 := divN_once HE (by rw [LA.out]; exact hp) HLE.out hU (by rw [HY.out]; exact hy8)
          have hP : DivP w a b n p (.slice U nu cu) (w3.setCell ⟨w.heap.size, p, none⟩ (.int .i64 (y + 1 : Nat))) := by
            refine ⟨_, us, ⟨U, nu, cu, rfl, HU.far fun ad h => ?_, NU, HFU2⟩, ?_, HE2, own_set' (by rw [HY.out]) hown3, HB3.setCell (Nat.le_refl _) _, by simpa using hsz3⟩
            · have := HFU2 ad h
              omega
            · rw [HY.out]
              have e1 : (es.set p (y + 1)).getD p 0 = y + 1 := by
                simp [List.getD_eq_getElem?_getD, show p < es.length by rw [HES.out]; exact hp]
              rw [e1, hU, Nat.add_mul, Nat.one_mul]
              have := HTEN.out
              have := HLE.out
              omega
          have hmN : cellN (w3.setCell ⟨w.heap.size, p, none⟩ (.int .i64 (y + 1 : Nat))) w.heap.size p = y + 1 := by
            have h := cellN_own (own_set (j := p) (v := y + 1) hown3) (by simp [HES.out]) hp
            rw [h]
            simp [List.getD_eq_getElem?_getD, show p < es.length by rw [HES.out]; exact hp]
          have HP := Lib.hid hP
          have HMN := Lib.hid hmN
          clear hown2 hown3 HB2 HB3 hsz2 HT2 HU NU hU HFU HFU2 HE2 hP hmN hb3 HE NT HFT
          go_wp2
          go_roundw
          case rel => exact HP.out
          case measure =>
            have e1 := HMN.out
            have e2 := HME.out
            simp only [Int.natCast_add] at e1
            rw [e2]
            first | (rw [e1]; omega) | (simp at e1 ⊢; rw [e1]; omega)
        · have hz := cmpI_lt (show dv ts < dv b by omega)
          rw [hz] at C
          have HC := Lib.hid C
          have hltb : dv ts < dv b := by omega
          have HLE := Lib.hid hltb
          clear C hz hle hltb
          go_wp2_with fail
          refine HC.out.mono ?_
          rintro e w2 ⟨v, hv, rfl, hb2⟩
          obtain rfl : v = .int .i64 (-1) := hv
          have HT2 := HT.below hb2
          have hown2 := own_below hown hb2
          have HB2 : Below w.heap.size w w2 := HB.trans (hb2.mono (by omega))
          have hsz2 : w.heap.size < w2.heap.size := Nat.lt_of_lt_of_le hsz hb2.size
          clear HC HT hown hb2 HB hsz hpe
          go_wp2
          go_roundw
          case rel => exact ⟨(p : Int) - 1, es, ts, by omega, by omega, rfl, ⟨T, nt, ct, rfl, HT2, NT, HFT⟩, HLE.out, by rw [show ((p : Int) - 1 + 1).toNat = p by omega]; exact HE, hown2, HB2, hsz2⟩
          case measure => simp [intOf]
    · obtain rfl : q = -1 := by omega
      have hE := divN_end HD hlt
      have HEQ := Lib.hid hE.1
      have HER := Lib.hid hE.2
      have HES := Lib.hid (HD.1.trans LA.out)
      have hown2 : wr.ownsRow w.heap.size 3 1 (.slice (some ⟨w.heap.size, 0, none⟩) n n) qs.length (qs.map mkD_) := by rw [HES.out]; exact hown
      obtain ⟨D, cap, hv, HDD⟩ := dig_own hown2 HD.2.1 (by rw [HES.out]; omega)
      have hv' : D = some ⟨w.heap.size, 0, none⟩ ∧ qs.length = n ∧ cap = n := by
        injection hv with h1 h2 h3
        exact ⟨h1.symm, h2.symm, h3.symm⟩
      obtain ⟨rfl, _, rfl⟩ := hv'
      rw [HES.out] at HDD
      have HDH := Lib.hid HDD
      have HTH := Lib.hid fun m h => dv_trim (ds := qs) (m := m) h
      clear hE hv hown2 HDD HD hlt
      go_wp2_with fail
      refine (trim_c _ _ _ qs _ HDH.out).mono ?_
      rintro e w1 ⟨_, ⟨t, ht, rfl⟩, rfl, rfl⟩
      have H1 := HTH.out t ht
      have H2 := HDH.out.take (m := t) (by have := ht.1; rw [HES.out] at this; exact this)
      rw [HEQ.out] at H1
      go_wp2
      go_ret2
      exact ⟨_, _, _, _, _, _, _, _, ⟨H2, H1.2, H1.1, fun ad h => by injection h with h; subst h; exact Nat.le_refl _⟩, ⟨HR, NR, HER.out, fun ad h => Nat.le_of_lt (HF ad h)⟩, rfl, HB⟩
end Go.Proofs.Ytakofbkbbmpfeaa

namespace Go.Proofs.Ytakofbkbbmpfeaa
open Go.RowKit

theorem lenA {w : World} {A : Option Addr} {n cap k : Nat} {ds : List Nat} (h : DigC w A n cap ds) (hn : Norm ds) (hlt : dv ds < 10 ^ k) : n ≤ k := by
  have := norm_len hn hlt
  rwa [h.1] at this
theorem word_i (a : Int) (w : World) (ha : U64 a) : Calls Try.prog 54 #[.int .u64 a] w (RetN w a.toNat) := by
  obtain ⟨n, rfl⟩ := Int.eq_ofNat_of_zero_le ha.1
  rw [Int.toNat_natCast]
  exact word_c' n w (by have := ha.2; omega)
theorem dig_lit (w : World) (d : Nat) (hd : d < 10) : DigC (w.alloc (.cells #[.int .i64 (d : Int)] 3)) (some ⟨w.heap.size, 0, none⟩) 1 1 [d] := by
  refine ⟨rfl, ⟨Nat.le_refl _, fun h => by cases h⟩, by omega, by simpa using hd, fun _ => ⟨_, _, rfl, by simp, fun j hj => ?_⟩⟩
  obtain rfl : j = 0 := by omega
  simp

set_option maxRecDepth 100000 in
set_option maxHeartbeats 400000 in
theorem radix_c (w : World) : Calls Try.prog 64 #[] w (RetN w 18446744073709551616) := by
  go_enter Try.func64, Try.ntmps64
  go_wp2_with fail
  refine (word_i 18446744073709551615 _ (by unfold U64; omega)).mono ?_
  rintro e w1 ⟨A, n, k, ds, ⟨D, N, E⟩, rfl, hb⟩
  have l1 : n ≤ 20 := lenA D N (by rw [E]; decide)
  have EH := Lib.hid E
  clear E
  have hD2 := D.alloc (.cells #[.int .i64 ((1 : Nat) : Int)] 3)
  have hL := dig_lit w1 1 (by omega)
  have hb2 := hb.alloc hb.size (.cells #[.int .i64 ((1 : Nat) : Int)] 3)
  clear D
  go_wp2_with fail
  refine (addNat_c A (some ⟨w1.heap.size, 0, none⟩) n 1 k 1 ds [1] _ hD2 hL (by omega) (by omega)).mono ?_
  rintro e w2 ⟨A2, n2, k2, ds2, ⟨D2, N2, E2⟩, rfl, hb3⟩
  have E3 : dv ds2 = 18446744073709551616 := by rw [E2, EH.out]; rfl
  have E3H := Lib.hid E3
  clear E2 E3 hD2 hL
  go_wp2
  go_ret
  exact ⟨_, _, _, _, ⟨D2, N2, E3H.out⟩, rfl, hb2.trans (hb3.mono (by have := hb.size; simp; omega))⟩

def withinI (n lo hi : Int) : Int := max lo (min hi n)
set_option maxRecDepth 100000 in
set_option maxHeartbeats 400000 in
theorem within_c (n lo hi : Int) (w : World) : Calls Try.prog 52 #[.int .i64 n, .int .i64 lo, .int .i64 hi] w fun e w' => e = .returned (.int .i64 (withinI n lo hi)) ∧ w = w' := by
  go_enter Try.func52, Try.ntmps52
  go_wp2
  all_goals
    go_ret
    exact ⟨ret_int (by unfold withinI; omega), rfl⟩

theorem dv_ten (k : Nat) : dv ((List.replicate (k + 1) 0).set k 1) = 10 ^ k ∧ Norm ((List.replicate (k + 1) 0).set k 1) ∧ (∀ d ∈ (List.replicate (k + 1) 0).set k 1, d < 10) := by
  refine ⟨?_, Or.inr ?_, mem_set_lt (fun d hd => by rw [List.eq_of_mem_replicate hd]; decide) (by decide)⟩
  · have := dv_set (List.replicate (k + 1) 0) k 1 (by simp)
    rw [dv_rep, getD_rep] at this
    omega
  · simp [List.getD_eq_getElem?_getD]
end Go.Proofs.Ytakofbkbbmpfeaa

namespace Go.Proofs.Ytakofbkbbmpfeaa
open Go.RowKit

theorem dv_drop_le (a : List Nat) (k : Nat) : dv (a.drop k) ≤ dv a := by
  by_cases h : k ≤ a.length
  · have h1 := dv_split a k h
    have h2 : 1 * dv (a.drop k) ≤ 10 ^ k * dv (a.drop k) := Nat.mul_le_mul_right _ (Nat.pow_pos (by decide))
    omega
  · rw [List.drop_of_length_le (by omega)]
    simp [dv]
def ShortI (a : List Nat) (n : Nat) (v s : Value) : Prop := ∃ q : Int, -1 ≤ q ∧ q < n ∧ s = .int .i64 q ∧ v = .int .u64 (dv (a.drop (q + 1).toNat) : Nat)
set_option maxRecDepth 100000 in
set_option maxHeartbeats 800000 in
theorem shortN_c (A : Option Addr) (n cap : Nat) (ds : List Nat) (w : World) (h : DigC w A n cap ds) (hlt : dv ds < 18446744073709551616) :
    Calls Try.prog 67 #[.slice A n cap] w fun e w' => e = .returned (.int .u64 (dv ds : Nat)) ∧ w = w' := by
  have LA := Lib.hid h.1
  have DA := Lib.hid h.2.2.2.1
  have HA := Lib.hid h
  have hn6 := h.2.2.1
  have HLT := Lib.hid hlt
  clear h hlt
  go_enter Try.func67, Try.ntmps67
  go_wp2
  go_loop [3, 4] (fun v s => ShortI ds n v s) (fun _ s => (intOf s + 1).toNat)
  case atStart =>
    refine ⟨(n : Int) - 1, by omega, by omega, rfl, ?_⟩
    rw [List.drop_of_length_le (by rw [LA.out]; omega)]
    rfl
  case round =>
    obtain ⟨q, hq1, hq2, rfl, rfl⟩ := hrel
    by_cases hq : 0 ≤ q
    · obtain ⟨p, rfl⟩ : ∃ p : Nat, q = p := ⟨q.toNat, by omega⟩
      have hp : p < n := by omega
      obtain ⟨b, off, hA, hlt, hc⟩ := HA.out.2.2.2.2 (by omega)
      have cp := hc p hp
      have hd := dv_drop ds p (by rw [LA.out]; exact hp)
      have hle := dv_drop_le ds p
      have e1 : ((p : Int) + 1).toNat = p + 1 := by omega
      rw [e1]
      obtain ⟨x, hx⟩ : ∃ x, ds.getD p 0 = x := ⟨_, rfl⟩
      have hx9 : x < 10 := by rw [← hx]; exact dig_lt DA.out p
      obtain ⟨t, ht⟩ : ∃ t, dv (ds.drop (p + 1)) = t := ⟨_, rfl⟩
      rw [hx] at cp hd
      rw [ht] at hd
      rw [ht]
      have hb : x + 10 * t < 18446744073709551616 := by have := HLT.out; omega
      have HD := Lib.hid hd
      have hpi : (p : Int) < (n : Int) := by omega
      clear hc hx ht hd hle e1
      subst hA
      go_wp2
      go_round
      case rel => exact ⟨(p : Int) - 1, by omega, by omega, rfl, by rw [show ((p : Int) - 1 + 1).toNat = p by omega, HD.out]; go_num⟩
      case measure => simp [intOf]
    · obtain rfl : q = -1 := by omega
      go_wp2
      go_ret
      exact ⟨by simp, rfl⟩
def NS (w0 : World) (a b : Int) (w : World) : Prop := HB w0 [(w0.heap.size, 47, #[.int .u64 a, .int .u64 b])] w
theorem nsMk {w0 w : World} {a b : Int} (h : NS w0 a b w) : NS w0 a b w ∧ w.cell? ⟨w0.heap.size, 0, none⟩ = some (.int .u64 a) ∧ w.cell? ⟨w0.heap.size, 1, none⟩ = some (.int .u64 b) :=
  ⟨h, (HB.two (t := 47) h (by simp)).2⟩
theorem ns0 (w0 : World) (a b : Int) : NS w0 a b (w0.alloc (.cells #[.int .u64 a, .int .u64 b] 47)) :=
  ⟨(Below.refl _ _).alloc (Nat.le_refl _) _, fun x hx => by simp at hx; subst hx; exact Blk.new _ _ _⟩
theorem v2_dig (a b : Int) : b.toNat * 18446744073709551616 + a.toNat = v2 a b := by unfold v2; omega
theorem pow64_20 {a : Int} (h : U64 a) : a.toNat < 10 ^ 20 := by unfold U64 at h; omega

theorem pow64_40 {a : Int} (h : U64 a) : a.toNat * 18446744073709551616 < 10 ^ 40 := by unfold U64 at h; omega

set_option maxRecDepth 100000 in
set_option maxHeartbeats 800000 in
theorem nat2_c (a b : Int) (w : World) (ha : U64 a) (hb : U64 b) : Calls Try.prog 57 #[.agg #[.int .u64 a, .int .u64 b]] w (RetN w (v2 a b)) := by
  have W := Lib.hid (ns0 w a b)
  go_enter Try.func57, Try.ntmps57
  go_wp2
  go_region_held3 (fun w' => NS w a b w' ∧ w'.cell? ⟨w.heap.size, 0, none⟩ = some (.int .u64 a) ∧ w'.cell? ⟨w.heap.size, 1, none⟩ = some (.int .u64 b))
    (first | exact nsMk (HB.drew W.out) | exact nsMk (keepB hbx (by assumption)))
    (first
      | (go_at_call 64; (with_reducible refine (radix_c _).mono ?_); rintro e wx ⟨A2, n2, k2, d2, ⟨D2, N2, E2⟩, rfl, hbx⟩; have l2 : n2 ≤ 20 := lenA D2 N2 (by rw [E2]; decide); have E2h := Lib.hid E2; clear E2; (try replace D1 := D1.below hbx))
      | (go_at_call 63; (with_reducible refine (mulNat_c A1 A2 n1 n2 k1 k2 d1 d2 _ (by exact D1) (by exact D2) (by omega) (by omega)).mono ?_); rintro e wx ⟨A3, n3, k3, d3, ⟨D3, N3, E3⟩, rfl, hbx⟩; have l3 : n3 ≤ 40 := lenA D3 N3 (by rw [E3, E1h.out, E2h.out]; exact pow64_40 hb); have E3h := Lib.hid E3; clear E3)
      | (go_at_call 62; (with_reducible refine (addNat_c A3 A4 n3 n4 k3 k4 d3 d4 _ (by exact D3) (by exact D4) (by omega) (by omega)).mono ?_); rintro e wx ⟨A5, n5, k5, d5, ⟨D5, N5, E5⟩, rfl, hbx⟩; have E5h := Lib.hid E5; clear E5)
      | (go_at_call 54; (with_reducible refine (word_i b _ hb).mono ?_); rintro e wx ⟨A1, n1, k1, d1, ⟨D1, N1, E1⟩, rfl, hbx⟩; have l1 : n1 ≤ 20 := lenA D1 N1 (by rw [E1]; exact pow64_20 hb); have E1h := Lib.hid E1; clear E1)
      | (go_at_call 54; (with_reducible refine (word_i a _ ha).mono ?_); rintro e wx ⟨A4, n4, k4, d4, ⟨D4, N4, E4⟩, rfl, hbx⟩; have l4 : n4 ≤ 20 := lenA D4 N4 (by rw [E4]; exact pow64_20 ha); have E4h := Lib.hid E4; clear E4; (try replace D3 := D3.below hbx)))
  rename_i hHeld
  have E : dv d5 = v2 a b := by rw [E5h.out, E3h.out, E1h.out, E2h.out, E4h.out]; exact v2_dig a b
  have EH := Lib.hid E
  have HBL := hHeld.1.1
  clear E hHeld
  go_wp2
  go_ret
  exact ⟨_, _, _, _, ⟨D5, N5, EH.out⟩, rfl, HBL⟩

end Go.Proofs.Ytakofbkbbmpfeaa

namespace Go.Proofs.Ytakofbkbbmpfeaa
open Go.RowKit

def W2R (N : Nat) (s0 s1 : Int) (p : Bool) : Prop := N < 340282366920938463463374607431768211456 ∧ p = true ∧ U64 s0 ∧ U64 s1 ∧ v2 s0 s1 = N ∨ 340282366920938463463374607431768211456 ≤ N ∧ p = false ∧ s0 = 0 ∧ s1 = 0
theorem w2_no {N : Nat} (h : 18446744073709551616 ≤ N / 18446744073709551616) : W2R N 0 0 false := Or.inr ⟨by omega, rfl, rfl, rfl⟩
theorem w2_yes {N : Nat} (h : N / 18446744073709551616 < 18446744073709551616) : W2R N ((N % 18446744073709551616 : Nat) : Int) ((N / 18446744073709551616 : Nat) : Int) true := by
  refine Or.inl ⟨by omega, rfl, ?_, ?_, ?_⟩
  · unfold U64; omega
  · unfold U64; omega
  · unfold v2; rw [Int.toNat_natCast, Int.toNat_natCast]; omega
theorem rad20 : (18446744073709551616 : Nat) < 10 ^ 20 := by decide
theorem dv_le_pow {w : World} {A : Option Addr} {n cap : Nat} {ds : List Nat} (h : DigC w A n cap ds) : dv ds < 10 ^ n := by
  have := dv_lt h.2.2.2.1
  rwa [h.1] at this
theorem div_len {w : World} {A : Option Addr} {n cap m N : Nat} {ds : List Nat} (h : DigC w A n cap ds) (hn : Norm ds) (e : dv ds = N / 18446744073709551616) (hN : N < 10 ^ m) : n ≤ m :=
  lenA h hn (Nat.lt_of_le_of_lt (by rw [e]; exact Nat.div_le_self _ _) hN)

set_option maxRecDepth 100000 in
set_option maxHeartbeats 800000 in
theorem words2_c (A : Option Addr) (n cap : Nat) (ds : List Nat) (w : World) (h : DigC w A n cap ds) (hn : n ≤ 10000) :
    Calls Try.prog 60 #[.slice A n cap] w (Ret w (IsAgg2Bool (W2R (dv ds)))) := by
  have W := Lib.hid (ns0 w 0 0)
  have h0 := h.alloc (.cells #[.int .u64 0, .int .u64 0] 47)
  obtain ⟨N, hN⟩ : ∃ N, dv ds = N := ⟨_, rfl⟩
  have hNn : N < 10 ^ n := by rw [← hN]; exact dv_le_pow h
  have HNn := Lib.hid hNn
  have HN := Lib.hid hN
  rw [hN]
  clear h hN hNn
  go_enter Try.func60, Try.ntmps60
  go_wp2_with fail
  refine (radix_c _).mono ?_
  rintro e w1 ⟨A1, n1, k1, d1, ⟨D1, N1, E1⟩, rfl, hb1⟩
  have l1 : n1 ≤ 20 := lenA D1 N1 (by rw [E1]; exact rad20)
  have W1 := Lib.hid (W.out.below hb1)
  have h1 := h0.below hb1
  have E1h := Lib.hid E1
  clear W h0 hb1 E1
  go_wp2_with fail
  refine (divNat_c A A1 n n1 cap k1 ds d1 _ h1 D1 N1 (by omega) (by omega) (by rw [E1h.out]; decide)).mono ?_
  rintro e w2 ⟨A2, n2, k2, d2, A3, n3, k3, d3, ⟨D2, N2, E2, -⟩, ⟨D3, N3, E3, -⟩, rfl, hb2⟩
  rw [HN.out, E1h.out] at E2 E3
  have l2 : n2 ≤ n := div_len D2 N2 E2 HNn.out
  have W2 := Lib.hid (W1.out.below hb2)
  have E2h := Lib.hid E2
  have E3h := Lib.hid E3
  clear W1 h1 hb2 E2 E3 D1
  go_wp2_with fail
  refine (radix_c _).mono ?_
  rintro e w3 ⟨A4, n4, k4, d4, ⟨D4, N4, E4⟩, rfl, hb3⟩
  have l4 : n4 ≤ 20 := lenA D4 N4 (by rw [E4]; exact rad20)
  have W3 := Lib.hid (W2.out.below hb3)
  replace D2 := D2.below hb3
  replace D3 := D3.below hb3
  have E4h := Lib.hid E4
  clear W2 hb3 E4
  go_wp2_with fail
  have C := cmpNat_c A2 A4 n2 n4 k2 k4 d2 d4 w3 D2 D4 N2 N4
  rw [E2h.out, E4h.out] at C
  by_cases hle : 18446744073709551616 ≤ N / 18446744073709551616
  · obtain ⟨z, hz, hz0⟩ := cmpI_up hle
    rw [hz] at C
    refine C.mono ?_
    rintro e w4 ⟨v, hv, rfl, hb4⟩
    obtain rfl : v = .int .i64 z := hv
    have W4 := Lib.hid (W3.out.below hb4)
    have H := Lib.hid (w2_no hle)
    have BB := W4.out.blk (g := w.heap.size) (t := 47) (cs := #[.int .u64 0, .int .u64 0]) (by simp)
    have c0 := BB.cell 0
    have c1 := BB.cell 1
    have f0 := BB.frozen 0
    have f1 := BB.frozen 1
    simp at c0 c1
    have hg := BB.lt
    clear C hz W3 hb4 hle
    go_wp2
    exact bodyPost_ret (v := .tuple #[.agg #[.int .u64 0, .int .u64 0], .bool false]) (by simp [results, Try.results60, go_sem, c0, c1]) rfl ⟨_, ⟨_, _, _, H.out, rfl⟩, rfl, (W4.out.1.setCell (p := ⟨w.heap.size, 0, none⟩) (Nat.le_refl _) _).setCell (p := ⟨w.heap.size, 1, none⟩) (Nat.le_refl _) _⟩
  · have hz := cmpI_lt (show N / 18446744073709551616 < 18446744073709551616 by omega)
    rw [hz] at C
    refine C.mono ?_
    rintro e w4 ⟨v, hv, rfl, hb4⟩
    obtain rfl : v = .int .i64 (-1) := hv
    have W4 := Lib.hid (W3.out.below hb4)
    replace D2 := D2.below hb4
    replace D3 := D3.below hb4
    have H := Lib.hid (w2_yes (N := N) (by omega))
    have s2 : dv d2 < 18446744073709551616 := by rw [E2h.out]; omega
    have s3 : dv d3 < 18446744073709551616 := by rw [E3h.out]; omega
    have BB := W4.out.blk (g := w.heap.size) (t := 47) (cs := #[.int .u64 0, .int .u64 0]) (by simp)
    have c0 := BB.cell 0
    have c1 := BB.cell 1
    have f0 := BB.frozen 0
    have f1 := BB.frozen 1
    simp at c0 c1
    have hg := BB.lt
    clear C hz W3 hb4 hle
    go_wp2_with fail
    refine (shortN_c A3 n3 k3 d3 _ D3 s3).mono ?_
    rintro e w5 ⟨rfl, rfl⟩
    go_wp2_with fail
    refine (shortN_c A2 n2 k2 d2 _ D2 s2).mono ?_
    rintro e w5 ⟨rfl, rfl⟩
    rw [E2h.out, E3h.out]
    generalize hX : ((N % 18446744073709551616 : Nat) : Int) = X at H ⊢
    generalize hY : ((N / 18446744073709551616 : Nat) : Int) = Y at H ⊢
    clear hX hY s2 s3 E2h E3h
    go_wp2
    exact bodyPost_ret (v := .tuple #[.agg #[.int .u64 X, .int .u64 Y], .bool true]) (by simp [results, Try.results60, go_sem, c0, c1]) rfl ⟨_, ⟨_, _, _, H.out, rfl⟩, rfl, (W4.out.1.setCell (p := ⟨w.heap.size, 0, none⟩) (Nat.le_refl _) _).setCell (p := ⟨w.heap.size, 1, none⟩) (Nat.le_refl _) _⟩

end Go.Proofs.Ytakofbkbbmpfeaa

namespace Go.Proofs.Ytakofbkbbmpfeaa
open Go.RowKit

theorem w2_fin {N : Nat} {s0 s1 : Int} {p : Bool} (h : W2R N s0 s1 p) (hN : N < 1000000000000000000000000000000) : U64 s0 ∧ U64 s1 ∧ v2 s0 s1 = N := by
  rcases h with ⟨_, _, a, b, e⟩ | ⟨hl, _⟩
  · exact ⟨a, b, e⟩
  · omega
theorem make_is {neg : Bool} {N n : Nat} {s0 s1 : Int} {ds : List Nat} {w : World} {A : Option Addr} {cap : Nat} (h : DigC w A n cap ds) (e : dv ds = N) (hn : Norm ds) (h0 : U64 s0) (h1 : U64 s1) (ev : v2 s0 s1 = N) : DecIs (neg && decide (0 < n)) s0 s1 (zOf neg N) := by
  refine ⟨?_, h0, h1, by rw [zOf_abs]; exact ev⟩
  rw [zOf_neg]
  congr 1
  rcases Nat.eq_zero_or_pos n with h2 | h2
  · have : N = 0 := by
      have h3 := h.1
      rw [h2] at h3
      rw [← e, List.eq_nil_of_length_eq_zero h3]
      rfl
    simp [h2, this]
  · have : N ≠ 0 := by
      intro hN
      have := lenA (k := 0) h hn (by rw [e, hN]; decide)
      omega
    simp [this]; omega

set_option maxRecDepth 100000 in
set_option maxHeartbeats 1600000 in
theorem make_c (neg : Bool) (A : Option Addr) (n cap : Nat) (ds : List Nat) (N : Nat) (s : Int) (w : World) (h : DigC w A n cap ds) (hn : Norm ds) (e : dv ds = N) (hN : N < 1000000000000000000000000000000) (h0 : 0 ≤ s) (h9 : s ≤ 9) :
    Calls Try.prog 53 #[.bool neg, .slice A n cap, .int .i64 s] w (Ret w (IsDecE (zOf neg N) s 0)) := by
  have l30 : n ≤ 30 := lenA h hn (by rw [e]; exact hN)
  have W : HB w [(w.heap.size, 49, #[.bool false, .int .u64 0, .int .u64 0, .int .i64 0])] (w.alloc (.cells #[.bool false, .int .u64 0, .int .u64 0, .int .i64 0] 49)) := (HB.start (Below.refl _ w)).push #[.bool false, .int .u64 0, .int .u64 0, .int .i64 0] 49
  have D := Lib.hid (h.alloc (.cells #[.bool false, .int .u64 0, .int .u64 0, .int .i64 0] 49))
  have HN := Lib.hid hn
  have HE := Lib.hid e
  have HNN := Lib.hid hN
  have HH := Lib.hid h
  clear h hn e hN
  have g1 : decide (s < 0) = false := by simp; omega
  have g2 : decide (9 < s) = false := by simp; omega
  have g3 : decide ((30 : Int) < (n : Int)) = false := by simp; omega
  cases neg
  · go_enter Try.func53, Try.ntmps53
    go_wp2_with fail
    refine (words2_c A n cap ds _ D.out (by omega)).mono ?_
    rintro e w1 ⟨_, ⟨s0, s1, p, HW, rfl⟩, rfl, hb⟩
    replace W := W.below hb
    clear hb
    rw [HE.out] at HW
    obtain ⟨hs0, hs1, es⟩ := w2_fin HW HNN.out
    have HD := make_is (neg := false) HH.out HE.out HN.out hs0 hs1 es
    have HDh := Lib.hid HD
    clear HD HW es
    obtain ⟨lq, q0, q1, q2, q3⟩ := HB.dec (t := 49) (g := w.heap.size) (a := .bool false) (b := .int .u64 0) (c := .int .u64 0) (d := .int .i64 0) W (by simp)
    have Bz := HB.blk (g := w.heap.size) (t := 49) (cs := #[.bool false, .int .u64 0, .int .u64 0, .int .i64 0]) W (by simp)
    have fz0 := Bz.frozen 0
    have fz1 := Bz.frozen 1
    have fz2 := Bz.frozen 2
    have fz3 := Bz.frozen 3
    clear Bz
    have HB1 := Lib.hid W.1
    clear W
    go_wp2
    exact bodyPost_ret (v := .tuple #[.agg #[.bool false, .int .u64 s0, .int .u64 s1, .int .i64 s], .int .i64 0]) (by simp [results, Try.results53, go_sem, q0, q1, q2, q3, lq]) rfl ⟨_, ⟨_, _, _, HDh.out, rfl⟩, rfl, bel_alloc (bel4 HB1.out (Nat.le_refl _)) _⟩
  · rcases Nat.eq_zero_or_pos n with hz | hz
    · have hzH := Lib.hid hz
      have g4 : decide ((0 : Int) < (n : Int)) = false := by simp; omega
      clear hz
      go_enter Try.func53, Try.ntmps53
      go_wp2_with fail
      refine (words2_c A n cap ds _ D.out (by omega)).mono ?_
      rintro e w1 ⟨_, ⟨s0, s1, p, HW, rfl⟩, rfl, hb⟩
      replace W := W.below hb
      clear hb
      rw [HE.out] at HW
      obtain ⟨hs0, hs1, es⟩ := w2_fin HW HNN.out
      have HD := make_is (neg := true) HH.out HE.out HN.out hs0 hs1 es
      rw [show decide (0 < n) = false by have := hzH.out; simp; omega] at HD
      have HDh := Lib.hid HD
      clear HD HW es
      obtain ⟨lq, q0, q1, q2, q3⟩ := HB.dec (t := 49) (g := w.heap.size) (a := .bool false) (b := .int .u64 0) (c := .int .u64 0) (d := .int .i64 0) W (by simp)
      have Bz := HB.blk (g := w.heap.size) (t := 49) (cs := #[.bool false, .int .u64 0, .int .u64 0, .int .i64 0]) W (by simp)
      have fz0 := Bz.frozen 0
      have fz1 := Bz.frozen 1
      have fz2 := Bz.frozen 2
      have fz3 := Bz.frozen 3
      clear Bz
      have HB1 := Lib.hid W.1
      clear W
      go_wp2
      exact bodyPost_ret (v := .tuple #[.agg #[.bool false, .int .u64 s0, .int .u64 s1, .int .i64 s], .int .i64 0]) (by simp [results, Try.results53, go_sem, q0, q1, q2, q3, lq, hzH.out]) rfl ⟨_, ⟨_, _, _, HDh.out, rfl⟩, rfl, bel_alloc (bel4 HB1.out (Nat.le_refl _)) _⟩
    · have hzH := Lib.hid hz
      have g4 : (0 : Int) < (n : Int) := by omega
      clear hz
      go_enter Try.func53, Try.ntmps53
      go_wp2_with fail
      refine (words2_c A n cap ds _ D.out (by omega)).mono ?_
      rintro e w1 ⟨_, ⟨s0, s1, p, HW, rfl⟩, rfl, hb⟩
      replace W := W.below hb
      clear hb
      rw [HE.out] at HW
      obtain ⟨hs0, hs1, es⟩ := w2_fin HW HNN.out
      have HD := make_is (neg := true) HH.out HE.out HN.out hs0 hs1 es
      rw [show decide (0 < n) = true by have := hzH.out; simp; omega] at HD
      have HDh := Lib.hid HD
      clear HD HW es
      obtain ⟨lq, q0, q1, q2, q3⟩ := HB.dec (t := 49) (g := w.heap.size) (a := .bool false) (b := .int .u64 0) (c := .int .u64 0) (d := .int .i64 0) W (by simp)
      have Bz := HB.blk (g := w.heap.size) (t := 49) (cs := #[.bool false, .int .u64 0, .int .u64 0, .int .i64 0]) W (by simp)
      have fz0 := Bz.frozen 0
      have fz1 := Bz.frozen 1
      have fz2 := Bz.frozen 2
      have fz3 := Bz.frozen 3
      clear Bz
      have HB1 := Lib.hid W.1
      clear W
      go_wp2
      exact bodyPost_ret (v := .tuple #[.agg #[.bool true, .int .u64 s0, .int .u64 s1, .int .i64 s], .int .i64 0]) (by simp [results, Try.results53, go_sem, q0, q1, q2, q3, lq, hzH.out]) rfl ⟨_, ⟨_, _, _, HDh.out, rfl⟩, rfl, bel_alloc (bel4 HB1.out (Nat.le_refl _)) _⟩

set_option maxRecDepth 100000 in
set_option maxHeartbeats 1600000 in
theorem refOf_c (z s : Int) (w : World) (hlo : -9223372036854775808 ≤ z) (hhi : z ≤ 9223372036854775807) (h0 : 0 ≤ s) (h9 : s ≤ 9) :
    Calls Try.prog 43 #[.int .i64 z, .int .i64 s] w (Ret w (IsDec z s)) := by
  have W : HB w [(w.heap.size, 49, #[.bool false, .int .u64 0, .int .u64 0, .int .i64 0])] (w.alloc (.cells #[.bool false, .int .u64 0, .int .u64 0, .int .i64 0] 49)) := (HB.start (Below.refl _ w)).push #[.bool false, .int .u64 0, .int .u64 0, .int .i64 0] 49
  obtain ⟨N, hN⟩ : ∃ N, z.natAbs = N := ⟨_, rfl⟩
  have u : U64 (N : Int) := by unfold U64; omega
  have hN30 : N < 1000000000000000000000000000000 := by omega
  have HN30 := Lib.hid hN30
  clear hN30
  have ew : withinI s 0 9 = s := by unfold withinI; omega
  have EW := Lib.hid ew
  clear ew
  by_cases hz : z < 0
  · have ez : zOf true N = z := by unfold zOf; simp; omega
    have e1 : IntKind.u64.wrap z = z + 18446744073709551616 := by rw [IntKind.wrap_u64]; omega
    have e2 : IntKind.u64.wrap (-(z + 18446744073709551616)) = (N : Int) := by rw [IntKind.wrap_u64]; omega
    have EZ := Lib.hid ez
    clear ez hN
    go_enter Try.func43, Try.ntmps43
    go_wp2_with fail
    refine (word_c' N _ (by unfold U64 at u; omega)).mono ?_
    rintro e w1 ⟨A, n, k, ds, ⟨D, HN, E⟩, rfl, hb⟩
    replace W := W.below hb
    clear hb
    have EH := Lib.hid E
    clear E
    go_wp2_with fail
    refine (within_c s 0 9 _).mono ?_
    rintro e w2 ⟨rfl, rfl⟩
    rw [EW.out]
    go_wp2_with fail
    refine (make_c true A n k ds N s _ D HN EH.out HN30.out h0 h9).mono ?_
    rintro e w3 ⟨_, ⟨m, c, d, HD, rfl⟩, rfl, hb⟩
    replace W := W.below hb
    clear hb D
    rw [EZ.out] at HD
    have HDh := Lib.hid HD
    clear HD
    obtain ⟨lq, q0, q1, q2, q3⟩ := HB.dec (t := 49) (g := w.heap.size) (a := .bool false) (b := .int .u64 0) (c := .int .u64 0) (d := .int .i64 0) W (by simp)
    have Bz := HB.blk (g := w.heap.size) (t := 49) (cs := #[.bool false, .int .u64 0, .int .u64 0, .int .i64 0]) W (by simp)
    have fz0 := Bz.frozen 0
    have fz1 := Bz.frozen 1
    have fz2 := Bz.frozen 2
    have fz3 := Bz.frozen 3
    clear Bz
    have HB1 := Lib.hid W.1
    clear W
    go_wp2
    exact bodyPost_ret (v := .agg #[.bool m, .int .u64 c, .int .u64 d, .int .i64 s]) (by simp [results, Try.results43, go_sem, q0, q1, q2, q3, lq]) rfl ⟨_, ⟨_, _, _, HDh.out, rfl⟩, rfl, bel_alloc (bel4 HB1.out (Nat.le_refl _)) _⟩
  · have ez : zOf false N = z := by unfold zOf; simp; omega
    have e1 : IntKind.u64.wrap z = (N : Int) := by rw [IntKind.wrap_u64]; omega
    have g1 : decide (z < 0) = false := by simp; omega
    have EZ := Lib.hid ez
    clear ez hN
    go_enter Try.func43, Try.ntmps43
    go_wp2_with fail
    refine (word_c' N _ (by unfold U64 at u; omega)).mono ?_
    rintro e w1 ⟨A, n, k, ds, ⟨D, HN, E⟩, rfl, hb⟩
    replace W := W.below hb
    clear hb
    have EH := Lib.hid E
    clear E
    go_wp2_with fail
    refine (within_c s 0 9 _).mono ?_
    rintro e w2 ⟨rfl, rfl⟩
    rw [EW.out]
    go_wp2_with fail
    refine (make_c false A n k ds N s _ D HN EH.out HN30.out h0 h9).mono ?_
    rintro e w3 ⟨_, ⟨m, c, d, HD, rfl⟩, rfl, hb⟩
    replace W := W.below hb
    clear hb D
    rw [EZ.out] at HD
    have HDh := Lib.hid HD
    clear HD
    obtain ⟨lq, q0, q1, q2, q3⟩ := HB.dec (t := 49) (g := w.heap.size) (a := .bool false) (b := .int .u64 0) (c := .int .u64 0) (d := .int .i64 0) W (by simp)
    have Bz := HB.blk (g := w.heap.size) (t := 49) (cs := #[.bool false, .int .u64 0, .int .u64 0, .int .i64 0]) W (by simp)
    have fz0 := Bz.frozen 0
    have fz1 := Bz.frozen 1
    have fz2 := Bz.frozen 2
    have fz3 := Bz.frozen 3
    clear Bz
    have HB1 := Lib.hid W.1
    clear W
    go_wp2
    exact bodyPost_ret (v := .agg #[.bool m, .int .u64 c, .int .u64 d, .int .i64 s]) (by simp [results, Try.results43, go_sem, q0, q1, q2, q3, lq]) rfl ⟨_, ⟨_, _, _, HDh.out, rfl⟩, rfl, bel_alloc (bel4 HB1.out (Nat.le_refl _)) _⟩

end Go.Proofs.Ytakofbkbbmpfeaa
