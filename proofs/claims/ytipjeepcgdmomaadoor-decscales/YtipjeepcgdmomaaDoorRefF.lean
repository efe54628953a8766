/- Package pyxref1: SubNat. -/
import Derived.Test.YtipjeepcgdmomaaDoorRefE
namespace Go.Proofs.YtipjeepcgdmomaaDoor
open Go.RowKit

def SubI (a b ds : List Nat) (k c : Nat) : Prop := ds.length = k ∧ (∀ d ∈ ds, d < 10) ∧ c ≤ 1 ∧ dv ds + dv (b.take k) + (if c = 0 then 0 else 10 ^ k) = dv (a.take k) + 2 * (if c = 0 then 0 else 10 ^ k)
theorem subI_0 (a b : List Nat) : SubI a b [] 0 0 := ⟨rfl, by simp, by omega, by simp [dv]⟩
theorem subI_val {a b ds : List Nat} {k c : Nat} (h : SubI a b ds k c) : dv ds + dv (b.take k) = dv (a.take k) + c * 10 ^ k := by
  obtain ⟨_, _, h3, h4⟩ := h
  rcases (show c = 0 ∨ c = 1 by omega) with rfl | rfl
  · simpa using h4
  · simp at h4 ⊢; omega
theorem subI_mk {a b ds : List Nat} {k c : Nat} (h1 : ds.length = k) (h2 : ∀ d ∈ ds, d < 10) (h3 : c ≤ 1) (h4 : dv ds + dv (b.take k) = dv (a.take k) + c * 10 ^ k) : SubI a b ds k c := by
  refine ⟨h1, h2, h3, ?_⟩
  rcases (show c = 0 ∨ c = 1 by omega) with rfl | rfl
  · simpa using h4
  · simp at h4 ⊢; omega
theorem dig_snoc_lt {ds : List Nat} {s : Nat} (h : ∀ d ∈ ds, d < 10) (hs : s < 10) : ∀ d ∈ ds ++ [s], d < 10 := by
  intro d hd
  rcases List.mem_append.1 hd with hd | hd
  · exact h d hd
  · simp at hd; omega
/-- A digit that needs no borrowing. -/
theorem subI_ge {a b ds : List Nat} {k c x y s : Nat} (ha : ∀ d ∈ a, d < 10) (h : SubI a b ds k c) (hx : a.getD k 0 = x) (hy : b.getD k 0 = y) (e : x = s + y + c) : SubI a b (ds ++ [s]) (k + 1) 0 := by
  have h4 := subI_val h
  obtain ⟨h1, h2, h3, _⟩ := h
  have x9 := dig_lt ha k
  refine subI_mk (by simp [h1]) (dig_snoc_lt h2 (by omega)) (by omega) ?_
  rw [dv_snoc, h1, dv_take, dv_take, hx, hy]
  have : x * 10 ^ k = s * 10 ^ k + y * 10 ^ k + c * 10 ^ k := by rw [e, Nat.add_mul, Nat.add_mul]
  omega
/-- One that does. -/
theorem subI_lt {a b ds : List Nat} {k c x y s : Nat} (hb : ∀ d ∈ b, d < 10) (h : SubI a b ds k c) (hx : a.getD k 0 = x) (hy : b.getD k 0 = y) (e : x + 10 = s + y + c) (hlt : x < y + c) : SubI a b (ds ++ [s]) (k + 1) 1 := by
  have h4 := subI_val h
  obtain ⟨h1, h2, h3, _⟩ := h
  have y9 := dig_lt hb k
  refine subI_mk (by simp [h1]) (dig_snoc_lt h2 (by omega)) (by omega) ?_
  rw [dv_snoc, h1, dv_take, dv_take, hx, hy, Nat.pow_succ]
  have : x * 10 ^ k + 10 * 10 ^ k = s * 10 ^ k + y * 10 ^ k + c * 10 ^ k := by rw [← Nat.add_mul, ← Nat.add_mul, ← Nat.add_mul, e]
  omega
theorem subI_end {a b ds : List Nat} {c : Nat} (h : SubI a b ds a.length c) (hl : b.length ≤ a.length) (hle : dv b ≤ dv a) : dv ds = dv a - dv b := by
  have h4 := subI_val h
  obtain ⟨h1, h2, h3, _⟩ := h
  have h5 := dv_lt h2
  rw [List.take_length, List.take_of_length_le hl] at h4
  rw [h1] at h5
  rcases (show c = 0 ∨ c = 1 by omega) with rfl | rfl <;> omega

theorem quiet_same {P : Program} {f : FuncId} {args : Array Value} {w : World} {n : Nat} {v : Value} (h : Calls P f args (w.drewN n) fun e w' => e = .returned v ∧ w.drewN n = w') :
    Calls P f args (w.drewN n) fun e w'' => e = .returned v ∧ ∃ m, w'' = w.drewN m := h.mono fun _ _ ⟨he, hm⟩ => ⟨he, n, hm.symm⟩

theorem new1 {w w2 : World} {t : TypeId} {v v' : Value} (hv : v' = v) (hw : w2 = w.alloc (.cells #[v'] t)) : ∀ (j : Nat) (u : Value), [v][j]? = some u → w2.cell? ((⟨w.heap.size, 0, none⟩ : Addr).add j) = some u := by
  subst hv
  subst hw
  intro j u hj
  match j, hj with
  | 0, hj =>
    simp at hj
    subst hj
    simp [Addr.add]

/-- .. in memory that was not there before. -/
def RetF (w : World) (N : Nat) (e : Ending) (w' : World) : Prop := ∃ (A : Option Addr) (n cap : Nat) (ds : List Nat), (DigC w' A n cap ds ∧ Norm ds ∧ dv ds = N ∧ ∀ ad, A = some ad → w.heap.size ≤ ad.block) ∧ e = .returned (.slice A n cap) ∧ Below w.heap.size w w'
theorem own_fresh {w : World} {base : Nat} {e : TypeId} {size n m cap : Nat} {A : Option Addr} {xs : List Value} (h : w.ownsRow base e size (.slice A m cap) n xs) : ∀ ad, A = some ad → base ≤ ad.block := by
  intro ad hA
  subst hA
  exact own_base h _ rfl

set_option maxRecDepth 100000 in
set_option maxHeartbeats 1600000 in
theorem subNat_f (A B : Option Addr) (n m ca cb : Nat) (a b : List Nat) (w : World) (ha : DigC w A n ca a) (hb : DigC w B m cb b) (hn : n ≤ 900000) (hmn : m ≤ n) (hle : dv b ≤ dv a) :
    Calls Tryd.prog 59 #[.slice A n ca, .slice B m cb] w (RetF w (dv a - dv b)) := by
  obtain ⟨i0, hi, hz0, hz1, hz2⟩ := info_parts info_int
  have LA := Lib.hid ha.1
  have LB := Lib.hid hb.1
  have DA := Lib.hid ha.2.2.2.1
  have DB := Lib.hid hb.2.2.2.1
  have HA := Lib.hid ha
  have HB_ := Lib.hid hb
  have HLE := Lib.hid hle
  clear ha hb hle
  go_enter Tryd.func59, Tryd.ntmps59
  go_wp2
  go_loopw [5, 6, 7] (fun v s q wr => ∃ (k c : Nat) (ds : List Nat), k ≤ n ∧ s = .int .i64 c ∧ q = .int .i64 k ∧ SubI a b ds k c ∧ wr.ownsRow w.heap.size 3 1 v ds.length (ds.map mkD_) ∧ Below w.heap.size w wr) (fun _ _ q _ => n - (intOf q).toNat)
  case atStart => exact ⟨0, 0, [], by omega, rfl, rfl, subI_0 a b, World.ownsRow_nil _ _ _ _, Below.refl _ _⟩
  case round =>
    obtain ⟨k, c, ds, hk, rfl, rfl, HI, hown, HB⟩ := hrel
    have hc1 := HI.2.2.1
    have hsz := HB.size
    have HL := Lib.hid HI.1
    have hdl : ds.length ≤ 900001 := by rw [HL.out]; omega
    by_cases hlt : k < n
    · obtain ⟨b1, o1, hA, hlt1, hcc⟩ := (HA.out.below HB).2.2.2.2 (by omega)
      have c1 := hcc k hlt
      obtain ⟨x, hx⟩ : ∃ x, a.getD k 0 = x := ⟨_, rfl⟩
      obtain ⟨y, hy⟩ : ∃ y, b.getD k 0 = y := ⟨_, rfl⟩
      have hx9 : x < 10 := by rw [← hx]; exact dig_lt DA.out k
      have hy9 : y < 10 := by rw [← hy]; exact dig_lt DB.out k
      rw [hx] at c1
      have HX := Lib.hid hx
      have HY := Lib.hid hy
      have HCC : ∀ w1, Below wr.heap.size wr w1 → Calls Tryd.prog 78 #[.slice B m cb, .int .i64 k] w1 fun e w' => e = .returned (.int .i64 (y : Nat)) ∧ w1 = w' := by
        intro w1 h1
        have := digit_c B m cb k b w1 ((HB_.out.below HB).below h1)
        rwa [hy] at this
      have HC := Lib.hid HCC
      clear hcc hx hy HCC
      subst hA
      have hki : (k : Int) < (n : Int) := by omega
      by_cases hs : x < y + c
      · obtain ⟨s, hsd⟩ : ∃ s, x + 10 = s + y + c := ⟨x + 10 - y - c, by omega⟩
        have HI2 := subI_lt DB.out HI HX.out HY.out hsd hs
        have HSD := Lib.hid hsd
        have hneg : (x : Int) - (y : Int) - (c : Int) < 0 := by omega
        have hw1 : IntKind.i64.wrap ((x : Int) - (y : Int)) = (x : Int) - (y : Int) := IntWalk.i64_in _ (by omega)
        have hw2 : IntKind.i64.wrap ((x : Int) - (y : Int) - (c : Int)) = (x : Int) - (y : Int) - (c : Int) := IntWalk.i64_in _ (by omega)
        have hs10 : (x : Int) - (y : Int) - (c : Int) + 10 = (s : Int) := by omega
        have HS10 := Lib.hid hs10
        have hs9 : s < 10 := by omega
        clear hs10 hsd
        go_wp2
        go_quiet ((go_at_call 78; exact quiet_same (HC.out _ (bel_drewN (Below.refl _ _) _))))
        clear hw1 hw2
        go_wp2_with (first
          | (at_builtin; refine wpList_append_own _ rfl _ _ 38 rfl w.heap.size 3 i0 (.int .i64 0) 1 8 Tryd.underlying38 hi hz0 hz1 hz2 rfl (by decide) _ _ _ rfl (hown.alloc _) ⟨wr.heap.size, 0, none⟩ 1 1 [.int .i64 (s : Int)] rfl rfl (new1 (w := wr.drewN nq) (by rw [HS10.out]) rfl) (by intro u hu; simp at hu; subst hu; rfl) (by unfold maxLen; omega) (by omega) (by simp; omega) ?_)
          | go_in)
        intro v' w1 hown' hgrow _
        have HB2 : Below w.heap.size w w1 := ((bel_drewN HB _).alloc hsz _).grown hgrow (by simp; omega) (own_base hown)
        have hown2 : w1.ownsRow w.heap.size 3 1 v' (ds ++ [s]).length ((ds ++ [s]).map mkD_) := by
          rw [List.length_append, List.length_singleton, List.map_append]
          simpa [mkD_] using hown'
        clear hown' hgrow
        go_wp2
        go_roundw
        case rel => exact ⟨k + 1, 1, _, by omega, rfl, by go_num, HI2, hown2, HB2⟩
        case measure => simp [intOf]; omega
      · obtain ⟨s, hsd⟩ : ∃ s, x = s + y + c := ⟨x - y - c, by omega⟩
        have HI2 := subI_ge DA.out HI HX.out HY.out hsd
        have hneg : ¬ (x : Int) - (y : Int) - (c : Int) < 0 := by omega
        have hw1 : IntKind.i64.wrap ((x : Int) - (y : Int)) = (x : Int) - (y : Int) := IntWalk.i64_in _ (by omega)
        have hw2 : IntKind.i64.wrap ((x : Int) - (y : Int) - (c : Int)) = (x : Int) - (y : Int) - (c : Int) := IntWalk.i64_in _ (by omega)
        have hs10 : (x : Int) - (y : Int) - (c : Int) = (s : Int) := by omega
        have HS10 := Lib.hid hs10
        have hs9 : s < 10 := by omega
        clear hs10 hsd
        go_wp2
        go_quiet ((go_at_call 78; exact quiet_same (HC.out _ (bel_drewN (Below.refl _ _) _))))
        clear hw1 hw2
        go_wp2_with (first
          | (at_builtin; refine wpList_append_own _ rfl _ _ 38 rfl w.heap.size 3 i0 (.int .i64 0) 1 8 Tryd.underlying38 hi hz0 hz1 hz2 rfl (by decide) _ _ _ rfl (hown.alloc _) ⟨wr.heap.size, 0, none⟩ 1 1 [.int .i64 (s : Int)] rfl rfl (new1 (w := wr.drewN nq) (by rw [HS10.out]) rfl) (by intro u hu; simp at hu; subst hu; rfl) (by unfold maxLen; omega) (by omega) (by simp; omega) ?_)
          | go_in)
        intro v' w1 hown' hgrow _
        have HB2 : Below w.heap.size w w1 := ((bel_drewN HB _).alloc hsz _).grown hgrow (by simp; omega) (own_base hown)
        have hown2 : w1.ownsRow w.heap.size 3 1 v' (ds ++ [s]).length ((ds ++ [s]).map mkD_) := by
          rw [List.length_append, List.length_singleton, List.map_append]
          simpa [mkD_] using hown'
        clear hown' hgrow
        go_wp2
        go_roundw
        case rel => exact ⟨k + 1, 0, _, by omega, rfl, by go_num, HI2, hown2, HB2⟩
        case measure => simp [intOf]; omega
    · have hkn : k = n := by omega
      have hE : dv ds = dv a - dv b := by
        have h := HI
        rw [hkn, ← LA.out] at h
        exact subI_end h (by rw [LA.out, LB.out]; omega) HLE.out
      have HE := Lib.hid hE
      obtain ⟨D, cap, rfl, HD⟩ := dig_own hown HI.2.1 (by rw [HL.out]; omega)
      have HTH := Lib.hid fun m h => dv_trim (ds := ds) (m := m) h
      have HF := Lib.hid (own_fresh hown)
      clear hE hkn hown
      go_wp2_with fail
      refine (trim_c D _ cap ds _ HD).mono ?_
      rintro e w1 ⟨_, ⟨t, ht, rfl⟩, rfl, rfl⟩
      have H1 := HTH.out t ht
      have H2 := HD.take ht.1
      rw [HE.out] at H1
      go_wp2
      go_ret
      exact ⟨_, _, _, _, ⟨H2, H1.2, H1.1, HF.out⟩, rfl, HB⟩
end Go.Proofs.YtipjeepcgdmomaaDoor
