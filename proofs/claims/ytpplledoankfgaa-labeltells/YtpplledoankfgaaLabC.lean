/- Package label: Print; PrintLabel of pyxref4. -/
import Derived.Test.YtpplledoankfgaaLabB
namespace Go.Proofs.Ytpplledoankfgaa
open Go.RowKit
theorem NsA.grown {w w' : World} {A : Option Addr} {L : List Nat} {B n : Nat} {v : Value} {xs : List Value} (h : NsA w A L) (ho : w.ownsRow B 5 1 v n xs) (hg : w.grownBy w' v.ownBlock) : NsA w' A L := fun j hj => by
  obtain ⟨g, cur, e, hh, hc⟩ := h j hj
  obtain ⟨g', e', hlt, _⟩ := h.lt j hj
  rw [e] at e'
  injection e' with e'
  injection e' with e'
  subst e'
  have hne : some g ≠ v.ownBlock := by
    intro hv
    rcases ho.2 with ⟨rfl, _⟩ | ⟨k, cap, cur', rfl, _, hk, _⟩
    · simp [Value.ownBlock] at hv
    · simp only [Value.ownBlock] at hv
      injection hv with hv
      subst hv
      rw [hh] at hk
      injection hk with hk
      injection hk with _ hk
      exact absurd hk (by decide)
  have hb := hg.block g hlt hne
  exact ⟨g, cur, e, by rw [hb]; exact hh, by rw [World.cell?_of_block (a := ⟨g, j, none⟩) hb]; exact hc⟩
theorem own_lit (w : World) {cs : Array Value} {l : List UInt8} {n : Nat} (h : cs = (Lib.byteCells l).toArray) (hn : l.length = n) (hm : n ≤ 281474976710656) : (w.alloc (.cells cs 5)).ownsRow w.heap.size 5 1 (.slice (some ⟨w.heap.size, 0, none⟩) n n) n (Lib.byteCells l) := by
  subst h
  refine ⟨by rw [Lib.byteCells_length, hn, Nat.mul_one], .inr ⟨_, n, (Lib.byteCells l).toArray, rfl, Nat.le_refl _, heap_alloc_new w _, Nat.le_refl _, by unfold maxLen; omega, ?_, ?_⟩⟩
  · simp only [List.size_toArray, Lib.byteCells_length]
    omega
  · simp only
    rw [List.take_of_length_le (by rw [Lib.byteCells_length]; omega)]
theorem own_below {w w' : World} {base : Nat} {e : TypeId} {size n : Nat} {v : Value} {xs : List Value} (h : w.ownsRow base e size v n xs) (hb : Below w.heap.size w w') : w'.ownsRow base e size v n xs := by
  refine ⟨h.1, ?_⟩
  rcases h.2 with h | ⟨g, cap, cur, hv, h1, hg, h2⟩
  · exact .inl h
  · have hlt : g < w.heap.size := by
      rcases Nat.lt_or_ge g w.heap.size with c | c
      · exact c
      · rw [Array.getElem?_eq_none c] at hg; cases hg
    exact .inr ⟨g, cap, cur, hv, h1, (hb.block g hlt).trans hg, h2⟩
theorem bytes_app (a b : List UInt8) : (⟨a.toArray⟩ ++ ⟨b.toArray⟩ : ByteArray) = ⟨(a ++ b).toArray⟩ := by
  apply ByteArray.ext
  simp
theorem own_some {w : World} {base : Nat} {e : TypeId} {size n : Nat} {v : Value} {xs : List Value} (hn : 0 < n) (h : w.ownsRow base e size v n xs) : v ≠ .slice none 0 0 := by
  rintro rfl
  rcases h.2 with ⟨_, h0⟩ | ⟨_, _, _, h1, _⟩
  · omega
  · cases h1
def txt (d : UInt8) (L : List Nat) (j : Nat) : List UInt8 := d :: 58 :: (L.take j).map dg
theorem txt_len {d : UInt8} {L : List Nat} {j : Nat} (h : j ≤ L.length) : (txt d L j).length = 2 + j := by
  simp only [txt, List.length_cons, List.length_map, List.length_take]
  omega
theorem txt_next {d : UInt8} {L : List Nat} {j : Nat} (h : j < L.length) : txt d L (j + 1) = txt d L j ++ [dg L[j]] := by
  simp only [txt, List.take_succ_eq_append_getElem h, List.map_append, List.map_cons, List.map_nil, List.cons_append]
def PrRel (W : World) (d : UInt8) (A : Option Addr) (L : List Nat) (i v : Value) (wr : World) : Prop :=
  ∃ j : Nat, j ≤ L.length ∧ i = .int .i64 j ∧ wr.ownsRow W.heap.size 5 1 v (2 + j) (Lib.byteCells (txt d L j)) ∧ Below W.heap.size W wr ∧ NsA wr A L
set_option maxRecDepth 100000 in
set_option maxHeartbeats 1600000 in
theorem print_c (n : Nat) (x v : Int) (w : World) (hx : x = (n : Int)) (hn : n < 18446744073709551616) : Calls Try.prog 16 #[.agg #[.int .u64 x, .int .i64 v]] w fun e w' => e = .returned (.string ⟨(printL n v).toArray⟩) ∧ Below w.heap.size w w' := by
  subst hx
  obtain ⟨i0, hi, hz0, hz1, hz2⟩ := info_parts Try.i8
  have HRC := Lib.hid (fun w' => right_c n (n : Int) v w' rfl)
  cases hr : rightB n v
  · rw [printL_no hr]
    rw [hr] at HRC
    go_enter Try.func16, Try.ntmps16
    go_wp2_with fail
    (with_reducible refine (HRC.out _).mono ?_)
    rintro e w1 ⟨rfl, hb⟩
    have HB1 := Lib.hid ((bel_alloc (Below.refl w.heap.size w) (.cells #[.int .u64 (n : Int), .int .i64 v] 25)).trans (hb.mono (by simp)))
    clear hb
    go_wp2
    go_ret
    exact ⟨rfl, HB1.out⟩
  · rw [hr] at HRC
    obtain ⟨h256, hv0, hv3⟩ := rightB_iff.1 hr
    obtain ⟨u, rfl⟩ : ∃ u : Nat, v = (u : Int) := ⟨v.toNat, by omega⟩
    have HP := Lib.hid (printL_yes hr)
    have HM := Lib.hid (fun w' => members_c n (n : Int) (u : Int) w' rfl hn)
    have hL8 := memL_le n
    obtain ⟨L, hL⟩ : ∃ L, memL n = L := ⟨_, rfl⟩
    rw [hL] at HP HM hL8
    have HL9 := Lib.hid (show ∀ k ∈ L, k < 8 from fun k hk => memL_lt (by rw [hL]; exact hk))
    rw [HP.out, Int.toNat_natCast]
    obtain ⟨d, hd⟩ : ∃ d, dg u = d := ⟨_, rfl⟩
    have HD := Lib.hid (fun w' => by have h := digit_c u (u : Int) w' rfl (by omega); rw [hd] at h; exact h)
    rw [hd]
    clear hr hL hd HP
    go_enter Try.func16, Try.ntmps16
    go_wp2_with fail
    (with_reducible refine (HRC.out _).mono ?_)
    rintro e w1 ⟨rfl, hb⟩
    have HB1 := Lib.hid ((bel_alloc (Below.refl w.heap.size w) (.cells #[.int .u64 (n : Int), .int .i64 (u : Int)] 25)).trans (hb.mono (by simp)))
    have c0 : w1.cell? ⟨w.heap.size, 0, none⟩ = some (.int .u64 (n : Int)) := by rw [hb.cell (by simp)]; simp
    have c1 : w1.cell? ⟨w.heap.size, 1, none⟩ = some (.int .i64 (u : Int)) := by rw [hb.cell (by simp)]; simp
    clear hb HRC
    go_wp2_with fail
    (with_reducible refine (HD.out _).mono ?_)
    rintro e w' ⟨rfl, rfl⟩
    have hlt := HB1.out.size
    have hO := own_lit w1 (cs := #[.int .u8 (d.toNat : Int), .int .u8 58]) (l := txt d L 0) (n := 2) (by simp [txt, Lib.byteCells]) rfl (by omega)
    obtain ⟨W2, hW2⟩ : ∃ W2, w1.alloc (.cells #[.int .u8 (d.toNat : Int), .int .u8 58] 5) = W2 := ⟨_, rfl⟩
    have HB2 := Lib.hid (show Below w1.heap.size w1 W2 from by rw [← hW2]; exact bel_alloc (Below.refl _ _) _)
    have c0' : W2.cell? ⟨w.heap.size, 0, none⟩ = some (.int .u64 (n : Int)) := by rw [← hW2, World.cell?_alloc_lt _ _ _ (World.block_lt_of_cell? _ _ c0)]; exact c0
    have c1' : W2.cell? ⟨w.heap.size, 1, none⟩ = some (.int .i64 (u : Int)) := by rw [← hW2, World.cell?_alloc_lt _ _ _ (World.block_lt_of_cell? _ _ c1)]; exact c1
    rw [hW2] at hO
    have HO2 := Lib.hid hO
    clear hO c0 c1
    go_wp2_with fail
    (with_reducible refine (HM.out _).mono ?_)
    rintro e w3 ⟨A, c, rfl, hA, hb⟩
    have HO3 := Lib.hid (own_below HO2.out hb)
    have HB3 := Lib.hid (HB2.out.trans (hb.mono HB2.out.size))
    have HA3 := Lib.hid hA
    clear hA hb HO2 HB2 c0' c1' hW2
    go_wp2
    go_loopw [16, 3] (fun i v wr => PrRel w1 d A L i v wr) (fun i _ _ => 8 - (intOf i).toNat)
    case atStart => exact ⟨0, by omega, rfl, HO3.out, HB3.out, HA3.out⟩
    case round =>
      obtain ⟨j, hj, rfl, hown, hB, hA⟩ := hrel
      have HO := Lib.hid hown
      have HB := Lib.hid hB
      have HA := Lib.hid hA
      clear hown hB hA
      by_cases hlt : j < L.length
      · have hlt' : (j : Int) < (L.length : Int) := by omega
        obtain ⟨g, rfl, hg, hcell⟩ := HA.out.lt j hlt
        obtain ⟨k, hk⟩ : ∃ k, L[j] = k := ⟨_, rfl⟩
        have hk8 : k < 8 := by rw [← hk]; exact HL9.out _ (List.getElem_mem hlt)
        rw [hk] at hcell
        have hnext := txt_next (d := d) hlt
        rw [hk] at hnext
        have HN := Lib.hid hnext
        obtain ⟨q, hq⟩ : ∃ q, dg k = q := ⟨_, rfl⟩
        have HK := Lib.hid (fun w' => by have h := digit_c k (k : Int) w' rfl (by omega); rw [hq] at h; exact h)
        rw [hq] at HN
        clear hnext hk hq
        go_wp2_with fail
        (with_reducible refine (HK.out _).mono ?_)
        rintro e w' ⟨rfl, rfl⟩
        have hsz := HB.out.size
        go_wp2_with (first
          | (at_builtin; refine wpList_append_own _ rfl _ _ 46 rfl w1.heap.size 5 i0 (.int .u8 0) 1 1 Try.u42 hi hz0 hz1 hz2 rfl (by decide) _ _ _ rfl (HO.out.alloc _) ⟨wr.heap.size, 0, none⟩ 1 1 [.int .u8 (q.toNat : Int)] rfl rfl ?c1 ?c2 ?c3 ?c4 ?c5 ?_)
          | go_in)
        case c1 =>
          intro j u hj
          match j, hj with
          | 0, hj => simp at hj; subst hj; simp [Addr.add]
        case c2 => intro u hu; simp at hu; subst hu; rfl
        case c3 => unfold maxLen; omega
        case c4 => omega
        case c5 => simp; omega
        · intro v' w4 hown' hgrow _
          have HB4 := Lib.hid (show Below w1.heap.size w1 w4 from (HB.out.alloc hsz _).grown hgrow (by simp; omega) (own_base HO.out))
          have HA4 := Lib.hid ((HA.out.alloc _).grown (HO.out.alloc _) hgrow)
          have HO4 := Lib.hid (show w4.ownsRow w1.heap.size 5 1 v' (2 + (j + 1)) (Lib.byteCells (txt d L (j + 1))) from by
            rw [HN.out, show 2 + (j + 1) = 2 + j + 1 by omega]
            simpa [Lib.byteCells] using hown')
          clear hown' hgrow hcell
          go_wp2
          go_roundw
          case rel => exact ⟨j + 1, by omega, by go_num, HO4.out, HB4.out, HA4.out⟩
          case measure => simp [intOf]; omega
      · obtain rfl : j = L.length := by omega
        have hT : txt d L L.length = d :: 58 :: L.map dg := by unfold txt; rw [List.take_length]
        have ho := HO.out
        rw [hT] at ho
        obtain ⟨g, c', rfl, hO⟩ := own_ne ho (own_some (by omega) ho)
        have hs := str_run hO.bs
        have HB5 := Lib.hid (HB1.out.trans (HB.out.mono HB1.out.size))
        clear hO ho hT
        go_wp2
        go_ret
        exact ⟨rfl, HB5.out⟩
theorem bs_1 (x : UInt8) (w : World) (o : Obj) (ho : o = .cells #[.int .u8 (x.toNat : Int)] 5) : Bs (w.alloc o) (w.alloc o).heap.size (some ⟨w.heap.size, 0, none⟩) 1 1 [x] := by
  subst ho
  refine ⟨rfl, Nat.le_refl _, (fun e => by cases e), fun _ => ⟨w.heap.size, 0, rfl, by simp, fun j hj => ?_⟩⟩
  obtain rfl : j = 0 := by simp at hj; omega
  simp
theorem dg_i (k : Nat) (x : Int) (hx : x = (k : Int)) (hk : k ≤ 9) : 48 + x = ((dg k).toNat : Int) := by
  unfold dg
  rw [u8_of _ (by omega)]
  omega
def RpRel (W : World) (d : UInt8) (n : Nat) (x : Int) (g : Nat) (s i : Value) (wr : World) : Prop :=
  ∃ k : Nat, k ≤ 8 ∧ i = .int .i64 k ∧ s = .string ⟨(d :: 58 :: (memK n k).map dg).toArray⟩ ∧ Below W.heap.size W wr ∧ wr.cell? ⟨g, 0, none⟩ = some (.int .u64 x)
theorem rright_c (a : Nat) (x v : Int) (w : World) (hx : x = (a : Int)) : Calls Try.prog 22 #[.agg #[.int .u64 x, .int .i64 v]] w (RetB w (rightB a v)) := by
  have hR : ∀ P Q R : Bool, decide (x < 256) = P → decide (0 ≤ v) = Q → decide (v ≤ 3) = R → rightB a v = (P && Q && R) := by
    rintro P Q R rfl rfl rfl
    unfold rightB
    congr 2
    exact decide_eq_decide.2 (by omega)
  clear hx
  by_cases hs : x < 256
  · have hd : decide (x < 256) = true := decide_eq_true hs
    by_cases h0 : 0 ≤ v
    · have hd0 : decide (0 ≤ v) = true := decide_eq_true h0
      have h2 := hR true true _ hd hd0 rfl
      clear hR
      go_enter Try.func22, Try.ntmps22
      go_wp2
      go_ret
      exact ⟨by first | (rw [h2]; simp; done) | rfl, bel_alloc (Below.refl _ _) _⟩
    · have hd0 : decide (0 ≤ v) = false := decide_eq_false h0
      have h2 := hR true false _ hd hd0 rfl
      clear hR
      go_enter Try.func22, Try.ntmps22
      go_wp2
      go_ret
      exact ⟨by first | (rw [h2]; simp; done) | rfl, bel_alloc (Below.refl _ _) _⟩
  · have hd : decide (x < 256) = false := decide_eq_false hs
    have h2 := hR false _ _ hd rfl rfl
    clear hR
    go_enter Try.func22, Try.ntmps22
    go_wp2
    go_ret
    exact ⟨by first | (rw [h2]; simp; done) | rfl, bel_alloc (Below.refl _ _) _⟩
set_option maxRecDepth 100000 in
set_option maxHeartbeats 1600000 in
theorem rprint_c (n : Nat) (x v : Int) (w : World) (hx : x = (n : Int)) : Calls Try.prog 18 #[.agg #[.int .u64 x, .int .i64 v]] w fun e w' => e = .returned (.string ⟨(printL n v).toArray⟩) ∧ Below w.heap.size w w' := by
  subst hx
  have HRC := Lib.hid (fun w' => rright_c n (n : Int) v w' rfl)
  cases hr : rightB n v
  · rw [printL_no hr]
    rw [hr] at HRC
    go_enter Try.func18, Try.ntmps18
    go_wp2_with fail
    (with_reducible refine (HRC.out _).mono ?_)
    rintro e w1 ⟨rfl, hb⟩
    have HB1 := Lib.hid ((bel_alloc (Below.refl w.heap.size w) (.cells #[.int .u64 (n : Int), .int .i64 v] 25)).trans (hb.mono (by simp)))
    clear hb
    go_wp2
    go_ret
    exact ⟨rfl, HB1.out⟩
  · rw [hr] at HRC
    obtain ⟨h256, hv0, hv3⟩ := rightB_iff.1 hr
    obtain ⟨u, rfl⟩ : ∃ u : Nat, v = (u : Int) := ⟨v.toNat, by omega⟩
    have HP := Lib.hid (printL_yes hr)
    rw [HP.out, Int.toNat_natCast]
    have hd1 := dg_i u (u : Int) rfl (by omega)
    obtain ⟨d, hd⟩ : ∃ d, dg u = d := ⟨_, rfl⟩
    rw [hd] at hd1 ⊢
    have HG := Lib.hid (show w.heap.size < w.heap.size + 1 from Nat.lt_succ_self _)
    clear hr hd HP
    go_enter Try.func18, Try.ntmps18
    go_wp2_with fail
    (with_reducible refine (HRC.out _).mono ?_)
    rintro e w1 ⟨rfl, hb⟩
    have HB1 := Lib.hid ((bel_alloc (Below.refl w.heap.size w) (.cells #[.int .u64 (n : Int), .int .i64 (u : Int)] 25)).trans (hb.mono (by simp)))
    have c0 : w1.cell? ⟨w.heap.size, 0, none⟩ = some (.int .u64 (n : Int)) := by rw [hb.cell (by simp)]; simp
    have c1 : w1.cell? ⟨w.heap.size, 1, none⟩ = some (.int .i64 (u : Int)) := by rw [hb.cell (by simp)]; simp
    clear hb HRC
    have hO := own_lit w1 (cs := #[.int .u8 (d.toNat : Int), .int .u8 58]) (l := [d, 58]) (n := 2) (by simp [Lib.byteCells]) rfl (by omega)
    have hq := str_run (Own.bs (n := 2) (l := [d, 58]) ⟨rfl, hO⟩)
    clear hO
    obtain ⟨W2, hW2⟩ : ∃ W2, w1.alloc (.cells #[.int .u8 (d.toNat : Int), .int .u8 58] 5) = W2 := ⟨_, rfl⟩
    rw [hW2] at hq
    have HB2 := Lib.hid (show Below w1.heap.size w1 W2 from by rw [← hW2]; exact bel_alloc (Below.refl _ _) _)
    have HL1 := Lib.hid (World.block_lt_of_cell? _ _ c0)
    have c0' : W2.cell? ⟨w.heap.size, 0, none⟩ = some (.int .u64 (n : Int)) := by rw [HB2.out.cell HL1.out]; exact c0
    go_wp2_with fail
    clear hW2 hq hd1
    go_loopw [3, 4] (fun s i wr => RpRel w1 d n (n : Int) w.heap.size s i wr) (fun _ i _ => 8 - (intOf i).toNat)
    case atStart => exact ⟨0, by omega, rfl, rfl, HB2.out, c0'⟩
    case round =>
      obtain ⟨k, hk, rfl, rfl, hB, hc⟩ := hrel
      have HB := Lib.hid hB
      clear hB c0 c1 c0'
      by_cases hlt : k < 8
      · have hlt' : (k : Int) < 8 := by omega
        have RH := Lib.hid (fun w' => has_c n k (n : Int) (k : Int) w' rfl rfl (by omega))
        cases ht : n.testBit k
        · rw [ht] at RH
          go_wp2_with fail
          (with_reducible refine (RH.out _).mono ?_)
          rintro e w' ⟨rfl, rfl⟩
          go_wp2
          go_roundw
          case rel => exact ⟨k + 1, by omega, by go_num, by rw [memK_no ht], HB.out, hc⟩
          case measure => simp [intOf]; omega
        · rw [ht] at RH
          have hd2 := dg_i k (k : Int) rfl (by omega)
          have HN := Lib.hid (show d :: 58 :: (memK n (k + 1)).map dg = (d :: 58 :: (memK n k).map dg) ++ [dg k] by rw [memK_yes ht, List.map_append]; rfl)
          have HS := Lib.hid (str_run (bs_1 (dg k) wr _ rfl))
          obtain ⟨q, hq⟩ : ∃ q, dg k = q := ⟨_, rfl⟩
          obtain ⟨T, hT⟩ : ∃ T, d :: 58 :: (memK n k).map dg = T := ⟨_, rfl⟩
          rw [hq] at hd2 HN HS
          rw [hT] at HN ⊢
          have HT := Lib.hid (show T.length ≤ 10 from by rw [← hT]; have := memK_le n k; simp; omega)
          have hs := HS.out
          obtain ⟨W3, hW3⟩ : ∃ W3, wr.alloc (.cells #[.int .u8 (q.toNat : Int)] 5) = W3 := ⟨_, rfl⟩
          rw [hW3] at hs
          have HB3 := Lib.hid (show Below w1.heap.size w1 W3 from by rw [← hW3]; exact bel_alloc HB.out _)
          have hc3 : W3.cell? ⟨w.heap.size, 0, none⟩ = some (.int .u64 (n : Int)) := by rw [← hW3, World.cell?_alloc_lt _ _ _ (World.block_lt_of_cell? _ _ hc)]; exact hc
          have hz : ((⟨T.toArray⟩ : ByteArray) ++ ⟨#[q]⟩).size ≤ 281474976710656 := by
            have := bytes_app T [q]
            rw [show (⟨#[q]⟩ : ByteArray) = ⟨[q].toArray⟩ from rfl, this]
            show (T ++ [q]).toArray.size ≤ _
            have := HT.out
            simp
            omega
          have hz2 : ¬ 9223372036854775807 < T.length + 1 := by have := HT.out; omega
          clear HS hq hT
          go_wp2_with fail
          (with_reducible refine (RH.out _).mono ?_)
          rintro e w' ⟨rfl, rfl⟩
          go_wp2
          go_roundw
          case rel => exact ⟨k + 1, by omega, by go_num, by rw [HN.out]; exact congrArg Value.string (bytes_app T [q]), HB3.out, hc3⟩
          case measure => simp [intOf]; omega
      · obtain rfl : k = 8 := by omega
        have HB5 := Lib.hid (HB1.out.trans (HB.out.mono HB1.out.size))
        go_wp2
        go_ret
        exact ⟨rfl, HB5.out⟩
end Go.Proofs.Ytpplledoankfgaa
