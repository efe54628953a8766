/- Contract: Div, by what is not 0. -/
import Derived.Test.YtkaflkofffgndaaDoorLimbG
namespace Go.Proofs.YtkaflkofffgndaaDoor
open Go.RowKit

theorem v4_val (a b c d : Nat) : val64 [a, b, c, d] = v4 a b c d := by
  rw [v4_nat]
  simp only [val64]
  omega
theorem map_set64 (l : List Nat) (i v : Nat) : ((l.map mk64).toArray.setIfInBounds i (mk64 v)) = ((l.set i v).map mk64).toArray := by
  simp [List.map_set]
theorem isFour {l : List Nat} (h : l.length = 4) : ∃ p0 p1 p2 p3, l = [p0, p1, p2, p3] := by
  match l, h with
  | [p0, p1, p2, p3], _ => exact ⟨_, _, _, _, rfl⟩
theorem Blk.cell64 {w : World} {g t : Nat} {l : List Nat} (h : Blk w g t (l.map mk64).toArray) {i : Nat} (hi : i < l.length) : w.cell? ⟨g, i, none⟩ = some (.int .u64 (l.getD i 0 : Nat)) := by
  rw [h.cell]
  simp [mk64, hi]
theorem u64_cast {x : Nat} (h : x < 18446744073709551616) : U64 (x : Int) := u64_nat h

theorem or_walk (x s : Nat) (hx : x < 18446744073709551616) (hs : s < 64) : bits .or .u64 (x : Int) (IntKind.u64.wrap (2 ^ s)) = ((x ||| 2 ^ s : Nat) : Int) := by
  have h := pow_le_64 s hs
  have e : IntKind.u64.wrap (2 ^ s) = ((2 ^ s : Nat) : Int) := by
    have : (2 : Int) ^ s = ((2 ^ s : Nat) : Int) := by rw [Int.natCast_pow]; rfl
    rw [this, IntKind.wrap_u64]
    generalize 2 ^ s = p at *
    omega
  rw [e, u64_or_nat x _ hx (by omega)]
/-- The round's end where the divisor went in. -/
theorem div_done {w w3 : World} {ql la : List Nat} {b0 b1 t0 t1 s0 s1 : Int} {W s v : Nat} (BA : Blk w3 w.heap.size 44 (la.map mk64).toArray) (BB : Blk w3 (w.heap.size + 1) 25 #[.int .u64 b0, .int .u64 b1])
    (BQ : Blk w3 (w.heap.size + 1 + 1) 44 (ql.map mk64).toArray) (BR : Blk w3 (w.heap.size + 1 + 1 + 1) 25 #[.int .u64 t0, .int .u64 t1]) (HW : Below w.heap.size w w3) (hx : ql.getD W 0 < 18446744073709551616) (hs : s < 64) (hv : v = ql.getD W 0 ||| 2 ^ s) :
    Blk (((w3.setCell ⟨w.heap.size + 1 + 1 + 1, 0, none⟩ (.int .u64 s0)).setCell ⟨w.heap.size + 1 + 1 + 1, 1, none⟩ (.int .u64 s1)).setCell ⟨w.heap.size + 1 + 1, W, none⟩ (.int .u64 (bits .or .u64 ((ql[W]?.getD 0 : Nat) : Int) (IntKind.u64.wrap (2 ^ s))))) w.heap.size 44 (la.map mk64).toArray ∧
    Blk (((w3.setCell ⟨w.heap.size + 1 + 1 + 1, 0, none⟩ (.int .u64 s0)).setCell ⟨w.heap.size + 1 + 1 + 1, 1, none⟩ (.int .u64 s1)).setCell ⟨w.heap.size + 1 + 1, W, none⟩ (.int .u64 (bits .or .u64 ((ql[W]?.getD 0 : Nat) : Int) (IntKind.u64.wrap (2 ^ s))))) (w.heap.size + 1) 25 #[.int .u64 b0, .int .u64 b1] ∧
    Blk (((w3.setCell ⟨w.heap.size + 1 + 1 + 1, 0, none⟩ (.int .u64 s0)).setCell ⟨w.heap.size + 1 + 1 + 1, 1, none⟩ (.int .u64 s1)).setCell ⟨w.heap.size + 1 + 1, W, none⟩ (.int .u64 (bits .or .u64 ((ql[W]?.getD 0 : Nat) : Int) (IntKind.u64.wrap (2 ^ s))))) (w.heap.size + 1 + 1) 44 ((ql.set W v).map mk64).toArray ∧
    Blk (((w3.setCell ⟨w.heap.size + 1 + 1 + 1, 0, none⟩ (.int .u64 s0)).setCell ⟨w.heap.size + 1 + 1 + 1, 1, none⟩ (.int .u64 s1)).setCell ⟨w.heap.size + 1 + 1, W, none⟩ (.int .u64 (bits .or .u64 ((ql[W]?.getD 0 : Nat) : Int) (IntKind.u64.wrap (2 ^ s))))) (w.heap.size + 1 + 1 + 1) 25 #[.int .u64 s0, .int .u64 s1] ∧
    Below w.heap.size w (((w3.setCell ⟨w.heap.size + 1 + 1 + 1, 0, none⟩ (.int .u64 s0)).setCell ⟨w.heap.size + 1 + 1 + 1, 1, none⟩ (.int .u64 s1)).setCell ⟨w.heap.size + 1 + 1, W, none⟩ (.int .u64 (bits .or .u64 ((ql[W]?.getD 0 : Nat) : Int) (IntKind.u64.wrap (2 ^ s))))) := by
  rw [List.getD_eq_getElem?_getD] at hx hv
  rw [or_walk _ _ hx hs, ← hv]
  refine ⟨?_, ?_, ?_, ?_, ?_⟩
  · exact ((BA.far (by simp; omega) _).far (by simp; omega) _).far (by simp; omega) _
  · exact ((BB.far (by simp) _).far (by simp) _).far (by simp) _
  · have := ((BQ.far (p := ⟨w.heap.size + 1 + 1 + 1, 0, none⟩) (by simp) (.int .u64 s0)).far (p := ⟨w.heap.size + 1 + 1 + 1, 1, none⟩) (by simp) (.int .u64 s1)).set_ W (mk64 v)
    rw [map_set64] at this
    exact this
  · exact ((BR.set_ 0 (.int .u64 s0)).set_ 1 (.int .u64 s1)).far (by simp) _
  · have h3 : w.heap.size ≤ w.heap.size + 1 + 1 + 1 := by omega
    have h2 : w.heap.size ≤ w.heap.size + 1 + 1 := by omega
    exact ((HW.setCell (p := ⟨w.heap.size + 1 + 1 + 1, 0, none⟩) h3 _).setCell (p := ⟨w.heap.size + 1 + 1 + 1, 1, none⟩) h3 _).setCell (p := ⟨w.heap.size + 1 + 1, W, none⟩) h2 _
theorem cmpI_ge {m n : Nat} (h : n ≤ m) : 0 ≤ cmpI m n := by
  unfold cmpI
  rcases Nat.eq_or_lt_of_le h with e | e
  · rw [if_pos e.symm]; decide
  · rw [if_neg (by omega), if_neg (by omega)]; decide
theorem cmpI_lt {m n : Nat} (h : m < n) : cmpI m n = -1 := by unfold cmpI; rw [if_neg (by omega), if_pos h]
theorem double_ge {A k : Nat} {r0 r1 β t0 t1 ov : Int} {B : Nat} (h : DoubleW r0 r1 β t0 t1 ov) (hb : β = ((A / 2 ^ k % 2 : Nat) : Int)) (ho : ov = 0) (hge : B ≤ 2 * v2 r0 r1 + A / 2 ^ k % 2) : B ≤ v2 t0 t1 := by
  obtain ⟨_, _, _, hd⟩ := h
  have ho2 : ov.toNat = 0 := by omega
  rw [ho2, Nat.zero_mul, Nat.add_zero, hb, Int.toNat_natCast] at hd
  omega
theorem divI_word {A B : Nat} {x : Int} {q : List Nat} {r0 r1 : Int} (h : DivI A B x q r0 r1) (W : Nat) : q.getD W 0 < 18446744073709551616 := by
  obtain ⟨_, _, _, _, h2, _⟩ := h
  exact getD_lt64 h2 W
theorem divI_facts {A B : Nat} {x : Int} {q : List Nat} {r0 r1 : Int} (h : DivI A B x q r0 r1) : q.length = 4 ∧ U64 r0 ∧ U64 r1 := by
  obtain ⟨_, _, _, h1, _, h2, h3, _, _⟩ := h
  exact ⟨h1, h2, h3⟩

set_option maxHeartbeats 3200000 in
theorem div1_x (a b c d : Nat) (b0 b1 : Int) (w : World) (ha : U64 a) (hb : U64 b) (hc : U64 c) (hd : U64 d) (hb0 : U64 b0) (hb1 : U64 b1) (hz : 0 < v2 b0 b1) :
    Calls Tryd.prog 32 #[.agg #[.int .u64 a, .int .u64 b, .int .u64 c, .int .u64 d], .agg #[.int .u64 b0, .int .u64 b1]] w (Ret w (IsDiv (DivR a b c d b0 b1))) := by
  have q := eqW2_no (fun h => absurd ((v2_zero hb0 hb1).2 h) (by omega))
  have HZ := Lib.hid hz
  clear hz
  go_enter Tryd.func32, Tryd.ntmps32
  go_upto_region 1 with fail
  go_region_held3 (fun w' => w'.cell? ⟨w.heap.size + 1, 0, none⟩ = some (.int .u64 b0) ∧ w'.cell? ⟨w.heap.size + 1, 1, none⟩ = some (.int .u64 b1)) (simp [go_sem]) (first | (go_at_call 12; refine (of_x _ _).mono ?_; rintro e wx ⟨rfl, rfl⟩))
  go_wp2_with fail
  refine (bits_c a b c d _ ha hb hc hd).mono ?_
  rintro e w1 ⟨_, ⟨n, hn, HN, rfl⟩, rfl, hbl⟩
  have BA0 : Blk w1 w.heap.size 44 #[.int .u64 a, .int .u64 b, .int .u64 c, .int .u64 d] := Blk.below (by repeat (first | ((with_reducible refine Blk.new_at ?_); (simp; done)) | (with_reducible refine Blk.drew ?_) | (with_reducible refine Blk.alloc ?_ _))) hbl (by first | (simp; done) | (simp; omega))
  have BA : Blk w1 w.heap.size 44 ([a, b, c, d].map mk64).toArray := BA0
  have BB : Blk w1 (w.heap.size + 1) 25 #[.int .u64 b0, .int .u64 b1] := Blk.below (by repeat (first | ((with_reducible refine Blk.new_at ?_); (simp; done)) | (with_reducible refine Blk.drew ?_) | (with_reducible refine Blk.alloc ?_ _))) hbl (by first | (simp; done) | (simp; omega))
  have BQ0 : Blk w1 (w.heap.size + 1 + 1) 44 #[.int .u64 0, .int .u64 0, .int .u64 0, .int .u64 0] := Blk.below (by repeat (first | ((with_reducible refine Blk.new_at ?_); (simp; done)) | (with_reducible refine Blk.drew ?_) | (with_reducible refine Blk.alloc ?_ _))) hbl (by first | (simp; done) | (simp; omega))
  have BQ : Blk w1 (w.heap.size + 1 + 1) 44 ([0, 0, 0, 0].map mk64).toArray := BQ0
  have BR : Blk w1 (w.heap.size + 1 + 1 + 1) 25 #[.int .u64 0, .int .u64 0] := Blk.below (by repeat (first | ((with_reducible refine Blk.new_at ?_); (simp; done)) | (with_reducible refine Blk.drew ?_) | (with_reducible refine Blk.alloc ?_ _))) hbl (by first | (simp; done) | (simp; omega))
  have HW : Below w.heap.size w w1 := Below.trans (by repeat (first | (with_reducible exact Below.refl _ _) | (with_reducible refine Below.drew ?_) | (with_reducible refine bel_alloc ?_ _))) (hbl.mono (by simp; omega))
  have HI := divI_start hn HN HZ.out
  clear BA0 BQ0 hbl
  go_wp2_with fail
  go_loopw [7] (fun k wr => ∃ (x : Int) (ql : List Nat) (r0 r1 : Int), k = .int .i64 x ∧ DivI (v4 a b c d) (v2 b0 b1) x ql r0 r1 ∧ Blk wr w.heap.size 44 ([a, b, c, d].map mk64).toArray ∧
      Blk wr (w.heap.size + 1) 25 #[.int .u64 b0, .int .u64 b1] ∧ Blk wr (w.heap.size + 1 + 1) 44 (ql.map mk64).toArray ∧ Blk wr (w.heap.size + 1 + 1 + 1) 25 #[.int .u64 r0, .int .u64 r1] ∧ Below w.heap.size w wr)
    (fun k _ => (intOf k + 1).toNat)
  case atStart => exact ⟨_, [0, 0, 0, 0], 0, 0, rfl, HI, BA, BB, BQ, BR, HW⟩
  case round =>
    clear BA BB BQ BR HW HI
    obtain ⟨x, ql, r0, r1, rfl, HI, BA, BB, BQ, BR, HW⟩ := hrel
    by_cases hx : x < 0
    · obtain ⟨hq, hr, hxe⟩ := divI_end HI hx
      obtain ⟨hql, hu0, hu1⟩ := divI_facts HI
      have hw := divI_word HI
      obtain ⟨q0, q1, q2, q3, rfl⟩ := isFour hql
      rw [v4_val] at hq
      have H : DivR a b c d b0 b1 q0 q1 q2 q3 r0 r1 true := Or.inr ⟨HZ.out, rfl, u64_nat (hw 0), u64_nat (hw 1), u64_nat (hw 2), u64_nat (hw 3), hu0, hu1, hq, hr⟩
      have c0 := BQ.cell 0
      have c1 := BQ.cell 1
      have c2 := BQ.cell 2
      have c3 := BQ.cell 3
      have f0 := BQ.frozen 0
      have f1 := BQ.frozen 1
      have f2 := BQ.frozen 2
      have f3 := BQ.frozen 3
      have d0 := BR.cell 0
      have d1 := BR.cell 1
      have e0 := BR.frozen 0
      have e1 := BR.frozen 1
      simp [mk64] at c0 c1 c2 c3 d0 d1
      subst hxe
      clear hq hr hw hql hx
      go_wp2
      go_region
      all_goals
        go_wp2
        refine bodyPost_ret (v := .tuple #[.agg #[.int .u64 q0, .int .u64 q1, .int .u64 q2, .int .u64 q3], .agg #[.int .u64 r0, .int .u64 r1], .bool true]) (by simp [results, Tryd.results32, go_sem, c0, c1, c2, c3, d0, d1]) rfl ⟨_, ⟨_, _, _, _, _, _, _, H, rfl⟩, rfl, ?_⟩
        repeat (first | (with_reducible exact HW) | (with_reducible refine Below.drew ?_) | ((with_reducible refine Below.setCell ?_ ?_ _); rotate_left; (show w.heap.size ≤ w.heap.size + 1 + 1; omega)) | ((with_reducible refine Below.setCell ?_ ?_ _); rotate_left; (show w.heap.size ≤ w.heap.size + 1 + 1 + 1; omega)))
    · obtain ⟨k, rfl⟩ := Int.eq_ofNat_of_zero_le (show 0 ≤ x by omega)
      clear hx
      have hk : k < 256 := by obtain ⟨t, e, ht, _⟩ := HI; omega
      obtain ⟨W, hWe⟩ : ∃ W, k / 64 = W := ⟨_, rfl⟩
      obtain ⟨s, hse⟩ : ∃ s, k % 64 = s := ⟨_, rfl⟩
      have hW4 : W < 4 := by omega
      have hs64 : s < 64 := by omega
      have hkWs : k = 64 * W + s := by omega
      have eW : (k : Int) / 64 = (W : Int) := by omega
      have es : (k : Int) % 64 = (s : Int) := by omega
      have HK := Lib.hid hkWs
      clear hWe hse hkWs
      obtain ⟨y, hy⟩ : ∃ y, [a, b, c, d].getD W 0 = y := ⟨_, rfl⟩
      have cW := BA.cell64 (i := W) (by simpa using hW4)
      rw [hy] at cW
      have hall : ∀ z ∈ [a, b, c, d], z < 18446744073709551616 := by
        simp only [List.mem_cons, List.not_mem_nil, or_false]
        unfold U64 at ha hb hc hd
        omega
      have hy64 : y < 18446744073709551616 := by rw [← hy]; exact getD_lt64 hall W
      have hbit := bit_walk y s hy64
      have hb2 : y / 2 ^ s % 2 = v4 a b c d / 2 ^ k % 2 := by rw [← hy, bit_of _ hall W s hs64, v4_val, ← HK.out]
      rw [hb2] at hbit
      obtain ⟨β, hβ⟩ : ∃ β : Int, β = ((v4 a b c d / 2 ^ k % 2 : Nat) : Int) := ⟨_, rfl⟩
      rw [← hβ] at hbit
      have hβ1 : β = 0 ∨ β = 1 := by omega
      have Hβ := Lib.hid hβ
      have Hβ1 := Lib.hid hβ1
      obtain ⟨hql, hu0, hu1⟩ := divI_facts HI
      have HQL := Lib.hid hql
      have hbb := BA.lt
      clear hβ hβ1 hy hb2 hall hy64 hql
      have cr0 := BR.cell 0
      have cr1 := BR.cell 1
      simp at cr0 cr1
      have hle3 : w.heap.size ≤ w.heap.size + 1 + 1 + 1 := by omega
      have hle2 : w.heap.size ≤ w.heap.size + 1 + 1 := by omega
      go_upto_region 8 with fail
      go_cut [10] (fun o wx => ∃ (t0 t1 ov : Int), o = .int .u64 ov ∧ DoubleW r0 r1 β t0 t1 ov ∧ Blk wx w.heap.size 44 ([a, b, c, d].map mk64).toArray ∧
        Blk wx (w.heap.size + 1) 25 #[.int .u64 b0, .int .u64 b1] ∧ Blk wx (w.heap.size + 1 + 1) 44 (ql.map mk64).toArray ∧ Blk wx (w.heap.size + 1 + 1 + 1) 25 #[.int .u64 t0, .int .u64 t1] ∧ Below w.heap.size w wx)
      case first =>
        go_region_with (go_at_call 45; refine (double_c r0 r1 β _ hu0 hu1 Hβ1.out).mono ?_; rintro e w2 ⟨_, ⟨t0, t1, ov, HD, rfl⟩, rfl, hbl⟩; have BR2 := BR.drew.below hbl BR.lt; have d0 := BR2.cell 0; have d1 := BR2.cell 1; have f0 := BR2.frozen 0; have f1 := BR2.frozen 1; simp at d0 d1)
        all_goals
          go_wp2_with fail
          go_meet
          case rel =>
            refine ⟨t0, t1, ov, rfl, HD, ?_, ?_, ?_, ?_, ?_⟩
            · exact ((BA.drew.below hbl BA.lt).far (by simp; omega) _).far (by simp; omega) _
            · exact ((BB.drew.below hbl BB.lt).far (by simp) _).far (by simp) _
            · exact ((BQ.drew.below hbl BQ.lt).far (by simp) _).far (by simp) _
            · exact (BR2.set_ 0 (.int .u64 t0)).set_ 1 (.int .u64 t1)
            · exact (((HW.drew).trans (hbl.mono HW.size)).setCell (p := ⟨w.heap.size + 1 + 1 + 1, 0, none⟩) hle3 _).setCell (p := ⟨w.heap.size + 1 + 1 + 1, 1, none⟩) hle3 _
      case rest =>
        clear BA BB BQ BR HW cr0 cr1
        obtain ⟨t0, t1, ov, rfl, HD, BA, BB, BQ, BR, HW⟩ := hcut
        have cr0 := BR.cell 0
        have cr1 := BR.cell 1
        have cb0 := BB.cell 0
        have cb1 := BB.cell 1
        simp at cr0 cr1 cb0 cb1
        have hd0 := HD.1
        have hd1 := HD.2.1
        have HWl := Lib.hid (show W < ql.length by rw [HQL.out]; exact hW4)
        have HQ64 := Lib.hid (divI_word HI W)
        by_cases GE : v2 b0 b1 ≤ 2 * v2 r0 r1 + v4 a b c d / 2 ^ k % 2
        · have HGE := Lib.hid GE
          by_cases hov : ov = 0
          · have g : (ov != 0) = false := by simp [hov]
            obtain ⟨z, hz, hz0⟩ : ∃ z, cmpI (v2 t0 t1) (v2 b0 b1) = z ∧ 0 ≤ z := ⟨_, rfl, cmpI_ge (double_ge HD Hβ.out hov GE)⟩
            have Hz := Lib.hid hz
            clear GE hov cW hbit hz
            go_wp2_with fail
            refine (cmp_c t0 t1 b0 b1 _ hd0 hd1 hb0 hb1).mono ?_
            rintro e w2 ⟨v, hv, rfl, hb2⟩
            rw [IsInt, Hz.out] at hv
            subst hv
            replace BA := BA.below hb2 BA.lt
            replace BB := BB.below hb2 BB.lt
            replace BQ := BQ.below hb2 BQ.lt
            replace BR := BR.below hb2 BR.lt
            replace HW := HW.trans (hb2.mono HW.size)
            clear cr0 cr1 cb0 cb1 hb2
            have cr0 := BR.cell 0
            have cr1 := BR.cell 1
            have cb0 := BB.cell 0
            have cb1 := BB.cell 1
            simp at cr0 cr1 cb0 cb1
            go_wp2_with fail
            refine (wrapSub_c t0 t1 b0 b1 _ hd0 hd1 hb0 hb1).mono ?_
            rintro e w3 ⟨_, ⟨s0, s1, HS, rfl⟩, rfl, hb3⟩
            have ⟨_, HN2⟩ := divI_yes hb0 hb1 HZ.out HWl.out hs64 HK.out HI Hβ.out HD HGE.out HS
            have BA3 := BA.below hb3 BA.lt
            have BB3 := BB.below hb3 BB.lt
            have BQ3 := BQ.below hb3 BQ.lt
            have BR3 := BR.below hb3 BR.lt
            have HR := div_done (s0 := s0) (s1 := s1) BA3 BB3 BQ3 BR3 (HW.trans (hb3.mono HW.size)) (HQ64.out) hs64 rfl
            have e0 := BR3.cell 0
            have e1 := BR3.cell 1
            have f0 := BR3.frozen 0
            have f1 := BR3.frozen 1
            have cq := BQ3.cell64 HWl.out
            have fq := BQ3.frozen W
            simp at e0 e1
            clear cr0 cr1 cb0 cb1
            have HRH := Lib.hid HR
            clear HR
            go_wp2
            go_roundw
            case rel => exact ⟨_, _, s0, s1, rfl, HN2, HRH.out.1, HRH.out.2.1, HRH.out.2.2.1, HRH.out.2.2.2.1, HRH.out.2.2.2.2⟩
            case measure => simp [intOf]
          · have g : (ov != 0) = true := by simp [hov]
            clear GE hov cW hbit
            go_wp2_with fail
            refine (wrapSub_c t0 t1 b0 b1 _ hd0 hd1 hb0 hb1).mono ?_
            rintro e w3 ⟨_, ⟨s0, s1, HS, rfl⟩, rfl, hb3⟩
            have ⟨_, HN2⟩ := divI_yes hb0 hb1 HZ.out HWl.out hs64 HK.out HI Hβ.out HD HGE.out HS
            have BA3 := BA.below hb3 BA.lt
            have BB3 := BB.below hb3 BB.lt
            have BQ3 := BQ.below hb3 BQ.lt
            have BR3 := BR.below hb3 BR.lt
            have HR := div_done (s0 := s0) (s1 := s1) BA3 BB3 BQ3 BR3 (HW.trans (hb3.mono HW.size)) (HQ64.out) hs64 rfl
            have e0 := BR3.cell 0
            have e1 := BR3.cell 1
            have f0 := BR3.frozen 0
            have f1 := BR3.frozen 1
            have cq := BQ3.cell64 HWl.out
            have fq := BQ3.frozen W
            simp at e0 e1
            clear cr0 cr1 cb0 cb1
            have HRH := Lib.hid HR
            clear HR
            go_wp2
            go_roundw
            case rel => exact ⟨_, _, s0, s1, rfl, HN2, HRH.out.1, HRH.out.2.1, HRH.out.2.2.1, HRH.out.2.2.2.1, HRH.out.2.2.2.2⟩
            case measure => simp [intOf]
        · obtain ⟨ho, hlt, HN2⟩ := divI_no (v2_lt hb0 hb1) HI Hβ.out HD (by omega)
          have g : (ov != 0) = false := by simp [ho]
          have Hz := Lib.hid (cmpI_lt hlt)
          clear GE cW hbit ho hlt
          go_wp2_with fail
          refine (cmp_c t0 t1 b0 b1 _ hd0 hd1 hb0 hb1).mono ?_
          rintro e w2 ⟨v, hv, rfl, hb2⟩
          rw [IsInt, Hz.out] at hv
          subst hv
          go_wp2
          go_roundw
          case rel => exact ⟨_, _, t0, t1, rfl, HN2, BA.below hb2 BA.lt, BB.below hb2 BB.lt, BQ.below hb2 BQ.lt, BR.below hb2 BR.lt, HW.trans (hb2.mono HW.size)⟩
          case measure => simp [intOf]

theorem div_c (a b c d b0 b1 : Int) (w : World) (ha : U64 a) (hb : U64 b) (hc : U64 c) (hd : U64 d) (hb0 : U64 b0) (hb1 : U64 b1) :
    Calls Tryd.prog 32 #[.agg #[.int .u64 a, .int .u64 b, .int .u64 c, .int .u64 d], .agg #[.int .u64 b0, .int .u64 b1]] w (Ret w (IsDiv (DivR a b c d b0 b1))) := by
  rcases Nat.eq_zero_or_pos (v2 b0 b1) with h | h
  · exact div0_c a b c d b0 b1 w hb0 hb1 h
  · obtain ⟨x, rfl⟩ := Int.eq_ofNat_of_zero_le ha.1
    obtain ⟨y, rfl⟩ := Int.eq_ofNat_of_zero_le hb.1
    obtain ⟨z, rfl⟩ := Int.eq_ofNat_of_zero_le hc.1
    obtain ⟨u, rfl⟩ := Int.eq_ofNat_of_zero_le hd.1
    exact div1_x x y z u b0 b1 w ha hb hc hd hb0 hb1 h
end Go.Proofs.YtkaflkofffgndaaDoor
