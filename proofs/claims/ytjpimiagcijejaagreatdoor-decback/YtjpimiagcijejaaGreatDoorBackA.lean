/- pyxlaw2.DecBack. -/
import Derived.Test.YtjpimiagcijejaaGreatDoorDecG
import Derived.Test.YtjpimiagcijejaaGreatDoorHandA
import Derived.Test.YtjpimiagcijejaaGreatDoorTextJ
import Derived.Test.YtjpimiagcijejaaGreatDoorOrd
import Derived.Test.YtjpimiagcijejaaGreatDoorHand
import Derived.Deep.DeepCutAuto
namespace Go.Proofs.YtjpimiagcijejaaGreatDoor
open Go.RowKit
theorem decIs_one {n n' : Bool} {a b a' b' z : Int} (h : DecIs n a b z) (h' : DecIs n' a' b' z) : n = n' ∧ a = a' ∧ b = b' := by
  obtain ⟨e, h1, h2, h3⟩ := h
  obtain ⟨e', h1', h2', h3'⟩ := h'
  refine ⟨e.trans e'.symm, ?_⟩
  rw [← h3'] at h3
  unfold U64 at *; unfold v2 at h3
  omega
theorem cmp_gv (n : Bool) (a b s z : Int) (n' : Bool) (a' b' s' z' t c : Int) (w : World) (h : DecIs n a b z) (h' : DecIs n' a' b' z') (hz : Gr z s t) (hz' : Gr z' s' t) (h0 : 0 ≤ s) (h0' : 0 ≤ s') (h9 : s ≤ 9) (h9' : s' ≤ 9) (ht : (s < s' ∧ s' = t) ∨ (s' ≤ s ∧ s = t)) (hc : cmpZ (zAt z s t) (zAt z' s' t) = c) :
    Calls Tryz.prog 25 #[.agg #[.bool n, .int .u64 a, .int .u64 b, .int .i64 s], .agg #[.bool n', .int .u64 a', .int .u64 b', .int .i64 s']] w (Ret w (· = .int .i64 c)) := by
  subst hc
  exact cmp_g n a b s z n' a' b' s' z' t w h h' hz hz' h0 h0' h9 h9' ht
theorem sign_gv (n : Bool) (a b s z c : Int) (w : World) (h : DecIs n a b z) (hz : z.natAbs < 1000000000000000000000000000000) (h0 : 0 ≤ s) (h9 : s ≤ 9) (hc : z.sign = c) :
    Calls Tryz.prog 23 #[.agg #[.bool n, .int .u64 a, .int .u64 b, .int .i64 s]] w (Ret w (· = .int .i64 c)) := by
  subst hc
  exact sign_d n a b s z w h hz h0 h9
theorem pow_nat_pos (k : Nat) : (0 : Int) < ((10 ^ k : Nat) : Int) := by
  have := Nat.pow_pos (n := k) (show 0 < 10 by decide)
  omega
theorem zAt_sign (z s t : Int) : (zAt z s t).sign = z.sign := by
  unfold zAt
  rw [Int.sign_mul, Int.sign_eq_one_of_pos (pow_nat_pos _), Int.mul_one]
theorem zAt_nat (z s t : Int) : (zAt z s t).natAbs = z.natAbs * 10 ^ (t - s).toNat := by unfold zAt; rw [Int.natAbs_mul, Int.natAbs_natCast]
theorem zAt_same (z s : Int) : zAt z s s = z := by unfold zAt; simp
theorem cmpZ_same (a : Int) : cmpZ a a = 0 := by unfold cmpZ; simp
/-- A right decimal is the number that its words and its sign tell. -/
theorem right_is {n : Bool} {a b s : Int} (ha : U64 a) (hb : U64 b) (h : RightD n a b s) : DecIs n a b (zOf n (v2 a b)) := by
  refine ⟨?_, ha, hb, (zOf_abs _ _).symm⟩
  rw [zOf_neg]
  cases n
  · rfl
  · have h0 : v2 a b ≠ 0 := fun e => h.2.2.2 ⟨rfl, e⟩
    simp [h0]
theorem read_v (n : Bool) (a b s : Int) (W P : List UInt8) (m : Int) (w : World) (ha : U64 a) (hb' : U64 b) (hr : RightD n a b s) (hW : 1 ≤ W.length) (hW2 : W.length ≤ 30) (hWd : W.all isDig = true) (hPd : P.all isDig = true) (hPs : (P.length : Int) = s) (hN : numL (W ++ P) = v2 a b) (hm : w.cell? ⟨0, 0, none⟩ = some (.int .i64 m)) :
    Calls Tryz.prog 16 #[.string ⟨(readL n W P).toArray⟩] w (Ret w (· = .tuple #[.agg #[.bool n, .int .u64 a, .int .u64 b, .int .i64 s], .int .i64 0])) := by
  have h9 : s ≤ 9 := hr.2.2.1
  refine (read_c n W P m w hW hW2 hWd (by omega) hPd (by rw [hN]; exact hr.1) (fun hn hz => hr.2.2.2 ⟨hn, hN ▸ hz⟩) hm).mono ?_
  rintro e w' ⟨v, ⟨m', c, d, hd, ev⟩, he, hb⟩
  rw [hN] at hd
  obtain ⟨rfl, rfl, rfl⟩ := decIs_one hd (right_is ha hb' hr)
  exact ⟨v, by rw [ev, hPs], he, hb⟩
theorem num_zero (W P : List UInt8) : numL ((48 :: W) ++ P) = numL (W ++ P) := by
  show numL (48 :: (W ++ P)) = _
  rw [numL_cons, show (48 : UInt8).toNat - 48 = 0 from rfl, Nat.zero_mul, Nat.zero_add]
theorem tail_zero (W P : List UInt8) : tailL (48 :: W) P = 48 :: tailL W P := by
  unfold tailL
  split <;> rfl
theorem more_t {S W P : List UInt8} (h : readL true W P = S) : (⟨#[45, 48]⟩ ++ (⟨S.toArray⟩ : ByteArray).extract 1 S.length : ByteArray) = ⟨(readL true (48 :: W) P).toArray⟩ := by
  subst h
  rw [ext_l, List.take_length]
  refine (bytes_app [45, 48] _).trans ?_
  show (⟨([45, 48] ++ tailL W P).toArray⟩ : ByteArray) = ⟨(45 :: tailL (48 :: W) P).toArray⟩
  rw [tail_zero]
  rfl
theorem more_f {S W P : List UInt8} (h : readL false W P = S) : (⟨#[48]⟩ ++ ⟨S.toArray⟩ : ByteArray) = ⟨(readL false (48 :: W) P).toArray⟩ := by
  subst h
  refine (bytes_app [48] _).trans ?_
  show (⟨([48] ++ tailL W P).toArray⟩ : ByteArray) = ⟨(tailL (48 :: W) P).toArray⟩
  rw [tail_zero]
  rfl
theorem head_t {S W P : List UInt8} (h : readL true W P = S) (hl : 0 < S.length) : ((⟨S.toArray⟩ : ByteArray)[0]'hl).toNat = 45 := by
  subst h
  rfl
theorem head_f {S W P : List UInt8} (h : readL false W P = S) (hW : 1 ≤ W.length) (hd : W.all isDig = true) (hl : 0 < S.length) : ¬ ((⟨S.toArray⟩ : ByteArray)[0]'hl).toNat = 45 := by
  subst h
  cases W with
  | nil => simp at hW
  | cons c W =>
    simp only [List.all_cons, Bool.and_eq_true] at hd
    have hc := isDig_b hd.1
    have e : ((⟨(readL false (c :: W) P).toArray⟩ : ByteArray)[0]'hl) = c := by
      have e2 : readL false (c :: W) P = c :: tailL W P := by
        show tailL (c :: W) P = _
        unfold tailL
        split <;> rfl
      show (readL false (c :: W) P).toArray[0] = c
      simp only [e2]
      rfl
    rw [e]
    omega
theorem read_len {n : Bool} {W P : List UInt8} (h1 : 1 ≤ W.length) (h2 : W.length ≤ 30) (hp : P.length ≤ 9) : 0 < (readL n W P).length ∧ (readL n W P).length ≤ 100 := by
  have := tail_len h2 hp
  have h0 : 0 < (tailL W P).length := by
    unfold tailL
    split
    · omega
    · simp; omega
  unfold readL
  split
  · simp; omega
  · omega
set_option maxRecDepth 100000 in
set_option maxHeartbeats 12800000 in
theorem back_c (pn ps pb pz mx : Int) (w : World) (hn : (Lit.int .i64 pn).wf = true) (hm : w.cell? ⟨0, 0, none⟩ = some (.int .i64 mx)) (htab : Lib.TabIs Tryz.prog w "internal/strconv.uint64pow10" .u64 Lib.pow10Tab) :
    Calls Tryz.prog 4 #[.int .i64 pn, .int .i64 ps, .int .i64 pb, .int .i64 pz] w (Ret w (IsBool true)) := by
  have HI := Lib.hid (i64_of hn)
  have HT := Lib.hid htab
  have HMX := Lib.hid hm
  clear htab hm hn
  go_enter Tryz.func4, Tryz.ntmps4
  have V := HB.start (Below.refl w.heap.size w)
  go_wp2_with fail
  refine (handDec_c pn ps pb _ HI.out).mono ?_
  rintro e w1 ⟨_, ⟨n, a, b, s, ha, hb', _, _, rfl⟩, rfl, hb⟩
  have HU := Lib.hid (And.intro ha hb')
  clear ha hb'
  replace V := V.below hb
  clear hb
  replace V := V.push #[.bool n, .int .u64 a, .int .u64 b, .int .i64 s] 25
  have RC := right_c n a b s (w1.alloc (.cells #[.bool n, .int .u64 a, .int .u64 b, .int .i64 s] 25)) HU.out.1 HU.out.2
  by_cases hr : RightD n a b s
  · have s0 : 0 ≤ s := hr.2.1
    have s9 : s ≤ 9 := hr.2.2.1
    rw [decide_eq_true hr] at RC
    have HR := Lib.hid hr
    obtain ⟨N, hN⟩ : ∃ N, v2 a b = N := ⟨_, rfl⟩
    have HN := Lib.hid (And.intro hN (hN ▸ hr.1))
    obtain ⟨z, hz⟩ : ∃ z, zOf n (v2 a b) = z := ⟨_, rfl⟩
    have HD1 := Lib.hid (hz ▸ right_is HU.out.1 HU.out.2 hr)
    have HZN := Lib.hid (show z.natAbs = v2 a b by rw [← hz]; exact zOf_abs _ _)
    have HZ30 := Lib.hid (show z.natAbs < 1000000000000000000000000000000 by rw [HZN.out]; exact hr.1)
    obtain ⟨W, P, eP, w1l, w30, wd, pd, pl, nl⟩ := print_read n N s HN.out.2 s0 s9
    have rl := read_len (n := n) w1l w30 (show P.length ≤ 9 by omega)
    obtain ⟨S, hS⟩ : ∃ S, readL n W P = S := ⟨_, rfl⟩
    rw [hS] at rl
    obtain ⟨sl0, sl1⟩ := rl
    have HP := Lib.hid (eP.trans hS)
    have HS := Lib.hid hS
    have HWD := Lib.hid (And.intro w1l (And.intro w30 (And.intro wd pd)))
    have HPL := Lib.hid pl
    have HNL := Lib.hid (nl.trans hN.symm)
    clear hr hN hz eP hS w1l w30 wd pd pl nl
    go_wp2_with fail
    refine RC.mono ?_
    clear RC
    rintro e w2 ⟨_, rfl, rfl, hb⟩
    replace V := V.below hb
    clear hb
    obtain ⟨l0, x0, x1, x2, x3⟩ := HB.dec (t := 25) (g := w1.heap.size) (a := .bool n) (b := .int .u64 a) (c := .int .u64 b) (d := .int .i64 s) V (by simp)
    go_wp2_with fail
    refine (print_c n a b s _ HU.out.1 HU.out.2 HR.out N HN.out.1 (tabIs_below HT.out V.1)).mono ?_
    rintro e w3 ⟨_, rfl, rfl, hb⟩
    rw [HP.out]
    replace V := V.below hb
    clear hb l0 x0 x1 x2 x3
    have RD := read_v n a b s W P mx w3 HU.out.1 HU.out.2 HR.out HWD.out.1 HWD.out.2.1 HWD.out.2.2.1 HWD.out.2.2.2 HPL.out HNL.out (cell_keep V.1 HMX.out)
    rw [HS.out] at RD
    have HRD := Lib.hid RD
    clear RD
    go_wp2_with fail
    refine HRD.out.mono ?_
    clear HRD
    rintro e w4 ⟨_, rfl, rfl, hb⟩
    replace V := V.below hb
    clear hb
    replace V := V.push #[.bool n, .int .u64 a, .int .u64 b, .int .i64 s] 25
    go_wp2_with fail
    refine (known_c mx _ (cell_keep V.1 HMX.out) (tabIs_below HT.out V.1)).mono ?_
    rintro e w5 ⟨_, rfl, rfl, hb⟩
    replace V := V.below hb
    clear hb
    obtain ⟨l0, x0, x1, x2, x3⟩ := HB.dec (t := 25) (g := w1.heap.size) (a := .bool n) (b := .int .u64 a) (c := .int .u64 b) (d := .int .i64 s) V (by simp)
    obtain ⟨l1, y0, y1, y2, y3⟩ := HB.dec (t := 25) (g := w4.heap.size) (a := .bool n) (b := .int .u64 a) (c := .int .u64 b) (d := .int .i64 s) V (by simp)
    have qab := eqW2_yes (a := a) (b := b) (c := a) (d := b) ⟨rfl, rfl⟩
    go_wp2_with fail
    refine (print_c n a b s _ HU.out.1 HU.out.2 HR.out N HN.out.1 (tabIs_below HT.out V.1)).mono ?_
    rintro e w6 ⟨_, rfl, rfl, hb⟩
    rw [HP.out]
    replace V := V.below hb
    clear hb l0 x0 x1 x2 x3 l1 y0 y1 y2 y3
    have hsum : ¬ 9223372036854775807 < 1 + S.length := by omega
    cases n
    · have hc := head_f HS.out HWD.out.1 HWD.out.2.2.1 sl0
      go_wp2_with fail
      rw [more_f HS.out]
      by_cases h29 : W.length ≤ 29
      · have RD := read_v false a b s (48 :: W) P mx w6 HU.out.1 HU.out.2 HR.out (by simp) (by simp; omega) (by rw [List.all_cons, HWD.out.2.2.1]; rfl) HWD.out.2.2.2 HPL.out ((num_zero W P).trans HNL.out) (cell_keep V.1 HMX.out)
        refine RD.mono ?_
        clear RD
        rintro e w7 ⟨_, rfl, rfl, hb⟩
        replace V := V.below hb
        clear hb
        obtain ⟨_, x0, x1, x2, x3⟩ := HB.dec (t := 25) (g := w1.heap.size) (a := .bool false) (b := .int .u64 a) (c := .int .u64 b) (d := .int .i64 s) V (by simp)
        have V2 := V.push #[.bool false, .int .u64 a, .int .u64 b, .int .i64 s] 25
        replace V := V.alloc (.cells #[.bool false, .int .u64 a, .int .u64 b, .int .i64 s] 25)
        obtain ⟨_, y0, y1, y2, y3⟩ := HB.dec (t := 25) (g := w7.heap.size) (a := .bool false) (b := .int .u64 a) (c := .int .u64 b) (d := .int .i64 s) V2 (by simp)
        clear V2
        go_upto_region 15 with fail
        have HS0 := Lib.hid (HB.drew V)
        clear V
        refine wp_region_ord (S := fun W => HB w [(w4.heap.size, 25, #[.bool false, .int .u64 a, .int .u64 b, .int .i64 s]), (w1.heap.size, 25, #[.bool false, .int .u64 a, .int .u64 b, .int .i64 s])] W) (by kernel_rfl) ?_
        refine ord_take (v := ?_) (i := 0) (fuel := 6) (by simp; rfl) (by kernel_rfl) (by kernel_rfl) (by kernel_rfl) (Or.inl ⟨by rfl, fun w' hSw => ?_⟩) HS0.out ?_
        rotate_left
        · go_simp
          all_goals with_reducible rfl
        simp only [Act.put, List.setIfInBounds_toArray, List.set_cons_zero, List.set_cons_succ]
        refine ord_take (v := ?_) (i := 1) (fuel := 5) (by simp; rfl) (by kernel_rfl) (by kernel_rfl) (by kernel_rfl) (Or.inl ⟨by rfl, fun w' hSw => ?_⟩) HS0.out ?_
        rotate_left
        · dsimp only at hSw
          obtain ⟨_, x0, x1, x2, x3⟩ := HB.dec (t := 25) (g := w1.heap.size) (a := .bool false) (b := .int .u64 a) (c := .int .u64 b) (d := .int .i64 s) hSw (by simp)
          go_simp
          all_goals with_reducible rfl
        simp only [Act.put, List.setIfInBounds_toArray, List.set_cons_zero, List.set_cons_succ]
        refine ord_take (v := ?_) (i := 2) (fuel := 4) (by simp; rfl) (by kernel_rfl) (by kernel_rfl) (by kernel_rfl) (Or.inl ⟨by rfl, fun w' hSw => ?_⟩) HS0.out ?_
        rotate_left
        · go_simp
          all_goals with_reducible rfl
        simp only [Act.put, List.setIfInBounds_toArray, List.set_cons_zero, List.set_cons_succ]
        refine ord_call (f := 6) (args := #[.int .i64 pz, .int .i64 5]) (w1 := (w7.alloc (.cells #[.bool false, .int .u64 a, .int .u64 b, .int .i64 s] 25)).drew) (i := 3) (fuel := 3) (by simp; rfl) (by kernel_rfl) (by rfl) ?_ ?_
        · go_simp
          all_goals with_reducible rfl
        refine (pick_c _ 5 _ (by omega) (by omega)).mono ?_
        rintro e w8 ⟨_, ⟨u, ⟨u0, u5⟩, rfl⟩, rfl, rfl⟩
        obtain ⟨k, hk, hsk, k9⟩ : ∃ k : Int, min 9 (IntKind.i64.wrap (s + u)) = k ∧ s ≤ k ∧ k ≤ 9 := ⟨min 9 (s + u), by rw [IntWalk.i64_in _ (by omega)], by omega, by omega⟩
        refine ⟨_, rfl, HS0.out, ?_⟩
        simp only [Act.put, List.setIfInBounds_toArray, List.set_cons_zero, List.set_cons_succ]
        refine ord_take (v := ?_) (i := 4) (fuel := 2) (by simp; rfl) (by kernel_rfl) (by kernel_rfl) (by kernel_rfl) (Or.inl ⟨by rfl, fun w' hSw => ?_⟩) HS0.out ?_
        rotate_left
        · go_simp
          all_goals with_reducible rfl
        simp only [Act.put, List.setIfInBounds_toArray, List.set_cons_zero, List.set_cons_succ]
        refine ord_take (v := ?_) (i := 5) (fuel := 1) (by simp; rfl) (by kernel_rfl) (by kernel_rfl) (by kernel_rfl) (Or.inl ⟨by rfl, fun w' hSw => ?_⟩) HS0.out ?_
        rotate_left
        · go_simp
          all_goals with_reducible rfl
        simp only [Act.put, List.setIfInBounds_toArray, List.set_cons_zero, List.set_cons_succ]
        refine ord_take (v := ?_) (i := 6) (fuel := 0) (by simp; rfl) (by kernel_rfl) (by kernel_rfl) (by kernel_rfl) (Or.inl ⟨by rfl, fun w' hSw => ?_⟩) HS0.out ?_
        rotate_left
        · go_simp
          all_goals with_reducible rfl
        simp only [Act.put, List.setIfInBounds_toArray, List.set_cons_zero, List.set_cons_succ]
        refine ord_done (by kernel_rfl) ?_ _
        clear hk u0 u5
        have V := HS0.out
        clear HS0
        have k0 : 0 ≤ k := by omega
        obtain ⟨_, x0, x1, x2, x3⟩ := HB.dec (t := 25) (g := w1.heap.size) (a := .bool false) (b := .int .u64 a) (c := .int .u64 b) (d := .int .i64 s) V (by simp)
        by_cases hg : v2 a b * 10 ^ (k - s).toNat < 1000000000000000000000000000000
        · have HG := Lib.hid (show Gr z s k by unfold Gr upN; rw [HZN.out]; exact hg)
          clear hg
          go_wp2_with fail
          refine (scaled_g false a b s z k _ HD1.out HG.out s0 hsk k9).mono ?_
          rintro e w9 ⟨_, ⟨n2, a2, b2, D2, rfl⟩, rfl, hb⟩
          replace V := V.below hb
          clear hb x0 x1 x2 x3
          have HD2 := Lib.hid D2
          clear D2
          replace V := V.push #[.bool n2, .int .u64 a2, .int .u64 b2, .int .i64 k] 25
          have HG2 := Lib.hid (show Gr (zAt z s k) k k by
            have := HG.out
            unfold Gr upN at this ⊢
            rw [zAt_nat, Int.sub_self]
            simpa using this)
          have HC := Lib.hid (show cmpZ (zAt z s k) (zAt (zAt z s k) k k) = 0 by rw [zAt_same]; exact cmpZ_same _)
          obtain ⟨σ, hσ⟩ : ∃ σ, z.sign = σ := ⟨_, rfl⟩
          have HSg := Lib.hid hσ
          have HSg2 := Lib.hid (show (zAt z s k).sign = σ by rw [zAt_sign]; exact hσ)
          have HZ31 := Lib.hid (show (zAt z s k).natAbs < 1000000000000000000000000000000 from gr_30 HG2.out)
          clear hσ
          go_upto_region 19 with fail
          have HS0 := Lib.hid (HB.drew V)
          clear V
          refine wp_region_ord (S := fun W => HB w [(w9.heap.size, 25, #[.bool n2, .int .u64 a2, .int .u64 b2, .int .i64 k]), (w4.heap.size, 25, #[.bool false, .int .u64 a, .int .u64 b, .int .i64 s]), (w1.heap.size, 25, #[.bool false, .int .u64 a, .int .u64 b, .int .i64 s])] W) (by kernel_rfl) ?_
          refine ord_take (v := ?_) (i := 0) (fuel := 17) (by simp; rfl) (by kernel_rfl) (by kernel_rfl) (by kernel_rfl) (Or.inl ⟨by rfl, fun w' hSw => ?_⟩) HS0.out ?_
          rotate_left
          · dsimp only at hSw
            obtain ⟨_, x0, x1, x2, x3⟩ := HB.dec (t := 25) (g := w1.heap.size) (a := .bool false) (b := .int .u64 a) (c := .int .u64 b) (d := .int .i64 s) hSw (by simp)
            go_simp
            all_goals with_reducible rfl
          simp only [Act.put, List.setIfInBounds_toArray, List.set_cons_zero, List.set_cons_succ]
          refine ord_take (v := ?_) (i := 1) (fuel := 16) (by simp; rfl) (by kernel_rfl) (by kernel_rfl) (by kernel_rfl) (Or.inl ⟨by rfl, fun w' hSw => ?_⟩) HS0.out ?_
          rotate_left
          · dsimp only at hSw
            obtain ⟨_, x0, x1, x2, x3⟩ := HB.dec (t := 25) (g := w9.heap.size) (a := .bool n2) (b := .int .u64 a2) (c := .int .u64 b2) (d := .int .i64 k) hSw (by simp)
            go_simp
            all_goals with_reducible rfl
          simp only [Act.put, List.setIfInBounds_toArray, List.set_cons_zero, List.set_cons_succ]
          refine ord_call (f := 25) (args := #[.agg #[.bool false, .int .u64 a, .int .u64 b, .int .i64 s], .agg #[.bool n2, .int .u64 a2, .int .u64 b2, .int .i64 k]]) (w1 := (w9.alloc (.cells #[.bool n2, .int .u64 a2, .int .u64 b2, .int .i64 k] 25)).drew) (i := 2) (fuel := 15) (by simp; rfl) (by kernel_rfl) (by rfl) ?_ ?_
          · go_simp
            all_goals with_reducible rfl
          refine (cmp_gv false a b s z n2 a2 b2 k (zAt z s k) k 0 _ HD1.out HD2.out HG.out HG2.out s0 k0 s9 k9 (by omega) HC.out).mono ?_
          rintro e wx ⟨_, rfl, rfl, hb⟩
          have HSwx := Lib.hid (HB.below HS0.out hb)
          clear hb
          refine ⟨_, rfl, HSwx.out, ?_⟩
          simp only [Act.put, List.setIfInBounds_toArray, List.set_cons_zero, List.set_cons_succ]
          refine ord_take (v := ?_) (i := 3) (fuel := 14) (by simp; rfl) (by kernel_rfl) (by kernel_rfl) (by kernel_rfl) (Or.inl ⟨by rfl, fun w' hSw => ?_⟩) HSwx.out ?_
          rotate_left
          · go_simp
            all_goals with_reducible rfl
          simp only [Act.put, List.setIfInBounds_toArray, List.set_cons_zero, List.set_cons_succ]
          refine ord_take (v := ?_) (i := 4) (fuel := 13) (by simp; rfl) (by kernel_rfl) (by kernel_rfl) (by kernel_rfl) (Or.inl ⟨by rfl, fun w' hSw => ?_⟩) HSwx.out ?_
          rotate_left
          · go_simp
            all_goals with_reducible rfl
          simp only [Act.put, List.setIfInBounds_toArray, List.set_cons_zero, List.set_cons_succ]
          refine ord_take (v := ?_) (i := 5) (fuel := 12) (by simp; rfl) (by kernel_rfl) (by kernel_rfl) (by kernel_rfl) (Or.inl ⟨by rfl, fun w' hSw => ?_⟩) HSwx.out ?_
          rotate_left
          · go_simp
            all_goals with_reducible rfl
          simp only [Act.put, List.setIfInBounds_toArray, List.set_cons_zero, List.set_cons_succ]
          refine ord_take (v := ?_) (i := 6) (fuel := 11) (by simp; rfl) (by kernel_rfl) (by kernel_rfl) (by kernel_rfl) (Or.inl ⟨by rfl, fun w' hSw => ?_⟩) HSwx.out ?_
          rotate_left
          · dsimp only at hSw
            obtain ⟨_, x0, x1, x2, x3⟩ := HB.dec (t := 25) (g := w9.heap.size) (a := .bool n2) (b := .int .u64 a2) (c := .int .u64 b2) (d := .int .i64 k) hSw (by simp)
            go_simp
            all_goals with_reducible rfl
          simp only [Act.put, List.setIfInBounds_toArray, List.set_cons_zero, List.set_cons_succ]
          refine ord_take (v := ?_) (i := 7) (fuel := 10) (by simp; rfl) (by kernel_rfl) (by kernel_rfl) (by kernel_rfl) (Or.inl ⟨by rfl, fun w' hSw => ?_⟩) HSwx.out ?_
          rotate_left
          · go_simp
            all_goals with_reducible rfl
          simp only [Act.put, List.setIfInBounds_toArray, List.set_cons_zero, List.set_cons_succ]
          refine ord_take (v := ?_) (i := 8) (fuel := 9) (by simp; rfl) (by kernel_rfl) (by kernel_rfl) (by kernel_rfl) (Or.inl ⟨by rfl, fun w' hSw => ?_⟩) HSwx.out ?_
          rotate_left
          · go_simp
            all_goals with_reducible rfl
          simp only [Act.put, List.setIfInBounds_toArray, List.set_cons_zero, List.set_cons_succ]
          refine ord_take (v := ?_) (i := 9) (fuel := 8) (by simp; rfl) (by kernel_rfl) (by kernel_rfl) (by kernel_rfl) (Or.inl ⟨by rfl, fun w' hSw => ?_⟩) HSwx.out ?_
          rotate_left
          · go_simp
            all_goals with_reducible rfl
          simp only [Act.put, List.setIfInBounds_toArray, List.set_cons_zero, List.set_cons_succ]
          refine ord_take (v := ?_) (i := 10) (fuel := 7) (by simp; rfl) (by kernel_rfl) (by kernel_rfl) (by kernel_rfl) (Or.inl ⟨by rfl, fun w' hSw => ?_⟩) HSwx.out ?_
          rotate_left
          · go_simp
            all_goals with_reducible rfl
          simp only [Act.put, List.setIfInBounds_toArray, List.set_cons_zero, List.set_cons_succ]
          refine ord_take (v := ?_) (i := 11) (fuel := 6) (by simp; rfl) (by kernel_rfl) (by kernel_rfl) (by kernel_rfl) (Or.inl ⟨by rfl, fun w' hSw => ?_⟩) HSwx.out ?_
          rotate_left
          · dsimp only at hSw
            obtain ⟨_, x0, x1, x2, x3⟩ := HB.dec (t := 25) (g := w1.heap.size) (a := .bool false) (b := .int .u64 a) (c := .int .u64 b) (d := .int .i64 s) hSw (by simp)
            go_simp
            all_goals with_reducible rfl
          simp only [Act.put, List.setIfInBounds_toArray, List.set_cons_zero, List.set_cons_succ]
          refine ord_take (v := ?_) (i := 13) (fuel := 5) (by simp; rfl) (by kernel_rfl) (by kernel_rfl) (by kernel_rfl) (Or.inl ⟨by rfl, fun w' hSw => ?_⟩) HSwx.out ?_
          rotate_left
          · dsimp only at hSw
            obtain ⟨_, x0, x1, x2, x3⟩ := HB.dec (t := 25) (g := w9.heap.size) (a := .bool n2) (b := .int .u64 a2) (c := .int .u64 b2) (d := .int .i64 k) hSw (by simp)
            go_simp
            all_goals with_reducible rfl
          simp only [Act.put, List.setIfInBounds_toArray, List.set_cons_zero, List.set_cons_succ]
          refine ord_call (f := 23) (args := #[.agg #[.bool false, .int .u64 a, .int .u64 b, .int .i64 s]]) (w1 := wx) (i := 12) (fuel := 4) (by simp; rfl) (by kernel_rfl) (by rfl) ?_ ?_
          · go_simp
            all_goals with_reducible rfl
          refine (sign_gv false a b s z σ _ HD1.out HZ30.out s0 s9 HSg.out).mono ?_
          rintro e wy ⟨_, rfl, rfl, hb⟩
          have HSwy := Lib.hid (HB.below HSwx.out hb)
          clear hb
          refine ⟨_, rfl, HSwy.out, ?_⟩
          simp only [Act.put, List.setIfInBounds_toArray, List.set_cons_zero, List.set_cons_succ]
          refine ord_call (f := 23) (args := #[.agg #[.bool n2, .int .u64 a2, .int .u64 b2, .int .i64 k]]) (w1 := wy) (i := 14) (fuel := 3) (by simp; rfl) (by kernel_rfl) (by rfl) ?_ ?_
          · go_simp
            all_goals with_reducible rfl
          refine (sign_gv n2 a2 b2 k (zAt z s k) σ _ HD2.out HZ31.out k0 k9 HSg2.out).mono ?_
          rintro e wz ⟨_, rfl, rfl, hb⟩
          have HSwz := Lib.hid (HB.below HSwy.out hb)
          clear hb
          refine ⟨_, rfl, HSwz.out, ?_⟩
          simp only [Act.put, List.setIfInBounds_toArray, List.set_cons_zero, List.set_cons_succ]
          refine ord_take (v := ?_) (i := 15) (fuel := 2) (by simp; rfl) (by kernel_rfl) (by kernel_rfl) (by kernel_rfl) (Or.inl ⟨by rfl, fun w' hSw => ?_⟩) HSwz.out ?_
          rotate_left
          · go_simp
            all_goals with_reducible rfl
          simp only [Act.put, List.setIfInBounds_toArray, List.set_cons_zero, List.set_cons_succ]
          refine ord_take (v := ?_) (i := 16) (fuel := 1) (by simp; rfl) (by kernel_rfl) (by kernel_rfl) (by kernel_rfl) (Or.inl ⟨by rfl, fun w' hSw => ?_⟩) HSwz.out ?_
          rotate_left
          · go_simp
            all_goals with_reducible rfl
          simp only [Act.put, List.setIfInBounds_toArray, List.set_cons_zero, List.set_cons_succ]
          refine ord_take (v := ?_) (i := 17) (fuel := 0) (by simp; rfl) (by kernel_rfl) (by kernel_rfl) (by kernel_rfl) (Or.inl ⟨by rfl, fun w' hSw => ?_⟩) HSwz.out ?_
          rotate_left
          · go_simp
            all_goals with_reducible rfl
          simp only [Act.put, List.setIfInBounds_toArray, List.set_cons_zero, List.set_cons_succ]
          refine ord_done (by kernel_rfl) ?_ _
          have HB1 := Lib.hid HSwz.out.1
          clear HS0 HSwx HSwy HSwz
          go_wp2
          go_ret
          exact ⟨_, rfl, rfl, HB1.out⟩
        · have HG := Lib.hid (Nat.le_of_not_lt hg)
          clear hg
          go_wp2_with fail
          refine (scaled_over false a b s k _ _ HU.out.1 HU.out.2 HR.out hsk k9 rfl HG.out).mono ?_
          rintro e w9 ⟨_, rfl, rfl, hb⟩
          replace V := V.below hb
          clear hb x0 x1 x2 x3
          replace V := V.alloc (.cells #[.bool false, .int .u64 0, .int .u64 0, .int .i64 0] 25)
          have HB1 := Lib.hid V.1
          clear V
          go_wp2
          go_ret
          exact ⟨_, rfl, rfl, HB1.out⟩
      · have RD := read_long false (48 :: W) P mx w6 (by simp; omega) (by simp; have := HWD.out.2.1; omega) (by rw [List.all_cons, HWD.out.2.2.1]; rfl) (by have := HPL.out; omega) (cell_keep V.1 HMX.out)
        refine RD.mono ?_
        clear RD
        rintro e w7 ⟨_, rfl, rfl, hb⟩
        replace V := V.below hb
        clear hb
        replace V := V.alloc (.cells #[.bool false, .int .u64 0, .int .u64 0, .int .i64 0] 25)
        go_upto_region 15 with fail
        have HS0 := Lib.hid (HB.drew V)
        clear V
        refine wp_region_ord (S := fun W => HB w [(w4.heap.size, 25, #[.bool false, .int .u64 a, .int .u64 b, .int .i64 s]), (w1.heap.size, 25, #[.bool false, .int .u64 a, .int .u64 b, .int .i64 s])] W) (by kernel_rfl) ?_
        refine ord_take (v := ?_) (i := 0) (fuel := 6) (by simp; rfl) (by kernel_rfl) (by kernel_rfl) (by kernel_rfl) (Or.inl ⟨by rfl, fun w' hSw => ?_⟩) HS0.out ?_
        rotate_left
        · go_simp
          all_goals with_reducible rfl
        simp only [Act.put, List.setIfInBounds_toArray, List.set_cons_zero, List.set_cons_succ]
        refine ord_take (v := ?_) (i := 1) (fuel := 5) (by simp; rfl) (by kernel_rfl) (by kernel_rfl) (by kernel_rfl) (Or.inl ⟨by rfl, fun w' hSw => ?_⟩) HS0.out ?_
        rotate_left
        · dsimp only at hSw
          obtain ⟨_, x0, x1, x2, x3⟩ := HB.dec (t := 25) (g := w1.heap.size) (a := .bool false) (b := .int .u64 a) (c := .int .u64 b) (d := .int .i64 s) hSw (by simp)
          go_simp
          all_goals with_reducible rfl
        simp only [Act.put, List.setIfInBounds_toArray, List.set_cons_zero, List.set_cons_succ]
        refine ord_take (v := ?_) (i := 2) (fuel := 4) (by simp; rfl) (by kernel_rfl) (by kernel_rfl) (by kernel_rfl) (Or.inl ⟨by rfl, fun w' hSw => ?_⟩) HS0.out ?_
        rotate_left
        · go_simp
          all_goals with_reducible rfl
        simp only [Act.put, List.setIfInBounds_toArray, List.set_cons_zero, List.set_cons_succ]
        refine ord_call (f := 6) (args := #[.int .i64 pz, .int .i64 5]) (w1 := (w7.alloc (.cells #[.bool false, .int .u64 0, .int .u64 0, .int .i64 0] 25)).drew) (i := 3) (fuel := 3) (by simp; rfl) (by kernel_rfl) (by rfl) ?_ ?_
        · go_simp
          all_goals with_reducible rfl
        refine (pick_c _ 5 _ (by omega) (by omega)).mono ?_
        rintro e w8 ⟨_, ⟨u, ⟨u0, u5⟩, rfl⟩, rfl, rfl⟩
        obtain ⟨k, hk, hsk, k9⟩ : ∃ k : Int, min 9 (IntKind.i64.wrap (s + u)) = k ∧ s ≤ k ∧ k ≤ 9 := ⟨min 9 (s + u), by rw [IntWalk.i64_in _ (by omega)], by omega, by omega⟩
        refine ⟨_, rfl, HS0.out, ?_⟩
        simp only [Act.put, List.setIfInBounds_toArray, List.set_cons_zero, List.set_cons_succ]
        refine ord_take (v := ?_) (i := 4) (fuel := 2) (by simp; rfl) (by kernel_rfl) (by kernel_rfl) (by kernel_rfl) (Or.inl ⟨by rfl, fun w' hSw => ?_⟩) HS0.out ?_
        rotate_left
        · go_simp
          all_goals with_reducible rfl
        simp only [Act.put, List.setIfInBounds_toArray, List.set_cons_zero, List.set_cons_succ]
        refine ord_take (v := ?_) (i := 5) (fuel := 1) (by simp; rfl) (by kernel_rfl) (by kernel_rfl) (by kernel_rfl) (Or.inl ⟨by rfl, fun w' hSw => ?_⟩) HS0.out ?_
        rotate_left
        · go_simp
          all_goals with_reducible rfl
        simp only [Act.put, List.setIfInBounds_toArray, List.set_cons_zero, List.set_cons_succ]
        refine ord_take (v := ?_) (i := 6) (fuel := 0) (by simp; rfl) (by kernel_rfl) (by kernel_rfl) (by kernel_rfl) (Or.inl ⟨by rfl, fun w' hSw => ?_⟩) HS0.out ?_
        rotate_left
        · go_simp
          all_goals with_reducible rfl
        simp only [Act.put, List.setIfInBounds_toArray, List.set_cons_zero, List.set_cons_succ]
        refine ord_done (by kernel_rfl) ?_ _
        clear hk u0 u5
        have V := HS0.out
        clear HS0
        have k0 : 0 ≤ k := by omega
        obtain ⟨_, x0, x1, x2, x3⟩ := HB.dec (t := 25) (g := w1.heap.size) (a := .bool false) (b := .int .u64 a) (c := .int .u64 b) (d := .int .i64 s) V (by simp)
        by_cases hg : v2 a b * 10 ^ (k - s).toNat < 1000000000000000000000000000000
        · have HG := Lib.hid (show Gr z s k by unfold Gr upN; rw [HZN.out]; exact hg)
          clear hg
          go_wp2_with fail
          refine (scaled_g false a b s z k _ HD1.out HG.out s0 hsk k9).mono ?_
          rintro e w9 ⟨_, ⟨n2, a2, b2, D2, rfl⟩, rfl, hb⟩
          replace V := V.below hb
          clear hb x0 x1 x2 x3
          have HD2 := Lib.hid D2
          clear D2
          replace V := V.push #[.bool n2, .int .u64 a2, .int .u64 b2, .int .i64 k] 25
          have HG2 := Lib.hid (show Gr (zAt z s k) k k by
            have := HG.out
            unfold Gr upN at this ⊢
            rw [zAt_nat, Int.sub_self]
            simpa using this)
          have HC := Lib.hid (show cmpZ (zAt z s k) (zAt (zAt z s k) k k) = 0 by rw [zAt_same]; exact cmpZ_same _)
          obtain ⟨σ, hσ⟩ : ∃ σ, z.sign = σ := ⟨_, rfl⟩
          have HSg := Lib.hid hσ
          have HSg2 := Lib.hid (show (zAt z s k).sign = σ by rw [zAt_sign]; exact hσ)
          have HZ31 := Lib.hid (show (zAt z s k).natAbs < 1000000000000000000000000000000 from gr_30 HG2.out)
          clear hσ
          go_upto_region 19 with fail
          have HS0 := Lib.hid (HB.drew V)
          clear V
          refine wp_region_ord (S := fun W => HB w [(w9.heap.size, 25, #[.bool n2, .int .u64 a2, .int .u64 b2, .int .i64 k]), (w4.heap.size, 25, #[.bool false, .int .u64 a, .int .u64 b, .int .i64 s]), (w1.heap.size, 25, #[.bool false, .int .u64 a, .int .u64 b, .int .i64 s])] W) (by kernel_rfl) ?_
          refine ord_take (v := ?_) (i := 0) (fuel := 17) (by simp; rfl) (by kernel_rfl) (by kernel_rfl) (by kernel_rfl) (Or.inl ⟨by rfl, fun w' hSw => ?_⟩) HS0.out ?_
          rotate_left
          · dsimp only at hSw
            obtain ⟨_, x0, x1, x2, x3⟩ := HB.dec (t := 25) (g := w1.heap.size) (a := .bool false) (b := .int .u64 a) (c := .int .u64 b) (d := .int .i64 s) hSw (by simp)
            go_simp
            all_goals with_reducible rfl
          simp only [Act.put, List.setIfInBounds_toArray, List.set_cons_zero, List.set_cons_succ]
          refine ord_take (v := ?_) (i := 1) (fuel := 16) (by simp; rfl) (by kernel_rfl) (by kernel_rfl) (by kernel_rfl) (Or.inl ⟨by rfl, fun w' hSw => ?_⟩) HS0.out ?_
          rotate_left
          · dsimp only at hSw
            obtain ⟨_, x0, x1, x2, x3⟩ := HB.dec (t := 25) (g := w9.heap.size) (a := .bool n2) (b := .int .u64 a2) (c := .int .u64 b2) (d := .int .i64 k) hSw (by simp)
            go_simp
            all_goals with_reducible rfl
          simp only [Act.put, List.setIfInBounds_toArray, List.set_cons_zero, List.set_cons_succ]
          refine ord_call (f := 25) (args := #[.agg #[.bool false, .int .u64 a, .int .u64 b, .int .i64 s], .agg #[.bool n2, .int .u64 a2, .int .u64 b2, .int .i64 k]]) (w1 := (w9.alloc (.cells #[.bool n2, .int .u64 a2, .int .u64 b2, .int .i64 k] 25)).drew) (i := 2) (fuel := 15) (by simp; rfl) (by kernel_rfl) (by rfl) ?_ ?_
          · go_simp
            all_goals with_reducible rfl
          refine (cmp_gv false a b s z n2 a2 b2 k (zAt z s k) k 0 _ HD1.out HD2.out HG.out HG2.out s0 k0 s9 k9 (by omega) HC.out).mono ?_
          rintro e wx ⟨_, rfl, rfl, hb⟩
          have HSwx := Lib.hid (HB.below HS0.out hb)
          clear hb
          refine ⟨_, rfl, HSwx.out, ?_⟩
          simp only [Act.put, List.setIfInBounds_toArray, List.set_cons_zero, List.set_cons_succ]
          refine ord_take (v := ?_) (i := 3) (fuel := 14) (by simp; rfl) (by kernel_rfl) (by kernel_rfl) (by kernel_rfl) (Or.inl ⟨by rfl, fun w' hSw => ?_⟩) HSwx.out ?_
          rotate_left
          · go_simp
            all_goals with_reducible rfl
          simp only [Act.put, List.setIfInBounds_toArray, List.set_cons_zero, List.set_cons_succ]
          refine ord_take (v := ?_) (i := 4) (fuel := 13) (by simp; rfl) (by kernel_rfl) (by kernel_rfl) (by kernel_rfl) (Or.inl ⟨by rfl, fun w' hSw => ?_⟩) HSwx.out ?_
          rotate_left
          · go_simp
            all_goals with_reducible rfl
          simp only [Act.put, List.setIfInBounds_toArray, List.set_cons_zero, List.set_cons_succ]
          refine ord_take (v := ?_) (i := 5) (fuel := 12) (by simp; rfl) (by kernel_rfl) (by kernel_rfl) (by kernel_rfl) (Or.inl ⟨by rfl, fun w' hSw => ?_⟩) HSwx.out ?_
          rotate_left
          · go_simp
            all_goals with_reducible rfl
          simp only [Act.put, List.setIfInBounds_toArray, List.set_cons_zero, List.set_cons_succ]
          refine ord_take (v := ?_) (i := 6) (fuel := 11) (by simp; rfl) (by kernel_rfl) (by kernel_rfl) (by kernel_rfl) (Or.inl ⟨by rfl, fun w' hSw => ?_⟩) HSwx.out ?_
          rotate_left
          · dsimp only at hSw
            obtain ⟨_, x0, x1, x2, x3⟩ := HB.dec (t := 25) (g := w9.heap.size) (a := .bool n2) (b := .int .u64 a2) (c := .int .u64 b2) (d := .int .i64 k) hSw (by simp)
            go_simp
            all_goals with_reducible rfl
          simp only [Act.put, List.setIfInBounds_toArray, List.set_cons_zero, List.set_cons_succ]
          refine ord_take (v := ?_) (i := 7) (fuel := 10) (by simp; rfl) (by kernel_rfl) (by kernel_rfl) (by kernel_rfl) (Or.inl ⟨by rfl, fun w' hSw => ?_⟩) HSwx.out ?_
          rotate_left
          · go_simp
            all_goals with_reducible rfl
          simp only [Act.put, List.setIfInBounds_toArray, List.set_cons_zero, List.set_cons_succ]
          refine ord_take (v := ?_) (i := 8) (fuel := 9) (by simp; rfl) (by kernel_rfl) (by kernel_rfl) (by kernel_rfl) (Or.inl ⟨by rfl, fun w' hSw => ?_⟩) HSwx.out ?_
          rotate_left
          · go_simp
            all_goals with_reducible rfl
          simp only [Act.put, List.setIfInBounds_toArray, List.set_cons_zero, List.set_cons_succ]
          refine ord_take (v := ?_) (i := 9) (fuel := 8) (by simp; rfl) (by kernel_rfl) (by kernel_rfl) (by kernel_rfl) (Or.inl ⟨by rfl, fun w' hSw => ?_⟩) HSwx.out ?_
          rotate_left
          · go_simp
            all_goals with_reducible rfl
          simp only [Act.put, List.setIfInBounds_toArray, List.set_cons_zero, List.set_cons_succ]
          refine ord_take (v := ?_) (i := 10) (fuel := 7) (by simp; rfl) (by kernel_rfl) (by kernel_rfl) (by kernel_rfl) (Or.inl ⟨by rfl, fun w' hSw => ?_⟩) HSwx.out ?_
          rotate_left
          · go_simp
            all_goals with_reducible rfl
          simp only [Act.put, List.setIfInBounds_toArray, List.set_cons_zero, List.set_cons_succ]
          refine ord_take (v := ?_) (i := 11) (fuel := 6) (by simp; rfl) (by kernel_rfl) (by kernel_rfl) (by kernel_rfl) (Or.inl ⟨by rfl, fun w' hSw => ?_⟩) HSwx.out ?_
          rotate_left
          · dsimp only at hSw
            obtain ⟨_, x0, x1, x2, x3⟩ := HB.dec (t := 25) (g := w1.heap.size) (a := .bool false) (b := .int .u64 a) (c := .int .u64 b) (d := .int .i64 s) hSw (by simp)
            go_simp
            all_goals with_reducible rfl
          simp only [Act.put, List.setIfInBounds_toArray, List.set_cons_zero, List.set_cons_succ]
          refine ord_take (v := ?_) (i := 13) (fuel := 5) (by simp; rfl) (by kernel_rfl) (by kernel_rfl) (by kernel_rfl) (Or.inl ⟨by rfl, fun w' hSw => ?_⟩) HSwx.out ?_
          rotate_left
          · dsimp only at hSw
            obtain ⟨_, x0, x1, x2, x3⟩ := HB.dec (t := 25) (g := w9.heap.size) (a := .bool n2) (b := .int .u64 a2) (c := .int .u64 b2) (d := .int .i64 k) hSw (by simp)
            go_simp
            all_goals with_reducible rfl
          simp only [Act.put, List.setIfInBounds_toArray, List.set_cons_zero, List.set_cons_succ]
          refine ord_call (f := 23) (args := #[.agg #[.bool false, .int .u64 a, .int .u64 b, .int .i64 s]]) (w1 := wx) (i := 12) (fuel := 4) (by simp; rfl) (by kernel_rfl) (by rfl) ?_ ?_
          · go_simp
            all_goals with_reducible rfl
          refine (sign_gv false a b s z σ _ HD1.out HZ30.out s0 s9 HSg.out).mono ?_
          rintro e wy ⟨_, rfl, rfl, hb⟩
          have HSwy := Lib.hid (HB.below HSwx.out hb)
          clear hb
          refine ⟨_, rfl, HSwy.out, ?_⟩
          simp only [Act.put, List.setIfInBounds_toArray, List.set_cons_zero, List.set_cons_succ]
          refine ord_call (f := 23) (args := #[.agg #[.bool n2, .int .u64 a2, .int .u64 b2, .int .i64 k]]) (w1 := wy) (i := 14) (fuel := 3) (by simp; rfl) (by kernel_rfl) (by rfl) ?_ ?_
          · go_simp
            all_goals with_reducible rfl
          refine (sign_gv n2 a2 b2 k (zAt z s k) σ _ HD2.out HZ31.out k0 k9 HSg2.out).mono ?_
          rintro e wz ⟨_, rfl, rfl, hb⟩
          have HSwz := Lib.hid (HB.below HSwy.out hb)
          clear hb
          refine ⟨_, rfl, HSwz.out, ?_⟩
          simp only [Act.put, List.setIfInBounds_toArray, List.set_cons_zero, List.set_cons_succ]
          refine ord_take (v := ?_) (i := 15) (fuel := 2) (by simp; rfl) (by kernel_rfl) (by kernel_rfl) (by kernel_rfl) (Or.inl ⟨by rfl, fun w' hSw => ?_⟩) HSwz.out ?_
          rotate_left
          · go_simp
            all_goals with_reducible rfl
          simp only [Act.put, List.setIfInBounds_toArray, List.set_cons_zero, List.set_cons_succ]
          refine ord_take (v := ?_) (i := 16) (fuel := 1) (by simp; rfl) (by kernel_rfl) (by kernel_rfl) (by kernel_rfl) (Or.inl ⟨by rfl, fun w' hSw => ?_⟩) HSwz.out ?_
          rotate_left
          · go_simp
            all_goals with_reducible rfl
          simp only [Act.put, List.setIfInBounds_toArray, List.set_cons_zero, List.set_cons_succ]
          refine ord_take (v := ?_) (i := 17) (fuel := 0) (by simp; rfl) (by kernel_rfl) (by kernel_rfl) (by kernel_rfl) (Or.inl ⟨by rfl, fun w' hSw => ?_⟩) HSwz.out ?_
          rotate_left
          · go_simp
            all_goals with_reducible rfl
          simp only [Act.put, List.setIfInBounds_toArray, List.set_cons_zero, List.set_cons_succ]
          refine ord_done (by kernel_rfl) ?_ _
          have HB1 := Lib.hid HSwz.out.1
          clear HS0 HSwx HSwy HSwz
          go_wp2
          go_ret
          exact ⟨_, rfl, rfl, HB1.out⟩
        · have HG := Lib.hid (Nat.le_of_not_lt hg)
          clear hg
          go_wp2_with fail
          refine (scaled_over false a b s k _ _ HU.out.1 HU.out.2 HR.out hsk k9 rfl HG.out).mono ?_
          rintro e w9 ⟨_, rfl, rfl, hb⟩
          replace V := V.below hb
          clear hb x0 x1 x2 x3
          replace V := V.alloc (.cells #[.bool false, .int .u64 0, .int .u64 0, .int .i64 0] 25)
          have HB1 := Lib.hid V.1
          clear V
          go_wp2
          go_ret
          exact ⟨_, rfl, rfl, HB1.out⟩
    · have hc := head_t HS.out sl0
      go_wp2_with fail
      rw [more_t HS.out]
      by_cases h29 : W.length ≤ 29
      · have RD := read_v true a b s (48 :: W) P mx w6 HU.out.1 HU.out.2 HR.out (by simp) (by simp; omega) (by rw [List.all_cons, HWD.out.2.2.1]; rfl) HWD.out.2.2.2 HPL.out ((num_zero W P).trans HNL.out) (cell_keep V.1 HMX.out)
        refine RD.mono ?_
        clear RD
        rintro e w7 ⟨_, rfl, rfl, hb⟩
        replace V := V.below hb
        clear hb
        obtain ⟨_, x0, x1, x2, x3⟩ := HB.dec (t := 25) (g := w1.heap.size) (a := .bool true) (b := .int .u64 a) (c := .int .u64 b) (d := .int .i64 s) V (by simp)
        have V2 := V.push #[.bool true, .int .u64 a, .int .u64 b, .int .i64 s] 25
        replace V := V.alloc (.cells #[.bool true, .int .u64 a, .int .u64 b, .int .i64 s] 25)
        obtain ⟨_, y0, y1, y2, y3⟩ := HB.dec (t := 25) (g := w7.heap.size) (a := .bool true) (b := .int .u64 a) (c := .int .u64 b) (d := .int .i64 s) V2 (by simp)
        clear V2
        go_upto_region 15 with fail
        have HS0 := Lib.hid (HB.drew V)
        clear V
        refine wp_region_ord (S := fun W => HB w [(w4.heap.size, 25, #[.bool true, .int .u64 a, .int .u64 b, .int .i64 s]), (w1.heap.size, 25, #[.bool true, .int .u64 a, .int .u64 b, .int .i64 s])] W) (by kernel_rfl) ?_
        refine ord_take (v := ?_) (i := 0) (fuel := 6) (by simp; rfl) (by kernel_rfl) (by kernel_rfl) (by kernel_rfl) (Or.inl ⟨by rfl, fun w' hSw => ?_⟩) HS0.out ?_
        rotate_left
        · go_simp
          all_goals with_reducible rfl
        simp only [Act.put, List.setIfInBounds_toArray, List.set_cons_zero, List.set_cons_succ]
        refine ord_take (v := ?_) (i := 1) (fuel := 5) (by simp; rfl) (by kernel_rfl) (by kernel_rfl) (by kernel_rfl) (Or.inl ⟨by rfl, fun w' hSw => ?_⟩) HS0.out ?_
        rotate_left
        · dsimp only at hSw
          obtain ⟨_, x0, x1, x2, x3⟩ := HB.dec (t := 25) (g := w1.heap.size) (a := .bool true) (b := .int .u64 a) (c := .int .u64 b) (d := .int .i64 s) hSw (by simp)
          go_simp
          all_goals with_reducible rfl
        simp only [Act.put, List.setIfInBounds_toArray, List.set_cons_zero, List.set_cons_succ]
        refine ord_take (v := ?_) (i := 2) (fuel := 4) (by simp; rfl) (by kernel_rfl) (by kernel_rfl) (by kernel_rfl) (Or.inl ⟨by rfl, fun w' hSw => ?_⟩) HS0.out ?_
        rotate_left
        · go_simp
          all_goals with_reducible rfl
        simp only [Act.put, List.setIfInBounds_toArray, List.set_cons_zero, List.set_cons_succ]
        refine ord_call (f := 6) (args := #[.int .i64 pz, .int .i64 5]) (w1 := (w7.alloc (.cells #[.bool true, .int .u64 a, .int .u64 b, .int .i64 s] 25)).drew) (i := 3) (fuel := 3) (by simp; rfl) (by kernel_rfl) (by rfl) ?_ ?_
        · go_simp
          all_goals with_reducible rfl
        refine (pick_c _ 5 _ (by omega) (by omega)).mono ?_
        rintro e w8 ⟨_, ⟨u, ⟨u0, u5⟩, rfl⟩, rfl, rfl⟩
        obtain ⟨k, hk, hsk, k9⟩ : ∃ k : Int, min 9 (IntKind.i64.wrap (s + u)) = k ∧ s ≤ k ∧ k ≤ 9 := ⟨min 9 (s + u), by rw [IntWalk.i64_in _ (by omega)], by omega, by omega⟩
        refine ⟨_, rfl, HS0.out, ?_⟩
        simp only [Act.put, List.setIfInBounds_toArray, List.set_cons_zero, List.set_cons_succ]
        refine ord_take (v := ?_) (i := 4) (fuel := 2) (by simp; rfl) (by kernel_rfl) (by kernel_rfl) (by kernel_rfl) (Or.inl ⟨by rfl, fun w' hSw => ?_⟩) HS0.out ?_
        rotate_left
        · go_simp
          all_goals with_reducible rfl
        simp only [Act.put, List.setIfInBounds_toArray, List.set_cons_zero, List.set_cons_succ]
        refine ord_take (v := ?_) (i := 5) (fuel := 1) (by simp; rfl) (by kernel_rfl) (by kernel_rfl) (by kernel_rfl) (Or.inl ⟨by rfl, fun w' hSw => ?_⟩) HS0.out ?_
        rotate_left
        · go_simp
          all_goals with_reducible rfl
        simp only [Act.put, List.setIfInBounds_toArray, List.set_cons_zero, List.set_cons_succ]
        refine ord_take (v := ?_) (i := 6) (fuel := 0) (by simp; rfl) (by kernel_rfl) (by kernel_rfl) (by kernel_rfl) (Or.inl ⟨by rfl, fun w' hSw => ?_⟩) HS0.out ?_
        rotate_left
        · go_simp
          all_goals with_reducible rfl
        simp only [Act.put, List.setIfInBounds_toArray, List.set_cons_zero, List.set_cons_succ]
        refine ord_done (by kernel_rfl) ?_ _
        clear hk u0 u5
        have V := HS0.out
        clear HS0
        have k0 : 0 ≤ k := by omega
        obtain ⟨_, x0, x1, x2, x3⟩ := HB.dec (t := 25) (g := w1.heap.size) (a := .bool true) (b := .int .u64 a) (c := .int .u64 b) (d := .int .i64 s) V (by simp)
        by_cases hg : v2 a b * 10 ^ (k - s).toNat < 1000000000000000000000000000000
        · have HG := Lib.hid (show Gr z s k by unfold Gr upN; rw [HZN.out]; exact hg)
          clear hg
          go_wp2_with fail
          refine (scaled_g true a b s z k _ HD1.out HG.out s0 hsk k9).mono ?_
          rintro e w9 ⟨_, ⟨n2, a2, b2, D2, rfl⟩, rfl, hb⟩
          replace V := V.below hb
          clear hb x0 x1 x2 x3
          have HD2 := Lib.hid D2
          clear D2
          replace V := V.push #[.bool n2, .int .u64 a2, .int .u64 b2, .int .i64 k] 25
          have HG2 := Lib.hid (show Gr (zAt z s k) k k by
            have := HG.out
            unfold Gr upN at this ⊢
            rw [zAt_nat, Int.sub_self]
            simpa using this)
          have HC := Lib.hid (show cmpZ (zAt z s k) (zAt (zAt z s k) k k) = 0 by rw [zAt_same]; exact cmpZ_same _)
          obtain ⟨σ, hσ⟩ : ∃ σ, z.sign = σ := ⟨_, rfl⟩
          have HSg := Lib.hid hσ
          have HSg2 := Lib.hid (show (zAt z s k).sign = σ by rw [zAt_sign]; exact hσ)
          have HZ31 := Lib.hid (show (zAt z s k).natAbs < 1000000000000000000000000000000 from gr_30 HG2.out)
          clear hσ
          go_upto_region 19 with fail
          have HS0 := Lib.hid (HB.drew V)
          clear V
          refine wp_region_ord (S := fun W => HB w [(w9.heap.size, 25, #[.bool n2, .int .u64 a2, .int .u64 b2, .int .i64 k]), (w4.heap.size, 25, #[.bool true, .int .u64 a, .int .u64 b, .int .i64 s]), (w1.heap.size, 25, #[.bool true, .int .u64 a, .int .u64 b, .int .i64 s])] W) (by kernel_rfl) ?_
          refine ord_take (v := ?_) (i := 0) (fuel := 17) (by simp; rfl) (by kernel_rfl) (by kernel_rfl) (by kernel_rfl) (Or.inl ⟨by rfl, fun w' hSw => ?_⟩) HS0.out ?_
          rotate_left
          · dsimp only at hSw
            obtain ⟨_, x0, x1, x2, x3⟩ := HB.dec (t := 25) (g := w1.heap.size) (a := .bool true) (b := .int .u64 a) (c := .int .u64 b) (d := .int .i64 s) hSw (by simp)
            go_simp
            all_goals with_reducible rfl
          simp only [Act.put, List.setIfInBounds_toArray, List.set_cons_zero, List.set_cons_succ]
          refine ord_take (v := ?_) (i := 1) (fuel := 16) (by simp; rfl) (by kernel_rfl) (by kernel_rfl) (by kernel_rfl) (Or.inl ⟨by rfl, fun w' hSw => ?_⟩) HS0.out ?_
          rotate_left
          · dsimp only at hSw
            obtain ⟨_, x0, x1, x2, x3⟩ := HB.dec (t := 25) (g := w9.heap.size) (a := .bool n2) (b := .int .u64 a2) (c := .int .u64 b2) (d := .int .i64 k) hSw (by simp)
            go_simp
            all_goals with_reducible rfl
          simp only [Act.put, List.setIfInBounds_toArray, List.set_cons_zero, List.set_cons_succ]
          refine ord_call (f := 25) (args := #[.agg #[.bool true, .int .u64 a, .int .u64 b, .int .i64 s], .agg #[.bool n2, .int .u64 a2, .int .u64 b2, .int .i64 k]]) (w1 := (w9.alloc (.cells #[.bool n2, .int .u64 a2, .int .u64 b2, .int .i64 k] 25)).drew) (i := 2) (fuel := 15) (by simp; rfl) (by kernel_rfl) (by rfl) ?_ ?_
          · go_simp
            all_goals with_reducible rfl
          refine (cmp_gv true a b s z n2 a2 b2 k (zAt z s k) k 0 _ HD1.out HD2.out HG.out HG2.out s0 k0 s9 k9 (by omega) HC.out).mono ?_
          rintro e wx ⟨_, rfl, rfl, hb⟩
          have HSwx := Lib.hid (HB.below HS0.out hb)
          clear hb
          refine ⟨_, rfl, HSwx.out, ?_⟩
          simp only [Act.put, List.setIfInBounds_toArray, List.set_cons_zero, List.set_cons_succ]
          refine ord_take (v := ?_) (i := 3) (fuel := 14) (by simp; rfl) (by kernel_rfl) (by kernel_rfl) (by kernel_rfl) (Or.inl ⟨by rfl, fun w' hSw => ?_⟩) HSwx.out ?_
          rotate_left
          · go_simp
            all_goals with_reducible rfl
          simp only [Act.put, List.setIfInBounds_toArray, List.set_cons_zero, List.set_cons_succ]
          refine ord_take (v := ?_) (i := 4) (fuel := 13) (by simp; rfl) (by kernel_rfl) (by kernel_rfl) (by kernel_rfl) (Or.inl ⟨by rfl, fun w' hSw => ?_⟩) HSwx.out ?_
          rotate_left
          · go_simp
            all_goals with_reducible rfl
          simp only [Act.put, List.setIfInBounds_toArray, List.set_cons_zero, List.set_cons_succ]
          refine ord_take (v := ?_) (i := 5) (fuel := 12) (by simp; rfl) (by kernel_rfl) (by kernel_rfl) (by kernel_rfl) (Or.inl ⟨by rfl, fun w' hSw => ?_⟩) HSwx.out ?_
          rotate_left
          · go_simp
            all_goals with_reducible rfl
          simp only [Act.put, List.setIfInBounds_toArray, List.set_cons_zero, List.set_cons_succ]
          refine ord_take (v := ?_) (i := 6) (fuel := 11) (by simp; rfl) (by kernel_rfl) (by kernel_rfl) (by kernel_rfl) (Or.inl ⟨by rfl, fun w' hSw => ?_⟩) HSwx.out ?_
          rotate_left
          · dsimp only at hSw
            obtain ⟨_, x0, x1, x2, x3⟩ := HB.dec (t := 25) (g := w9.heap.size) (a := .bool n2) (b := .int .u64 a2) (c := .int .u64 b2) (d := .int .i64 k) hSw (by simp)
            go_simp
            all_goals with_reducible rfl
          simp only [Act.put, List.setIfInBounds_toArray, List.set_cons_zero, List.set_cons_succ]
          refine ord_take (v := ?_) (i := 7) (fuel := 10) (by simp; rfl) (by kernel_rfl) (by kernel_rfl) (by kernel_rfl) (Or.inl ⟨by rfl, fun w' hSw => ?_⟩) HSwx.out ?_
          rotate_left
          · go_simp
            all_goals with_reducible rfl
          simp only [Act.put, List.setIfInBounds_toArray, List.set_cons_zero, List.set_cons_succ]
          refine ord_take (v := ?_) (i := 8) (fuel := 9) (by simp; rfl) (by kernel_rfl) (by kernel_rfl) (by kernel_rfl) (Or.inl ⟨by rfl, fun w' hSw => ?_⟩) HSwx.out ?_
          rotate_left
          · go_simp
            all_goals with_reducible rfl
          simp only [Act.put, List.setIfInBounds_toArray, List.set_cons_zero, List.set_cons_succ]
          refine ord_take (v := ?_) (i := 9) (fuel := 8) (by simp; rfl) (by kernel_rfl) (by kernel_rfl) (by kernel_rfl) (Or.inl ⟨by rfl, fun w' hSw => ?_⟩) HSwx.out ?_
          rotate_left
          · go_simp
            all_goals with_reducible rfl
          simp only [Act.put, List.setIfInBounds_toArray, List.set_cons_zero, List.set_cons_succ]
          refine ord_take (v := ?_) (i := 10) (fuel := 7) (by simp; rfl) (by kernel_rfl) (by kernel_rfl) (by kernel_rfl) (Or.inl ⟨by rfl, fun w' hSw => ?_⟩) HSwx.out ?_
          rotate_left
          · go_simp
            all_goals with_reducible rfl
          simp only [Act.put, List.setIfInBounds_toArray, List.set_cons_zero, List.set_cons_succ]
          refine ord_take (v := ?_) (i := 11) (fuel := 6) (by simp; rfl) (by kernel_rfl) (by kernel_rfl) (by kernel_rfl) (Or.inl ⟨by rfl, fun w' hSw => ?_⟩) HSwx.out ?_
          rotate_left
          · dsimp only at hSw
            obtain ⟨_, x0, x1, x2, x3⟩ := HB.dec (t := 25) (g := w1.heap.size) (a := .bool true) (b := .int .u64 a) (c := .int .u64 b) (d := .int .i64 s) hSw (by simp)
            go_simp
            all_goals with_reducible rfl
          simp only [Act.put, List.setIfInBounds_toArray, List.set_cons_zero, List.set_cons_succ]
          refine ord_take (v := ?_) (i := 13) (fuel := 5) (by simp; rfl) (by kernel_rfl) (by kernel_rfl) (by kernel_rfl) (Or.inl ⟨by rfl, fun w' hSw => ?_⟩) HSwx.out ?_
          rotate_left
          · dsimp only at hSw
            obtain ⟨_, x0, x1, x2, x3⟩ := HB.dec (t := 25) (g := w9.heap.size) (a := .bool n2) (b := .int .u64 a2) (c := .int .u64 b2) (d := .int .i64 k) hSw (by simp)
            go_simp
            all_goals with_reducible rfl
          simp only [Act.put, List.setIfInBounds_toArray, List.set_cons_zero, List.set_cons_succ]
          refine ord_call (f := 23) (args := #[.agg #[.bool true, .int .u64 a, .int .u64 b, .int .i64 s]]) (w1 := wx) (i := 12) (fuel := 4) (by simp; rfl) (by kernel_rfl) (by rfl) ?_ ?_
          · go_simp
            all_goals with_reducible rfl
          refine (sign_gv true a b s z σ _ HD1.out HZ30.out s0 s9 HSg.out).mono ?_
          rintro e wy ⟨_, rfl, rfl, hb⟩
          have HSwy := Lib.hid (HB.below HSwx.out hb)
          clear hb
          refine ⟨_, rfl, HSwy.out, ?_⟩
          simp only [Act.put, List.setIfInBounds_toArray, List.set_cons_zero, List.set_cons_succ]
          refine ord_call (f := 23) (args := #[.agg #[.bool n2, .int .u64 a2, .int .u64 b2, .int .i64 k]]) (w1 := wy) (i := 14) (fuel := 3) (by simp; rfl) (by kernel_rfl) (by rfl) ?_ ?_
          · go_simp
            all_goals with_reducible rfl
          refine (sign_gv n2 a2 b2 k (zAt z s k) σ _ HD2.out HZ31.out k0 k9 HSg2.out).mono ?_
          rintro e wz ⟨_, rfl, rfl, hb⟩
          have HSwz := Lib.hid (HB.below HSwy.out hb)
          clear hb
          refine ⟨_, rfl, HSwz.out, ?_⟩
          simp only [Act.put, List.setIfInBounds_toArray, List.set_cons_zero, List.set_cons_succ]
          refine ord_take (v := ?_) (i := 15) (fuel := 2) (by simp; rfl) (by kernel_rfl) (by kernel_rfl) (by kernel_rfl) (Or.inl ⟨by rfl, fun w' hSw => ?_⟩) HSwz.out ?_
          rotate_left
          · go_simp
            all_goals with_reducible rfl
          simp only [Act.put, List.setIfInBounds_toArray, List.set_cons_zero, List.set_cons_succ]
          refine ord_take (v := ?_) (i := 16) (fuel := 1) (by simp; rfl) (by kernel_rfl) (by kernel_rfl) (by kernel_rfl) (Or.inl ⟨by rfl, fun w' hSw => ?_⟩) HSwz.out ?_
          rotate_left
          · go_simp
            all_goals with_reducible rfl
          simp only [Act.put, List.setIfInBounds_toArray, List.set_cons_zero, List.set_cons_succ]
          refine ord_take (v := ?_) (i := 17) (fuel := 0) (by simp; rfl) (by kernel_rfl) (by kernel_rfl) (by kernel_rfl) (Or.inl ⟨by rfl, fun w' hSw => ?_⟩) HSwz.out ?_
          rotate_left
          · go_simp
            all_goals with_reducible rfl
          simp only [Act.put, List.setIfInBounds_toArray, List.set_cons_zero, List.set_cons_succ]
          refine ord_done (by kernel_rfl) ?_ _
          have HB1 := Lib.hid HSwz.out.1
          clear HS0 HSwx HSwy HSwz
          go_wp2
          go_ret
          exact ⟨_, rfl, rfl, HB1.out⟩
        · have HG := Lib.hid (Nat.le_of_not_lt hg)
          clear hg
          go_wp2_with fail
          refine (scaled_over true a b s k _ _ HU.out.1 HU.out.2 HR.out hsk k9 rfl HG.out).mono ?_
          rintro e w9 ⟨_, rfl, rfl, hb⟩
          replace V := V.below hb
          clear hb x0 x1 x2 x3
          replace V := V.alloc (.cells #[.bool false, .int .u64 0, .int .u64 0, .int .i64 0] 25)
          have HB1 := Lib.hid V.1
          clear V
          go_wp2
          go_ret
          exact ⟨_, rfl, rfl, HB1.out⟩
      · have RD := read_long true (48 :: W) P mx w6 (by simp; omega) (by simp; have := HWD.out.2.1; omega) (by rw [List.all_cons, HWD.out.2.2.1]; rfl) (by have := HPL.out; omega) (cell_keep V.1 HMX.out)
        refine RD.mono ?_
        clear RD
        rintro e w7 ⟨_, rfl, rfl, hb⟩
        replace V := V.below hb
        clear hb
        replace V := V.alloc (.cells #[.bool false, .int .u64 0, .int .u64 0, .int .i64 0] 25)
        go_upto_region 15 with fail
        have HS0 := Lib.hid (HB.drew V)
        clear V
        refine wp_region_ord (S := fun W => HB w [(w4.heap.size, 25, #[.bool true, .int .u64 a, .int .u64 b, .int .i64 s]), (w1.heap.size, 25, #[.bool true, .int .u64 a, .int .u64 b, .int .i64 s])] W) (by kernel_rfl) ?_
        refine ord_take (v := ?_) (i := 0) (fuel := 6) (by simp; rfl) (by kernel_rfl) (by kernel_rfl) (by kernel_rfl) (Or.inl ⟨by rfl, fun w' hSw => ?_⟩) HS0.out ?_
        rotate_left
        · go_simp
          all_goals with_reducible rfl
        simp only [Act.put, List.setIfInBounds_toArray, List.set_cons_zero, List.set_cons_succ]
        refine ord_take (v := ?_) (i := 1) (fuel := 5) (by simp; rfl) (by kernel_rfl) (by kernel_rfl) (by kernel_rfl) (Or.inl ⟨by rfl, fun w' hSw => ?_⟩) HS0.out ?_
        rotate_left
        · dsimp only at hSw
          obtain ⟨_, x0, x1, x2, x3⟩ := HB.dec (t := 25) (g := w1.heap.size) (a := .bool true) (b := .int .u64 a) (c := .int .u64 b) (d := .int .i64 s) hSw (by simp)
          go_simp
          all_goals with_reducible rfl
        simp only [Act.put, List.setIfInBounds_toArray, List.set_cons_zero, List.set_cons_succ]
        refine ord_take (v := ?_) (i := 2) (fuel := 4) (by simp; rfl) (by kernel_rfl) (by kernel_rfl) (by kernel_rfl) (Or.inl ⟨by rfl, fun w' hSw => ?_⟩) HS0.out ?_
        rotate_left
        · go_simp
          all_goals with_reducible rfl
        simp only [Act.put, List.setIfInBounds_toArray, List.set_cons_zero, List.set_cons_succ]
        refine ord_call (f := 6) (args := #[.int .i64 pz, .int .i64 5]) (w1 := (w7.alloc (.cells #[.bool false, .int .u64 0, .int .u64 0, .int .i64 0] 25)).drew) (i := 3) (fuel := 3) (by simp; rfl) (by kernel_rfl) (by rfl) ?_ ?_
        · go_simp
          all_goals with_reducible rfl
        refine (pick_c _ 5 _ (by omega) (by omega)).mono ?_
        rintro e w8 ⟨_, ⟨u, ⟨u0, u5⟩, rfl⟩, rfl, rfl⟩
        obtain ⟨k, hk, hsk, k9⟩ : ∃ k : Int, min 9 (IntKind.i64.wrap (s + u)) = k ∧ s ≤ k ∧ k ≤ 9 := ⟨min 9 (s + u), by rw [IntWalk.i64_in _ (by omega)], by omega, by omega⟩
        refine ⟨_, rfl, HS0.out, ?_⟩
        simp only [Act.put, List.setIfInBounds_toArray, List.set_cons_zero, List.set_cons_succ]
        refine ord_take (v := ?_) (i := 4) (fuel := 2) (by simp; rfl) (by kernel_rfl) (by kernel_rfl) (by kernel_rfl) (Or.inl ⟨by rfl, fun w' hSw => ?_⟩) HS0.out ?_
        rotate_left
        · go_simp
          all_goals with_reducible rfl
        simp only [Act.put, List.setIfInBounds_toArray, List.set_cons_zero, List.set_cons_succ]
        refine ord_take (v := ?_) (i := 5) (fuel := 1) (by simp; rfl) (by kernel_rfl) (by kernel_rfl) (by kernel_rfl) (Or.inl ⟨by rfl, fun w' hSw => ?_⟩) HS0.out ?_
        rotate_left
        · go_simp
          all_goals with_reducible rfl
        simp only [Act.put, List.setIfInBounds_toArray, List.set_cons_zero, List.set_cons_succ]
        refine ord_take (v := ?_) (i := 6) (fuel := 0) (by simp; rfl) (by kernel_rfl) (by kernel_rfl) (by kernel_rfl) (Or.inl ⟨by rfl, fun w' hSw => ?_⟩) HS0.out ?_
        rotate_left
        · go_simp
          all_goals with_reducible rfl
        simp only [Act.put, List.setIfInBounds_toArray, List.set_cons_zero, List.set_cons_succ]
        refine ord_done (by kernel_rfl) ?_ _
        clear hk u0 u5
        have V := HS0.out
        clear HS0
        have k0 : 0 ≤ k := by omega
        obtain ⟨_, x0, x1, x2, x3⟩ := HB.dec (t := 25) (g := w1.heap.size) (a := .bool true) (b := .int .u64 a) (c := .int .u64 b) (d := .int .i64 s) V (by simp)
        by_cases hg : v2 a b * 10 ^ (k - s).toNat < 1000000000000000000000000000000
        · have HG := Lib.hid (show Gr z s k by unfold Gr upN; rw [HZN.out]; exact hg)
          clear hg
          go_wp2_with fail
          refine (scaled_g true a b s z k _ HD1.out HG.out s0 hsk k9).mono ?_
          rintro e w9 ⟨_, ⟨n2, a2, b2, D2, rfl⟩, rfl, hb⟩
          replace V := V.below hb
          clear hb x0 x1 x2 x3
          have HD2 := Lib.hid D2
          clear D2
          replace V := V.push #[.bool n2, .int .u64 a2, .int .u64 b2, .int .i64 k] 25
          have HG2 := Lib.hid (show Gr (zAt z s k) k k by
            have := HG.out
            unfold Gr upN at this ⊢
            rw [zAt_nat, Int.sub_self]
            simpa using this)
          have HC := Lib.hid (show cmpZ (zAt z s k) (zAt (zAt z s k) k k) = 0 by rw [zAt_same]; exact cmpZ_same _)
          obtain ⟨σ, hσ⟩ : ∃ σ, z.sign = σ := ⟨_, rfl⟩
          have HSg := Lib.hid hσ
          have HSg2 := Lib.hid (show (zAt z s k).sign = σ by rw [zAt_sign]; exact hσ)
          have HZ31 := Lib.hid (show (zAt z s k).natAbs < 1000000000000000000000000000000 from gr_30 HG2.out)
          clear hσ
          go_upto_region 19 with fail
          have HS0 := Lib.hid (HB.drew V)
          clear V
          refine wp_region_ord (S := fun W => HB w [(w9.heap.size, 25, #[.bool n2, .int .u64 a2, .int .u64 b2, .int .i64 k]), (w4.heap.size, 25, #[.bool true, .int .u64 a, .int .u64 b, .int .i64 s]), (w1.heap.size, 25, #[.bool true, .int .u64 a, .int .u64 b, .int .i64 s])] W) (by kernel_rfl) ?_
          refine ord_take (v := ?_) (i := 0) (fuel := 17) (by simp; rfl) (by kernel_rfl) (by kernel_rfl) (by kernel_rfl) (Or.inl ⟨by rfl, fun w' hSw => ?_⟩) HS0.out ?_
          rotate_left
          · dsimp only at hSw
            obtain ⟨_, x0, x1, x2, x3⟩ := HB.dec (t := 25) (g := w1.heap.size) (a := .bool true) (b := .int .u64 a) (c := .int .u64 b) (d := .int .i64 s) hSw (by simp)
            go_simp
            all_goals with_reducible rfl
          simp only [Act.put, List.setIfInBounds_toArray, List.set_cons_zero, List.set_cons_succ]
          refine ord_take (v := ?_) (i := 1) (fuel := 16) (by simp; rfl) (by kernel_rfl) (by kernel_rfl) (by kernel_rfl) (Or.inl ⟨by rfl, fun w' hSw => ?_⟩) HS0.out ?_
          rotate_left
          · dsimp only at hSw
            obtain ⟨_, x0, x1, x2, x3⟩ := HB.dec (t := 25) (g := w9.heap.size) (a := .bool n2) (b := .int .u64 a2) (c := .int .u64 b2) (d := .int .i64 k) hSw (by simp)
            go_simp
            all_goals with_reducible rfl
          simp only [Act.put, List.setIfInBounds_toArray, List.set_cons_zero, List.set_cons_succ]
          refine ord_call (f := 25) (args := #[.agg #[.bool true, .int .u64 a, .int .u64 b, .int .i64 s], .agg #[.bool n2, .int .u64 a2, .int .u64 b2, .int .i64 k]]) (w1 := (w9.alloc (.cells #[.bool n2, .int .u64 a2, .int .u64 b2, .int .i64 k] 25)).drew) (i := 2) (fuel := 15) (by simp; rfl) (by kernel_rfl) (by rfl) ?_ ?_
          · go_simp
            all_goals with_reducible rfl
          refine (cmp_gv true a b s z n2 a2 b2 k (zAt z s k) k 0 _ HD1.out HD2.out HG.out HG2.out s0 k0 s9 k9 (by omega) HC.out).mono ?_
          rintro e wx ⟨_, rfl, rfl, hb⟩
          have HSwx := Lib.hid (HB.below HS0.out hb)
          clear hb
          refine ⟨_, rfl, HSwx.out, ?_⟩
          simp only [Act.put, List.setIfInBounds_toArray, List.set_cons_zero, List.set_cons_succ]
          refine ord_take (v := ?_) (i := 3) (fuel := 14) (by simp; rfl) (by kernel_rfl) (by kernel_rfl) (by kernel_rfl) (Or.inl ⟨by rfl, fun w' hSw => ?_⟩) HSwx.out ?_
          rotate_left
          · go_simp
            all_goals with_reducible rfl
          simp only [Act.put, List.setIfInBounds_toArray, List.set_cons_zero, List.set_cons_succ]
          refine ord_take (v := ?_) (i := 4) (fuel := 13) (by simp; rfl) (by kernel_rfl) (by kernel_rfl) (by kernel_rfl) (Or.inl ⟨by rfl, fun w' hSw => ?_⟩) HSwx.out ?_
          rotate_left
          · go_simp
            all_goals with_reducible rfl
          simp only [Act.put, List.setIfInBounds_toArray, List.set_cons_zero, List.set_cons_succ]
          refine ord_take (v := ?_) (i := 5) (fuel := 12) (by simp; rfl) (by kernel_rfl) (by kernel_rfl) (by kernel_rfl) (Or.inl ⟨by rfl, fun w' hSw => ?_⟩) HSwx.out ?_
          rotate_left
          · go_simp
            all_goals with_reducible rfl
          simp only [Act.put, List.setIfInBounds_toArray, List.set_cons_zero, List.set_cons_succ]
          refine ord_take (v := ?_) (i := 6) (fuel := 11) (by simp; rfl) (by kernel_rfl) (by kernel_rfl) (by kernel_rfl) (Or.inl ⟨by rfl, fun w' hSw => ?_⟩) HSwx.out ?_
          rotate_left
          · dsimp only at hSw
            obtain ⟨_, x0, x1, x2, x3⟩ := HB.dec (t := 25) (g := w9.heap.size) (a := .bool n2) (b := .int .u64 a2) (c := .int .u64 b2) (d := .int .i64 k) hSw (by simp)
            go_simp
            all_goals with_reducible rfl
          simp only [Act.put, List.setIfInBounds_toArray, List.set_cons_zero, List.set_cons_succ]
          refine ord_take (v := ?_) (i := 7) (fuel := 10) (by simp; rfl) (by kernel_rfl) (by kernel_rfl) (by kernel_rfl) (Or.inl ⟨by rfl, fun w' hSw => ?_⟩) HSwx.out ?_
          rotate_left
          · go_simp
            all_goals with_reducible rfl
          simp only [Act.put, List.setIfInBounds_toArray, List.set_cons_zero, List.set_cons_succ]
          refine ord_take (v := ?_) (i := 8) (fuel := 9) (by simp; rfl) (by kernel_rfl) (by kernel_rfl) (by kernel_rfl) (Or.inl ⟨by rfl, fun w' hSw => ?_⟩) HSwx.out ?_
          rotate_left
          · go_simp
            all_goals with_reducible rfl
          simp only [Act.put, List.setIfInBounds_toArray, List.set_cons_zero, List.set_cons_succ]
          refine ord_take (v := ?_) (i := 9) (fuel := 8) (by simp; rfl) (by kernel_rfl) (by kernel_rfl) (by kernel_rfl) (Or.inl ⟨by rfl, fun w' hSw => ?_⟩) HSwx.out ?_
          rotate_left
          · go_simp
            all_goals with_reducible rfl
          simp only [Act.put, List.setIfInBounds_toArray, List.set_cons_zero, List.set_cons_succ]
          refine ord_take (v := ?_) (i := 10) (fuel := 7) (by simp; rfl) (by kernel_rfl) (by kernel_rfl) (by kernel_rfl) (Or.inl ⟨by rfl, fun w' hSw => ?_⟩) HSwx.out ?_
          rotate_left
          · go_simp
            all_goals with_reducible rfl
          simp only [Act.put, List.setIfInBounds_toArray, List.set_cons_zero, List.set_cons_succ]
          refine ord_take (v := ?_) (i := 11) (fuel := 6) (by simp; rfl) (by kernel_rfl) (by kernel_rfl) (by kernel_rfl) (Or.inl ⟨by rfl, fun w' hSw => ?_⟩) HSwx.out ?_
          rotate_left
          · dsimp only at hSw
            obtain ⟨_, x0, x1, x2, x3⟩ := HB.dec (t := 25) (g := w1.heap.size) (a := .bool true) (b := .int .u64 a) (c := .int .u64 b) (d := .int .i64 s) hSw (by simp)
            go_simp
            all_goals with_reducible rfl
          simp only [Act.put, List.setIfInBounds_toArray, List.set_cons_zero, List.set_cons_succ]
          refine ord_take (v := ?_) (i := 13) (fuel := 5) (by simp; rfl) (by kernel_rfl) (by kernel_rfl) (by kernel_rfl) (Or.inl ⟨by rfl, fun w' hSw => ?_⟩) HSwx.out ?_
          rotate_left
          · dsimp only at hSw
            obtain ⟨_, x0, x1, x2, x3⟩ := HB.dec (t := 25) (g := w9.heap.size) (a := .bool n2) (b := .int .u64 a2) (c := .int .u64 b2) (d := .int .i64 k) hSw (by simp)
            go_simp
            all_goals with_reducible rfl
          simp only [Act.put, List.setIfInBounds_toArray, List.set_cons_zero, List.set_cons_succ]
          refine ord_call (f := 23) (args := #[.agg #[.bool true, .int .u64 a, .int .u64 b, .int .i64 s]]) (w1 := wx) (i := 12) (fuel := 4) (by simp; rfl) (by kernel_rfl) (by rfl) ?_ ?_
          · go_simp
            all_goals with_reducible rfl
          refine (sign_gv true a b s z σ _ HD1.out HZ30.out s0 s9 HSg.out).mono ?_
          rintro e wy ⟨_, rfl, rfl, hb⟩
          have HSwy := Lib.hid (HB.below HSwx.out hb)
          clear hb
          refine ⟨_, rfl, HSwy.out, ?_⟩
          simp only [Act.put, List.setIfInBounds_toArray, List.set_cons_zero, List.set_cons_succ]
          refine ord_call (f := 23) (args := #[.agg #[.bool n2, .int .u64 a2, .int .u64 b2, .int .i64 k]]) (w1 := wy) (i := 14) (fuel := 3) (by simp; rfl) (by kernel_rfl) (by rfl) ?_ ?_
          · go_simp
            all_goals with_reducible rfl
          refine (sign_gv n2 a2 b2 k (zAt z s k) σ _ HD2.out HZ31.out k0 k9 HSg2.out).mono ?_
          rintro e wz ⟨_, rfl, rfl, hb⟩
          have HSwz := Lib.hid (HB.below HSwy.out hb)
          clear hb
          refine ⟨_, rfl, HSwz.out, ?_⟩
          simp only [Act.put, List.setIfInBounds_toArray, List.set_cons_zero, List.set_cons_succ]
          refine ord_take (v := ?_) (i := 15) (fuel := 2) (by simp; rfl) (by kernel_rfl) (by kernel_rfl) (by kernel_rfl) (Or.inl ⟨by rfl, fun w' hSw => ?_⟩) HSwz.out ?_
          rotate_left
          · go_simp
            all_goals with_reducible rfl
          simp only [Act.put, List.setIfInBounds_toArray, List.set_cons_zero, List.set_cons_succ]
          refine ord_take (v := ?_) (i := 16) (fuel := 1) (by simp; rfl) (by kernel_rfl) (by kernel_rfl) (by kernel_rfl) (Or.inl ⟨by rfl, fun w' hSw => ?_⟩) HSwz.out ?_
          rotate_left
          · go_simp
            all_goals with_reducible rfl
          simp only [Act.put, List.setIfInBounds_toArray, List.set_cons_zero, List.set_cons_succ]
          refine ord_take (v := ?_) (i := 17) (fuel := 0) (by simp; rfl) (by kernel_rfl) (by kernel_rfl) (by kernel_rfl) (Or.inl ⟨by rfl, fun w' hSw => ?_⟩) HSwz.out ?_
          rotate_left
          · go_simp
            all_goals with_reducible rfl
          simp only [Act.put, List.setIfInBounds_toArray, List.set_cons_zero, List.set_cons_succ]
          refine ord_done (by kernel_rfl) ?_ _
          have HB1 := Lib.hid HSwz.out.1
          clear HS0 HSwx HSwy HSwz
          go_wp2
          go_ret
          exact ⟨_, rfl, rfl, HB1.out⟩
        · have HG := Lib.hid (Nat.le_of_not_lt hg)
          clear hg
          go_wp2_with fail
          refine (scaled_over true a b s k _ _ HU.out.1 HU.out.2 HR.out hsk k9 rfl HG.out).mono ?_
          rintro e w9 ⟨_, rfl, rfl, hb⟩
          replace V := V.below hb
          clear hb x0 x1 x2 x3
          replace V := V.alloc (.cells #[.bool false, .int .u64 0, .int .u64 0, .int .i64 0] 25)
          have HB1 := Lib.hid V.1
          clear V
          go_wp2
          go_ret
          exact ⟨_, rfl, rfl, HB1.out⟩
  · rw [decide_eq_false hr] at RC
    have HR := Lib.hid hr
    clear hr
    go_wp2_with fail
    refine RC.mono ?_
    clear RC
    rintro e w2 ⟨_, rfl, rfl, hb⟩
    replace V := V.below hb
    clear hb
    go_wp2_with fail
    refine (known_c mx _ (cell_keep V.1 HMX.out) (tabIs_below HT.out V.1)).mono ?_
    rintro e w3 ⟨_, rfl, rfl, hb⟩
    replace V := V.below hb
    clear hb
    obtain ⟨l0, x0, x1, x2, x3⟩ := HB.dec (t := 25) (g := w1.heap.size) (a := .bool n) (b := .int .u64 a) (c := .int .u64 b) (d := .int .i64 s) V (by simp)
    go_wp2_with fail
    refine (print_no n a b s _ HU.out.1 HU.out.2 HR.out).mono ?_
    rintro e w4 ⟨_, rfl, rfl, hb⟩
    replace V := V.below hb
    have HB1 := Lib.hid V.1
    clear hb V l0 x0 x1 x2 x3
    go_wp2
    go_ret
    exact ⟨_, rfl, rfl, HB1.out⟩
end Go.Proofs.YtjpimiagcijejaaGreatDoor

