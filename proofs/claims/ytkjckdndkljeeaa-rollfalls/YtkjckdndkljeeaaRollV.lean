/- Package roll, plainly: one byte of a record turned. -/
import Derived.Test.YtkjckdndkljeeaaRollN
namespace Go.Proofs.Ytkjckdndkljeeaa
open Go.RowKit
theorem spl_one {l : List UInt8} {k : Nat} (c : UInt8) (h : k < l.length) : spl l k [c] = l.set k c := by
  unfold spl
  rw [List.set_eq_take_append_cons_drop, if_pos h]
  simp
theorem set_app_ge {P J : List UInt8} {k : Nat} (c : UInt8) (h : P.length ≤ k) : (P ++ J).set k c = P ++ J.set (k - P.length) c := by rw [List.set_append, if_neg (by omega)]
theorem set_app_lt {P J : List UInt8} {k : Nat} (c : UInt8) (h : k < P.length) : (P ++ J).set k c = P.set k c ++ J := by rw [List.set_append, if_pos h]
/-- A record one of whose bytes is another one, and that is not of its length, begins none. -/
theorem wholeB_turn {o i : Nat} {r : Rec} {last : Int} {c : UInt8} (l : List UInt8) (h : RecOk r) (ho : o < 18446744073709551616) (hi : 2 ≤ i) (hi2 : i < (frameB o r).length) (hc : (frameB o r)[i]? ≠ some c) : wholeB ((frameB o r ++ l).set i c) o last = none := by
  obtain ⟨h0, h1, h2⟩ := h
  obtain ⟨t1, t2⟩ := tailB_small h2
  have hf := frameB_len o r
  have hp := frame_parts o r l
  have he : (frameB o r ++ l).set i c = headB (tailB r).length ++ (be8 (sumM o (tailB r)) ++ (tailB r ++ l)).set (i - 2) c := by
    rw [hp, set_app_ge c (by rw [headB_len]; exact hi), headB_len]
  have hlen : lenB ((frameB o r ++ l).set i c) = (tailB r).length := by rw [he]; exact lenB_head t1 _
  have hb8 := be8_len (sumM o (tailB r))
  unfold wholeB
  rw [hlen, if_neg (by rw [List.length_set, List.length_append, hf]; omega), if_pos]
  right
  by_cases hlt : i < 10
  · -- the mark
    have e1 : (frameB o r ++ l).set i c = headB (tailB r).length ++ ((be8 (sumM o (tailB r))).set (i - 2) c ++ (tailB r ++ l)) := by rw [he, set_app_lt c (by omega)]
    have e2 : (((frameB o r ++ l).set i c).drop 10).take (tailB r).length = tailB r := by
      rw [e1, show (10 : Nat) = 2 + 8 from rfl, ← List.drop_drop, List.drop_left' (headB_len _), List.drop_left' (by rw [List.length_set]; exact hb8), List.take_left' rfl]
    have e3 : (((frameB o r ++ l).set i c).drop 2).take 8 = (be8 (sumM o (tailB r))).set (i - 2) c := by
      rw [e1, List.drop_left' (headB_len _), List.take_left' (by rw [List.length_set]; exact hb8)]
    rw [e2, e3]
    intro e
    have hg : (be8 (sumM o (tailB r)))[i - 2]? = some c := by
      rw [← e, List.getElem?_set, if_pos rfl, if_pos (by omega)]
    apply hc
    unfold frameB
    rw [List.append_assoc, List.getElem?_append_right (by rw [headB_len]; exact hi), headB_len, List.getElem?_append_left (by omega)]
    exact hg
  · -- what is behind it
    have e1 : (frameB o r ++ l).set i c = headB (tailB r).length ++ (be8 (sumM o (tailB r)) ++ ((tailB r).set (i - 10) c ++ l)) := by
      rw [he, set_app_ge c (by omega), hb8, set_app_lt c (by omega)]
      congr 3
    have e2 : (((frameB o r ++ l).set i c).drop 10).take (tailB r).length = (tailB r).set (i - 10) c := by
      rw [e1, show (10 : Nat) = 2 + 8 from rfl, ← List.drop_drop, List.drop_left' (headB_len _), List.drop_left' hb8, List.take_left' (by rw [List.length_set])]
    have e3 : (((frameB o r ++ l).set i c).drop 2).take 8 = be8 (sumM o (tailB r)) := by
      rw [e1, List.drop_left' (headB_len _), List.take_left' hb8]
    rw [e2, e3]
    intro e
    have hi3 : i - 10 < (tailB r).length := by omega
    have e4 := be8_inj (by rw [sumM_is]; exact stp_lt _ _) (by rw [sumM_is]; exact stp_lt _ _) e
    have e5 := (sumM_set (tailB r) ho hi3 c).1 e4.symm
    apply hc
    unfold frameB
    rw [List.append_assoc, List.getElem?_append_right (by rw [headB_len]; exact hi), headB_len, List.getElem?_append_right (by omega), hb8, show i - 2 - 8 = i - 10 by omega, List.getElem?_eq_getElem hi3, e5]
/-- What is laid is found, whatever is behind it. -/
theorem findF_pre : ∀ (L : List Rec) (f : Nat) (b J : List UInt8) (o : Nat) (last : Int), RecsOk last L → b.drop o = catB o L ++ J → o ≤ b.length → b.length ≤ f + o → L.length ≤ (findF f b o last).1.length
  | [], f, b, J, o, last, _, _, _, _ => by simp
  | r :: L, f, b, J, o, last, ⟨h1, h2, h3⟩, hb, ho, hf => by
    have hw : wholeB (b.drop o) o last = some (r, (frameB o r).length) := by
      rw [hb]
      simp only [catB, List.append_assoc]
      exact wholeB_frame _ h1 h2
    obtain ⟨f', hf', rfl, hum, hm, hF⟩ := findF_more rfl hf hw
    have ih := findF_pre L f' b J (o + (frameB o r).length) r.seq h3 (by
      rw [← List.drop_drop, hb]
      simp only [catB, List.append_assoc]
      exact List.drop_left' rfl) (by omega) (by omega)
    rw [hF]
    simp only [List.length_cons]
    omega
/-- A byte of the records turned. -/
theorem turn_find {L1 L2 : List Rec} {r : Rec} {b Z : List UInt8} {k : Nat} {c : UInt8} (hb : b = catB 0 (L1 ++ r :: L2) ++ Z) (hL : RecsOk 0 (L1 ++ r :: L2)) (h1 : (catB 0 L1).length ≤ k) (h2 : k < (catB 0 (L1 ++ [r])).length) (hk : b[k]? ≠ some c) (hbl : b.length < 18446744073709551616) :
    (k < (catB 0 L1).length + 2 → L1.length ≤ (findB (b.set k c)).1.length) ∧ (¬ k < (catB 0 L1).length + 2 → (findB (b.set k c)).1.length = L1.length) := by
  have hsplit : ∀ (L1 : List Rec) (o : Nat) (last : Int), RecsOk last (L1 ++ r :: L2) → RecsOk last L1 ∧ RecOk r ∧ lastF last L1 < r.seq ∧ catB o (L1 ++ r :: L2) = catB o L1 ++ (frameB (o + (catB o L1).length) r ++ catB (o + (catB o L1).length + (frameB (o + (catB o L1).length) r).length) L2) := by
    intro L1
    induction L1 with
    | nil => intro o last h; exact ⟨trivial, h.1, h.2.1, by simp [catB]⟩
    | cons x L ih =>
      intro o last h
      obtain ⟨a1, a2, a3, a4⟩ := ih (o + (frameB o x).length) x.seq h.2.2
      refine ⟨⟨h.1, h.2.1, a1⟩, a2, a3, ?_⟩
      simp only [List.cons_append, catB, a4, List.append_assoc, List.length_append, Nat.add_assoc]
  obtain ⟨g1, g2, g3, g4⟩ := hsplit L1 0 0 hL
  obtain ⟨u, hu⟩ : ∃ u, (catB 0 L1).length = u := ⟨_, rfl⟩
  rw [catB_app, List.length_append, Nat.zero_add, hu] at h2
  rw [hu] at h1 ⊢
  rw [g4, Nat.zero_add, hu, List.append_assoc, List.append_assoc] at hb
  obtain ⟨R, hR⟩ : ∃ R, catB (u + (frameB u r).length) L2 ++ Z = R := ⟨_, rfl⟩
  rw [hR] at hb
  have hset : b.set k c = catB 0 L1 ++ (frameB u r ++ R).set (k - u) c := by rw [hb, set_app_ge c (by omega), hu]
  have hul : u ≤ b.length := by rw [hb, List.length_append]; omega
  refine ⟨fun _ => ?_, fun hk2 => ?_⟩
  · unfold findB
    exact findF_pre L1 _ _ _ 0 0 g1 (by rw [List.drop_zero]; exact hset) (by omega) (by omega)
  · have hne : (frameB u r)[k - u]? ≠ some c := by
      rw [hb, List.getElem?_append_right (by omega), hu, List.getElem?_append_left (by omega)] at hk
      exact hk
    have hw := wholeB_turn (o := u) (i := k - u) (last := lastB L1) R g2 (by omega) (by omega) (by omega) hne
    rw [findB_cat g1 hset (by rw [hu]; exact hw)]
/-- Open, whatever the region holds, where no power goes. -/
theorem opS_all {n a z : Nat} {s : Sst} (hl : s.l.length = n) (hz : a + z ≤ n) (hz1 : 32 ≤ z) (hz2 : z ≤ 8192) (hd : s.dead = false) (hc : s.cut = false) :
    ∃ s', opS s n (a : Int) (z : Int) = (s', some ((findB (reg s.l a z)).1, (findB (reg s.l a z)).2), 0) ∧ s'.l.length = n ∧ s'.dead = false ∧ s'.cut = false ∧ (∀ a' z', a' + z' ≤ a ∨ a + z ≤ a' → reg s'.l a' z' = reg s.l a' z') := by
  have hbad : badA n (a : Int) (z : Int) = false := by unfold badA; simp; omega
  obtain ⟨L, u, hf⟩ : ∃ L u, findB (reg s.l a z) = (L, u) := ⟨_, _, rfl⟩
  have hu : u ≤ z := by
    have := findB_u (reg s.l a z)
    rw [hf, reg_len (by omega)] at this
    exact this
  obtain ⟨s', β, hw⟩ : ∃ s' β, wipeB s n (a : Int) u z ((reg s.l a z).drop u) = (s', β) := ⟨_, _, rfl⟩
  have ho := opS_on hbad hd (show (s.l.drop a).take z = reg s.l a z from rfl) hf hw
  rw [hf]
  unfold wipeB at hw
  split at hw
  · cases hw
    exact ⟨_, ho, hl, hd, hc, fun _ _ _ => rfl⟩
  · have hlen := reg_len (l := s.l) (a := a) (z := z) (by omega)
    obtain ⟨_, g2, g3, g4, g5, _⟩ := wipeF_reg (P := (reg s.l a z).take u) (J := (reg s.l a z).drop u) hz (by rw [List.length_take, hlen]; omega) (by rw [List.length_drop, hlen]; omega) 257 s s' u β hw hl hd (by omega) (Nat.le_refl _) (by simp)
    obtain ⟨rfl, h5⟩ := g5 hc
    exact ⟨_, ho, g2, g4 rfl, h5, fun a' z' h' => g3 a' z' (by omega)⟩
/-- Another region, that stays. -/
theorem St.other {s s' : Sst} {n a z u : Nat} {L : List Rec} {K K' : Int} (h : St s n a z u L K) (ho : s'.Ok n K') (hd : s'.dead = false) (hr : reg s'.l a z = reg s.l a z) : St s' n a z u L K' :=
  ⟨ho, h.fit, h.small, hd, by rw [hr]; exact h.rg, h.recs, h.len, h.le⟩
/-- A byte of the first region turned; then both regions opened. -/
theorem turn_all {s : Sst} {L M : List Rec} {u v j : Nat} {K : Int} {c : UInt8} (h : St s 1000 0 500 u L K) (ho : St s 1000 500 500 v M K) (hcut : s.cut = false) (hj : j < u) (hc : s.l[j]? ≠ some c) :
    ∃ s2 s3 Q q, wrS s 1000 (j : Int) [c] = (s2, true) ∧ s2.Ok 1000 (K + 1) ∧ opS s2 1000 ((0 : Nat) : Int) ((500 : Nat) : Int) = (s3, some (Q, q), 0) ∧ s3.Ok 1000 (K + 258) ∧ opS s3 1000 ((500 : Nat) : Int) ((500 : Nat) : Int) = (s3, some (M, v), 0) ∧ Q.length ≤ 500 ∧ q ≤ 500 ∧
      ∀ n, n < L.length → (catB 0 (L.take n)).length ≤ j → j < (catB 0 (L.take (n + 1))).length → (j < (catB 0 (L.take n)).length + 2 → n ≤ Q.length) ∧ (¬ j < (catB 0 (L.take n)).length + 2 → Q.length = n) := by
  have hle := h.le
  have hln := h.ok.1
  obtain ⟨s2, β, hW⟩ : ∃ s2 β, wrS s 1000 (j : Int) [c] = (s2, β) := ⟨_, _, rfl⟩
  have hok2 := wrS_w hW h.ok
  rcases wrS_cases hW h.live (by simp; omega) with ⟨rfl, h1, h2, h3⟩ | ⟨_, h3, _⟩
  · have hcut2 : s2.cut = false := by
      rcases h3 with ⟨_, h3⟩ | ⟨h3, _⟩
      · exact h3
      · rw [hcut] at h3; cases h3
    have hr0 : reg s2.l 0 500 = (reg s.l 0 500).set j c := by
      have := reg_spl (l := s.l) (b := [c]) (a := 0) (z := 500) (k := j) (by omega) (by simp; omega)
      rw [Nat.zero_add] at this
      rw [h1, this, spl_one c (by rw [reg_len (by omega)]; omega)]
    have hr5 : reg s2.l 500 500 = reg s.l 500 500 := by rw [h1]; exact reg_other (by simp; omega) (.inl (by simp; omega))
    obtain ⟨s3, g1, g2, g3, g4, g5⟩ := opS_all (a := 0) (z := 500) hok2.1 (by omega) (by omega) (by omega) h2 hcut2
    have hok3 := opS_ok (a := ((0 : Nat) : Int)) (z := ((500 : Nat) : Int)) hok2
    rw [g1] at hok3
    have hS3 : St s3 1000 500 500 v M (K + 1 + 257) := ho.other hok3 g3 ((g5 500 500 (.inr (by omega))).trans hr5)
    have hL := findB_L (reg s2.l 0 500)
    have hu := findB_u (reg s2.l 0 500)
    rw [reg_len (by rw [hok2.1]; omega)] at hu
    refine ⟨s2, s3, _, _, hW, hok2, g1, hok3.more (by omega), hS3.open_, by omega, hu, fun n hn h5 h6 => ?_⟩
    have hb : reg s.l 0 500 = catB 0 (L.take n ++ L[n] :: L.drop (n + 1)) ++ List.replicate (500 - u) 0 := by
      rw [← List.drop_eq_getElem_cons hn, List.take_append_drop]
      exact h.rg
    have hLs : RecsOk 0 (L.take n ++ L[n] :: L.drop (n + 1)) := by
      rw [← List.drop_eq_getElem_cons hn, List.take_append_drop]
      exact h.recs
    have htk : L.take (n + 1) = L.take n ++ [L[n]] := by rw [List.take_add_one, List.getElem?_eq_getElem hn]; rfl
    rw [htk] at h6
    have := turn_find hb hLs h5 h6 (by rw [reg_get, if_pos (by omega), Nat.zero_add]; exact hc) (by rw [reg_len (by omega)]; omega)
    rw [← hr0, List.length_take, Nat.min_eq_left (by omega)] at this
    exact this
  · rw [hcut] at h3; cases h3
end Go.Proofs.Ytkjckdndkljeeaa
