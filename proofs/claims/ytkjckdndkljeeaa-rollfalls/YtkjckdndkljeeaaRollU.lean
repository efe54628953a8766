/- Package roll, plainly: a region, as records and what is behind them; Open, Append, Write over it. -/
import Derived.Test.YtkjckdndkljeeaaRollT
import Derived.Test.YtkjckdndkljeeaaRollJ
namespace Go.Proofs.Ytkjckdndkljeeaa
open Go.RowKit
theorem spl_get {l b : List UInt8} {o : Nat} (h : o + b.length ≤ l.length) (i : Nat) : (spl l o b)[i]? = if i < o then l[i]? else if i < o + b.length then b[i - o]? else l[i]? := by
  unfold spl
  by_cases h1 : i < o
  · rw [if_pos h1, List.getElem?_append_left (by rw [List.length_take]; omega), List.getElem?_take_of_lt h1]
  · rw [if_neg h1, List.getElem?_append_right (by rw [List.length_take]; omega), List.length_take, Nat.min_eq_left (by omega)]
    by_cases h2 : i < o + b.length
    · rw [if_pos h2, List.getElem?_append_left (by omega)]
    · rw [if_neg h2, List.getElem?_append_right (by omega), List.getElem?_drop]
      congr 1
      omega
/-- The bytes of a region. -/
def reg (l : List UInt8) (a z : Nat) : List UInt8 := (l.drop a).take z
theorem reg_len {l : List UInt8} {a z : Nat} (h : a + z ≤ l.length) : (reg l a z).length = z := by unfold reg; rw [List.length_take, List.length_drop]; omega
theorem reg_get {l : List UInt8} {a z i : Nat} : (reg l a z)[i]? = if i < z then l[a + i]? else none := by
  unfold reg
  by_cases h : i < z
  · rw [if_pos h, List.getElem?_take_of_lt h, List.getElem?_drop]
  · rw [if_neg h, List.getElem?_eq_none_iff.2 (by rw [List.length_take]; omega)]
theorem reg_spl {l b : List UInt8} {a z k : Nat} (hz : a + z ≤ l.length) (hk : k + b.length ≤ z) : reg (spl l (a + k) b) a z = spl (reg l a z) k b := by
  apply List.ext_getElem?
  intro i
  rw [reg_get, spl_get (l := l) (by omega), spl_get (by rw [reg_len hz]; exact hk)]
  by_cases h : i < z
  · rw [if_pos h, reg_get, if_pos h]
    by_cases h1 : i < k
    · rw [if_pos h1, if_pos (by omega)]
    · rw [if_neg h1, if_neg (by omega)]
      by_cases h2 : i < k + b.length
      · rw [if_pos h2, if_pos (by omega)]
        congr 1
        omega
      · rw [if_neg h2, if_neg (by omega)]
  · rw [if_neg h, reg_get, if_neg h, if_neg (by omega), if_neg (by omega)]
/-- Another region, that does not meet it, stays. -/
theorem reg_other {l b : List UInt8} {a z k : Nat} (h : k + b.length ≤ l.length) (ho : k + b.length ≤ a ∨ a + z ≤ k) : reg (spl l k b) a z = reg l a z := by
  apply List.ext_getElem?
  intro i
  rw [reg_get, reg_get, spl_get h]
  by_cases h1 : i < z
  · rw [if_pos h1, if_pos h1]
    rcases ho with ho | ho
    · rw [if_neg (by omega), if_neg (by omega)]
    · rw [if_pos (by omega)]
  · rw [if_neg h1, if_neg h1]
theorem spl_mid (P b J : List UInt8) : spl (P ++ J) P.length b = P ++ (b ++ J.drop b.length) := by
  unfold spl
  rw [List.take_left' rfl, ← List.drop_drop, List.drop_left' rfl]
theorem spl_mid' {P b J : List UInt8} {u : Nat} (hu : P.length = u) : spl (P ++ J) u b = P ++ (b ++ J.drop b.length) := by
  subst hu
  exact spl_mid P b J
/-- Records, one behind the other, from place o on. -/
def catB : Nat → List Rec → List UInt8
  | _, [] => []
  | o, r :: L => frameB o r ++ catB (o + (frameB o r).length) L
def lastF (last : Int) : List Rec → Int
  | [] => last
  | r :: L => lastF r.seq L
def RecsOk (last : Int) : List Rec → Prop
  | [] => True
  | r :: L => RecOk r ∧ last < r.seq ∧ RecsOk r.seq L
theorem lastF_app : ∀ (L : List Rec) (last : Int) (r : Rec), lastF last (L ++ [r]) = r.seq
  | [], _, _ => rfl
  | _ :: L, _, r => lastF_app L _ r
theorem lastB_lastF (L : List Rec) : lastB L = lastF 0 L := by
  rcases List.eq_nil_or_concat L with rfl | ⟨M, r, rfl⟩
  · rfl
  · rw [List.concat_eq_append, lastB_add, lastF_app]
theorem catB_app : ∀ (L : List Rec) (o : Nat) (r : Rec), catB o (L ++ [r]) = catB o L ++ frameB (o + (catB o L).length) r
  | [], o, r => by simp [catB]
  | x :: L, o, r => by
    simp only [List.cons_append, catB, catB_app L, List.append_assoc, List.length_append]
    congr 3
    omega
theorem RecsOk_app : ∀ (L : List Rec) (last : Int) (r : Rec), RecsOk last L → RecOk r → lastF last L < r.seq → RecsOk last (L ++ [r])
  | [], _, _, _, h, h' => ⟨h, h', trivial⟩
  | _ :: L, _, r, ⟨a, b, c⟩, h, h' => ⟨a, b, RecsOk_app L _ r c h h'⟩
theorem lastF_ge : ∀ (L : List Rec) (last : Int), RecsOk last L → last ≤ lastF last L
  | [], _, _ => Int.le_refl _
  | r :: L, last, ⟨_, b, c⟩ => by
    have := lastF_ge L r.seq c
    show last ≤ lastF r.seq L
    omega
theorem catB_len : ∀ (L : List Rec) (o : Nat), 20 * L.length ≤ (catB o L).length
  | [], _ => by simp
  | r :: L, o => by
    have h1 := catB_len L (o + (frameB o r).length)
    have h2 := (frameB_len' o r).1
    simp only [catB, List.length_append, List.length_cons]
    omega
/-- What is laid is found, all of it, up to what begins none. -/
theorem findF_cat : ∀ (L : List Rec) (f : Nat) (b J : List UInt8) (o : Nat) (last : Int), RecsOk last L → b.drop o = catB o L ++ J → o ≤ b.length → b.length ≤ f + o → wholeB J (o + (catB o L).length) (lastF last L) = none →
    findF f b o last = (L, o + (catB o L).length)
  | [], f, b, J, o, last, _, hb, _, _, hJ => by
    simp only [catB, List.nil_append, List.length_nil, Nat.add_zero, lastF] at hb hJ ⊢
    exact findF_done (by rw [hb]; exact hJ)
  | r :: L, f, b, J, o, last, ⟨h1, h2, h3⟩, hb, ho, hf, hJ => by
    have hw : wholeB (b.drop o) o last = some (r, (frameB o r).length) := by
      rw [hb]
      simp only [catB, List.append_assoc]
      exact wholeB_frame _ h1 h2
    obtain ⟨f', hf', rfl, hum, hm, hF⟩ := findF_more rfl hf hw
    have ih := findF_cat L f' b J (o + (frameB o r).length) r.seq h3 (by
      rw [← List.drop_drop, hb]
      simp only [catB, List.append_assoc]
      exact List.drop_left' rfl) (by omega) (by omega) (by
      have := hJ
      simp only [catB, List.length_append, lastF] at this
      rw [Nat.add_assoc]
      exact this)
    rw [hF, ih]
    simp only [catB, List.length_append]
    rw [Nat.add_assoc]
theorem findB_cat {L : List Rec} {b J : List UInt8} (h : RecsOk 0 L) (hb : b = catB 0 L ++ J) (hJ : wholeB J (catB 0 L).length (lastB L) = none) : findB b = (L, (catB 0 L).length) := by
  have := findF_cat L b.length b J 0 0 h (by rw [List.drop_zero]; exact hb) (by omega) (by omega) (by rw [Nat.zero_add, ← lastB_lastF]; exact hJ)
  rw [Nat.zero_add] at this
  exact this
theorem blank_zeros (n : Nat) : blankB (List.replicate n 0) = true := by
  unfold blankB
  simp
theorem blank_is {l : List UInt8} (h : blankB l = true) : l = List.replicate l.length 0 := by
  unfold blankB at h
  rw [List.all_eq_true] at h
  exact List.eq_replicate_of_mem fun x hx => by simpa using h x hx
theorem whole_zeros (n o : Nat) (last : Int) : wholeB (List.replicate n 0) o last = none := wholeB_zero (.inr (getD_zeros n 0))
/-- 0s over the beginning of what begins none: none begins there. -/
theorem whole_wiped {J : List UInt8} {j o : Nat} {last : Int} (h : wholeB J o last = none) : wholeB (List.replicate j 0 ++ J.drop j) o last = none := by
  cases j with
  | zero => simpa using h
  | succ j => exact wholeB_zero (.inr (by rw [List.replicate_succ]; rfl))
/-- What a Write does to a slab that is not dead. -/
theorem wrS_cases {s s' : Sst} {n : Nat} {x : Nat} {b : List UInt8} {β : Bool} (hW : wrS s n (x : Int) b = (s', β)) (hd : s.dead = false) (hx : x + b.length ≤ n) :
    (β = true ∧ s'.l = spl s.l x b ∧ s'.dead = false ∧ ((s.cut = false ∧ s'.cut = false) ∨ (s.cut = true ∧ s'.cut = true ∧ s.left ≠ 0))) ∨
    (β = false ∧ s.cut = true ∧ ∃ k, k ≤ b.length ∧ s'.l = spl s.l x (b.take k) ∧ s'.dead = true) := by
  unfold wrS at hW
  rw [if_pos (by unfold okB; simp; exact ⟨hd, by omega⟩)] at hW
  by_cases hc : s.cut = true ∧ s.left = 0
  · rw [if_pos hc] at hW
    cases hW
    exact .inr ⟨rfl, hc.1, (min (max s.torn 0) (b.length : Int)).toNat, by omega, rfl, rfl⟩
  · rw [if_neg hc] at hW
    cases hW
    refine .inl ⟨rfl, rfl, hd, ?_⟩
    cases h : s.cut
    · exact .inl ⟨rfl, by simp⟩
    · exact .inr ⟨rfl, by simp, fun e => hc ⟨h, e⟩⟩
/-- What a wipe does: it stands at place k of the region, all from u to there is 0. -/
theorem wipeF_reg {n a z u : Nat} {P J : List UInt8} (hz : a + z ≤ n) (hP : P.length = u) (hJ : u + J.length = z) : ∀ (f : Nat) (s s' : Sst) (k : Nat) (β : Bool), wipeF f s n (a : Int) k z = (s', β) → s.l.length = n → s.dead = false → z ≤ 32 * f + k → u ≤ k →
    reg s.l a z = P ++ (List.replicate (k - u) 0 ++ J.drop (k - u)) →
    (∃ j, reg s'.l a z = P ++ (List.replicate j 0 ++ J.drop j) ∧ (β = true → z - u ≤ j)) ∧ s'.l.length = n ∧ (∀ a' z', a' + z' ≤ a + u ∨ a + z ≤ a' → reg s'.l a' z' = reg s.l a' z') ∧ (β = true → s'.dead = false) ∧ (s.cut = false → β = true ∧ s'.cut = false) ∧ (β = true → s'.cut = s.cut)
  | 0, s, s', k, β, h, hl, hd, hk, hu, hr => by
    cases h
    exact ⟨⟨k - u, hr, fun _ => by omega⟩, hl, fun _ _ _ => rfl, fun _ => hd, fun h => ⟨rfl, h⟩, fun _ => rfl⟩
  | f + 1, s, s', k, β, h, hl, hd, hk, hu, hr => by
    by_cases hkz : k < z
    · obtain ⟨q, hq⟩ : ∃ q, min 32 (z - k) = q := ⟨_, rfl⟩
      obtain ⟨s1, γ, hW⟩ : ∃ s1 γ, wrS s n ((a : Int) + (k : Int)) (List.replicate q 0) = (s1, γ) := ⟨_, _, rfl⟩
      rw [wipeF_step hkz hq hW] at h
      have hW' : wrS s n ((a + k : Nat) : Int) (List.replicate q 0) = (s1, γ) := by rw [Int.natCast_add]; exact hW
      have hlen : (List.replicate q (0 : UInt8)).length = q := List.length_replicate
      have hone : ∀ t, t ≤ q → reg (spl s.l (a + k) ((List.replicate q 0).take t)) a z = P ++ (List.replicate (k - u + t) 0 ++ J.drop (k - u + t)) := by
        intro t ht
        have htl : ((List.replicate q (0 : UInt8)).take t).length = t := by rw [List.length_take, hlen]; omega
        rw [reg_spl (by omega) (by rw [htl]; omega), hr, ← List.append_assoc, spl_mid' (u := k) (by rw [List.length_append, List.length_replicate]; omega), htl, List.drop_drop, List.take_replicate, Nat.min_eq_left ht, List.append_assoc, ← List.append_assoc (List.replicate (k - u) 0), List.replicate_append_replicate]
      have hoth : ∀ t, t ≤ q → ∀ a' z', a' + z' ≤ a + u ∨ a + z ≤ a' → reg (spl s.l (a + k) ((List.replicate q 0).take t)) a' z' = reg s.l a' z' := by
        intro t ht a' z' h'
        refine reg_other ?_ ?_
        · rw [List.length_take, hlen]; omega
        · rw [List.length_take, hlen]
          rcases h' with h' | h'
          · exact .inr (by omega)
          · exact .inl (by omega)
      rcases wrS_cases hW' hd (by rw [hlen]; omega) with ⟨rfl, h1, h2, h3⟩ | ⟨rfl, h1, t, h2, h3, h4⟩
      · rw [if_pos rfl] at h
        have hfull : (List.replicate q (0 : UInt8)).take q = List.replicate q 0 := List.take_of_length_le (by rw [hlen]; exact Nat.le_refl _)
        have h5 := hone q (Nat.le_refl _)
        have h6 := hoth q (Nat.le_refl _)
        rw [hfull, ← h1] at h5
        rw [hfull, ← h1] at h6
        have hl1 : s1.l.length = n := by rw [h1]; exact spl_len hl (by rw [hlen]; omega)
        rcases (show q = 32 ∨ k + q = z by omega) with rfl | hq2
        · obtain ⟨g1, g2, g3, g4, g5, g6⟩ := wipeF_reg hz hP hJ f s1 s' (k + 32) β h hl1 h2 (by omega) (by omega) (by rw [h5]; congr 3 <;> (try congr 1) <;> omega)
          refine ⟨g1, g2, fun a' z' h' => (g3 a' z' h').trans (h6 a' z' h'), g4, fun hc => ?_, fun hb => ?_⟩
          · rcases h3 with ⟨_, h3⟩ | ⟨h3, _⟩
            · exact g5 h3
            · rw [hc] at h3; cases h3
          · rw [g6 hb]
            rcases h3 with ⟨e1, e2⟩ | ⟨e1, e2, _⟩ <;> rw [e1, e2]
        · rw [wipeF_end (show ¬ k + 32 < z by omega)] at h
          cases h
          refine ⟨⟨k - u + q, h5, fun _ => by omega⟩, hl1, h6, fun _ => h2, fun hc => ?_, fun _ => ?_⟩
          · rcases h3 with ⟨_, h3⟩ | ⟨h3, _⟩
            · exact ⟨rfl, h3⟩
            · rw [hc] at h3; cases h3
          · rcases h3 with ⟨e1, e2⟩ | ⟨e1, e2, _⟩ <;> rw [e1, e2]
      · rw [if_neg (by decide)] at h
        cases h
        rw [hlen] at h2
        refine ⟨⟨k - u + t, by rw [h3]; exact hone t h2, fun e => by cases e⟩, by rw [h3]; exact spl_len hl (by rw [List.length_take, hlen]; omega), (fun a' z' h' => by rw [h3]; exact hoth t h2 a' z' h'), (fun e => by cases e), (fun hc => by rw [hc] at h1; cases h1), (fun e => by cases e)⟩
    · rw [wipeF_end hkz] at h
      cases h
      exact ⟨⟨k - u, hr, fun _ => by omega⟩, hl, fun _ _ _ => rfl, fun _ => hd, fun h => ⟨rfl, h⟩, fun _ => rfl⟩
/-- Open, over records and what begins none. -/
theorem opS_reg {n a z u : Nat} {s : Sst} {L : List Rec} {J : List UInt8} (hl : s.l.length = n) (hz : a + z ≤ n) (hz1 : 32 ≤ z) (hz2 : z ≤ 8192) (hd : s.dead = false) (hr : reg s.l a z = catB 0 L ++ J) (hL : RecsOk 0 L) (hu : (catB 0 L).length = u) (hJ : wholeB J u (lastB L) = none) :
    ∃ s' R e, opS s n (a : Int) (z : Int) = (s', R, e) ∧ (∃ j, reg s'.l a z = catB 0 L ++ (List.replicate j 0 ++ J.drop j) ∧ (R = some (L, u) → z - u ≤ j ∨ blankB J = true)) ∧ s'.l.length = n ∧ (∀ a' z', a' + z' ≤ a + u ∨ a + z ≤ a' → reg s'.l a' z' = reg s.l a' z') ∧
      ((R = some (L, u) ∧ e = 0 ∧ s'.dead = false ∧ s'.cut = s.cut) ∨ (R = none ∧ e = 6 ∧ s.cut = true)) ∧ (blankB J = true → s' = s ∧ R = some (L, u) ∧ e = 0) := by
  have hbad : badA n (a : Int) (z : Int) = false := by unfold badA; simp; omega
  have hlen : u + J.length = z := by
    have := reg_len (l := s.l) (a := a) (z := z) (by omega)
    rw [hr, List.length_append, hu] at this
    exact this
  have hf : findB (reg s.l a z) = (L, u) := by rw [findB_cat hL hr (by rw [hu]; exact hJ), hu]
  have hdrop : (reg s.l a z).drop u = J := by rw [hr, ← hu, List.drop_left' rfl]
  obtain ⟨s', β, hw⟩ : ∃ s' β, wipeB s n (a : Int) u z ((reg s.l a z).drop u) = (s', β) := ⟨_, _, rfl⟩
  have ho := opS_on hbad hd (show (s.l.drop a).take z = reg s.l a z from rfl) hf hw
  rw [hdrop] at hw
  by_cases hb : blankB J = true
  · unfold wipeB at hw
    rw [if_pos hb] at hw
    cases hw
    exact ⟨_, _, _, ho, ⟨0, by simpa using hr, fun _ => .inr hb⟩, hl, fun _ _ _ => rfl, .inl ⟨rfl, rfl, hd, rfl⟩, fun _ => ⟨rfl, rfl, rfl⟩⟩
  · unfold wipeB at hw
    rw [if_neg hb] at hw
    obtain ⟨⟨j, g1, g1'⟩, g2, g3, g4, g5, g6⟩ := wipeF_reg hz hu hlen 257 s s' u β hw hl hd (by omega) (Nat.le_refl _) (by simpa using hr)
    cases β with
    | true => exact ⟨_, _, _, ho, ⟨j, g1, fun _ => .inl (g1' rfl)⟩, g2, g3, .inl ⟨rfl, rfl, g4 rfl, g6 rfl⟩, (fun h => absurd h hb)⟩
    | false =>
      refine ⟨_, _, _, ho, ⟨j, g1, (fun h => by cases h)⟩, g2, g3, .inr ⟨rfl, rfl, ?_⟩, (fun h => absurd h hb)⟩
      cases hc : s.cut
      · have := (g5 hc).1
        cases this
      · rfl
/-- Append, over records and 0s. -/
theorem apS_reg {n a z u : Nat} {s : Sst} {L : List Rec} {q : Int} {t : List UInt8} (hl : s.l.length = n) (hz : a + z ≤ n) (hd : s.dead = false) (hr : reg s.l a z = catB 0 L ++ List.replicate (z - u) 0) (hL : RecsOk 0 L) (hu : (catB 0 L).length = u)
    (hq : lastB L < q) (hq2 : q ≤ 9223372036854775807) (ht : t.length ≤ 420) (hfit : u + (frameB u ⟨q, t⟩).length ≤ z) :
    ∃ s' L' u' e, apS s n (a : Int) z L u q t = (s', L', u', e) ∧ s'.l.length = n ∧ (∀ a' z', a' + z' ≤ a + u ∨ a + z ≤ a' → reg s'.l a' z' = reg s.l a' z') ∧ RecOk ⟨q, t⟩ ∧
      ((e = 0 ∧ L' = L ++ [⟨q, t⟩] ∧ u' = u + (frameB u ⟨q, t⟩).length ∧ s'.dead = false ∧ s'.cut = s.cut ∧ reg s'.l a z = catB 0 (L ++ [⟨q, t⟩]) ++ List.replicate (z - u') 0 ∧ (catB 0 (L ++ [⟨q, t⟩])).length = u' ∧ RecsOk 0 (L ++ [⟨q, t⟩])) ∨
       (e = 6 ∧ L' = L ∧ u' = u ∧ s.cut = true ∧ s'.dead = true ∧ ∃ k, k ≤ (frameB u ⟨q, t⟩).length ∧ reg s'.l a z = catB 0 L ++ ((frameB u ⟨q, t⟩).take k ++ List.replicate (z - u - k) 0))) := by
  have h0 : 0 ≤ lastB L := by rw [lastB_lastF]; exact lastF_ge L 0 hL
  have hok : RecOk ⟨q, t⟩ := ⟨by simp only; omega, hq2, ht⟩
  obtain ⟨s', β, hw⟩ : ∃ s' β, wrS s n ((a : Int) + (u : Int)) (frameB u ⟨q, t⟩) = (s', β) := ⟨_, _, rfl⟩
  have ho := apS_on (z := z) (show ¬ (q ≤ lastB L ∨ 420 < t.length) by omega) (show ¬ z < u + (frameB u ⟨q, t⟩).length by omega) hw
  have hw' : wrS s n ((a + u : Nat) : Int) (frameB u ⟨q, t⟩) = (s', β) := by rw [Int.natCast_add]; exact hw
  have hone : ∀ k, k ≤ (frameB u ⟨q, t⟩).length → reg (spl s.l (a + u) ((frameB u ⟨q, t⟩).take k)) a z = catB 0 L ++ ((frameB u ⟨q, t⟩).take k ++ List.replicate (z - u - k) 0) := by
    intro k hk
    have htl : ((frameB u ⟨q, t⟩).take k).length = k := by rw [List.length_take]; omega
    rw [reg_spl (by omega) (by rw [htl]; omega), hr, spl_mid' hu, htl, List.drop_replicate]
  have hoth : ∀ k, k ≤ (frameB u ⟨q, t⟩).length → ∀ a' z', a' + z' ≤ a + u ∨ a + z ≤ a' → reg (spl s.l (a + u) ((frameB u ⟨q, t⟩).take k)) a' z' = reg s.l a' z' := by
    intro k hk a' z' h'
    refine reg_other ?_ ?_
    · rw [List.length_take]; omega
    · rw [List.length_take]
      rcases h' with h' | h'
      · exact .inr (by omega)
      · exact .inl (by omega)
  have hfull : (frameB u ⟨q, t⟩).take (frameB u ⟨q, t⟩).length = frameB u ⟨q, t⟩ := List.take_of_length_le (Nat.le_refl _)
  rcases wrS_cases hw' hd (by omega) with ⟨rfl, h1, h2, h3⟩ | ⟨rfl, h1, k, h2, h3, h4⟩
  · have h5 := hone _ (Nat.le_refl _)
    have h6 := hoth _ (Nat.le_refl _)
    rw [hfull, ← h1] at h5
    rw [hfull, ← h1] at h6
    have hcat : catB 0 (L ++ [⟨q, t⟩]) = catB 0 L ++ frameB u ⟨q, t⟩ := by rw [catB_app, Nat.zero_add, hu]
    refine ⟨_, _, _, _, ho, by rw [h1]; exact spl_len hl (by omega), h6, hok, .inl ⟨rfl, rfl, rfl, h2, ?_, ?_, ?_, ?_⟩⟩
    · rcases h3 with ⟨e1, e2⟩ | ⟨e1, e2, _⟩ <;> rw [e1, e2]
    · rw [h5, hcat, List.append_assoc, Nat.sub_sub]
    · rw [hcat, List.length_append, hu]
    · exact RecsOk_app L 0 _ hL hok (by rw [← lastB_lastF]; exact hq)
  · exact ⟨_, _, _, _, ho, by rw [h3]; exact spl_len hl (by rw [List.length_take]; omega), by rw [h3]; exact hoth k h2, hok, .inr ⟨rfl, rfl, rfl, h1, h4, k, h2, by rw [h3]; exact hone k h2⟩⟩
/-- Behind a torn Append: all that was there, and of what was under way all or nothing. -/
theorem torn_reg {a z u k : Nat} {s : Sst} {L : List Rec} {r : Rec} (hr : reg s.l a z = catB 0 L ++ ((frameB u r).take k ++ List.replicate (z - u - k) 0)) (hL : RecsOk 0 L) (hu : (catB 0 L).length = u) (hk : k ≤ (frameB u r).length) (hfit : u + (frameB u r).length ≤ z) (hok : RecOk r) (hq : lastB L < r.seq) :
    ∃ (L' : List Rec) (J : List UInt8), (L' = L ∨ L' = L ++ [r]) ∧ reg s.l a z = catB 0 L' ++ J ∧ RecsOk 0 L' ∧ wholeB J (catB 0 L').length (lastB L') = none := by
  by_cases h : k = (frameB u r).length
  · subst h
    have hcat : catB 0 (L ++ [r]) = catB 0 L ++ frameB u r := by rw [catB_app, Nat.zero_add, hu]
    refine ⟨L ++ [r], List.replicate (z - u - (frameB u r).length) 0, .inr rfl, ?_, RecsOk_app L 0 r hL hok (by rw [← lastB_lastF]; exact hq), whole_zeros _ _ _⟩
    rw [hr, hcat, List.take_of_length_le (Nat.le_refl _), List.append_assoc]
  · exact ⟨L, _, .inl rfl, hr, hL, by rw [hu]; exact wholeB_torn hok (by omega) (by omega)⟩
end Go.Proofs.Ytkjckdndkljeeaa
