/- Texts as decimals: what Read answers, plainly; dec.Read at any text. -/
/- Texts of decimals: digits one by one: the lists alone. -/
import Derived.Test.YtlhceelkefgjhaaGreatDoorTextM
import Derived.Test.YtlhceelkefgjhaaGreatDoorDecJ
import Derived.Test.YtlhceelkefgjhaaGreatDoorRefE
namespace Go.Proofs.YtlhceelkefgjhaaGreatDoor
open Go.RowKit
/-- What a text of a sign, with what is ahead of the first point and behind it, is read as. -/
def readW (n : Bool) (W P : List UInt8) (pt : Bool) : Value :=
  if digB W 30 = true ∧ (pt = true → digB P 9 = true) then
    if 1000000000000000000000000000000 ≤ numL (W ++ P) then errV 3 else if n = true ∧ numL (W ++ P) = 0 then errV 2 else okV (zOf n (numL (W ++ P))) P.length
  else errV 2
def readR (n : Bool) (r : List UInt8) : Value := readW n (Lib.cut r [46]).1 (Lib.cut r [46]).2.1 (Lib.cut r [46]).2.2
def readV (t : List UInt8) : Value := readR (Lib.hasPrefix t [45]) (Lib.trimPrefix t [45])
theorem pre_no {t : List UInt8} (h : Lib.hasPrefix t [45] = false) : Lib.trimPrefix t [45] = t := by
  unfold Lib.trimPrefix
  rw [h]
  rfl
theorem pre_yes {t : List UInt8} (h : Lib.hasPrefix t [45] = true) : t = 45 :: Lib.trimPrefix t [45] := by
  cases t with
  | nil => simp [Lib.hasPrefix, List.isPrefixOf] at h
  | cons c t =>
    have hc : 45 = c := by simpa [Lib.hasPrefix, List.isPrefixOf] using h
    subst hc
    simp [Lib.trimPrefix, h]
theorem pre_cons (r : List UInt8) : Lib.hasPrefix (45 :: r) [45] = true ∧ Lib.trimPrefix (45 :: r) [45] = r := by
  have h : Lib.hasPrefix (45 :: r) [45] = true := by simp [Lib.hasPrefix, List.isPrefixOf]
  exact ⟨h, by simp [Lib.trimPrefix, h]⟩
theorem index_dotN : ∀ (H T : List UInt8), (∀ c ∈ H, c ≠ 46) → Lib.index (H ++ 46 :: T) [46] = H.length
  | [], T, _ => by simp [Lib.index, List.isPrefixOf]
  | c :: H, T, h => by
    have ih := index_dotN H T (fun x hx => h x (List.mem_cons_of_mem _ hx))
    have hc := h c List.mem_cons_self
    simp [Lib.index, List.isPrefixOf, ih, Ne.symm hc]
theorem index_noneN : ∀ (H : List UInt8), (∀ c ∈ H, c ≠ 46) → Lib.index H [46] = -1
  | [], _ => by simp [Lib.index]
  | c :: H, h => by
    have ih := index_noneN H (fun x hx => h x (List.mem_cons_of_mem _ hx))
    have hc := h c List.mem_cons_self
    simp [Lib.index, List.isPrefixOf, ih, Ne.symm hc]
theorem cut_yes {H T : List UInt8} (h : ∀ c ∈ H, c ≠ 46) : Lib.cut (H ++ 46 :: T) [46] = (H, T, true) := by
  unfold Lib.cut
  rw [index_dotN H T h]
  simp [Int.natCast_nonneg]
theorem cut_no {H : List UInt8} (h : ∀ c ∈ H, c ≠ 46) : Lib.cut H [46] = (H, [], false) := by
  unfold Lib.cut
  rw [index_noneN H h]
  simp
theorem split_46 : ∀ r : List UInt8, (∀ c ∈ r, c ≠ 46) ∨ ∃ H T, r = H ++ 46 :: T ∧ ∀ c ∈ H, c ≠ 46
  | [] => .inl (by simp)
  | c :: r => by
    by_cases hc : c = 46
    · exact .inr ⟨[], r, by simp [hc], by simp⟩
    · rcases split_46 r with h | ⟨H, T, e, h⟩
      · refine .inl fun x hx => ?_
        rcases List.mem_cons.1 hx with rfl | hx
        · exact hc
        · exact h x hx
      · refine .inr ⟨c :: H, T, by simp [e], fun x hx => ?_⟩
        rcases List.mem_cons.1 hx with rfl | hx
        · exact hc
        · exact h x hx
/-- What is ahead of the first point begins with what has none. -/
theorem cut_pre {X R : List UInt8} (h : ∀ c ∈ X, c ≠ 46) : ∃ Y, (Lib.cut (X ++ R) [46]).1 = X ++ Y := by
  rcases split_46 R with hR | ⟨H, T, rfl, hH⟩
  · refine ⟨R, ?_⟩
    rw [cut_no (H := X ++ R)]
    intro c hc
    rcases List.mem_append.1 hc with hc | hc
    · exact h c hc
    · exact hR c hc
  · refine ⟨H, ?_⟩
    rw [← List.append_assoc, cut_yes (H := X ++ H)]
    intro c hc
    rcases List.mem_append.1 hc with hc | hc
    · exact h c hc
    · exact hH c hc
theorem digs_ne {l : List UInt8} (h : l.all isDig = true) : ∀ c ∈ l, c ≠ 46 := fun c hc => (dig_ne (List.all_eq_true.1 h c hc)).2
theorem digB_long {l : List UInt8} {m : Int} (h : m < (l.length : Int)) : digB l m = false := by
  unfold digB
  rw [decide_eq_false (by omega)]
  rfl
theorem digB_bad {l : List UInt8} {m : Int} {c : UInt8} (hc : c ∈ l) (h : isDig c = false) : digB l m = false := by
  unfold digB
  have : l.all isDig = false := by
    cases e : l.all isDig
    · rfl
    · rw [List.all_eq_true.1 e c hc] at h
      cases h
  rw [this, Bool.and_false]
theorem digB_mk {l : List UInt8} {m : Int} (h1 : 1 ≤ l.length) (h2 : (l.length : Int) ≤ m) (h : l.all isDig = true) : digB l m = true := by
  unfold digB
  rw [h, decide_eq_true ⟨h1, h2⟩]
  rfl
theorem readW_w {n : Bool} {W P : List UInt8} {pt : Bool} (h : digB W 30 = false) : readW n W P pt = errV 2 := by
  unfold readW
  rw [if_neg (fun x => by rw [x.1] at h; cases h)]
theorem readW_p {n : Bool} {W P : List UInt8} (h : digB P 9 = false) : readW n W P true = errV 2 := by
  unfold readW
  rw [if_neg (fun x => by rw [x.2 rfl] at h; cases h)]
/-- So far, k bytes of r: digits H, perhaps a point, digits T behind it. -/
def RdI (r : List UInt8) (k : Nat) (H T : List UInt8) (p : Bool) : Prop :=
  k ≤ r.length ∧ r.take k = (if p = true then H ++ 46 :: T else H) ∧ (p = false → T = []) ∧ H.all isDig = true ∧ T.all isDig = true ∧ H.length ≤ 30 ∧ T.length ≤ 9 ∧ (p = true → 1 ≤ H.length)
theorem rdI_0 (r : List UInt8) : RdI r 0 [] [] false := ⟨Nat.zero_le _, by simp, fun _ => rfl, rfl, rfl, by simp, by simp, fun h => by cases h⟩
theorem take_next {r : List UInt8} {k : Nat} (hk : k < r.length) : r.take (k + 1) = r.take k ++ [r[k]] := List.take_succ_eq_append_getElem hk
theorem rest_next {r : List UInt8} {k : Nat} (hk : k < r.length) : r = r.take k ++ r[k] :: r.drop (k + 1) := by
  simp
theorem all_snoc {l : List UInt8} {c : UInt8} (h : l.all isDig = true) (hc : isDig c = true) : (l ++ [c]).all isDig = true := by
  rw [List.all_append, h]
  simp [hc]
theorem rd_head {r H T : List UInt8} {k : Nat} (h : RdI r k H T false) (hk : k < r.length) (hc : isDig r[k] = true) (hl : H.length < 30) : RdI r (k + 1) (H ++ [r[k]]) T false := by
  obtain ⟨_, h2, h3, h4, h5, _, h7, _⟩ := h
  refine ⟨by omega, ?_, h3, all_snoc h4 hc, h5, by simp; omega, h7, fun h => by cases h⟩
  rw [take_next hk, h2]
  simp
theorem rd_tail {r H T : List UInt8} {k : Nat} (h : RdI r k H T true) (hk : k < r.length) (hc : isDig r[k] = true) (hl : T.length < 9) : RdI r (k + 1) H (T ++ [r[k]]) true := by
  obtain ⟨_, h2, _, h4, h5, h6, _, h8⟩ := h
  refine ⟨by omega, ?_, (fun h => by cases h), h4, all_snoc h5 hc, h6, by simp; omega, h8⟩
  rw [take_next hk, h2]
  simp
theorem rd_point {r H T : List UInt8} {k : Nat} (h : RdI r k H T false) (hk : k < r.length) (hc : r[k] = 46) (hl : 1 ≤ H.length) : RdI r (k + 1) H T true := by
  obtain ⟨_, h2, h3, h4, h5, h6, h7, _⟩ := h
  refine ⟨by omega, ?_, (fun h => by cases h), h4, h5, h6, h7, fun _ => hl⟩
  rw [take_next hk, h2, hc, h3 rfl]
  simp
/-- Behind the point one more digit than nine, or what is no digit. -/
theorem rd_bad_p {r H T : List UInt8} {k : Nat} (n : Bool) (h : RdI r k H T true) (hk : k < r.length) (hc : isDig r[k] = false ∨ T.length = 9) : readR n r = errV 2 := by
  obtain ⟨_, h2, _, h4, _⟩ := h
  have e : r = H ++ 46 :: (T ++ r[k] :: r.drop (k + 1)) := by
    have := rest_next hk
    rw [h2] at this
    simpa using this
  unfold readR
  rw [e, cut_yes (digs_ne h4)]
  refine readW_p ?_
  rcases hc with hc | hc
  · exact digB_bad (c := r[k]) (List.mem_append_right _ List.mem_cons_self) hc
  · refine digB_long ?_
    rw [List.length_append, List.length_cons]
    omega
/-- Ahead of it one more digit than thirty, or what is neither digit nor point. -/
theorem rd_bad_w {r H T : List UInt8} {k : Nat} (n : Bool) (h : RdI r k H T false) (hk : k < r.length) (hne : r[k] ≠ 46) (hc : isDig r[k] = false ∨ H.length = 30) : readR n r = errV 2 := by
  obtain ⟨_, h2, _, h4, _⟩ := h
  have e : r = (H ++ [r[k]]) ++ r.drop (k + 1) := by
    have := rest_next hk
    rw [h2] at this
    simpa using this
  have hX : ∀ c ∈ H ++ [r[k]], c ≠ 46 := by
    intro c hc'
    rcases List.mem_append.1 hc' with hc' | hc'
    · exact digs_ne h4 c hc'
    · rw [List.mem_singleton.1 hc']
      exact hne
  obtain ⟨Y, hY⟩ := cut_pre (R := r.drop (k + 1)) hX
  rw [← e] at hY
  unfold readR
  rw [hY]
  refine readW_w ?_
  rcases hc with hc | hc
  · exact digB_bad (c := r[k]) (by simp) hc
  · refine digB_long ?_
    simp
    omega
/-- A point with no digit ahead of it. -/
theorem rd_bad_0 {r H T : List UInt8} {k : Nat} (n : Bool) (h : RdI r k H T false) (hk : k < r.length) (hc : r[k] = 46) (h0 : H.length = 0) : readR n r = errV 2 := by
  obtain ⟨_, h2, _⟩ := h
  have hH := List.eq_nil_of_length_eq_zero h0
  have e : r = [] ++ 46 :: r.drop (k + 1) := by
    have := rest_next hk
    rw [h2, hH, hc] at this
    simpa using this
  unfold readR
  rw [e, cut_yes (by simp)]
  exact readW_w rfl
theorem rd_end_cut {r H T : List UInt8} {p : Bool} (h : RdI r r.length H T p) : Lib.cut r [46] = (H, T, p) := by
  obtain ⟨_, h2, h3, h4, _⟩ := h
  rw [List.take_length] at h2
  cases p
  · rw [h3 rfl]
    simp at h2
    rw [h2]
    exact cut_no (digs_ne h4)
  · simp at h2
    rw [h2]
    exact cut_yes (digs_ne h4)
theorem rd_end_0 {r H T : List UInt8} {p : Bool} (n : Bool) (h : RdI r r.length H T p) (h0 : H.length = 0) : readR n r = errV 2 := by
  unfold readR
  rw [rd_end_cut h]
  refine readW_w ?_
  rw [List.eq_nil_of_length_eq_zero h0]
  rfl
theorem rd_end_p {r H T : List UInt8} (n : Bool) (h : RdI r r.length H T true) (h0 : T.length = 0) : readR n r = errV 2 := by
  unfold readR
  rw [rd_end_cut h]
  refine readW_p ?_
  rw [List.eq_nil_of_length_eq_zero h0]
  rfl
theorem rd_end {r H T : List UInt8} {p : Bool} (n : Bool) (h : RdI r r.length H T p) (h1 : 1 ≤ H.length) (h2 : p = true → 1 ≤ T.length) : readR n r = if n = true ∧ numL (H ++ T) = 0 then errV 2 else chkV n (numL (H ++ T)) T.length := by
  have hc := rd_end_cut h
  obtain ⟨_, _, _, h4, h5, h6, h7, _⟩ := h
  unfold readR
  rw [hc]
  dsimp only
  unfold readW
  rw [if_pos ⟨digB_mk h1 (by omega) h4, fun hp => digB_mk (h2 hp) (by omega) h5⟩]
  unfold chkV
  by_cases ho : 1000000000000000000000000000000 ≤ numL (H ++ T)
  · rw [if_pos ho, if_neg (fun x => by omega), if_neg (fun x => by omega)]
  · rw [if_neg ho]
    by_cases hz : n = true ∧ numL (H ++ T) = 0
    · rw [if_pos hz, if_pos hz]
    · rw [if_neg hz, if_neg hz, if_pos ⟨by omega, by omega, by omega⟩]
theorem ans_eq {V : Value} {e : Int} {w : World} {f : FuncId} {args : Array Value} (h : Calls Tryz.prog f args w (Ret w (· = .tuple #[.agg #[.bool false, .int .u64 0, .int .u64 0, .int .i64 0], .int .i64 e]))) (hV : V = errV e) : Calls Tryz.prog f args w (Ret w (Ans V)) :=
  h.mono fun _ _ ⟨v, hv, he, hb⟩ => ⟨v, ⟨_, _, _, _, _, hV.trans (err_form e), hv⟩, he, hb⟩
theorem read_ok (n : Bool) (W P t : List UInt8) (m : Int) (w : World) (ht : readL n W P = t) (hW : 1 ≤ W.length) (hW2 : W.length ≤ 30) (hWd : W.all isDig = true) (hP : P.length ≤ 9) (hPd : P.all isDig = true) (hN : numL (W ++ P) < 1000000000000000000000000000000) (hz : ¬ (n = true ∧ numL (W ++ P) = 0)) (hm : w.cell? ⟨0, 0, none⟩ = some (.int .i64 m)) :
    Calls Tryz.prog 15 #[.string ⟨t.toArray⟩] w (Ret w (Ans (okV (zOf n (numL (W ++ P))) P.length))) := by
  subst ht
  refine (read_c n W P m w hW hW2 hWd hP hPd hN (fun h e => hz ⟨h, e⟩) hm).mono ?_
  rintro e w' ⟨v, ⟨m', c, d, hd, ev⟩, he, hb⟩
  obtain ⟨m2, c2, d2, hd2, ev2⟩ := decV_is (z := zOf n (numL (W ++ P))) (s := (P.length : Int)) (by rw [zOf_abs]; exact hN)
  obtain ⟨rfl, rfl, rfl⟩ := decIs_one hd hd2
  exact ⟨v, ⟨_, _, _, _, 0, by rw [okV, ev2], ev⟩, he, hb⟩
/-- dec.Read at any text. -/
theorem read_all (t : List UInt8) (m : Int) (w : World) (ht : t.length ≤ 281474976710656) (hm : w.cell? ⟨0, 0, none⟩ = some (.int .i64 m)) :
    Calls Tryz.prog 15 #[.string ⟨t.toArray⟩] w (Ret w (Ans (readV t))) := by
  obtain ⟨n, hn⟩ : ∃ n, Lib.hasPrefix t [45] = n := ⟨_, rfl⟩
  obtain ⟨r, hr⟩ : ∃ r, Lib.trimPrefix t [45] = r := ⟨_, rfl⟩
  have hrl : r.length ≤ 281474976710656 := by
    rw [← hr]
    unfold Lib.trimPrefix
    split
    · rw [List.length_drop]; omega
    · exact ht
  have htr : t = if n = true then 45 :: r else r := by
    cases n
    · rw [pre_no hn] at hr
      simpa using hr
    · have := pre_yes hn
      rw [hr] at this
      simpa using this
  unfold readV
  rw [hn, hr]
  rcases split_46 r with h | ⟨H, T, rfl, h⟩
  · have hc := cut_no h
    unfold readR
    rw [hc]
    cases hd : digB r 30
    · exact ans_eq (read_form1 t r r [] n false w hn hr hrl hc hd hrl) (readW_w hd)
    · obtain ⟨l1, l2, l3⟩ := digB_yes hd
      unfold readW
      rw [if_pos ⟨hd, fun x => by cases x⟩]
      by_cases ho : 1000000000000000000000000000000 ≤ numL (r ++ [])
      · rw [if_pos ho]
        exact ans_eq (read_over t r r [] n false w hn hr hrl hc hd (.inl ⟨rfl, rfl⟩) ho) rfl
      · rw [if_neg ho]
        by_cases hz : n = true ∧ numL (r ++ []) = 0
        · rw [if_pos hz]
          exact ans_eq (read_zero t r r [] false w (hn.trans hz.1) hr hrl hc hd (.inl ⟨rfl, rfl⟩) hz.2) rfl
        · rw [if_neg hz]
          refine read_ok n r [] t m w ?_ l1 (by omega) l3 (by simp) rfl (Nat.lt_of_not_le ho) hz hm
          rw [htr]
          unfold readL tailL
          simp
  · have hc := cut_yes (T := T) h
    unfold readR
    rw [hc]
    have hHl : H.length ≤ 281474976710656 := by
      rw [List.length_append, List.length_cons] at hrl
      omega
    have hTl : T.length ≤ 281474976710656 := by
      rw [List.length_append, List.length_cons] at hrl
      omega
    cases hd : digB H 30
    · exact ans_eq (read_form1 t _ H T n true w hn hr hrl hc hd hHl) (readW_w hd)
    · cases hd2 : digB T 9
      · exact ans_eq (read_form2 t _ H T n w hn hr hrl hc hd hd2 hHl hTl) (readW_p hd2)
      · obtain ⟨l1, l2, l3⟩ := digB_yes hd
        obtain ⟨k1, k2, k3⟩ := digB_yes hd2
        unfold readW
        rw [if_pos ⟨hd, fun _ => hd2⟩]
        by_cases ho : 1000000000000000000000000000000 ≤ numL (H ++ T)
        · rw [if_pos ho]
          exact ans_eq (read_over t _ H T n true w hn hr hrl hc hd (.inr ⟨rfl, hd2⟩) ho) rfl
        · rw [if_neg ho]
          by_cases hz : n = true ∧ numL (H ++ T) = 0
          · rw [if_pos hz]
            exact ans_eq (read_zero t _ H T true w (hn.trans hz.1) hr hrl hc hd (.inr ⟨rfl, hd2⟩) hz.2) rfl
          · rw [if_neg hz]
            refine read_ok n H T t m w ?_ l1 (by omega) l3 (by omega) k3 (Nat.lt_of_not_le ho) hz hm
            rw [htr]
            have hT : T ≠ [] := fun e => by rw [e] at k1; simp at k1
            unfold readL tailL
            simp [hT]
end Go.Proofs.YtlhceelkefgjhaaGreatDoor

namespace Go.Proofs.YtlhceelkefgjhaaGreatDoor
open Go.RowKit
def chr_ (d : Nat) : UInt8 := UInt8.ofNat (48 + d)
def chL (ds : List Nat) : Nat → List UInt8
  | 0 => []
  | k + 1 => chr_ (ds.getD k 0) :: chL ds k
/-- What the loop has, behind k digits of a decimal of Scale s. -/
def sL (ds : List Nat) (s : Nat) : Nat → List UInt8
  | 0 => []
  | k + 1 => chr_ (ds.getD k 0) :: (if k = s ∧ 0 < k then 46 :: sL ds s k else sL ds s k)
theorem chL_length (ds : List Nat) : ∀ k, (chL ds k).length = k
  | 0 => rfl
  | k + 1 => by simp [chL, chL_length ds k]
theorem sL_length (ds : List Nat) (s : Nat) : ∀ k, (sL ds s k).length ≤ 2 * k
  | 0 => by simp [sL]
  | k + 1 => by
    have := sL_length ds s k
    unfold sL
    split <;> simp <;> omega
theorem sL_low (ds : List Nat) (s : Nat) : ∀ k, k ≤ s → sL ds s k = chL ds k
  | 0, _ => rfl
  | k + 1, h => by
    unfold sL chL
    rw [if_neg (by omega), sL_low ds s k (by omega)]
theorem sL_zero (ds : List Nat) : ∀ k, sL ds 0 k = chL ds k
  | 0 => rfl
  | k + 1 => by
    unfold sL chL
    rw [if_neg (by omega), sL_zero ds k]
theorem sL_high (ds : List Nat) (s : Nat) (hs : 0 < s) : ∀ k, s < k → sL ds s k = (chL ds k).take (k - s) ++ 46 :: chL ds s
  | 0, h => by omega
  | k + 1, h => by
    unfold sL
    by_cases hk : k = s
    · subst hk
      rw [if_pos ⟨rfl, hs⟩, sL_low ds k k (Nat.le_refl _), show k + 1 - k = 1 by omega]
      simp [chL]
    · rw [if_neg (by omega), sL_high ds s hs k (by omega), show k + 1 - s = (k - s) + 1 by omega]
      simp [chL]
theorem chL_drop (ds : List Nat) (s : Nat) : ∀ d, (chL ds (s + d)).drop d = chL ds s
  | 0 => by simp
  | d + 1 => by
    rw [← Nat.add_assoc]
    show ((chr_ (ds.getD (s + d) 0)) :: chL ds (s + d)).drop (d + 1) = _
    rw [List.drop_succ_cons, chL_drop ds s d]
theorem sL_dot (ds : List Nat) (s K : Nat) (h : s < K) : sL ds s K = dotL (chL ds K) s := by
  unfold dotL
  rw [chL_length]
  by_cases hs : s = 0
  · subst hs
    rw [if_pos (by rfl), sL_zero]
  · rw [if_neg (by omega), sL_high ds s (by omega) K h, Int.toNat_natCast]
    have e := chL_drop ds s (K - s)
    rw [show s + (K - s) = K by omega] at e
    rw [e]
    simp
theorem chr_nat {d : Nat} (h : d < 10) : (chr_ d).toNat = 48 + d := dig_of h
theorem chL_dig {ds : List Nat} (h : ∀ d ∈ ds, d < 10) : ∀ k, (chL ds k).all isDig = true
  | 0 => rfl
  | k + 1 => by
    unfold chL
    rw [List.all_cons, chL_dig h k, Bool.and_true]
    exact isDig_of (dig_lt h k)
theorem chL_num {ds : List Nat} (h : ∀ d ∈ ds, d < 10) : ∀ k, numL (chL ds k) = dv (ds.take k)
  | 0 => by simp [chL, numL, dv]
  | k + 1 => by
    unfold chL
    rw [numL_cons, chL_num h k, chL_length, dv_take, chr_nat (dig_lt h k), Nat.add_sub_cancel_left]
    omega
theorem numL_lt : ∀ {l : List UInt8}, l.all isDig = true → numL l < 10 ^ l.length
  | [], _ => by simp [numL]
  | c :: l, h => by
    simp only [List.all_cons, Bool.and_eq_true] at h
    have ih := numL_lt h.2
    have hc := h.1
    unfold isDig at hc
    simp at hc
    rw [numL_cons, List.length_cons, Nat.pow_succ]
    have : (c.toNat - 48) * 10 ^ l.length ≤ 9 * 10 ^ l.length := Nat.mul_le_mul_right _ (by omega)
    omega
theorem digs_one : ∀ {l m : List UInt8}, l.all isDig = true → m.all isDig = true → l.length = m.length → numL l = numL m → l = m
  | [], [], _, _, _, _ => rfl
  | [], _ :: _, _, _, h, _ => by simp at h
  | _ :: _, [], _, _, h, _ => by simp at h
  | c :: l, d :: m, hl, hm, hlen, h => by
    simp only [List.all_cons, Bool.and_eq_true] at hl hm
    have hlen' : l.length = m.length := by simpa using hlen
    rw [numL_cons, numL_cons, ← hlen'] at h
    have a := numL_lt hl.2
    have b := numL_lt hm.2
    rw [← hlen'] at b
    have hc := hl.1
    have hd := hm.1
    unfold isDig at hc hd
    simp at hc hd
    have e : c.toNat - 48 = d.toNat - 48 := by
      have q1 : ((c.toNat - 48) * 10 ^ l.length + numL l) / 10 ^ l.length = c.toNat - 48 := by
        rw [Nat.mul_comm, Nat.mul_add_div (Nat.pow_pos (by decide)), Nat.div_eq_of_lt a, Nat.add_zero]
      have q2 : ((d.toNat - 48) * 10 ^ l.length + numL m) / 10 ^ l.length = d.toNat - 48 := by
        rw [Nat.mul_comm, Nat.mul_add_div (Nat.pow_pos (by decide)), Nat.div_eq_of_lt b, Nat.add_zero]
      rw [← q1, ← q2, h]
    rw [e] at h
    have e2 : c = d := UInt8.toNat_inj.1 (by omega)
    rw [e2, digs_one hl.2 hm.2 hlen' (by omega)]
/-- The digits of a number: without zeros ahead there are as many, however they were won. -/
theorem trim_first (l : List UInt8) : l.all isDig = true → Lib.trimLeftB l 48 = [] ∨ 10 ^ ((Lib.trimLeftB l 48).length - 1) ≤ numL l := by
  intro hd
  have hn := numL_trim l
  have hd2 := trim_dig hd
  cases e : Lib.trimLeftB l 48 with
  | nil => exact .inl rfl
  | cons c m =>
    refine .inr ?_
    rw [← hn, e, numL_cons, List.length_cons, Nat.add_sub_cancel]
    have hc : c ≠ 48 := by
      intro hc
      subst hc
      have h := List.head?_dropWhile_not (fun b => b == (48 : UInt8)) l
      have e' : l.dropWhile (fun b => b == (48 : UInt8)) = 48 :: m := e
      rw [e'] at h
      simp at h
    rw [e] at hd2
    simp only [List.all_cons, Bool.and_eq_true] at hd2
    have hx := hd2.1
    unfold isDig at hx
    simp at hx
    have : c.toNat ≠ 48 := fun h => hc (UInt8.toNat_inj.1 h)
    have h1 : 1 * 10 ^ m.length ≤ (c.toNat - 48) * 10 ^ m.length := Nat.mul_le_mul_right _ (by omega)
    omega
theorem len_same {a b N : Nat} (ha : N < 10 ^ a) (hb : N < 10 ^ b) (ha1 : a = 0 ∨ 10 ^ (a - 1) ≤ N) (hb1 : b = 0 ∨ 10 ^ (b - 1) ≤ N) : a = b := by
  have key : ∀ {a b : Nat}, N < 10 ^ a → (b = 0 ∨ 10 ^ (b - 1) ≤ N) → b ≤ a := by
    intro a b ha hb
    rcases hb with hb | hb
    · omega
    · by_cases h : b ≤ a
      · exact h
      · have : 10 ^ a ≤ 10 ^ (b - 1) := Nat.pow_le_pow_right (by decide) (by omega)
        omega
  exact Nat.le_antisymm (key hb ha1) (key ha hb1)
theorem fig_ch {ds : List Nat} {N s : Nat} (h : ∀ d ∈ ds, d < 10) (hn : Norm ds) (e : dv ds = N) (K : Nat) (hK : K = max ds.length (s + 1)) : figL N ((s : Int) + 1) = chL ds K := by
  have hT : (Lib.trimLeftB (Lib.decDigits (N / 1000000000000000) ++ padL (Lib.decDigits (N % 1000000000000000)) 15) 48).length = ds.length := by
    have hd : (Lib.decDigits (N / 1000000000000000) ++ padL (Lib.decDigits (N % 1000000000000000)) 15).all isDig = true := by
      rw [List.all_append, dec_dig, pad_dig (dec_dig _)]
      rfl
    have hnum : numL (Lib.decDigits (N / 1000000000000000) ++ padL (Lib.decDigits (N % 1000000000000000)) 15) = N := by
      have hlt : N % 1000000000000000 < 1000000000000000 := by omega
      rw [numL_app, numL_pad, dec_num, dec_num, pad15 hlt]
      omega
    refine len_same (N := N) ?_ ?_ ?_ ?_
    · have := numL_lt (trim_dig hd)
      rwa [numL_trim, hnum] at this
    · rw [← e]
      exact dv_lt h
    · rcases trim_first _ hd with h1 | h1
      · exact .inl (by rw [h1]; rfl)
      · rw [hnum] at h1
        exact .inr h1
    · rcases hn with h1 | h1
      · exact .inl (by rw [h1]; rfl)
      · by_cases h0 : ds = []
        · exact .inl (by rw [h0]; rfl)
        · rw [← e]
          exact .inr (dv_ge h0 h1)
  have hlen : (figL N ((s : Int) + 1)).length = K := by
    unfold figL
    rw [padL_length, hT, hK]
    omega
  refine digs_one (fig_dig _ _) (chL_dig h K) (by rw [hlen, chL_length]) ?_
  rw [fig_num, chL_num h, List.take_of_length_le (by omega), e]
theorem print_ch {ds : List Nat} {N s : Nat} (n : Bool) (h : ∀ d ∈ ds, d < 10) (hn : Norm ds) (e : dv ds = N) (K : Nat) (hK : K = max ds.length (s + 1)) : printL n N s = if n = true then 45 :: sL ds s K else sL ds s K := by
  unfold printL
  rw [fig_ch h hn e K hK, sL_dot ds s K (by omega)]
theorem sL_next (ds : List Nat) (s k : Nat) : sL ds s (k + 1) = chr_ (ds.getD k 0) :: (if k = s ∧ 0 < k then 46 :: sL ds s k else sL ds s k) := rfl
theorem sL_next_p {ds : List Nat} {s k : Nat} {L : List UInt8} (hL : sL ds s k = L) (h : k = s ∧ 0 < k) : sL ds s (k + 1) = chr_ (ds.getD k 0) :: 46 :: L := by rw [sL_next, if_pos h, hL]
theorem sL_next_n {ds : List Nat} {s k : Nat} {L : List UInt8} (hL : sL ds s k = L) (h : ¬ (k = s ∧ 0 < k)) : sL ds s (k + 1) = chr_ (ds.getD k 0) :: L := by rw [sL_next, if_neg h, hL]
end Go.Proofs.YtlhceelkefgjhaaGreatDoor
