/- Policies, plainly; rows of structs in memory, of the call's own; append to one. -/
import Derived.Test.YtakofbkbbmpfeaaIntsA
import Derived.Test.YtakofbkbbmpfeaaBlk
namespace Go.Proofs.Ytakofbkbbmpfeaa
open Go.RowKit
structure EntP where
  lv : Int
  sc : Int
  pa : Int
  sh : Int
structure WhoP where
  set : Nat
  lv : Int
  ro : Nat
structure RuleP where
  tag : Int
  role : Int
  verb : Int
  ent : Int
  grp : Int
  line : Int
  neg : Bool
  c0 : Nat
  c1 : Nat
  sc : Int
  toS : Nat
  toL : Int
structure PolP where
  ents : List EntP
  grp : List Nat
  who : List WhoP
  up : List Int
  rules : List RuleP
def entV (e : EntP) : List Value := [.int .i64 e.lv, .int .i64 e.sc, .int .i64 e.pa, .int .i64 e.sh]
def uV (n : Nat) : Value := .int .u64 (n : Int)
def whoV (x : WhoP) : List Value := [.int .u64 (x.set : Int), .int .i64 x.lv, .int .u64 (x.ro : Int)]
def ruleV (r : RuleP) : List Value := [.int .i64 r.tag, .int .i64 r.role, .int .i64 r.verb, .int .i64 r.ent, .int .i64 r.grp, .int .i64 r.line, .bool r.neg, .int .u64 (r.c0 : Int), .int .u64 (r.c1 : Int), .int .i64 r.sc, .int .u64 (r.toS : Int), .int .i64 r.toL]
theorem flat_len {α β : Type} (f : α → List β) (k : Nat) (hk : ∀ a, (f a).length = k) : ∀ l : List α, (l.flatMap f).length = l.length * k
  | [] => by simp
  | a :: l => by rw [List.flatMap_cons, List.length_append, hk, flat_len f k hk l, List.length_cons, Nat.succ_mul]; omega
theorem flat_get {α β : Type} (f : α → List β) (k : Nat) (hk : ∀ a, (f a).length = k) : ∀ (l : List α) (i j : Nat) (a : α), l[i]? = some a → j < k → (l.flatMap f)[i * k + j]? = (f a)[j]?
  | [], i, j, a, e, _ => by simp at e
  | b :: l, 0, j, a, e, hj => by
    simp at e
    subst e
    rw [List.flatMap_cons, Nat.zero_mul, Nat.zero_add, List.getElem?_append_left (by rw [hk]; exact hj)]
  | b :: l, i + 1, j, a, e, hj => by
    rw [List.getElem?_cons_succ] at e
    rw [List.flatMap_cons, List.getElem?_append_right (by rw [hk, Nat.succ_mul]; omega), hk, show (i + 1) * k + j - k = i * k + j by rw [Nat.succ_mul]; omega]
    exact flat_get f k hk l i j a e hj
theorem flat_snoc {α β : Type} (f : α → List β) (l : List α) (a : α) : (l ++ [a]).flatMap f = l.flatMap f ++ f a := by rw [List.flatMap_append, List.flatMap_singleton]
def EntOk (i : Nat) (e : EntP) : Prop := 0 ≤ e.lv ∧ e.lv ≤ 3 ∧ 0 ≤ e.sc ∧ e.sc ≤ 4 ∧ -1 ≤ e.pa ∧ e.pa < (i : Int) ∧ 1 ≤ e.sh ∧ e.sh ≤ 10000 ∧ (e.pa < 0 → e.sh = 10000)
def AllI_ {α : Type} (p : Nat → α → Prop) (l : List α) : Prop := ∀ i a, l[i]? = some a → p i a
theorem AllI_.nil_ {α : Type} (p : Nat → α → Prop) : AllI_ p [] := fun i a e => by simp at e
theorem AllI_.snoc {α : Type} {p : Nat → α → Prop} {l : List α} (h : AllI_ p l) {a : α} (ha : p l.length a) : AllI_ p (l ++ [a]) := by
  intro i y e
  rcases Nat.lt_or_ge i l.length with g | g
  · rw [List.getElem?_append_left g] at e
    exact h i y e
  · rw [List.getElem?_append_right g] at e
    rcases Nat.lt_or_ge i (l.length + 1) with g2 | g2
    · obtain rfl : i = l.length := by omega
      rw [Nat.sub_self] at e
      obtain rfl := Option.some.inj e
      exact ha
    · rw [List.getElem?_eq_none (by simp; omega)] at e
      cases e
/-- Append to a row of whatever elements. -/
theorem app_row (w : World) {TS E : TypeId} {z : Value} {size bytes : Nat} (hts : Try.prog.underlying TS = some (.slice E)) (hie : (Try.prog.info? E).map (fun i => (i.zero, i.size, i.bytes)) = some (some z, size, bytes)) (hzs : z.cells.size = size) (hsz : 0 < size) (hby : bytes ≤ 1000)
    {base n : Nat} {v : Value} {xs : List Value} (h : w.ownsRow base E size v n xs) (a : Addr) (m c : Nat) (news : List Value) (hl : news.length = m * size) (hnews : ∀ (j : Nat) u, news[j]? = some u → w.cell? (a.add j) = some u) (h1 : ∀ u ∈ news, u.oneCell' = true)
    (hm : 0 < m) (hn : n + m ≤ 1000000) (hB : base ≤ w.heap.size) (ty : TypeId) :
    ∃ v' w', (Builtin.append_ #[TS, TS] ty #[v, .slice (some a) m c]).run Try.prog w = .ok v' w' ∧ w'.ownsRow base E size v' (n + m) (xs ++ news) ∧ w.grownBy w' v.ownBlock ∧ v' ≠ .slice none 0 0 ∧
      ∀ g, v'.ownBlock = some g → v.ownBlock = some g ∨ w.heap.size ≤ g := by
  obtain ⟨i0, hi, hz0, hz1, hz2⟩ := info_parts hie
  have hbb : (n + m) * bytes ≤ 1000000 * 1000 := Nat.mul_le_mul hn hby
  obtain ⟨v', w', hr, ho, hg, hnil⟩ := run_append_own (P := Try.prog) w base TS ty E i0 z size bytes hts hi hz0 hz1 hz2 hzs hsz v n xs h a m c news hl hnews h1 (by unfold maxLen; omega) (by omega) hB
  have hk := h.1
  refine ⟨v', w', hr, ho, hg, fun e => by have := (hnil.1 e).2; omega, ?_⟩
  rcases h.2 with ⟨rfl, rfl⟩ | ⟨g, c', cur, rfl, hBk, hc, hle, hcm, hcs, htk⟩
  · have := run_append_nil (P := Try.prog) w TS ty E i0 _ hts hi hz0 a m c news (by rw [hz1]; exact hl) hnews hm (by omega) (by rw [hz2]; rw [Nat.zero_add] at hbb; omega)
    rw [this] at hr
    injection hr with e1 e2
    subst e1
    intro g' hg'
    simp [Value.ownBlock] at hg'
    exact .inr (by omega)
  · by_cases hroom : n + m ≤ c'
    · have := run_append_room (P := Try.prog) w TS ty E i0 hts hi g n c' cur hc a m c news (by rw [hz1]; exact hl) hnews h1 hroom (by rw [hz1, hcs, hl, ← Nat.add_mul]; exact Nat.mul_le_mul_right _ hroom)
      rw [this] at hr
      injection hr with e1 e2
      subst e1
      intro g' hg'
      exact .inl (by simpa [Value.ownBlock] using hg')
    · have := run_append_grow (P := Try.prog) w TS ty E i0 _ hts hi hz0 ⟨g, 0, none⟩ n c' xs (by rw [hz1]; exact hk) (fun j u hu => h.cells (g := g) rfl j u hu) a m c news (by rw [hz1]; exact hl) hnews (by omega) (by omega) (growslice_fits (by omega) (by rw [hz2]; omega))
      rw [this] at hr
      injection hr with e1 e2
      subst e1
      intro g' hg'
      simp [Value.ownBlock] at hg'
      exact .inr (by omega)
/-- Rows of unlike elements lie apart. -/
theorem own_apart {w : World} {base base' n n' size size' : Nat} {E E' : TypeId} {v v' : Value} {xs xs' : List Value} (h : w.ownsRow base E size v n xs) (h' : w.ownsRow base' E' size' v' n' xs') (hE : E ≠ E') : ∀ g, v.ownBlock = some g → v'.ownBlock ≠ some g := by
  intro g hg hg'
  rcases h.2 with ⟨rfl, _⟩ | ⟨k, c, cur, rfl, _, hh, _⟩
  · simp [Value.ownBlock] at hg
  · rcases h'.2 with ⟨rfl, _⟩ | ⟨k', c', cur', rfl, _, hh', _⟩
    · simp [Value.ownBlock] at hg'
    · simp [Value.ownBlock] at hg hg'
      subst hg
      subst hg'
      rw [hh] at hh'
      injection hh' with e
      injection e with _ e
      exact hE e
end Go.Proofs.Ytakofbkbbmpfeaa
