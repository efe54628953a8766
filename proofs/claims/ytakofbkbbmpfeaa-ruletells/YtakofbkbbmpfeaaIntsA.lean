/- Slices of ints of the call's own that grow by append, told with where they lie: the row that was, or one newer than all that was. -/
import Derived.Test.YtakofbkbbmpfeaaLabC
namespace Go.Proofs.Ytakofbkbbmpfeaa
open Go.RowKit
def zV (x : Int) : Value := .int .i64 x
theorem zV_ones (L : List Int) : ∀ u ∈ L.map zV, u.oneCell' = true := by
  intro u hu
  obtain ⟨_, _, rfl⟩ := List.mem_map.1 hu
  rfl
theorem app_int (w : World) {base n : Nat} {v : Value} {L : List Int} (h : w.ownsRow base 3 1 v n (L.map zV)) (x : Int) (a : Addr) (hx : w.cell? a = some (.int .i64 x)) (hn : n ≤ 1000000000) (hB : base ≤ w.heap.size) (ty : TypeId) :
    ∃ v' w', (Builtin.append_ #[22, 22] ty #[v, .slice (some a) 1 1]).run Try.prog w = .ok v' w' ∧ w'.ownsRow base 3 1 v' (n + 1) ((L ++ [x]).map zV) ∧ w.grownBy w' v.ownBlock ∧ v' ≠ .slice none 0 0 ∧
      ∀ g, v'.ownBlock = some g → v.ownBlock = some g ∨ w.heap.size ≤ g := by
  obtain ⟨i0, hi, hz0, hz1, hz2⟩ := info_parts info_int
  have hnews : ∀ (j : Nat) u, ([x].map zV)[j]? = some u → w.cell? (a.add j) = some u := fun j u hu => by
    match j, hu with
    | 0, hu => simp at hu; subst hu; simpa [Addr.add, zV] using hx
  obtain ⟨v', w', hr, ho, hg, hnil⟩ := run_append_own (P := Try.prog) w base 22 ty 3 i0 (.int .i64 0) 1 8 Try.underlying22 hi hz0 hz1 hz2 rfl (by decide) v n (L.map zV) h a 1 1 ([x].map zV) rfl hnews (zV_ones _) (by unfold maxLen; omega) (by omega) hB
  have hk := h.1
  rw [List.length_map] at hk
  refine ⟨v', w', hr, by rw [List.map_append]; exact ho, hg, fun e => by have := (hnil.1 e).2; omega, ?_⟩
  rcases h.2 with ⟨rfl, rfl⟩ | ⟨g, c, cur, rfl, hBk, hc, hle, hcm, hcs, htk⟩
  · have := run_append_nil (P := Try.prog) w 22 ty 3 i0 _ Try.underlying22 hi hz0 a 1 1 ([x].map zV) (by rw [hz1]; rfl) hnews (by omega) (by omega) (by rw [hz2]; omega)
    rw [this] at hr
    injection hr with e1 e2
    subst e1
    intro g' hg'
    simp [Value.ownBlock] at hg'
    exact .inr (by omega)
  · by_cases hroom : n + 1 ≤ c
    · have := run_append_room (P := Try.prog) w 22 ty 3 i0 Try.underlying22 hi g n c cur hc a 1 1 ([x].map zV) (by rw [hz1]; rfl) hnews (zV_ones _) hroom (by rw [hz1, hcs]; simp; omega)
      rw [this] at hr
      injection hr with e1 e2
      subst e1
      intro g' hg'
      exact .inl (by simpa [Value.ownBlock] using hg')
    · have := run_append_grow (P := Try.prog) w 22 ty 3 i0 _ Try.underlying22 hi hz0 ⟨g, 0, none⟩ n c (L.map zV) (by rw [hz1, List.length_map]; exact hk) (fun j u hu => h.cells (g := g) rfl j u hu) a 1 1 ([x].map zV) (by rw [hz1]; rfl) hnews (by omega) (by omega) (growslice_fits (by omega) (by rw [hz2]; omega))
      rw [this] at hr
      injection hr with e1 e2
      subst e1
      intro g' hg'
      simp [Value.ownBlock] at hg'
      exact .inr (by omega)
/-- append(s, x), where x lies in a new slice of one. -/
theorem wpList_app_int {w : World} {ops : Array Oper} {rest : List Oper} {o : Oper} {a : Act} {Q : Exit → Act → World → Prop} (hgd : o.guard = none) {s y : Operand}
    (ho : o.op = .call { callee := .builtin .append, args := #[s, y], argTypes := #[22, 22] })
    {base n : Nat} {v : Value} {L : List Int} (hs : a.eval s = v) (h : w.ownsRow base 3 1 v n (L.map zV)) {x : Int} {ad : Addr} (hy : a.eval y = .slice (some ad) 1 1) (hx : w.cell? ad = some (.int .i64 x)) (hn : n ≤ 1000000000) (hB : base ≤ w.heap.size)
    (hk : ∀ v' w', w'.ownsRow base 3 1 v' (n + 1) ((L ++ [x]).map zV) → w.grownBy w' v.ownBlock → v' ≠ .slice none 0 0 → (∀ g, v'.ownBlock = some g → v.ownBlock = some g ∨ w.heap.size ≤ g) → wpList Try.prog ops Q rest (a.put o.dst v') w') :
    wpList Try.prog ops Q (o :: rest) a w := by
  refine wpList_plain hgd fun K hK => ?_
  obtain ⟨v', w', hr, h2, h3, h4, h5⟩ := app_int w h x ad hx hn hB o.type
  unfold Oper.wp execOp
  simp only [ho, resolve, invoke, builtin, Sem.run_bind, Sem.run_pure, Result.andThen_ok, List.map_toArray, List.map_cons, List.map_nil, hs, hy, hr]
  exact hK _ _ (hk v' w' h2 h3 h4 h5)
theorem own_block {w : World} {base n size : Nat} {e : TypeId} {v : Value} {xs : List Value} (h : w.ownsRow base e size v n xs) : ∀ g, v.ownBlock = some g → g < w.heap.size := by
  intro g hg
  rcases h.2 with ⟨rfl, _⟩ | ⟨g', cap, cur, rfl, _, hh, _⟩
  · simp [Value.ownBlock] at hg
  · simp [Value.ownBlock] at hg
    subst hg
    rcases Nat.lt_or_ge g' w.heap.size with c | c
    · exact c
    · rw [Array.getElem?_eq_none c] at hh; cases hh
/-- What another row's growing leaves. -/
theorem own_keep {w w' : World} {base n size : Nat} {e : TypeId} {v : Value} {xs : List Value} {r : Option Nat} (h : w.ownsRow base e size v n xs) (hg : w.grownBy w' r) (hne : ∀ g, v.ownBlock = some g → r ≠ some g) : w'.ownsRow base e size v n xs := by
  refine ⟨h.1, ?_⟩
  have hlt := own_block h
  rcases h.2 with h | ⟨g, cap, cur, rfl, h1, hh, h2⟩
  · exact .inl h
  · have e := hg.block g (hlt g rfl) (fun e => hne g rfl e.symm)
    exact .inr ⟨g, cap, cur, rfl, h1, by rw [e]; exact hh, h2⟩
/-- A literal of ints, in memory of its own. -/
theorem own_ints (w : World) {cs : Array Value} {L : List Int} {n : Nat} (h : cs = (L.map zV).toArray) (hn : L.length = n) (hm : n ≤ 281474976710656) : (w.alloc (.cells cs 3)).ownsRow w.heap.size 3 1 (.slice (some ⟨w.heap.size, 0, none⟩) n n) n (L.map zV) := by
  subst h
  refine ⟨by rw [List.length_map, hn, Nat.mul_one], .inr ⟨_, n, (L.map zV).toArray, rfl, Nat.le_refl _, heap_alloc_new w _, Nat.le_refl _, by unfold maxLen; omega, ?_, ?_⟩⟩
  · simp only [List.size_toArray, List.length_map]
    omega
  · simp only
    rw [List.take_of_length_le (by rw [List.length_map]; omega)]
end Go.Proofs.Ytakofbkbbmpfeaa
