/- Package roll: RollFalls. -/
import Derived.Test.YtkjckdndkljeeaaRollX
namespace Go.Proofs.Ytkjckdndkljeeaa
open Go.RowKit
/-- Records, and behind them what begins none. -/
structure Inv7 (s : Sst) (L : List Rec) (u : Nat) : Prop where
  len : s.l.length = 700
  rg : ∃ J, reg s.l 100 500 = catB 0 L ++ J ∧ wholeB J u (lastB L) = none
  recs : RecsOk 0 L
  hu : (catB 0 L).length = u
theorem Inv7.step {s : Sst} {L : List Rec} {u : Nat} (h : Inv7 s L u) (q1 q2 : Int) : ∃ s' R e, opS (cutS (revS s) q1 q2) 700 ((100 : Nat) : Int) ((500 : Nat) : Int) = (s', R, e) ∧ Inv7 s' L u := by
  obtain ⟨J, hr, hJ⟩ := h.rg
  obtain ⟨s', R, e, h1, ⟨j, h2, _⟩, h3, _⟩ := opS_reg (n := 700) (a := 100) (z := 500) (s := cutS (revS s) q1 q2) h.len (by omega) (by omega) (by omega) rfl hr h.recs h.hu hJ
  exact ⟨s', R, e, h1, h3, ⟨_, h2, whole_wiped hJ⟩, h.recs, h.hu⟩
theorem Inv7.last {s : Sst} {L : List Rec} {u : Nat} {K : Int} (h : Inv7 s L u) (hok : s.Ok 700 K) : ∃ s', opS (revS s) 700 ((100 : Nat) : Int) ((500 : Nat) : Int) = (s', some (L, u), 0) ∧ St s' 700 100 500 u L (K + 258) := by
  obtain ⟨J, hr, hJ⟩ := h.rg
  have hlen : u + J.length = 500 := by
    have := reg_len (l := s.l) (a := 100) (z := 500) (by rw [h.len]; omega)
    rw [hr, List.length_append, h.hu] at this
    exact this
  obtain ⟨s', R, e, h1, ⟨j, h2, h2'⟩, h3, _, h5, h6⟩ := opS_reg (n := 700) (a := 100) (z := 500) (s := revS s) h.len (by omega) (by omega) (by omega) rfl hr h.recs h.hu hJ
  have hok' := opS_ok (a := ((100 : Nat) : Int)) (z := ((500 : Nat) : Int)) (revS_ok hok)
  rw [h1] at hok'
  rcases h5 with ⟨rfl, rfl, h7, _⟩ | ⟨_, _, h7⟩
  · refine ⟨s', h1, hok'.more (by omega), by omega, by omega, h7, ?_, h.recs, h.hu, by omega⟩
    rcases h2' rfl with hj | hb
    · have hl2 := reg_len (l := s'.l) (a := 100) (z := 500) (by rw [h3]; omega)
      have hd : J.drop j = [] := List.drop_eq_nil_of_le (by omega)
      rw [h2, hd, List.append_nil, List.length_append, h.hu, List.length_replicate] at hl2
      rw [h2, hd, List.append_nil, show j = 500 - u by omega]
    · obtain ⟨rfl, _, _⟩ := h6 hb
      have hJ0 := blank_is hb
      rw [show J.length = 500 - u by omega] at hJ0
      show reg s.l 100 500 = _
      rw [hr, ← hJ0]
  · cases h7
/-- An Append whose power goes. -/
theorem torn_inv {s s' : Sst} {L : List Rec} {u j : Nat} {q : Int} {t : List UInt8} {K : Int} (h : St s 700 100 500 u L K) (hl : s'.l.length = 700) (hok : RecOk ⟨q, t⟩) (hq : lastB L < q) (hfit : u + (frameB u ⟨q, t⟩).length ≤ 500) (hj : j ≤ (frameB u ⟨q, t⟩).length) (hr : reg s'.l 100 500 = catB 0 L ++ ((frameB u ⟨q, t⟩).take j ++ List.replicate (500 - u - j) 0)) :
    ∃ L' u', (L' = L ∨ L' = L ++ [⟨q, t⟩]) ∧ Inv7 s' L' u' ∧ u' ≤ u + (frameB u ⟨q, t⟩).length := by
  obtain ⟨L', J, h1, h2, h3, h4⟩ := torn_reg hr h.recs h.len hj hfit hok hq
  refine ⟨L', _, h1, ⟨hl, ⟨J, h2, h4⟩, h3, rfl⟩, ?_⟩
  rcases h1 with rfl | rfl
  · rw [h.len]; omega
  · rw [catB_app, List.length_append, Nat.zero_add, h.len]; exact Nat.le_refl _
/-- One more record in a row of our own: the row is the one that was, or newer. -/
theorem Recs7.app {w : World} {B k : Nat} {v : Value} {L : List Rec} (h : Recs7 w B v L) (r : Rec) (hk : Blk w k 58 #[.int .i64 r.seq, .string ⟨r.body.toArray⟩]) (hL : L.length ≤ 1000000) (hB : B ≤ w.heap.size) (ty : TypeId) :
    ∃ v' w', (Builtin.append_ #[32, 32] ty #[v, .slice (some ⟨k, 0, none⟩) 1 1]).run Try.prog w = .ok v' w' ∧ Recs7 w' B v' (L ++ [r]) ∧ w.grownBy w' v.ownBlock ∧ (∀ x ∈ ownEx v', x ∈ ownEx v ∨ w.heap.size ≤ x) := by
  obtain ⟨i0, hi, hz0, hz1, hz2⟩ := info_parts Try.recI
  have hnews : ∀ j u, (recsV [r])[j]? = some u → w.cell? ((⟨k, 0, none⟩ : Addr).add j) = some u := fun j u hu => by
    rw [Addr.add_lit, Nat.zero_add, Blk.cell hk, recsV_one] at *
    rw [← hu, ← List.getElem?_toArray]
  obtain ⟨v', w', hr, h2, h3, h4⟩ := run_append_own (P := Try.prog) w B 32 ty 58 i0 (.agg #[.int .i64 0, .string ⟨#[]⟩]) 2 24 Try.recs hi hz0 hz1 hz2 rfl (by decide) v L.length (recsV L) h ⟨k, 0, none⟩ 1 1 (recsV [r]) rfl hnews (recsV_ones _) (by unfold maxLen; omega) (by omega) hB
  refine ⟨v', w', hr, ?_, h3, ?_⟩
  · unfold Recs7
    rw [List.length_append, recsV_app]
    exact h2
  · have key : ownEx v' = ownEx v ∨ ownEx v' = [w.heap.size] := by
      rcases h.2 with ⟨rfl, h0⟩ | ⟨kk, c, cur, rfl, hBk, hc, hle, hcm, hcs, htk⟩
      · have := run_append_nil (P := Try.prog) w 32 ty 58 i0 _ Try.recs hi hz0 ⟨k, 0, none⟩ 1 1 (recsV [r]) (by rw [hz1]; rfl) hnews (by omega) (by omega) (by rw [hz2]; omega)
        rw [this] at hr
        injection hr with e1 e2
        subst e1
        exact .inr rfl
      · by_cases hroom : L.length + 1 ≤ c
        · have := run_append_room (P := Try.prog) w 32 ty 58 i0 Try.recs hi kk L.length c cur hc ⟨k, 0, none⟩ 1 1 (recsV [r]) (by rw [hz1]; rfl) hnews (recsV_ones _) hroom (by rw [hz1, hcs, recsV_len]; simp only [List.length_cons, List.length_nil]; omega)
          rw [this] at hr
          injection hr with e1 e2
          subst e1
          exact .inl rfl
        · have := run_append_grow (P := Try.prog) w 32 ty 58 i0 _ Try.recs hi hz0 ⟨kk, 0, none⟩ L.length c (recsV L) (by rw [hz1, recsV_len]) (fun j u hu => World.ownsRow.cells h (g := kk) rfl j u hu) ⟨k, 0, none⟩ 1 1 (recsV [r]) (by rw [hz1]; rfl) hnews (by omega) (by omega) (growslice_fits (by omega) (by rw [hz2]; omega))
          rw [this] at hr
          injection hr with e1 e2
          subst e1
          exact .inr rfl
    intro x hx
    rcases key with e | e
    · exact .inl (by rw [← e]; exact hx)
    · rw [e] at hx
      exact .inr (by rw [List.mem_singleton.1 hx]; exact Nat.le_refl _)
theorem Recs7.blk {w : World} {B : Nat} {v : Value} {L : List Rec} (h : Recs7 w B v L) : (v = .slice none 0 0 ∧ L = []) ∨ ∃ k cap cur, v = .slice (some ⟨k, 0, none⟩) L.length cap ∧ B ≤ k ∧ Blk w k 58 cur ∧ L.length ≤ cap := by
  rcases h.2 with ⟨e, h0⟩ | ⟨k, cap, cur, e, h1, h2, h3, h4, h5, h6⟩
  · exact .inl ⟨e, List.eq_nil_of_length_eq_zero h0⟩
  · exact .inr ⟨k, cap, cur, e, h1, h2, h3⟩
theorem Recs7.own {w : World} {B : Nat} {v : Value} {L : List Rec} (h : Recs7 w B v L) : ∀ k ∈ ownEx v, B ≤ k ∧ k < w.heap.size ∧ ∃ cur, Blk w k 58 cur := by
  intro k hk
  rcases h.blk with ⟨rfl, _⟩ | ⟨k', cap, cur, rfl, hB, hb, _⟩
  · simp [ownEx, Value.ownBlock] at hk
  · simp [ownEx, Value.ownBlock] at hk
    subst hk
    exact ⟨hB, hb.lt, cur, hb⟩
theorem Recs7.but {w w' : World} {B : Nat} {v : Value} {L : List Rec} {ex : List Nat} (h : Recs7 w B v L) (hb : But ex w w') (hx : ∀ k ∈ ownEx v, k ∉ ex) : Recs7 w' B v L := by
  refine ⟨h.1, ?_⟩
  rcases h.2 with h0 | ⟨k, cap, cur, e, h1, h2, h3⟩
  · exact .inl h0
  · have hk : k < w.heap.size := Blk.lt (t := 58) (cs := cur) h2
    exact .inr ⟨k, cap, cur, e, h1, (hb.block k hk (hx k (by rw [e]; simp [ownEx, Value.ownBlock]))).trans h2, h3⟩
theorem Recs7.below {w w' : World} {B : Nat} {v : Value} {L : List Rec} (h : Recs7 w B v L) (hb : Below w.heap.size w w') : Recs7 w' B v L := h.but (But.of_below hb []) (fun _ _ => by simp)
theorem Recs7.base {w : World} {B B' : Nat} {v : Value} {L : List Rec} (h : Recs7 w B v L) (hB : B' ≤ B) : Recs7 w B' v L := by
  refine ⟨h.1, ?_⟩
  rcases h.2 with h0 | ⟨k, cap, cur, e, h1, h2⟩
  · exact .inl h0
  · exact .inr ⟨k, cap, cur, e, Nat.le_trans hB h1, h2⟩
theorem Recs7.slab {w w' : World} {B g d n : Nat} {s : Sst} {v : Value} {L : List Rec} (h : Recs7 w B v L) (hs : SlS w g d n s) (hb : But [g, d] w w') : Recs7 w' B v L := by
  refine h.but hb fun k hk hm => ?_
  obtain ⟨_, _, cur, hc⟩ := h.own k hk
  simp only [List.mem_cons, List.not_mem_nil, or_false] at hm
  rcases hm with rfl | rfl
  · have := hs.1.symm.trans hc
    simp at this
  · have := hs.2.1.symm.trans hc
    simp at this
theorem Recs7.roll {w w' : World} {B N p g d n c u : Nat} {a z : Int} {A : Option Addr} {L M : List Rec} {s : Sst} {v : Value} (h : Recs7 w B v M) (hR : RlG w N p g a z A c L u) (hs : SlS w g d n s) (hsep : ∀ k ∈ ownEx v, k ∉ rowOf A) (hb : But (p :: g :: d :: rowOf A) w w') : Recs7 w' B v M := by
  refine h.but hb fun k hk hm => ?_
  obtain ⟨_, _, cur, hc⟩ := h.own k hk
  simp only [List.mem_cons] at hm
  rcases hm with rfl | rfl | rfl | hm
  · have := hR.1.symm.trans hc
    simp at this
  · have := hs.1.symm.trans hc
    simp at this
  · have := hs.2.1.symm.trans hc
    simp at this
  · exact hsep k hk hm
theorem rl_recs {w w' : World} {B N p g c u : Nat} {a z : Int} {A : Option Addr} {L M : List Rec} {v : Value} (h : RlG w N p g a z A c L u) (he : Recs7 w B v M) (hsep : ∀ k ∈ ownEx v, k ∉ rowOf A) (hb : But (ownEx v) w w') : RlG w' N p g a z A c L u := by
  refine h.but hb ?_ fun j hj hm => hsep j hm hj
  intro hm
  obtain ⟨_, _, cur, hc⟩ := he.own _ hm
  have := h.1.symm.trans hc
  simp at this
theorem sl_recs {w w' : World} {B g d n : Nat} {s : Sst} {v : Value} {M : List Rec} (h : SlS w g d n s) (he : Recs7 w B v M) (hb : But (ownEx v) w w') : SlS w' g d n s := by
  refine h.but hb ?_ ?_
  · intro hm
    obtain ⟨_, _, cur, hk⟩ := he.own _ hm
    have := h.1.symm.trans hk
    simp at this
  · intro hm
    obtain ⟨_, _, cur, hk⟩ := he.own _ hm
    have := h.2.1.symm.trans hk
    simp at this
/-- Between two rounds. -/
structure TF (w0 w : World) (N p g d : Nat) (s : Sst) (A : Option Addr) (c : Nat) (L M : List Rec) (u : Nat) (v : Value) : Prop where
  rl : RlG w N p g ((100 : Nat) : Int) ((500 : Nat) : Int) A c L u
  sl : SlS w g d 700 s
  had : Recs7 w w0.heap.size v M
  sep : ∀ k ∈ ownEx v, k ∉ rowOf A
  bel : Below w0.heap.size w0 w
  base : w0.heap.size ≤ N ∧ N ≤ w.heap.size
  pp : w0.heap.size ≤ p
theorem TF.below {w0 w w' : World} {N p g d c u : Nat} {s : Sst} {A : Option Addr} {L M : List Rec} {v : Value} (h : TF w0 w N p g d s A c L M u v) (hb : Below w.heap.size w w') : TF w0 w' N p g d s A c L M u v :=
  ⟨h.rl.below hb, h.sl.below hb, h.had.below hb, h.sep, h.bel.trans (hb.mono h.bel.size), ⟨h.base.1, Nat.le_trans h.base.2 hb.size⟩, h.pp⟩
theorem append_g {w : World} {g d n : Nat} {s s' : Sst} {B p u z c : Nat} {a : Nat} {A : Option Addr} {L L' : List Rec} (u' : Nat) (e0 : Int) (q : Int) (t : List UInt8) (K : Int) (hA : apS s n (a : Int) z L u q t = (s', L', u', e0)) (h : RlG w B p g (a : Int) (z : Int) A c L u) (hs : SlS w g d n s) (ho : s.Ok n K) (hK : K ≤ 1000000000000000000) (hz : z ≤ 8192) (huz : u ≤ z) (hLu : L.length ≤ u) (ha : a ≤ 1000000)
    (hB : B ≤ w.heap.size) (h0 : 0 ≤ lastB L) (hq : q ≤ 9223372036854775807) :
    Calls Try.prog 11 #[.pointer (some ⟨p, 0, none⟩), .int .i64 q, .string ⟨t.toArray⟩] w fun e w' => e = .returned (.int .i64 e0) ∧ ∃ A' c', RlG w' B p g (a : Int) (z : Int) A' c' L' u' ∧ SlS w' g d n s' ∧ But (p :: g :: d :: rowOf A) w w' ∧ New7 w A A' :=
  (append_f q t K w h hs ho hK hz huz hLu (by omega) (by omega) hB h0 hq _ hA)
/-- An Append that is done. -/
theorem TF.append {w0 w w' : World} {N p g d c c' u u' : Nat} {s s' : Sst} {A A' : Option Addr} {L L' M : List Rec} {v : Value} (h : TF w0 w N p g d s A c L M u v) (hG : w0.heap.size ≤ g ∧ w0.heap.size ≤ d) (hr : RlG w' N p g ((100 : Nat) : Int) ((500 : Nat) : Int) A' c' L' u') (hs : SlS w' g d 700 s') (hb : But (p :: g :: d :: rowOf A) w w') (hn : New7 w A A') : TF w0 w' N p g d s' A' c' L' M u' v :=
  ⟨hr, hs, h.had.roll h.rl h.sl h.sep hb, fun k hk hm => by
    rcases hn k hm with h1 | h1
    · exact h.sep k hk h1
    · have := (h.had.own k hk).2.1
      omega, but_new h.bel hb h.bel.size (rl_ex h.rl h.base.1 h.pp hG.1 hG.2), ⟨h.base.1, Nat.le_trans h.base.2 hb.size⟩, h.pp⟩
/-- One more in had. -/
theorem TF.more {w0 w w' : World} {N p g d c u : Nat} {s : Sst} {A : Option Addr} {L M M' : List Rec} {v v' : Value} (h : TF w0 w N p g d s A c L M u v) (hv : Recs7 w' w0.heap.size v' M') (hg : w.grownBy w' v.ownBlock) (hn : ∀ x ∈ ownEx v', x ∈ ownEx v ∨ w.heap.size ≤ x) : TF w0 w' N p g d s A c L M' u v' := by
  have hb := but_grown hg
  exact ⟨rl_recs h.rl h.had h.sep hb, sl_recs h.sl h.had hb, hv, fun k hk hm => by
    rcases hn k hk with h1 | h1
    · exact h.sep k h1 hm
    · have := (h.rl.lt.2 k hm).1
      omega, but_new h.bel hb h.bel.size (fun k hk => (h.had.own k hk).1), ⟨h.base.1, Nat.le_trans h.base.2 hb.size⟩, h.pp⟩
/-- Open, whatever it answers. -/
theorem openF_v {w : World} {g d n : Nat} {s s' : Sst} {R : Option (List Rec × Nat)} {e0 : Int} (a z : Int) (K : Int) (hO : opS s n a z = (s', R, e0)) (h : SlS w g d n s) (ho : s.Ok n K) (hK : K ≤ 1000000000000000000) (ha : a ≤ 9223372036854775807) :
    Calls Try.prog 9 #[.pointer (some ⟨g, 0, none⟩), .int .i64 a, .int .i64 z] w fun e w' => ∃ v, e = .returned (.tuple #[v, .int .i64 e0]) ∧ SlS w' g d n s' ∧ But [g, d] w w' := by
  refine (open_c a z K w h ho hK ha _ hO).mono ?_
  rintro e w' ⟨h1, h2, h3⟩
  cases R with
  | none => exact ⟨_, h3, h1, h2⟩
  | some q =>
    obtain ⟨p, A, c, h4, h5, h6⟩ := h3
    exact ⟨_, h4, h1, h2⟩
/-- While openings fall. -/
def FallIn (w : World) (g d n9 : Nat) (L M : List Rec) (u : Nat) (v : Value) (K0 : Int) (i : Value) (wr : World) : Prop :=
  ∃ (j : Nat) (s : Sst), j ≤ n9 ∧ i = .int .i64 (j : Int) ∧ Inv7 s L u ∧ s.Ok 700 (K0 + 259 * (j : Int)) ∧ SlS wr g d 700 s ∧ Recs7 wr w.heap.size v M ∧ Below w.heap.size w wr
theorem Recs7.rcs {w : World} {B : Nat} {v : Value} {L : List Rec} (h : Recs7 w B v L) : ∃ A c, v = .slice A L.length c ∧ Rcs w A L := by
  rcases h.blk with ⟨rfl, rfl⟩ | ⟨k, cap, cur, rfl, _⟩
  · exact ⟨none, 0, rfl, fun i hi => by cases hi⟩
  · exact ⟨_, _, rfl, rcs_own h⟩
theorem under_rec : Try.prog.underlying 58 = some (.struct (Try.prog.fieldsOf 58)) := by kernel_rfl
theorem stood_rec : Try.prog.stoodInHeld 58 = false := by kernel_rfl
theorem fields_rec : (Try.prog.fieldsOf 58).toList.map (fun f => (f.type, f.offset)) = [(3, 0), (9, 1)] := by kernel_rfl
theorem names_rec : (Try.prog.fieldsOf 58).toList.all (fun f => f.name != "_") = true := by kernel_rfl
theorem part_q (a : Int) (t : ByteArray) (w : World) : (part 3 #[.int .i64 a, .string t] 0).run Try.prog w = .ok (.int .i64 a) w := by kernel_rfl
theorem part_b (a : Int) (t : ByteArray) (w : World) : (part 9 #[.int .i64 a, .string t] 1).run Try.prog w = .ok (.string t) w := by kernel_rfl
/-- A record is as itself. -/
@[go_sem] theorem run_eqRec (a : Int) (t : ByteArray) (w : World) : (Op.equalIn 10000 58 (.agg #[.int .i64 a, .string t]) (.agg #[.int .i64 a, .string t])).run Try.prog w = .ok true w := by
  rw [run_equalIn_struct w 9999 _ _ _ under_rec stood_rec]
  have h := fields_rec
  have hn := names_rec
  generalize (Try.prog.fieldsOf 58).toList = fs at h hn ⊢
  rcases fs with _ | ⟨f, _ | ⟨g, _ | ⟨k, fs⟩⟩⟩ <;> simp at h hn
  obtain ⟨⟨f1, f2⟩, g1, g2⟩ := h
  have e1 := run_equalIn_int (P := Try.prog) w 9998 3 .i64 .i64 a a Try.underlying3
  have e2 := run_equalIn_string (P := Try.prog) w 9998 9 t t Try.underlying9
  simp [Op.eqFields, f1, f2, g1, g2, hn, Sem.run_bind, Sem.run_ite, part_q, part_b, Result.andThen_ok, e1, e2]
/-- What is behind the records is 0. -/
theorem St.tail {s : Sst} {n a z u m : Nat} {L : List Rec} {K : Int} (h : St s n a z u L K) (hm : m = z - u) : (s.l.drop (a + u)).take m = List.replicate m 0 := by
  subst hm
  have h1 : (reg s.l a z).drop u = (s.l.drop (a + u)).take (z - u) := by unfold reg; rw [List.drop_take, List.drop_drop]
  rw [← h1, h.rg, ← h.len, List.drop_left' rfl, h.len]
def FallRel (w : World) (g d n : Nat) (x10 x12 x13 : Value) (wr : World) : Prop :=
  ∃ (v : Value) (k : Nat) (s : Sst) (N p : Nat) (A : Option Addr) (c : Nat) (L : List Rec) (u : Nat), v = x12 ∧ k ≤ n ∧ k ≤ 8 ∧ x10 = .pointer (some ⟨p, 0, none⟩) ∧ x13 = .int .i64 (k : Int) ∧ L.length ≤ k ∧ lastB L < 1 + 3 * (k : Int) ∧ u ≤ 60 * k ∧ St s 700 100 500 u L (73000000000000000 * (k : Int) + 10) ∧ TF w wr N p g d s A c L L u v
set_option maxRecDepth 100000 in
set_option maxHeartbeats 12800000 in
theorem rollFalls_c (A0 : Option Addr) (n c0 : Nat) (ts : List (List UInt8)) (x y : Int) (A9 : Option Addr) (n9 c9 : Nat) (xs : List Int) (w : World) (hv : Vs w w.heap.size A0 n c0 (ts.map strV)) (hn : n ≤ 281474976710656) (hv9 : Vs w w.heap.size A9 n9 c9 (xs.map (Value.int .i64))) (hn9 : n9 ≤ 281474976710656) :
    Calls Try.prog 5 #[.slice A0 n c0, .int .i64 x, .int .i64 y, .slice A9 n9 c9] w fun e w' => e = .returned (.bool true) ∧ Below w.heap.size w w' := by
  have HV := Lib.hid hv
  have HV9 := Lib.hid hv9
  clear hv hv9
  have hS0 : St ⟨List.replicate 700 0, 0, false, false, 0, 0⟩ 700 100 500 0 [] 0 := St.new rfl (ok_new 700) (by omega) (by omega) rfl
  have HO0 := Lib.hid hS0.open_
  have HS0 := Lib.hid hS0
  clear hS0
  go_enter Try.func5, Try.ntmps5
  go_wp2_with fail
  (with_reducible refine (newS_e 700 700 _ (by omega)).mono ?_)
  rintro e w1 ⟨g, d, rfl, hs, hg, hd, hb⟩
  have HS := Lib.hid hs
  have HB := Lib.hid hb
  have HG := Lib.hid (show w.heap.size ≤ g ∧ w.heap.size ≤ d from ⟨hg, hd⟩)
  clear hs hg hd hb
  go_wp2_with fail
  (with_reducible refine (open_v 100 500 [] 0 0 0 HO0.out HS.out HS0.out.ok (by omega) 100 500 rfl rfl (by omega)).mono ?_)
  rintro e w2 ⟨p, A, c, rfl, hp, hr, hs, hb⟩
  obtain ⟨N, hN⟩ : ∃ N, w1.heap.size = N := ⟨_, rfl⟩
  rw [hN] at hr hp
  have HT2 := Lib.hid (show TF w w2 N p g d ⟨List.replicate 700 0, 0, false, false, 0, 0⟩ A c [] [] 0 (.slice none 0 0) from
    ⟨hr, hs, World.ownsRow_nil _ _ _ _, (fun k hk => by simp [ownEx, Value.ownBlock] at hk), but_new HB.out hb HB.out.size (by simp; exact HG.out), by rw [← hN]; exact ⟨HB.out.size, hb.size⟩, by have := HB.out.size; omega⟩)
  clear hp hr hs hb HS HB hN
  go_wp2_with fail
  (with_reducible refine (known7_c _).mono ?_)
  rintro e w3 ⟨rfl, hb⟩
  have HT3 := Lib.hid (HT2.out.below hb)
  clear hb HT2
  go_wp2_with fail
  (with_reducible refine (pickB x 8 _ (by omega) (by omega)).mono ?_)
  rintro e w' ⟨q1, hq1, rfl, rfl⟩
  go_wp2_with fail
  (with_reducible refine (pickB y 70 _ (by omega) (by omega)).mono ?_)
  rintro e w' ⟨q2, hq2, rfl, rfl⟩
  go_wp2_with fail
  (with_reducible refine (cutS_w (q1 : Int) (q2 : Int) HT3.out.sl).mono ?_)
  rintro e w4 ⟨rfl, hs, hb⟩
  obtain ⟨s1, hs1⟩ : ∃ s1, cutS ⟨List.replicate 700 0, 0, false, false, 0, 0⟩ (q1 : Int) (q2 : Int) = s1 := ⟨_, rfl⟩
  have HS1 := Lib.hid (show St s1 700 100 500 0 [] 10 by rw [← hs1]; exact (HS0.out.cut (q1 : Int) (q2 : Int) (by omega)).more (by omega))
  rw [hs1] at hs
  have hb2 : But [g, d] w3 w4 := hb.more (by simp)
  have HT4 := Lib.hid (show TF w w4 N p g d s1 A c [] [] 0 (.slice none 0 0) from
    ⟨HT3.out.rl.slab (HT3.out.rl.far HT3.out.sl.1 (by decide) (by decide)) (HT3.out.rl.far HT3.out.sl.2.1 (by decide) (by decide)) hb2, hs, World.ownsRow_nil _ _ _ _, (fun k hk => by simp [ownEx, Value.ownBlock] at hk), but_new HT3.out.bel hb2 HT3.out.bel.size (by simp; exact HG.out), ⟨HT3.out.base.1, Nat.le_trans HT3.out.base.2 hb.size⟩, HT3.out.pp⟩)
  clear hs hb hb2 HT3 hs1 HS0 HO0 hq1 hq2
  go_wp2_with fail
  go_loopw [10, 12, 13] (fun a b i wr => FallRel w g d n a b i wr) (fun _ _ i _ => n - (intOf i).toNat)
  case atStart => exact ⟨_, 0, s1, N, p, A, c, [], 0, rfl, by omega, by omega, rfl, rfl, by simp, by decide, by omega, HS1.out, HT4.out⟩
  case round =>
    clear HT4 HS1 A c
    obtain ⟨v, k, s, N, p, A, c, L, u, rfl, hk, hk8, rfl, rfl, hLk, hlk, hu, hst, htf⟩ := hrel
    have HS := Lib.hid hst
    have HT := Lib.hid htf
    clear hst htf
    by_cases hkn : k < n ∧ k < 8
    · as_aux_lemma =>
      obtain ⟨hkn, hk7'⟩ := hkn
      have hkn' : (k : Int) < (n : Int) := by omega
      have hk88 : (k : Int) < 8 := by omega
      have hk0 : (0 : Int) ≤ (k : Int) := by omega
      obtain ⟨ga, oa, rfl, ca⟩ := HV.out.str HT.out.bel hkn
      obtain ⟨t, ht⟩ : ∃ t, ts.getD k [] = t := ⟨_, rfl⟩
      rw [ht] at ca
      obtain ⟨c5, w5, hcv, hbs, hb5⟩ := conv_bytes t wr
      have HBs := Lib.hid hbs
      have HT5 := Lib.hid (HT.out.below hb5)
      obtain ⟨qq, hqq⟩ : ∃ qq : Int, 1 + 3 * (k : Int) = qq := ⟨_, rfl⟩
      have hqq2 : 1 ≤ qq ∧ qq ≤ 30 := by omega
      have hlq : lastB L < qq := by omega
      have HQQ := Lib.hid hqq
      clear hbs hb5 HT ht
      go_wp2_with fail
      clear hcv ca
      (with_reducible refine (few_k _ t.length c5 t 40 40 (min t.length 40) _ HBs.out rfl rfl (by omega)).mono ?_)
      rintro e w6 ⟨g6, c6, rfl, ho, hb⟩
      obtain ⟨b, hb0⟩ : ∃ b, t.take 40 = b := ⟨_, rfl⟩
      rw [hb0] at ho
      have hbl : b.length ≤ 40 := by rw [← hb0, List.length_take]; omega
      have hq := str_run ho.bs
      have HT6 := Lib.hid (HT5.out.below hb)
      clear ho hb hb0 HT5 HBs
      have hfl : (frameB u ⟨qq, b⟩).length = 20 + b.length := frame_len _ _ (by simp only; omega)
      obtain ⟨s', L', u', e1, hA, hl', _, hok, hcase⟩ := apS_reg HS.out.ok.1 HS.out.fit HS.out.live HS.out.rg HS.out.recs HS.out.len (q := qq) (t := b) hlq (by omega) (by omega) (by rw [hfl]; omega)
      have HOk' := Lib.hid (show s'.Ok 700 _ by
        have := apS_ok (a := ((100 : Nat) : Int)) (z := 500) (L := L) (u := u) (q := qq) (t := b) HS.out.ok
        rw [hA] at this
        exact this)
      have HA := Lib.hid hA
      have HL' := Lib.hid hl'
      have HRk := Lib.hid hok
      have HC := Lib.hid hcase
      have hu500 : u ≤ 500 := by omega
      clear hA hl' hok hcase
      go_wp2_with fail
      clear hq
      have HK := Lib.hid (Blk.new w6 58 #[.int .i64 qq, .string ⟨b.toArray⟩])
      have HTW := Lib.hid (HT6.out.below ((Below.refl _ _).alloc (Nat.le_refl _) (.cells #[.int .i64 qq, .string ⟨b.toArray⟩] 58)))
      have HNX := Lib.hid (show w6.heap.size ∉ p :: g :: d :: rowOf A by
        have h1 := HT6.out.rl.lt
        have h2 := HT6.out.sl.lt
        intro hm
        simp only [List.mem_cons] at hm
        rcases hm with hm | hm | hm | hm
        · omega
        · omega
        · omega
        · have := (h1.2 _ hm).1; omega)
      obtain ⟨gx, hgx⟩ : ∃ gx, w6.heap.size = gx := ⟨_, rfl⟩
      obtain ⟨W, hW⟩ : ∃ W, w6.alloc (.cells #[.int .i64 qq, .string ⟨b.toArray⟩] 58) = W := ⟨_, rfl⟩
      rw [hgx] at HK HNX
      rw [hW] at HK HTW
      rw [hW, hgx]
      clear hW hgx HT6
      (with_reducible refine (append_g u' e1 qq b _ HA.out HTW.out.rl HTW.out.sl HS.out.ok (by omega) (by omega) (by omega) (by have := HS.out.count; omega) (by omega) HTW.out.base.2 HS.out.last (by omega)).mono ?_)
      rintro e w7 ⟨rfl, A7, c7, hr, hs, hb, hnw⟩
      have HT7 := Lib.hid (HTW.out.append HG.out hr hs hb hnw)
      have HK7 := Lib.hid (HK.out.but hb HNX.out)
      clear hr hs hb hnw HTW HK
      have hba : Below w7.heap.size w7 (w7.alloc (.cells #[.int .i64 qq, .string ⟨b.toArray⟩] 58)) := (Below.refl _ _).alloc (Nat.le_refl _) _
      obtain ⟨v1, w9, hrun, hv1, hgr, hnew⟩ := Recs7.app (HT7.out.had.below hba) ⟨qq, b⟩ (Blk.new w7 58 #[.int .i64 qq, .string ⟨b.toArray⟩]) (by omega) (by have := HT7.out.bel.size; have := hba.size; omega) 32
      have HT9 := Lib.hid ((HT7.out.below hba).more hv1 hgr hnew)
      have HRun := Lib.hid hrun
      obtain ⟨lx, y0, y1⟩ := blk2 HK7.out
      clear hba hv1 hgr hnew hrun HT7 HK7
      rcases HC.out with ⟨rfl, rfl, rfl, hd', _, hr', hlen', hrec'⟩ | ⟨rfl, eL, eu, _, _, jj, hjj, hr'⟩
      · as_aux_lemma =>
        have HSn := Lib.hid (show St s' 700 100 500 (u + (frameB u ⟨qq, b⟩).length) (L ++ [⟨qq, b⟩]) (73000000000000000 * (k : Int) + 11) from ⟨HOk'.out.more (by omega), HS.out.fit, HS.out.small, hd', hr', hrec', hlen', by rw [hfl]; omega⟩)
        have hu2 : u + (frameB u ⟨qq, b⟩).length ≤ 60 * (k + 1) := by rw [hfl]; omega
        have hk3 : qq < 1 + 3 * ((k + 1 : Nat) : Int) := by have := HQQ.out; omega
        clear hd' hr' hlen' hrec' hfl HC HA
        go_wp2_with (at_builtin; refine wpList_appRun rfl (.tmp 81) (.tmp 83) rfl rfl rfl HRun.out ?_)
        go_roundw
        case rel => exact ⟨v1, k + 1, s', N, p, A7, c7, L ++ [⟨qq, b⟩], _, rfl, by omega, by omega, rfl, by go_num, by simp; omega, by rw [lastB_add]; exact hk3, hu2, HSn.out.more (by omega), HT9.out⟩
        case measure => simp [intOf]; omega
      · as_aux_lemma =>
        have eL := eL.symm
        have eu := eu.symm
        subst eL eu
        obtain ⟨L2, u2, hL2, hinv, hu2⟩ := torn_inv HS.out HL'.out HRk.out hlq (by rw [hfl]; omega) hjj hr'
        have hu22 : u2 ≤ 60 * (k + 1) := by rw [hfl] at hu2; omega
        have hk3 : qq < 1 + 3 * ((k + 1 : Nat) : Int) := by have := HQQ.out; omega
        have HI := Lib.hid hinv
        have HL2 := Lib.hid hL2
        clear hjj hr' hfl HC HA hu2 hinv hL2
        go_wp2_with (at_builtin; refine wpList_appRun rfl (.tmp 81) (.tmp 83) rfl rfl rfl HRun.out ?_)
        go_loopw [91] (fun i wr => FallIn w g d n9 L2 (L ++ [⟨qq, b⟩]) u2 v1 (73000000000000000 * (k : Int) + 20) i wr) (fun i _ => n9 - (intOf i).toNat)
        case atStart => exact ⟨0, s', by omega, rfl, HI.out, HOk'.out.more (by omega), HT9.out.sl, HT9.out.had, HT9.out.bel⟩
        case round =>
          clear HT9 HI HOk'
          obtain ⟨j, s2, hj, rfl, hinv, hok2, hsl, hhad, hbel⟩ := hrel
          have HI := Lib.hid hinv
          have HO2 := Lib.hid hok2
          have HS2 := Lib.hid hsl
          have HH2 := Lib.hid hhad
          have HB2 := Lib.hid hbel
          clear hinv hok2 hsl hhad hbel
          by_cases hjn : j < n9
          · as_aux_lemma =>
            have hjn' : (j : Int) < (n9 : Int) := by omega
            have hj0 : (0 : Int) ≤ (j : Int) := by omega
            obtain ⟨gb, ob, rfl, ca⟩ := HV9.out.int HB2.out hjn
            obtain ⟨y9, hy9⟩ : ∃ y, xs.getD j 0 = y := ⟨_, rfl⟩
            rw [hy9] at ca
            clear hy9
            go_wp2_with fail
            clear ca
            (with_reducible refine (revS_w HS2.out).mono ?_)
            rintro e w6 ⟨rfl, hs, hb⟩
            have HS6 := Lib.hid hs
            have hb2 : But [g, d] _ w6 := hb.more (by simp)
            have HH6 := Lib.hid (HH2.out.slab HS2.out hb2)
            have HB6 := Lib.hid (but_new HB2.out hb2 HB2.out.size (by simp; exact HG.out))
            clear hs hb hb2 HS2 HH2 HB2
            go_wp2_with fail
            (with_reducible refine (pickB y9 3 _ (by omega) (by omega)).mono ?_)
            rintro e w' ⟨q1, hq1, rfl, rfl⟩
            go_wp2_with fail
            (with_reducible refine (pickB _ 33 _ (by omega) (by omega)).mono ?_)
            rintro e w' ⟨q2, hq2, rfl, rfl⟩
            go_wp2_with fail
            (with_reducible refine (cutS_w (q1 : Int) (q2 : Int) HS6.out).mono ?_)
            rintro e w7 ⟨rfl, hs, hb⟩
            have HS7 := Lib.hid hs
            have hb2 : But [g, d] w6 w7 := hb.more (by simp)
            have HH7 := Lib.hid (HH6.out.slab HS6.out hb2)
            have HB7 := Lib.hid (but_new HB6.out hb2 HB6.out.size (by simp; exact HG.out))
            have HO7 := Lib.hid (cutS_ok (revS_ok HO2.out) (q2 : Int) (show (q1 : Int) ≤ 9223372036854775807 by omega))
            clear hs hb hb2 HS6 HH6 HB6 hq1 hq2
            obtain ⟨s5, R, e0, hO, hinv5⟩ := HI.out.step (q1 : Int) (q2 : Int)
            have HO5 := Lib.hid (show s5.Ok 700 _ by
              have := opS_ok (a := ((100 : Nat) : Int)) (z := ((500 : Nat) : Int)) HO7.out
              rw [hO] at this
              exact this)
            have HO := Lib.hid hO
            have HI5 := Lib.hid hinv5
            clear hO hinv5 HI
            go_wp2_with fail
            (with_reducible refine (openF_v 100 500 _ HO.out HS7.out HO7.out (by omega) (by omega)).mono ?_)
            rintro e w8 ⟨v8, rfl, hs, hb⟩
            have HS8 := Lib.hid hs
            have HH8 := Lib.hid (HH7.out.slab HS7.out hb)
            have HB8 := Lib.hid (but_new HB7.out hb HB7.out.size (by simp; exact HG.out))
            clear hs hb HS7 HH7 HB7
            go_wp2
            go_roundw
            case rel => exact ⟨j + 1, s5, by omega, by go_num, HI5.out, HO5.out.more (by omega), HS8.out, HH8.out, HB8.out⟩
            case measure => simp [intOf]; omega
          · as_aux_lemma =>
            have hjn' : ¬ (j : Int) < (n9 : Int) := by omega
            obtain ⟨s5, hO, hst5⟩ := HI.out.last HO2.out
            have HO := Lib.hid hO
            have HS5 := Lib.hid hst5
            have hle5 := hst5.le
            have HOr := Lib.hid (revS_ok HO2.out)
            clear hO hst5 HI
            go_wp2_with fail
            (with_reducible refine (revS_w HS2.out).mono ?_)
            rintro e w6 ⟨rfl, hs, hb⟩
            have HS6 := Lib.hid hs
            have hb2 : But [g, d] _ w6 := hb.more (by simp)
            have HH6 := Lib.hid (HH2.out.slab HS2.out hb2)
            have HB6 := Lib.hid (but_new HB2.out hb2 HB2.out.size (by simp; exact HG.out))
            clear hs hb hb2 HS2 HH2 HB2
            go_wp2_with fail
            (with_reducible refine (open_v 100 500 L2 u2 _ 0 HO.out HS6.out HOr.out (by omega) 100 500 rfl rfl (by omega)).mono ?_)
            rintro e w7 ⟨p5, A5, c5, rfl, hp, hr, hs, hb⟩
            obtain ⟨N5, hN5⟩ : ∃ N5, w6.heap.size = N5 := ⟨_, rfl⟩
            rw [hN5] at hr hp
            have HR7 := Lib.hid hr
            have HS7 := Lib.hid hs
            have HH7 := Lib.hid (HH6.out.slab HS6.out hb)
            have HB7 := Lib.hid (but_new HB6.out hb HB6.out.size (by simp; exact HG.out))
            have HN5 := Lib.hid (show w.heap.size ≤ N5 ∧ N5 ≤ w7.heap.size ∧ N5 ≤ p5 by rw [← hN5]; exact ⟨HB6.out.size, hb.size, by omega⟩)
            clear hp hr hs hb HS6 HH6 HB6 hN5
            have hcn := HS5.out.count
            go_wp2_with fail
            (with_reducible refine (records_o L2.length HR7.out rfl (by omega)).mono ?_)
            rintro e w8 ⟨v2, rfl, hrv, hb⟩
            have HT8 := Lib.hid (show TF w w8 N5 p5 g d s5 A5 c5 L2 L2 u2 v2 from
              ⟨HR7.out.below hb, HS7.out.below hb, hrv.base HB7.out.size, (fun x hx hm => by
                have h1 := (HR7.out.lt.2 x hm).1
                have h2 := (hrv.own x hx).1
                omega), HB7.out.trans (hb.mono HB7.out.size), ⟨HN5.out.1, Nat.le_trans HN5.out.2.1 hb.size⟩, Nat.le_trans HN5.out.1 HN5.out.2.2⟩)
            have HH8 := Lib.hid (HH7.out.below hb)
            clear hrv hb HR7 HS7 HH7 HB7 HN5
            obtain ⟨Ah, ch, rfl, hrh⟩ := HH8.out.rcs
            obtain ⟨Al, cl, rfl, hrl⟩ := HT8.out.had.rcs
            have HRH := Lib.hid hrh
            have HRL := Lib.hid hrl
            clear hrh hrl
            obtain ⟨M, hM⟩ : ∃ M, L ++ [⟨qq, b⟩] = M := ⟨_, rfl⟩
            have hMl : M.length = L.length + 1 := by rw [← hM]; simp
            have hlen2 : L2.length = L.length ∨ L2.length = L.length + 1 := by rcases HL2.out with e | e <;> rw [e] <;> simp
            rw [hM] at HH8 HRH ⊢
            obtain ⟨l2, hl2⟩ : ∃ l2, L2.length = l2 := ⟨_, rfl⟩
            obtain ⟨m, hm⟩ : ∃ m, M.length = m := ⟨_, rfl⟩
            have hlt : ¬ (l2 : Int) < (m : Int) - 1 := by omega
            have hgt : ¬ (m : Int) < (l2 : Int) := by omega
            have hl2k : l2 ≤ k + 1 := by omega
            have hel : ∀ i (h1 : i < L2.length) (h2 : i < M.length), L2[i] = M[i] := by
              subst hM
              intro i h1 h2
              rcases HL2.out with rfl | rfl
              · rw [List.getElem_append_left h1]
              · rfl
            have hk3' : lastB L2 < 1 + 3 * ((k + 1 : Nat) : Int) := by
              rcases HL2.out with rfl | rfl
              · omega
              · rw [lastB_add]; exact hk3
            have HEL := Lib.hid hel
            have HLl := Lib.hid hl2
            have HMl := Lib.hid hm
            rw [hl2] at HT8
            rw [hl2, hm]
            clear hel hM hMl hl2 hm hlen2 HL2 HH8 hcn
            go_wp2_with fail
            go_loopw [137] (fun i wr => ∃ j : Nat, j ≤ l2 ∧ i = .int .i64 (j : Int) ∧ Below w8.heap.size w8 wr) (fun i _ => l2 - (intOf i).toNat)
            case atStart => exact ⟨0, by omega, rfl, Below.refl _ _⟩
            case round =>
              obtain ⟨j4, hj4, rfl, hb4⟩ := hrel
              by_cases hjl : j4 < l2
              · as_aux_lemma =>
                have hjl' : (j4 : Int) < (l2 : Int) := by omega
                have hjm' : (j4 : Int) < (m : Int) := by omega
                have hj0 : (0 : Int) ≤ (j4 : Int) := by omega
                have hjL : j4 < L2.length := by rw [HLl.out]; exact hjl
                have hjM : j4 < M.length := by rw [HMl.out]; omega
                obtain ⟨kl, rfl, _, z0, z1⟩ := (HRL.out.below hb4) j4 hjL
                obtain ⟨kh, rfl, _, h0, h1⟩ := (HRH.out.below hb4) j4 hjM
                rw [HEL.out j4 hjL hjM] at z0 z1
                obtain ⟨rq, hrq⟩ : ∃ rq, M[j4].seq = rq := ⟨_, rfl⟩
                obtain ⟨rb, hrb⟩ : ∃ rb, M[j4].body = rb := ⟨_, rfl⟩
                rw [hrq] at z0 h0
                rw [hrb] at z1 h1
                have HB4 := Lib.hid hb4
                have HH := Lib.hid (And.intro h0 h1)
                clear hrq hrb hb4 h0 h1
                go_upto_region 33 with fail
                obtain ⟨g4, hg4⟩ : ∃ g4, wr.heap.size = g4 := ⟨_, rfl⟩
                obtain ⟨W4, hW4⟩ : ∃ W4, wr.alloc (.cells #[.int .i64 rq, .string ⟨rb.toArray⟩] 58) = W4 := ⟨_, rfl⟩
                have hb4 : Below wr.heap.size wr W4 := by rw [← hW4]; exact (Below.refl _ _).alloc (Nat.le_refl _) _
                have HK4 := Lib.hid (show Blk W4.drew g4 58 #[.int .i64 rq, .string ⟨rb.toArray⟩] by rw [← hW4, ← hg4]; exact Blk.new _ _ _)
                have HH4 := Lib.hid (show W4.drew.cell? ⟨kh, j4 * 2, none⟩ = some (.int .i64 rq) ∧ W4.drew.cell? ⟨kh, j4 * 2 + 1, none⟩ = some (.string ⟨rb.toArray⟩) from ⟨cel_below HH.out.1 hb4.drew, cel_below HH.out.2 hb4.drew⟩)
                have HBz := Lib.hid (HB4.out.trans (hb4.mono HB4.out.size))
                rw [hW4, hg4]
                clear hW4 hg4 hb4 z0 z1 HH
                refine wp_region_ord (S := fun V => V = W4.drew) (by kernel_rfl) ?_
                refine ord_take (v := ?_) (i := 0) (fuel := 5) (by simp; rfl) (by kernel_rfl) (by kernel_rfl) (by kernel_rfl) (Or.inl ⟨by rfl, fun w' hSw => ?_⟩) rfl ?_
                rotate_left
                · dsimp only at hSw
                  subst hSw
                  obtain ⟨lx, y0, y1⟩ := blk2 HK4.out
                  go_simp
                  all_goals with_reducible rfl
                simp only [Act.put, List.setIfInBounds_toArray, List.set_cons_zero, List.set_cons_succ]
                refine ord_take (v := ?_) (i := 1) (fuel := 4) (by simp; rfl) (by kernel_rfl) (by kernel_rfl) (by kernel_rfl) (Or.inl ⟨by rfl, fun w' hSw => ?_⟩) rfl ?_
                rotate_left
                · go_simp
                  all_goals with_reducible rfl
                simp only [Act.put, List.setIfInBounds_toArray, List.set_cons_zero, List.set_cons_succ]
                refine ord_take (v := ?_) (i := 2) (fuel := 3) (by simp; rfl) (by kernel_rfl) (by kernel_rfl) (by kernel_rfl) (Or.inl ⟨by rfl, fun w' hSw => ?_⟩) rfl ?_
                rotate_left
                · go_simp
                  all_goals with_reducible rfl
                simp only [Act.put, List.setIfInBounds_toArray, List.set_cons_zero, List.set_cons_succ]
                refine ord_take (v := ?_) (i := 3) (fuel := 2) (by simp; rfl) (by kernel_rfl) (by kernel_rfl) (by kernel_rfl) (Or.inl ⟨by rfl, fun w' hSw => ?_⟩) rfl ?_
                rotate_left
                · go_simp
                  all_goals with_reducible rfl
                simp only [Act.put, List.setIfInBounds_toArray, List.set_cons_zero, List.set_cons_succ]
                refine ord_take (v := ?_) (i := 4) (fuel := 1) (by simp; rfl) (by kernel_rfl) (by kernel_rfl) (by kernel_rfl) (Or.inl ⟨by rfl, fun w' hSw => ?_⟩) rfl ?_
                rotate_left
                · dsimp only at hSw
                  subst hSw
                  obtain ⟨y0, y1⟩ := HH4.out
                  go_simp
                  all_goals with_reducible rfl
                simp only [Act.put, List.setIfInBounds_toArray, List.set_cons_zero, List.set_cons_succ]
                refine ord_take (v := ?_) (i := 5) (fuel := 0) (by simp; rfl) (by kernel_rfl) (by kernel_rfl) (by kernel_rfl) (Or.inl ⟨by rfl, fun w' hSw => ?_⟩) rfl ?_
                rotate_left
                · go_simp
                  all_goals with_reducible rfl
                simp only [Act.put, List.setIfInBounds_toArray, List.set_cons_zero, List.set_cons_succ]
                refine ord_done (by kernel_rfl) ?_ _
                go_wp2
                go_roundw
                case rel => exact ⟨j4 + 1, by omega, by go_num, (show Below w8.heap.size w8 W4.drew from ⟨HBz.out.os, HBz.out.tape, HBz.out.output, HBz.out.size, HBz.out.block⟩)⟩
                case measure => simp [intOf]; omega
              · as_aux_lemma =>
                have hjl' : ¬ (j4 : Int) < (l2 : Int) := by omega
                have HT9 := Lib.hid (HT8.out.below hb4)
                obtain ⟨r1, hr1⟩ : ∃ r1 : Int, ((500 : Nat) : Int) - (u2 : Int) = r1 := ⟨_, rfl⟩
                obtain ⟨a2, ha2⟩ : ∃ a2, 100 + u2 = a2 := ⟨_, rfl⟩
                obtain ⟨m5, hm5⟩ : ∃ m5, m5 = 500 - u2 := ⟨_, rfl⟩
                have hr2 : (600 : Int) - r1 = (a2 : Int) := by omega
                have hr3 : r1 = (m5 : Int) := by omega
                subst hr3
                have hrow0 := HS5.out.tail hm5
                rw [ha2] at hrow0
                have HR0 := Lib.hid hrow0
                have ha3 : a2 + m5 ≤ 700 := by omega
                have hm6 : m5 ≤ 500 := by omega
                have HR1 := Lib.hid hr1
                clear hb4 HT8 hrow0 hr1 ha2 hm5
                go_wp2_with fail
                (with_reducible refine (left_c (m5 : Int) HT9.out.rl HR1.out (by omega) (by omega) (by omega)).mono ?_)
                rintro e wa ⟨rfl, hb⟩
                have HTa := Lib.hid (HT9.out.below hb)
                clear hb HT9
                go_wp2_with fail
                (with_reducible refine (left_c (m5 : Int) HTa.out.rl HR1.out (by omega) (by omega) (by omega)).mono ?_)
                rintro e wb ⟨rfl, hb⟩
                have HTb := Lib.hid (HTa.out.below hb)
                clear hb HTa
                go_wp2_with fail
                (with_reducible refine (readS_yes a2 m5 (a2 : Int) (m5 : Int) HTb.out.sl rfl rfl HS5.out.live ha3).mono ?_)
                rintro e wd ⟨rfl, hrow, hb⟩
                rw [HR0.out] at hrow
                have HTd := Lib.hid (HTb.out.below hb)
                have HRow := Lib.hid hrow
                obtain ⟨g5, hg5⟩ : ∃ g5, wb.heap.size = g5 := ⟨_, rfl⟩
                rw [hg5] at HRow ⊢
                clear hb hrow hg5 HTb hr2
                go_upto_region 39 with fail
                have HBd := Lib.hid (show Below wd.heap.size wd wd.drew from (Below.refl _ _).drew)
                refine wp_region_ord (S := fun V => Below wd.heap.size wd V) (by kernel_rfl) ?_
                refine ord_take (v := ?_) (i := 0) (fuel := 10) (by simp; rfl) (by kernel_rfl) (by kernel_rfl) (by kernel_rfl) (Or.inl ⟨by rfl, fun w' hSw => ?_⟩) HBd.out ?_
                rotate_left
                · go_simp
                  all_goals with_reducible rfl
                simp only [Act.put, List.setIfInBounds_toArray, List.set_cons_zero, List.set_cons_succ]
                refine ord_take (v := ?_) (i := 1) (fuel := 9) (by simp; rfl) (by kernel_rfl) (by kernel_rfl) (by kernel_rfl) (Or.inl ⟨by rfl, fun w' hSw => ?_⟩) HBd.out ?_
                rotate_left
                · go_simp
                  all_goals with_reducible rfl
                simp only [Act.put, List.setIfInBounds_toArray, List.set_cons_zero, List.set_cons_succ]
                refine ord_take (v := ?_) (i := 2) (fuel := 8) (by simp; rfl) (by kernel_rfl) (by kernel_rfl) (by kernel_rfl) (Or.inl ⟨by rfl, fun w' hSw => ?_⟩) HBd.out ?_
                rotate_left
                · go_simp
                  all_goals with_reducible rfl
                simp only [Act.put, List.setIfInBounds_toArray, List.set_cons_zero, List.set_cons_succ]
                refine ord_take (v := ?_) (i := 3) (fuel := 7) (by simp; rfl) (by kernel_rfl) (by kernel_rfl) (by kernel_rfl) (Or.inl ⟨by rfl, fun w' hSw => ?_⟩) HBd.out ?_
                rotate_left
                · go_simp
                  all_goals with_reducible rfl
                simp only [Act.put, List.setIfInBounds_toArray, List.set_cons_zero, List.set_cons_succ]
                refine ord_take (v := ?_) (i := 4) (fuel := 6) (by simp; rfl) (by kernel_rfl) (by kernel_rfl) (by kernel_rfl) (Or.inl ⟨by rfl, fun w' hSw => ?_⟩) HBd.out ?_
                rotate_left
                · dsimp only at hSw
                  have hq := str_run ((HRow.out.bs (n := m5) (by simp)).below hSw)
                  go_simp
                  all_goals with_reducible rfl
                simp only [Act.put, List.setIfInBounds_toArray, List.set_cons_zero, List.set_cons_succ]
                refine ord_take (v := ?_) (i := 5) (fuel := 5) (by simp; rfl) (by kernel_rfl) (by kernel_rfl) (by kernel_rfl) (Or.inl ⟨by rfl, fun w' hSw => ?_⟩) HBd.out ?_
                rotate_left
                · go_simp
                  all_goals with_reducible rfl
                simp only [Act.put, List.setIfInBounds_toArray, List.set_cons_zero, List.set_cons_succ]
                refine ord_call (f := 16) (args := #[.pointer (some ⟨p5, 0, none⟩)]) (w1 := wd.drew) (i := 6) (fuel := 4) (by simp; rfl) (by kernel_rfl) (by rfl) ?_ ?_
                · go_simp
                  all_goals with_reducible rfl
                (with_reducible refine (left_c (m5 : Int) HTd.out.rl.drew HR1.out (by omega) (by omega) (by omega)).mono ?_)
                rintro e we ⟨rfl, hb⟩
                have HBe := Lib.hid (HBd.out.trans (hb.mono HBd.out.size))
                clear hb
                refine ⟨_, rfl, HBe.out, ?_⟩
                simp only [Act.put, List.setIfInBounds_toArray, List.set_cons_zero, List.set_cons_succ]
                have hmk := run_make_row' (P := Try.prog) 30 5 (.int .u8 0) 1 Try.u42 Try.i8 rfl .i64 .i64 m5 (by omega) (by omega) we
                obtain ⟨k1, hk1⟩ : ∃ k1, we.heap.size = k1 := ⟨_, rfl⟩
                obtain ⟨V1, hV1⟩ : ∃ V, we.alloc (.cells (madeCells #[Value.int .u8 0] m5) 5) = V := ⟨_, rfl⟩
                have hA := (Below.refl we.heap.size we).alloc (Nat.le_refl _) (.cells (madeCells #[Value.int .u8 0] m5) 5)
                have hZ := row_zeros we m5
                rw [hV1, hk1] at hmk hZ
                rw [hV1] at hA
                have HBv := Lib.hid (HBe.out.trans (hA.mono HBe.out.size))
                have HZ := Lib.hid (hZ.bs (n := m5) (by simp))
                clear hZ hA hV1
                refine ord_only (v := .slice (some ⟨k1, 0, none⟩) m5 m5) (w' := V1) (i := 7) (fuel := 3) (by simp; rfl) (by kernel_rfl) (by rfl) ?_ HBv.out ?_
                · go_simp
                  all_goals with_reducible rfl
                simp only [Act.put, List.setIfInBounds_toArray, List.set_cons_zero, List.set_cons_succ]
                clear hmk
                have hq := str_run HZ.out
                refine ord_only (v := ?_) (w' := V1) (i := 8) (fuel := 2) (by simp; rfl) (by kernel_rfl) (by rfl) ?_ HBv.out ?_
                rotate_left
                · go_simp
                  all_goals with_reducible rfl
                simp only [Act.put, List.setIfInBounds_toArray, List.set_cons_zero, List.set_cons_succ]
                clear hq
                refine ord_take (v := ?_) (i := 9) (fuel := 1) (by simp; rfl) (by kernel_rfl) (by kernel_rfl) (by kernel_rfl) (Or.inl ⟨by rfl, fun w' hSw => ?_⟩) HBv.out ?_
                rotate_left
                · go_simp
                  all_goals with_reducible rfl
                simp only [Act.put, List.setIfInBounds_toArray, List.set_cons_zero, List.set_cons_succ]
                refine ord_take (v := ?_) (i := 10) (fuel := 0) (by simp; rfl) (by kernel_rfl) (by kernel_rfl) (by kernel_rfl) (Or.inl ⟨by rfl, fun w' hSw => ?_⟩) HBv.out ?_
                rotate_left
                · go_simp
                  all_goals with_reducible rfl
                simp only [Act.put, List.setIfInBounds_toArray, List.set_cons_zero, List.set_cons_succ]
                refine ord_done (by kernel_rfl) ?_ _
                have HTf := Lib.hid (HTd.out.below HBv.out)
                clear HTd HBd HBe HBv HRow HZ
                go_wp2
                go_roundw
                case rel => exact ⟨.slice Al l2 cl, k + 1, s5, N5, p5, A5, c5, L2, u2, rfl, by omega, by omega, rfl, by go_num, by rw [HLl.out]; exact hl2k, hk3', hu22, HS5.out.more (by omega), HTf.out⟩
                case measure => simp [intOf]; omega
    · rcases (show ¬ k < n ∨ (k < n ∧ ¬ k < 8) by omega) with h1 | ⟨h1, h2⟩
      · have hkn' : ¬ (k : Int) < (n : Int) := by omega
        clear h1 hkn
        as_aux_lemma =>
        have hle := HS.out.le
        have hcn := HS.out.count
        obtain ⟨Ah, ch, rfl, hrh⟩ := HT.out.had.rcs
        have HO := Lib.hid HS.out.open_
        go_wp2_with fail
        (with_reducible refine (open_v 100 500 L u _ 0 HO.out HT.out.sl HS.out.ok (by omega) 100 500 rfl rfl (by omega)).mono ?_)
        rintro e w5 ⟨p5, A5, c5, rfl, hp, hr, hs, hb⟩
        have HR5 := Lib.hid hr
        have HQ5 := Lib.hid (HT.out.rl.slab (HT.out.rl.far HT.out.sl.1 (by decide) (by decide)) (HT.out.rl.far HT.out.sl.2.1 (by decide) (by decide)) hb)
        have HH5 := Lib.hid (HT.out.had.slab HT.out.sl hb)
        have HB5 := Lib.hid (but_new HT.out.bel hb HT.out.bel.size (by simp; exact HG.out))
        clear hp hr hs hb HT hrh HO
        go_wp2_with fail
        (with_reducible refine (records_c L.length HR5.out rfl (by omega)).mono ?_)
        rintro e w6 ⟨A6, c6, rfl, _, hb⟩
        have HR6 := Lib.hid (HR5.out.below hb)
        have HQ6 := Lib.hid (HQ5.out.below hb)
        have HH6 := Lib.hid (HH5.out.below hb)
        have HB6 := Lib.hid (HB5.out.trans (hb.mono HB5.out.size))
        clear hb HR5 HQ5 HH5 HB5
        go_wp2_with fail
        (with_reducible refine (records_c L.length HR6.out rfl (by omega)).mono ?_)
        rintro e w7 ⟨A7, c7, rfl, hrl, hb⟩
        have HR7 := Lib.hid (HR6.out.below hb)
        have HQ7 := Lib.hid (HQ6.out.below hb)
        have HB7 := Lib.hid (HB6.out.trans (hb.mono HB6.out.size))
        have HRL := Lib.hid hrl
        have hh7 := HH6.out.below hb
        obtain ⟨Ah2, ch2, ea, hrh⟩ := hh7.rcs
        injection ea with ea1 ea2 ea3
        subst ea1
        have HRH := Lib.hid hrh
        clear hb hrl hh7 hrh HR6 HQ6 HH6 HB6
        obtain ⟨l2, hl2⟩ : ∃ l2, L.length = l2 := ⟨_, rfl⟩
        have HLl := Lib.hid hl2
        have hl2b : l2 ≤ 8 := by omega
        rw [hl2]
        clear hl2 hcn hLk
        go_wp2_with fail
        go_loopw [203] (fun i wr => ∃ j : Nat, j ≤ l2 ∧ i = .int .i64 (j : Int) ∧ Below w7.heap.size w7 wr) (fun i _ => l2 - (intOf i).toNat)
        case atStart => exact ⟨0, by omega, rfl, Below.refl _ _⟩
        case round =>
          obtain ⟨j4, hj4, rfl, hb4⟩ := hrel
          by_cases hjl : j4 < l2
          · as_aux_lemma =>
            have hjl' : (j4 : Int) < (l2 : Int) := by omega
            have hj0 : (0 : Int) ≤ (j4 : Int) := by omega
            have hjL : j4 < L.length := by rw [HLl.out]; exact hjl
            obtain ⟨kl, rfl, _, z0, z1⟩ := (HRL.out.below hb4) j4 hjL
            obtain ⟨kh, rfl, _, h0, h1⟩ := (HRH.out.below hb4) j4 hjL
            obtain ⟨rq, hrq⟩ : ∃ rq, L[j4].seq = rq := ⟨_, rfl⟩
            obtain ⟨rb, hrb⟩ : ∃ rb, L[j4].body = rb := ⟨_, rfl⟩
            rw [hrq] at z0 h0
            rw [hrb] at z1 h1
            have HB4 := Lib.hid hb4
            have HH := Lib.hid (And.intro h0 h1)
            clear hrq hrb hb4 h0 h1
            go_upto_region 50 with fail
            obtain ⟨g4, hg4⟩ : ∃ g4, wr.heap.size = g4 := ⟨_, rfl⟩
            obtain ⟨W4, hW4⟩ : ∃ W4, wr.alloc (.cells #[.int .i64 rq, .string ⟨rb.toArray⟩] 58) = W4 := ⟨_, rfl⟩
            have hb4 : Below wr.heap.size wr W4 := by rw [← hW4]; exact (Below.refl _ _).alloc (Nat.le_refl _) _
            have HK4 := Lib.hid (show Blk W4.drew g4 58 #[.int .i64 rq, .string ⟨rb.toArray⟩] by rw [← hW4, ← hg4]; exact Blk.new _ _ _)
            have HH4 := Lib.hid (show W4.drew.cell? ⟨kh, j4 * 2, none⟩ = some (.int .i64 rq) ∧ W4.drew.cell? ⟨kh, j4 * 2 + 1, none⟩ = some (.string ⟨rb.toArray⟩) from ⟨cel_below HH.out.1 hb4.drew, cel_below HH.out.2 hb4.drew⟩)
            have HBz := Lib.hid (HB4.out.trans (hb4.mono HB4.out.size))
            rw [hW4, hg4]
            clear hW4 hg4 hb4 z0 z1 HH
            refine wp_region_ord (S := fun V => V = W4.drew) (by kernel_rfl) ?_
            refine ord_take (v := ?_) (i := 0) (fuel := 5) (by simp; rfl) (by kernel_rfl) (by kernel_rfl) (by kernel_rfl) (Or.inl ⟨by rfl, fun w' hSw => ?_⟩) rfl ?_
            rotate_left
            · dsimp only at hSw
              subst hSw
              obtain ⟨lx, y0, y1⟩ := blk2 HK4.out
              go_simp
              all_goals with_reducible rfl
            simp only [Act.put, List.setIfInBounds_toArray, List.set_cons_zero, List.set_cons_succ]
            refine ord_take (v := ?_) (i := 1) (fuel := 4) (by simp; rfl) (by kernel_rfl) (by kernel_rfl) (by kernel_rfl) (Or.inl ⟨by rfl, fun w' hSw => ?_⟩) rfl ?_
            rotate_left
            · go_simp
              all_goals with_reducible rfl
            simp only [Act.put, List.setIfInBounds_toArray, List.set_cons_zero, List.set_cons_succ]
            refine ord_take (v := ?_) (i := 2) (fuel := 3) (by simp; rfl) (by kernel_rfl) (by kernel_rfl) (by kernel_rfl) (Or.inl ⟨by rfl, fun w' hSw => ?_⟩) rfl ?_
            rotate_left
            · go_simp
              all_goals with_reducible rfl
            simp only [Act.put, List.setIfInBounds_toArray, List.set_cons_zero, List.set_cons_succ]
            refine ord_take (v := ?_) (i := 3) (fuel := 2) (by simp; rfl) (by kernel_rfl) (by kernel_rfl) (by kernel_rfl) (Or.inl ⟨by rfl, fun w' hSw => ?_⟩) rfl ?_
            rotate_left
            · go_simp
              all_goals with_reducible rfl
            simp only [Act.put, List.setIfInBounds_toArray, List.set_cons_zero, List.set_cons_succ]
            refine ord_take (v := ?_) (i := 4) (fuel := 1) (by simp; rfl) (by kernel_rfl) (by kernel_rfl) (by kernel_rfl) (Or.inl ⟨by rfl, fun w' hSw => ?_⟩) rfl ?_
            rotate_left
            · dsimp only at hSw
              subst hSw
              obtain ⟨y0, y1⟩ := HH4.out
              go_simp
              all_goals with_reducible rfl
            simp only [Act.put, List.setIfInBounds_toArray, List.set_cons_zero, List.set_cons_succ]
            refine ord_take (v := ?_) (i := 5) (fuel := 0) (by simp; rfl) (by kernel_rfl) (by kernel_rfl) (by kernel_rfl) (Or.inl ⟨by rfl, fun w' hSw => ?_⟩) rfl ?_
            rotate_left
            · go_simp
              all_goals with_reducible rfl
            simp only [Act.put, List.setIfInBounds_toArray, List.set_cons_zero, List.set_cons_succ]
            refine ord_done (by kernel_rfl) ?_ _
            go_wp2
            go_roundw
            case rel => exact ⟨j4 + 1, by omega, by go_num, (show Below w7.heap.size w7 W4.drew from ⟨HBz.out.os, HBz.out.tape, HBz.out.output, HBz.out.size, HBz.out.block⟩)⟩
            case measure => simp [intOf]; omega
          · as_aux_lemma =>
            have hjl' : ¬ (j4 : Int) < (l2 : Int) := by omega
            have HR8 := Lib.hid (HR7.out.below hb4)
            have HQ8 := Lib.hid (HQ7.out.below hb4)
            have HB8 := Lib.hid (HB7.out.trans (hb4.mono HB7.out.size))
            clear hb4
            obtain ⟨r1, hr1⟩ : ∃ r1 : Int, ((500 : Nat) : Int) - (u : Int) = r1 := ⟨_, rfl⟩
            have HR1 := Lib.hid hr1
            clear hr1
            go_wp2_with fail
            (with_reducible refine (left_c r1 HR8.out HR1.out (by omega) (by omega) (by omega)).mono ?_)
            rintro e wa ⟨rfl, hb⟩
            have HQ9 := Lib.hid (HQ8.out.below hb)
            have HB9 := Lib.hid (HB8.out.trans (hb.mono HB8.out.size))
            clear hb HR8 HQ8 HB8
            go_wp2_with fail
            (with_reducible refine (left_c r1 HQ9.out HR1.out (by omega) (by omega) (by omega)).mono ?_)
            rintro e wb ⟨rfl, hb⟩
            have HB10 := Lib.hid (HB9.out.trans (hb.mono HB9.out.size))
            clear hb
            go_wp2
            go_ret
            exact ⟨rfl, HB10.out⟩
      · have hkn' : (k : Int) < (n : Int) := by omega
        have hk8' : ¬ (k : Int) < 8 := by omega
        clear h1 h2 hkn
        as_aux_lemma =>
        have hle := HS.out.le
        have hcn := HS.out.count
        obtain ⟨Ah, ch, rfl, hrh⟩ := HT.out.had.rcs
        have HO := Lib.hid HS.out.open_
        go_wp2_with fail
        (with_reducible refine (open_v 100 500 L u _ 0 HO.out HT.out.sl HS.out.ok (by omega) 100 500 rfl rfl (by omega)).mono ?_)
        rintro e w5 ⟨p5, A5, c5, rfl, hp, hr, hs, hb⟩
        have HR5 := Lib.hid hr
        have HQ5 := Lib.hid (HT.out.rl.slab (HT.out.rl.far HT.out.sl.1 (by decide) (by decide)) (HT.out.rl.far HT.out.sl.2.1 (by decide) (by decide)) hb)
        have HH5 := Lib.hid (HT.out.had.slab HT.out.sl hb)
        have HB5 := Lib.hid (but_new HT.out.bel hb HT.out.bel.size (by simp; exact HG.out))
        clear hp hr hs hb HT hrh HO
        go_wp2_with fail
        (with_reducible refine (records_c L.length HR5.out rfl (by omega)).mono ?_)
        rintro e w6 ⟨A6, c6, rfl, _, hb⟩
        have HR6 := Lib.hid (HR5.out.below hb)
        have HQ6 := Lib.hid (HQ5.out.below hb)
        have HH6 := Lib.hid (HH5.out.below hb)
        have HB6 := Lib.hid (HB5.out.trans (hb.mono HB5.out.size))
        clear hb HR5 HQ5 HH5 HB5
        go_wp2_with fail
        (with_reducible refine (records_c L.length HR6.out rfl (by omega)).mono ?_)
        rintro e w7 ⟨A7, c7, rfl, hrl, hb⟩
        have HR7 := Lib.hid (HR6.out.below hb)
        have HQ7 := Lib.hid (HQ6.out.below hb)
        have HB7 := Lib.hid (HB6.out.trans (hb.mono HB6.out.size))
        have HRL := Lib.hid hrl
        have hh7 := HH6.out.below hb
        obtain ⟨Ah2, ch2, ea, hrh⟩ := hh7.rcs
        injection ea with ea1 ea2 ea3
        subst ea1
        have HRH := Lib.hid hrh
        clear hb hrl hh7 hrh HR6 HQ6 HH6 HB6
        obtain ⟨l2, hl2⟩ : ∃ l2, L.length = l2 := ⟨_, rfl⟩
        have HLl := Lib.hid hl2
        have hl2b : l2 ≤ 8 := by omega
        rw [hl2]
        clear hl2 hcn hLk
        go_wp2_with fail
        go_loopw [203] (fun i wr => ∃ j : Nat, j ≤ l2 ∧ i = .int .i64 (j : Int) ∧ Below w7.heap.size w7 wr) (fun i _ => l2 - (intOf i).toNat)
        case atStart => exact ⟨0, by omega, rfl, Below.refl _ _⟩
        case round =>
          obtain ⟨j4, hj4, rfl, hb4⟩ := hrel
          by_cases hjl : j4 < l2
          · as_aux_lemma =>
            have hjl' : (j4 : Int) < (l2 : Int) := by omega
            have hj0 : (0 : Int) ≤ (j4 : Int) := by omega
            have hjL : j4 < L.length := by rw [HLl.out]; exact hjl
            obtain ⟨kl, rfl, _, z0, z1⟩ := (HRL.out.below hb4) j4 hjL
            obtain ⟨kh, rfl, _, h0, h1⟩ := (HRH.out.below hb4) j4 hjL
            obtain ⟨rq, hrq⟩ : ∃ rq, L[j4].seq = rq := ⟨_, rfl⟩
            obtain ⟨rb, hrb⟩ : ∃ rb, L[j4].body = rb := ⟨_, rfl⟩
            rw [hrq] at z0 h0
            rw [hrb] at z1 h1
            have HB4 := Lib.hid hb4
            have HH := Lib.hid (And.intro h0 h1)
            clear hrq hrb hb4 h0 h1
            go_upto_region 50 with fail
            obtain ⟨g4, hg4⟩ : ∃ g4, wr.heap.size = g4 := ⟨_, rfl⟩
            obtain ⟨W4, hW4⟩ : ∃ W4, wr.alloc (.cells #[.int .i64 rq, .string ⟨rb.toArray⟩] 58) = W4 := ⟨_, rfl⟩
            have hb4 : Below wr.heap.size wr W4 := by rw [← hW4]; exact (Below.refl _ _).alloc (Nat.le_refl _) _
            have HK4 := Lib.hid (show Blk W4.drew g4 58 #[.int .i64 rq, .string ⟨rb.toArray⟩] by rw [← hW4, ← hg4]; exact Blk.new _ _ _)
            have HH4 := Lib.hid (show W4.drew.cell? ⟨kh, j4 * 2, none⟩ = some (.int .i64 rq) ∧ W4.drew.cell? ⟨kh, j4 * 2 + 1, none⟩ = some (.string ⟨rb.toArray⟩) from ⟨cel_below HH.out.1 hb4.drew, cel_below HH.out.2 hb4.drew⟩)
            have HBz := Lib.hid (HB4.out.trans (hb4.mono HB4.out.size))
            rw [hW4, hg4]
            clear hW4 hg4 hb4 z0 z1 HH
            refine wp_region_ord (S := fun V => V = W4.drew) (by kernel_rfl) ?_
            refine ord_take (v := ?_) (i := 0) (fuel := 5) (by simp; rfl) (by kernel_rfl) (by kernel_rfl) (by kernel_rfl) (Or.inl ⟨by rfl, fun w' hSw => ?_⟩) rfl ?_
            rotate_left
            · dsimp only at hSw
              subst hSw
              obtain ⟨lx, y0, y1⟩ := blk2 HK4.out
              go_simp
              all_goals with_reducible rfl
            simp only [Act.put, List.setIfInBounds_toArray, List.set_cons_zero, List.set_cons_succ]
            refine ord_take (v := ?_) (i := 1) (fuel := 4) (by simp; rfl) (by kernel_rfl) (by kernel_rfl) (by kernel_rfl) (Or.inl ⟨by rfl, fun w' hSw => ?_⟩) rfl ?_
            rotate_left
            · go_simp
              all_goals with_reducible rfl
            simp only [Act.put, List.setIfInBounds_toArray, List.set_cons_zero, List.set_cons_succ]
            refine ord_take (v := ?_) (i := 2) (fuel := 3) (by simp; rfl) (by kernel_rfl) (by kernel_rfl) (by kernel_rfl) (Or.inl ⟨by rfl, fun w' hSw => ?_⟩) rfl ?_
            rotate_left
            · go_simp
              all_goals with_reducible rfl
            simp only [Act.put, List.setIfInBounds_toArray, List.set_cons_zero, List.set_cons_succ]
            refine ord_take (v := ?_) (i := 3) (fuel := 2) (by simp; rfl) (by kernel_rfl) (by kernel_rfl) (by kernel_rfl) (Or.inl ⟨by rfl, fun w' hSw => ?_⟩) rfl ?_
            rotate_left
            · go_simp
              all_goals with_reducible rfl
            simp only [Act.put, List.setIfInBounds_toArray, List.set_cons_zero, List.set_cons_succ]
            refine ord_take (v := ?_) (i := 4) (fuel := 1) (by simp; rfl) (by kernel_rfl) (by kernel_rfl) (by kernel_rfl) (Or.inl ⟨by rfl, fun w' hSw => ?_⟩) rfl ?_
            rotate_left
            · dsimp only at hSw
              subst hSw
              obtain ⟨y0, y1⟩ := HH4.out
              go_simp
              all_goals with_reducible rfl
            simp only [Act.put, List.setIfInBounds_toArray, List.set_cons_zero, List.set_cons_succ]
            refine ord_take (v := ?_) (i := 5) (fuel := 0) (by simp; rfl) (by kernel_rfl) (by kernel_rfl) (by kernel_rfl) (Or.inl ⟨by rfl, fun w' hSw => ?_⟩) rfl ?_
            rotate_left
            · go_simp
              all_goals with_reducible rfl
            simp only [Act.put, List.setIfInBounds_toArray, List.set_cons_zero, List.set_cons_succ]
            refine ord_done (by kernel_rfl) ?_ _
            go_wp2
            go_roundw
            case rel => exact ⟨j4 + 1, by omega, by go_num, (show Below w7.heap.size w7 W4.drew from ⟨HBz.out.os, HBz.out.tape, HBz.out.output, HBz.out.size, HBz.out.block⟩)⟩
            case measure => simp [intOf]; omega
          · as_aux_lemma =>
            have hjl' : ¬ (j4 : Int) < (l2 : Int) := by omega
            have HR8 := Lib.hid (HR7.out.below hb4)
            have HQ8 := Lib.hid (HQ7.out.below hb4)
            have HB8 := Lib.hid (HB7.out.trans (hb4.mono HB7.out.size))
            clear hb4
            obtain ⟨r1, hr1⟩ : ∃ r1 : Int, ((500 : Nat) : Int) - (u : Int) = r1 := ⟨_, rfl⟩
            have HR1 := Lib.hid hr1
            clear hr1
            go_wp2_with fail
            (with_reducible refine (left_c r1 HR8.out HR1.out (by omega) (by omega) (by omega)).mono ?_)
            rintro e wa ⟨rfl, hb⟩
            have HQ9 := Lib.hid (HQ8.out.below hb)
            have HB9 := Lib.hid (HB8.out.trans (hb.mono HB8.out.size))
            clear hb HR8 HQ8 HB8
            go_wp2_with fail
            (with_reducible refine (left_c r1 HQ9.out HR1.out (by omega) (by omega) (by omega)).mono ?_)
            rintro e wb ⟨rfl, hb⟩
            have HB10 := Lib.hid (HB9.out.trans (hb.mono HB9.out.size))
            clear hb
            go_wp2
            go_ret
            exact ⟨rfl, HB10.out⟩
end Go.Proofs.Ytkjckdndkljeeaa
