/- Package roll: RollTurns. -/
import Derived.Test.YtkjckdndkljeeaaRollV
import Derived.Test.YtkjckdndkljeeaaRollR
import Derived.Laws.Bits64b
namespace Go.Proofs.Ytkjckdndkljeeaa
open Go.RowKit
theorem xor_u8 (a b : Nat) (ha : a < 256) (hb : b < 256) : bits .xor .u8 (a : Int) (b : Int) = ((a ^^^ b : Nat) : Int) := by
  have hx : a ^^^ b < 2 ^ 8 := Nat.xor_lt_two_pow (by omega) (by omega)
  have h1 : (BitVec.ofInt 8 (a : Int)).toNat = a := by
    rw [BitVec.ofInt_natCast, BitVec.toNat_ofNat]; exact Nat.mod_eq_of_lt (by omega)
  have h2 : (BitVec.ofInt 8 (b : Int)).toNat = b := by
    rw [BitVec.ofInt_natCast, BitVec.toNat_ofNat]; exact Nat.mod_eq_of_lt (by omega)
  show IntKind.u8.wrap ((BitVec.ofInt 8 (a : Int) ^^^ BitVec.ofInt 8 (b : Int)).toNat : Int) = _
  rw [BitVec.toNat_xor, h1, h2]
  simp [IntKind.wrap, IntKind.bits, IntKind.signed]
  omega
theorem xor_new {a b : Nat} (ha : a < 256) (hb : b < 256) (h0 : b ≠ 0) : ∃ c : UInt8, bits .xor .u8 (a : Int) (b : Int) = (c.toNat : Int) ∧ c.toNat ≠ a := by
  have hx : a ^^^ b < 2 ^ 8 := Nat.xor_lt_two_pow (by omega) (by omega)
  refine ⟨UInt8.ofNat (a ^^^ b), ?_, ?_⟩
  · rw [xor_u8 a b ha hb, u8_of _ (by omega)]
  · rw [u8_of _ (by omega)]
    intro e
    apply h0
    have : a ^^^ b = a ^^^ 0 := by rw [e, Nat.xor_zero]
    exact xor_inj' this
/-- A roll's own blocks, over what is newer. -/
theorem keep_old {w w' : World} {N N2 p p2 g d n c c2 u u2 : Nat} {a z a2 z2 : Int} {A A2 : Option Addr} {L L2 : List Rec} {s : Sst} (h : RlG w N p g a z A c L u) (h2 : RlG w N2 p2 g a2 z2 A2 c2 L2 u2) (hs : SlS w g d n s) (hp : p < N2 ∧ ∀ j ∈ rowOf A, j < N2) (hp2 : N2 ≤ p2) (hb : But (p2 :: g :: d :: rowOf A2) w w') : RlG w' N p g a z A c L u := by
  have f1 := h.far hs.1 (by decide) (by decide)
  have f2 := h.far hs.2.1 (by decide) (by decide)
  simp only [List.mem_cons, not_or] at f1 f2
  have hr2 : ∀ k ∈ rowOf A2, N2 ≤ k := fun k hk => (h2.lt.2 k hk).2
  refine h.but hb ?_ fun j hj => ?_
  · intro hm
    simp only [List.mem_cons] at hm
    rcases hm with hm | hm | hm | hm
    · omega
    · exact f1.1 hm.symm
    · exact f2.1 hm.symm
    · have := hr2 _ hm; omega
  · have hjn := hp.2 j hj
    intro hm
    simp only [List.mem_cons] at hm
    rcases hm with hm | hm | hm | hm
    · omega
    · subst hm; exact f1.2 hj
    · subst hm; exact f2.2 hj
    · have := hr2 _ hm; omega
/-- Numbers, in a slice of our own. -/
def Ends (w : World) (B : Nat) (v : Value) (es : List Int) : Prop := w.ownsRow B 3 1 v es.length (es.map (Value.int .i64))
theorem Ends.blk {w : World} {B : Nat} {v : Value} {es : List Int} (h : Ends w B v es) : (v = .slice none 0 0 ∧ es = []) ∨ ∃ k cap cur, v = .slice (some ⟨k, 0, none⟩) es.length cap ∧ B ≤ k ∧ Blk w k 3 cur ∧ es.length ≤ cap ∧ cap ≤ maxLen := by
  rcases h.2 with ⟨e, h0⟩ | ⟨k, cap, cur, e, h1, h2, h3, h4, h5, h6⟩
  · exact .inl ⟨e, List.eq_nil_of_length_eq_zero h0⟩
  · exact .inr ⟨k, cap, cur, e, h1, h2, h3, h4⟩
theorem Ends.but {w w' : World} {B : Nat} {v : Value} {es : List Int} {ex : List Nat} (h : Ends w B v es) (hb : But ex w w') (hx : ∀ k cur, Blk w k 3 cur → k ∉ ex) : Ends w' B v es := by
  refine ⟨h.1, ?_⟩
  rcases h.2 with h0 | ⟨k, cap, cur, e, h1, h2, h3⟩
  · exact .inl h0
  · have hk : k < w.heap.size := Blk.lt (t := 3) (cs := cur) h2
    exact .inr ⟨k, cap, cur, e, h1, (hb.block k hk (hx k cur h2)).trans h2, h3⟩
theorem Ends.below {w w' : World} {B : Nat} {v : Value} {es : List Int} (h : Ends w B v es) (hb : Below w.heap.size w w') : Ends w' B v es := h.but (But.of_below hb []) (fun _ _ _ => by simp)
theorem Ends.slab {w w' : World} {B g d n : Nat} {s : Sst} {v : Value} {es : List Int} (h : Ends w B v es) (hs : SlS w g d n s) (hb : But [g, d] w w') : Ends w' B v es := by
  refine h.but hb fun k cur hk hm => ?_
  simp only [List.mem_cons, List.not_mem_nil, or_false] at hm
  rcases hm with rfl | rfl
  · have := hs.1.symm.trans hk
    simp at this
  · have := hs.2.1.symm.trans hk
    simp at this
theorem Ends.roll {w w' : World} {B N p g d n c u : Nat} {a z : Int} {A : Option Addr} {L : List Rec} {s : Sst} {v : Value} {es : List Int} (h : Ends w B v es) (hR : RlG w N p g a z A c L u) (hs : SlS w g d n s) (hb : But (p :: g :: d :: rowOf A) w w') : Ends w' B v es :=
  h.but hb fun k cur hk => ex_far hR hs.1 hs.2.1 hk (by decide) (by decide) (by decide) (.inl (by decide))
theorem Ends.cell {w : World} {B k c m : Nat} {es : List Int} (h : Ends w B (.slice (some ⟨k, 0, none⟩) m c) es) {i : Nat} (hi : i < es.length) : w.cell? ⟨k, i, none⟩ = some (.int .i64 (es.getD i 0)) := by
  have := h.cells (g := k) rfl i (.int .i64 (es.getD i 0)) (by rw [List.getElem?_map, List.getElem?_eq_getElem hi, List.getD_eq_getElem?_getD, List.getElem?_eq_getElem hi]; rfl)
  rw [Addr.add_lit, Nat.zero_add] at this
  exact this
/-- Where each record ends. -/
def endsOf (L : List Rec) : List Int := (List.range L.length).map fun i => ((catB 0 (L.take (i + 1))).length : Int)
theorem endsOf_len (L : List Rec) : (endsOf L).length = L.length := by simp [endsOf]
theorem endsOf_app (L : List Rec) (r : Rec) : endsOf (L ++ [r]) = endsOf L ++ [((catB 0 (L ++ [r])).length : Int)] := by
  unfold endsOf
  rw [List.length_append, List.length_singleton, List.range_succ, List.map_append, List.map_singleton]
  congr 1
  · refine List.map_congr_left fun i hi => ?_
    rw [List.mem_range] at hi
    rw [List.take_append_of_le_length (by omega)]
  · rw [List.take_of_length_le (by simp)]
theorem endsOf_get {L : List Rec} {i : Nat} (h : i < L.length) : (endsOf L).getD i 0 = ((catB 0 (L.take (i + 1))).length : Int) := by
  simp [endsOf, List.getD_eq_getElem?_getD, h]
theorem catB_take_le (L : List Rec) : ∀ (o i j : Nat), i ≤ j → (catB o (L.take i)).length ≤ (catB o (L.take j)).length := by
  induction L with
  | nil => intro o i j _; simp
  | cons r L ih =>
    intro o i j h
    cases i with
    | zero => simp [catB]
    | succ i =>
      cases j with
      | zero => omega
      | succ j =>
        simp only [List.take_succ_cons, catB, List.length_append]
        have := ih (o + (frameB o r).length) i j (by omega)
        omega
/-- While it appends. -/
structure TW (w0 w : World) (N p g d : Nat) (s : Sst) (A : Option Addr) (c : Nat) (L : List Rec) (u : Nat) (v : Value) (es : List Int) (K : Int) : Prop where
  rl : RlG w N p g ((0 : Nat) : Int) ((500 : Nat) : Int) A c L u
  sl : SlS w g d 1000 s
  st : St s 1000 0 500 u L K
  so : St s 1000 500 500 25 [⟨1, [111, 116, 104, 101, 114]⟩] K
  cut : s.cut = false
  en : Ends w w0.heap.size v es
  bel : Below w0.heap.size w0 w
  base : w0.heap.size ≤ N ∧ N ≤ w.heap.size
theorem TW.below {w0 w w' : World} {N p g d c u : Nat} {s : Sst} {A : Option Addr} {L : List Rec} {v : Value} {es : List Int} {K : Int} (h : TW w0 w N p g d s A c L u v es K) (hb : Below w.heap.size w w') : TW w0 w' N p g d s A c L u v es K :=
  ⟨h.rl.below hb, h.sl.below hb, h.st, h.so, h.cut, h.en.below hb, h.bel.trans (hb.mono h.bel.size), h.base.1, Nat.le_trans h.base.2 hb.size⟩
def TurnRel (w : World) (N p g d n : Nat) (v i : Value) (wr : World) : Prop :=
  ∃ (ev : Value) (k : Nat) (s : Sst) (A : Option Addr) (c : Nat) (L : List Rec) (u : Nat), ev = v ∧ k ≤ n ∧ k ≤ 7 ∧ i = .int .i64 (k : Int) ∧ L.length = k ∧ lastB L ≤ (k : Int) ∧ u ≤ 60 * k ∧ TW w wr N p g d s A c L u ev (endsOf L) ((k : Int) + 10)
def ownEx (v : Value) : List Nat := match v.ownBlock with
  | some k => [k]
  | none => []
theorem but_grown {w w' : World} {v : Value} (h : w.grownBy w' v.ownBlock) : But (ownEx v) w w' := by
  refine ⟨h.os, h.tape, h.output, h.size, fun k hk hx => h.block k hk fun e => hx ?_⟩
  unfold ownEx
  rw [← e]
  exact List.mem_singleton.2 rfl
theorem Ends.own {w : World} {B : Nat} {v : Value} {es : List Int} (h : Ends w B v es) : ∀ k ∈ ownEx v, B ≤ k ∧ ∃ cur, Blk w k 3 cur := by
  intro k hk
  rcases h.blk with ⟨rfl, _⟩ | ⟨k', cap, cur, rfl, hB, hb, _⟩
  · simp [ownEx, Value.ownBlock] at hk
  · simp [ownEx, Value.ownBlock] at hk
    subst hk
    exact ⟨hB, cur, hb⟩
theorem rl_ends {w w' : World} {B N p g c u : Nat} {a z : Int} {A : Option Addr} {L : List Rec} {v : Value} {es : List Int} (h : RlG w N p g a z A c L u) (he : Ends w B v es) (hb : But (ownEx v) w w') : RlG w' N p g a z A c L u := by
  refine h.but hb ?_ ?_
  · intro hm
    obtain ⟨_, cur, hk⟩ := he.own _ hm
    exact h.far hk (by decide) (by decide) List.mem_cons_self
  · intro j hj hm
    obtain ⟨_, cur, hk⟩ := he.own _ hm
    exact h.far hk (by decide) (by decide) (List.mem_cons_of_mem _ hj)
theorem sl_ends {w w' : World} {B g d n : Nat} {s : Sst} {v : Value} {es : List Int} (h : SlS w g d n s) (he : Ends w B v es) (hb : But (ownEx v) w w') : SlS w' g d n s := by
  refine h.but hb ?_ ?_
  · intro hm
    obtain ⟨_, cur, hk⟩ := he.own _ hm
    have := h.1.symm.trans hk
    simp at this
  · intro hm
    obtain ⟨_, cur, hk⟩ := he.own _ hm
    have := h.2.1.symm.trans hk
    simp at this
theorem TW.grown {w0 w w' : World} {N p g d c u : Nat} {s : Sst} {A : Option Addr} {L : List Rec} {v v' : Value} {es es' : List Int} {K : Int} (h : TW w0 w N p g d s A c L u v es K) (hb : But (ownEx v) w w') (he : Ends w' w0.heap.size v' es') : TW w0 w' N p g d s A c L u v' es' K :=
  ⟨rl_ends h.rl h.en hb, sl_ends h.sl h.en hb, h.st, h.so, h.cut, he, but_new h.bel hb h.bel.size (fun k hk => (h.en.own k hk).1), h.base.1, Nat.le_trans h.base.2 hb.size⟩
theorem info_int7 : (Try.prog.info? 3).map (fun i => (i.zero, i.size, i.bytes)) = some (some (.int .i64 0), 1, 8) := by kernel_rfl
/-- While it counts. -/
def CntRel (w9 : World) (L : List Rec) (j : Nat) (x17 x127 : Value) (wr : World) : Prop :=
  ∃ c i : Nat, c ≤ i ∧ i ≤ L.length ∧ x17 = .int .i64 (c : Int) ∧ x127 = .int .i64 (i : Int) ∧ (∀ t, t < c → (catB 0 (L.take (t + 1))).length ≤ j) ∧ (∀ t, c ≤ t → t < i → j < (catB 0 (L.take (t + 1))).length) ∧ Below w9.heap.size w9 wr
theorem row_one {w : World} {g : Nat} {a : UInt8} (h : Row w g [a]) : g < w.heap.size ∧ w.cell? ⟨g, 0, none⟩ = some (.int .u8 (a.toNat : Int)) := ⟨Blk.lt h, by simpa [Lib.byteCells] using Blk.cell h 0⟩
set_option maxRecDepth 100000 in
set_option maxHeartbeats 12800000 in
theorem rollTurns_c (A0 : Option Addr) (n c0 : Nat) (ts : List (List UInt8)) (x : Int) (y : Nat) (w : World) (hv : Vs w w.heap.size A0 n c0 (ts.map strV)) (hn : n ≤ 281474976710656) (hy : y < 256) :
    Calls Try.prog 6 #[.slice A0 n c0, .int .i64 x, .int .u8 (y : Int)] w fun e w' => e = .returned (.bool true) ∧ Below w.heap.size w w' := by
  have HV := Lib.hid hv
  clear hv
  have hS0 : St ⟨List.replicate 1000 0, 0, false, false, 0, 0⟩ 1000 0 500 0 [] 0 := St.new rfl (ok_new 1000) (by omega) (by omega) rfl
  have hT0 : St ⟨List.replicate 1000 0, 0, false, false, 0, 0⟩ 1000 500 500 0 [] 0 := St.new rfl (ok_new 1000) (by omega) (by omega) rfl
  have hfl : (frameB 0 ⟨1, [111, 116, 104, 101, 114]⟩).length = 25 := frame_len _ _ (by decide)
  obtain ⟨s1, hA, hT1, hc1, ho1⟩ := hT0.append (q := 1) (t := [111, 116, 104, 101, 114]) rfl (by decide) (by decide) (by decide) (by rw [hfl]; omega)
  rw [Nat.zero_add, hfl] at hA hT1
  rw [List.nil_append] at hA hT1
  have HS1 := Lib.hid (hS0.other hT1.ok hT1.live (ho1 0 500 (.inl (by omega))))
  have HO0 := Lib.hid hS0.open_
  have HO1 := Lib.hid hT0.open_
  have HA := Lib.hid hA
  have HT1 := Lib.hid hT1
  have HC1 := Lib.hid hc1
  have HK0 := Lib.hid (ok_new 1000)
  clear hS0 hT0 hA hT1 hc1 ho1 hfl
  go_enter Try.func6, Try.ntmps6
  go_wp2_with fail
  (with_reducible refine (newS_e 1000 1000 _ (by omega)).mono ?_)
  rintro e w1 ⟨g, d, rfl, hs, hg, hd, hb⟩
  have HS := Lib.hid hs
  have HB := Lib.hid hb
  have HG := Lib.hid (show w.heap.size ≤ g ∧ w.heap.size ≤ d from ⟨hg, hd⟩)
  clear hs hg hd hb
  go_wp2_with fail
  (with_reducible refine (open_v 0 500 [] 0 0 0 HO0.out HS.out HK0.out (by omega) 0 500 rfl rfl (by omega)).mono ?_)
  rintro e w2 ⟨p, A, c, rfl, hp, hr, hs, hb⟩
  obtain ⟨N, hN⟩ : ∃ N, w1.heap.size = N := ⟨_, rfl⟩
  rw [hN] at hr
  have HR2 := Lib.hid hr
  have HS2 := Lib.hid hs
  have HB2 := Lib.hid (but_new HB.out hb HB.out.size (by simp; exact HG.out))
  have HN := Lib.hid (show w.heap.size ≤ N ∧ N ≤ w2.heap.size ∧ N ≤ p by rw [← hN]; exact ⟨HB.out.size, hb.size, hp⟩)
  clear hp hr hs hb HS HB hN
  go_wp2_with fail
  (with_reducible refine (open_v 500 500 [] 0 0 0 HO1.out HS2.out HK0.out (by omega) 500 500 rfl rfl (by omega)).mono ?_)
  rintro e w3 ⟨p2, A2, c2, rfl, hp, hr, hs, hb⟩
  have HR3 := Lib.hid (HR2.out.slab (HR2.out.far HS2.out.1 (by decide) (by decide)) (HR2.out.far HS2.out.2.1 (by decide) (by decide)) hb)
  have HQ3 := Lib.hid hr
  have HS3 := Lib.hid hs
  have HB3 := Lib.hid (but_new HB2.out hb HB2.out.size (by simp; exact HG.out))
  have HP := Lib.hid (show w2.heap.size ≤ p2 ∧ w2.heap.size ≤ w3.heap.size ∧ p < w2.heap.size ∧ ∀ j ∈ rowOf A, j < w2.heap.size from ⟨hp, hb.size, HR2.out.lt.1, fun j hj => (HR2.out.lt.2 j hj).1⟩)
  clear hp hr hs hb HR2 HS2 HB2
  go_wp2_with fail
  (with_reducible refine (known7_c _).mono ?_)
  rintro e w4 ⟨rfl, hb⟩
  have HR4 := Lib.hid (HR3.out.below hb)
  have HQ4 := Lib.hid (HQ3.out.below hb)
  have HS4 := Lib.hid (HS3.out.below hb)
  have HB4 := Lib.hid (bel_tr HB3.out hb)
  have HZ4 := Lib.hid hb.size
  clear hb HR3 HQ3 HS3 HB3
  go_wp2_with fail
  (with_reducible refine (append_v 25 0 1 [111, 116, 104, 101, 114] 0 HA.out HQ4.out HS4.out HK0.out (by omega) (by omega) (by omega) (by decide) (by omega) (by have := HP.out.2.1; have := HZ4.out; omega) (by decide) (by omega)).mono ?_)
  rintro e w5 ⟨rfl, A5, c5, hr, hs, hb⟩
  have HW5 := Lib.hid (show TW w w5 N p g d s1 A c [] 0 (.slice none 0 0) (endsOf []) 10 from
    ⟨keep_old HR4.out HQ4.out HS4.out HP.out.2.2 HP.out.1 hb, hs, HS1.out.more (by omega), HT1.out.more (by omega), HC1.out, World.ownsRow_nil _ _ _ _, but_new HB4.out hb HB4.out.size (rl_ex HQ4.out (by have := HN.out; omega) (by have := HN.out; have := HP.out.1; omega) HG.out.1 HG.out.2), HN.out.1, by have := HN.out.2.1; have := HP.out.2.1; have := HZ4.out; have := hb.size; omega⟩)
  clear hr hs hb HR4 HQ4 HS4 HB4 HZ4 HA HS1 HT1 HC1 HO0 HO1 HK0 HP
  obtain ⟨i0, hi, hz0, hz1, hz2⟩ := info_parts info_int7
  go_wp2_with fail
  go_loopw [12, 13] (fun v i wr => TurnRel w N p g d n v i wr) (fun _ i _ => n - (intOf i).toNat)
  case atStart => exact ⟨_, 0, s1, A, c, [], 0, rfl, by omega, by omega, rfl, rfl, by decide, by omega, by simpa using HW5.out⟩
  case round =>
    clear HW5
    obtain ⟨v, k, s, A, c, L, u, rfl, hk, hk7, rfl, hLk, hlk, hu, htw⟩ := hrel
    have HT := Lib.hid htw
    clear htw
    by_cases hkn : k < n ∧ k < 7
    · as_aux_lemma =>
      obtain ⟨hkn, hk7'⟩ := hkn
      have hkn' : (k : Int) < (n : Int) := by omega
      have hk77 : (k : Int) < 7 := by omega
      have hk0 : (0 : Int) ≤ (k : Int) := by omega
      obtain ⟨ga, oa, rfl, ca⟩ := HV.out.str HT.out.bel hkn
      obtain ⟨t, ht⟩ : ∃ t, ts.getD k [] = t := ⟨_, rfl⟩
      rw [ht] at ca
      obtain ⟨c5, w5, hcv, hbs, hb5⟩ := conv_bytes t wr
      have HBs := Lib.hid hbs
      have HT5 := Lib.hid (HT.out.below hb5)
      clear hbs hb5 HT ht
      go_wp2_with fail
      clear hcv ca
      (with_reducible refine (few_k _ t.length c5 t 40 40 (min t.length 40) _ HBs.out rfl rfl (by omega)).mono ?_)
      rintro e w6 ⟨g6, c6, rfl, ho, hb⟩
      obtain ⟨b, hb0⟩ : ∃ b, t.take 40 = b := ⟨_, rfl⟩
      rw [hb0] at ho
      have hbl : b.length ≤ 40 := by rw [← hb0, List.length_take]; omega
      have hq := str_run ho.bs
      have HT6 := Lib.hid (HT5.out.below hb)
      clear ho hb hb0 HT5 HBs
      have hfl : (frameB u ⟨(k : Int) + 1, b⟩).length = 20 + b.length := frame_len _ _ (by simp only; omega)
      obtain ⟨s', hA, hS', hc', ho'⟩ := HT6.out.st.append HT6.out.cut (q := (k : Int) + 1) (t := b) (by omega) (by omega) (by omega) (by rw [hfl]; omega)
      obtain ⟨u', hu'⟩ : ∃ u', u + (frameB u ⟨(k : Int) + 1, b⟩).length = u' := ⟨_, rfl⟩
      rw [hu'] at hA hS'
      rw [hfl] at hu'
      have HA := Lib.hid hA
      have HS' := Lib.hid hS'
      have HO' := Lib.hid (HT6.out.so.other hS'.ok hS'.live (ho' 500 500 (.inr (by omega))))
      have HC' := Lib.hid hc'
      have HEL := Lib.hid hS'.len
      clear hA hS' hc' ho'
      go_wp2_with fail
      clear hq
      (with_reducible refine (append_v u' 0 ((k : Int) + 1) b _ HA.out HT6.out.rl HT6.out.sl HT6.out.st.ok (by omega) (by omega) (by omega) (by have := HT6.out.st.count; omega) (by omega) HT6.out.base.2 HT6.out.st.last (by omega)).mono ?_)
      rintro e w7 ⟨rfl, A7, c7, hr, hs, hb⟩
      have HT7 := Lib.hid (show TW w w7 N p g d s' A7 c7 (L ++ [⟨(k : Int) + 1, b⟩]) u' v (endsOf L) ((k : Int) + 11) from
        ⟨hr, hs, HS'.out.more (by omega), HO'.out.more (by omega), HC'.out, HT6.out.en.roll HT6.out.rl HT6.out.sl hb, but_new HT6.out.bel hb HT6.out.bel.size (rl_ex HT6.out.rl HT6.out.base.1 (by have := HN.out; omega) HG.out.1 HG.out.2), HT6.out.base.1, Nat.le_trans HT6.out.base.2 hb.size⟩)
      clear hr hs hb HT6 HA HS' HO' HC'
      obtain ⟨r1, hr1⟩ : ∃ r1 : Int, ((500 : Nat) : Int) - (u' : Int) = r1 := ⟨_, rfl⟩
      have hr2 : (500 : Int) - r1 = (u' : Int) := by omega
      have hu2 : u' ≤ 480 := by omega
      have hu3 : u' ≤ 60 * (k + 1) := by omega
      go_wp2_with fail
      (with_reducible refine (left_c r1 HT7.out.rl hr1 (by omega) (by omega) (by omega)).mono ?_)
      rintro e w8 ⟨rfl, hb⟩
      have HT8 := Lib.hid (HT7.out.below hb)
      clear hb HT7 hr1 hfl hu' hu
      go_wp2_with (at_builtin; refine wpList_append_own _ rfl (.tmp 83) (.tmp 87) 56 rfl w.heap.size 3 i0 (.int .i64 0) 1 8 Try.underlying56 hi hz0 hz1 hz2 rfl (by decide) v _ _ rfl (World.ownsRow.alloc HT8.out.en _) ⟨w8.heap.size, 0, none⟩ 1 1 [.int .i64 (u' : Int)] rfl rfl ?c1 ?c2 ?c3 ?c4 ?c5 ?_)
      case c1 =>
        intro j x hj
        match j, hj with
        | 0, hj => simp at hj; subst hj; simp [Addr.add]
      case c2 => intro x hx; simp at hx; subst hx; rfl
      case c3 => rw [endsOf_len]; unfold maxLen; omega
      case c4 => rw [endsOf_len]; omega
      case c5 => have := HT8.out.bel.size; simp; omega
      · intro v1 w9 hown hgrow _
        have HE := Lib.hid (show Ends w9 w.heap.size v1 (endsOf (L ++ [⟨(k : Int) + 1, b⟩])) by
          rw [endsOf_app, HEL.out]
          unfold Ends
          rw [List.length_append, List.map_append]
          exact hown)
        have HT9 := Lib.hid (HT8.out.grown ((But.of_below ((Below.refl _ _).alloc (Nat.le_refl _) _) _).trans (but_grown hgrow)) HE.out)
        clear hown hgrow HT8 HE
        go_wp2
        go_roundw
        case rel => exact ⟨v1, k + 1, s', A7, c7, L ++ [⟨(k : Int) + 1, b⟩], u', rfl, by omega, by omega, by go_num, by rw [List.length_append, hLk]; rfl, by rw [lastB_add]; simp, hu3, by simpa [Int.add_assoc] using HT9.out⟩
        case measure => simp [intOf]; omega
    · rcases (show ¬ k < n ∨ (k < n ∧ ¬ k < 7) by omega) with h1 | ⟨h1, h2⟩
      · have hkn' : ¬ (k : Int) < (n : Int) := by omega
        clear h1 hkn
        as_aux_lemma =>
        by_cases h0 : k = 0
        · as_aux_lemma =>
          obtain rfl : L = [] := List.eq_nil_of_length_eq_zero (by omega)
          subst h0
          have hb := HT.out.bel
          rcases HT.out.en.blk with ⟨rfl, _⟩ | ⟨ke, cap, cur, rfl, _⟩
          · go_wp2
            first | done | (go_ret; exact ⟨rfl, hb⟩)
          · simp only [show (endsOf []).length = 0 from rfl]
            go_wp2
            first | done | (go_ret; exact ⟨rfl, hb⟩)
        · obtain ⟨m, hm⟩ : ∃ m, k = m + 1 := ⟨k - 1, by omega⟩
          have hm1 : (k : Int) - 1 = (m : Int) := by omega
          have hk0' : ((k : Int) == 0) = false := by simp; omega
          have hmk : (m : Int) < (k : Int) := by omega
          have hm0 : (0 : Int) ≤ (m : Int) := by omega
          obtain ⟨ke, cap, hcap, rfl⟩ : ∃ ke cap, k ≤ cap ∧ v = .slice (some ⟨ke, 0, none⟩) k cap := by
            rcases HT.out.en.blk with ⟨_, h⟩ | ⟨ke, cap, cur, e, _, _, h, _⟩
            · have := endsOf_len L
              rw [h] at this
              simp at this
              omega
            · rw [endsOf_len, hLk] at e h
              exact ⟨ke, cap, h, e⟩
          by_cases hy0 : y = 0
          · as_aux_lemma =>
            subst hy0
            have hb := HT.out.bel
            go_wp2
            go_ret
            exact ⟨rfl, hb⟩
          · as_aux_lemma =>
            have hy0' : ((y : Int) == 0) = false := by simp; omega
            have hcell : ∀ V : World, Ends V w.heap.size (.slice (some ⟨ke, 0, none⟩) k cap) (endsOf L) → ∀ i, i < k → V.cell? ⟨ke, i, none⟩ = some (.int .i64 ((catB 0 (L.take (i + 1))).length : Int)) := fun V h i hi => by
              rw [h.cell (by rw [endsOf_len]; omega), endsOf_get (by omega)]
            have hu0 : 20 ≤ u := by have := HT.out.st.count; omega
            have huL : (catB 0 (L.take (m + 1))).length = u := by rw [← hm, ← hLk, List.take_length]; exact HT.out.st.len
            have HCE := Lib.hid hcell
            have hc1 := hcell _ HT.out.en m (by omega)
            rw [huL] at hc1
            have HUL := Lib.hid huL
            have HM := Lib.hid hm
            clear hcell huL hm
            go_wp2_with fail
            clear hc1
            (with_reducible refine (pickB x (u : Int) _ (by omega) (by omega)).mono ?_)
            rintro e w' ⟨j, hj, rfl, rfl⟩
            have hju : j < u := by omega
            have hj0 : (0 : Int) ≤ (j : Int) := by omega
            have hlen := HT.out.st.ok.1
            go_wp2_with fail
            (with_reducible refine (readS_yes j 1 (j : Int) 1 HT.out.sl rfl rfl HT.out.st.live (by omega)).mono ?_)
            rintro e w1 ⟨rfl, hrow, hb⟩
            obtain ⟨a0, ha0, hrw⟩ : ∃ a0, s.l[j]? = some a0 ∧ (s.l.drop j).take 1 = [a0] := by
              have hjl : j < s.l.length := by omega
              refine ⟨s.l[j], List.getElem?_eq_getElem hjl, ?_⟩
              rw [List.drop_eq_getElem_cons hjl]
              rfl
            rw [hrw] at hrow
            obtain ⟨lg, cg⟩ := row_one hrow
            have HT1 := Lib.hid (HT.out.below hb)
            obtain ⟨c, hxor, hcne⟩ := xor_new (UInt8.toNat_lt a0) hy hy0
            obtain ⟨s2, s3, Q, q, hW, hok2, hO1, hok3, hO2, hQ, hq, hF⟩ := turn_all (c := c) HT1.out.st HT1.out.so HT1.out.cut hju (by rw [ha0]; intro e; injection e with e; exact hcne (by rw [e]))
            have HWr := Lib.hid hW
            have HK2 := Lib.hid hok2
            have HO1 := Lib.hid hO1
            have HK3 := Lib.hid hok3
            have HO2 := Lib.hid hO2
            have HF := Lib.hid hF
            obtain ⟨g1, hg1⟩ : ∃ g1, wr.heap.size = g1 := ⟨_, rfl⟩
            rw [hg1] at hrow lg cg ⊢
            clear hrow hb hrw hW hok2 hO1 hok3 hO2 hF hcne ha0 HT hg1
            go_wp2_with fail
            have hba : Below w1.heap.size w1 (w1.alloc (.cells #[.int .u8 (c.toNat : Int)] 5)) := (Below.refl _ _).alloc (Nat.le_refl _) _
            have HBc := Lib.hid (show Bs (w1.alloc (.cells #[.int .u8 (c.toNat : Int)] 5)) (w1.alloc (.cells #[.int .u8 (c.toNat : Int)] 5)).heap.size (some ⟨w1.heap.size, 0, none⟩) 1 1 [c] from Row.bs (l := [c]) (by unfold Row; simpa [Lib.byteCells] using Blk.new w1 5 #[.int .u8 (c.toNat : Int)]) rfl)
            have HT2 := Lib.hid (HT1.out.below hba)
            clear hba lg cg hxor HT1
            obtain ⟨W, hW⟩ : ∃ W, w1.alloc (.cells #[.int .u8 (c.toNat : Int)] 5) = W := ⟨_, rfl⟩
            rw [hW] at HBc HT2 ⊢
            clear hW
            (with_reducible refine (write_w (j : Int) _ 1 1 [c] _ HWr.out HT2.out.sl HBc.out HT2.out.st.ok (by omega) (by omega)).mono ?_)
            rintro e w2 ⟨rfl, hs, hb⟩
            have HS2 := Lib.hid hs
            have HE2 := Lib.hid (HT2.out.en.slab HT2.out.sl hb)
            have HB2 := Lib.hid (but_new HT2.out.bel hb HT2.out.bel.size (by simp; exact HG.out))
            clear hs hb HBc HT2 HWr
            go_wp2_with fail
            go_loopw [17, 127] (fun a b wr => CntRel w2 L j a b wr) (fun _ i _ => k - (intOf i).toNat)
            case atStart => exact ⟨0, 0, by omega, by omega, rfl, rfl, by omega, by omega, Below.refl _ _⟩
            case round =>
              obtain ⟨q0, i, hqi, hi, rfl, rfl, hlo, hhi, hb⟩ := hrel
              by_cases hik : i < k
              · as_aux_lemma =>
                have hik' : (i : Int) < (k : Int) := by omega
                have hi0 : (0 : Int) ≤ (i : Int) := by omega
                have hc1 := HCE.out _ (HE2.out.below hb) i hik
                obtain ⟨E, hE⟩ : ∃ E, (catB 0 (L.take (i + 1))).length = E := ⟨_, rfl⟩
                rw [hE] at hc1
                have HB := Lib.hid hb
                have HLO := Lib.hid hlo
                have HHI := Lib.hid hhi
                have HEE := Lib.hid hE
                clear hb hlo hhi hE
                by_cases hEj : E ≤ j
                · as_aux_lemma =>
                  have hEj' : (E : Int) ≤ (j : Int) := by omega
                  obtain rfl : q0 = i := by
                    rcases Nat.lt_or_ge q0 i with h | h
                    · have h1 := HHI.out q0 (Nat.le_refl _) h
                      have h2 := catB_take_le L 0 (q0 + 1) (i + 1) (by omega)
                      have := HEE.out
                      omega
                    · omega
                  go_wp2
                  go_roundw
                  case rel =>
                    refine ⟨q0 + 1, q0 + 1, by omega, by omega, by go_num, by go_num, fun t ht => ?_, (fun t h1 h2 => by omega), HB.out⟩
                    rcases (show t < q0 ∨ t = q0 by omega) with h | rfl
                    · exact HLO.out t h
                    · rw [HEE.out]; exact hEj
                  case measure => simp [intOf]; omega
                · as_aux_lemma =>
                  have hEj' : ¬ (E : Int) ≤ (j : Int) := by omega
                  go_wp2
                  go_roundw
                  case rel =>
                    refine ⟨q0, i + 1, by omega, by omega, by go_num, by go_num, HLO.out, (fun t h1 h2 => ?_), HB.out⟩
                    rcases (show t < i ∨ t = i by omega) with h | rfl
                    · exact HHI.out t h1 h
                    · rw [HEE.out]; omega
                  case measure => simp [intOf]; omega
              · as_aux_lemma =>
                obtain rfl : i = k := by omega
                have hlt : ¬ (i : Int) < (i : Int) := by omega
                have hq0 : q0 < i := by
                  rcases Nat.lt_or_ge q0 i with h | h
                  · exact h
                  · have := hlo m (by have := HM.out; omega)
                    rw [HUL.out] at this
                    omega
                have h1 : (catB 0 (L.take q0)).length ≤ j := by
                  cases q0 with
                  | zero => simp [catB]
                  | succ q1 => exact hlo q1 (by omega)
                obtain ⟨hF1, hF2⟩ := HF.out q0 (by omega) h1 (hhi q0 (Nat.le_refl _) (by omega))
                have HS3 := Lib.hid (HS2.out.below hb)
                have HE3 := Lib.hid (HE2.out.below hb)
                have HB3 := Lib.hid (HB2.out.trans (hb.mono HB2.out.size))
                clear hb hlo hhi HS2 HE2 HB2
                go_wp2_with fail
                (with_reducible refine (open_v 0 500 Q q _ 0 HO1.out HS3.out HK2.out (by omega) 0 500 rfl rfl (by omega)).mono ?_)
                rintro e w4 ⟨p3, A3, c3, rfl, hp, hr, hs, hb⟩
                have HR4 := Lib.hid hr
                have HS4 := Lib.hid hs
                have HE4 := Lib.hid (HE3.out.slab HS3.out hb)
                have HB4 := Lib.hid (but_new HB3.out hb HB3.out.size (by simp; exact HG.out))
                clear hp hr hs hb HS3 HE3 HB3
                go_wp2_with fail
                (with_reducible refine (open_v 500 500 [⟨1, [111, 116, 104, 101, 114]⟩] 25 _ 0 HO2.out HS4.out HK3.out (by omega) 500 500 rfl rfl (by omega)).mono ?_)
                rintro e w5 ⟨p4, A4, c4, rfl, hp, hr, hs, hb⟩
                have HR5 := Lib.hid (HR4.out.slab (HR4.out.far HS4.out.1 (by decide) (by decide)) (HR4.out.far HS4.out.2.1 (by decide) (by decide)) hb)
                have HQ5 := Lib.hid hr
                have HE5 := Lib.hid (HE4.out.slab HS4.out hb)
                have HB5 := Lib.hid (but_new HB4.out hb HB4.out.size (by simp; exact HG.out))
                clear hp hr hs hb HS4 HE4 HB4 HR4
                go_wp2_with fail
                (with_reducible refine (records_c 1 HQ5.out rfl (by omega)).mono ?_)
                rintro e w6 ⟨A6, c6, rfl, _, hb⟩
                have HR6 := Lib.hid (HR5.out.below hb)
                have HQ6 := Lib.hid (HQ5.out.below hb)
                have HE6 := Lib.hid (HE5.out.below hb)
                have HB6 := Lib.hid (HB5.out.trans (hb.mono HB5.out.size))
                clear hb HR5 HQ5 HE5 HB5
                go_wp2_with fail
                (with_reducible refine (records_c 1 HQ6.out rfl (by omega)).mono ?_)
                rintro e w7 ⟨A7, c7, rfl, hrc, hb⟩
                obtain ⟨k7, rfl, hk7, r0, r1⟩ := hrc 0 (by decide)
                simp only [List.getElem_cons_zero, Nat.zero_mul, Nat.zero_add] at r0 r1
                have HR7 := Lib.hid (HR6.out.below hb)
                have HE7 := Lib.hid (HE6.out.below hb)
                have HB7 := Lib.hid (HB6.out.trans (hb.mono HB6.out.size))
                clear hb hrc HR6 HQ6 HE6 HB6
                obtain ⟨st, hst⟩ : ∃ st, (catB 0 (L.take q0)).length = st := ⟨_, rfl⟩
                rw [hst] at hF1 hF2 h1
                rcases (show q0 = 0 ∨ 0 < q0 by omega) with rfl | hq1
                · as_aux_lemma =>
                  obtain rfl : st = 0 := by rw [← hst]; simp [catB]
                  by_cases hjs : j < 0 + 2
                  · have hjs' : (j : Int) < 2 := by omega
                    have hge' : (0 : Int) ≤ (Q.length : Int) := by omega
                    go_wp2_with fail
                    (with_reducible refine (records_c Q.length HR7.out rfl (by omega)).mono ?_)
                    rintro e w8 ⟨A8, c8, rfl, _, hb⟩
                    have HB8 := Lib.hid (HB7.out.trans (hb.mono HB7.out.size))
                    clear hb
                    go_wp2
                    go_ret
                    exact ⟨rfl, HB8.out⟩
                  · have hjs' : ¬ (j : Int) < 2 := by omega
                    have heq := hF2 hjs
                    go_wp2_with fail
                    (with_reducible refine (records_c 0 HR7.out heq (by omega)).mono ?_)
                    rintro e w8 ⟨A8, c8, rfl, _, hb⟩
                    have HB8 := Lib.hid (HB7.out.trans (hb.mono HB7.out.size))
                    clear hb
                    go_wp2
                    go_ret
                    exact ⟨rfl, HB8.out⟩
                · as_aux_lemma =>
                  obtain ⟨q1, hq1e⟩ : ∃ q1, q1 + 1 = q0 := ⟨q0 - 1, by omega⟩
                  have hq1i : (q0 : Int) - 1 = (q1 : Int) := by omega
                  have hq1' : (0 : Int) < (q0 : Int) := by omega
                  have hq1k : (q1 : Int) < (i : Int) := by omega
                  have hq10 : (0 : Int) ≤ (q1 : Int) := by omega
                  have hc1 := HCE.out _ HE7.out q1 (by omega)
                  rw [hq1e, hst] at hc1
                  have HQ1 := Lib.hid hq1e
                  clear hq1e
                  by_cases hjs : j < st + 2
                  · have hjs' : (j : Int) < (st : Int) + 2 := by omega
                    have hge := hF1 hjs
                    have hge' : (q0 : Int) ≤ (Q.length : Int) := by omega
                    go_wp2_with fail
                    (with_reducible refine (records_c Q.length HR7.out rfl (by omega)).mono ?_)
                    rintro e w8 ⟨A8, c8, rfl, _, hb⟩
                    have HB8 := Lib.hid (HB7.out.trans (hb.mono HB7.out.size))
                    clear hb hc1
                    go_wp2
                    go_ret
                    exact ⟨rfl, HB8.out⟩
                  · have hjs' : ¬ (j : Int) < (st : Int) + 2 := by omega
                    have heq := hF2 hjs
                    go_wp2_with fail
                    (with_reducible refine (records_c q0 HR7.out heq (by omega)).mono ?_)
                    rintro e w8 ⟨A8, c8, rfl, _, hb⟩
                    have HB8 := Lib.hid (HB7.out.trans (hb.mono HB7.out.size))
                    clear hb hc1
                    go_wp2
                    go_ret
                    exact ⟨rfl, HB8.out⟩
      · have hkn' : (k : Int) < (n : Int) := by omega
        have hk7' : ¬ (k : Int) < 7 := by omega
        clear h1 h2 hkn
        as_aux_lemma =>
        by_cases h0 : k = 0
        · as_aux_lemma =>
          obtain rfl : L = [] := List.eq_nil_of_length_eq_zero (by omega)
          subst h0
          have hb := HT.out.bel
          rcases HT.out.en.blk with ⟨rfl, _⟩ | ⟨ke, cap, cur, rfl, _⟩
          · go_wp2
            first | done | (go_ret; exact ⟨rfl, hb⟩)
          · simp only [show (endsOf []).length = 0 from rfl]
            go_wp2
            first | done | (go_ret; exact ⟨rfl, hb⟩)
        · obtain ⟨m, hm⟩ : ∃ m, k = m + 1 := ⟨k - 1, by omega⟩
          have hm1 : (k : Int) - 1 = (m : Int) := by omega
          have hk0' : ((k : Int) == 0) = false := by simp; omega
          have hmk : (m : Int) < (k : Int) := by omega
          have hm0 : (0 : Int) ≤ (m : Int) := by omega
          obtain ⟨ke, cap, hcap, rfl⟩ : ∃ ke cap, k ≤ cap ∧ v = .slice (some ⟨ke, 0, none⟩) k cap := by
            rcases HT.out.en.blk with ⟨_, h⟩ | ⟨ke, cap, cur, e, _, _, h, _⟩
            · have := endsOf_len L
              rw [h] at this
              simp at this
              omega
            · rw [endsOf_len, hLk] at e h
              exact ⟨ke, cap, h, e⟩
          by_cases hy0 : y = 0
          · as_aux_lemma =>
            subst hy0
            have hb := HT.out.bel
            go_wp2
            go_ret
            exact ⟨rfl, hb⟩
          · as_aux_lemma =>
            have hy0' : ((y : Int) == 0) = false := by simp; omega
            have hcell : ∀ V : World, Ends V w.heap.size (.slice (some ⟨ke, 0, none⟩) k cap) (endsOf L) → ∀ i, i < k → V.cell? ⟨ke, i, none⟩ = some (.int .i64 ((catB 0 (L.take (i + 1))).length : Int)) := fun V h i hi => by
              rw [h.cell (by rw [endsOf_len]; omega), endsOf_get (by omega)]
            have hu0 : 20 ≤ u := by have := HT.out.st.count; omega
            have huL : (catB 0 (L.take (m + 1))).length = u := by rw [← hm, ← hLk, List.take_length]; exact HT.out.st.len
            have HCE := Lib.hid hcell
            have hc1 := hcell _ HT.out.en m (by omega)
            rw [huL] at hc1
            have HUL := Lib.hid huL
            have HM := Lib.hid hm
            clear hcell huL hm
            go_wp2_with fail
            clear hc1
            (with_reducible refine (pickB x (u : Int) _ (by omega) (by omega)).mono ?_)
            rintro e w' ⟨j, hj, rfl, rfl⟩
            have hju : j < u := by omega
            have hj0 : (0 : Int) ≤ (j : Int) := by omega
            have hlen := HT.out.st.ok.1
            go_wp2_with fail
            (with_reducible refine (readS_yes j 1 (j : Int) 1 HT.out.sl rfl rfl HT.out.st.live (by omega)).mono ?_)
            rintro e w1 ⟨rfl, hrow, hb⟩
            obtain ⟨a0, ha0, hrw⟩ : ∃ a0, s.l[j]? = some a0 ∧ (s.l.drop j).take 1 = [a0] := by
              have hjl : j < s.l.length := by omega
              refine ⟨s.l[j], List.getElem?_eq_getElem hjl, ?_⟩
              rw [List.drop_eq_getElem_cons hjl]
              rfl
            rw [hrw] at hrow
            obtain ⟨lg, cg⟩ := row_one hrow
            have HT1 := Lib.hid (HT.out.below hb)
            obtain ⟨c, hxor, hcne⟩ := xor_new (UInt8.toNat_lt a0) hy hy0
            obtain ⟨s2, s3, Q, q, hW, hok2, hO1, hok3, hO2, hQ, hq, hF⟩ := turn_all (c := c) HT1.out.st HT1.out.so HT1.out.cut hju (by rw [ha0]; intro e; injection e with e; exact hcne (by rw [e]))
            have HWr := Lib.hid hW
            have HK2 := Lib.hid hok2
            have HO1 := Lib.hid hO1
            have HK3 := Lib.hid hok3
            have HO2 := Lib.hid hO2
            have HF := Lib.hid hF
            obtain ⟨g1, hg1⟩ : ∃ g1, wr.heap.size = g1 := ⟨_, rfl⟩
            rw [hg1] at hrow lg cg ⊢
            clear hrow hb hrw hW hok2 hO1 hok3 hO2 hF hcne ha0 HT hg1
            go_wp2_with fail
            have hba : Below w1.heap.size w1 (w1.alloc (.cells #[.int .u8 (c.toNat : Int)] 5)) := (Below.refl _ _).alloc (Nat.le_refl _) _
            have HBc := Lib.hid (show Bs (w1.alloc (.cells #[.int .u8 (c.toNat : Int)] 5)) (w1.alloc (.cells #[.int .u8 (c.toNat : Int)] 5)).heap.size (some ⟨w1.heap.size, 0, none⟩) 1 1 [c] from Row.bs (l := [c]) (by unfold Row; simpa [Lib.byteCells] using Blk.new w1 5 #[.int .u8 (c.toNat : Int)]) rfl)
            have HT2 := Lib.hid (HT1.out.below hba)
            clear hba lg cg hxor HT1
            obtain ⟨W, hW⟩ : ∃ W, w1.alloc (.cells #[.int .u8 (c.toNat : Int)] 5) = W := ⟨_, rfl⟩
            rw [hW] at HBc HT2 ⊢
            clear hW
            (with_reducible refine (write_w (j : Int) _ 1 1 [c] _ HWr.out HT2.out.sl HBc.out HT2.out.st.ok (by omega) (by omega)).mono ?_)
            rintro e w2 ⟨rfl, hs, hb⟩
            have HS2 := Lib.hid hs
            have HE2 := Lib.hid (HT2.out.en.slab HT2.out.sl hb)
            have HB2 := Lib.hid (but_new HT2.out.bel hb HT2.out.bel.size (by simp; exact HG.out))
            clear hs hb HBc HT2 HWr
            go_wp2_with fail
            go_loopw [17, 127] (fun a b wr => CntRel w2 L j a b wr) (fun _ i _ => k - (intOf i).toNat)
            case atStart => exact ⟨0, 0, by omega, by omega, rfl, rfl, by omega, by omega, Below.refl _ _⟩
            case round =>
              obtain ⟨q0, i, hqi, hi, rfl, rfl, hlo, hhi, hb⟩ := hrel
              by_cases hik : i < k
              · as_aux_lemma =>
                have hik' : (i : Int) < (k : Int) := by omega
                have hi0 : (0 : Int) ≤ (i : Int) := by omega
                have hc1 := HCE.out _ (HE2.out.below hb) i hik
                obtain ⟨E, hE⟩ : ∃ E, (catB 0 (L.take (i + 1))).length = E := ⟨_, rfl⟩
                rw [hE] at hc1
                have HB := Lib.hid hb
                have HLO := Lib.hid hlo
                have HHI := Lib.hid hhi
                have HEE := Lib.hid hE
                clear hb hlo hhi hE
                by_cases hEj : E ≤ j
                · as_aux_lemma =>
                  have hEj' : (E : Int) ≤ (j : Int) := by omega
                  obtain rfl : q0 = i := by
                    rcases Nat.lt_or_ge q0 i with h | h
                    · have h1 := HHI.out q0 (Nat.le_refl _) h
                      have h2 := catB_take_le L 0 (q0 + 1) (i + 1) (by omega)
                      have := HEE.out
                      omega
                    · omega
                  go_wp2
                  go_roundw
                  case rel =>
                    refine ⟨q0 + 1, q0 + 1, by omega, by omega, by go_num, by go_num, fun t ht => ?_, (fun t h1 h2 => by omega), HB.out⟩
                    rcases (show t < q0 ∨ t = q0 by omega) with h | rfl
                    · exact HLO.out t h
                    · rw [HEE.out]; exact hEj
                  case measure => simp [intOf]; omega
                · as_aux_lemma =>
                  have hEj' : ¬ (E : Int) ≤ (j : Int) := by omega
                  go_wp2
                  go_roundw
                  case rel =>
                    refine ⟨q0, i + 1, by omega, by omega, by go_num, by go_num, HLO.out, (fun t h1 h2 => ?_), HB.out⟩
                    rcases (show t < i ∨ t = i by omega) with h | rfl
                    · exact HHI.out t h1 h
                    · rw [HEE.out]; omega
                  case measure => simp [intOf]; omega
              · as_aux_lemma =>
                obtain rfl : i = k := by omega
                have hlt : ¬ (i : Int) < (i : Int) := by omega
                have hq0 : q0 < i := by
                  rcases Nat.lt_or_ge q0 i with h | h
                  · exact h
                  · have := hlo m (by have := HM.out; omega)
                    rw [HUL.out] at this
                    omega
                have h1 : (catB 0 (L.take q0)).length ≤ j := by
                  cases q0 with
                  | zero => simp [catB]
                  | succ q1 => exact hlo q1 (by omega)
                obtain ⟨hF1, hF2⟩ := HF.out q0 (by omega) h1 (hhi q0 (Nat.le_refl _) (by omega))
                have HS3 := Lib.hid (HS2.out.below hb)
                have HE3 := Lib.hid (HE2.out.below hb)
                have HB3 := Lib.hid (HB2.out.trans (hb.mono HB2.out.size))
                clear hb hlo hhi HS2 HE2 HB2
                go_wp2_with fail
                (with_reducible refine (open_v 0 500 Q q _ 0 HO1.out HS3.out HK2.out (by omega) 0 500 rfl rfl (by omega)).mono ?_)
                rintro e w4 ⟨p3, A3, c3, rfl, hp, hr, hs, hb⟩
                have HR4 := Lib.hid hr
                have HS4 := Lib.hid hs
                have HE4 := Lib.hid (HE3.out.slab HS3.out hb)
                have HB4 := Lib.hid (but_new HB3.out hb HB3.out.size (by simp; exact HG.out))
                clear hp hr hs hb HS3 HE3 HB3
                go_wp2_with fail
                (with_reducible refine (open_v 500 500 [⟨1, [111, 116, 104, 101, 114]⟩] 25 _ 0 HO2.out HS4.out HK3.out (by omega) 500 500 rfl rfl (by omega)).mono ?_)
                rintro e w5 ⟨p4, A4, c4, rfl, hp, hr, hs, hb⟩
                have HR5 := Lib.hid (HR4.out.slab (HR4.out.far HS4.out.1 (by decide) (by decide)) (HR4.out.far HS4.out.2.1 (by decide) (by decide)) hb)
                have HQ5 := Lib.hid hr
                have HE5 := Lib.hid (HE4.out.slab HS4.out hb)
                have HB5 := Lib.hid (but_new HB4.out hb HB4.out.size (by simp; exact HG.out))
                clear hp hr hs hb HS4 HE4 HB4 HR4
                go_wp2_with fail
                (with_reducible refine (records_c 1 HQ5.out rfl (by omega)).mono ?_)
                rintro e w6 ⟨A6, c6, rfl, _, hb⟩
                have HR6 := Lib.hid (HR5.out.below hb)
                have HQ6 := Lib.hid (HQ5.out.below hb)
                have HE6 := Lib.hid (HE5.out.below hb)
                have HB6 := Lib.hid (HB5.out.trans (hb.mono HB5.out.size))
                clear hb HR5 HQ5 HE5 HB5
                go_wp2_with fail
                (with_reducible refine (records_c 1 HQ6.out rfl (by omega)).mono ?_)
                rintro e w7 ⟨A7, c7, rfl, hrc, hb⟩
                obtain ⟨k7, rfl, hk7, r0, r1⟩ := hrc 0 (by decide)
                simp only [List.getElem_cons_zero, Nat.zero_mul, Nat.zero_add] at r0 r1
                have HR7 := Lib.hid (HR6.out.below hb)
                have HE7 := Lib.hid (HE6.out.below hb)
                have HB7 := Lib.hid (HB6.out.trans (hb.mono HB6.out.size))
                clear hb hrc HR6 HQ6 HE6 HB6
                obtain ⟨st, hst⟩ : ∃ st, (catB 0 (L.take q0)).length = st := ⟨_, rfl⟩
                rw [hst] at hF1 hF2 h1
                rcases (show q0 = 0 ∨ 0 < q0 by omega) with rfl | hq1
                · as_aux_lemma =>
                  obtain rfl : st = 0 := by rw [← hst]; simp [catB]
                  by_cases hjs : j < 0 + 2
                  · have hjs' : (j : Int) < 2 := by omega
                    have hge' : (0 : Int) ≤ (Q.length : Int) := by omega
                    go_wp2_with fail
                    (with_reducible refine (records_c Q.length HR7.out rfl (by omega)).mono ?_)
                    rintro e w8 ⟨A8, c8, rfl, _, hb⟩
                    have HB8 := Lib.hid (HB7.out.trans (hb.mono HB7.out.size))
                    clear hb
                    go_wp2
                    go_ret
                    exact ⟨rfl, HB8.out⟩
                  · have hjs' : ¬ (j : Int) < 2 := by omega
                    have heq := hF2 hjs
                    go_wp2_with fail
                    (with_reducible refine (records_c 0 HR7.out heq (by omega)).mono ?_)
                    rintro e w8 ⟨A8, c8, rfl, _, hb⟩
                    have HB8 := Lib.hid (HB7.out.trans (hb.mono HB7.out.size))
                    clear hb
                    go_wp2
                    go_ret
                    exact ⟨rfl, HB8.out⟩
                · as_aux_lemma =>
                  obtain ⟨q1, hq1e⟩ : ∃ q1, q1 + 1 = q0 := ⟨q0 - 1, by omega⟩
                  have hq1i : (q0 : Int) - 1 = (q1 : Int) := by omega
                  have hq1' : (0 : Int) < (q0 : Int) := by omega
                  have hq1k : (q1 : Int) < (i : Int) := by omega
                  have hq10 : (0 : Int) ≤ (q1 : Int) := by omega
                  have hc1 := HCE.out _ HE7.out q1 (by omega)
                  rw [hq1e, hst] at hc1
                  have HQ1 := Lib.hid hq1e
                  clear hq1e
                  by_cases hjs : j < st + 2
                  · have hjs' : (j : Int) < (st : Int) + 2 := by omega
                    have hge := hF1 hjs
                    have hge' : (q0 : Int) ≤ (Q.length : Int) := by omega
                    go_wp2_with fail
                    (with_reducible refine (records_c Q.length HR7.out rfl (by omega)).mono ?_)
                    rintro e w8 ⟨A8, c8, rfl, _, hb⟩
                    have HB8 := Lib.hid (HB7.out.trans (hb.mono HB7.out.size))
                    clear hb hc1
                    go_wp2
                    go_ret
                    exact ⟨rfl, HB8.out⟩
                  · have hjs' : ¬ (j : Int) < (st : Int) + 2 := by omega
                    have heq := hF2 hjs
                    go_wp2_with fail
                    (with_reducible refine (records_c q0 HR7.out heq (by omega)).mono ?_)
                    rintro e w8 ⟨A8, c8, rfl, _, hb⟩
                    have HB8 := Lib.hid (HB7.out.trans (hb.mono HB7.out.size))
                    clear hb hc1
                    go_wp2
                    go_ret
                    exact ⟨rfl, HB8.out⟩
end Go.Proofs.Ytkjckdndkljeeaa
