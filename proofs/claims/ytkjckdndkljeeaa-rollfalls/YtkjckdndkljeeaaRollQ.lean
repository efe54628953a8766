/- Package roll: what the statements do with strings; RollRooms. -/
import Derived.Test.YtkjckdndkljeeaaRollO
import Derived.Test.YtkjckdndkljeeaaPackN
namespace Go.Proofs.Ytkjckdndkljeeaa
open Go.RowKit
set_option maxRecDepth 100000 in
set_option maxHeartbeats 800000 in
theorem few_k (A : Option Addr) (n c : Nat) (l : List UInt8) (m : Int) (M k : Nat) (w : World) (hl : Bs w w.heap.size A n c l) (hm : m = (M : Int)) (hk : min n M = k) (hn : k ≤ 140737488355328) :
    Calls Try.prog 19 #[.slice A n c, .int .i64 m] w (Cp w k (l.take M)) := by
  subst hm
  obtain ⟨i0, hi, hz0, hz1, hz2⟩ := info_parts Try.i8
  have hnc := hl.room
  have hlen := hl.len
  by_cases hlt : M < n
  · obtain rfl : M = k := by omega
    have HL := Lib.hid (hl.head (k := M) (by omega))
    have hlt' : (M : Int) < (n : Int) := by omega
    have h0 : (0 : Int) ≤ (M : Int) := by omega
    have hMc : (M : Int) ≤ (c : Int) := by omega
    clear hl hlen
    go_enter Try.func19, Try.ntmps19
    cases A with
    | none =>
      have := HL.out.2.2.1 rfl
      omega
    | some ad =>
      go_wp2_with (at_builtin; refine wpList_append_own _ rfl (.tmp 12) (.tmp 13) _ rfl w.heap.size 5 i0 (.int .u8 0) 1 1 Try.u42 hi hz0 hz1 hz2 rfl (by decide) (.slice (some ⟨w.heap.size, 0, none⟩) 0 0) 0 [] rfl (own_zero w) ad M c (Lib.byteCells (l.take M)) rfl (by rw [Lib.byteCells_length, HL.out.len, Nat.mul_one]) ((HL.out.alloc (Nat.le_refl _) _).news ad rfl) (byteCells_ones _) (by unfold maxLen; omega) (by omega) (by simp) ?_; intro v1 w1 hown hgrow hnil)
      go_ret
      rw [Nat.zero_add, List.nil_append] at hown
      obtain ⟨g, c1, rfl, hO⟩ := own_ne hown (fun e => by have := hnil.1 e; simp at this)
      exact ⟨g, c1, rfl, hO, ((Below.refl _ _).alloc (Nat.le_refl _) _).grown hgrow (by simp) (fun k hk => by cases hk; exact Nat.le_refl _)⟩
  · obtain rfl : n = k := by omega
    have HT := Lib.hid (show l.take M = l from List.take_of_length_le (by omega))
    have HL := Lib.hid hl
    have hlt' : ¬ (M : Int) < (n : Int) := by omega
    clear hl hlen
    rw [HT.out]
    cases A with
    | none =>
      obtain rfl : c = 0 := HL.out.2.2.1 rfl
      obtain rfl : n = 0 := by omega
      have HE := Lib.hid (show l = [] from List.eq_nil_of_length_eq_zero HL.out.len)
      go_enter Try.func19, Try.ntmps19
      go_wp2_with (at_builtin; refine wpList_append_own_none rfl (.tmp 12) (.tmp 13) _ rfl w.heap.size 5 i0 1 Try.u42 hi (.slice (some ⟨w.heap.size, 0, none⟩) 0 0) 0 [] rfl (own_zero w) rfl ?_)
      go_ret
      rw [HE.out]
      exact ⟨w.heap.size, 0, rfl, ⟨rfl, own_zero w⟩, (Below.refl _ _).alloc (Nat.le_refl _) _⟩
    | some ad =>
      go_enter Try.func19, Try.ntmps19
      go_wp2_with (at_builtin; refine wpList_append_own _ rfl (.tmp 12) (.tmp 13) _ rfl w.heap.size 5 i0 (.int .u8 0) 1 1 Try.u42 hi hz0 hz1 hz2 rfl (by decide) (.slice (some ⟨w.heap.size, 0, none⟩) 0 0) 0 [] rfl (own_zero w) ad n c (Lib.byteCells l) rfl (by rw [Lib.byteCells_length, HL.out.len, Nat.mul_one]) ((HL.out.alloc (Nat.le_refl _) _).news ad rfl) (byteCells_ones _) (by unfold maxLen; omega) (by omega) (by simp) ?_; intro v1 w1 hown hgrow hnil)
      go_ret
      rw [Nat.zero_add, List.nil_append] at hown
      obtain ⟨g, c1, rfl, hO⟩ := own_ne hown (fun e => by have := hnil.1 e; simp at this)
      exact ⟨g, c1, rfl, hO, ((Below.refl _ _).alloc (Nat.le_refl _) _).grown hgrow (by simp) (fun k hk => by cases hk; exact Nat.le_refl _)⟩
theorem frame_len2 (o : Nat) (r : Rec) (h : 63 < r.body.length) (h2 : r.body.length ≤ 8191) : (frameB o r).length = 21 + r.body.length := by
  have e : (enc (zig (r.body.length : Int))).length = 2 := by
    have h1 : ¬ zig (r.body.length : Int) < 128 := by unfold zig; split <;> omega
    have h2 : zig (r.body.length : Int) / 128 < 128 := by unfold zig; split <;> omega
    unfold enc
    rw [encF_ge _ _ h1, encF_lt _ _ h2]
    rfl
  rw [frameB_len, tailB_len, e]
  omega
/-- A roll, its slab, and what they are to hold. -/
def RS (w0 w : World) (N p g d n a z : Nat) (s : Sst) (A : Option Addr) (c : Nat) (L : List Rec) (u : Nat) (K : Int) : Prop :=
  RlG w N p g (a : Int) (z : Int) A c L u ∧ SlS w g d n s ∧ St s n a z u L K ∧ Below w0.heap.size w0 w ∧ (w0.heap.size ≤ N ∧ N ≤ w.heap.size)
section
variable {w0 w : World} {N p g d n a z c u : Nat} {s : Sst} {A : Option Addr} {L : List Rec} {K : Int}
theorem RS.rl (h : RS w0 w N p g d n a z s A c L u K) : RlG w N p g (a : Int) (z : Int) A c L u := h.1
theorem RS.sl (h : RS w0 w N p g d n a z s A c L u K) : SlS w g d n s := h.2.1
theorem RS.st (h : RS w0 w N p g d n a z s A c L u K) : St s n a z u L K := h.2.2.1
theorem RS.bel (h : RS w0 w N p g d n a z s A c L u K) : Below w0.heap.size w0 w := h.2.2.2.1
theorem RS.base (h : RS w0 w N p g d n a z s A c L u K) : w0.heap.size ≤ N ∧ N ≤ w.heap.size := h.2.2.2.2
end
theorem RS.below {w0 w w' : World} {N p g d n a z c u : Nat} {s : Sst} {A : Option Addr} {L : List Rec} {K : Int} (h : RS w0 w N p g d n a z s A c L u K) (hb : Below w.heap.size w w') : RS w0 w' N p g d n a z s A c L u K :=
  ⟨h.1.below hb, h.2.1.below hb, h.2.2.1, h.2.2.2.1.trans (hb.mono h.2.2.2.1.size), h.2.2.2.2.1, Nat.le_trans h.2.2.2.2.2 hb.size⟩
theorem St.more {s : Sst} {n a z u : Nat} {L : List Rec} {K K' : Int} (h : St s n a z u L K) (hK : K ≤ K') : St s n a z u L K' := ⟨h.ok.more hK, h.fit, h.small, h.live, h.rg, h.recs, h.len, h.le⟩
def RoomRel (w : World) (N p g d z : Nat) (n : Nat) (i q : Value) (wr : World) : Prop :=
  ∃ (k : Nat) (s : Sst) (A : Option Addr) (c : Nat) (L : List Rec) (u : Nat), k ≤ n ∧ i = .int .i64 (k : Int) ∧ q = .int .i64 (k : Int) ∧ s.cut = false ∧ lastB L ≤ (k : Int) ∧ RS w wr N p g d 400 20 z s A c L u (L.length : Int)
set_option maxRecDepth 100000 in
set_option maxHeartbeats 6400000 in
theorem rollRooms_c (x : Int) (A0 : Option Addr) (n c0 : Nat) (ts : List (List UInt8)) (w : World) (hv : Vs w w.heap.size A0 n c0 (ts.map strV)) (hn : n ≤ 281474976710656) :
    Calls Try.prog 7 #[.int .i64 x, .slice A0 n c0] w fun e w' => e = .returned (.bool true) ∧ Below w.heap.size w w' := by
  have HV := Lib.hid hv
  clear hv
  go_enter Try.func7, Try.ntmps7
  go_wp2_with fail
  (with_reducible refine (pickB x 300 _ (by omega) (by omega)).mono ?_)
  rintro e w' ⟨j, hj, rfl, rfl⟩
  obtain ⟨z, hz⟩ : ∃ z : Nat, 32 + j = z := ⟨_, rfl⟩
  have hzi : (32 : Int) + (j : Int) = (z : Int) := by omega
  have hz1 : 32 ≤ z ∧ z ≤ 331 := by omega
  have hS0 : St ⟨List.replicate 400 0, 0, false, false, 0, 0⟩ 400 20 z 0 [] 0 := St.new rfl (ok_new 400) (by omega) (by omega) rfl
  have HO0 := Lib.hid hS0.open_
  have HS0 := Lib.hid hS0
  clear hS0 hz hj
  go_wp2_with fail
  (with_reducible refine (newS_e 400 400 _ (by omega)).mono ?_)
  rintro e w1 ⟨g, d, rfl, hs, hg, hd, hb⟩
  have HS := Lib.hid hs
  have HB := Lib.hid hb
  have HG := Lib.hid (show w.heap.size ≤ g ∧ w.heap.size ≤ d from ⟨hg, hd⟩)
  clear hs hg hd hb
  go_wp2_with fail
  (with_reducible refine (open_v 20 z [] 0 0 0 HO0.out HS.out HS0.out.ok (by omega) 20 z rfl rfl (by omega)).mono ?_)
  rintro e w2 ⟨p, A, c, rfl, hp, hr, hs, hb⟩
  obtain ⟨N, hN⟩ : ∃ N, w1.heap.size = N := ⟨_, rfl⟩
  rw [hN] at hr
  have HP := Lib.hid (show w.heap.size ≤ p by have := HB.out.size; omega)
  have HRS := Lib.hid (show RS w w2 N p g d 400 20 z ⟨List.replicate 400 0, 0, false, false, 0, 0⟩ A c [] 0 0 from ⟨hr, hs, HS0.out, but_new HB.out hb HB.out.size (by simp; exact HG.out), by rw [← hN]; exact ⟨HB.out.size, hb.size⟩⟩)
  clear hp hr hs hb HS HB hN
  go_wp2_with fail
  (with_reducible refine (known7_c _).mono ?_)
  rintro e w3 ⟨rfl, hb⟩
  have HR3 := Lib.hid (HRS.out.below hb)
  clear hb HRS
  go_wp2_with fail
  (with_reducible refine (left_c (z : Int) HR3.out.rl (by omega) (by omega) (by omega) (by omega)).mono ?_)
  rintro e w4 ⟨rfl, hb⟩
  have HR4 := Lib.hid (HR3.out.below hb)
  clear hb HR3 hzi
  go_wp2
  go_loopw [8, 47] (fun q i wr => RoomRel w N p g d z n i q wr) (fun _ i _ => n - (intOf i).toNat)
  case atStart => exact ⟨0, _, A, c, [], 0, by omega, rfl, rfl, rfl, by decide, HR4.out.1, HR4.out.2.1, HR4.out.2.2.1.more (by simp), HR4.out.2.2.2⟩
  case round =>
    clear HR4 A c
    obtain ⟨k, s, A, c, L, u, hk, rfl, rfl, hc, hlk, hrs⟩ := hrel
    have HC := Lib.hid hc
    have HR := Lib.hid hrs
    have huz := hrs.st.le
    have hcnt := hrs.st.count
    clear hc hrs
    by_cases hkn : k < n
    · have hkn' : (k : Int) < (n : Int) := by omega
      have hk0 : (0 : Int) ≤ (k : Int) := by omega
      obtain ⟨ga, oa, rfl, ca⟩ := HV.out.str HR.out.bel hkn
      obtain ⟨t, ht⟩ : ∃ t, ts.getD k [] = t := ⟨_, rfl⟩
      rw [ht] at ca
      obtain ⟨c5, w5, hcv, hbs, hb5⟩ := conv_bytes t wr
      have HBs := Lib.hid hbs
      have HR5 := Lib.hid (HR.out.below hb5)
      clear hbs hb5 HR ht
      go_wp2_with fail
      clear hcv ca
      (with_reducible refine (few_k _ t.length c5 t 150 150 (min t.length 150) _ HBs.out rfl rfl (by omega)).mono ?_)
      rintro e w6 ⟨g6, c6, rfl, ho, hb⟩
      obtain ⟨b, hb0⟩ : ∃ b, t.take 150 = b := ⟨_, rfl⟩
      rw [hb0] at ho
      have hbl : b.length ≤ 150 := by rw [← hb0, List.length_take]; omega
      have hq := str_run ho.bs
      have HR6 := Lib.hid (HR5.out.below hb)
      clear ho hb hb0 HR5 HBs
      obtain ⟨need, hneed⟩ : ∃ q, (frameB u ⟨(k : Int) + 1, b⟩).length = q := ⟨_, rfl⟩
      have hne : (b.length ≤ 63 → need = 20 + b.length) ∧ (63 < b.length → need = 21 + b.length) := ⟨fun h => by rw [← hneed]; exact frame_len _ _ h, fun h => by rw [← hneed]; exact frame_len2 _ _ h (by simp only; omega)⟩
      have HND := Lib.hid hneed
      clear hneed
      by_cases h63 : b.length ≤ 63
      · as_aux_lemma =>
        have hnd := hne.1 h63
        have h63' : ¬ (63 : Int) < (b.length : Int) := by omega
        have hndi : (20 : Int) + (b.length : Int) = (need : Int) := by omega
        clear hne hnd
        go_wp2_with fail
        (with_reducible refine (left_c ((z : Int) - (u : Int)) HR6.out.rl rfl (by omega) (by omega) (by omega)).mono ?_)
        rintro e w7 ⟨rfl, hb⟩
        have HR7 := Lib.hid (HR6.out.below hb)
        clear hb HR6
        by_cases hfit : u + need ≤ z
        · as_aux_lemma =>
          obtain ⟨s', hA, hS', hc', _⟩ := HR7.out.st.append (q := (k : Int) + 1) (t := b) HC.out (by omega) (by omega) (by omega) (by rw [HND.out]; exact hfit)
          rw [HND.out] at hA hS'
          have HA := Lib.hid hA
          have HS' := Lib.hid hS'
          have HC' := Lib.hid hc'
          clear hA hS' hc'
          have hb1 : ¬ (z : Int) - (u : Int) < (need : Int) := by omega
          have hb2 : (need : Int) ≤ (z : Int) - (u : Int) := by omega
          go_wp2_with fail
          (with_reducible refine (append_v (u + need) 0 ((k : Int) + 1) b _ HA.out HR7.out.rl HR7.out.sl HR7.out.st.ok (by omega) (by omega) (by omega) (by have := HR7.out.st.count; omega) (by omega) HR7.out.base.2 HR7.out.st.last (by omega)).mono ?_)
          rintro e w8 ⟨rfl, A2, c2, hr, hs, hb⟩
          have HR8 := Lib.hid (show RS w w8 N p g d 400 20 z s' A2 c2 (L ++ [⟨(k : Int) + 1, b⟩]) (u + need) ((L ++ [(⟨(k : Int) + 1, b⟩ : Rec)]).length : Int) from ⟨hr, hs, HS'.out.more (by rw [List.length_append]; simp), but_new HR7.out.bel hb HR7.out.bel.size (rl_ex HR7.out.rl HR7.out.base.1 HP.out HG.out.1 HG.out.2), HR7.out.base.1, Nat.le_trans HR7.out.base.2 hb.size⟩)
          clear hr hs hb HR7
          go_wp2_with fail
          (with_reducible refine (left_c ((z : Int) - (u : Int) - (need : Int)) HR8.out.rl (by omega) (by omega) (by omega) (by omega)).mono ?_)
          rintro e w9 ⟨rfl, hb⟩
          have HR9 := Lib.hid (HR8.out.below hb)
          clear hb HR8
          go_wp2
          go_roundw
          case rel => exact ⟨k + 1, s', A2, c2, L ++ [⟨(k : Int) + 1, b⟩], u + need, by omega, by go_num, by go_num, HC'.out, by rw [lastB_add]; simp, HR9.out⟩
          case measure => simp [intOf]; omega
        · as_aux_lemma =>
          have HA := Lib.hid (apS_full (s := s) (n := 400) (a := ((20 : Nat) : Int)) (z := z) (u := u) (q := (k : Int) + 1) (L := L) (t := b) (by omega) (by rw [HND.out]; omega))
          have hb1 : (z : Int) - (u : Int) < (need : Int) := by omega
          go_wp2_with fail
          (with_reducible refine (append_v u 5 ((k : Int) + 1) b _ HA.out HR7.out.rl HR7.out.sl HR7.out.st.ok (by omega) (by omega) (by omega) (by have := HR7.out.st.count; omega) (by omega) HR7.out.base.2 HR7.out.st.last (by omega)).mono ?_)
          rintro e w8 ⟨rfl, A2, c2, hr, hs, hb⟩
          have HR8 := Lib.hid (show RS w w8 N p g d 400 20 z s A2 c2 L u (L.length : Int) from ⟨hr, hs, HR7.out.st, but_new HR7.out.bel hb HR7.out.bel.size (rl_ex HR7.out.rl HR7.out.base.1 HP.out HG.out.1 HG.out.2), HR7.out.base.1, Nat.le_trans HR7.out.base.2 hb.size⟩)
          clear hr hs hb HR7
          go_wp2_with fail
          (with_reducible refine (left_c ((z : Int) - (u : Int)) HR8.out.rl rfl (by omega) (by omega) (by omega)).mono ?_)
          rintro e w9 ⟨rfl, hb⟩
          have HR9 := Lib.hid (HR8.out.below hb)
          clear hb HR8
          go_wp2
          go_roundw
          case rel => exact ⟨k + 1, s, A2, c2, L, u, by omega, by go_num, by go_num, HC.out, by omega, HR9.out⟩
          case measure => simp [intOf]; omega
      · as_aux_lemma =>
        have hnd := hne.2 (by omega)
        have h63' : (63 : Int) < (b.length : Int) := by omega
        have hndi : (20 : Int) + (b.length : Int) + 1 = (need : Int) := by omega
        clear hne hnd
        go_wp2_with fail
        (with_reducible refine (left_c ((z : Int) - (u : Int)) HR6.out.rl rfl (by omega) (by omega) (by omega)).mono ?_)
        rintro e w7 ⟨rfl, hb⟩
        have HR7 := Lib.hid (HR6.out.below hb)
        clear hb HR6
        by_cases hfit : u + need ≤ z
        · as_aux_lemma =>
          obtain ⟨s', hA, hS', hc', _⟩ := HR7.out.st.append (q := (k : Int) + 1) (t := b) HC.out (by omega) (by omega) (by omega) (by rw [HND.out]; exact hfit)
          rw [HND.out] at hA hS'
          have HA := Lib.hid hA
          have HS' := Lib.hid hS'
          have HC' := Lib.hid hc'
          clear hA hS' hc'
          have hb1 : ¬ (z : Int) - (u : Int) < (need : Int) := by omega
          have hb2 : (need : Int) ≤ (z : Int) - (u : Int) := by omega
          go_wp2_with fail
          (with_reducible refine (append_v (u + need) 0 ((k : Int) + 1) b _ HA.out HR7.out.rl HR7.out.sl HR7.out.st.ok (by omega) (by omega) (by omega) (by have := HR7.out.st.count; omega) (by omega) HR7.out.base.2 HR7.out.st.last (by omega)).mono ?_)
          rintro e w8 ⟨rfl, A2, c2, hr, hs, hb⟩
          have HR8 := Lib.hid (show RS w w8 N p g d 400 20 z s' A2 c2 (L ++ [⟨(k : Int) + 1, b⟩]) (u + need) ((L ++ [(⟨(k : Int) + 1, b⟩ : Rec)]).length : Int) from ⟨hr, hs, HS'.out.more (by rw [List.length_append]; simp), but_new HR7.out.bel hb HR7.out.bel.size (rl_ex HR7.out.rl HR7.out.base.1 HP.out HG.out.1 HG.out.2), HR7.out.base.1, Nat.le_trans HR7.out.base.2 hb.size⟩)
          clear hr hs hb HR7
          go_wp2_with fail
          (with_reducible refine (left_c ((z : Int) - (u : Int) - (need : Int)) HR8.out.rl (by omega) (by omega) (by omega) (by omega)).mono ?_)
          rintro e w9 ⟨rfl, hb⟩
          have HR9 := Lib.hid (HR8.out.below hb)
          clear hb HR8
          go_wp2
          go_roundw
          case rel => exact ⟨k + 1, s', A2, c2, L ++ [⟨(k : Int) + 1, b⟩], u + need, by omega, by go_num, by go_num, HC'.out, by rw [lastB_add]; simp, HR9.out⟩
          case measure => simp [intOf]; omega
        · as_aux_lemma =>
          have HA := Lib.hid (apS_full (s := s) (n := 400) (a := ((20 : Nat) : Int)) (z := z) (u := u) (q := (k : Int) + 1) (L := L) (t := b) (by omega) (by rw [HND.out]; omega))
          have hb1 : (z : Int) - (u : Int) < (need : Int) := by omega
          go_wp2_with fail
          (with_reducible refine (append_v u 5 ((k : Int) + 1) b _ HA.out HR7.out.rl HR7.out.sl HR7.out.st.ok (by omega) (by omega) (by omega) (by have := HR7.out.st.count; omega) (by omega) HR7.out.base.2 HR7.out.st.last (by omega)).mono ?_)
          rintro e w8 ⟨rfl, A2, c2, hr, hs, hb⟩
          have HR8 := Lib.hid (show RS w w8 N p g d 400 20 z s A2 c2 L u (L.length : Int) from ⟨hr, hs, HR7.out.st, but_new HR7.out.bel hb HR7.out.bel.size (rl_ex HR7.out.rl HR7.out.base.1 HP.out HG.out.1 HG.out.2), HR7.out.base.1, Nat.le_trans HR7.out.base.2 hb.size⟩)
          clear hr hs hb HR7
          go_wp2_with fail
          (with_reducible refine (left_c ((z : Int) - (u : Int)) HR8.out.rl rfl (by omega) (by omega) (by omega)).mono ?_)
          rintro e w9 ⟨rfl, hb⟩
          have HR9 := Lib.hid (HR8.out.below hb)
          clear hb HR8
          go_wp2
          go_roundw
          case rel => exact ⟨k + 1, s, A2, c2, L, u, by omega, by go_num, by go_num, HC.out, by omega, HR9.out⟩
          case measure => simp [intOf]; omega
    · as_aux_lemma =>
      have hkn' : ¬ (k : Int) < (n : Int) := by omega
      go_wp2_with fail
      (with_reducible refine (records_c L.length HR.out.rl rfl (by have := HR.out.st.count; omega)).mono ?_)
      rintro e w5 ⟨A', c', rfl, _, hb⟩
      have HB := Lib.hid (HR.out.bel.trans (hb.mono HR.out.bel.size))
      have hcn := HR.out.st.count
      have hfin : (L.length : Int) ≤ (z : Int) / 20 := by omega
      clear hb
      go_wp2
      go_ret
      exact ⟨rfl, HB.out⟩
end Go.Proofs.Ytkjckdndkljeeaa
