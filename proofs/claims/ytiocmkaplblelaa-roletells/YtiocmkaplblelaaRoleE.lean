/- pyxlaw9.known; RoleKnown. -/
import Derived.Test.YtiocmkaplblelaaRoleD
import Derived.Deep.OwnRows
namespace Go.Proofs.Ytiocmkaplblelaa
open Go.RowKit Go.Deep
theorem il_lit (w : World) {cs : Array Value} {L : List Int} {n b : Nat} (h : cs = (L.map zV).toArray) (hn : L.length = n) (hb : b = w.heap.size) : IL (w.alloc (.cells cs 3)) (w.alloc (.cells cs 3)).heap.size (some ⟨b, 0, none⟩) n n L := by
  subst hb
  refine ⟨hn, Nat.le_refl _, fun _ => ⟨w.heap.size, 0, rfl, by simp, fun j hj => ?_⟩⟩
  subst h
  rw [Nat.zero_add, (Blk.new w 3 _).cell j, List.getElem?_toArray, List.getElem?_map, getD_some (by omega)]
  rfl
theorem il_none (w : World) : IL w w.heap.size none 0 0 [] := ⟨rfl, Nat.le_refl _, fun h => absurd h (by omega)⟩
theorem il_up {w w' : World} {A : Option Addr} {n c : Nat} {L : List Int} (h : IL w w.heap.size A n c L) (hb : Below w.heap.size w w') : IL w' w'.heap.size A n c L := (h.below hb).more hb.size
theorem il_alloc {w : World} {A : Option Addr} {n c : Nat} {L : List Int} (h : IL w w.heap.size A n c L) (o : Obj) : IL (w.alloc o) (w.alloc o).heap.size A n c L := il_up h (bel_alloc (Below.refl _ _) o)
set_option maxRecDepth 100000 in
set_option maxHeartbeats 1600000 in
theorem known9_c (w : World) : Calls Try.prog 7 #[] w (RetB w true) := by
  have hI := Lib.hid (fun (w' : World) (b : Nat) => il_lit (b := b) w' (cs := #[.int .i64 (-1), .int .i64 0, .int .i64 1]) (L := [-1, 0, 1]) (n := 3) rfl rfl)
  have hA : allV [-1, 0, 1] 4 = 7 := by decide +kernel
  have hR : rightL [-1, 0, 1] = true := by decide +kernel
  have RA := Lib.hid (fun w' A n c h => by have h := roAll_c A n c [-1, 0, 1] 4 4 w' h (by have := h.1; simp at this; omega) rfl (by omega); rw [hA] at h; exact h)
  have RR := Lib.hid (fun w' A n c h => by have h := roRight_c A n c [-1, 0, 1] w' h (by have := h.1; simp at this; omega); rw [hR] at h; exact h)
  clear hA hR
  go_enter Try.func7, Try.ntmps7
  go_wp2_with fail
  (with_reducible refine (RA.out _ _ _ _ (hI.out _ _ (by simp))).mono ?_)
  rintro e w' ⟨rfl, rfl⟩
  go_wp2_with fail
  (with_reducible refine (RR.out _ _ _ _ (hI.out _ _ (by simp))).mono ?_)
  rintro e w' ⟨rfl, rfl⟩
  go_wp2
  go_ret
  exact ⟨rfl, bel_alloc (bel_alloc (Below.refl _ _) _) _⟩
set_option maxRecDepth 100000 in
set_option maxHeartbeats 3200000 in
theorem roleKnown_c (w : World) : Calls Try.prog 3 #[] w (RetB w true) := by
  have RA := Lib.hid (fun w' A n c (L : List Int) (x y : Int) (h : IL w' w'.heap.size A n c L) (hn : n ≤ 1000) (hr : 0 ≤ x ∧ x < 18446744073709551616) (hm : ((allV L x.toNat : Nat) : Int) = y) => by have g := roAll_c A n c _ x.toNat x w' h (by omega) (by omega) (by omega); rw [hm] at g; exact g)
  have RH := Lib.hid (fun w' A n c (x k : Int) (β : Bool) (h : IL w' w'.heap.size A n c [-1, 0, -1, 2]) (hr : 0 ≤ x ∧ x < 18446744073709551616) (hk : k < 100) (hm : hasV [-1, 0, -1, 2] x.toNat k = β) => by have g := roHas_c A n c _ x.toNat x k w' h (by have := h.1; simp at this; omega) (by omega) (by omega) (by omega); rw [hm] at g; exact g)
  have RR := Lib.hid (fun w' A n c (L : List Int) (β : Bool) (h : IL w' w'.heap.size A n c L) (hn : n ≤ 1000) (hm : rightL L = β) => by have g := roRight_c A n c L w' h (by omega); rw [hm] at g; exact g)
  go_enter Try.func3, Try.ntmps3
  go_wp2_with fail
  obtain ⟨W, hW⟩ : ∃ W, w.alloc (.cells #[.int .i64 (-1), .int .i64 0, .int .i64 (-1), .int .i64 2] 3) = W := ⟨_, rfl⟩
  have HU := Lib.hid (show IL W W.heap.size (some ⟨w.heap.size, 0, none⟩) 4 4 [-1, 0, -1, 2] from by rw [← hW]; exact il_lit w rfl rfl rfl)
  have HB := Lib.hid (show Below w.heap.size w W from by rw [← hW]; exact bel_alloc (Below.refl _ _) _)
  rw [hW]
  obtain ⟨b, hb⟩ : ∃ b, w.heap.size = b := ⟨_, rfl⟩
  rw [hb] at HU ⊢
  clear hW hb
  (with_reducible refine (known9_c W).mono ?_)
  rintro e W1 ⟨rfl, hb1⟩
  have HU1 := Lib.hid (il_up HU.out hb1)
  have HB1 := Lib.hid (HB.out.trans (hb1.mono HB.out.size))
  clear hb1 HU HB
  go_wp2_with fail
  (with_reducible refine (RA.out _ _ _ _ _ 2 3 HU1.out (by omega) (by omega) (by decide +kernel)).mono ?_)
  rintro e w' ⟨rfl, rfl⟩
  go_wp2_with fail
  (with_reducible refine (RA.out _ _ _ _ _ 8 12 HU1.out (by omega) (by omega) (by decide +kernel)).mono ?_)
  rintro e w' ⟨rfl, rfl⟩
  go_wp2_with fail
  (with_reducible refine (RA.out _ _ _ _ _ 1 1 HU1.out (by omega) (by omega) (by decide +kernel)).mono ?_)
  rintro e w' ⟨rfl, rfl⟩
  go_wp2_with fail
  (with_reducible refine (RA.out _ _ _ _ _ 1048577 1 HU1.out (by omega) (by omega) (by decide +kernel)).mono ?_)
  rintro e w' ⟨rfl, rfl⟩
  go_wp2_with fail
  obtain ⟨W2, hV⟩ : ∃ V, W1.alloc (.cells #[.int .i64 0] 3) = V := ⟨_, rfl⟩
  have HV := Lib.hid (show IL W2 W2.heap.size (some ⟨W1.heap.size, 0, none⟩) 1 1 [0] from by rw [← hV]; exact il_lit W1 rfl rfl rfl)
  have HU2 := Lib.hid (show IL W2 W2.heap.size (some ⟨b, 0, none⟩) 4 4 [-1, 0, -1, 2] from by rw [← hV]; exact il_alloc HU1.out _)
  have HB2 := Lib.hid (show Below w.heap.size w W2 from by rw [← hV]; exact bel_alloc HB1.out _)
  rw [hV]
  clear hV HU1 HB1
  (with_reducible refine (RA.out _ _ _ _ _ 1 0 HV.out (by omega) (by omega) (by decide +kernel)).mono ?_)
  rintro e w' ⟨rfl, rfl⟩
  clear HV
  go_wp2_with fail
  obtain ⟨W3, hV⟩ : ∃ V, W2.alloc (.cells #[.int .i64 0] 3) = V := ⟨_, rfl⟩
  have HV := Lib.hid (show IL W3 W3.heap.size (some ⟨W2.heap.size, 0, none⟩) 1 1 [0] from by rw [← hV]; exact il_lit W2 rfl rfl rfl)
  have HU3 := Lib.hid (show IL W3 W3.heap.size (some ⟨b, 0, none⟩) 4 4 [-1, 0, -1, 2] from by rw [← hV]; exact il_alloc HU2.out _)
  have HB3 := Lib.hid (show Below w.heap.size w W3 from by rw [← hV]; exact bel_alloc HB2.out _)
  rw [hV]
  clear hV HU2 HB2
  (with_reducible refine (RR.out _ _ _ _ _ false HV.out (by omega) (by decide +kernel)).mono ?_)
  rintro e w' ⟨rfl, rfl⟩
  clear HV
  go_wp2_with fail
  obtain ⟨W4, hV⟩ : ∃ V, W3.alloc (.cells #[.int .i64 (-2)] 3) = V := ⟨_, rfl⟩
  have HV := Lib.hid (show IL W4 W4.heap.size (some ⟨W3.heap.size, 0, none⟩) 1 1 [-2] from by rw [← hV]; exact il_lit W3 rfl rfl rfl)
  have HU4 := Lib.hid (show IL W4 W4.heap.size (some ⟨b, 0, none⟩) 4 4 [-1, 0, -1, 2] from by rw [← hV]; exact il_alloc HU3.out _)
  have HB4 := Lib.hid (show Below w.heap.size w W4 from by rw [← hV]; exact bel_alloc HB3.out _)
  rw [hV]
  clear hV HU3 HB3
  (with_reducible refine (RR.out _ _ _ _ _ false HV.out (by omega) (by decide +kernel)).mono ?_)
  rintro e w' ⟨rfl, rfl⟩
  clear HV
  have hmk := run_make_row' (P := Try.prog) 22 3 (.int .i64 0) 8 Try.underlying22 info_int rfl .i64 .i64 9 (by omega) (by omega) W4
  rw [show ((9 : Nat) : Int) = (9 : Int) from rfl] at hmk
  obtain ⟨W5, hV⟩ : ∃ V, W4.alloc (.cells (madeCells #[.int .i64 0] 9) 3) = V := ⟨_, rfl⟩
  have HV := Lib.hid (show IL W5 W5.heap.size (some ⟨W4.heap.size, 0, none⟩) 9 9 (List.replicate 9 0) from by rw [← hV]; exact il_lit W4 (by apply Array.ext'; rw [toList_madeCells_one]; rfl) rfl rfl)
  have HU5 := Lib.hid (show IL W5 W5.heap.size (some ⟨b, 0, none⟩) 4 4 [-1, 0, -1, 2] from by rw [← hV]; exact il_alloc HU4.out _)
  have HB5 := Lib.hid (show Below w.heap.size w W5 from by rw [← hV]; exact bel_alloc HB4.out _)
  rw [hV] at hmk
  clear hV HU4 HB4
  go_wp2_with fail
  (with_reducible refine (RR.out _ _ _ _ _ false HV.out (by omega) (by decide +kernel)).mono ?_)
  rintro e w' ⟨rfl, rfl⟩
  clear HV hmk
  go_wp2_with fail
  (with_reducible refine (RR.out _ _ _ _ [] true (il_none _) (by omega) (by decide +kernel)).mono ?_)
  rintro e w' ⟨rfl, rfl⟩
  go_wp2_with fail
  (with_reducible refine (RH.out _ _ _ _ 8 2 true HU5.out (by omega) (by omega) (by decide +kernel)).mono ?_)
  rintro e w' ⟨rfl, rfl⟩
  go_wp2_with fail
  (with_reducible refine (RH.out _ _ _ _ 8 0 false HU5.out (by omega) (by omega) (by decide +kernel)).mono ?_)
  rintro e w' ⟨rfl, rfl⟩
  go_wp2_with fail
  (with_reducible refine (RH.out _ _ _ _ 8 (-1) false HU5.out (by omega) (by omega) (by decide +kernel)).mono ?_)
  rintro e w' ⟨rfl, rfl⟩
  go_wp2_with fail
  (with_reducible refine (RH.out _ _ _ _ 8 64 false HU5.out (by omega) (by omega) (by decide +kernel)).mono ?_)
  rintro e w' ⟨rfl, rfl⟩
  go_wp2
  go_ret
  exact ⟨rfl, HB5.out⟩
end Go.Proofs.Ytiocmkaplblelaa
