/- The statements of slab: the chapter's example; SlabKnown. -/
import Derived.Test.YtlaknhbgckppkaaSlabD
namespace Go.Proofs.Ytlaknhbgckppkaa
open Go.RowKit
section
variable {w : World} {g d n : Nat} {l : List UInt8} {k left torn : Int} {dead cut : Bool}
theorem write_noE (a : Int) (A : Option Addr) (m c : Nat) (h : Sl w g d n l k dead cut left torn) (ha : a ≤ 9223372036854775807) (hβ : okB dead a (m : Int) n = false) : Calls Try.prog 10 #[.pointer (some ⟨g, 0, none⟩), .int .i64 a, .slice A m c] w fun e w' => e = .returned (.bool false) ∧ Sl w' g d n l k dead cut left torn ∧ But [g, d] w w' :=
  (write_no a A m c h ha hβ).mono fun e w' ⟨he, hw⟩ => ⟨he, by rw [← hw]; exact h, by rw [← hw]; exact But.refl _ _⟩
theorem read_noE (a m : Int) (h : Sl w g d n l k dead cut left torn) (ha : a ≤ 9223372036854775807) (hβ : okB dead a m n = false) : Calls Try.prog 12 #[.pointer (some ⟨g, 0, none⟩), .int .i64 a, .int .i64 m] w fun e w' => e = .returned (.tuple #[.slice none 0 0, .bool false]) ∧ Below w.heap.size w w' :=
  (read_no a m h ha hβ).mono fun e w' ⟨he, hw⟩ => ⟨he, by rw [← hw]; exact Below.refl _ _⟩
end
theorem not2 {a b x : Nat} (h : x ≠ a ∧ x ≠ b) : x ∉ [a, b] := by simp; exact h
theorem not1 {a x : Nat} (h : x ≠ a) : x ∉ [a] := by simp; exact h
/-- Of blocks that lie behind others, none is one of them. -/
theorem apart4 {a b x y N : Nat} (ha : a < N) (hb : b < N) (hx : N ≤ x) (hy : N ≤ y) : (x ≠ a ∧ x ≠ b) ∧ (y ≠ a ∧ y ≠ b) ∧ (a ≠ x ∧ a ≠ y) ∧ (b ≠ x ∧ b ≠ y) := by omega
set_option maxRecDepth 100000 in
set_option maxHeartbeats 1600000 in
theorem known6_c (w : World) : Calls Try.prog 9 #[] w fun e w' => e = .returned (.bool true) ∧ Below w.heap.size w w' := by
  go_enter Try.func9, Try.ntmps9
  go_wp2_with fail
  (with_reducible refine (new_e 2 2 _ (by decide)).mono ?_)
  rintro e w1 ⟨g, d, rfl, hs, hg, hd, hb⟩
  have HG := Lib.hid hg
  have HD := Lib.hid hd
  have HS1 := Lib.hid hs
  have HB1 := Lib.hid hb
  clear hs hg hd hb
  go_wp2_with fail
  (with_reducible refine (cut_c 0 1 true HS1.out (by decide)).mono ?_)
  rintro e w2 ⟨rfl, hs, ht⟩
  have HS2 := Lib.hid hs
  have HB2 := Lib.hid (bel_but1 HB1.out ht HB1.out.size HG.out)
  clear hs ht
  go_wp2_with fail
  (with_reducible refine (write_torn 0 1 0 _ 2 2 [7, 8] (HS2.out.alloc _) (bs_lit w2 (cs := #[.int .u8 7, .int .u8 8]) [7, 8] rfl rfl) rfl rfl rfl rfl (by decide) (by decide) (by decide) (by decide)).mono ?_)
  rintro e w3 ⟨rfl, hs, ht⟩
  have HS3 := Lib.hid hs
  have HB3 := Lib.hid (bel_but (bel_al HB2.out _) ht (by have := HB2.out.size; simp; omega) HG.out HD.out)
  clear hs ht
  go_wp2_with fail
  (with_reducible refine (dead_c HS3.out).mono ?_)
  rintro e w' ⟨rfl, rfl⟩
  go_wp2_with fail
  (with_reducible refine (revive_c HS3.out).mono ?_)
  rintro e w4 ⟨rfl, hs, ht⟩
  have HS4 := Lib.hid hs
  have HB4 := Lib.hid (bel_but1 HB3.out ht HB3.out.size HG.out)
  clear hs ht
  go_wp2_with fail
  (with_reducible refine (read_e 0 2 0 2 [7, 0] HS4.out rfl rfl rfl (by decide) (by decide)).mono ?_)
  rintro e w5 ⟨q, rfl, hr, hq, hb⟩
  have HS5 := Lib.hid (HS4.out.below hb)
  have HB5 := Lib.hid (bel_tr HB4.out hb)
  have hc := str_run (hr.bs (n := 2) rfl)
  clear hr hq hb
  go_wp2_with fail
  (with_reducible refine (dead_c HS5.out).mono ?_)
  rintro e w' ⟨rfl, rfl⟩
  go_wp2
  go_ret
  exact ⟨rfl, HB5.out⟩
set_option maxRecDepth 100000 in
set_option maxHeartbeats 3200000 in
theorem slabKnown_c (w : World) : Calls Try.prog 3 #[] w fun e w' => e = .returned (.bool true) ∧ Below w.heap.size w w' := by
  go_enter Try.func3, Try.ntmps3
  go_wp2_with fail
  (with_reducible refine (new_e 4 4 _ (by decide)).mono ?_)
  rintro e w1 ⟨g, d, rfl, hs, hg, hd, hb⟩
  have HG := Lib.hid hg
  have HD := Lib.hid hd
  have HS1 := Lib.hid (show Sl w1 g d 4 [0, 0, 0, 0] 0 false false 0 0 from hs)
  have HB1 := Lib.hid hb
  clear hs hg hd hb
  go_wp2_with fail
  (with_reducible refine (new_e (-1) 1 _ (by decide)).mono ?_)
  rintro e w2 ⟨g2, d2, rfl, hs, hg, hd, hb⟩
  have HNT := Lib.hid (apart4 HS1.out.lt.1 HS1.out.lt.2 hg hd)
  have HS2 := Lib.hid (HS1.out.below hb)
  have HT2 := Lib.hid hs
  have HB2 := Lib.hid (bel_tr HB1.out hb)
  clear hs hg hd hb
  go_wp2_with fail
  (with_reducible refine (new_e 1099511627776 65536 _ (by decide)).mono ?_)
  rintro e w3 ⟨g3, d3, rfl, hs, hg, hd, hb⟩
  have HNU := Lib.hid (apart4 HS2.out.lt.1 HS2.out.lt.2 hg hd)
  have HS3 := Lib.hid (HS2.out.below hb)
  have HT3 := Lib.hid (HT2.out.below hb)
  have HU3 := Lib.hid hs
  have HB3 := Lib.hid (bel_tr HB2.out hb)
  clear hs hg hd hb
  go_wp2_with fail
  (with_reducible refine (known6_c _).mono ?_)
  rintro e w4 ⟨rfl, hb⟩
  have HS4 := Lib.hid (HS3.out.below hb)
  have HT4 := Lib.hid (HT3.out.below hb)
  have HU4 := Lib.hid (HU3.out.below hb)
  have HB4 := Lib.hid (bel_tr HB3.out hb)
  clear hb
  go_wp2_with fail
  (with_reducible refine (write_noE 3 _ 2 2 (HS4.out.alloc _) (by decide) (by decide)).mono ?_)
  rintro e w5 ⟨rfl, hs, ht⟩
  have HS5 := Lib.hid (show Sl w5 g d 4 [0, 0, 0, 0] 0 false false 0 0 from hs)
  have HT5 := Lib.hid ((HT4.out.alloc _).but ht (not2 HNT.out.1) (not2 HNT.out.2.1))
  have HU5 := Lib.hid ((HU4.out.alloc _).but ht (not2 HNU.out.1) (not2 HNU.out.2.1))
  have HB5 := Lib.hid (bel_but (bel_al HB4.out _) ht (by have := HB4.out.size; first | omega | (simp; omega)) HG.out HD.out)
  clear hs ht
  go_wp2_with fail
  (with_reducible refine (write_noE (-1) none 0 0 HS5.out (by decide) (by decide)).mono ?_)
  rintro e w6 ⟨rfl, hs, ht⟩
  have HS6 := Lib.hid (show Sl w6 g d 4 [0, 0, 0, 0] 0 false false 0 0 from hs)
  have HT6 := Lib.hid (HT5.out.but ht (not2 HNT.out.1) (not2 HNT.out.2.1))
  have HU6 := Lib.hid (HU5.out.but ht (not2 HNU.out.1) (not2 HNU.out.2.1))
  have HB6 := Lib.hid (bel_but HB5.out ht (by have := HB5.out.size; first | omega | (simp; omega)) HG.out HD.out)
  clear hs ht
  go_wp2_with fail
  (with_reducible refine (write_free 4 4 none 0 0 [] HS6.out (Bs.nil_ _ _) rfl rfl rfl (by decide) (by decide) (by decide)).mono ?_)
  rintro e w7 ⟨rfl, hs, ht⟩
  have HS7 := Lib.hid (show Sl w7 g d 4 [0, 0, 0, 0] 1 false false 0 0 from hs)
  have HT7 := Lib.hid (HT6.out.but ht (not2 HNT.out.1) (not2 HNT.out.2.1))
  have HU7 := Lib.hid (HU6.out.but ht (not2 HNU.out.1) (not2 HNU.out.2.1))
  have HB7 := Lib.hid (bel_but HB6.out ht (by have := HB6.out.size; first | omega | (simp; omega)) HG.out HD.out)
  clear hs ht
  go_wp2_with fail
  (with_reducible refine (cut_c 1 9 true HS7.out (by decide)).mono ?_)
  rintro e w8 ⟨rfl, hs, ht⟩
  have HS8 := Lib.hid (show Sl w8 g d 4 [0, 0, 0, 0] 1 false true 1 9 from hs)
  have HT8 := Lib.hid (HT7.out.but ht (not1 HNT.out.1.1) (not1 HNT.out.2.1.1))
  have HU8 := Lib.hid (HU7.out.but ht (not1 HNU.out.1.1) (not1 HNU.out.2.1.1))
  have HB8 := Lib.hid (bel_but1 HB7.out ht HB7.out.size HG.out)
  clear hs ht
  go_wp2_with fail
  (with_reducible refine (write_less 0 0 _ 1 1 [5] (HS8.out.alloc _) (bs_lit w8 (cs := #[.int .u8 5]) [5] rfl rfl) rfl rfl rfl (by decide) (by decide) (by decide) (by decide) (by decide)).mono ?_)
  rintro e w9 ⟨rfl, hs, ht⟩
  have HS9 := Lib.hid (show Sl w9 g d 4 [5, 0, 0, 0] 2 false true 0 9 from hs)
  have HT9 := Lib.hid ((HT8.out.alloc _).but ht (not2 HNT.out.1) (not2 HNT.out.2.1))
  have HU9 := Lib.hid ((HU8.out.alloc _).but ht (not2 HNU.out.1) (not2 HNU.out.2.1))
  have HB9 := Lib.hid (bel_but (bel_al HB8.out _) ht (by have := HB8.out.size; first | omega | (simp; omega)) HG.out HD.out)
  clear hs ht
  go_wp2_with fail
  (with_reducible refine (write_torn 1 2 1 _ 2 2 [6, 7] (HS9.out.alloc _) (bs_lit w9 (cs := #[.int .u8 6, .int .u8 7]) [6, 7] rfl rfl) rfl rfl rfl rfl (by decide) (by decide) (by decide) (by decide)).mono ?_)
  rintro e w10 ⟨rfl, hs, ht⟩
  have HS10 := Lib.hid (show Sl w10 g d 4 [5, 6, 7, 0] 3 true true 0 9 from hs)
  have HT10 := Lib.hid ((HT9.out.alloc _).but ht (not2 HNT.out.1) (not2 HNT.out.2.1))
  have HU10 := Lib.hid ((HU9.out.alloc _).but ht (not2 HNU.out.1) (not2 HNU.out.2.1))
  have HB10 := Lib.hid (bel_but (bel_al HB9.out _) ht (by have := HB9.out.size; first | omega | (simp; omega)) HG.out HD.out)
  clear hs ht
  go_wp2_with fail
  (with_reducible refine (write_noE 0 _ 1 1 (HS10.out.alloc _) (by decide) (by decide)).mono ?_)
  rintro e w11 ⟨rfl, hs, ht⟩
  have HS11 := Lib.hid (show Sl w11 g d 4 [5, 6, 7, 0] 3 true true 0 9 from hs)
  have HT11 := Lib.hid ((HT10.out.alloc _).but ht (not2 HNT.out.1) (not2 HNT.out.2.1))
  have HU11 := Lib.hid ((HU10.out.alloc _).but ht (not2 HNU.out.1) (not2 HNU.out.2.1))
  have HB11 := Lib.hid (bel_but (bel_al HB10.out _) ht (by have := HB10.out.size; first | omega | (simp; omega)) HG.out HD.out)
  clear hs ht
  go_wp2_with fail
  (with_reducible refine (read_noE 0 1 HS11.out (by decide) (by decide)).mono ?_)
  rintro e w12 ⟨rfl, hb⟩
  have HS12 := Lib.hid (HS11.out.below hb)
  have HT12 := Lib.hid (HT11.out.below hb)
  have HU12 := Lib.hid (HU11.out.below hb)
  have HB12 := Lib.hid (bel_tr HB11.out hb)
  clear hb
  go_wp2_with fail
  (with_reducible refine (revive_c HS12.out).mono ?_)
  rintro e w13 ⟨rfl, hs, ht⟩
  have HS13 := Lib.hid (show Sl w13 g d 4 [5, 6, 7, 0] 3 false false 0 9 from hs)
  have HT13 := Lib.hid (HT12.out.but ht (not1 HNT.out.1.1) (not1 HNT.out.2.1.1))
  have HU13 := Lib.hid (HU12.out.but ht (not1 HNU.out.1.1) (not1 HNU.out.2.1.1))
  have HB13 := Lib.hid (bel_but1 HB12.out ht HB12.out.size HG.out)
  clear hs ht
  go_wp2_with fail
  (with_reducible refine (read_e 0 4 0 4 [5, 6, 7, 0] HS13.out rfl rfl rfl (by decide) (by decide)).mono ?_)
  rintro e w14 ⟨q, rfl, hr, hq, hb⟩
  have HS14 := Lib.hid (HS13.out.below hb)
  have HT14 := Lib.hid (HT13.out.below hb)
  have HU14 := Lib.hid (HU13.out.below hb)
  have HB14 := Lib.hid (bel_tr HB13.out hb)
  have HR14 := Lib.hid hr
  have HNQ := Lib.hid (show q ≠ g by have := HS13.out.lt.1; omega)
  clear hr hq
  clear hb
  go_wp2_with fail
  (with_reducible refine (read_noE 2 3 HS14.out (by decide) (by decide)).mono ?_)
  rintro e w15 ⟨rfl, hb⟩
  have HS15 := Lib.hid (HS14.out.below hb)
  have HT15 := Lib.hid (HT14.out.below hb)
  have HU15 := Lib.hid (HU14.out.below hb)
  have HR15 := Lib.hid (HR14.out.below hb)
  have HB15 := Lib.hid (bel_tr HB14.out hb)
  clear hb
  go_wp2_with fail
  (with_reducible refine (cut_c (-5) 0 false HS15.out (by decide)).mono ?_)
  rintro e w16 ⟨rfl, hs, ht⟩
  have HS16 := Lib.hid (show Sl w16 g d 4 [5, 6, 7, 0] 3 false false (-5) 0 from hs)
  have HT16 := Lib.hid (HT15.out.but ht (not1 HNT.out.1.1) (not1 HNT.out.2.1.1))
  have HU16 := Lib.hid (HU15.out.but ht (not1 HNU.out.1.1) (not1 HNU.out.2.1.1))
  have HB16 := Lib.hid (bel_but1 HB15.out ht HB15.out.size HG.out)
  have HR16 := Lib.hid (HR15.out.but ht (not1 HNQ.out))
  clear hs ht
  have hc := str_run (HR16.out.bs (n := 4) rfl)
  go_wp2_with fail
  (with_reducible refine (write_free 0 0 _ 1 1 [1] (HS16.out.alloc _) (bs_lit w16 (cs := #[.int .u8 1]) [1] rfl rfl) rfl rfl rfl (by decide) (by decide) (by decide)).mono ?_)
  rintro e w17 ⟨rfl, hs, ht⟩
  have HS17 := Lib.hid (show Sl w17 g d 4 [1, 6, 7, 0] 4 false false (-5) 0 from hs)
  have HT17 := Lib.hid ((HT16.out.alloc _).but ht (not2 HNT.out.1) (not2 HNT.out.2.1))
  have HU17 := Lib.hid ((HU16.out.alloc _).but ht (not2 HNU.out.1) (not2 HNU.out.2.1))
  have HB17 := Lib.hid (bel_but (bel_al HB16.out _) ht (by have := HB16.out.size; first | omega | (simp; omega)) HG.out HD.out)
  clear hs ht
  go_wp2_with fail
  (with_reducible refine (writes_c HS17.out).mono ?_)
  rintro e w' ⟨rfl, rfl⟩
  go_wp2_with fail
  (with_reducible refine (size_c HT17.out).mono ?_)
  rintro e w' ⟨rfl, rfl⟩
  go_wp2_with fail
  (with_reducible refine (size_c HU17.out).mono ?_)
  rintro e w' ⟨rfl, rfl⟩
  go_wp2_with fail
  (with_reducible refine (size_c HS17.out).mono ?_)
  rintro e w' ⟨rfl, rfl⟩
  go_wp2
  go_ret
  exact ⟨rfl, HB17.out⟩
end Go.Proofs.Ytlaknhbgckppkaa
