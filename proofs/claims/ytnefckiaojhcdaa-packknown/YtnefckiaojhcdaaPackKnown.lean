/- 'PackKnown' returns true. No condition. -/
import Derived.Test.YtnefckiaojhcdaaRows
import Derived.WalkKit
import Derived.ProofKit
import Derived.OpenShut
import Derived.Test.YtnefckiaojhcdaaPackK
import Derived.Test.YtnefckiaojhcdaaPost
namespace Go.Proofs.Ytnefckiaojhcdaa.packKnown
open Go.ChangeShapes Go.WideShapes Go.ChangeAt Go.RowKit
set_option linter.unusedVariables false

theorem own : ownKnob Try.prog.godebug = none := by kernel_rfl

theorem grown_of {w w' : World} {B g : Nat} (h : w.grownBy w' (some g)) (hg : B ≤ g) (hB : B ≤ w.heap.size) : Below B w w' :=
  (Below.refl _ _).grown h hB (fun k hk => by cases hk; exact hg)
theorem idx0 : ∀ W : World, (Instr.index 41 (.agg #[.string ⟨#[]⟩, .string ⟨#[128]⟩, .string ⟨#[128, 0]⟩, .string ⟨#[255, 255, 255, 255, 255, 255, 255, 255, 255, 2]⟩, .string ⟨#[255, 255, 255, 255, 255, 255, 255, 255, 255, 255, 1]⟩, .string ⟨#[129, 128, 0]⟩]) (.int .i64 0)).run Try.prog W = .ok (.string ⟨#[]⟩) W := fun W => by kernel_rfl
theorem idx1 : ∀ W : World, (Instr.index 41 (.agg #[.string ⟨#[]⟩, .string ⟨#[128]⟩, .string ⟨#[128, 0]⟩, .string ⟨#[255, 255, 255, 255, 255, 255, 255, 255, 255, 2]⟩, .string ⟨#[255, 255, 255, 255, 255, 255, 255, 255, 255, 255, 1]⟩, .string ⟨#[129, 128, 0]⟩]) (.int .i64 1)).run Try.prog W = .ok (.string ⟨#[128]⟩) W := fun W => by kernel_rfl
theorem idx2 : ∀ W : World, (Instr.index 41 (.agg #[.string ⟨#[]⟩, .string ⟨#[128]⟩, .string ⟨#[128, 0]⟩, .string ⟨#[255, 255, 255, 255, 255, 255, 255, 255, 255, 2]⟩, .string ⟨#[255, 255, 255, 255, 255, 255, 255, 255, 255, 255, 1]⟩, .string ⟨#[129, 128, 0]⟩]) (.int .i64 2)).run Try.prog W = .ok (.string ⟨#[128, 0]⟩) W := fun W => by kernel_rfl
theorem idx3 : ∀ W : World, (Instr.index 41 (.agg #[.string ⟨#[]⟩, .string ⟨#[128]⟩, .string ⟨#[128, 0]⟩, .string ⟨#[255, 255, 255, 255, 255, 255, 255, 255, 255, 2]⟩, .string ⟨#[255, 255, 255, 255, 255, 255, 255, 255, 255, 255, 1]⟩, .string ⟨#[129, 128, 0]⟩]) (.int .i64 3)).run Try.prog W = .ok (.string ⟨#[255, 255, 255, 255, 255, 255, 255, 255, 255, 2]⟩) W := fun W => by kernel_rfl
theorem idx4 : ∀ W : World, (Instr.index 41 (.agg #[.string ⟨#[]⟩, .string ⟨#[128]⟩, .string ⟨#[128, 0]⟩, .string ⟨#[255, 255, 255, 255, 255, 255, 255, 255, 255, 2]⟩, .string ⟨#[255, 255, 255, 255, 255, 255, 255, 255, 255, 255, 1]⟩, .string ⟨#[129, 128, 0]⟩]) (.int .i64 4)).run Try.prog W = .ok (.string ⟨#[255, 255, 255, 255, 255, 255, 255, 255, 255, 255, 1]⟩) W := fun W => by kernel_rfl
theorem idx5 : ∀ W : World, (Instr.index 41 (.agg #[.string ⟨#[]⟩, .string ⟨#[128]⟩, .string ⟨#[128, 0]⟩, .string ⟨#[255, 255, 255, 255, 255, 255, 255, 255, 255, 2]⟩, .string ⟨#[255, 255, 255, 255, 255, 255, 255, 255, 255, 255, 1]⟩, .string ⟨#[129, 128, 0]⟩]) (.int .i64 5)).run Try.prog W = .ok (.string ⟨#[129, 128, 0]⟩) W := fun W => by kernel_rfl
set_option maxRecDepth 100000 in
set_option maxHeartbeats 12800000 in
theorem walk (w : World) : Calls Try.prog 5 #[] w fun e w' => e = .returned (.bool true) ∧ Below w.heap.size w w' := by
  obtain ⟨i0, hi, hz0, hz1, hz2⟩ := info_parts Try.i8
  go_enter Try.func5, Try.ntmps5
  go_wp2
  go_loopw [27] (fun i wr => ∃ k : Int, 0 ≤ k ∧ k ≤ 6 ∧ i = .int .i64 k ∧ Below w.heap.size w wr) (fun i _ => 6 - (intOf i).toNat)
  case atStart => exact ⟨0, by decide, by decide, rfl, Below.refl _ _⟩
  case round =>
    obtain ⟨k, k0, k6, rfl, hb⟩ := hrel
    have HB := Lib.hid hb
    clear hb
    rcases (show k = 6 ∨ k = 0 ∨ k = 1 ∨ k = 2 ∨ k = 3 ∨ k = 4 ∨ k = 5 by omega) with rfl | rfl | rfl | rfl | rfl | rfl | rfl
    · clear k0 k6
      go_wp2_with fail
      (with_reducible refine (int_least wr _ rfl).mono ?_)
      rintro e w1 ⟨rfl, ho, hb⟩
      have HB1 := Lib.hid (bel_tr HB.out hb)
      have HE := Lib.hid ho
      clear ho hb
      go_wp2_with fail
      (with_reducible refine (known4_c _).mono ?_)
      rintro e w2 ⟨rfl, hb⟩
      have HB2 := Lib.hid (bel_tr HB1.out hb)
      have HE2 := Lib.hid (HE.out.below hb HE.out.lt)
      clear hb
      go_wp2_with fail
      (with_reducible refine (readInt_enc _ 10 10 (-9223372036854775808) [] _ 10 0 enc_min_len rfl (by decide) (by decide) (least_tail HE2.out) (by decide)).mono ?_)
      rintro e w3 ⟨rfl, ho, hb⟩
      have HB3 := Lib.hid (bel_tr HB2.out hb)
      have HE3 := Lib.hid (HE2.out.below hb HE2.out.lt)
      clear ho hb
      go_wp2_with fail
      (with_reducible refine (int_nil 9223372036854775807 10 _ (by decide) (by decide) enc_max_len).mono ?_)
      rintro e w4 ⟨rfl, ho, hb⟩
      have HB4 := Lib.hid (bel_tr HB3.out hb)
      have HE4 := Lib.hid (HE3.out.below hb HE3.out.lt)
      have HM := Lib.hid ho
      clear ho hb
      go_wp2_with (at_builtin; refine wpList_append_own _ rfl (.tmp 58) (.tmp 59) _ rfl w3.heap.size 5 i0 (.int .u8 0) 1 1 Try.u42 hi hz0 hz1 hz2 rfl (by decide) (.slice (some ⟨w3.heap.size, 0, none⟩) 10 10) 10 (Lib.byteCells (enc (zig 9223372036854775807))) rfl (HM.out.2.alloc _) ⟨w4.heap.size, 0, none⟩ 2 2 [.int .u8 5, .int .u8 6] rfl rfl (news_two 5 6 w4) (ones_two 5 6) (by unfold maxLen; omega) (by omega) (by simp; have := HM.out.lt; omega) ?_; intro v5 w5 hown5 hgrow5 _)
      have hb5 : Below w.heap.size w w5 := HB4.out.trans (((Below.refl _ _).alloc HB4.out.size _).trans (grown_of hgrow5 (by have := HB3.out.size; omega) (by have := HB4.out.size; simp; omega)))
      have HB5 := Lib.hid hb5
      rw [byteCells_56] at hown5
      obtain ⟨g5, c5, rfl, ho5⟩ := own_of hown5 (by omega)
      have HE5 := Lib.hid (HE4.out.below (C := w3.heap.size) (((Below.refl _ _).alloc (by have := HM.out.lt; omega) _).trans (grown_of hgrow5 (Nat.le_refl _) (by simp; have := HM.out.lt; omega))) (by have := HE3.out.lt; omega))
      have HM5 := Lib.hid ho5
      clear hown5 hgrow5 hb5 ho5
      go_wp2_with fail
      (with_reducible refine (readInt_enc _ 12 c5 9223372036854775807 [5, 6] _ 10 2 enc_max_len rfl (by decide) (by decide) HM5.out.bs (by decide)).mono ?_)
      rintro e w6 ⟨rfl, ho, hb⟩
      have HB6 := Lib.hid (bel_tr HB5.out hb)
      have HE6 := Lib.hid (HE5.out.below hb HE5.out.lt)
      clear ho hb HM HM5
      go_wp2_with fail
      (with_reducible refine (int_nil 64 2 _ (by decide) (by decide) enc_64_len).mono ?_)
      rintro e w7 ⟨rfl, ho, hb⟩
      have HB7 := Lib.hid (bel_tr HB6.out hb)
      have HE7 := Lib.hid (HE6.out.below hb HE6.out.lt)
      have HM := Lib.hid ho
      clear ho hb
      go_wp2_with (at_builtin; refine wpList_append_own _ rfl (.tmp 66) (.tmp 67) _ rfl w6.heap.size 5 i0 (.int .u8 0) 1 1 Try.u42 hi hz0 hz1 hz2 rfl (by decide) (.slice (some ⟨w6.heap.size, 0, none⟩) 2 10) 2 (Lib.byteCells (enc (zig 64))) rfl (HM.out.2.alloc _) ⟨w7.heap.size, 0, none⟩ 2 2 [.int .u8 5, .int .u8 6] rfl rfl (news_two 5 6 w7) (ones_two 5 6) (by unfold maxLen; omega) (by omega) (by simp; have := HM.out.lt; omega) ?_; intro v8 w8 hown8 hgrow8 _)
      have hb8 : Below w6.heap.size w7 w8 := ((Below.refl _ _).alloc (by have := HM.out.lt; omega) _).trans (grown_of hgrow8 (Nat.le_refl _) (by simp; have := HM.out.lt; omega))
      have HB8 := Lib.hid (HB7.out.trans (hb8.mono HB6.out.size))
      rw [byteCells_56] at hown8
      obtain ⟨g8, c8, rfl, ho8⟩ := own_of hown8 (by omega)
      have HE8 := Lib.hid (HE7.out.below hb8 HE6.out.lt)
      have HM8 := Lib.hid ho8
      clear hown8 hgrow8 hb8 ho8
      go_wp2_with fail
      (with_reducible refine (readInt_enc _ 4 c8 64 [5, 6] _ 2 2 enc_64_len rfl (by decide) (by decide) HM8.out.bs (by decide)).mono ?_)
      rintro e w9 ⟨rfl, ho, hb⟩
      have HB9 := Lib.hid (bel_tr HB8.out hb)
      have HE9 := Lib.hid (HE8.out.below hb HE8.out.lt)
      have HF9 := Lib.hid ho
      clear ho hb HM HM8
      go_wp2_with fail
      (with_reducible refine (text_ab _).mono ?_)
      rintro e w10 ⟨g10, c10, rfl, ho, hb⟩
      have HB10 := Lib.hid (bel_tr HB9.out hb)
      have HE10 := Lib.hid (HE9.out.below hb HE9.out.lt)
      have HF10 := Lib.hid (HF9.out.below hb HF9.out.lt)
      have HM := Lib.hid ho
      clear ho hb
      go_wp2_with (at_builtin; refine wpList_append_own _ rfl (.tmp 74) (.tmp 75) _ rfl w9.heap.size 5 i0 (.int .u8 0) 1 1 Try.u42 hi hz0 hz1 hz2 rfl (by decide) (.slice (some ⟨g10, 0, none⟩) 3 c10) 3 (Lib.byteCells [4, 97, 98]) rfl (HM.out.2.alloc _) ⟨w10.heap.size, 0, none⟩ 1 1 [.int .u8 7] rfl rfl (one_news _ _ _) (one_ones _) (by unfold maxLen; omega) (by omega) (by simp; have := HM.out.lt; have := HM.out.ge; omega) ?_; intro v11 w11 hown11 hgrow11 _)
      have hb11 : Below w9.heap.size w10 w11 := ((Below.refl _ _).alloc (by have := HM.out.lt; have := HM.out.ge; omega) _).trans (grown_of hgrow11 HM.out.ge (by simp; have := HM.out.lt; have := HM.out.ge; omega))
      have HB11 := Lib.hid (HB10.out.trans (hb11.mono HB9.out.size))
      rw [byteCells_7] at hown11
      obtain ⟨g11, c11, rfl, ho11⟩ := own_of hown11 (by omega)
      have HE11 := Lib.hid (HE10.out.below hb11 HE9.out.lt)
      have HF11 := Lib.hid (HF10.out.below hb11 HF9.out.lt)
      have HM11 := Lib.hid ho11
      clear hown11 hgrow11 hb11 ho11
      go_wp2_with fail
      (with_reducible refine (rt_ab _ c11 _ HM11.out.bs).mono ?_)
      rintro e w12 ⟨rfl, ho, hb⟩
      have HB12 := Lib.hid (bel_tr HB11.out hb)
      have HE12 := Lib.hid (HE11.out.below hb HE11.out.lt)
      have HF12 := Lib.hid (HF11.out.below hb HF11.out.lt)
      have HR12 := Lib.hid ho
      clear ho hb HM HM11
      go_wp2_with fail
      (with_reducible refine (rt_one w12 _ rfl).mono ?_)
      rintro e w' ⟨rfl, rfl⟩
      go_wp2_with fail
      (with_reducible refine (rt_two _ (w12.heap.size + 1) _ rfl (by simp)).mono ?_)
      rintro e w' ⟨rfl, rfl⟩
      go_wp2_with fail
      (with_reducible refine (known4_c _).mono ?_)
      rintro e w13 ⟨rfl, hb⟩
      have hb13 : Below w12.heap.size w12 w13 := (((Below.refl _ _).alloc (Nat.le_refl _) _).alloc (by simp) _).trans (hb.mono (by simp; omega))
      have HB13 := Lib.hid (bel_tr HB12.out hb13)
      have hc0 := least_head (HE12.out.below hb13 HE12.out.lt)
      have q1 := str_run (HF12.out.below hb13 HF12.out.lt).bs
      have q2 := str_run (HR12.out.below hb13 HR12.out.lt).bs
      clear hb hb13
      go_wp2
      go_ret
      exact ⟨rfl, HB13.out⟩
    · have hidx := idx0
      obtain ⟨c, w1, hrun, hbs, hbel⟩ := conv_bytes [] wr
      have HBS := Lib.hid hbs
      have HBE := Lib.hid (bel_tr HB.out hbel)
      clear hbs hbel
      go_wp2_with fail
      refine (readInt_no _ _ _ [] _ HBS.out (by decide) (f_none _ (by simp))).mono ?_
      rintro e w' ⟨rfl, rfl⟩
      go_wp2
      go_roundw
      case rel => exact ⟨1, by decide, by decide, rfl, HBE.out⟩
      case measure => decide
    · have hidx := idx1
      obtain ⟨c, w1, hrun, hbs, hbel⟩ := conv_bytes [128] wr
      have HBS := Lib.hid hbs
      have HBE := Lib.hid (bel_tr HB.out hbel)
      clear hbs hbel
      go_wp2_with fail
      refine (readInt_no _ _ _ [128] _ HBS.out (by decide) (f_none _ (by simp))).mono ?_
      rintro e w' ⟨rfl, rfl⟩
      go_wp2
      go_roundw
      case rel => exact ⟨2, by decide, by decide, rfl, HBE.out⟩
      case measure => decide
    · have hidx := idx2
      obtain ⟨c, w1, hrun, hbs, hbel⟩ := conv_bytes [128, 0] wr
      have HBS := Lib.hid hbs
      have HBE := Lib.hid (bel_tr HB.out hbel)
      clear hbs hbel
      go_wp2_with fail
      refine (readInt_no _ _ _ [128, 0] _ HBS.out (by decide) (f_none _ (by simp))).mono ?_
      rintro e w' ⟨rfl, rfl⟩
      go_wp2
      go_roundw
      case rel => exact ⟨3, by decide, by decide, rfl, HBE.out⟩
      case measure => decide
    · have hidx := idx3
      obtain ⟨c, w1, hrun, hbs, hbel⟩ := conv_bytes [255, 255, 255, 255, 255, 255, 255, 255, 255, 2] wr
      have HBS := Lib.hid hbs
      have HBE := Lib.hid (bel_tr HB.out hbel)
      clear hbs hbel
      go_wp2_with fail
      refine (readInt_no _ _ _ [255, 255, 255, 255, 255, 255, 255, 255, 255, 2] _ HBS.out (by decide) (f_none _ (by simp))).mono ?_
      rintro e w' ⟨rfl, rfl⟩
      go_wp2
      go_roundw
      case rel => exact ⟨4, by decide, by decide, rfl, HBE.out⟩
      case measure => decide
    · have hidx := idx4
      obtain ⟨c, w1, hrun, hbs, hbel⟩ := conv_bytes [255, 255, 255, 255, 255, 255, 255, 255, 255, 255, 1] wr
      have HBS := Lib.hid hbs
      have HBE := Lib.hid (bel_tr HB.out hbel)
      clear hbs hbel
      go_wp2_with fail
      refine (readInt_no _ _ _ [255, 255, 255, 255, 255, 255, 255, 255, 255, 255, 1] _ HBS.out (by decide) (f_none _ (by simp))).mono ?_
      rintro e w' ⟨rfl, rfl⟩
      go_wp2
      go_roundw
      case rel => exact ⟨5, by decide, by decide, rfl, HBE.out⟩
      case measure => decide
    · have hidx := idx5
      obtain ⟨c, w1, hrun, hbs, hbel⟩ := conv_bytes [129, 128, 0] wr
      have HBS := Lib.hid hbs
      have HBE := Lib.hid (bel_tr HB.out hbel)
      clear hbs hbel
      go_wp2_with fail
      refine (readInt_no _ _ _ [129, 128, 0] _ HBS.out (by decide) (f_none _ (by simp))).mono ?_
      rintro e w' ⟨rfl, rfl⟩
      go_wp2
      go_roundw
      case rel => exact ⟨6, by decide, by decide, rfl, HBE.out⟩
      case measure => decide

set_option maxRecDepth 100000 in
theorem lifted (os : Os) (started : os.Started) (H : Type) (enc : TypeId × Value → H) :
    ReturnsInHanded {} Try.checked os 5 .any (Rows.packKnownSpec.pre6 enc Try.prog Try.f5 Rows.packKnownRow.domain false) (Rows.packKnownSpec.post enc Try.prog Try.f5 false true false false) := by
  refine returnsInHanded_of_change (C := Try.checked) own started (by kernel_rfl) Try.func5
    (ChangeSpec.witness6 (enc := enc) (C := Try.checked) false ⟨#[], #[], []⟩ 8 (by kernel_rfl) (by kernel_rfl) (by kernel_rfl) (by kernel_rfl)) ?_
  intro W base args ds gs before hval0 hW hcnd _
  have hval : ∀ (j : Nat) t v, Try.f5.params[j]? = some t → args[j]? = some v → Value.okWide Try.prog W .any base t v := hval0
  have hW' := hW
  obtain ⟨p, q, hA0, hV, rfl, hfz, hnd⟩ := hW
  have hA : DataW.TrodAll enc Try.prog W 0 (fun _ => true) true Try.f5.params.toList args.toList ds p := hA0
  rw [Try.params5] at hA hval
  obtain ⟨rfl, rfl, rfl⟩ := trodAll_none hA
  obtain ⟨rfl, rfl⟩ := trodVars_none hV
  clear hA0 hval0
  simp only [List.append_nil] at hW'
  refine (walk  W).mono fun e W' ⟨he, hg⟩ => ?_
  subst he
  exact ⟨_, rfl, post_bel (pa := []) (pv := []) hW' (fun _ _ _ => (trodAll_cons_mk (shut_bool Try.underlying4 _) trodAll_mk0)) (fun sp _ => rfl) (fun _ _ => rfl) rfl
    hg (ok_one (by kernel_rfl) rfl (okWide_bool_mk Try.underlying4 _))⟩

theorem over : Rows.packKnownRow.holds Try.pinned (OpenSpec.ofChange Rows.packKnownSpec) :=
  OpenClaim.holds_of_wide 5 Try.f5 rfl rfl rfl rfl rfl rfl rfl ⟨rfl, rfl, rfl, rfl, rfl⟩ rfl rfl rfl rfl rfl (by kernel_rfl) Try.func5 (by kernel_rfl)
    (of_decide_eq_true (by kernel_rfl)) (by unfold Func.isWrapper; first | (rw [if_pos (by decide +kernel)]; kernel_rfl) | (rw [if_neg (by decide +kernel)]; exact ⟨rfl, rfl⟩))
    (fun os started H enc _ => lifted os started H enc)

/-- The given statement. -/
theorem proved : Rows.PackKnownSaid :=
  over
#print axioms proved
end Go.Proofs.Ytnefckiaojhcdaa.packKnown
