/- pyxlaw2: known. -/
import Derived.Test.YtjpimiagcijejaaGreatDoorTextG
namespace Go.Proofs.YtjpimiagcijejaaGreatDoor
open Go.RowKit
theorem dd0 : Lib.decDigits 0 = [48] := by rw [Lib.decDigits]; rfl
theorem dd1250 : Lib.decDigits 1250 = [49, 50, 53, 48] := by
  rw [Lib.decDigits, dif_neg (by omega), Lib.decDigits, dif_neg (by omega), Lib.decDigits, dif_neg (by omega), Lib.decDigits, dif_pos (by omega)]
  rfl
theorem print1250 : printL true 1250 2 = [45, 49, 50, 46, 53, 48] := by
  unfold printL figL
  rw [show 1250 / 1000000000000000 = 0 from rfl, show 1250 % 1000000000000000 = 1250 from rfl, dd0, dd1250]
  rfl
theorem read1250 (m : Int) (w : World) (hm : w.cell? ⟨0, 0, none⟩ = some (.int .i64 m)) : Calls Tryz.prog 16 #[.string ⟨#[45, 49, 50, 46, 53, 48]⟩] w (Ret w (· = .tuple #[.agg #[.bool true, .int .u64 1250, .int .u64 0, .int .i64 2], .int .i64 0])) := by
  refine (read_c true [49, 50] [53, 48] m w (by decide) (by decide) (by decide) (by decide) (by decide) (by decide) (by decide) hm).mono ?_
  rintro e w' ⟨_, ⟨n, a, b, HD, rfl⟩, rfl, hb⟩
  refine ⟨_, ?_, rfl, hb⟩
  obtain ⟨h1, h2, h3, h4⟩ := HD
  have ez : zOf true (numL ([49, 50] ++ [53, 48])) = -1250 := by decide
  rw [ez] at h1 h4
  have hn : n = true := by simpa using h1
  have h4' : v2 a b = 1250 := by simpa using h4
  obtain ⟨ea, eb⟩ : a = 1250 ∧ b = 0 := by unfold U64 at h2 h3; unfold v2 at h4'; omega
  subst hn ea eb
  rfl
theorem printed1250 (w : World) (htab : Lib.TabIs Tryz.prog w "internal/strconv.uint64pow10" .u64 Lib.pow10Tab) : Calls Tryz.prog 27 #[.agg #[.bool true, .int .u64 1250, .int .u64 0, .int .i64 2]] w (Ret w (· = .string ⟨#[45, 49, 50, 46, 53, 48]⟩)) := by
  have h := print_c true 1250 0 2 w (by unfold U64; decide) (by unfold U64; decide) (by decide) 1250 (by decide) htab
  rw [print1250] at h
  exact h
set_option maxRecDepth 100000 in
set_option maxHeartbeats 1600000 in
theorem known_c (m : Int) (w : World) (hm : w.cell? ⟨0, 0, none⟩ = some (.int .i64 m)) (htab : Lib.TabIs Tryz.prog w "internal/strconv.uint64pow10" .u64 Lib.pow10Tab) : Calls Tryz.prog 18 #[] w (Ret w (IsBool true)) := by
  have HT := Lib.hid htab
  clear htab
  go_enter Tryz.func18, Tryz.ntmps18
  go_wp2_with fail
  refine (read1250 m _ hm).mono ?_
  rintro e w1 ⟨_, rfl, rfl, hb1⟩
  have he : eqW2 1250 0 1250 0 = true := rfl
  have hbx := bel_alloc hb1 (.cells #[.bool true, .int .u64 1250, .int .u64 0, .int .i64 2] 25)
  go_wp2_with fail
  refine (printed1250 _ (tabIs_below HT.out hbx)).mono ?_
  rintro e w2 ⟨_, rfl, rfl, hb2⟩
  have HB2 := Lib.hid (hbx.trans (hb2.mono hbx.size))
  clear hbx hb2 hb1
  go_wp2
  go_ret
  exact ⟨_, rfl, rfl, HB2.out⟩
end Go.Proofs.YtjpimiagcijejaaGreatDoor
