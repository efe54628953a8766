/- Package pyxref1: Read at any text. -/
import Derived.Test.YtlhceelkefgjhaaGreatDoorTextO
import Derived.Test.YtlhceelkefgjhaaGreatDoorRefQ
namespace Go.Proofs.YtlhceelkefgjhaaGreatDoor
open Go.RowKit
def RdS (w : World) (r : List UInt8) (nv hv tv pv iv : Value) (wr : World) : Prop := ∃ (k a b m : Nat) (H T : List UInt8) (p : Bool) (A : Option Addr) (cap : Nat) (ds : List Nat), RdI r k H T p ∧ H.length = a ∧ T.length = b ∧ m = a + b ∧ DigC wr A m cap ds ∧ dv ds = numL (H ++ T) ∧ nv = .slice A m cap ∧ hv = .int .i64 a ∧ tv = .int .i64 b ∧ pv = .bool p ∧ iv = .int .i64 k ∧ HB w [(w.heap.size, 25, #[.bool false, .int .u64 0, .int .u64 0, .int .i64 0])] wr
theorem rdS_0 {w wr : World} (r : List UInt8) (h : HB w [(w.heap.size, 25, #[.bool false, .int .u64 0, .int .u64 0, .int .i64 0])] wr) : RdS w r (.slice none 0 0) (.int .i64 0) (.int .i64 0) (.bool false) (.int .i64 0) wr :=
  ⟨0, 0, 0, 0, [], [], false, none, 0, [], rdI_0 r, rfl, rfl, rfl, ⟨rfl, ⟨Nat.le_refl _, fun _ => rfl⟩, by omega, by simp, fun h => absurd h (by omega)⟩, by simp [dv, numL], rfl, rfl, rfl, rfl, rfl, h⟩
theorem numL_push (L : List UInt8) (c : UInt8) : numL (L ++ [c]) = (c.toNat - 48) + 10 * numL L := by rw [numL_snoc]; omega
theorem numL_headpush (H T : List UInt8) (c : UInt8) (hT : T = []) : numL ((H ++ [c]) ++ T) = (c.toNat - 48) + 10 * numL (H ++ T) := by
  subst hT
  rw [List.append_nil, List.append_nil, numL_push]
theorem numL_tailpush (H T : List UInt8) (c : UInt8) : numL (H ++ (T ++ [c])) = (c.toNat - 48) + 10 * numL (H ++ T) := by
  rw [← List.append_assoc, numL_push]
theorem trim_zero {ds : List Nat} {t : Nat} (h : TrimAt ds t) (hd : dv ds = 0) : t = 0 := by
  have h1 := h.1
  have h2 := dv_trim (ds := ds) (m := t) h
  obtain ⟨e, hn⟩ := h2
  rw [hd] at e
  rcases hn with hn | hn
  · have : (ds.take t).length = 0 := by rw [hn]; rfl
    rw [List.length_take] at this
    omega
  · by_cases ht : t = 0
    · exact ht
    · exfalso
      have hne : ds.take t ≠ [] := fun h0 => by rw [h0] at hn; exact hn rfl
      have := dv_ge hne hn
      rw [e] at this
      exact absurd this (Nat.not_le.2 (Nat.pow_pos (by decide)))
theorem bytes_tail (r : List UInt8) : (⟨(45 :: r).toArray⟩ : ByteArray).extract 1 (r.length + 1) = ⟨r.toArray⟩ := by
  rw [Lib.extract_eq]
  simp
set_option maxRecDepth 100000 in
set_option maxHeartbeats 6400000 in
theorem rreadR (n : Bool) (t r : List UInt8) (w : World) (ht : r.length ≤ 281474976710656) (hn : (n = true ∧ t = 45 :: r) ∨ (n = false ∧ r = t ∧ ∀ h : 0 < t.length, ¬ ((⟨t.toArray⟩ : ByteArray)[0]'h).toNat = 45)) :
    Calls Tryz.prog 16 #[.string ⟨t.toArray⟩] w (Ret w (Ans (readR n r))) := by
  have hle : w.heap.size ≤ w.heap.size := Nat.le_refl _
  have V : HB w [(w.heap.size, 25, #[.bool false, .int .u64 0, .int .u64 0, .int .i64 0])] (w.alloc (.cells #[.bool false, .int .u64 0, .int .u64 0, .int .i64 0] 25)) := (HB.start (Below.refl _ w)).push _ _
  have HV := Lib.hid V
  clear V
  obtain ⟨R, hR⟩ : ∃ R, readR n r = R := ⟨_, rfl⟩
  have HRE := Lib.hid hR
  rw [hR]
  clear hR
  rcases hn with ⟨rfl, rfl⟩ | ⟨rfl, rfl, hne⟩
  · have g45 : ((⟨(45 :: r).toArray⟩ : ByteArray)[0]'(Nat.succ_pos _)).toNat = 45 := rfl
    go_enter Tryz.func16, Tryz.ntmps16
    go_upto_region 4 with fail
    simp only [bytes_tail]
    clear g45
    go_wp2
    go_loopw [5, 6, 7, 8, 9] (fun nv hv tv pv iv wr => RdS w r nv hv tv pv iv wr) (fun _ _ _ _ iv _ => r.length - (intOf iv).toNat)
    case atStart => exact rdS_0 r HV.out
    case round =>
      obtain ⟨k, a, b, m, H, T, p, A, cap, ds, hI, hHa, hTb, hm, hD, hdv, rfl, rfl, rfl, rfl, rfl, hB⟩ := hrel
      have hk := hI.1
      have ha30 : a ≤ 30 := by rw [← hHa]; exact hI.2.2.2.2.2.1
      have hb9 : b ≤ 9 := by rw [← hTb]; exact hI.2.2.2.2.2.2.1
      have hm39 : m ≤ 39 := by omega
      have HI := Lib.hid hI
      have HHa := Lib.hid hHa
      have HTb := Lib.hid hTb
      have HM := Lib.hid hm
      have HDV := Lib.hid hdv
      clear hI hHa hTb hm hdv HV
      by_cases hlt : k < r.length
      · obtain ⟨x, hx⟩ : ∃ x : Nat, ((⟨r.toArray⟩ : ByteArray)[k]'hlt).toNat = x := ⟨_, rfl⟩
        have hx2 : r[k].toNat = x := hx
        have HX := Lib.hid hx2
        clear hx2
        have hlti : (k : Int) < (r.length : Int) := by omega
        by_cases hd : 48 ≤ x ∧ x ≤ 57
        · obtain ⟨hd1, hd2⟩ := hd
          have hdi : isDig r[k] = true := by unfold isDig; rw [HX.out]; simp; omega
          have HDI := Lib.hid hdi
          clear hdi
          have h1 : (48 : Int) ≤ (x : Int) := by omega
          have h2 : (x : Int) ≤ 57 := by omega
          have ho1 := World.ownsRow_lit (base := wr.heap.size) (e := 3) (size := 1) wr #[.int .i64 ((x : Int) - 48)] 1 (Nat.le_refl _) (by unfold maxLen; omega) (by simp)
          have HO1 := Lib.hid ho1
          have happ : ∀ (v' : Value) (w1 : World), w1.ownsRow wr.heap.size 3 1 v' (1 + m) ([.int .i64 ((x : Int) - 48)] ++ ds.map mkD_) → ∃ (D : Option Addr) (cap : Nat), v' = .slice D (1 + m) cap ∧ DigC w1 D (1 + m) cap ((x - 48) :: ds) := by
            intro v' w1 ho
            have hl : ((x - 48) :: ds).length = 1 + m := by simp [hD.1]; omega
            have ex : (x : Int) - 48 = ((x - 48 : Nat) : Int) := by omega
            have ho' : w1.ownsRow wr.heap.size 3 1 v' ((x - 48) :: ds).length (((x - 48) :: ds).map mkD_) := by rw [hl]; rw [ex] at ho; simpa [mkD_] using ho
            obtain ⟨D, cap, e, hD⟩ := dig_own ho' (by
              intro d hd
              rcases List.mem_cons.1 hd with h | h
              · omega
              · exact hD.2.2.2.1 d h) (by rw [hl]; omega)
            rw [hl] at e hD
            exact ⟨D, cap, e, hD⟩
          have HAPP := Lib.hid happ
          clear ho1 happ
          cases p
          · have HP := Lib.hid (show True from trivial)
            clear HP
            go_wp2_with (at_builtin; refine wpList_append_dig rfl _ _ rfl wr.heap.size _ 1 _ rfl HO1.out A m cap ds rfl (hD.alloc _) (by omega) (by simp) ?_)
            intro v' w1 ho1 hb1
            have hbw : Below wr.heap.size wr w1 := ((Below.refl _ _).alloc (Nat.le_refl _) _).trans hb1
            obtain ⟨D, cap', rfl, HD1⟩ := HAPP.out v' w1 ho1
            have W1 := hB.below hbw
            have HDVL := Lib.hid (show dv ((x - 48) :: ds) = (x - 48) + 10 * dv ds from rfl)
            clear ho1 hb1 HO1 HAPP hB hbw hD
            by_cases hfull : a = 30
            · subst hfull
              have HE := Lib.hid (HRE.out.symm.trans (rd_bad_w true HI.out hlt (fun e => by have := HX.out; rw [e] at this; simp at this; omega) (.inr HHa.out)))
              obtain ⟨lq, q0, q1, q2, q3⟩ := HB.dec (t := 25) (g := w.heap.size) (a := .bool false) (b := .int .u64 0) (c := .int .u64 0) (d := .int .i64 0) W1 (by simp)
              have Bz := HB.blk (g := w.heap.size) (t := 25) (cs := #[.bool false, .int .u64 0, .int .u64 0, .int .i64 0]) W1 (by simp)
              have fz0 := Bz.frozen 0
              have fz1 := Bz.frozen 1
              have fz2 := Bz.frozen 2
              have fz3 := Bz.frozen 3
              clear Bz
              have HB1 := Lib.hid W1.1
              clear W1
              go_wp2
              exact bodyPost_ret (v := .tuple #[.agg #[.bool false, .int .u64 0, .int .u64 0, .int .i64 0], .int .i64 2]) (by simp [results, Tryz.results16, go_sem, q0, q1, q2, q3]) rfl ⟨_, ⟨_, _, _, _, _, HE.out.trans (err_form 2), rfl⟩, rfl, bel4 HB1.out hle⟩
            · have hlt2 : a < 30 := by omega
              clear hfull
              have g1 : (a : Int) + 1 ≤ 30 := by omega
              have g2 : (b : Int) ≤ 9 := by omega
              have HI2 := Lib.hid (rd_head HI.out hlt HDI.out (by rw [HHa.out]; exact hlt2))
              have HN2 := Lib.hid (show dv ((x - 48) :: ds) = numL ((H ++ [r[k]]) ++ T) by rw [numL_headpush _ _ _ (HI.out.2.2.1 rfl), HDVL.out, HDV.out, HX.out])
              have W2 := Lib.hid W1
              clear W1
              go_wp2
              go_roundw
              case rel => exact ⟨k + 1, a + 1, b, 1 + m, H ++ [r[k]], T, false, D, cap', (x - 48) :: ds, HI2.out, by simp [HHa.out], HTb.out, by have := HM.out; omega, HD1, HN2.out, rfl, by go_num, rfl, rfl, by go_num, W2.out⟩
              case measure => simp [intOf]; omega
          · have HP := Lib.hid (show True from trivial)
            clear HP
            go_wp2_with (at_builtin; refine wpList_append_dig rfl _ _ rfl wr.heap.size _ 1 _ rfl HO1.out A m cap ds rfl (hD.alloc _) (by omega) (by simp) ?_)
            intro v' w1 ho1 hb1
            have hbw : Below wr.heap.size wr w1 := ((Below.refl _ _).alloc (Nat.le_refl _) _).trans hb1
            obtain ⟨D, cap', rfl, HD1⟩ := HAPP.out v' w1 ho1
            have W1 := hB.below hbw
            have HDVL := Lib.hid (show dv ((x - 48) :: ds) = (x - 48) + 10 * dv ds from rfl)
            clear ho1 hb1 HO1 HAPP hB hbw hD
            by_cases hfull : b = 9
            · subst hfull
              have HE := Lib.hid (HRE.out.symm.trans (rd_bad_p true HI.out hlt (.inr HTb.out)))
              obtain ⟨lq, q0, q1, q2, q3⟩ := HB.dec (t := 25) (g := w.heap.size) (a := .bool false) (b := .int .u64 0) (c := .int .u64 0) (d := .int .i64 0) W1 (by simp)
              have Bz := HB.blk (g := w.heap.size) (t := 25) (cs := #[.bool false, .int .u64 0, .int .u64 0, .int .i64 0]) W1 (by simp)
              have fz0 := Bz.frozen 0
              have fz1 := Bz.frozen 1
              have fz2 := Bz.frozen 2
              have fz3 := Bz.frozen 3
              clear Bz
              have HB1 := Lib.hid W1.1
              clear W1
              go_wp2
              exact bodyPost_ret (v := .tuple #[.agg #[.bool false, .int .u64 0, .int .u64 0, .int .i64 0], .int .i64 2]) (by simp [results, Tryz.results16, go_sem, q0, q1, q2, q3]) rfl ⟨_, ⟨_, _, _, _, _, HE.out.trans (err_form 2), rfl⟩, rfl, bel4 HB1.out hle⟩
            · have hlt2 : b < 9 := by omega
              clear hfull
              have g1 : (a : Int) ≤ 30 := by omega
              have g2 : (b : Int) + 1 ≤ 9 := by omega
              have HI2 := Lib.hid (rd_tail HI.out hlt HDI.out (by rw [HTb.out]; exact hlt2))
              have HN2 := Lib.hid (show dv ((x - 48) :: ds) = numL (H ++ (T ++ [r[k]])) by rw [numL_tailpush, HDVL.out, HDV.out, HX.out])
              have W2 := Lib.hid W1
              clear W1
              go_wp2
              go_roundw
              case rel => exact ⟨k + 1, a, b + 1, 1 + m, H, T ++ [r[k]], true, D, cap', (x - 48) :: ds, HI2.out, HHa.out, by simp [HTb.out], by have := HM.out; omega, HD1, HN2.out, rfl, rfl, by go_num, rfl, by go_num, W2.out⟩
              case measure => simp [intOf]; omega
        · have hdi : isDig r[k] = false := by unfold isDig; rw [HX.out]; simp; omega
          have HDI := Lib.hid hdi
          clear hdi
          have W1 := hB
          have hsp : (x < 48 ∧ decide ((48 : Int) ≤ (x : Int)) = false) ∨ (48 ≤ x ∧ 57 < x) := by
            rcases Nat.lt_or_ge x 48 with h | h
            · exact .inl ⟨h, by simp; omega⟩
            · exact .inr ⟨h, by omega⟩
          clear hd
          by_cases hp46 : x = 46
          · subst hp46
            clear hsp
            have hc46 : r[k] = 46 := UInt8.toNat_inj.1 HX.out
            have HC46 := Lib.hid hc46
            clear hc46
            cases p
            · by_cases h0 : a = 0
              · subst h0
                have HE := Lib.hid (HRE.out.symm.trans (rd_bad_0 true HI.out hlt HC46.out HHa.out))
                obtain ⟨lq, q0, q1, q2, q3⟩ := HB.dec (t := 25) (g := w.heap.size) (a := .bool false) (b := .int .u64 0) (c := .int .u64 0) (d := .int .i64 0) W1 (by simp)
                have Bz := HB.blk (g := w.heap.size) (t := 25) (cs := #[.bool false, .int .u64 0, .int .u64 0, .int .i64 0]) W1 (by simp)
                have fz0 := Bz.frozen 0
                have fz1 := Bz.frozen 1
                have fz2 := Bz.frozen 2
                have fz3 := Bz.frozen 3
                clear Bz
                have HB1 := Lib.hid W1.1
                clear W1
                go_wp2
                exact bodyPost_ret (v := .tuple #[.agg #[.bool false, .int .u64 0, .int .u64 0, .int .i64 0], .int .i64 2]) (by simp [results, Tryz.results16, go_sem, q0, q1, q2, q3]) rfl ⟨_, ⟨_, _, _, _, _, HE.out.trans (err_form 2), rfl⟩, rfl, bel4 HB1.out hle⟩
              · have g0 : (0 : Int) < (a : Int) := by omega
                have HI2 := Lib.hid (rd_point HI.out hlt HC46.out (by rw [HHa.out]; omega))
                have W2 := Lib.hid W1
                clear W1 hB
                go_wp2
                go_roundw
                case rel => exact ⟨k + 1, a, b, m, H, T, true, A, cap, ds, HI2.out, HHa.out, HTb.out, HM.out, hD, HDV.out, rfl, rfl, rfl, rfl, by go_num, W2.out⟩
                case measure => simp [intOf]; omega
            · have HE := Lib.hid (HRE.out.symm.trans (rd_bad_p true HI.out hlt (.inl HDI.out)))
              obtain ⟨lq, q0, q1, q2, q3⟩ := HB.dec (t := 25) (g := w.heap.size) (a := .bool false) (b := .int .u64 0) (c := .int .u64 0) (d := .int .i64 0) W1 (by simp)
              have Bz := HB.blk (g := w.heap.size) (t := 25) (cs := #[.bool false, .int .u64 0, .int .u64 0, .int .i64 0]) W1 (by simp)
              have fz0 := Bz.frozen 0
              have fz1 := Bz.frozen 1
              have fz2 := Bz.frozen 2
              have fz3 := Bz.frozen 3
              clear Bz
              have HB1 := Lib.hid W1.1
              clear W1
              go_wp2
              exact bodyPost_ret (v := .tuple #[.agg #[.bool false, .int .u64 0, .int .u64 0, .int .i64 0], .int .i64 2]) (by simp [results, Tryz.results16, go_sem, q0, q1, q2, q3]) rfl ⟨_, ⟨_, _, _, _, _, HE.out.trans (err_form 2), rfl⟩, rfl, bel4 HB1.out hle⟩
          · have g46 : ((x : Int) == 46) = false := by simp; omega
            have hne : r[k] ≠ 46 := fun e => by have := HX.out; rw [e] at this; simp at this; omega
            have HNE := Lib.hid hne
            clear hne
            have HE := Lib.hid (show R = errV 2 by
              cases p
              · exact HRE.out.symm.trans (rd_bad_w true HI.out hlt HNE.out (.inl HDI.out))
              · exact HRE.out.symm.trans (rd_bad_p true HI.out hlt (.inl HDI.out)))
            rcases hsp with ⟨hs1, hs2⟩ | ⟨hs1, hs2⟩
            · clear hs1
              obtain ⟨lq, q0, q1, q2, q3⟩ := HB.dec (t := 25) (g := w.heap.size) (a := .bool false) (b := .int .u64 0) (c := .int .u64 0) (d := .int .i64 0) W1 (by simp)
              have Bz := HB.blk (g := w.heap.size) (t := 25) (cs := #[.bool false, .int .u64 0, .int .u64 0, .int .i64 0]) W1 (by simp)
              have fz0 := Bz.frozen 0
              have fz1 := Bz.frozen 1
              have fz2 := Bz.frozen 2
              have fz3 := Bz.frozen 3
              clear Bz
              have HB1 := Lib.hid W1.1
              clear W1
              go_wp2
              exact bodyPost_ret (v := .tuple #[.agg #[.bool false, .int .u64 0, .int .u64 0, .int .i64 0], .int .i64 2]) (by simp [results, Tryz.results16, go_sem, q0, q1, q2, q3]) rfl ⟨_, ⟨_, _, _, _, _, HE.out.trans (err_form 2), rfl⟩, rfl, bel4 HB1.out hle⟩
            · have hs3 : (48 : Int) ≤ (x : Int) := by omega
              have hs4 : decide ((x : Int) ≤ 57) = false := by simp; omega
              clear hs1 hs2
              obtain ⟨lq, q0, q1, q2, q3⟩ := HB.dec (t := 25) (g := w.heap.size) (a := .bool false) (b := .int .u64 0) (c := .int .u64 0) (d := .int .i64 0) W1 (by simp)
              have Bz := HB.blk (g := w.heap.size) (t := 25) (cs := #[.bool false, .int .u64 0, .int .u64 0, .int .i64 0]) W1 (by simp)
              have fz0 := Bz.frozen 0
              have fz1 := Bz.frozen 1
              have fz2 := Bz.frozen 2
              have fz3 := Bz.frozen 3
              clear Bz
              have HB1 := Lib.hid W1.1
              clear W1
              go_wp2
              exact bodyPost_ret (v := .tuple #[.agg #[.bool false, .int .u64 0, .int .u64 0, .int .i64 0], .int .i64 2]) (by simp [results, Tryz.results16, go_sem, q0, q1, q2, q3]) rfl ⟨_, ⟨_, _, _, _, _, HE.out.trans (err_form 2), rfl⟩, rfl, bel4 HB1.out hle⟩
      · obtain rfl : k = r.length := by omega
        clear hlt hk
        have HTR := Lib.hid fun t h => dv_trim (ds := ds) (m := t) h
        have W1 := hB
        clear hB
        go_wp2_with fail
        refine (trim_c A m cap ds _ hD).mono ?_
        rintro e w2 ⟨_, ⟨t', ht', rfl⟩, rfl, rfl⟩
        have HT' := Lib.hid ht'
        have H1 := HTR.out t' ht'
        have H2 := hD.take (m := t') (by have := ht'.1; rw [hD.1] at this; exact this)
        have E1 := Lib.hid (H1.1.trans HDV.out)
        have NN := Lib.hid H1.2
        have ZT := Lib.hid (fun h => trim_zero (ds := ds) (t := t') ht' h)
        have hz0 := Lib.hid (show t' = 0 → dv ds = 0 from fun h => by rw [← H1.1, h]; simp [dv])
        clear ht' H1 HTR hD
        by_cases h0 : a = 0
        · subst h0
          have HE := Lib.hid (HRE.out.symm.trans (rd_end_0 true HI.out HHa.out))
          obtain ⟨lq, q0, q1, q2, q3⟩ := HB.dec (t := 25) (g := w.heap.size) (a := .bool false) (b := .int .u64 0) (c := .int .u64 0) (d := .int .i64 0) W1 (by simp)
          have Bz := HB.blk (g := w.heap.size) (t := 25) (cs := #[.bool false, .int .u64 0, .int .u64 0, .int .i64 0]) W1 (by simp)
          have fz0 := Bz.frozen 0
          have fz1 := Bz.frozen 1
          have fz2 := Bz.frozen 2
          have fz3 := Bz.frozen 3
          clear Bz
          have HB1 := Lib.hid W1.1
          clear W1
          go_wp2
          exact bodyPost_ret (v := .tuple #[.agg #[.bool false, .int .u64 0, .int .u64 0, .int .i64 0], .int .i64 2]) (by simp [results, Tryz.results16, go_sem, q0, q1, q2, q3]) rfl ⟨_, ⟨_, _, _, _, _, HE.out.trans (err_form 2), rfl⟩, rfl, bel4 HB1.out hle⟩
        · have g0 : ((a : Int) == 0) = false := by simp; omega
          have ha1 : 1 ≤ a := by omega
          clear h0
          cases p
          · have gb : True := trivial
            have hend := rd_end true HI.out (by rw [HHa.out]; exact ha1) (fun h => by cases h)
            by_cases hz : numL (H ++ T) = 0
            · rw [if_pos ⟨rfl, hz⟩] at hend
              have HE := Lib.hid (HRE.out.symm.trans hend)
              obtain rfl : t' = 0 := ZT.out (HDV.out.trans hz)
              clear hz hend
              obtain ⟨lq, q0, q1, q2, q3⟩ := HB.dec (t := 25) (g := w.heap.size) (a := .bool false) (b := .int .u64 0) (c := .int .u64 0) (d := .int .i64 0) W1 (by simp)
              have Bz := HB.blk (g := w.heap.size) (t := 25) (cs := #[.bool false, .int .u64 0, .int .u64 0, .int .i64 0]) W1 (by simp)
              have fz0 := Bz.frozen 0
              have fz1 := Bz.frozen 1
              have fz2 := Bz.frozen 2
              have fz3 := Bz.frozen 3
              clear Bz
              have HB1 := Lib.hid W1.1
              clear W1
              go_wp2
              exact bodyPost_ret (v := .tuple #[.agg #[.bool false, .int .u64 0, .int .u64 0, .int .i64 0], .int .i64 2]) (by simp [results, Tryz.results16, go_sem, q0, q1, q2, q3]) rfl ⟨_, ⟨_, _, _, _, _, HE.out.trans (err_form 2), rfl⟩, rfl, bel4 HB1.out hle⟩
            · rw [if_neg (fun h => hz h.2), HTb.out] at hend
              have gt : ((t' : Int) == 0) = false := by have : t' ≠ 0 := fun h => hz (HDV.out.symm.trans (hz0.out h)); simp; omega
              clear hz
              have hmk := hend.symm.trans HRE.out
              have HMK := Lib.hid hmk
              clear hmk hend
              go_wp2_with fail
              refine (make_all true A t' cap (ds.take t') _ b _ H2 NN.out E1.out).mono ?_
              rintro e w9 ⟨_, ⟨m4, c4, d4, q4, e4, D4, rfl⟩, rfl, hb⟩
              have W9 := W1.below hb
              have HD4 := Lib.hid D4
              clear hb W1 D4 H2
              obtain ⟨lq, q0, q1, q2, q3⟩ := HB.dec (t := 25) (g := w.heap.size) (a := .bool false) (b := .int .u64 0) (c := .int .u64 0) (d := .int .i64 0) W9 (by simp)
              have Bz := HB.blk (g := w.heap.size) (t := 25) (cs := #[.bool false, .int .u64 0, .int .u64 0, .int .i64 0]) W9 (by simp)
              have fz0 := Bz.frozen 0
              have fz1 := Bz.frozen 1
              have fz2 := Bz.frozen 2
              have fz3 := Bz.frozen 3
              clear Bz
              have HB1 := Lib.hid W9.1
              clear W9
              go_wp2
              exact bodyPost_ret (v := .tuple #[.agg #[.bool m4, .int .u64 c4, .int .u64 d4, .int .i64 q4], .int .i64 e4]) (by simp [results, Tryz.results16, go_sem, q0, q1, q2, q3]) rfl ⟨_, ⟨_, _, _, _, _, HMK.out.symm.trans HD4.out, rfl⟩, rfl, bel4 HB1.out hle⟩
          · by_cases hb0 : b = 0
            · subst hb0
              have HE := Lib.hid (HRE.out.symm.trans (rd_end_p true HI.out HTb.out))
              obtain ⟨lq, q0, q1, q2, q3⟩ := HB.dec (t := 25) (g := w.heap.size) (a := .bool false) (b := .int .u64 0) (c := .int .u64 0) (d := .int .i64 0) W1 (by simp)
              have Bz := HB.blk (g := w.heap.size) (t := 25) (cs := #[.bool false, .int .u64 0, .int .u64 0, .int .i64 0]) W1 (by simp)
              have fz0 := Bz.frozen 0
              have fz1 := Bz.frozen 1
              have fz2 := Bz.frozen 2
              have fz3 := Bz.frozen 3
              clear Bz
              have HB1 := Lib.hid W1.1
              clear W1
              go_wp2
              exact bodyPost_ret (v := .tuple #[.agg #[.bool false, .int .u64 0, .int .u64 0, .int .i64 0], .int .i64 2]) (by simp [results, Tryz.results16, go_sem, q0, q1, q2, q3]) rfl ⟨_, ⟨_, _, _, _, _, HE.out.trans (err_form 2), rfl⟩, rfl, bel4 HB1.out hle⟩
            · have gb : ((b : Int) == 0) = false := by simp; omega
              have hend := rd_end true HI.out (by rw [HHa.out]; exact ha1) (fun _ => by rw [HTb.out]; omega)
              by_cases hz : numL (H ++ T) = 0
              · rw [if_pos ⟨rfl, hz⟩] at hend
                have HE := Lib.hid (HRE.out.symm.trans hend)
                obtain rfl : t' = 0 := ZT.out (HDV.out.trans hz)
                clear hz hend
                obtain ⟨lq, q0, q1, q2, q3⟩ := HB.dec (t := 25) (g := w.heap.size) (a := .bool false) (b := .int .u64 0) (c := .int .u64 0) (d := .int .i64 0) W1 (by simp)
                have Bz := HB.blk (g := w.heap.size) (t := 25) (cs := #[.bool false, .int .u64 0, .int .u64 0, .int .i64 0]) W1 (by simp)
                have fz0 := Bz.frozen 0
                have fz1 := Bz.frozen 1
                have fz2 := Bz.frozen 2
                have fz3 := Bz.frozen 3
                clear Bz
                have HB1 := Lib.hid W1.1
                clear W1
                go_wp2
                exact bodyPost_ret (v := .tuple #[.agg #[.bool false, .int .u64 0, .int .u64 0, .int .i64 0], .int .i64 2]) (by simp [results, Tryz.results16, go_sem, q0, q1, q2, q3]) rfl ⟨_, ⟨_, _, _, _, _, HE.out.trans (err_form 2), rfl⟩, rfl, bel4 HB1.out hle⟩
              · rw [if_neg (fun h => hz h.2), HTb.out] at hend
                have gt : ((t' : Int) == 0) = false := by have : t' ≠ 0 := fun h => hz (HDV.out.symm.trans (hz0.out h)); simp; omega
                clear hz
                have hmk := hend.symm.trans HRE.out
                have HMK := Lib.hid hmk
                clear hmk hend
                go_wp2_with fail
                refine (make_all true A t' cap (ds.take t') _ b _ H2 NN.out E1.out).mono ?_
                rintro e w9 ⟨_, ⟨m4, c4, d4, q4, e4, D4, rfl⟩, rfl, hb⟩
                have W9 := W1.below hb
                have HD4 := Lib.hid D4
                clear hb W1 D4 H2
                obtain ⟨lq, q0, q1, q2, q3⟩ := HB.dec (t := 25) (g := w.heap.size) (a := .bool false) (b := .int .u64 0) (c := .int .u64 0) (d := .int .i64 0) W9 (by simp)
                have Bz := HB.blk (g := w.heap.size) (t := 25) (cs := #[.bool false, .int .u64 0, .int .u64 0, .int .i64 0]) W9 (by simp)
                have fz0 := Bz.frozen 0
                have fz1 := Bz.frozen 1
                have fz2 := Bz.frozen 2
                have fz3 := Bz.frozen 3
                clear Bz
                have HB1 := Lib.hid W9.1
                clear W9
                go_wp2
                exact bodyPost_ret (v := .tuple #[.agg #[.bool m4, .int .u64 c4, .int .u64 d4, .int .i64 q4], .int .i64 e4]) (by simp [results, Tryz.results16, go_sem, q0, q1, q2, q3]) rfl ⟨_, ⟨_, _, _, _, _, HMK.out.symm.trans HD4.out, rfl⟩, rfl, bel4 HB1.out hle⟩
  · have HNE := Lib.hid hne
    clear hne
    go_enter Tryz.func16, Tryz.ntmps16
    by_cases h0 : 0 < r.length
    · have g45 := HNE.out h0
      have g45b : ((((⟨r.toArray⟩ : ByteArray)[0]'h0).toNat : Int) == 45) = false := by simp; omega
      go_wp2
      go_loopw [5, 6, 7, 8, 9] (fun nv hv tv pv iv wr => RdS w r nv hv tv pv iv wr) (fun _ _ _ _ iv _ => r.length - (intOf iv).toNat)
      case atStart => exact rdS_0 r HV.out
      case round =>
        obtain ⟨k, a, b, m, H, T, p, A, cap, ds, hI, hHa, hTb, hm, hD, hdv, rfl, rfl, rfl, rfl, rfl, hB⟩ := hrel
        have hk := hI.1
        have ha30 : a ≤ 30 := by rw [← hHa]; exact hI.2.2.2.2.2.1
        have hb9 : b ≤ 9 := by rw [← hTb]; exact hI.2.2.2.2.2.2.1
        have hm39 : m ≤ 39 := by omega
        have HI := Lib.hid hI
        have HHa := Lib.hid hHa
        have HTb := Lib.hid hTb
        have HM := Lib.hid hm
        have HDV := Lib.hid hdv
        clear hI hHa hTb hm hdv HV
        by_cases hlt : k < r.length
        · obtain ⟨x, hx⟩ : ∃ x : Nat, ((⟨r.toArray⟩ : ByteArray)[k]'hlt).toNat = x := ⟨_, rfl⟩
          have hx2 : r[k].toNat = x := hx
          have HX := Lib.hid hx2
          clear hx2
          have hlti : (k : Int) < (r.length : Int) := by omega
          by_cases hd : 48 ≤ x ∧ x ≤ 57
          · obtain ⟨hd1, hd2⟩ := hd
            have hdi : isDig r[k] = true := by unfold isDig; rw [HX.out]; simp; omega
            have HDI := Lib.hid hdi
            clear hdi
            have h1 : (48 : Int) ≤ (x : Int) := by omega
            have h2 : (x : Int) ≤ 57 := by omega
            have ho1 := World.ownsRow_lit (base := wr.heap.size) (e := 3) (size := 1) wr #[.int .i64 ((x : Int) - 48)] 1 (Nat.le_refl _) (by unfold maxLen; omega) (by simp)
            have HO1 := Lib.hid ho1
            have happ : ∀ (v' : Value) (w1 : World), w1.ownsRow wr.heap.size 3 1 v' (1 + m) ([.int .i64 ((x : Int) - 48)] ++ ds.map mkD_) → ∃ (D : Option Addr) (cap : Nat), v' = .slice D (1 + m) cap ∧ DigC w1 D (1 + m) cap ((x - 48) :: ds) := by
              intro v' w1 ho
              have hl : ((x - 48) :: ds).length = 1 + m := by simp [hD.1]; omega
              have ex : (x : Int) - 48 = ((x - 48 : Nat) : Int) := by omega
              have ho' : w1.ownsRow wr.heap.size 3 1 v' ((x - 48) :: ds).length (((x - 48) :: ds).map mkD_) := by rw [hl]; rw [ex] at ho; simpa [mkD_] using ho
              obtain ⟨D, cap, e, hD⟩ := dig_own ho' (by
                intro d hd
                rcases List.mem_cons.1 hd with h | h
                · omega
                · exact hD.2.2.2.1 d h) (by rw [hl]; omega)
              rw [hl] at e hD
              exact ⟨D, cap, e, hD⟩
            have HAPP := Lib.hid happ
            clear ho1 happ
            cases p
            · have HP := Lib.hid (show True from trivial)
              clear HP
              go_wp2_with (at_builtin; refine wpList_append_dig rfl _ _ rfl wr.heap.size _ 1 _ rfl HO1.out A m cap ds rfl (hD.alloc _) (by omega) (by simp) ?_)
              intro v' w1 ho1 hb1
              have hbw : Below wr.heap.size wr w1 := ((Below.refl _ _).alloc (Nat.le_refl _) _).trans hb1
              obtain ⟨D, cap', rfl, HD1⟩ := HAPP.out v' w1 ho1
              have W1 := hB.below hbw
              have HDVL := Lib.hid (show dv ((x - 48) :: ds) = (x - 48) + 10 * dv ds from rfl)
              clear ho1 hb1 HO1 HAPP hB hbw hD
              by_cases hfull : a = 30
              · subst hfull
                have HE := Lib.hid (HRE.out.symm.trans (rd_bad_w false HI.out hlt (fun e => by have := HX.out; rw [e] at this; simp at this; omega) (.inr HHa.out)))
                obtain ⟨lq, q0, q1, q2, q3⟩ := HB.dec (t := 25) (g := w.heap.size) (a := .bool false) (b := .int .u64 0) (c := .int .u64 0) (d := .int .i64 0) W1 (by simp)
                have Bz := HB.blk (g := w.heap.size) (t := 25) (cs := #[.bool false, .int .u64 0, .int .u64 0, .int .i64 0]) W1 (by simp)
                have fz0 := Bz.frozen 0
                have fz1 := Bz.frozen 1
                have fz2 := Bz.frozen 2
                have fz3 := Bz.frozen 3
                clear Bz
                have HB1 := Lib.hid W1.1
                clear W1
                go_wp2
                exact bodyPost_ret (v := .tuple #[.agg #[.bool false, .int .u64 0, .int .u64 0, .int .i64 0], .int .i64 2]) (by simp [results, Tryz.results16, go_sem, q0, q1, q2, q3]) rfl ⟨_, ⟨_, _, _, _, _, HE.out.trans (err_form 2), rfl⟩, rfl, bel4 HB1.out hle⟩
              · have hlt2 : a < 30 := by omega
                clear hfull
                have g1 : (a : Int) + 1 ≤ 30 := by omega
                have g2 : (b : Int) ≤ 9 := by omega
                have HI2 := Lib.hid (rd_head HI.out hlt HDI.out (by rw [HHa.out]; exact hlt2))
                have HN2 := Lib.hid (show dv ((x - 48) :: ds) = numL ((H ++ [r[k]]) ++ T) by rw [numL_headpush _ _ _ (HI.out.2.2.1 rfl), HDVL.out, HDV.out, HX.out])
                have W2 := Lib.hid W1
                clear W1
                go_wp2
                go_roundw
                case rel => exact ⟨k + 1, a + 1, b, 1 + m, H ++ [r[k]], T, false, D, cap', (x - 48) :: ds, HI2.out, by simp [HHa.out], HTb.out, by have := HM.out; omega, HD1, HN2.out, rfl, by go_num, rfl, rfl, by go_num, W2.out⟩
                case measure => simp [intOf]; omega
            · have HP := Lib.hid (show True from trivial)
              clear HP
              go_wp2_with (at_builtin; refine wpList_append_dig rfl _ _ rfl wr.heap.size _ 1 _ rfl HO1.out A m cap ds rfl (hD.alloc _) (by omega) (by simp) ?_)
              intro v' w1 ho1 hb1
              have hbw : Below wr.heap.size wr w1 := ((Below.refl _ _).alloc (Nat.le_refl _) _).trans hb1
              obtain ⟨D, cap', rfl, HD1⟩ := HAPP.out v' w1 ho1
              have W1 := hB.below hbw
              have HDVL := Lib.hid (show dv ((x - 48) :: ds) = (x - 48) + 10 * dv ds from rfl)
              clear ho1 hb1 HO1 HAPP hB hbw hD
              by_cases hfull : b = 9
              · subst hfull
                have HE := Lib.hid (HRE.out.symm.trans (rd_bad_p false HI.out hlt (.inr HTb.out)))
                obtain ⟨lq, q0, q1, q2, q3⟩ := HB.dec (t := 25) (g := w.heap.size) (a := .bool false) (b := .int .u64 0) (c := .int .u64 0) (d := .int .i64 0) W1 (by simp)
                have Bz := HB.blk (g := w.heap.size) (t := 25) (cs := #[.bool false, .int .u64 0, .int .u64 0, .int .i64 0]) W1 (by simp)
                have fz0 := Bz.frozen 0
                have fz1 := Bz.frozen 1
                have fz2 := Bz.frozen 2
                have fz3 := Bz.frozen 3
                clear Bz
                have HB1 := Lib.hid W1.1
                clear W1
                go_wp2
                exact bodyPost_ret (v := .tuple #[.agg #[.bool false, .int .u64 0, .int .u64 0, .int .i64 0], .int .i64 2]) (by simp [results, Tryz.results16, go_sem, q0, q1, q2, q3]) rfl ⟨_, ⟨_, _, _, _, _, HE.out.trans (err_form 2), rfl⟩, rfl, bel4 HB1.out hle⟩
              · have hlt2 : b < 9 := by omega
                clear hfull
                have g1 : (a : Int) ≤ 30 := by omega
                have g2 : (b : Int) + 1 ≤ 9 := by omega
                have HI2 := Lib.hid (rd_tail HI.out hlt HDI.out (by rw [HTb.out]; exact hlt2))
                have HN2 := Lib.hid (show dv ((x - 48) :: ds) = numL (H ++ (T ++ [r[k]])) by rw [numL_tailpush, HDVL.out, HDV.out, HX.out])
                have W2 := Lib.hid W1
                clear W1
                go_wp2
                go_roundw
                case rel => exact ⟨k + 1, a, b + 1, 1 + m, H, T ++ [r[k]], true, D, cap', (x - 48) :: ds, HI2.out, HHa.out, by simp [HTb.out], by have := HM.out; omega, HD1, HN2.out, rfl, rfl, by go_num, rfl, by go_num, W2.out⟩
                case measure => simp [intOf]; omega
          · have hdi : isDig r[k] = false := by unfold isDig; rw [HX.out]; simp; omega
            have HDI := Lib.hid hdi
            clear hdi
            have W1 := hB
            have hsp : (x < 48 ∧ decide ((48 : Int) ≤ (x : Int)) = false) ∨ (48 ≤ x ∧ 57 < x) := by
              rcases Nat.lt_or_ge x 48 with h | h
              · exact .inl ⟨h, by simp; omega⟩
              · exact .inr ⟨h, by omega⟩
            clear hd
            by_cases hp46 : x = 46
            · subst hp46
              clear hsp
              have hc46 : r[k] = 46 := UInt8.toNat_inj.1 HX.out
              have HC46 := Lib.hid hc46
              clear hc46
              cases p
              · by_cases h0 : a = 0
                · subst h0
                  have HE := Lib.hid (HRE.out.symm.trans (rd_bad_0 false HI.out hlt HC46.out HHa.out))
                  obtain ⟨lq, q0, q1, q2, q3⟩ := HB.dec (t := 25) (g := w.heap.size) (a := .bool false) (b := .int .u64 0) (c := .int .u64 0) (d := .int .i64 0) W1 (by simp)
                  have Bz := HB.blk (g := w.heap.size) (t := 25) (cs := #[.bool false, .int .u64 0, .int .u64 0, .int .i64 0]) W1 (by simp)
                  have fz0 := Bz.frozen 0
                  have fz1 := Bz.frozen 1
                  have fz2 := Bz.frozen 2
                  have fz3 := Bz.frozen 3
                  clear Bz
                  have HB1 := Lib.hid W1.1
                  clear W1
                  go_wp2
                  exact bodyPost_ret (v := .tuple #[.agg #[.bool false, .int .u64 0, .int .u64 0, .int .i64 0], .int .i64 2]) (by simp [results, Tryz.results16, go_sem, q0, q1, q2, q3]) rfl ⟨_, ⟨_, _, _, _, _, HE.out.trans (err_form 2), rfl⟩, rfl, bel4 HB1.out hle⟩
                · have g0 : (0 : Int) < (a : Int) := by omega
                  have HI2 := Lib.hid (rd_point HI.out hlt HC46.out (by rw [HHa.out]; omega))
                  have W2 := Lib.hid W1
                  clear W1 hB
                  go_wp2
                  go_roundw
                  case rel => exact ⟨k + 1, a, b, m, H, T, true, A, cap, ds, HI2.out, HHa.out, HTb.out, HM.out, hD, HDV.out, rfl, rfl, rfl, rfl, by go_num, W2.out⟩
                  case measure => simp [intOf]; omega
              · have HE := Lib.hid (HRE.out.symm.trans (rd_bad_p false HI.out hlt (.inl HDI.out)))
                obtain ⟨lq, q0, q1, q2, q3⟩ := HB.dec (t := 25) (g := w.heap.size) (a := .bool false) (b := .int .u64 0) (c := .int .u64 0) (d := .int .i64 0) W1 (by simp)
                have Bz := HB.blk (g := w.heap.size) (t := 25) (cs := #[.bool false, .int .u64 0, .int .u64 0, .int .i64 0]) W1 (by simp)
                have fz0 := Bz.frozen 0
                have fz1 := Bz.frozen 1
                have fz2 := Bz.frozen 2
                have fz3 := Bz.frozen 3
                clear Bz
                have HB1 := Lib.hid W1.1
                clear W1
                go_wp2
                exact bodyPost_ret (v := .tuple #[.agg #[.bool false, .int .u64 0, .int .u64 0, .int .i64 0], .int .i64 2]) (by simp [results, Tryz.results16, go_sem, q0, q1, q2, q3]) rfl ⟨_, ⟨_, _, _, _, _, HE.out.trans (err_form 2), rfl⟩, rfl, bel4 HB1.out hle⟩
            · have g46 : ((x : Int) == 46) = false := by simp; omega
              have hne : r[k] ≠ 46 := fun e => by have := HX.out; rw [e] at this; simp at this; omega
              have HNE := Lib.hid hne
              clear hne
              have HE := Lib.hid (show R = errV 2 by
                cases p
                · exact HRE.out.symm.trans (rd_bad_w false HI.out hlt HNE.out (.inl HDI.out))
                · exact HRE.out.symm.trans (rd_bad_p false HI.out hlt (.inl HDI.out)))
              rcases hsp with ⟨hs1, hs2⟩ | ⟨hs1, hs2⟩
              · clear hs1
                obtain ⟨lq, q0, q1, q2, q3⟩ := HB.dec (t := 25) (g := w.heap.size) (a := .bool false) (b := .int .u64 0) (c := .int .u64 0) (d := .int .i64 0) W1 (by simp)
                have Bz := HB.blk (g := w.heap.size) (t := 25) (cs := #[.bool false, .int .u64 0, .int .u64 0, .int .i64 0]) W1 (by simp)
                have fz0 := Bz.frozen 0
                have fz1 := Bz.frozen 1
                have fz2 := Bz.frozen 2
                have fz3 := Bz.frozen 3
                clear Bz
                have HB1 := Lib.hid W1.1
                clear W1
                go_wp2
                exact bodyPost_ret (v := .tuple #[.agg #[.bool false, .int .u64 0, .int .u64 0, .int .i64 0], .int .i64 2]) (by simp [results, Tryz.results16, go_sem, q0, q1, q2, q3]) rfl ⟨_, ⟨_, _, _, _, _, HE.out.trans (err_form 2), rfl⟩, rfl, bel4 HB1.out hle⟩
              · have hs3 : (48 : Int) ≤ (x : Int) := by omega
                have hs4 : decide ((x : Int) ≤ 57) = false := by simp; omega
                clear hs1 hs2
                obtain ⟨lq, q0, q1, q2, q3⟩ := HB.dec (t := 25) (g := w.heap.size) (a := .bool false) (b := .int .u64 0) (c := .int .u64 0) (d := .int .i64 0) W1 (by simp)
                have Bz := HB.blk (g := w.heap.size) (t := 25) (cs := #[.bool false, .int .u64 0, .int .u64 0, .int .i64 0]) W1 (by simp)
                have fz0 := Bz.frozen 0
                have fz1 := Bz.frozen 1
                have fz2 := Bz.frozen 2
                have fz3 := Bz.frozen 3
                clear Bz
                have HB1 := Lib.hid W1.1
                clear W1
                go_wp2
                exact bodyPost_ret (v := .tuple #[.agg #[.bool false, .int .u64 0, .int .u64 0, .int .i64 0], .int .i64 2]) (by simp [results, Tryz.results16, go_sem, q0, q1, q2, q3]) rfl ⟨_, ⟨_, _, _, _, _, HE.out.trans (err_form 2), rfl⟩, rfl, bel4 HB1.out hle⟩
        · obtain rfl : k = r.length := by omega
          clear hlt hk
          have HTR := Lib.hid fun t h => dv_trim (ds := ds) (m := t) h
          have W1 := hB
          clear hB
          go_wp2_with fail
          refine (trim_c A m cap ds _ hD).mono ?_
          rintro e w2 ⟨_, ⟨t', ht', rfl⟩, rfl, rfl⟩
          have HT' := Lib.hid ht'
          have H1 := HTR.out t' ht'
          have H2 := hD.take (m := t') (by have := ht'.1; rw [hD.1] at this; exact this)
          have E1 := Lib.hid (H1.1.trans HDV.out)
          have NN := Lib.hid H1.2
          have ZT := Lib.hid (fun h => trim_zero (ds := ds) (t := t') ht' h)
          have hz0 := Lib.hid (show t' = 0 → dv ds = 0 from fun h => by rw [← H1.1, h]; simp [dv])
          clear ht' H1 HTR hD
          by_cases h0 : a = 0
          · subst h0
            have HE := Lib.hid (HRE.out.symm.trans (rd_end_0 false HI.out HHa.out))
            obtain ⟨lq, q0, q1, q2, q3⟩ := HB.dec (t := 25) (g := w.heap.size) (a := .bool false) (b := .int .u64 0) (c := .int .u64 0) (d := .int .i64 0) W1 (by simp)
            have Bz := HB.blk (g := w.heap.size) (t := 25) (cs := #[.bool false, .int .u64 0, .int .u64 0, .int .i64 0]) W1 (by simp)
            have fz0 := Bz.frozen 0
            have fz1 := Bz.frozen 1
            have fz2 := Bz.frozen 2
            have fz3 := Bz.frozen 3
            clear Bz
            have HB1 := Lib.hid W1.1
            clear W1
            go_wp2
            exact bodyPost_ret (v := .tuple #[.agg #[.bool false, .int .u64 0, .int .u64 0, .int .i64 0], .int .i64 2]) (by simp [results, Tryz.results16, go_sem, q0, q1, q2, q3]) rfl ⟨_, ⟨_, _, _, _, _, HE.out.trans (err_form 2), rfl⟩, rfl, bel4 HB1.out hle⟩
          · have g0 : ((a : Int) == 0) = false := by simp; omega
            have ha1 : 1 ≤ a := by omega
            clear h0
            cases p
            · have gb : True := trivial
              have hend := rd_end false HI.out (by rw [HHa.out]; exact ha1) (fun h => by cases h)
              rw [if_neg (fun h => by cases h.1), HTb.out] at hend
              have hmk := hend.symm.trans HRE.out
              have HMK := Lib.hid hmk
              clear hmk hend
              go_wp2_with fail
              refine (make_all false A t' cap (ds.take t') _ b _ H2 NN.out E1.out).mono ?_
              rintro e w9 ⟨_, ⟨m4, c4, d4, q4, e4, D4, rfl⟩, rfl, hb⟩
              have W9 := W1.below hb
              have HD4 := Lib.hid D4
              clear hb W1 D4 H2
              obtain ⟨lq, q0, q1, q2, q3⟩ := HB.dec (t := 25) (g := w.heap.size) (a := .bool false) (b := .int .u64 0) (c := .int .u64 0) (d := .int .i64 0) W9 (by simp)
              have Bz := HB.blk (g := w.heap.size) (t := 25) (cs := #[.bool false, .int .u64 0, .int .u64 0, .int .i64 0]) W9 (by simp)
              have fz0 := Bz.frozen 0
              have fz1 := Bz.frozen 1
              have fz2 := Bz.frozen 2
              have fz3 := Bz.frozen 3
              clear Bz
              have HB1 := Lib.hid W9.1
              clear W9
              go_wp2
              exact bodyPost_ret (v := .tuple #[.agg #[.bool m4, .int .u64 c4, .int .u64 d4, .int .i64 q4], .int .i64 e4]) (by simp [results, Tryz.results16, go_sem, q0, q1, q2, q3]) rfl ⟨_, ⟨_, _, _, _, _, HMK.out.symm.trans HD4.out, rfl⟩, rfl, bel4 HB1.out hle⟩
            · by_cases hb0 : b = 0
              · subst hb0
                have HE := Lib.hid (HRE.out.symm.trans (rd_end_p false HI.out HTb.out))
                obtain ⟨lq, q0, q1, q2, q3⟩ := HB.dec (t := 25) (g := w.heap.size) (a := .bool false) (b := .int .u64 0) (c := .int .u64 0) (d := .int .i64 0) W1 (by simp)
                have Bz := HB.blk (g := w.heap.size) (t := 25) (cs := #[.bool false, .int .u64 0, .int .u64 0, .int .i64 0]) W1 (by simp)
                have fz0 := Bz.frozen 0
                have fz1 := Bz.frozen 1
                have fz2 := Bz.frozen 2
                have fz3 := Bz.frozen 3
                clear Bz
                have HB1 := Lib.hid W1.1
                clear W1
                go_wp2
                exact bodyPost_ret (v := .tuple #[.agg #[.bool false, .int .u64 0, .int .u64 0, .int .i64 0], .int .i64 2]) (by simp [results, Tryz.results16, go_sem, q0, q1, q2, q3]) rfl ⟨_, ⟨_, _, _, _, _, HE.out.trans (err_form 2), rfl⟩, rfl, bel4 HB1.out hle⟩
              · have gb : ((b : Int) == 0) = false := by simp; omega
                have hend := rd_end false HI.out (by rw [HHa.out]; exact ha1) (fun _ => by rw [HTb.out]; omega)
                rw [if_neg (fun h => by cases h.1), HTb.out] at hend
                have hmk := hend.symm.trans HRE.out
                have HMK := Lib.hid hmk
                clear hmk hend
                go_wp2_with fail
                refine (make_all false A t' cap (ds.take t') _ b _ H2 NN.out E1.out).mono ?_
                rintro e w9 ⟨_, ⟨m4, c4, d4, q4, e4, D4, rfl⟩, rfl, hb⟩
                have W9 := W1.below hb
                have HD4 := Lib.hid D4
                clear hb W1 D4 H2
                obtain ⟨lq, q0, q1, q2, q3⟩ := HB.dec (t := 25) (g := w.heap.size) (a := .bool false) (b := .int .u64 0) (c := .int .u64 0) (d := .int .i64 0) W9 (by simp)
                have Bz := HB.blk (g := w.heap.size) (t := 25) (cs := #[.bool false, .int .u64 0, .int .u64 0, .int .i64 0]) W9 (by simp)
                have fz0 := Bz.frozen 0
                have fz1 := Bz.frozen 1
                have fz2 := Bz.frozen 2
                have fz3 := Bz.frozen 3
                clear Bz
                have HB1 := Lib.hid W9.1
                clear W9
                go_wp2
                exact bodyPost_ret (v := .tuple #[.agg #[.bool m4, .int .u64 c4, .int .u64 d4, .int .i64 q4], .int .i64 e4]) (by simp [results, Tryz.results16, go_sem, q0, q1, q2, q3]) rfl ⟨_, ⟨_, _, _, _, _, HMK.out.symm.trans HD4.out, rfl⟩, rfl, bel4 HB1.out hle⟩
    · have g0 : decide ((0 : Int) < (r.length : Int)) = false := decide_eq_false (by omega)
      have g0n : decide (0 < r.length) = false := decide_eq_false h0
      clear h0
      go_wp2
      go_loopw [5, 6, 7, 8, 9] (fun nv hv tv pv iv wr => RdS w r nv hv tv pv iv wr) (fun _ _ _ _ iv _ => r.length - (intOf iv).toNat)
      case atStart => exact rdS_0 r HV.out
      case round =>
        obtain ⟨k, a, b, m, H, T, p, A, cap, ds, hI, hHa, hTb, hm, hD, hdv, rfl, rfl, rfl, rfl, rfl, hB⟩ := hrel
        have hk := hI.1
        have ha30 : a ≤ 30 := by rw [← hHa]; exact hI.2.2.2.2.2.1
        have hb9 : b ≤ 9 := by rw [← hTb]; exact hI.2.2.2.2.2.2.1
        have hm39 : m ≤ 39 := by omega
        have HI := Lib.hid hI
        have HHa := Lib.hid hHa
        have HTb := Lib.hid hTb
        have HM := Lib.hid hm
        have HDV := Lib.hid hdv
        clear hI hHa hTb hm hdv HV
        by_cases hlt : k < r.length
        · obtain ⟨x, hx⟩ : ∃ x : Nat, ((⟨r.toArray⟩ : ByteArray)[k]'hlt).toNat = x := ⟨_, rfl⟩
          have hx2 : r[k].toNat = x := hx
          have HX := Lib.hid hx2
          clear hx2
          have hlti : (k : Int) < (r.length : Int) := by omega
          by_cases hd : 48 ≤ x ∧ x ≤ 57
          · obtain ⟨hd1, hd2⟩ := hd
            have hdi : isDig r[k] = true := by unfold isDig; rw [HX.out]; simp; omega
            have HDI := Lib.hid hdi
            clear hdi
            have h1 : (48 : Int) ≤ (x : Int) := by omega
            have h2 : (x : Int) ≤ 57 := by omega
            have ho1 := World.ownsRow_lit (base := wr.heap.size) (e := 3) (size := 1) wr #[.int .i64 ((x : Int) - 48)] 1 (Nat.le_refl _) (by unfold maxLen; omega) (by simp)
            have HO1 := Lib.hid ho1
            have happ : ∀ (v' : Value) (w1 : World), w1.ownsRow wr.heap.size 3 1 v' (1 + m) ([.int .i64 ((x : Int) - 48)] ++ ds.map mkD_) → ∃ (D : Option Addr) (cap : Nat), v' = .slice D (1 + m) cap ∧ DigC w1 D (1 + m) cap ((x - 48) :: ds) := by
              intro v' w1 ho
              have hl : ((x - 48) :: ds).length = 1 + m := by simp [hD.1]; omega
              have ex : (x : Int) - 48 = ((x - 48 : Nat) : Int) := by omega
              have ho' : w1.ownsRow wr.heap.size 3 1 v' ((x - 48) :: ds).length (((x - 48) :: ds).map mkD_) := by rw [hl]; rw [ex] at ho; simpa [mkD_] using ho
              obtain ⟨D, cap, e, hD⟩ := dig_own ho' (by
                intro d hd
                rcases List.mem_cons.1 hd with h | h
                · omega
                · exact hD.2.2.2.1 d h) (by rw [hl]; omega)
              rw [hl] at e hD
              exact ⟨D, cap, e, hD⟩
            have HAPP := Lib.hid happ
            clear ho1 happ
            cases p
            · have HP := Lib.hid (show True from trivial)
              clear HP
              go_wp2_with (at_builtin; refine wpList_append_dig rfl _ _ rfl wr.heap.size _ 1 _ rfl HO1.out A m cap ds rfl (hD.alloc _) (by omega) (by simp) ?_)
              intro v' w1 ho1 hb1
              have hbw : Below wr.heap.size wr w1 := ((Below.refl _ _).alloc (Nat.le_refl _) _).trans hb1
              obtain ⟨D, cap', rfl, HD1⟩ := HAPP.out v' w1 ho1
              have W1 := hB.below hbw
              have HDVL := Lib.hid (show dv ((x - 48) :: ds) = (x - 48) + 10 * dv ds from rfl)
              clear ho1 hb1 HO1 HAPP hB hbw hD
              by_cases hfull : a = 30
              · subst hfull
                have HE := Lib.hid (HRE.out.symm.trans (rd_bad_w false HI.out hlt (fun e => by have := HX.out; rw [e] at this; simp at this; omega) (.inr HHa.out)))
                obtain ⟨lq, q0, q1, q2, q3⟩ := HB.dec (t := 25) (g := w.heap.size) (a := .bool false) (b := .int .u64 0) (c := .int .u64 0) (d := .int .i64 0) W1 (by simp)
                have Bz := HB.blk (g := w.heap.size) (t := 25) (cs := #[.bool false, .int .u64 0, .int .u64 0, .int .i64 0]) W1 (by simp)
                have fz0 := Bz.frozen 0
                have fz1 := Bz.frozen 1
                have fz2 := Bz.frozen 2
                have fz3 := Bz.frozen 3
                clear Bz
                have HB1 := Lib.hid W1.1
                clear W1
                go_wp2
                exact bodyPost_ret (v := .tuple #[.agg #[.bool false, .int .u64 0, .int .u64 0, .int .i64 0], .int .i64 2]) (by simp [results, Tryz.results16, go_sem, q0, q1, q2, q3]) rfl ⟨_, ⟨_, _, _, _, _, HE.out.trans (err_form 2), rfl⟩, rfl, bel4 HB1.out hle⟩
              · have hlt2 : a < 30 := by omega
                clear hfull
                have g1 : (a : Int) + 1 ≤ 30 := by omega
                have g2 : (b : Int) ≤ 9 := by omega
                have HI2 := Lib.hid (rd_head HI.out hlt HDI.out (by rw [HHa.out]; exact hlt2))
                have HN2 := Lib.hid (show dv ((x - 48) :: ds) = numL ((H ++ [r[k]]) ++ T) by rw [numL_headpush _ _ _ (HI.out.2.2.1 rfl), HDVL.out, HDV.out, HX.out])
                have W2 := Lib.hid W1
                clear W1
                go_wp2
                go_roundw
                case rel => exact ⟨k + 1, a + 1, b, 1 + m, H ++ [r[k]], T, false, D, cap', (x - 48) :: ds, HI2.out, by simp [HHa.out], HTb.out, by have := HM.out; omega, HD1, HN2.out, rfl, by go_num, rfl, rfl, by go_num, W2.out⟩
                case measure => simp [intOf]; omega
            · have HP := Lib.hid (show True from trivial)
              clear HP
              go_wp2_with (at_builtin; refine wpList_append_dig rfl _ _ rfl wr.heap.size _ 1 _ rfl HO1.out A m cap ds rfl (hD.alloc _) (by omega) (by simp) ?_)
              intro v' w1 ho1 hb1
              have hbw : Below wr.heap.size wr w1 := ((Below.refl _ _).alloc (Nat.le_refl _) _).trans hb1
              obtain ⟨D, cap', rfl, HD1⟩ := HAPP.out v' w1 ho1
              have W1 := hB.below hbw
              have HDVL := Lib.hid (show dv ((x - 48) :: ds) = (x - 48) + 10 * dv ds from rfl)
              clear ho1 hb1 HO1 HAPP hB hbw hD
              by_cases hfull : b = 9
              · subst hfull
                have HE := Lib.hid (HRE.out.symm.trans (rd_bad_p false HI.out hlt (.inr HTb.out)))
                obtain ⟨lq, q0, q1, q2, q3⟩ := HB.dec (t := 25) (g := w.heap.size) (a := .bool false) (b := .int .u64 0) (c := .int .u64 0) (d := .int .i64 0) W1 (by simp)
                have Bz := HB.blk (g := w.heap.size) (t := 25) (cs := #[.bool false, .int .u64 0, .int .u64 0, .int .i64 0]) W1 (by simp)
                have fz0 := Bz.frozen 0
                have fz1 := Bz.frozen 1
                have fz2 := Bz.frozen 2
                have fz3 := Bz.frozen 3
                clear Bz
                have HB1 := Lib.hid W1.1
                clear W1
                go_wp2
                exact bodyPost_ret (v := .tuple #[.agg #[.bool false, .int .u64 0, .int .u64 0, .int .i64 0], .int .i64 2]) (by simp [results, Tryz.results16, go_sem, q0, q1, q2, q3]) rfl ⟨_, ⟨_, _, _, _, _, HE.out.trans (err_form 2), rfl⟩, rfl, bel4 HB1.out hle⟩
              · have hlt2 : b < 9 := by omega
                clear hfull
                have g1 : (a : Int) ≤ 30 := by omega
                have g2 : (b : Int) + 1 ≤ 9 := by omega
                have HI2 := Lib.hid (rd_tail HI.out hlt HDI.out (by rw [HTb.out]; exact hlt2))
                have HN2 := Lib.hid (show dv ((x - 48) :: ds) = numL (H ++ (T ++ [r[k]])) by rw [numL_tailpush, HDVL.out, HDV.out, HX.out])
                have W2 := Lib.hid W1
                clear W1
                go_wp2
                go_roundw
                case rel => exact ⟨k + 1, a, b + 1, 1 + m, H, T ++ [r[k]], true, D, cap', (x - 48) :: ds, HI2.out, HHa.out, by simp [HTb.out], by have := HM.out; omega, HD1, HN2.out, rfl, rfl, by go_num, rfl, by go_num, W2.out⟩
                case measure => simp [intOf]; omega
          · have hdi : isDig r[k] = false := by unfold isDig; rw [HX.out]; simp; omega
            have HDI := Lib.hid hdi
            clear hdi
            have W1 := hB
            have hsp : (x < 48 ∧ decide ((48 : Int) ≤ (x : Int)) = false) ∨ (48 ≤ x ∧ 57 < x) := by
              rcases Nat.lt_or_ge x 48 with h | h
              · exact .inl ⟨h, by simp; omega⟩
              · exact .inr ⟨h, by omega⟩
            clear hd
            by_cases hp46 : x = 46
            · subst hp46
              clear hsp
              have hc46 : r[k] = 46 := UInt8.toNat_inj.1 HX.out
              have HC46 := Lib.hid hc46
              clear hc46
              cases p
              · by_cases h0 : a = 0
                · subst h0
                  have HE := Lib.hid (HRE.out.symm.trans (rd_bad_0 false HI.out hlt HC46.out HHa.out))
                  obtain ⟨lq, q0, q1, q2, q3⟩ := HB.dec (t := 25) (g := w.heap.size) (a := .bool false) (b := .int .u64 0) (c := .int .u64 0) (d := .int .i64 0) W1 (by simp)
                  have Bz := HB.blk (g := w.heap.size) (t := 25) (cs := #[.bool false, .int .u64 0, .int .u64 0, .int .i64 0]) W1 (by simp)
                  have fz0 := Bz.frozen 0
                  have fz1 := Bz.frozen 1
                  have fz2 := Bz.frozen 2
                  have fz3 := Bz.frozen 3
                  clear Bz
                  have HB1 := Lib.hid W1.1
                  clear W1
                  go_wp2
                  exact bodyPost_ret (v := .tuple #[.agg #[.bool false, .int .u64 0, .int .u64 0, .int .i64 0], .int .i64 2]) (by simp [results, Tryz.results16, go_sem, q0, q1, q2, q3]) rfl ⟨_, ⟨_, _, _, _, _, HE.out.trans (err_form 2), rfl⟩, rfl, bel4 HB1.out hle⟩
                · have g0 : (0 : Int) < (a : Int) := by omega
                  have HI2 := Lib.hid (rd_point HI.out hlt HC46.out (by rw [HHa.out]; omega))
                  have W2 := Lib.hid W1
                  clear W1 hB
                  go_wp2
                  go_roundw
                  case rel => exact ⟨k + 1, a, b, m, H, T, true, A, cap, ds, HI2.out, HHa.out, HTb.out, HM.out, hD, HDV.out, rfl, rfl, rfl, rfl, by go_num, W2.out⟩
                  case measure => simp [intOf]; omega
              · have HE := Lib.hid (HRE.out.symm.trans (rd_bad_p false HI.out hlt (.inl HDI.out)))
                obtain ⟨lq, q0, q1, q2, q3⟩ := HB.dec (t := 25) (g := w.heap.size) (a := .bool false) (b := .int .u64 0) (c := .int .u64 0) (d := .int .i64 0) W1 (by simp)
                have Bz := HB.blk (g := w.heap.size) (t := 25) (cs := #[.bool false, .int .u64 0, .int .u64 0, .int .i64 0]) W1 (by simp)
                have fz0 := Bz.frozen 0
                have fz1 := Bz.frozen 1
                have fz2 := Bz.frozen 2
                have fz3 := Bz.frozen 3
                clear Bz
                have HB1 := Lib.hid W1.1
                clear W1
                go_wp2
                exact bodyPost_ret (v := .tuple #[.agg #[.bool false, .int .u64 0, .int .u64 0, .int .i64 0], .int .i64 2]) (by simp [results, Tryz.results16, go_sem, q0, q1, q2, q3]) rfl ⟨_, ⟨_, _, _, _, _, HE.out.trans (err_form 2), rfl⟩, rfl, bel4 HB1.out hle⟩
            · have g46 : ((x : Int) == 46) = false := by simp; omega
              have hne : r[k] ≠ 46 := fun e => by have := HX.out; rw [e] at this; simp at this; omega
              have HNE := Lib.hid hne
              clear hne
              have HE := Lib.hid (show R = errV 2 by
                cases p
                · exact HRE.out.symm.trans (rd_bad_w false HI.out hlt HNE.out (.inl HDI.out))
                · exact HRE.out.symm.trans (rd_bad_p false HI.out hlt (.inl HDI.out)))
              rcases hsp with ⟨hs1, hs2⟩ | ⟨hs1, hs2⟩
              · clear hs1
                obtain ⟨lq, q0, q1, q2, q3⟩ := HB.dec (t := 25) (g := w.heap.size) (a := .bool false) (b := .int .u64 0) (c := .int .u64 0) (d := .int .i64 0) W1 (by simp)
                have Bz := HB.blk (g := w.heap.size) (t := 25) (cs := #[.bool false, .int .u64 0, .int .u64 0, .int .i64 0]) W1 (by simp)
                have fz0 := Bz.frozen 0
                have fz1 := Bz.frozen 1
                have fz2 := Bz.frozen 2
                have fz3 := Bz.frozen 3
                clear Bz
                have HB1 := Lib.hid W1.1
                clear W1
                go_wp2
                exact bodyPost_ret (v := .tuple #[.agg #[.bool false, .int .u64 0, .int .u64 0, .int .i64 0], .int .i64 2]) (by simp [results, Tryz.results16, go_sem, q0, q1, q2, q3]) rfl ⟨_, ⟨_, _, _, _, _, HE.out.trans (err_form 2), rfl⟩, rfl, bel4 HB1.out hle⟩
              · have hs3 : (48 : Int) ≤ (x : Int) := by omega
                have hs4 : decide ((x : Int) ≤ 57) = false := by simp; omega
                clear hs1 hs2
                obtain ⟨lq, q0, q1, q2, q3⟩ := HB.dec (t := 25) (g := w.heap.size) (a := .bool false) (b := .int .u64 0) (c := .int .u64 0) (d := .int .i64 0) W1 (by simp)
                have Bz := HB.blk (g := w.heap.size) (t := 25) (cs := #[.bool false, .int .u64 0, .int .u64 0, .int .i64 0]) W1 (by simp)
                have fz0 := Bz.frozen 0
                have fz1 := Bz.frozen 1
                have fz2 := Bz.frozen 2
                have fz3 := Bz.frozen 3
                clear Bz
                have HB1 := Lib.hid W1.1
                clear W1
                go_wp2
                exact bodyPost_ret (v := .tuple #[.agg #[.bool false, .int .u64 0, .int .u64 0, .int .i64 0], .int .i64 2]) (by simp [results, Tryz.results16, go_sem, q0, q1, q2, q3]) rfl ⟨_, ⟨_, _, _, _, _, HE.out.trans (err_form 2), rfl⟩, rfl, bel4 HB1.out hle⟩
        · obtain rfl : k = r.length := by omega
          clear hlt hk
          have HTR := Lib.hid fun t h => dv_trim (ds := ds) (m := t) h
          have W1 := hB
          clear hB
          go_wp2_with fail
          refine (trim_c A m cap ds _ hD).mono ?_
          rintro e w2 ⟨_, ⟨t', ht', rfl⟩, rfl, rfl⟩
          have HT' := Lib.hid ht'
          have H1 := HTR.out t' ht'
          have H2 := hD.take (m := t') (by have := ht'.1; rw [hD.1] at this; exact this)
          have E1 := Lib.hid (H1.1.trans HDV.out)
          have NN := Lib.hid H1.2
          have ZT := Lib.hid (fun h => trim_zero (ds := ds) (t := t') ht' h)
          have hz0 := Lib.hid (show t' = 0 → dv ds = 0 from fun h => by rw [← H1.1, h]; simp [dv])
          clear ht' H1 HTR hD
          by_cases h0 : a = 0
          · subst h0
            have HE := Lib.hid (HRE.out.symm.trans (rd_end_0 false HI.out HHa.out))
            obtain ⟨lq, q0, q1, q2, q3⟩ := HB.dec (t := 25) (g := w.heap.size) (a := .bool false) (b := .int .u64 0) (c := .int .u64 0) (d := .int .i64 0) W1 (by simp)
            have Bz := HB.blk (g := w.heap.size) (t := 25) (cs := #[.bool false, .int .u64 0, .int .u64 0, .int .i64 0]) W1 (by simp)
            have fz0 := Bz.frozen 0
            have fz1 := Bz.frozen 1
            have fz2 := Bz.frozen 2
            have fz3 := Bz.frozen 3
            clear Bz
            have HB1 := Lib.hid W1.1
            clear W1
            go_wp2
            exact bodyPost_ret (v := .tuple #[.agg #[.bool false, .int .u64 0, .int .u64 0, .int .i64 0], .int .i64 2]) (by simp [results, Tryz.results16, go_sem, q0, q1, q2, q3]) rfl ⟨_, ⟨_, _, _, _, _, HE.out.trans (err_form 2), rfl⟩, rfl, bel4 HB1.out hle⟩
          · have g0 : ((a : Int) == 0) = false := by simp; omega
            have ha1 : 1 ≤ a := by omega
            clear h0
            cases p
            · have gb : True := trivial
              have hend := rd_end false HI.out (by rw [HHa.out]; exact ha1) (fun h => by cases h)
              rw [if_neg (fun h => by cases h.1), HTb.out] at hend
              have hmk := hend.symm.trans HRE.out
              have HMK := Lib.hid hmk
              clear hmk hend
              go_wp2_with fail
              refine (make_all false A t' cap (ds.take t') _ b _ H2 NN.out E1.out).mono ?_
              rintro e w9 ⟨_, ⟨m4, c4, d4, q4, e4, D4, rfl⟩, rfl, hb⟩
              have W9 := W1.below hb
              have HD4 := Lib.hid D4
              clear hb W1 D4 H2
              obtain ⟨lq, q0, q1, q2, q3⟩ := HB.dec (t := 25) (g := w.heap.size) (a := .bool false) (b := .int .u64 0) (c := .int .u64 0) (d := .int .i64 0) W9 (by simp)
              have Bz := HB.blk (g := w.heap.size) (t := 25) (cs := #[.bool false, .int .u64 0, .int .u64 0, .int .i64 0]) W9 (by simp)
              have fz0 := Bz.frozen 0
              have fz1 := Bz.frozen 1
              have fz2 := Bz.frozen 2
              have fz3 := Bz.frozen 3
              clear Bz
              have HB1 := Lib.hid W9.1
              clear W9
              go_wp2
              exact bodyPost_ret (v := .tuple #[.agg #[.bool m4, .int .u64 c4, .int .u64 d4, .int .i64 q4], .int .i64 e4]) (by simp [results, Tryz.results16, go_sem, q0, q1, q2, q3]) rfl ⟨_, ⟨_, _, _, _, _, HMK.out.symm.trans HD4.out, rfl⟩, rfl, bel4 HB1.out hle⟩
            · by_cases hb0 : b = 0
              · subst hb0
                have HE := Lib.hid (HRE.out.symm.trans (rd_end_p false HI.out HTb.out))
                obtain ⟨lq, q0, q1, q2, q3⟩ := HB.dec (t := 25) (g := w.heap.size) (a := .bool false) (b := .int .u64 0) (c := .int .u64 0) (d := .int .i64 0) W1 (by simp)
                have Bz := HB.blk (g := w.heap.size) (t := 25) (cs := #[.bool false, .int .u64 0, .int .u64 0, .int .i64 0]) W1 (by simp)
                have fz0 := Bz.frozen 0
                have fz1 := Bz.frozen 1
                have fz2 := Bz.frozen 2
                have fz3 := Bz.frozen 3
                clear Bz
                have HB1 := Lib.hid W1.1
                clear W1
                go_wp2
                exact bodyPost_ret (v := .tuple #[.agg #[.bool false, .int .u64 0, .int .u64 0, .int .i64 0], .int .i64 2]) (by simp [results, Tryz.results16, go_sem, q0, q1, q2, q3]) rfl ⟨_, ⟨_, _, _, _, _, HE.out.trans (err_form 2), rfl⟩, rfl, bel4 HB1.out hle⟩
              · have gb : ((b : Int) == 0) = false := by simp; omega
                have hend := rd_end false HI.out (by rw [HHa.out]; exact ha1) (fun _ => by rw [HTb.out]; omega)
                rw [if_neg (fun h => by cases h.1), HTb.out] at hend
                have hmk := hend.symm.trans HRE.out
                have HMK := Lib.hid hmk
                clear hmk hend
                go_wp2_with fail
                refine (make_all false A t' cap (ds.take t') _ b _ H2 NN.out E1.out).mono ?_
                rintro e w9 ⟨_, ⟨m4, c4, d4, q4, e4, D4, rfl⟩, rfl, hb⟩
                have W9 := W1.below hb
                have HD4 := Lib.hid D4
                clear hb W1 D4 H2
                obtain ⟨lq, q0, q1, q2, q3⟩ := HB.dec (t := 25) (g := w.heap.size) (a := .bool false) (b := .int .u64 0) (c := .int .u64 0) (d := .int .i64 0) W9 (by simp)
                have Bz := HB.blk (g := w.heap.size) (t := 25) (cs := #[.bool false, .int .u64 0, .int .u64 0, .int .i64 0]) W9 (by simp)
                have fz0 := Bz.frozen 0
                have fz1 := Bz.frozen 1
                have fz2 := Bz.frozen 2
                have fz3 := Bz.frozen 3
                clear Bz
                have HB1 := Lib.hid W9.1
                clear W9
                go_wp2
                exact bodyPost_ret (v := .tuple #[.agg #[.bool m4, .int .u64 c4, .int .u64 d4, .int .i64 q4], .int .i64 e4]) (by simp [results, Tryz.results16, go_sem, q0, q1, q2, q3]) rfl ⟨_, ⟨_, _, _, _, _, HMK.out.symm.trans HD4.out, rfl⟩, rfl, bel4 HB1.out hle⟩
theorem rread_all (t : List UInt8) (w : World) (ht : t.length ≤ 281474976710656) :
    Calls Tryz.prog 16 #[.string ⟨t.toArray⟩] w (Ret w (Ans (readV t))) := by
  unfold readV
  cases hn : Lib.hasPrefix t [45]
  · rw [pre_no hn]
    refine rreadR false t t w ht (.inr ⟨rfl, rfl, fun h e => ?_⟩)
    cases t with
    | nil => simp at h
    | cons c t =>
      have : c = 45 := UInt8.toNat_inj.1 e
      subst this
      rw [(pre_cons t).1] at hn
      cases hn
  · have e := pre_yes hn
    refine rreadR true t _ w ?_ (.inl ⟨rfl, e⟩)
    rw [e] at ht
    rw [List.length_cons] at ht
    omega
end Go.Proofs.YtlhceelkefgjhaaGreatDoor
