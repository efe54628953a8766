/- Package dec: figures. -/
import Derived.Test.YtlhceelkefgjhaaGreatDoorTextC
namespace Go.Proofs.YtlhceelkefgjhaaGreatDoor
open Go.RowKit

set_option maxHeartbeats 400000 in
theorem wide_x (a b : Int) (w : World) : Calls Tryz.prog 71 #[.agg #[.int .u64 a, .int .u64 b]] w fun e w' => e = .returned (.agg #[.int .u64 a, .int .u64 b, .int .u64 0, .int .u64 0]) ∧ (w.alloc (.cells #[.int .u64 a, .int .u64 b] 23)).alloc (.cells #[.int .u64 a, .int .u64 b, .int .u64 0, .int .u64 0] 49) = w' := by
  go_enter Tryz.func71, Tryz.ntmps71
  go_wp2
  exact bodyPost_ret (v := .agg #[.int .u64 a, .int .u64 b, .int .u64 0, .int .u64 0]) (by simp [results, Tryz.results71, go_sem]) rfl ⟨rfl, rfl⟩
theorem cutp {P Q : Prop} (hp : P) (h : P → Q) : Q := h hp
theorem Blk.set4 {w : World} {g : Nat} {t : TypeId} {a b c d a' b' c' d' : Value} (h : Blk w g t #[a, b, c, d]) : Blk ((((w.setCell ⟨g, 0, none⟩ a').setCell ⟨g, 1, none⟩ b').setCell ⟨g, 2, none⟩ c').setCell ⟨g, 3, none⟩ d') g t #[a', b', c', d'] :=
  (((h.set_ 0 a').set_ 1 b').set_ 2 c').set_ 3 d'
theorem Blk.set2 {w : World} {g : Nat} {t : TypeId} {a b a' b' : Value} (h : Blk w g t #[a, b]) : Blk ((w.setCell ⟨g, 0, none⟩ a').setCell ⟨g, 1, none⟩ b') g t #[a', b'] := (h.set_ 0 a').set_ 1 b'
theorem fMk {w0 w : World} {g h : Nat} {x0 x1 c0 c1 : Int} (H : HB w0 [(h, 23, #[.int .u64 x0, .int .u64 x1]), (g, 23, #[.int .u64 c0, .int .u64 c1])] w) : HB w0 [(h, 23, #[.int .u64 x0, .int .u64 x1]), (g, 23, #[.int .u64 c0, .int .u64 c1])] w ∧ (w.cell? ⟨h, 0, none⟩ = some (.int .u64 x0) ∧ w.cell? ⟨h, 1, none⟩ = some (.int .u64 x1)) ∧ (w.cell? ⟨g, 0, none⟩ = some (.int .u64 c0) ∧ w.cell? ⟨g, 1, none⟩ = some (.int .u64 c1)) :=
  ⟨H, (HB.two (t := 23) H (by simp)).2, (HB.two (t := 23) H (by simp)).2⟩

def figL (N : Nat) (m : Int) : List UInt8 := padL (Lib.trimLeftB (Lib.decDigits (N / 1000000000000000) ++ padL (Lib.decDigits (N % 1000000000000000)) 15) 48) m
theorem padL_length (l : List UInt8) (m : Int) : (padL l m).length = (m - l.length).toNat + l.length := by
  unfold padL; rw [List.length_append, Lib.repeatL_length]; simp
theorem trimLeftB_le (l : List UInt8) (c : UInt8) : (Lib.trimLeftB l c).length ≤ l.length := by
  unfold Lib.trimLeftB; exact (List.dropWhile_sublist _).length_le
theorem fig_halves {c0 c1 x0 x1 d0 d1 d2 d3 r0 r1 : Int} {ok : Bool} {N : Nat} (hN : v2 c0 c1 = N) (hb : N < 1000000000000000000000000000000) (ex : v2 x0 x1 = 1000000000000000) (HD : DivR c0 c1 0 0 x0 x1 d0 d1 d2 d3 r0 r1 ok) :
    d0 = ((N / 1000000000000000 : Nat) : Int) ∧ r0 = ((N % 1000000000000000 : Nat) : Int) := by
  rcases HD with ⟨h, _⟩ | ⟨_, _, u0, u1, u2, u3, u4, u5, e1, e2⟩
  · omega
  · have e : v4 c0 c1 0 0 = N := by unfold v4; rw [hN]; simp [v2]
    rw [e, ex] at e1 e2
    have q : N / 1000000000000000 < 1000000000000000 := by omega
    have q2 : N % 1000000000000000 < 1000000000000000 := by omega
    generalize N / 1000000000000000 = A at *
    generalize N % 1000000000000000 = B at *
    unfold v4 v2 at e1
    unfold v2 at e2
    unfold U64 at *
    constructor
    · have z : v2 d2 d3 = 0 := by unfold v2; omega
      omega
    · omega
theorem gMk {w0 w : World} {g h : Nat} {d0 d1 d2 d3 r0 r1 : Int} (H : HB w0 [(g, 49, #[.int .u64 d0, .int .u64 d1, .int .u64 d2, .int .u64 d3]), (h, 23, #[.int .u64 r0, .int .u64 r1])] w) : HB w0 [(g, 49, #[.int .u64 d0, .int .u64 d1, .int .u64 d2, .int .u64 d3]), (h, 23, #[.int .u64 r0, .int .u64 r1])] w ∧ w.cell? ⟨g, 0, none⟩ = some (.int .u64 d0) ∧ w.cell? ⟨h, 0, none⟩ = some (.int .u64 r0) :=
  ⟨H, (HB.blk H (g := g) (t := 49) (cs := #[.int .u64 d0, .int .u64 d1, .int .u64 d2, .int .u64 d3]) (by simp)).cell 0, (HB.blk H (g := h) (t := 23) (cs := #[.int .u64 r0, .int .u64 r1]) (by simp)).cell 0⟩
theorem nDig_pow : ∀ (k u : Nat), u < 10 ^ (k + 1) → Lib.nDigits u ≤ k + 1
  | 0, u, h => by rw [Lib.nDigits_small (by simpa using h)]; omega
  | k + 1, u, h => by
    by_cases h' : u < 10
    · rw [Lib.nDigits_small h']; omega
    · rw [Lib.nDigits_big h']
      have := nDig_pow k (u / 10) (by rw [Nat.pow_succ] at h; omega)
      omega
theorem nDig_le (u : Nat) (h : u < 18446744073709551616) : Lib.nDigits u ≤ 20 := nDig_pow 19 u (Nat.lt_of_lt_of_le h (by decide))
theorem figL_at {N hi lo : Nat} {m : Int} (h : N / 1000000000000000 = hi) (h' : N % 1000000000000000 = lo) : figL N m = padL (Lib.trimLeftB (⟨(Lib.decDigits hi).toArray⟩ ++ ⟨(padL (Lib.decDigits lo) 15).toArray⟩ : ByteArray).data.toList 48) m := by
  rw [bytes_app]; subst h h'; rfl

set_option maxRecDepth 100000 in
set_option maxHeartbeats 3200000 in
theorem figures_c (c0 c1 least : Int) (w : World) (h0 : U64 c0) (h1 : U64 c1) (N : Nat) (hN : v2 c0 c1 = N) (hb : N < 1000000000000000000000000000000) (hm0 : -1000 ≤ least) (hm1 : least ≤ 1000) (htab : Lib.TabIs Tryz.prog w "internal/strconv.uint64pow10" .u64 Lib.pow10Tab) :
    Calls Tryz.prog 54 #[.agg #[.int .u64 c0, .int .u64 c1], .int .i64 least] w (Ret w (· = .string ⟨(figL N least).toArray⟩)) := by
  have HN := Lib.hid (And.intro hN hb)
  have HT := Lib.hid htab
  clear hN hb htab
  have W : HB w [(w.heap.size, 23, #[.int .u64 c0, .int .u64 c1])] (w.alloc (.cells #[.int .u64 c0, .int .u64 c1] 23)) := (HB.start (Below.refl _ w)).push #[.int .u64 c0, .int .u64 c1] 23
  go_enter Tryz.func54, Tryz.ntmps54
  go_wp2_with fail
  refine (ten_c 15 _).mono ?_
  rintro e w1 ⟨_, ⟨x0, x1, p, HX, rfl⟩, rfl, hb⟩
  obtain ⟨hx0, hx1, ex⟩ : U64 x0 ∧ U64 x1 ∧ v2 x0 x1 = 1000000000000000 := by
    obtain ⟨a, b, ⟨_, _, _, e⟩ | ⟨hn, _⟩⟩ := HX
    · exact ⟨a, b, e⟩
    · omega
  have EX := Lib.hid ex
  replace W := W.below hb
  have lq := (HB.two (t := 23) (g := w.heap.size) (a := .int .u64 c0) (b := .int .u64 c1) W (by simp)).1
  replace W := W.push #[.int .u64 x0, .int .u64 x1] 23
  clear hb HX ex
  go_upto_region 2 with fail
  go_cut [7, 8] (fun s t wx => ∃ (gq gr : Nat) (d0 d1 d2 d3 r0 r1 : Int) (ok : Bool), s = .pointer (some ⟨gq, 0, none⟩) ∧ t = .pointer (some ⟨gr, 0, none⟩) ∧ DivR c0 c1 0 0 x0 x1 d0 d1 d2 d3 r0 r1 ok ∧ HB w [(gq, 49, #[.int .u64 d0, .int .u64 d1, .int .u64 d2, .int .u64 d3]), (gr, 23, #[.int .u64 r0, .int .u64 r1])] wx)
  case first =>
    go_region_held3 (fun w' => HB w [(w1.heap.size, 23, #[.int .u64 x0, .int .u64 x1]), (w.heap.size, 23, #[.int .u64 c0, .int .u64 c1])] w' ∧ (w'.cell? ⟨w1.heap.size, 0, none⟩ = some (.int .u64 x0) ∧ w'.cell? ⟨w1.heap.size, 1, none⟩ = some (.int .u64 x1)) ∧ (w'.cell? ⟨w.heap.size, 0, none⟩ = some (.int .u64 c0) ∧ w'.cell? ⟨w.heap.size, 1, none⟩ = some (.int .u64 c1)))
      ((refine fMk ?_; repeat (first | (with_reducible exact HWx) | (with_reducible exact W) | (with_reducible refine HB.drew ?_) | (with_reducible refine HB.alloc ?_ _) | ((with_reducible refine HB.set_ ?_ ?_ ?_ _); rotate_left; (focus (simp; omega)); (focus (simp; omega))))))
      (first
        | (go_at_call 71; (with_reducible refine (wide_x c0 c1 _).mono ?_); rintro e wx ⟨rfl, rfl⟩)
        | (go_at_call 70; (with_reducible refine (div_c c0 c1 0 0 x0 x1 _ h0 h1 u64_0 u64_0 hx0 hx1).mono ?_); rintro e wx ⟨_, ⟨d0, d1, d2, d3, r0, r1, ok, HD, rfl⟩, rfl, hbx⟩; have HWx := keepB hbx (by assumption); have HBx := HB.bel HWx; have hszx := hbx.size; (try simp at hszx); (try ((refine cutp (P := Blk wx (w1.heap.size + 1) 49 #[.int .u64 0, .int .u64 0, .int .u64 0, .int .u64 0]) ?_ ?_); (focus ((refine Blk.below ?_ hbx ?_); (focus ((repeat (first | ((with_reducible refine Blk.new_at ?_); (simp; done)) | (with_reducible refine Blk.drew ?_) | (with_reducible refine Blk.alloc ?_ _))); done)); (first | (simp; done) | (simp; omega)))); intro A1; have l1 := A1.lt; have a10 := A1.cell 0; have a11 := A1.cell 1; have a12 := A1.cell 2; have a13 := A1.cell 3; have b10 := A1.frozen 0; have b11 := A1.frozen 1; have b12 := A1.frozen 2; have b13 := A1.frozen 3; simp at a10 a11 a12 a13)); (try ((refine cutp (P := Blk wx (w1.heap.size + 1) 23 #[.int .u64 0, .int .u64 0]) ?_ ?_); (focus ((refine Blk.below ?_ hbx ?_); (focus ((repeat (first | ((with_reducible refine Blk.new_at ?_); (simp; done)) | (with_reducible refine Blk.drew ?_) | (with_reducible refine Blk.alloc ?_ _))); done)); (first | (simp; done) | (simp; omega)))); intro C1; have m1 := C1.lt; have e10 := C1.cell 0; have e11 := C1.cell 1; have f10 := C1.frozen 0; have f11 := C1.frozen 1; simp at e10 e11)); (try ((refine cutp (P := Blk wx (w1.heap.size + 1 + 1) 49 #[.int .u64 0, .int .u64 0, .int .u64 0, .int .u64 0]) ?_ ?_); (focus ((refine Blk.below ?_ hbx ?_); (focus ((repeat (first | ((with_reducible refine Blk.new_at ?_); (simp; done)) | (with_reducible refine Blk.drew ?_) | (with_reducible refine Blk.alloc ?_ _))); done)); (first | (simp; done) | (simp; omega)))); intro A2; have l2 := A2.lt; have a20 := A2.cell 0; have a21 := A2.cell 1; have a22 := A2.cell 2; have a23 := A2.cell 3; have b20 := A2.frozen 0; have b21 := A2.frozen 1; have b22 := A2.frozen 2; have b23 := A2.frozen 3; simp at a20 a21 a22 a23)); (try ((refine cutp (P := Blk wx (w1.heap.size + 1 + 1) 23 #[.int .u64 0, .int .u64 0]) ?_ ?_); (focus ((refine Blk.below ?_ hbx ?_); (focus ((repeat (first | ((with_reducible refine Blk.new_at ?_); (simp; done)) | (with_reducible refine Blk.drew ?_) | (with_reducible refine Blk.alloc ?_ _))); done)); (first | (simp; done) | (simp; omega)))); intro C2; have m2 := C2.lt; have e20 := C2.cell 0; have e21 := C2.cell 1; have f20 := C2.frozen 0; have f21 := C2.frozen 1; simp at e20 e21)); (try ((refine cutp (P := Blk wx (w1.heap.size + 1 + 1 + 1) 49 #[.int .u64 0, .int .u64 0, .int .u64 0, .int .u64 0]) ?_ ?_); (focus ((refine Blk.below ?_ hbx ?_); (focus ((repeat (first | ((with_reducible refine Blk.new_at ?_); (simp; done)) | (with_reducible refine Blk.drew ?_) | (with_reducible refine Blk.alloc ?_ _))); done)); (first | (simp; done) | (simp; omega)))); intro A3; have l3 := A3.lt; have a30 := A3.cell 0; have a31 := A3.cell 1; have a32 := A3.cell 2; have a33 := A3.cell 3; have b30 := A3.frozen 0; have b31 := A3.frozen 1; have b32 := A3.frozen 2; have b33 := A3.frozen 3; simp at a30 a31 a32 a33)); (try ((refine cutp (P := Blk wx (w1.heap.size + 1 + 1 + 1) 23 #[.int .u64 0, .int .u64 0]) ?_ ?_); (focus ((refine Blk.below ?_ hbx ?_); (focus ((repeat (first | ((with_reducible refine Blk.new_at ?_); (simp; done)) | (with_reducible refine Blk.drew ?_) | (with_reducible refine Blk.alloc ?_ _))); done)); (first | (simp; done) | (simp; omega)))); intro C3; have m3 := C3.lt; have e30 := C3.cell 0; have e31 := C3.cell 1; have f30 := C3.frozen 0; have f31 := C3.frozen 1; simp at e30 e31)); (try ((refine cutp (P := Blk wx (w1.heap.size + 1 + 1 + 1 + 1) 49 #[.int .u64 0, .int .u64 0, .int .u64 0, .int .u64 0]) ?_ ?_); (focus ((refine Blk.below ?_ hbx ?_); (focus ((repeat (first | ((with_reducible refine Blk.new_at ?_); (simp; done)) | (with_reducible refine Blk.drew ?_) | (with_reducible refine Blk.alloc ?_ _))); done)); (first | (simp; done) | (simp; omega)))); intro A4; have l4 := A4.lt; have a40 := A4.cell 0; have a41 := A4.cell 1; have a42 := A4.cell 2; have a43 := A4.cell 3; have b40 := A4.frozen 0; have b41 := A4.frozen 1; have b42 := A4.frozen 2; have b43 := A4.frozen 3; simp at a40 a41 a42 a43)); (try ((refine cutp (P := Blk wx (w1.heap.size + 1 + 1 + 1 + 1) 23 #[.int .u64 0, .int .u64 0]) ?_ ?_); (focus ((refine Blk.below ?_ hbx ?_); (focus ((repeat (first | ((with_reducible refine Blk.new_at ?_); (simp; done)) | (with_reducible refine Blk.drew ?_) | (with_reducible refine Blk.alloc ?_ _))); done)); (first | (simp; done) | (simp; omega)))); intro C4; have m4 := C4.lt; have e40 := C4.cell 0; have e41 := C4.cell 1; have f40 := C4.frozen 0; have f41 := C4.frozen 1; simp at e40 e41))))
    all_goals
      go_wp2_with fail
      go_meet
      case rel =>
        refine ⟨_, _, d0, d1, d2, d3, r0, r1, ok, rfl, rfl, HD, ?_, ?_⟩
        · repeat (first | (with_reducible exact HBx) | (with_reducible refine bel_alloc ?_ _) | ((with_reducible refine Below.setCell ?_ ?_ _); rotate_left; (focus (simp; omega))))
        · intro b hb
          simp only [List.mem_cons, List.not_mem_nil, or_false] at hb
          rcases hb with rfl | rfl
          · dsimp only
            repeat (first | ((with_reducible refine Blk.new_at ?_); (simp; done)) | (with_reducible refine Blk.alloc ?_ _) | (with_reducible exact Blk.set4 A1) | (with_reducible exact Blk.set4 A2) | (with_reducible exact Blk.set4 A3) | (with_reducible exact Blk.set4 A4) | (with_reducible assumption) | (with_reducible refine Blk.set4 (a := .int .u64 0) (b := .int .u64 0) (c := .int .u64 0) (d := .int .u64 0) ?_) | (refine Blk.far (p := ⟨_, _, none⟩) ?_ (by first | (simp; done) | (simp; omega)) _))
          · dsimp only
            repeat (first | ((with_reducible refine Blk.new_at ?_); (simp; done)) | (with_reducible refine Blk.alloc ?_ _) | (with_reducible exact Blk.set2 C1) | (with_reducible exact Blk.set2 C2) | (with_reducible exact Blk.set2 C3) | (with_reducible exact Blk.set2 C4) | (with_reducible assumption) | (with_reducible refine Blk.set2 (a := .int .u64 0) (b := .int .u64 0) ?_) | (refine Blk.far (p := ⟨_, _, none⟩) ?_ (by first | (simp; done) | (simp; omega)) _))
  case rest =>
    clear W
    obtain ⟨gq, gr, d0, d1, d2, d3, r0, r1, ok, rfl, rfl, HD, W⟩ := hcut
    obtain ⟨e1, e2⟩ := fig_halves HN.out.1 HN.out.2 EX.out HD
    have EF := Lib.hid (figL_at (N := N) (m := least) rfl rfl)
    have hhi : N / 1000000000000000 < 18446744073709551616 := by have := HN.out.2; omega
    have hlo : N % 1000000000000000 < 18446744073709551616 := by omega
    clear HN EX HD
    generalize N / 1000000000000000 = hi at *
    generalize N % 1000000000000000 = lo at *
    subst e1 e2
    have l1 : (Lib.decDigits hi).length ≤ 20 := by rw [Lib.decDigits_length]; exact nDig_le hi hhi
    have l2 : (Lib.decDigits lo).length ≤ 20 := by rw [Lib.decDigits_length]; exact nDig_le lo hlo
    have l3 : (padL (Lib.decDigits lo) 15).length ≤ 40 := by rw [padL_length]; omega
    have hlen : ¬ 9223372036854775807 < (Lib.decDigits hi).length + (padL (Lib.decDigits lo) 15).length := by omega
    have l4 : (Lib.trimLeftB (⟨(Lib.decDigits hi).toArray⟩ ++ ⟨(padL (Lib.decDigits lo) 15).toArray⟩ : ByteArray).data.toList 48).length ≤ 1000 := by
      refine Nat.le_trans (trimLeftB_le _ _) ?_
      rw [bytes_app]
      simp
      omega
    go_upto_region 3 with fail
    go_region_held3 (fun w' => HB w [(gq, 49, #[.int .u64 (hi : Int), .int .u64 d1, .int .u64 d2, .int .u64 d3]), (gr, 23, #[.int .u64 (lo : Int), .int .u64 r1])] w' ∧ w'.cell? ⟨gq, 0, none⟩ = some (.int .u64 (hi : Int)) ∧ w'.cell? ⟨gr, 0, none⟩ = some (.int .u64 (lo : Int)))
      ((refine gMk ?_; repeat (first | (with_reducible exact HWx) | (with_reducible exact W) | (with_reducible refine HB.drew ?_))))
      (first
        | (go_at_call 72; (first | (with_reducible refine (fmtU_c hi hhi _ (tabIs_below HT.out (belB (by assumption)))).mono ?_) | (with_reducible refine (fmtU_c lo hlo _ (tabIs_below HT.out (belB (by assumption)))).mono ?_)); rintro e wx ⟨_, rfl, rfl, hbx⟩; have HWx := keepB hbx (by assumption))
        | (go_at_call 73; (with_reducible refine (padded_c (Lib.decDigits lo) 15 _ (by omega) (by omega) (by omega)).mono ?_); rintro e wx ⟨_, rfl, rfl, hbx⟩; have HWx := keepB hbx (by assumption)))
    have HBx := HB.bel HWx
    go_wp2_with fail
    refine (Tryz.strings_TrimLeft_one _ 48 (by decide) _).mono ?_
    rintro e w2 ⟨rfl, rfl⟩
    go_wp2_with fail
    refine (padded_c _ least _ l4 hm0 hm1).mono ?_
    rintro e w3 ⟨_, rfl, rfl, hb3⟩
    go_wp2
    go_ret
    exact ⟨_, rfl, congrArg (fun l : List UInt8 => Ending.returned (.string ⟨l.toArray⟩)) EF.out.symm, HBx.trans (hb3.mono HBx.size)⟩
end Go.Proofs.YtlhceelkefgjhaaGreatDoor
