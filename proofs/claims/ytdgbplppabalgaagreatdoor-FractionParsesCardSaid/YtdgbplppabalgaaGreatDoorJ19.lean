/-
  Texts of one seat, joined: YCf YEi2 YOps YSum.
-/
import Derived.Test.YtdgbplppabalgaaGreatDoorJ18
import Derived.Test.YtdgbplppabalgaaGreatDoorJ14
import Derived.Deep.RegionHeld3
import Derived.LoopN
import Derived.Test.YtdgbplppabalgaaGreatDoorJ13
namespace Go.Proofs.YtdgbplppabalgaaGreatDoor
open Go.RowKit

theorem isNaNU (x : Int) (w : World) : Calls Tryz.prog 180 #[.int .u64 x] w fun e w' => e = .returned (.bool false) ∧ w = w' := by
  have hx : (x != x) = false := by simp
  go_enter Tryz.func180, Tryz.ntmps180
  go_wp2_with fail
  go_ret
  exact ⟨rfl, rfl⟩
set_option maxHeartbeats 800000 in
theorem cmpU_any (x y : Int) (w : World) : Calls Tryz.prog 145 #[.int .u64 x, .int .u64 y] w fun e w' => e = .returned (.int .i64 (cmpZ x y)) ∧ w = w' := by
  have H1 := Lib.hid (fun wx => isNaNU x wx)
  have H2 := Lib.hid (fun wx => isNaNU y wx)
  have hw := cmpZ_ways x y
  obtain ⟨c, hc⟩ : ∃ c, c = cmpZ x y := ⟨_, rfl⟩
  rw [← hc] at hw ⊢
  clear hc
  rcases hw with ⟨h, e⟩ | ⟨h, e⟩ | ⟨h, e⟩
  · have HE := Lib.hid e
    have h1 : decide (x < y) = true := decide_eq_true h
    clear e
    go_enter Tryz.func145, Tryz.ntmps145
    go_wp2_with fail
    refine (H1.out _).mono ?_
    rintro e w1 ⟨rfl, rfl⟩
    go_wp2_with fail
    refine (H2.out _).mono ?_
    rintro e w1 ⟨rfl, rfl⟩
    go_wp2_with fail
    go_ret
    exact ⟨by rw [HE.out]; rfl, rfl⟩
  · have HE := Lib.hid e
    subst h
    have h1 : ¬ x < x := by omega
    clear e
    go_enter Tryz.func145, Tryz.ntmps145
    go_wp2_with fail
    refine (H1.out _).mono ?_
    rintro e w1 ⟨rfl, rfl⟩
    go_wp2_with fail
    refine (H2.out _).mono ?_
    rintro e w1 ⟨rfl, rfl⟩
    go_wp2_with fail
    go_ret
    exact ⟨by rw [HE.out]; rfl, rfl⟩
  · have HE := Lib.hid e
    have h1 : decide (x < y) = false := decide_eq_false (by omega)
    have h2 : decide (y < x) = true := decide_eq_true h
    have h3 : ¬ x < y := by omega
    clear e
    go_enter Tryz.func145, Tryz.ntmps145
    go_wp2_with fail
    refine (H1.out _).mono ?_
    rintro e w1 ⟨rfl, rfl⟩
    go_wp2_with fail
    refine (H2.out _).mono ?_
    rintro e w1 ⟨rfl, rfl⟩
    go_wp2_with fail
    go_ret
    exact ⟨by rw [HE.out]; rfl, rfl⟩
def orI (a b : Int) : Int := if a = 0 then b else a
set_option maxHeartbeats 1600000 in
theorem orY_any (g : Nat) (a b : Int) (w : World) (ha : w.cell? ⟨g, 0, none⟩ = some (.int .i64 a)) (hb : w.cell? ⟨g, 1, none⟩ = some (.int .i64 b)) :
    Calls Tryz.prog 144 #[.slice (some ⟨g, 0, none⟩) 2 2] w fun e w' => e = .returned (.int .i64 (orI a b)) ∧ w = w' := by
  by_cases h : a = 0
  · subst h
    have HV := Lib.hid (show orI 0 b = b from if_pos rfl)
    by_cases k : b = 0
    · subst k
      go_enter Tryz.func144, Tryz.ntmps144
      go_wp2_with fail
      refine wp_loop_rounds 3 ?_
      rw [rounds_succ]
      go_wp2_with fail
      rw [rounds_succ]
      go_wp2_with fail
      rw [rounds_succ]
      go_wp2_with fail
      go_ret
      exact ⟨by rw [HV.out]; rfl, rfl⟩
    · have kb : (b != 0) = true := by simpa using k
      go_enter Tryz.func144, Tryz.ntmps144
      go_wp2_with fail
      refine wp_loop_rounds 2 ?_
      rw [rounds_succ]
      go_wp2_with fail
      rw [rounds_succ]
      go_wp2_with fail
      go_ret
      exact ⟨by rw [HV.out]; rfl, rfl⟩
  · have HV := Lib.hid (show orI a b = a from if_neg h)
    have kb : (a != 0) = true := by simpa using h
    go_enter Tryz.func144, Tryz.ntmps144
    go_wp2_with fail
    refine wp_loop_rounds 1 ?_
    rw [rounds_succ]
    go_wp2_with fail
    go_ret
    exact ⟨by rw [HV.out]; rfl, rfl⟩
theorem cmp0 (x : Int) : Lib.compareInt x 0 = sgnI x := by
  unfold Lib.compareInt
  rcases sgnI_ways x with ⟨h, e⟩ | ⟨h, e⟩ | ⟨h, e⟩ <;> rw [e]
  · rw [if_pos h]
  · rw [if_neg (by omega)]; first | rfl | (rw [if_neg (by omega)]) | (rw [if_pos (by omega)])
  · rw [if_neg (by omega)]; first | rfl | (rw [if_pos (by omega)])
theorem or_cmp (A B : Nat) : orI (cmpZ ((A / 18446744073709551616 : Nat) : Int) ((B / 18446744073709551616 : Nat) : Int)) (cmpZ ((A % 18446744073709551616 : Nat) : Int) ((B % 18446744073709551616 : Nat) : Int)) = cmpN A B := by
  have h1 := cmpZ_ways ((A / 18446744073709551616 : Nat) : Int) ((B / 18446744073709551616 : Nat) : Int)
  have h2 := cmpZ_ways ((A % 18446744073709551616 : Nat) : Int) ((B % 18446744073709551616 : Nat) : Int)
  have h3 := cmpN_ways A B
  obtain ⟨c1, e1⟩ : ∃ c, c = cmpZ ((A / 18446744073709551616 : Nat) : Int) ((B / 18446744073709551616 : Nat) : Int) := ⟨_, rfl⟩
  obtain ⟨c2, e2⟩ : ∃ c, c = cmpZ ((A % 18446744073709551616 : Nat) : Int) ((B % 18446744073709551616 : Nat) : Int) := ⟨_, rfl⟩
  obtain ⟨c3, e3⟩ : ∃ c, c = cmpN A B := ⟨_, rfl⟩
  rw [← e1] at h1 ⊢
  rw [← e2] at h2 ⊢
  rw [← e3] at h3 ⊢
  clear e1 e2 e3
  unfold orI
  split
  · omega
  · omega
theorem sgn_mul_pos {n d : Int} (hd : 0 < d) : sgnI (n * d) = sgnI n := by rw [sgnI_mul, sgnI_pos hd, Int.mul_one]
/-- two boxes of small fractions -/
structure Bs (w W : World) (n1 d1 n2 d2 : Int) : Prop where
  below : Below w.heap.size w W
  one : BxT W w.heap.size w.heap.size 78 (.int .i64 n1) (.int .i64 d1)
  two : BxT W w.heap.size (w.heap.size + 1) 78 (.int .i64 n2) (.int .i64 d2)
theorem Bs.new (w : World) (n1 d1 n2 d2 : Int) : Bs w ((w.alloc (rtO n1 d1)).alloc (rtO n2 d2)) n1 d1 n2 d2 := by
  have h1 := BxT.new (w.alloc (rtO n1 d1)) w.heap.size (by rw [push_size]; omega) 78 (.int .i64 n2) (.int .i64 d2)
  rw [push_size] at h1
  exact ⟨((Below.refl _ w).alloc (Nat.le_refl _) _).alloc (by rw [push_size]; omega) _, (BxT.new w w.heap.size (Nat.le_refl _) 78 (.int .i64 n1) (.int .i64 d1)).allocY _, h1⟩
set_option maxHeartbeats 3200000 in
set_option maxRecDepth 100000 in
theorem cmpFew_any (n1 d1 n2 d2 : Int) (w : World) (h1 : fewOk n1 d1) (h2 : fewOk n2 d2) :
    Calls Tryz.prog 103 #[rtV n1 d1, rtV n2 d2] w fun e w' => e = .returned (.tuple #[.int .i64 (cmpZ (n1 * d2) (n2 * d1)), .bool true]) ∧ Below w.heap.size w w' := by
  obtain ⟨a1, a2, a3, a4⟩ := h1
  obtain ⟨c1, c2, c3, c4⟩ := h2
  have hs1 := sgn_mul_pos (n := n1) c3
  have hs2 := sgn_mul_pos (n := n2) a3
  have HC1 := Lib.hid (fun wx => Tryz.cmp_Compare_int n1 0 wx)
  have HC2 := Lib.hid (fun wx => Tryz.cmp_Compare_int n2 0 wx)
  rw [cmp0] at HC1 HC2
  have HX0 := Bs.new w n1 d1 n2 d2
  by_cases hne : sgnI n1 = sgnI n2
  · have hsame := cmp_same (x := n1 * d2) (y := n2 * d1) (by rw [hs1, hs2]; exact hne)
    rw [hs1, Int.natAbs_mul, Int.natAbs_mul] at hsame
    obtain ⟨A, hA⟩ : ∃ A, A = n1.natAbs * d2.natAbs := ⟨_, rfl⟩
    obtain ⟨B, hB⟩ : ∃ A, A = n2.natAbs * d1.natAbs := ⟨_, rfl⟩
    have HG1 := Lib.hid (fun wx => magF_any n1 wx (by omega) (by omega))
    have HG2 := Lib.hid (fun wx => magF_any n2 wx (by omega) (by omega))
    have HM1 := Lib.hid (fun wx => Tryz.bits_Mul64 n1.natAbs d2.natAbs (by omega) (by omega) wx)
    have HM2 := Lib.hid (fun wx => Tryz.bits_Mul64 n2.natAbs d1.natAbs (by omega) (by omega) wx)
    rw [← hA, ← hB] at hsame
    rw [← hA] at HM1
    rw [← hB] at HM2
    rw [← or_cmp] at hsame
    have hd2 : ((d2.natAbs : Nat) : Int) = d2 := by omega
    have hd1 : ((d1.natAbs : Nat) : Int) = d1 := by omega
    rw [hd2] at HM1
    rw [hd1] at HM2
    have wu1 : IntKind.u64.wrap d1 = d1 := by rw [IntKind.wrap_u64]; omega
    have wu2 : IntKind.u64.wrap d2 = d2 := by rw [IntKind.wrap_u64]; omega
    obtain ⟨x1, hx1⟩ : ∃ x : Int, x = ((A / 18446744073709551616 : Nat) : Int) := ⟨_, rfl⟩
    obtain ⟨y1, hy1⟩ : ∃ x : Int, x = ((A % 18446744073709551616 : Nat) : Int) := ⟨_, rfl⟩
    obtain ⟨x2, hx2⟩ : ∃ x : Int, x = ((B / 18446744073709551616 : Nat) : Int) := ⟨_, rfl⟩
    obtain ⟨y2, hy2⟩ : ∃ x : Int, x = ((B % 18446744073709551616 : Nat) : Int) := ⟨_, rfl⟩
    rw [← hx1, ← hy1] at HM1
    rw [← hx2, ← hy2] at HM2
    rw [← hx1, ← hx2, ← hy1, ← hy2] at hsame
    have HU1 := Lib.hid (fun wx => cmpU_any x1 x2 wx)
    have HU2 := Lib.hid (fun wx => cmpU_any y1 y2 wx)
    obtain ⟨p, hp⟩ : ∃ p, p = cmpZ x1 x2 := ⟨_, rfl⟩
    obtain ⟨q, hq⟩ : ∃ p, p = cmpZ y1 y2 := ⟨_, rfl⟩
    rw [← hp, ← hq] at hsame
    rw [← hp] at HU1
    rw [← hq] at HU2
    have hcb := cmpZ_ways (n1 * d2) (n2 * d1)
    obtain ⟨cz, hcz⟩ : ∃ c, c = cmpZ (n1 * d2) (n2 * d1) := ⟨_, rfl⟩
    rw [← hcz] at hsame hcb ⊢
    have wc := IntWalk.i64_in cz ⟨by omega, by omega⟩
    obtain ⟨m1, hm1⟩ : ∃ m : Int, m = ((n1.natAbs : Nat) : Int) := ⟨_, rfl⟩
    obtain ⟨m2, hm2⟩ : ∃ m : Int, m = ((n2.natAbs : Nat) : Int) := ⟨_, rfl⟩
    rw [← hm1] at HM1 HG1
    rw [← hm2] at HM2 HG2
    rw [← hne] at HC2
    obtain ⟨sg, hsg⟩ : ∃ s, s = sgnI n1 := ⟨_, rfl⟩
    rw [← hsg] at HC1 HC2 hsame
    have HOR := Lib.hid (fun g wx ha hb => orY_any g p q wx ha hb)
    obtain ⟨ov, hov⟩ : ∃ o, o = orI p q := ⟨_, rfl⟩
    rw [← hov] at HOR hsame
    have hsgb : (sg != sg) = false := by simp
    clear hA hB hx1 hy1 hx2 hy2 hp hq hcz hm1 hm2 hsg hov hcb hne hs1 hs2 hd1 hd2 a1 a2 a3 a4 c1 c2 c3 c4
    go_enter Tryz.func103, Tryz.ntmps103
    go_upto_region 1 with fail
    obtain ⟨W0, hW0⟩ : ∃ W0, W0 = (w.alloc (rtO n1 d1)).alloc (rtO n2 d2) := ⟨_, rfl⟩
    rw [← hW0] at HX0 ⊢
    clear hW0
    have k1 := HX0.one.c0
    have k2 := HX0.one.c1
    have k3 := HX0.two.c0
    have k4 := HX0.two.c1
    have HB0 := Lib.hid HX0.below
    have HK := Lib.hid (show _ ∧ _ ∧ _ ∧ _ from ⟨k1, k2, k3, k4⟩)
    clear HX0
    go_wp2_with fail
    refine (HC1.out _).mono ?_
    rintro e w1 ⟨rfl, hw1⟩
    obtain rfl := hw1
    go_wp2_with fail
    refine (HC2.out _).mono ?_
    rintro e w2 ⟨rfl, hw2⟩
    obtain rfl := hw2
    go_wp2_with fail
    go_region_held3 (fun W => W.cell? ⟨w.heap.size, 0, none⟩ = some (.int .i64 n1) ∧ W.cell? ⟨w.heap.size, 1, none⟩ = some (.int .i64 d1) ∧ W.cell? ⟨w.heap.size + 1, 0, none⟩ = some (.int .i64 n2) ∧ W.cell? ⟨w.heap.size + 1, 1, none⟩ = some (.int .i64 d2)) (first | exact HK.out) (first | (go_at_call 127; refine (HM1.out _).mono ?_; rintro e w5 ⟨rfl, hw5⟩; obtain rfl := hw5) | (go_at_call 143; refine (HG1.out _).mono ?_; rintro e w4 ⟨rfl, rfl⟩))
    go_wp2_with fail
    go_region_held3 (fun W => W.cell? ⟨w.heap.size, 0, none⟩ = some (.int .i64 n1) ∧ W.cell? ⟨w.heap.size, 1, none⟩ = some (.int .i64 d1) ∧ W.cell? ⟨w.heap.size + 1, 0, none⟩ = some (.int .i64 n2) ∧ W.cell? ⟨w.heap.size + 1, 1, none⟩ = some (.int .i64 d2)) (first | exact HK.out) (first | (go_at_call 127; refine (HM2.out _).mono ?_; rintro e w5 ⟨rfl, hw5⟩; obtain rfl := hw5) | (go_at_call 143; refine (HG2.out _).mono ?_; rintro e w4 ⟨rfl, rfl⟩))
    go_wp2_with fail
    refine (HU1.out _).mono ?_
    rintro e w4 ⟨rfl, rfl⟩
    go_wp2_with fail
    refine (HU2.out _).mono ?_
    rintro e w4 ⟨rfl, rfl⟩
    go_wp2_with fail
    refine (HOR.out _ _ ?h1 ?h2).mono ?_
    case h1 => show (w2.alloc _).cell? _ = _; rw [World.cell?_alloc_new]; rfl
    case h2 => show (w2.alloc _).cell? _ = _; rw [World.cell?_alloc_new]; rfl
    rintro e w5 ⟨rfl, rfl⟩
    go_wp2_with fail
    go_ret2
    exact ⟨rfl, Below.drew (Below.drew (HB0.out.alloc HB0.out.size _))⟩
  · have hdf := (cmp_diff (x := n1 * d2) (y := n2 * d1) (by rw [hs1, hs2]; exact hne)).1
    rw [hs1, hs2] at hdf
    have HC3 := Lib.hid (fun wx => Tryz.cmp_Compare_int (sgnI n1) (sgnI n2) wx)
    rw [hdf] at HC3
    obtain ⟨cz, hcz⟩ : ∃ c, c = cmpZ (n1 * d2) (n2 * d1) := ⟨_, rfl⟩
    rw [← hcz] at HC3 ⊢
    obtain ⟨g1, hg1⟩ : ∃ s, s = sgnI n1 := ⟨_, rfl⟩
    obtain ⟨g2, hg2⟩ : ∃ s, s = sgnI n2 := ⟨_, rfl⟩
    rw [← hg1] at HC1 HC3 hne
    rw [← hg2] at HC2 HC3 hne
    have hsgb : (g1 != g2) = true := by simpa using hne
    clear hcz hg1 hg2 hdf hs1 hs2 hne a1 a2 a3 a4 c1 c2 c3 c4
    go_enter Tryz.func103, Tryz.ntmps103
    go_upto_region 1 with fail
    obtain ⟨W0, hW0⟩ : ∃ W0, W0 = (w.alloc (rtO n1 d1)).alloc (rtO n2 d2) := ⟨_, rfl⟩
    rw [← hW0] at HX0 ⊢
    clear hW0
    have k1 := HX0.one.c0
    have k3 := HX0.two.c0
    have HB0 := Lib.hid HX0.below
    clear HX0
    go_wp2_with fail
    refine (HC1.out _).mono ?_
    rintro e w1 ⟨rfl, hw1⟩
    obtain rfl := hw1
    go_wp2_with fail
    refine (HC2.out _).mono ?_
    rintro e w2 ⟨rfl, hw2⟩
    obtain rfl := hw2
    go_wp2_with fail
    refine (HC3.out _).mono ?_
    rintro e w2 ⟨rfl, hw2⟩
    obtain rfl := hw2
    go_wp2_with fail
    go_ret2
    exact ⟨rfl, HB0.out⟩
end Go.Proofs.YtdgbplppabalgaaGreatDoor

namespace Go.Proofs.YtdgbplppabalgaaGreatDoor
open Go.RowKit

set_option maxHeartbeats 6400000 in
set_option maxRecDepth 100000 in
theorem eiCmp (n1 d1 n2 d2 : Int) (ga gb : Nat) (w : World) (hs : Std w) (hA : BxR w ga (zS n1) (zS d1)) (hB : BxR w gb (zS n2) (zS d2)) (h1 : (str n1.natAbs).size ≤ 10000) (h2 : (str d1.natAbs).size ≤ 10000) (h3 : (str n2.natAbs).size ≤ 10000) (h4 : (str d2.natAbs).size ≤ 10000) (_p1 : 0 < d1) (_p2 : 0 < d2) :
    Calls Tryz.prog 102 #[ratV (zS n1) (zS d1), ratV (zS n2) (zS d2), .func (.func 103) #[] #[], .func (.func 104) #[] #[.pointer (some ⟨ga, 0, none⟩), .pointer (some ⟨gb, 0, none⟩)]] w fun e w' => e = .returned (.int .i64 (cmpZ (n1 * d2) (n2 * d1))) ∧ Below w.heap.size w w' := by
  have HF1 := Lib.hid (show ∃ (k : Bool) (v u : Int), (k = true → v = n1 ∧ u = d1 ∧ fewOk n1 d1) ∧ ∀ wx, Std wx → Calls Tryz.prog 67 #[ratV (zS n1) (zS d1)] wx fun e w' => e = .returned (.tuple #[rtV v u, .bool k]) ∧ Below wx.heap.size wx w' from by
    by_cases h : fewOk n1 d1
    · exact ⟨true, n1, d1, fun _ => ⟨rfl, rfl, h⟩, fun wx hw => fewF_yes n1 d1 wx hw h (by omega) (by omega)⟩
    · exact ⟨false, 0, 0, (fun q => by cases q), fun wx hw => fewF_no n1 d1 wx hw h (by omega) (by omega)⟩)
  have HF2 := Lib.hid (show ∃ (k : Bool) (v u : Int), (k = true → v = n2 ∧ u = d2 ∧ fewOk n2 d2) ∧ ∀ wx, Std wx → Calls Tryz.prog 67 #[ratV (zS n2) (zS d2)] wx fun e w' => e = .returned (.tuple #[rtV v u, .bool k]) ∧ Below wx.heap.size wx w' from by
    by_cases h : fewOk n2 d2
    · exact ⟨true, n2, d2, fun _ => ⟨rfl, rfl, h⟩, fun wx hw => fewF_yes n2 d2 wx hw h (by omega) (by omega)⟩
    · exact ⟨false, 0, 0, (fun q => by cases q), fun wx hw => fewF_no n2 d2 wx hw h (by omega) (by omega)⟩)
  have HL := Lib.hid (fun wx hw (hx : Below w.heap.size w wx) => cmpClo_any n1 d1 n2 d2 ga gb wx hw (hA.below hx) (hB.below hx) h1 h2 h3 h4)
  have HQ := Lib.hid (fun wx (_hw : Std wx) k1 k2 => cmpFew_any n1 d1 n2 d2 wx k1 k2)
  obtain ⟨cz, hcz⟩ : ∃ s, s = cmpZ (n1 * d2) (n2 * d1) := ⟨_, rfl⟩
  rw [← hcz] at HL HQ
  rw [← hcz]
  clear hcz
  obtain ⟨k1, v1, u1, HK1, HFA⟩ := HF1.out
  obtain ⟨k2, v2, u2, HK2, HFB⟩ := HF2.out
  obtain ⟨s1, hs1⟩ : ∃ s, s = zS n1 := ⟨_, rfl⟩
  obtain ⟨t1, ht1⟩ : ∃ s, s = zS d1 := ⟨_, rfl⟩
  obtain ⟨s2, hs2⟩ : ∃ s, s = zS n2 := ⟨_, rfl⟩
  obtain ⟨t2, ht2⟩ : ∃ s, s = zS d2 := ⟨_, rfl⟩
  rw [← hs1, ← ht1] at HFA ⊢
  rw [← hs2, ← ht2] at HFB ⊢
  have HF1' := Lib.hid HFA
  have HF2' := Lib.hid HFB
  have HKA := Lib.hid HK1
  have HKB := Lib.hid HK2
  have HS := Lib.hid hs
  have HZ := Lib.hid (Bf.new w s1 t1 s2 t2)
  clear hs hA hB h1 h2 h3 h4 _p1 _p2 hs1 ht1 hs2 ht2 HFA HFB HK1 HK2 HF1 HF2
  go_enter Tryz.func102, Tryz.ntmps102
  go_upto_region 1 with fail
  obtain ⟨W0, hW0⟩ : ∃ W0, W0 = ((w.alloc (ratO s1 t1)).alloc (ratO s2 t2)) := ⟨_, rfl⟩
  rw [← hW0] at HZ ⊢
  clear hW0
  have c1 := HZ.out.one.num
  have c2 := HZ.out.one.den
  go_wp2_with fail
  refine (HF1'.out _ (HS.out.below HZ.out.below)).mono ?_
  rintro e w1 ⟨rfl, h1⟩
  have Z1 := Lib.hid (HZ.out.to h1)
  clear h1 c1 c2
  go_upto_region 2 with fail
  have P0 := Lib.hid (BxT.new w1 w.heap.size Z1.out.below.size 78 (.int .i64 v1) (.int .i64 u1))
  have Z2 := Lib.hid (Z1.out.to ((Below.refl _ _).alloc (Nat.le_refl _) (.cells #[.int .i64 v1, .int .i64 u1] 78)))
  obtain ⟨gp, hgp⟩ : ∃ g, g = w1.heap.size := ⟨_, rfl⟩
  obtain ⟨W2, hW2⟩ : ∃ W2, W2 = w1.alloc (.cells #[.int .i64 v1, .int .i64 u1] 78) := ⟨_, rfl⟩
  rw [← hgp, ← hW2] at P0
  rw [← hW2] at Z2
  rw [← hW2, ← hgp]
  clear hgp hW2 Z1
  have c1 := Z2.out.two.num
  have c2 := Z2.out.two.den
  go_wp2_with fail
  refine (HF2'.out _ (HS.out.below Z2.out.below)).mono ?_
  rintro e w3 ⟨rfl, h3⟩
  have Z3 := Lib.hid (Z2.out.to h3)
  have P3 := Lib.hid (P0.out.kept h3)
  clear h3 c1 c2 P0 Z2
  go_upto_region 3 with fail
  have Q4 := Lib.hid (BxT.new w3 w.heap.size Z3.out.below.size 78 (.int .i64 v2) (.int .i64 u2))
  have Z4 := Lib.hid (Z3.out.to ((Below.refl _ _).alloc (Nat.le_refl _) (.cells #[.int .i64 v2, .int .i64 u2] 78)))
  have P4 := Lib.hid (P3.out.allocY (.cells #[.int .i64 v2, .int .i64 u2] 78))
  obtain ⟨gq, hgq⟩ : ∃ g, g = w3.heap.size := ⟨_, rfl⟩
  obtain ⟨W4, hW4⟩ : ∃ W4, W4 = w3.alloc (.cells #[.int .i64 v2, .int .i64 u2] 78) := ⟨_, rfl⟩
  rw [← hgq, ← hW4] at Q4
  rw [← hW4] at Z4 P4
  rw [← hW4, ← hgq]
  clear hgq hW4 Z3 P3
  have hpq := Lib.hid (show (k1 && k2) = (k1 && k2) from rfl)
  cases k1 with
  | false =>
    go_wp2_with fail
    refine (HL.out _ (HS.out.below Z4.out.below) Z4.out.below).mono ?_
    rintro e w7 ⟨rfl, h7⟩
    have B7 := Lib.hid (Z4.out.below.trans (h7.mono Z4.out.below.size))
    clear h7
    go_wp2_with fail
    go_ret
    exact ⟨rfl, B7.out⟩
  | true =>
    cases k2 with
    | false =>
      go_wp2_with fail
      refine (HL.out _ (HS.out.below Z4.out.below) Z4.out.below).mono ?_
      rintro e w7 ⟨rfl, h7⟩
      have B7 := Lib.hid (Z4.out.below.trans (h7.mono Z4.out.below.size))
      clear h7
      go_wp2_with fail
      go_ret
      exact ⟨rfl, B7.out⟩
    | true =>
      obtain ⟨rfl, rfl, hk1⟩ := HKA.out (by first | trivial | rfl)
      obtain ⟨rfl, rfl, hk2⟩ := HKB.out (by first | trivial | rfl)
      have HQ2 := Lib.hid (HQ.out W4 (HS.out.below Z4.out.below) hk1 hk2)
      have y0 := P4.out.c0
      have y1 := P4.out.c1
      have y2 := Q4.out.c0
      have y3 := Q4.out.c1
      clear hk1 hk2 HKA HKB HQ hpq
      go_wp2_with fail
      refine HQ2.out.mono ?_
      rintro e w5 ⟨rfl, h5⟩
      have B5 := Lib.hid (Z4.out.below.trans (h5.mono Z4.out.below.size))
      clear h5 y0 y1 y2 y3
      go_wp2_with fail
      go_ret
      exact ⟨rfl, B5.out⟩
end Go.Proofs.YtdgbplppabalgaaGreatDoor

namespace Go.Proofs.YtdgbplppabalgaaGreatDoor
open Go.RowKit

set_option maxHeartbeats 1600000 in
set_option maxRecDepth 100000 in
theorem addF_any (n1 d1 n2 d2 : Int) (w : World) (hs : Std w) (h1 : (str n1.natAbs).size ≤ 10000) (h2 : (str d1.natAbs).size ≤ 10000) (h3 : (str n2.natAbs).size ≤ 10000) (h4 : (str d2.natAbs).size ≤ 10000) (p1 : 0 < d1) (p2 : 0 < d2) :
    Calls Tryz.prog 33 #[ratV (zS n1) (zS d1), ratV (zS n2) (zS d2)] w fun e w' => e = .returned (ratV (zS (lowN (n1 * d2 + n2 * d1) (d1 * d2).natAbs)) (str (lowD (n1 * d2 + n2 * d1) (d1 * d2).natAbs))) ∧ Below w.heap.size w w' := by
  have HE := Lib.hid (fun (wx : World) (hz : Bg w wx (zS n1) (zS d1) (zS n2) (zS d2)) => eiAdd n1 d1 n2 d2 w.heap.size (w.heap.size + 1) wx (hs.below hz.two.below) hz.two.one hz.two.two h1 h2 h3 h4 p1 p2)
  obtain ⟨rs, hrs⟩ : ∃ s, s = zS (lowN (n1 * d2 + n2 * d1) (d1 * d2).natAbs) := ⟨_, rfl⟩
  obtain ⟨rt, hrt⟩ : ∃ s, s = str (lowD (n1 * d2 + n2 * d1) (d1 * d2).natAbs) := ⟨_, rfl⟩
  rw [← hrs, ← hrt] at HE ⊢
  obtain ⟨s1, hs1⟩ : ∃ s, s = zS n1 := ⟨_, rfl⟩
  obtain ⟨t1, ht1⟩ : ∃ s, s = zS d1 := ⟨_, rfl⟩
  obtain ⟨s2, hs2⟩ : ∃ s, s = zS n2 := ⟨_, rfl⟩
  obtain ⟨t2, ht2⟩ : ∃ s, s = zS d2 := ⟨_, rfl⟩
  rw [← hs1, ← ht1, ← hs2, ← ht2] at HE ⊢
  have HZ := Lib.hid (Bg.new w s1 t1 s2 t2)
  clear hs h1 h2 h3 h4 p1 p2 hs1 ht1 hs2 ht2 hrs hrt
  have hmf : ∀ (fn : Fn) (first cap : Array Value) (w : World), (Instr.makeFunc fn first cap).run Tryz.prog w = .ok (.func fn first cap) w := fun _ _ _ _ => rfl
  go_enter Tryz.func33, Tryz.ntmps33
  go_upto_region 1 with fail
  obtain ⟨W0, hW0⟩ : ∃ W0, W0 = ((w.alloc (ratO s1 t1)).alloc (ratO s2 t2)).alloc (.cells #[.string ⟨#[]⟩, .string ⟨#[]⟩] 24) := ⟨_, rfl⟩
  rw [← hW0] at HZ ⊢
  clear hW0
  have c1 := HZ.out.two.one.num
  have c2 := HZ.out.two.one.den
  have c3 := HZ.out.two.two.num
  have c4 := HZ.out.two.two.den
  go_wp2_with fail
  refine (HE.out _ HZ.out).mono ?_
  rintro e w1 ⟨rfl, h1⟩
  have Z1 := HZ.out.to h1
  have f0 := Z1.res.free 0
  have e0 := Z1.res.c0
  have e1 := Z1.res.c1
  have S0 := Z1.res.set0 (.string rs)
  have S1 := S0.set1 (.string rt)
  have f1 := S0.free 1
  have g1 := S0.c1
  have x0 := S1.c0
  have x1 := S1.c1
  have HBE := Lib.hid ((Z1.two.below.setCell (p := ⟨w.heap.size + 1 + 1, 0, none⟩) (by show w.heap.size ≤ w.heap.size + 1 + 1; omega) (.string rs)).setCell (p := ⟨w.heap.size + 1 + 1, 1, none⟩) (by show w.heap.size ≤ w.heap.size + 1 + 1; omega) (.string rt))
  clear S0 S1 h1 Z1 c1 c2 c3 c4
  go_wp2_with fail
  (try simp only [Exit.inBlock, Exit.then])
  refine bodyPost_ret (v := ratV rs rt) ?_ rfl ⟨rfl, HBE.out⟩
  rw [results_cell_one rfl]
  go_simp
set_option maxHeartbeats 1600000 in
set_option maxRecDepth 100000 in
theorem cmpF_any (n1 d1 n2 d2 : Int) (w : World) (hs : Std w) (h1 : (str n1.natAbs).size ≤ 10000) (h2 : (str d1.natAbs).size ≤ 10000) (h3 : (str n2.natAbs).size ≤ 10000) (h4 : (str d2.natAbs).size ≤ 10000) (p1 : 0 < d1) (p2 : 0 < d2) :
    Calls Tryz.prog 47 #[ratV (zS n1) (zS d1), ratV (zS n2) (zS d2)] w fun e w' => e = .returned (.int .i64 (cmpZ (n1 * d2) (n2 * d1))) ∧ Below w.heap.size w w' := by
  have HE := Lib.hid (fun (wx : World) (hz : Bf w wx (zS n1) (zS d1) (zS n2) (zS d2)) => eiCmp n1 d1 n2 d2 w.heap.size (w.heap.size + 1) wx (hs.below hz.below) hz.one hz.two h1 h2 h3 h4 p1 p2)
  obtain ⟨cz, hcz⟩ : ∃ s, s = cmpZ (n1 * d2) (n2 * d1) := ⟨_, rfl⟩
  rw [← hcz] at HE ⊢
  obtain ⟨s1, hs1⟩ : ∃ s, s = zS n1 := ⟨_, rfl⟩
  obtain ⟨t1, ht1⟩ : ∃ s, s = zS d1 := ⟨_, rfl⟩
  obtain ⟨s2, hs2⟩ : ∃ s, s = zS n2 := ⟨_, rfl⟩
  obtain ⟨t2, ht2⟩ : ∃ s, s = zS d2 := ⟨_, rfl⟩
  rw [← hs1, ← ht1, ← hs2, ← ht2] at HE ⊢
  have HZ := Lib.hid (Bf.new w s1 t1 s2 t2)
  clear hs h1 h2 h3 h4 p1 p2 hs1 ht1 hs2 ht2 hcz
  have hmf : ∀ (fn : Fn) (first cap : Array Value) (w : World), (Instr.makeFunc fn first cap).run Tryz.prog w = .ok (.func fn first cap) w := fun _ _ _ _ => rfl
  go_enter Tryz.func47, Tryz.ntmps47
  go_upto_region 1 with fail
  obtain ⟨W0, hW0⟩ : ∃ W0, W0 = (w.alloc (ratO s1 t1)).alloc (ratO s2 t2) := ⟨_, rfl⟩
  rw [← hW0] at HZ ⊢
  clear hW0
  have c1 := HZ.out.one.num
  have c2 := HZ.out.one.den
  have c3 := HZ.out.two.num
  have c4 := HZ.out.two.den
  go_wp2_with fail
  refine (HE.out _ HZ.out).mono ?_
  rintro e w1 ⟨rfl, h1⟩
  have Z1 := Lib.hid (HZ.out.to h1)
  clear h1
  go_wp2_with fail
  go_ret
  exact ⟨rfl, Z1.out.below⟩
set_option maxHeartbeats 1600000 in
set_option maxRecDepth 100000 in
theorem minF_any (n1 d1 n2 d2 : Int) (w : World) (hs : Std w) (h1 : (str n1.natAbs).size ≤ 10000) (h2 : (str d1.natAbs).size ≤ 10000) (h3 : (str n2.natAbs).size ≤ 10000) (h4 : (str d2.natAbs).size ≤ 10000) (p1 : 0 < d1) (p2 : 0 < d2) :
    Calls Tryz.prog 49 #[ratV (zS n1) (zS d1), ratV (zS n2) (zS d2)] w fun e w' => e = .returned (if cmpZ (n2 * d1) (n1 * d2) < 0 then ratV (zS n2) (zS d2) else ratV (zS n1) (zS d1)) ∧ Below w.heap.size w w' := by
  have HC := Lib.hid (fun (wx : World) (hz : Bg w wx (zS n1) (zS d1) (zS n2) (zS d2)) => (cmpF_any n2 d2 n1 d1 wx (hs.below hz.two.below) h3 h4 h1 h2 p2 p1).mono fun _ _ h => (show _ = _ ∧ Bg w _ (zS n1) (zS d1) (zS n2) (zS d2) from ⟨h.1, hz.to h.2⟩))
  obtain ⟨cz, hcz⟩ : ∃ s, s = cmpZ (n2 * d1) (n1 * d2) := ⟨_, rfl⟩
  rw [← hcz] at HC ⊢
  obtain ⟨s1, hs1⟩ : ∃ s, s = zS n1 := ⟨_, rfl⟩
  obtain ⟨t1, ht1⟩ : ∃ s, s = zS d1 := ⟨_, rfl⟩
  obtain ⟨s2, hs2⟩ : ∃ s, s = zS n2 := ⟨_, rfl⟩
  obtain ⟨t2, ht2⟩ : ∃ s, s = zS d2 := ⟨_, rfl⟩
  rw [← hs1, ← ht1, ← hs2, ← ht2] at HC ⊢
  have HZ := Lib.hid (Bg.new w s1 t1 s2 t2)
  clear hs h1 h2 h3 h4 p1 p2 hs1 ht1 hs2 ht2 hcz
  by_cases hc : cz < 0
  · have hcd : decide (cz < 0) = true := decide_eq_true hc
    rw [if_pos hc]
    go_enter Tryz.func49, Tryz.ntmps49
    go_upto_region 1 with fail
    obtain ⟨W0, hW0⟩ : ∃ W0, W0 = ((w.alloc (ratO s1 t1)).alloc (ratO s2 t2)).alloc (.cells #[.string ⟨#[]⟩, .string ⟨#[]⟩] 24) := ⟨_, rfl⟩
    rw [← hW0] at HZ ⊢
    clear hW0
    have c1 := HZ.out.two.one.num
    have c2 := HZ.out.two.one.den
    have c3 := HZ.out.two.two.num
    have c4 := HZ.out.two.two.den
    go_wp2_with fail
    refine (HC.out _ HZ.out).mono ?_
    rintro e w1 ⟨rfl, Z1⟩
    have y1 := Z1.two.one.num
    have y2 := Z1.two.one.den
    have y3 := Z1.two.two.num
    have y4 := Z1.two.two.den
    have f0 := Z1.res.free 0
    have e0 := Z1.res.c0
    have e1 := Z1.res.c1
    have S0 := Z1.res.set0 (.string s2)
    have S1 := S0.set1 (.string t2)
    have f1 := S0.free 1
    have g1 := S0.c1
    have x0 := S1.c0
    have x1 := S1.c1
    have HBE := Lib.hid ((Z1.two.below.setCell (p := ⟨w.heap.size + 1 + 1, 0, none⟩) (by show w.heap.size ≤ w.heap.size + 1 + 1; omega) (.string s2)).setCell (p := ⟨w.heap.size + 1 + 1, 1, none⟩) (by show w.heap.size ≤ w.heap.size + 1 + 1; omega) (.string t2))
    clear S0 S1 Z1 c1 c2 c3 c4
    go_wp2_with fail
    (try simp only [Exit.inBlock, Exit.then])
    refine bodyPost_ret (v := ratV s2 t2) ?_ rfl ⟨rfl, HBE.out⟩
    rw [results_cell_one rfl]
    go_simp
  · have hcd : decide (cz < 0) = false := decide_eq_false hc
    rw [if_neg hc]
    go_enter Tryz.func49, Tryz.ntmps49
    go_upto_region 1 with fail
    obtain ⟨W0, hW0⟩ : ∃ W0, W0 = ((w.alloc (ratO s1 t1)).alloc (ratO s2 t2)).alloc (.cells #[.string ⟨#[]⟩, .string ⟨#[]⟩] 24) := ⟨_, rfl⟩
    rw [← hW0] at HZ ⊢
    clear hW0
    have c1 := HZ.out.two.one.num
    have c2 := HZ.out.two.one.den
    have c3 := HZ.out.two.two.num
    have c4 := HZ.out.two.two.den
    go_wp2_with fail
    refine (HC.out _ HZ.out).mono ?_
    rintro e w1 ⟨rfl, Z1⟩
    have y1 := Z1.two.one.num
    have y2 := Z1.two.one.den
    have y3 := Z1.two.two.num
    have y4 := Z1.two.two.den
    have f0 := Z1.res.free 0
    have e0 := Z1.res.c0
    have e1 := Z1.res.c1
    have S0 := Z1.res.set0 (.string s1)
    have S1 := S0.set1 (.string t1)
    have f1 := S0.free 1
    have g1 := S0.c1
    have x0 := S1.c0
    have x1 := S1.c1
    have HBE := Lib.hid ((Z1.two.below.setCell (p := ⟨w.heap.size + 1 + 1, 0, none⟩) (by show w.heap.size ≤ w.heap.size + 1 + 1; omega) (.string s1)).setCell (p := ⟨w.heap.size + 1 + 1, 1, none⟩) (by show w.heap.size ≤ w.heap.size + 1 + 1; omega) (.string t1))
    clear S0 S1 Z1 c1 c2 c3 c4
    go_wp2_with fail
    (try simp only [Exit.inBlock, Exit.then])
    refine bodyPost_ret (v := ratV s1 t1) ?_ rfl ⟨rfl, HBE.out⟩
    rw [results_cell_one rfl]
    go_simp
set_option maxHeartbeats 1600000 in
set_option maxRecDepth 100000 in
theorem maxF_any (n1 d1 n2 d2 : Int) (w : World) (hs : Std w) (h1 : (str n1.natAbs).size ≤ 10000) (h2 : (str d1.natAbs).size ≤ 10000) (h3 : (str n2.natAbs).size ≤ 10000) (h4 : (str d2.natAbs).size ≤ 10000) (p1 : 0 < d1) (p2 : 0 < d2) :
    Calls Tryz.prog 50 #[ratV (zS n1) (zS d1), ratV (zS n2) (zS d2)] w fun e w' => e = .returned (if cmpZ (n2 * d1) (n1 * d2) > 0 then ratV (zS n2) (zS d2) else ratV (zS n1) (zS d1)) ∧ Below w.heap.size w w' := by
  have HC := Lib.hid (fun (wx : World) (hz : Bg w wx (zS n1) (zS d1) (zS n2) (zS d2)) => (cmpF_any n2 d2 n1 d1 wx (hs.below hz.two.below) h3 h4 h1 h2 p2 p1).mono fun _ _ h => (show _ = _ ∧ Bg w _ (zS n1) (zS d1) (zS n2) (zS d2) from ⟨h.1, hz.to h.2⟩))
  obtain ⟨cz, hcz⟩ : ∃ s, s = cmpZ (n2 * d1) (n1 * d2) := ⟨_, rfl⟩
  rw [← hcz] at HC ⊢
  obtain ⟨s1, hs1⟩ : ∃ s, s = zS n1 := ⟨_, rfl⟩
  obtain ⟨t1, ht1⟩ : ∃ s, s = zS d1 := ⟨_, rfl⟩
  obtain ⟨s2, hs2⟩ : ∃ s, s = zS n2 := ⟨_, rfl⟩
  obtain ⟨t2, ht2⟩ : ∃ s, s = zS d2 := ⟨_, rfl⟩
  rw [← hs1, ← ht1, ← hs2, ← ht2] at HC ⊢
  have HZ := Lib.hid (Bg.new w s1 t1 s2 t2)
  clear hs h1 h2 h3 h4 p1 p2 hs1 ht1 hs2 ht2 hcz
  by_cases hc : cz > 0
  · have hcd : decide (cz > 0) = true := decide_eq_true hc
    rw [if_pos hc]
    go_enter Tryz.func50, Tryz.ntmps50
    go_upto_region 1 with fail
    obtain ⟨W0, hW0⟩ : ∃ W0, W0 = ((w.alloc (ratO s1 t1)).alloc (ratO s2 t2)).alloc (.cells #[.string ⟨#[]⟩, .string ⟨#[]⟩] 24) := ⟨_, rfl⟩
    rw [← hW0] at HZ ⊢
    clear hW0
    have c1 := HZ.out.two.one.num
    have c2 := HZ.out.two.one.den
    have c3 := HZ.out.two.two.num
    have c4 := HZ.out.two.two.den
    go_wp2_with fail
    refine (HC.out _ HZ.out).mono ?_
    rintro e w1 ⟨rfl, Z1⟩
    have y1 := Z1.two.one.num
    have y2 := Z1.two.one.den
    have y3 := Z1.two.two.num
    have y4 := Z1.two.two.den
    have f0 := Z1.res.free 0
    have e0 := Z1.res.c0
    have e1 := Z1.res.c1
    have S0 := Z1.res.set0 (.string s2)
    have S1 := S0.set1 (.string t2)
    have f1 := S0.free 1
    have g1 := S0.c1
    have x0 := S1.c0
    have x1 := S1.c1
    have HBE := Lib.hid ((Z1.two.below.setCell (p := ⟨w.heap.size + 1 + 1, 0, none⟩) (by show w.heap.size ≤ w.heap.size + 1 + 1; omega) (.string s2)).setCell (p := ⟨w.heap.size + 1 + 1, 1, none⟩) (by show w.heap.size ≤ w.heap.size + 1 + 1; omega) (.string t2))
    clear S0 S1 Z1 c1 c2 c3 c4
    go_wp2_with fail
    (try simp only [Exit.inBlock, Exit.then])
    refine bodyPost_ret (v := ratV s2 t2) ?_ rfl ⟨rfl, HBE.out⟩
    rw [results_cell_one rfl]
    go_simp
  · have hcd : decide (cz > 0) = false := decide_eq_false hc
    rw [if_neg hc]
    go_enter Tryz.func50, Tryz.ntmps50
    go_upto_region 1 with fail
    obtain ⟨W0, hW0⟩ : ∃ W0, W0 = ((w.alloc (ratO s1 t1)).alloc (ratO s2 t2)).alloc (.cells #[.string ⟨#[]⟩, .string ⟨#[]⟩] 24) := ⟨_, rfl⟩
    rw [← hW0] at HZ ⊢
    clear hW0
    have c1 := HZ.out.two.one.num
    have c2 := HZ.out.two.one.den
    have c3 := HZ.out.two.two.num
    have c4 := HZ.out.two.two.den
    go_wp2_with fail
    refine (HC.out _ HZ.out).mono ?_
    rintro e w1 ⟨rfl, Z1⟩
    have y1 := Z1.two.one.num
    have y2 := Z1.two.one.den
    have y3 := Z1.two.two.num
    have y4 := Z1.two.two.den
    have f0 := Z1.res.free 0
    have e0 := Z1.res.c0
    have e1 := Z1.res.c1
    have S0 := Z1.res.set0 (.string s1)
    have S1 := S0.set1 (.string t1)
    have f1 := S0.free 1
    have g1 := S0.c1
    have x0 := S1.c0
    have x1 := S1.c1
    have HBE := Lib.hid ((Z1.two.below.setCell (p := ⟨w.heap.size + 1 + 1, 0, none⟩) (by show w.heap.size ≤ w.heap.size + 1 + 1; omega) (.string s1)).setCell (p := ⟨w.heap.size + 1 + 1, 1, none⟩) (by show w.heap.size ≤ w.heap.size + 1 + 1; omega) (.string t1))
    clear S0 S1 Z1 c1 c2 c3 c4
    go_wp2_with fail
    (try simp only [Exit.inBlock, Exit.then])
    refine bodyPost_ret (v := ratV s1 t1) ?_ rfl ⟨rfl, HBE.out⟩
    rw [results_cell_one rfl]
    go_simp
end Go.Proofs.YtdgbplppabalgaaGreatDoor

namespace Go.Proofs.YtdgbplppabalgaaGreatDoor
open Go.RowKit

theorem big80 {z : Int} (h : z.natAbs < 100000000000000000000000000000000000000000000000000000000000000000000000000000000) : (str z.natAbs).size ≤ 80 := str_big (n := 80) (Nat.lt_of_lt_of_le h (by decide)) (by decide)
set_option maxHeartbeats 3200000 in
set_option maxRecDepth 100000 in
theorem sumW_far (a : Option Addr) (cap : Nat) (zs : List Int) (w : World) (hs : Std w) (h : Txt w a zs) (hl : zs.length ≤ 100) (hz : ∀ z ∈ zs, z.natAbs < 10000000000000000000000000000000000000000000000000000000000000000000000) :
    Calls Tryz.prog 108 #[.slice a zs.length cap] w fun e w' => e = .returned (.string (zS zs.sum)) ∧ Below w.heap.size w w' := by
  have HS := Lib.hid hs
  have HC := Lib.hid (fun (wx : World) (hw : Below w.heap.size w wx) (i : Nat) (hi : i < zs.length) => (show ∃ (g o : Nat) (z : Int), a = some ⟨g, o, none⟩ ∧ z = zs[i] ∧ z.natAbs < 10000000000000000000000000000000000000000000000000000000000000000000000 ∧ wx.cell? ⟨g, o + i, none⟩ = some (.string (zS z)) by
    rcases h.below hw with h | ⟨g, o, h1, h2, h3⟩
    · rw [h] at hi; simp at hi
    · exact ⟨g, o, zs[i], h1, rfl, hz _ (List.getElem_mem _), h3 i hi⟩))
  have HO := Lib.hid (fun (z : Int) wx hw h1 h2 => ofW_any z wx hw h1 h2)
  have HA := Lib.hid (fun (x y : Int) wx hw (h1 : x.natAbs < 100000000000000000000000000000000000000000000000000000000000000000000000000000000) (h2 : y.natAbs < 100000000000000000000000000000000000000000000000000000000000000000000000000000000) => addW_any x y wx hw (Nat.le_trans (big80 h1) (by decide)) (Nat.le_trans (big80 h2) (by decide)))
  have E0 := Lib.hid zS_zero
  clear hs h hz
  go_enter Tryz.func108, Tryz.ntmps108
  go_wp2_with fail
  go_loopw [3, 4, 6, 7, 8, 11] (fun tv pv _ _ _ iv wr => ∃ (k : Nat) (T p : Int), tv = .string (zS T) ∧ pv = .int .i64 p ∧ iv = .int .i64 (k : Int) ∧ k ≤ zs.length ∧ -1000000000000000000 < p ∧ p < 1000000000000000000 ∧ Hid (T + p = (zs.take k).sum ∧ T.natAbs ≤ 20000000000000000000000000000000000000000000000000000000000000000000000 * k) ∧ Below w.heap.size w wr) (fun _ _ _ _ _ iv _ => zs.length - (intOf iv).toNat)
  case atStart => exact ⟨0, 0, 0, by rw [E0.out], rfl, rfl, Nat.zero_le _, by decide, by decide, ⟨by simp, by simp⟩, Below.refl _ _⟩
  case round =>
    obtain ⟨k, T, p, rfl, rfl, rfl, hk, hp1, hp2, HI, hbel⟩ := hrel
    have HB := Lib.hid hbel
    have hT := HI.out.2
    by_cases hlt : k < zs.length
    · obtain ⟨g, o, z, rfl, hzk, hzb, hcz⟩ := HC.out wr hbel k hlt
      have HF := Lib.hid (fun wx hw => few_any z wx hw (Nat.le_trans (big80 (by omega)) (by decide)))
      have HSUM := Lib.hid (show (zs.take (k + 1)).sum = T + p + z by rw [sum_next hlt, ← HI.out.1, hzk])
      clear hbel hzk HI
      cases hf : fewB z with
      | false =>
        rw [hf] at HF
        have HA1 := Lib.hid (fun wx hw => HA.out T z wx hw (by omega) (by omega))
        have HI2 := Lib.hid (show T + z + p = (zs.take (k + 1)).sum ∧ (T + z).natAbs ≤ 20000000000000000000000000000000000000000000000000000000000000000000000 * (k + 1) from ⟨by rw [HSUM.out]; omega, by omega⟩)
        obtain ⟨s, hs⟩ : ∃ s, s = zS z := ⟨_, rfl⟩
        obtain ⟨t, ht⟩ : ∃ s, s = zS T := ⟨_, rfl⟩
        obtain ⟨u, hu⟩ : ∃ s, s = zS (T + z) := ⟨_, rfl⟩
        have HU := Lib.hid hu
        rw [← hs] at HF HA1 hcz
        rw [← ht] at HA1 ⊢
        rw [← hu] at HA1
        clear hs ht hu hf hT hzb
        go_wp2_with fail
        refine (HF.out _ (HS.out.below HB.out)).mono ?_
        rintro e w2 ⟨⟨v, rfl, -⟩, h2⟩
        have B2 := Lib.hid (HB.out.trans (h2.mono HB.out.size))
        clear h2
        go_wp2_with fail
        refine (HA1.out _ (HS.out.below B2.out)).mono ?_
        rintro e w3 ⟨rfl, h3⟩
        have B3 := Lib.hid (B2.out.trans (h3.mono B2.out.size))
        clear h3
        go_wp2_with fail
        all_goals go_roundw
        case rel => exact ⟨k + 1, T + z, p, by rw [HU.out], rfl, by go_num, by omega, hp1, hp2, HI2, B3.out⟩
        case measure => simp [intOf] <;> omega
      | true =>
        rw [hf] at HF
        have hfz : -1000000000000000000 < z ∧ z < 1000000000000000000 := by unfold fewB at hf; simp at hf; omega
        have hw := IntWalk.i64_in (p + z) ⟨by omega, by omega⟩
        have hM := fun wx => magW2_any (p + z) wx (by omega) (by omega)
        obtain ⟨m, hm⟩ : ∃ m, m = (p + z).natAbs := ⟨_, rfl⟩
        rw [← hm] at hM
        have HM := Lib.hid hM
        by_cases hbig : 1000000000000000000 ≤ m
        · have hbb : decide ((m : Int) ≥ 1000000000000000000) = true := decide_eq_true (by omega)
          have HO1 := Lib.hid (fun wx hw => HO.out (p + z) wx hw (by omega) (by omega))
          have HA1 := Lib.hid (fun wx hw => HA.out T (p + z) wx hw (by omega) (by omega))
          have HI2 := Lib.hid (show T + (p + z) + 0 = (zs.take (k + 1)).sum ∧ (T + (p + z)).natAbs ≤ 20000000000000000000000000000000000000000000000000000000000000000000000 * (k + 1) from ⟨by rw [HSUM.out]; omega, by omega⟩)
          obtain ⟨s, hs⟩ : ∃ s, s = zS z := ⟨_, rfl⟩
          obtain ⟨t, ht⟩ : ∃ s, s = zS T := ⟨_, rfl⟩
          obtain ⟨q, hq⟩ : ∃ q, q = p + z := ⟨_, rfl⟩
          obtain ⟨u, hu⟩ : ∃ s, s = zS (T + (p + z)) := ⟨_, rfl⟩
          obtain ⟨r, hr⟩ : ∃ s, s = zS (p + z) := ⟨_, rfl⟩
          have HU := Lib.hid hu
          rw [← hs] at HF hcz
          rw [← ht] at HA1 ⊢
          rw [← hu, ← hr] at HA1
          rw [← hr] at HO1
          clear hs ht hu hr hf hT hzb hm hM hbig hq
          go_wp2_with fail
          refine (HF.out _ (HS.out.below HB.out)).mono ?_
          rintro e w2 ⟨⟨v, rfl, hv⟩, h2⟩
          obtain rfl := hv trivial
          have B2 := Lib.hid (HB.out.trans (h2.mono HB.out.size))
          clear h2 hv
          go_wp2_with fail
          refine (HM.out _).mono ?_
          rintro e w3 ⟨rfl, rfl⟩
          go_wp2_with fail
          refine (HO1.out _ (HS.out.below B2.out)).mono ?_
          rintro e w3 ⟨rfl, h3⟩
          have B3 := Lib.hid (B2.out.trans (h3.mono B2.out.size))
          clear h3
          go_wp2_with fail
          refine (HA1.out _ (HS.out.below B3.out)).mono ?_
          rintro e w4 ⟨rfl, h4⟩
          have B4 := Lib.hid (B3.out.trans (h4.mono B3.out.size))
          clear h4
          go_wp2_with fail
          all_goals go_roundw
          case rel => exact ⟨k + 1, _, 0, by rw [HU.out], rfl, by go_num, by omega, by decide, by decide, HI2, B4.out⟩
          case measure => simp [intOf] <;> omega
        · have hbb : decide ((m : Int) ≥ 1000000000000000000) = false := decide_eq_false (by omega)
          have HI2 := Lib.hid (show T + (p + z) = (zs.take (k + 1)).sum ∧ T.natAbs ≤ 20000000000000000000000000000000000000000000000000000000000000000000000 * (k + 1) from ⟨by rw [HSUM.out]; omega, by omega⟩)
          have hq1 : -1000000000000000000 < p + z := by omega
          have hq2 : p + z < 1000000000000000000 := by omega
          obtain ⟨s, hs⟩ : ∃ s, s = zS z := ⟨_, rfl⟩
          rw [← hs] at HF hcz
          clear hs hf hT hzb hm hM hbig
          go_wp2_with fail
          refine (HF.out _ (HS.out.below HB.out)).mono ?_
          rintro e w2 ⟨⟨v, rfl, hv⟩, h2⟩
          obtain rfl := hv trivial
          have B2 := Lib.hid (HB.out.trans (h2.mono HB.out.size))
          clear h2 hv
          go_wp2_with fail
          refine (HM.out _).mono ?_
          rintro e w3 ⟨rfl, rfl⟩
          go_wp2_with fail
          all_goals go_roundw
          case rel => exact ⟨k + 1, T, _, rfl, rfl, by go_num, by omega, hq1, hq2, HI2, B2.out⟩
          case measure => simp [intOf] <;> omega
    · have hall := HI.out.1
      rw [List.take_of_length_le (by omega)] at hall
      have HO1 := Lib.hid (fun wx hw => HO.out p wx hw (by omega) (by omega))
      have HA1 := Lib.hid (fun wx hw => HA.out T p wx hw (by omega) (by omega))
      rw [hall] at HA1
      obtain ⟨t, ht⟩ : ∃ s, s = zS T := ⟨_, rfl⟩
      obtain ⟨q, hq⟩ : ∃ s, s = zS p := ⟨_, rfl⟩
      obtain ⟨u, hu⟩ : ∃ s, s = zS zs.sum := ⟨_, rfl⟩
      have HU := Lib.hid hu
      rw [← ht] at HA1 ⊢
      rw [← hq] at HO1 HA1
      rw [← hu] at HA1
      clear ht hq hu hT hall HI hbel
      go_wp2_with fail
      refine (HO1.out _ (HS.out.below HB.out)).mono ?_
      rintro e w3 ⟨rfl, h3⟩
      have B3 := Lib.hid (HB.out.trans (h3.mono HB.out.size))
      clear h3
      go_wp2_with fail
      refine (HA1.out _ (HS.out.below B3.out)).mono ?_
      rintro e w4 ⟨rfl, h4⟩
      have B4 := Lib.hid (B3.out.trans (h4.mono B3.out.size))
      clear h4
      go_wp2_with fail
      go_ret
      exact ⟨by rw [← HU.out]; rfl, B4.out⟩
end Go.Proofs.YtdgbplppabalgaaGreatDoor
