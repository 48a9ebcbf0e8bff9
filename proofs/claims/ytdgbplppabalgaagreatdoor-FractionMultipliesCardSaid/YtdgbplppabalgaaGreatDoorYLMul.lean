/-
  The law FractionMultiplies: the walk.
-/
import Derived.Test.YtdgbplppabalgaaGreatDoorJ29
import Derived.Test.YtdgbplppabalgaaGreatDoorJ28
namespace Go.Proofs.YtdgbplppabalgaaGreatDoor
open Go.RowKit

set_option maxHeartbeats 6400000 in
set_option maxRecDepth 100000 in
theorem lawMultiplies_any (s t s' t' : ByteArray) (w : World) (hs : Stf w) :
    Calls Tryz.prog 8 #[ratV s t, ratV s' t'] w fun e w' => e = .returned (.bool true) ∧ Below w.heap.size w w' := by
  have HS := Lib.hid hs
  have HK := Lib.hid (fun wx (hw : Stf wx) => knownF_any wx hw)
  have HF := Lib.hid (fun g wx (hw : Stf wx) (hr : Rw wx g [s, t, s', t']) => fits2_any s t s' t' g wx hw hr)
  have HZ := Lib.hid (Bf.new w s t s' t')
  cases hok : (okF s t && okF s' t') with
  | false =>
    rw [hok] at HF
    clear hok hs
    go_enter Tryz.func8, Tryz.ntmps8
    go_upto_region 1 with fail
    obtain ⟨W0, hW0⟩ : ∃ W0, W0 = (w.alloc (ratO s t)).alloc (ratO s' t') := ⟨_, rfl⟩
    rw [← hW0] at HZ ⊢
    clear hW0
    have HBW := Lib.hid HZ.out.below
    have HSB := Lib.hid (show ∀ wx, Below W0.heap.size W0 wx → Stf wx from fun wx hx => HS.out.below (HBW.out.trans (hx.mono HBW.out.size)))
    have HC := Lib.hid (show ∀ wx, Below W0.heap.size W0 wx → wx.cell? ⟨w.heap.size, 0, none⟩ = some (.string s) ∧ wx.cell? ⟨w.heap.size, 1, none⟩ = some (.string t) ∧ wx.cell? ⟨w.heap.size + 1, 0, none⟩ = some (.string s') ∧ wx.cell? ⟨w.heap.size + 1, 1, none⟩ = some (.string t') from fun wx hx => ⟨(HZ.out.to hx).one.num, (HZ.out.to hx).one.den, (HZ.out.to hx).two.num, (HZ.out.to hx).two.den⟩)
    have Y0 := Lib.hid (Below.refl W0.heap.size W0)
    clear HZ
    obtain ⟨c0, c1, c2, c3⟩ := HC.out _ Y0.out
    go_wp2_with fail
    refine (HK.out _ (HSB.out _ Y0.out)).mono ?_
    rintro e w1 ⟨rfl, b⟩
    have Y1 := Lib.hid (Y0.out.trans (b.mono Y0.out.size))
    clear b
    clear c0 c1 c2 c3
    obtain ⟨c0, c1, c2, c3⟩ := HC.out _ Y1.out
    go_wp2_with fail
    have ZA := Lib.hid (Y1.out.alloc Y1.out.size (.cells #[.string s, .string t, .string s', .string t'] 24))
    refine (HF.out _ _ ?hss ?hrw).mono ?_
    case hss => exact HSB.out _ ZA.out
    case hrw => exact Rw.new2 w1 s t s' t' 24
    rintro e w2 ⟨rfl, b⟩
    have Y2 := Lib.hid (ZA.out.trans (b.mono ZA.out.size))
    clear b ZA
    clear c0 c1 c2 c3
    obtain ⟨c0, c1, c2, c3⟩ := HC.out _ Y2.out
    go_wp2_with fail
    refine (HK.out _ (HSB.out _ Y2.out)).mono ?_
    rintro e w3 ⟨rfl, b⟩
    have Y3 := Lib.hid (Y2.out.trans (b.mono Y2.out.size))
    clear b
    clear c0 c1 c2 c3
    go_wp2_with fail
    go_ret
    exact ⟨rfl, HBW.out.trans (Y3.out.mono HBW.out.size)⟩
  | true =>
    rw [hok] at HF
    rw [Bool.and_eq_true] at hok
    obtain ⟨n1, d1, hA⟩ := ok_parts hok.1
    obtain ⟨n2, d2, hB⟩ := ok_parts hok.2
    have a1 := hA.sn
    have a2 := hA.sd
    have a3 := hB.sn
    have a4 := hB.sd
    have p1 := hA.pos
    have p2 := hB.pos
    have HM := Lib.hid (fun wx (hw : Stf wx) => mulF_any n1 d1 n2 d2 wx hw.std (by omega) (by omega) (by omega) (by omega) p1 p2)
    have HMR := Lib.hid (fun wx (hw : Stf wx) => mulY_any n1 d1 n2 d2 wx hw.std (by omega) (by omega) (by omega) (by omega) (by omega) (by omega))
    rw [(new_pos (n1 * n2) (Int.mul_pos p1 p2)).1, (new_pos (n1 * n2) (Int.mul_pos p1 p2)).2] at HMR
    have HSR := Lib.hid (fun wx => signY_any n2 (zS d2) wx (by omega))
    rw [← hA.s, ← hA.t, ← hB.s, ← hB.t] at HM HMR
    rw [← hB.s, ← hB.t] at HSR
    obtain ⟨ms, hms⟩ : ∃ s, s = zS (lowN (n1 * n2) (d1 * d2).natAbs) := ⟨_, rfl⟩
    obtain ⟨mt, hmt⟩ : ∃ s, s = str (lowD (n1 * n2) (d1 * d2).natAbs) := ⟨_, rfl⟩
    rw [← hms, ← hmt] at HM HMR
    clear hms hmt
    by_cases h0 : n2 = 0
    · have HDV := Lib.hid (fun wx (_ : Stf wx) => divF_zero s t t' wx)
      rw [← h0, ← hB.s] at HDV
      rw [h0, sgnI_zero] at HSR
      clear hok hs hA hB a1 a2 a3 a4 p1 p2 h0
      go_enter Tryz.func8, Tryz.ntmps8
      go_upto_region 1 with fail
      obtain ⟨W0, hW0⟩ : ∃ W0, W0 = (w.alloc (ratO s t)).alloc (ratO s' t') := ⟨_, rfl⟩
      rw [← hW0] at HZ ⊢
      clear hW0
      have HBW := Lib.hid HZ.out.below
      have HSB := Lib.hid (show ∀ wx, Below W0.heap.size W0 wx → Stf wx from fun wx hx => HS.out.below (HBW.out.trans (hx.mono HBW.out.size)))
      have HC := Lib.hid (show ∀ wx, Below W0.heap.size W0 wx → wx.cell? ⟨w.heap.size, 0, none⟩ = some (.string s) ∧ wx.cell? ⟨w.heap.size, 1, none⟩ = some (.string t) ∧ wx.cell? ⟨w.heap.size + 1, 0, none⟩ = some (.string s') ∧ wx.cell? ⟨w.heap.size + 1, 1, none⟩ = some (.string t') from fun wx hx => ⟨(HZ.out.to hx).one.num, (HZ.out.to hx).one.den, (HZ.out.to hx).two.num, (HZ.out.to hx).two.den⟩)
      have Y0 := Lib.hid (Below.refl W0.heap.size W0)
      clear HZ
      obtain ⟨c0, c1, c2, c3⟩ := HC.out _ Y0.out
      go_wp2_with fail
      refine (HK.out _ (HSB.out _ Y0.out)).mono ?_
      rintro e w1 ⟨rfl, b⟩
      have Y1 := Lib.hid (Y0.out.trans (b.mono Y0.out.size))
      clear b
      clear c0 c1 c2 c3
      obtain ⟨c0, c1, c2, c3⟩ := HC.out _ Y1.out
      go_wp2_with fail
      have ZA := Lib.hid (Y1.out.alloc Y1.out.size (.cells #[.string s, .string t, .string s', .string t'] 24))
      refine (HF.out _ _ ?hss ?hrw).mono ?_
      case hss => exact HSB.out _ ZA.out
      case hrw => exact Rw.new2 w1 s t s' t' 24
      rintro e w2 ⟨rfl, b⟩
      have Y2 := Lib.hid (ZA.out.trans (b.mono ZA.out.size))
      clear b ZA
      clear c0 c1 c2 c3
      obtain ⟨c0, c1, c2, c3⟩ := HC.out _ Y2.out
      go_wp2_with fail
      refine (HDV.out _ (HSB.out _ Y2.out)).mono ?_
      rintro e w3 ⟨rfl, b⟩
      have Y3 := Lib.hid (Y2.out.trans (b.mono Y2.out.size))
      clear b
      clear c0 c1 c2 c3
      obtain ⟨c0, c1, c2, c3⟩ := HC.out _ Y3.out
      go_upto_region 4 with fail
      have HN := Lib.hid (BxR.new w3 ⟨#[]⟩ ⟨#[]⟩)
      have YA := Lib.hid (Y3.out.alloc Y3.out.size (ratO ⟨#[]⟩ ⟨#[]⟩))
      obtain ⟨g3, hg⟩ : ∃ g, g = w3.heap.size := ⟨_, rfl⟩
      obtain ⟨V3, hV⟩ : ∃ V, V = w3.alloc (ratO ⟨#[]⟩ ⟨#[]⟩) := ⟨_, rfl⟩
      rw [← hg, ← hV] at HN
      rw [← hV] at YA ⊢
      try rw [← hg]
      clear hg hV
      clear c0 c1 c2 c3
      have HBV := Lib.hid (HBW.out.trans (YA.out.mono HBW.out.size))
      have HSV := Lib.hid (show ∀ wx, Below V3.heap.size V3 wx → Stf wx from fun wx hx => HSB.out wx (YA.out.trans (hx.mono YA.out.size)))
      have HCV := Lib.hid (show ∀ wx, Below V3.heap.size V3 wx → wx.cell? ⟨w.heap.size, 0, none⟩ = some (.string s) ∧ wx.cell? ⟨w.heap.size, 1, none⟩ = some (.string t) ∧ wx.cell? ⟨w.heap.size + 1, 0, none⟩ = some (.string s') ∧ wx.cell? ⟨w.heap.size + 1, 1, none⟩ = some (.string t') ∧ wx.cell? ⟨g3, 0, none⟩ = some (.string ⟨#[]⟩) ∧ wx.cell? ⟨g3, 1, none⟩ = some (.string ⟨#[]⟩) from fun wx hx => by
        obtain ⟨c0, c1, c2, c3⟩ := HC.out wx (YA.out.trans (hx.mono YA.out.size))
        exact ⟨c0, c1, c2, c3, (HN.out.below hx).num, (HN.out.below hx).den⟩)
      clear HBW HSB HC HN YA Y3
      have HBW := HBV
      have HSB := HSV
      have HC := HCV
      clear HBV HSV HCV
      have Y1003 := Lib.hid (Below.refl V3.heap.size V3)
      obtain ⟨c0, c1, c2, c3, c4, c5⟩ := HC.out _ Y1003.out
      go_upto_region 4 with fail
      have D1_0 := Lib.hid (show Below V3.heap.size V3 V3.drew from Y1003.out.trans ((Below.drew (Below.refl V3.heap.size V3)).mono Y1003.out.size))
      clear c0 c1 c2 c3 c4 c5
      go_region_held3 (fun W => W.cell? ⟨w.heap.size, 0, none⟩ = some (.string s) ∧ W.cell? ⟨w.heap.size, 1, none⟩ = some (.string t) ∧ W.cell? ⟨w.heap.size + 1, 0, none⟩ = some (.string s') ∧ W.cell? ⟨w.heap.size + 1, 1, none⟩ = some (.string t') ∧ W.cell? ⟨g3, 0, none⟩ = some (.string ⟨#[]⟩) ∧ W.cell? ⟨g3, 1, none⟩ = some (.string ⟨#[]⟩)) (first | exact HC.out _ D1_2.out | exact HC.out _ D1_1.out | exact HC.out _ D1_0.out) (first | (go_at_call 43; have g0 := D1_1.out; refine (HMR.out _ (HSB.out _ g0)).mono ?_; rintro e v1_2 ⟨rfl, h⟩; have D1_2 := Lib.hid (g0.trans (h.mono g0.size)); clear h g0) | (go_at_call 42; have g0 := D1_0.out; refine (HM.out _ (HSB.out _ g0)).mono ?_; rintro e v1_1 ⟨rfl, h⟩; have D1_1 := Lib.hid (g0.trans (h.mono g0.size)); clear h g0))
      all_goals (
        obtain ⟨c0, c1, c2, c3, c4, c5⟩ := HC.out _ D1_2.out
        go_wp2_with fail
        refine (HSR.out _).mono ?_
        rintro e w4 ⟨rfl, b⟩
        have Y4 := Lib.hid (D1_2.out.trans (b.mono D1_2.out.size))
        clear b
        clear c0 c1 c2 c3 c4 c5
        obtain ⟨c0, c1, c2, c3, c4, c5⟩ := HC.out _ Y4.out
        go_wp2_with fail
        go_ret
        exact ⟨rfl, HBW.out.trans (Y4.out.mono HBW.out.size)⟩
      )
    · have HDV := Lib.hid (fun wx (hw : Stf wx) => divF_any n1 d1 n2 d2 wx hw.std (by omega) (by omega) (by omega) (by omega) p1 h0)
      have HDR := Lib.hid (fun wx (hw : Stf wx) => divQ_any n1 d1 n2 d2 wx hw.std (by omega) (by omega) (by omega) (by omega) (by omega) h0)
      rw [← hA.s, ← hA.t, ← hB.s, ← hB.t] at HDV HDR
      obtain ⟨qs, hqs⟩ : ∃ s, s = zS (newN (n1 * d2) (d1 * n2)) := ⟨_, rfl⟩
      obtain ⟨qt, hqt⟩ : ∃ s, s = str (newD (n1 * d2) (d1 * n2)) := ⟨_, rfl⟩
      rw [← hqs, ← hqt] at HDV HDR
      have hk := sgnI_ways n2
      obtain ⟨k, hkk⟩ : ∃ k, k = sgnI n2 := ⟨_, rfl⟩
      rw [← hkk] at hk HSR
      have hk0 : (k == 0) = false := by rw [beq_eq_false_iff_ne]; omega
      have hk1 : k ≠ 0 := by rw [beq_eq_false_iff_ne] at hk0; exact hk0
      clear hok hs hA hB a1 a2 a3 a4 p1 p2 h0 hk hkk hqs hqt
      go_enter Tryz.func8, Tryz.ntmps8
      go_upto_region 1 with fail
      obtain ⟨W0, hW0⟩ : ∃ W0, W0 = (w.alloc (ratO s t)).alloc (ratO s' t') := ⟨_, rfl⟩
      rw [← hW0] at HZ ⊢
      clear hW0
      have HBW := Lib.hid HZ.out.below
      have HSB := Lib.hid (show ∀ wx, Below W0.heap.size W0 wx → Stf wx from fun wx hx => HS.out.below (HBW.out.trans (hx.mono HBW.out.size)))
      have HC := Lib.hid (show ∀ wx, Below W0.heap.size W0 wx → wx.cell? ⟨w.heap.size, 0, none⟩ = some (.string s) ∧ wx.cell? ⟨w.heap.size, 1, none⟩ = some (.string t) ∧ wx.cell? ⟨w.heap.size + 1, 0, none⟩ = some (.string s') ∧ wx.cell? ⟨w.heap.size + 1, 1, none⟩ = some (.string t') from fun wx hx => ⟨(HZ.out.to hx).one.num, (HZ.out.to hx).one.den, (HZ.out.to hx).two.num, (HZ.out.to hx).two.den⟩)
      have Y0 := Lib.hid (Below.refl W0.heap.size W0)
      clear HZ
      obtain ⟨c0, c1, c2, c3⟩ := HC.out _ Y0.out
      go_wp2_with fail
      refine (HK.out _ (HSB.out _ Y0.out)).mono ?_
      rintro e w1 ⟨rfl, b⟩
      have Y1 := Lib.hid (Y0.out.trans (b.mono Y0.out.size))
      clear b
      clear c0 c1 c2 c3
      obtain ⟨c0, c1, c2, c3⟩ := HC.out _ Y1.out
      go_wp2_with fail
      have ZA := Lib.hid (Y1.out.alloc Y1.out.size (.cells #[.string s, .string t, .string s', .string t'] 24))
      refine (HF.out _ _ ?hss ?hrw).mono ?_
      case hss => exact HSB.out _ ZA.out
      case hrw => exact Rw.new2 w1 s t s' t' 24
      rintro e w2 ⟨rfl, b⟩
      have Y2 := Lib.hid (ZA.out.trans (b.mono ZA.out.size))
      clear b ZA
      clear c0 c1 c2 c3
      obtain ⟨c0, c1, c2, c3⟩ := HC.out _ Y2.out
      go_wp2_with fail
      refine (HDV.out _ (HSB.out _ Y2.out)).mono ?_
      rintro e w3 ⟨rfl, b⟩
      have Y3 := Lib.hid (Y2.out.trans (b.mono Y2.out.size))
      clear b
      clear c0 c1 c2 c3
      obtain ⟨c0, c1, c2, c3⟩ := HC.out _ Y3.out
      go_upto_region 4 with fail
      have HN := Lib.hid (BxR.new w3 qs qt)
      have YA := Lib.hid (Y3.out.alloc Y3.out.size (ratO qs qt))
      obtain ⟨g3, hg⟩ : ∃ g, g = w3.heap.size := ⟨_, rfl⟩
      obtain ⟨V3, hV⟩ : ∃ V, V = w3.alloc (ratO qs qt) := ⟨_, rfl⟩
      rw [← hg, ← hV] at HN
      rw [← hV] at YA ⊢
      try rw [← hg]
      clear hg hV
      clear c0 c1 c2 c3
      have HBV := Lib.hid (HBW.out.trans (YA.out.mono HBW.out.size))
      have HSV := Lib.hid (show ∀ wx, Below V3.heap.size V3 wx → Stf wx from fun wx hx => HSB.out wx (YA.out.trans (hx.mono YA.out.size)))
      have HCV := Lib.hid (show ∀ wx, Below V3.heap.size V3 wx → wx.cell? ⟨w.heap.size, 0, none⟩ = some (.string s) ∧ wx.cell? ⟨w.heap.size, 1, none⟩ = some (.string t) ∧ wx.cell? ⟨w.heap.size + 1, 0, none⟩ = some (.string s') ∧ wx.cell? ⟨w.heap.size + 1, 1, none⟩ = some (.string t') ∧ wx.cell? ⟨g3, 0, none⟩ = some (.string qs) ∧ wx.cell? ⟨g3, 1, none⟩ = some (.string qt) from fun wx hx => by
        obtain ⟨c0, c1, c2, c3⟩ := HC.out wx (YA.out.trans (hx.mono YA.out.size))
        exact ⟨c0, c1, c2, c3, (HN.out.below hx).num, (HN.out.below hx).den⟩)
      clear HBW HSB HC HN YA Y3
      have HBW := HBV
      have HSB := HSV
      have HC := HCV
      clear HBV HSV HCV
      have Y1003 := Lib.hid (Below.refl V3.heap.size V3)
      obtain ⟨c0, c1, c2, c3, c4, c5⟩ := HC.out _ Y1003.out
      go_upto_region 4 with fail
      have D1_0 := Lib.hid (show Below V3.heap.size V3 V3.drew from Y1003.out.trans ((Below.drew (Below.refl V3.heap.size V3)).mono Y1003.out.size))
      clear c0 c1 c2 c3 c4 c5
      go_region_held3 (fun W => W.cell? ⟨w.heap.size, 0, none⟩ = some (.string s) ∧ W.cell? ⟨w.heap.size, 1, none⟩ = some (.string t) ∧ W.cell? ⟨w.heap.size + 1, 0, none⟩ = some (.string s') ∧ W.cell? ⟨w.heap.size + 1, 1, none⟩ = some (.string t') ∧ W.cell? ⟨g3, 0, none⟩ = some (.string qs) ∧ W.cell? ⟨g3, 1, none⟩ = some (.string qt)) (first | exact HC.out _ D1_2.out | exact HC.out _ D1_1.out | exact HC.out _ D1_0.out) (first | (go_at_call 43; have g0 := D1_1.out; refine (HMR.out _ (HSB.out _ g0)).mono ?_; rintro e v1_2 ⟨rfl, h⟩; have D1_2 := Lib.hid (g0.trans (h.mono g0.size)); clear h g0) | (go_at_call 42; have g0 := D1_0.out; refine (HM.out _ (HSB.out _ g0)).mono ?_; rintro e v1_1 ⟨rfl, h⟩; have D1_1 := Lib.hid (g0.trans (h.mono g0.size)); clear h g0))
      all_goals (
        obtain ⟨c0, c1, c2, c3, c4, c5⟩ := HC.out _ D1_2.out
        go_wp2_with fail
        refine (HSR.out _).mono ?_
        rintro e w4 ⟨rfl, b⟩
        have Y4 := Lib.hid (D1_2.out.trans (b.mono D1_2.out.size))
        clear b
        clear c0 c1 c2 c3 c4 c5
        obtain ⟨c0, c1, c2, c3, c4, c5⟩ := HC.out _ Y4.out
        go_upto_region 8 with fail
        have D2_0 := Lib.hid (show Below V3.heap.size V3 w4.drew from Y4.out.trans ((Below.drew (Below.refl w4.heap.size w4)).mono Y4.out.size))
        clear c0 c1 c2 c3 c4 c5
        go_region_held3 (fun W => W.cell? ⟨w.heap.size, 0, none⟩ = some (.string s) ∧ W.cell? ⟨w.heap.size, 1, none⟩ = some (.string t) ∧ W.cell? ⟨w.heap.size + 1, 0, none⟩ = some (.string s') ∧ W.cell? ⟨w.heap.size + 1, 1, none⟩ = some (.string t') ∧ W.cell? ⟨g3, 0, none⟩ = some (.string qs) ∧ W.cell? ⟨g3, 1, none⟩ = some (.string qt)) (first | exact HC.out _ D2_1.out | exact HC.out _ D2_0.out) (first | (go_at_call 45; have g0 := D2_0.out; refine (HDR.out _ (HSB.out _ g0)).mono ?_; rintro e v2_1 ⟨rfl, h⟩; have D2_1 := Lib.hid (g0.trans (h.mono g0.size)); clear h g0))
        all_goals (
          go_wp2_with fail
          go_ret
          exact ⟨rfl, HBW.out.trans (D2_1.out.mono HBW.out.size)⟩
      ))
end Go.Proofs.YtdgbplppabalgaaGreatDoor
