/-
  The law FractionNews: the walk.
-/
import Derived.Test.YtdgbplppabalgaaGreatDoorJ29
import Derived.Test.YtdgbplppabalgaaGreatDoorJ15
import Derived.Test.YtdgbplppabalgaaGreatDoorJ28
import Derived.Test.YtdgbplppabalgaaGreatDoorJ27
import Derived.Test.YtdgbplppabalgaaGreatDoorJ21
namespace Go.Proofs.YtdgbplppabalgaaGreatDoor
open Go.RowKit

/-- a box of two ints -/
structure BxI (W : World) (g : Nat) (x y : Int) : Prop where
  lt : g < W.heap.size
  c0 : W.cell? ⟨g, 0, none⟩ = some (.int .i64 x)
  c1 : W.cell? ⟨g, 1, none⟩ = some (.int .i64 y)
theorem BxI.below {W W' : World} {g : Nat} {x y : Int} (h : BxI W g x y) (hb : Below W.heap.size W W') : BxI W' g x y :=
  ⟨Nat.lt_of_lt_of_le h.lt hb.size, by rw [hb.cell (p := ⟨g, 0, none⟩) h.lt]; exact h.c0, by rw [hb.cell (p := ⟨g, 1, none⟩) h.lt]; exact h.c1⟩
theorem BxI.new (w : World) (x y : Int) (T : TypeId) : BxI (w.alloc (.cells #[.int .i64 x, .int .i64 y] T)) w.heap.size x y :=
  ⟨by rw [push_size]; omega, by rw [World.cell?_alloc_new]; rfl, by rw [World.cell?_alloc_new]; rfl⟩
theorem rg_parts {s : ByteArray} (h : rgY s = true) (hs : s.size ≤ 60) : ∃ z : Int, s = zS z ∧ (str z.natAbs).size ≤ 100 := by
  obtain ⟨z, e, -⟩ := rgY_yes h
  have h1 := mag_le (zS z)
  rw [magB_zS, ← e] at h1
  exact ⟨z, e, by omega⟩
set_option maxHeartbeats 6400000 in
set_option maxRecDepth 100000 in
theorem lawNews_any (s t : ByteArray) (x y : Int) (w : World) (hs : Stf w) (hx : (Lit.int .i64 x).wf = true) (hy : (Lit.int .i64 y).wf = true) :
    Calls Tryz.prog 4 #[.string s, .string t, .agg #[.int .i64 x, .int .i64 y]] w fun e w' => e = .returned (.bool true) ∧ Below w.heap.size w w' := by
  have HS := Lib.hid hs
  have HK := Lib.hid (fun wx (hw : Stf wx) => knownF_any wx hw)
  have HBW := Lib.hid ((Below.refl w.heap.size w).alloc (Nat.le_refl _) (.cells #[.int .i64 x, .int .i64 y] 34))
  have HBX := Lib.hid (BxI.new w x y 34)
  have hbx := bounds_i64 hx
  have hby := bounds_i64 hy
  clear hx hy hs
  by_cases hs60 : 60 < s.size
  · have hd1 : decide ((s.size : Int) > 60) = true := decide_eq_true (by omega)
    clear hs60
    go_enter Tryz.func4, Tryz.ntmps4
    go_upto_region 1 with fail
    obtain ⟨W0, hW0⟩ : ∃ W0, W0 = w.alloc (.cells #[.int .i64 x, .int .i64 y] 34) := ⟨_, rfl⟩
    rw [← hW0] at HBW HBX ⊢
    clear hW0
    have HSB := Lib.hid (show ∀ wx, Below W0.heap.size W0 wx → Stf wx from fun wx hx => HS.out.below (HBW.out.trans (hx.mono HBW.out.size)))
    have HC := Lib.hid (show ∀ wx, Below W0.heap.size W0 wx → wx.cell? ⟨w.heap.size, 0, none⟩ = some (.int .i64 x) ∧ wx.cell? ⟨w.heap.size, 1, none⟩ = some (.int .i64 y) from fun wx hx => ⟨(HBX.out.below hx).c0, (HBX.out.below hx).c1⟩)
    have Y0 := Lib.hid (Below.refl W0.heap.size W0)
    clear HBX
    obtain ⟨c0, c1⟩ := HC.out _ Y0.out
    go_wp2_with fail
    refine (HK.out _ (HSB.out _ Y0.out)).mono ?_
    rintro e w1 ⟨rfl, b⟩
    have Y1 := Lib.hid (Y0.out.trans (b.mono Y0.out.size))
    clear b
    clear c0 c1
    obtain ⟨c0, c1⟩ := HC.out _ Y1.out
    go_wp2_with fail
    refine (HK.out _ (HSB.out _ Y1.out)).mono ?_
    rintro e w2 ⟨rfl, b⟩
    have Y2 := Lib.hid (Y1.out.trans (b.mono Y1.out.size))
    clear b
    clear c0 c1
    go_wp2_with fail
    go_ret
    exact ⟨rfl, HBW.out.trans (Y2.out.mono HBW.out.size)⟩
  by_cases ht60 : 60 < t.size
  · have hd1 : decide ((s.size : Int) > 60) = false := decide_eq_false (by omega)
    have hd2 : decide ((t.size : Int) > 60) = true := decide_eq_true (by omega)
    clear hs60 ht60
    go_enter Tryz.func4, Tryz.ntmps4
    go_upto_region 1 with fail
    obtain ⟨W0, hW0⟩ : ∃ W0, W0 = w.alloc (.cells #[.int .i64 x, .int .i64 y] 34) := ⟨_, rfl⟩
    rw [← hW0] at HBW HBX ⊢
    clear hW0
    have HSB := Lib.hid (show ∀ wx, Below W0.heap.size W0 wx → Stf wx from fun wx hx => HS.out.below (HBW.out.trans (hx.mono HBW.out.size)))
    have HC := Lib.hid (show ∀ wx, Below W0.heap.size W0 wx → wx.cell? ⟨w.heap.size, 0, none⟩ = some (.int .i64 x) ∧ wx.cell? ⟨w.heap.size, 1, none⟩ = some (.int .i64 y) from fun wx hx => ⟨(HBX.out.below hx).c0, (HBX.out.below hx).c1⟩)
    have Y0 := Lib.hid (Below.refl W0.heap.size W0)
    clear HBX
    obtain ⟨c0, c1⟩ := HC.out _ Y0.out
    go_wp2_with fail
    refine (HK.out _ (HSB.out _ Y0.out)).mono ?_
    rintro e w1 ⟨rfl, b⟩
    have Y1 := Lib.hid (Y0.out.trans (b.mono Y0.out.size))
    clear b
    clear c0 c1
    obtain ⟨c0, c1⟩ := HC.out _ Y1.out
    go_wp2_with fail
    refine (HK.out _ (HSB.out _ Y1.out)).mono ?_
    rintro e w2 ⟨rfl, b⟩
    have Y2 := Lib.hid (Y1.out.trans (b.mono Y1.out.size))
    clear b
    clear c0 c1
    go_wp2_with fail
    go_ret
    exact ⟨rfl, HBW.out.trans (Y2.out.mono HBW.out.size)⟩
  have hd1 : decide ((s.size : Int) > 60) = false := decide_eq_false (by omega)
  have hd2 : decide ((t.size : Int) > 60) = false := decide_eq_false (by omega)
  have HC1 := Lib.hid (show ∀ wx, Stf wx → Calls Tryz.prog 20 #[.string s] wx fun e w' => e = .returned (.bool (rgY s)) ∧ Below wx.heap.size wx w' from fun wx _ => (canY_any s wx (by omega)).mono fun _ _ h => ⟨h.1, by rw [← h.2]; exact Below.refl _ _⟩)
  have HC2 := Lib.hid (show ∀ wx, Stf wx → Calls Tryz.prog 20 #[.string t] wx fun e w' => e = .returned (.bool (rgY t)) ∧ Below wx.heap.size wx w' from fun wx _ => (canY_any t wx (by omega)).mono fun _ _ h => ⟨h.1, by rw [← h.2]; exact Below.refl _ _⟩)
  cases hc1 : rgY s with
  | false =>
    rw [hc1] at HC1
    clear hs60 ht60 hc1
    go_enter Tryz.func4, Tryz.ntmps4
    go_upto_region 1 with fail
    obtain ⟨W0, hW0⟩ : ∃ W0, W0 = w.alloc (.cells #[.int .i64 x, .int .i64 y] 34) := ⟨_, rfl⟩
    rw [← hW0] at HBW HBX ⊢
    clear hW0
    have HSB := Lib.hid (show ∀ wx, Below W0.heap.size W0 wx → Stf wx from fun wx hx => HS.out.below (HBW.out.trans (hx.mono HBW.out.size)))
    have HC := Lib.hid (show ∀ wx, Below W0.heap.size W0 wx → wx.cell? ⟨w.heap.size, 0, none⟩ = some (.int .i64 x) ∧ wx.cell? ⟨w.heap.size, 1, none⟩ = some (.int .i64 y) from fun wx hx => ⟨(HBX.out.below hx).c0, (HBX.out.below hx).c1⟩)
    have Y0 := Lib.hid (Below.refl W0.heap.size W0)
    clear HBX
    obtain ⟨c0, c1⟩ := HC.out _ Y0.out
    go_wp2_with fail
    refine (HK.out _ (HSB.out _ Y0.out)).mono ?_
    rintro e w1 ⟨rfl, b⟩
    have Y1 := Lib.hid (Y0.out.trans (b.mono Y0.out.size))
    clear b
    clear c0 c1
    obtain ⟨c0, c1⟩ := HC.out _ Y1.out
    go_wp2_with fail
    refine (HC1.out _ (HSB.out _ Y1.out)).mono ?_
    rintro e w2 ⟨rfl, b⟩
    have Y2 := Lib.hid (Y1.out.trans (b.mono Y1.out.size))
    clear b
    clear c0 c1
    obtain ⟨c0, c1⟩ := HC.out _ Y2.out
    go_wp2_with fail
    refine (HK.out _ (HSB.out _ Y2.out)).mono ?_
    rintro e w3 ⟨rfl, b⟩
    have Y3 := Lib.hid (Y2.out.trans (b.mono Y2.out.size))
    clear b
    clear c0 c1
    go_wp2_with fail
    go_ret
    exact ⟨rfl, HBW.out.trans (Y3.out.mono HBW.out.size)⟩
  | true =>
  rw [hc1] at HC1
  cases hc2 : rgY t with
  | false =>
    rw [hc2] at HC2
    clear hs60 ht60 hc1 hc2
    go_enter Tryz.func4, Tryz.ntmps4
    go_upto_region 1 with fail
    obtain ⟨W0, hW0⟩ : ∃ W0, W0 = w.alloc (.cells #[.int .i64 x, .int .i64 y] 34) := ⟨_, rfl⟩
    rw [← hW0] at HBW HBX ⊢
    clear hW0
    have HSB := Lib.hid (show ∀ wx, Below W0.heap.size W0 wx → Stf wx from fun wx hx => HS.out.below (HBW.out.trans (hx.mono HBW.out.size)))
    have HC := Lib.hid (show ∀ wx, Below W0.heap.size W0 wx → wx.cell? ⟨w.heap.size, 0, none⟩ = some (.int .i64 x) ∧ wx.cell? ⟨w.heap.size, 1, none⟩ = some (.int .i64 y) from fun wx hx => ⟨(HBX.out.below hx).c0, (HBX.out.below hx).c1⟩)
    have Y0 := Lib.hid (Below.refl W0.heap.size W0)
    clear HBX
    obtain ⟨c0, c1⟩ := HC.out _ Y0.out
    go_wp2_with fail
    refine (HK.out _ (HSB.out _ Y0.out)).mono ?_
    rintro e w1 ⟨rfl, b⟩
    have Y1 := Lib.hid (Y0.out.trans (b.mono Y0.out.size))
    clear b
    clear c0 c1
    obtain ⟨c0, c1⟩ := HC.out _ Y1.out
    go_wp2_with fail
    refine (HC1.out _ (HSB.out _ Y1.out)).mono ?_
    rintro e w2 ⟨rfl, b⟩
    have Y2 := Lib.hid (Y1.out.trans (b.mono Y1.out.size))
    clear b
    clear c0 c1
    obtain ⟨c0, c1⟩ := HC.out _ Y2.out
    go_wp2_with fail
    refine (HC2.out _ (HSB.out _ Y2.out)).mono ?_
    rintro e w3 ⟨rfl, b⟩
    have Y3 := Lib.hid (Y2.out.trans (b.mono Y2.out.size))
    clear b
    clear c0 c1
    obtain ⟨c0, c1⟩ := HC.out _ Y3.out
    go_wp2_with fail
    refine (HK.out _ (HSB.out _ Y3.out)).mono ?_
    rintro e w4 ⟨rfl, b⟩
    have Y4 := Lib.hid (Y3.out.trans (b.mono Y3.out.size))
    clear b
    clear c0 c1
    go_wp2_with fail
    go_ret
    exact ⟨rfl, HBW.out.trans (Y4.out.mono HBW.out.size)⟩
  | true =>
  rw [hc2] at HC2
  obtain ⟨n, hn, hn1⟩ := rg_parts hc1 (by omega)
  obtain ⟨d, hd, hd3⟩ := rg_parts hc2 (by omega)
  have HNW := Lib.hid (fun wx (hw : Stf wx) => newF_any n d wx hw.std (by omega) (by omega))
  have HOF := Lib.hid (fun wx (hw : Stf wx) => ofF_any x y wx hw.std hbx.1 hbx.2 hby.1 hby.2)
  have HT1 := Lib.hid (fun wx => toY_any n wx (by omega))
  have HT2 := Lib.hid (fun wx => toY_any d wx (by omega))
  have HSZ1 := Lib.hid hn1
  have HSZ2 := Lib.hid hd3
  have hdz := zero_tlF d (by omega)
  rw [← hn, ← hd] at HNW
  rw [← hn] at HT1
  rw [← hd] at HT2 hdz
  clear hs60 ht60 hc1 hc2 hn hd hn1 hd3
  by_cases hd0 : d = 0
  · have e1 : newS n d = ⟨#[]⟩ := if_pos hd0
    have e2 : newT n d = ⟨#[]⟩ := if_pos hd0
    have e3 : newE d = 17 := if_pos hd0
    rw [e1, e2, e3] at HNW
    rw [decide_eq_true hd0] at hdz
    clear e1 e2 e3 hd0
    by_cases hy0 : y = 0
    · have e1 : newS x y = ⟨#[]⟩ := if_pos hy0
      have e2 : newT x y = ⟨#[]⟩ := if_pos hy0
      have e3 : newE y = 17 := if_pos hy0
      rw [e1, e2, e3] at HOF
      clear e1 e2 e3 hbx hby
      subst hy0
      go_enter Tryz.func4, Tryz.ntmps4
      go_upto_region 1 with fail
      obtain ⟨W0, hW0⟩ : ∃ W0, W0 = w.alloc (.cells #[.int .i64 x, .int .i64 0] 34) := ⟨_, rfl⟩
      rw [← hW0] at HBW HBX ⊢
      clear hW0
      have HSB := Lib.hid (show ∀ wx, Below W0.heap.size W0 wx → Stf wx from fun wx hx => HS.out.below (HBW.out.trans (hx.mono HBW.out.size)))
      have HC := Lib.hid (show ∀ wx, Below W0.heap.size W0 wx → wx.cell? ⟨w.heap.size, 0, none⟩ = some (.int .i64 x) ∧ wx.cell? ⟨w.heap.size, 1, none⟩ = some (.int .i64 0) from fun wx hx => ⟨(HBX.out.below hx).c0, (HBX.out.below hx).c1⟩)
      have Y0 := Lib.hid (Below.refl W0.heap.size W0)
      clear HBX
      obtain ⟨c0, c1⟩ := HC.out _ Y0.out
      go_wp2_with fail
      refine (HK.out _ (HSB.out _ Y0.out)).mono ?_
      rintro e w1 ⟨rfl, b⟩
      have Y1 := Lib.hid (Y0.out.trans (b.mono Y0.out.size))
      clear b
      clear c0 c1
      obtain ⟨c0, c1⟩ := HC.out _ Y1.out
      go_wp2_with fail
      refine (HC1.out _ (HSB.out _ Y1.out)).mono ?_
      rintro e w2 ⟨rfl, b⟩
      have Y2 := Lib.hid (Y1.out.trans (b.mono Y1.out.size))
      clear b
      clear c0 c1
      obtain ⟨c0, c1⟩ := HC.out _ Y2.out
      go_wp2_with fail
      refine (HC2.out _ (HSB.out _ Y2.out)).mono ?_
      rintro e w3 ⟨rfl, b⟩
      have Y3 := Lib.hid (Y2.out.trans (b.mono Y2.out.size))
      clear b
      clear c0 c1
      obtain ⟨c0, c1⟩ := HC.out _ Y3.out
      go_wp2_with fail
      refine (HNW.out _ (HSB.out _ Y3.out)).mono ?_
      rintro e w4 ⟨rfl, b⟩
      have Y4 := Lib.hid (Y3.out.trans (b.mono Y3.out.size))
      clear b
      clear c0 c1
      obtain ⟨c0, c1⟩ := HC.out _ Y4.out
      go_upto_region 4 with fail
      have HN := Lib.hid (BxR.new w4 ⟨#[]⟩ ⟨#[]⟩)
      have YA := Lib.hid (Y4.out.alloc Y4.out.size (ratO ⟨#[]⟩ ⟨#[]⟩))
      obtain ⟨g4, hg⟩ : ∃ g, g = w4.heap.size := ⟨_, rfl⟩
      obtain ⟨V4, hV⟩ : ∃ V, V = w4.alloc (ratO ⟨#[]⟩ ⟨#[]⟩) := ⟨_, rfl⟩
      rw [← hg, ← hV] at HN
      rw [← hV] at YA ⊢
      try rw [← hg]
      clear hg hV
      clear c0 c1
      have HBV := Lib.hid (HBW.out.trans (YA.out.mono HBW.out.size))
      have HSV := Lib.hid (show ∀ wx, Below V4.heap.size V4 wx → Stf wx from fun wx hx => HSB.out wx (YA.out.trans (hx.mono YA.out.size)))
      have HCV := Lib.hid (show ∀ wx, Below V4.heap.size V4 wx → wx.cell? ⟨w.heap.size, 0, none⟩ = some (.int .i64 x) ∧ wx.cell? ⟨w.heap.size, 1, none⟩ = some (.int .i64 0) ∧ wx.cell? ⟨g4, 0, none⟩ = some (.string ⟨#[]⟩) ∧ wx.cell? ⟨g4, 1, none⟩ = some (.string ⟨#[]⟩) from fun wx hx => by
        obtain ⟨c0, c1⟩ := HC.out wx (YA.out.trans (hx.mono YA.out.size))
        exact ⟨c0, c1, (HN.out.below hx).num, (HN.out.below hx).den⟩)
      clear HBW HSB HC HN YA Y4
      have HBW := HBV
      have HSB := HSV
      have HC := HCV
      clear HBV HSV HCV
      have Y1004 := Lib.hid (Below.refl V4.heap.size V4)
      obtain ⟨c0, c1, c2, c3⟩ := HC.out _ Y1004.out
      go_wp2_with fail
      refine (HOF.out _ (HSB.out _ Y1004.out)).mono ?_
      rintro e w5 ⟨rfl, b⟩
      have Y5 := Lib.hid (Y1004.out.trans (b.mono Y1004.out.size))
      clear b
      clear c0 c1 c2 c3
      obtain ⟨c0, c1, c2, c3⟩ := HC.out _ Y5.out
      go_upto_region 5 with fail
      have HN := Lib.hid (BxR.new w5 ⟨#[]⟩ ⟨#[]⟩)
      have YA := Lib.hid (Y5.out.alloc Y5.out.size (ratO ⟨#[]⟩ ⟨#[]⟩))
      obtain ⟨g5, hg⟩ : ∃ g, g = w5.heap.size := ⟨_, rfl⟩
      obtain ⟨V5, hV⟩ : ∃ V, V = w5.alloc (ratO ⟨#[]⟩ ⟨#[]⟩) := ⟨_, rfl⟩
      rw [← hg, ← hV] at HN
      rw [← hV] at YA ⊢
      try rw [← hg]
      clear hg hV
      clear c0 c1 c2 c3
      have HBV := Lib.hid (HBW.out.trans (YA.out.mono HBW.out.size))
      have HSV := Lib.hid (show ∀ wx, Below V5.heap.size V5 wx → Stf wx from fun wx hx => HSB.out wx (YA.out.trans (hx.mono YA.out.size)))
      have HCV := Lib.hid (show ∀ wx, Below V5.heap.size V5 wx → wx.cell? ⟨w.heap.size, 0, none⟩ = some (.int .i64 x) ∧ wx.cell? ⟨w.heap.size, 1, none⟩ = some (.int .i64 0) ∧ wx.cell? ⟨g4, 0, none⟩ = some (.string ⟨#[]⟩) ∧ wx.cell? ⟨g4, 1, none⟩ = some (.string ⟨#[]⟩) ∧ wx.cell? ⟨g5, 0, none⟩ = some (.string ⟨#[]⟩) ∧ wx.cell? ⟨g5, 1, none⟩ = some (.string ⟨#[]⟩) from fun wx hx => by
        obtain ⟨c0, c1, c2, c3⟩ := HC.out wx (YA.out.trans (hx.mono YA.out.size))
        exact ⟨c0, c1, c2, c3, (HN.out.below hx).num, (HN.out.below hx).den⟩)
      clear HBW HSB HC HN YA Y5
      have HBW := HBV
      have HSB := HSV
      have HC := HCV
      clear HBV HSV HCV
      have Y1005 := Lib.hid (Below.refl V5.heap.size V5)
      obtain ⟨c0, c1, c2, c3, c4, c5⟩ := HC.out _ Y1005.out
      go_wp2_with fail
      go_ret
      exact ⟨rfl, HBW.out.trans (Y1005.out.mono HBW.out.size)⟩
    · have e1 : newS x y = zS (newN x y) := if_neg hy0
      have e2 : newT x y = str (newD x y) := if_neg hy0
      have e3 : newE y = 0 := if_neg hy0
      have hyz : (y == 0) = false := beq_eq_false_iff_ne.mpr hy0
      have HFR := Lib.hid (fun wx (hw : Stf wx) => fracY_any x y wx hw.std hbx.1 hbx.2 hby.1 hby.2 hy0)
      rw [e1, e2, e3] at HOF
      obtain ⟨os, hos⟩ : ∃ s, s = zS (newN x y) := ⟨_, rfl⟩
      obtain ⟨ot, hot⟩ : ∃ s, s = str (newD x y) := ⟨_, rfl⟩
      rw [← hos, ← hot] at HOF HFR
      clear e1 e2 e3 hbx hby hos hot hy0
      go_enter Tryz.func4, Tryz.ntmps4
      go_upto_region 1 with fail
      obtain ⟨W0, hW0⟩ : ∃ W0, W0 = w.alloc (.cells #[.int .i64 x, .int .i64 y] 34) := ⟨_, rfl⟩
      rw [← hW0] at HBW HBX ⊢
      clear hW0
      have HSB := Lib.hid (show ∀ wx, Below W0.heap.size W0 wx → Stf wx from fun wx hx => HS.out.below (HBW.out.trans (hx.mono HBW.out.size)))
      have HC := Lib.hid (show ∀ wx, Below W0.heap.size W0 wx → wx.cell? ⟨w.heap.size, 0, none⟩ = some (.int .i64 x) ∧ wx.cell? ⟨w.heap.size, 1, none⟩ = some (.int .i64 y) from fun wx hx => ⟨(HBX.out.below hx).c0, (HBX.out.below hx).c1⟩)
      have Y0 := Lib.hid (Below.refl W0.heap.size W0)
      clear HBX
      obtain ⟨c0, c1⟩ := HC.out _ Y0.out
      go_wp2_with fail
      refine (HK.out _ (HSB.out _ Y0.out)).mono ?_
      rintro e w1 ⟨rfl, b⟩
      have Y1 := Lib.hid (Y0.out.trans (b.mono Y0.out.size))
      clear b
      clear c0 c1
      obtain ⟨c0, c1⟩ := HC.out _ Y1.out
      go_wp2_with fail
      refine (HC1.out _ (HSB.out _ Y1.out)).mono ?_
      rintro e w2 ⟨rfl, b⟩
      have Y2 := Lib.hid (Y1.out.trans (b.mono Y1.out.size))
      clear b
      clear c0 c1
      obtain ⟨c0, c1⟩ := HC.out _ Y2.out
      go_wp2_with fail
      refine (HC2.out _ (HSB.out _ Y2.out)).mono ?_
      rintro e w3 ⟨rfl, b⟩
      have Y3 := Lib.hid (Y2.out.trans (b.mono Y2.out.size))
      clear b
      clear c0 c1
      obtain ⟨c0, c1⟩ := HC.out _ Y3.out
      go_wp2_with fail
      refine (HNW.out _ (HSB.out _ Y3.out)).mono ?_
      rintro e w4 ⟨rfl, b⟩
      have Y4 := Lib.hid (Y3.out.trans (b.mono Y3.out.size))
      clear b
      clear c0 c1
      obtain ⟨c0, c1⟩ := HC.out _ Y4.out
      go_upto_region 4 with fail
      have HN := Lib.hid (BxR.new w4 ⟨#[]⟩ ⟨#[]⟩)
      have YA := Lib.hid (Y4.out.alloc Y4.out.size (ratO ⟨#[]⟩ ⟨#[]⟩))
      obtain ⟨g4, hg⟩ : ∃ g, g = w4.heap.size := ⟨_, rfl⟩
      obtain ⟨V4, hV⟩ : ∃ V, V = w4.alloc (ratO ⟨#[]⟩ ⟨#[]⟩) := ⟨_, rfl⟩
      rw [← hg, ← hV] at HN
      rw [← hV] at YA ⊢
      try rw [← hg]
      clear hg hV
      clear c0 c1
      have HBV := Lib.hid (HBW.out.trans (YA.out.mono HBW.out.size))
      have HSV := Lib.hid (show ∀ wx, Below V4.heap.size V4 wx → Stf wx from fun wx hx => HSB.out wx (YA.out.trans (hx.mono YA.out.size)))
      have HCV := Lib.hid (show ∀ wx, Below V4.heap.size V4 wx → wx.cell? ⟨w.heap.size, 0, none⟩ = some (.int .i64 x) ∧ wx.cell? ⟨w.heap.size, 1, none⟩ = some (.int .i64 y) ∧ wx.cell? ⟨g4, 0, none⟩ = some (.string ⟨#[]⟩) ∧ wx.cell? ⟨g4, 1, none⟩ = some (.string ⟨#[]⟩) from fun wx hx => by
        obtain ⟨c0, c1⟩ := HC.out wx (YA.out.trans (hx.mono YA.out.size))
        exact ⟨c0, c1, (HN.out.below hx).num, (HN.out.below hx).den⟩)
      clear HBW HSB HC HN YA Y4
      have HBW := HBV
      have HSB := HSV
      have HC := HCV
      clear HBV HSV HCV
      have Y1004 := Lib.hid (Below.refl V4.heap.size V4)
      obtain ⟨c0, c1, c2, c3⟩ := HC.out _ Y1004.out
      go_wp2_with fail
      refine (HOF.out _ (HSB.out _ Y1004.out)).mono ?_
      rintro e w5 ⟨rfl, b⟩
      have Y5 := Lib.hid (Y1004.out.trans (b.mono Y1004.out.size))
      clear b
      clear c0 c1 c2 c3
      obtain ⟨c0, c1, c2, c3⟩ := HC.out _ Y5.out
      go_upto_region 5 with fail
      have HN := Lib.hid (BxR.new w5 os ot)
      have YA := Lib.hid (Y5.out.alloc Y5.out.size (ratO os ot))
      obtain ⟨g5, hg⟩ : ∃ g, g = w5.heap.size := ⟨_, rfl⟩
      obtain ⟨V5, hV⟩ : ∃ V, V = w5.alloc (ratO os ot) := ⟨_, rfl⟩
      rw [← hg, ← hV] at HN
      rw [← hV] at YA ⊢
      try rw [← hg]
      clear hg hV
      clear c0 c1 c2 c3
      have HBV := Lib.hid (HBW.out.trans (YA.out.mono HBW.out.size))
      have HSV := Lib.hid (show ∀ wx, Below V5.heap.size V5 wx → Stf wx from fun wx hx => HSB.out wx (YA.out.trans (hx.mono YA.out.size)))
      have HCV := Lib.hid (show ∀ wx, Below V5.heap.size V5 wx → wx.cell? ⟨w.heap.size, 0, none⟩ = some (.int .i64 x) ∧ wx.cell? ⟨w.heap.size, 1, none⟩ = some (.int .i64 y) ∧ wx.cell? ⟨g4, 0, none⟩ = some (.string ⟨#[]⟩) ∧ wx.cell? ⟨g4, 1, none⟩ = some (.string ⟨#[]⟩) ∧ wx.cell? ⟨g5, 0, none⟩ = some (.string os) ∧ wx.cell? ⟨g5, 1, none⟩ = some (.string ot) from fun wx hx => by
        obtain ⟨c0, c1, c2, c3⟩ := HC.out wx (YA.out.trans (hx.mono YA.out.size))
        exact ⟨c0, c1, c2, c3, (HN.out.below hx).num, (HN.out.below hx).den⟩)
      clear HBW HSB HC HN YA Y5
      have HBW := HBV
      have HSB := HSV
      have HC := HCV
      clear HBV HSV HCV
      have Y1005 := Lib.hid (Below.refl V5.heap.size V5)
      obtain ⟨c0, c1, c2, c3, c4, c5⟩ := HC.out _ Y1005.out
      go_upto_region 8 with fail
      have D1_0 := Lib.hid (show Below V5.heap.size V5 V5.drew from Y1005.out.trans ((Below.drew (Below.refl V5.heap.size V5)).mono Y1005.out.size))
      clear c0 c1 c2 c3 c4 c5
      go_region_held3 (fun W => W.cell? ⟨w.heap.size, 0, none⟩ = some (.int .i64 x) ∧ W.cell? ⟨w.heap.size, 1, none⟩ = some (.int .i64 y) ∧ W.cell? ⟨g4, 0, none⟩ = some (.string ⟨#[]⟩) ∧ W.cell? ⟨g4, 1, none⟩ = some (.string ⟨#[]⟩) ∧ W.cell? ⟨g5, 0, none⟩ = some (.string os) ∧ W.cell? ⟨g5, 1, none⟩ = some (.string ot)) (first | exact HC.out _ D1_1.out | exact HC.out _ D1_0.out) (first | (go_at_call 23; have g0 := D1_0.out; refine (HFR.out _ (HSB.out _ g0)).mono ?_; rintro e v1_1 ⟨rfl, h⟩; have D1_1 := Lib.hid (g0.trans (h.mono g0.size)); clear h g0))
      all_goals (
        obtain ⟨c0, c1, c2, c3, c4, c5⟩ := HC.out _ D1_1.out
        go_wp2_with fail
        go_ret
        exact ⟨rfl, HBW.out.trans (D1_1.out.mono HBW.out.size)⟩)
  · have e1 : newS n d = zS (newN n d) := if_neg hd0
    have e2 : newT n d = str (newD n d) := if_neg hd0
    have e3 : newE d = 0 := if_neg hd0
    rw [e1, e2, e3] at HNW
    rw [decide_eq_false hd0] at hdz
    have HNZ := Lib.hid hd0
    obtain ⟨ps, hps⟩ : ∃ s, s = zS (newN n d) := ⟨_, rfl⟩
    obtain ⟨qs, hqs⟩ : ∃ s, s = str (newD n d) := ⟨_, rfl⟩
    have HPS := Lib.hid hps
    have HQS := Lib.hid hqs
    rw [← hps, ← hqs] at HNW
    clear e1 e2 e3 hd0 hps hqs
    by_cases hy0 : y = 0
    · have e1 : newS x y = ⟨#[]⟩ := if_pos hy0
      have e2 : newT x y = ⟨#[]⟩ := if_pos hy0
      have e3 : newE y = 17 := if_pos hy0
      rw [e1, e2, e3] at HOF
      clear e1 e2 e3 hbx hby
      subst hy0
      go_enter Tryz.func4, Tryz.ntmps4
      go_upto_region 1 with fail
      obtain ⟨W0, hW0⟩ : ∃ W0, W0 = w.alloc (.cells #[.int .i64 x, .int .i64 0] 34) := ⟨_, rfl⟩
      rw [← hW0] at HBW HBX ⊢
      clear hW0
      have HSB := Lib.hid (show ∀ wx, Below W0.heap.size W0 wx → Stf wx from fun wx hx => HS.out.below (HBW.out.trans (hx.mono HBW.out.size)))
      have HC := Lib.hid (show ∀ wx, Below W0.heap.size W0 wx → wx.cell? ⟨w.heap.size, 0, none⟩ = some (.int .i64 x) ∧ wx.cell? ⟨w.heap.size, 1, none⟩ = some (.int .i64 0) from fun wx hx => ⟨(HBX.out.below hx).c0, (HBX.out.below hx).c1⟩)
      have Y0 := Lib.hid (Below.refl W0.heap.size W0)
      clear HBX
      obtain ⟨c0, c1⟩ := HC.out _ Y0.out
      go_wp2_with fail
      refine (HK.out _ (HSB.out _ Y0.out)).mono ?_
      rintro e w1 ⟨rfl, b⟩
      have Y1 := Lib.hid (Y0.out.trans (b.mono Y0.out.size))
      clear b
      clear c0 c1
      obtain ⟨c0, c1⟩ := HC.out _ Y1.out
      go_wp2_with fail
      refine (HC1.out _ (HSB.out _ Y1.out)).mono ?_
      rintro e w2 ⟨rfl, b⟩
      have Y2 := Lib.hid (Y1.out.trans (b.mono Y1.out.size))
      clear b
      clear c0 c1
      obtain ⟨c0, c1⟩ := HC.out _ Y2.out
      go_wp2_with fail
      refine (HC2.out _ (HSB.out _ Y2.out)).mono ?_
      rintro e w3 ⟨rfl, b⟩
      have Y3 := Lib.hid (Y2.out.trans (b.mono Y2.out.size))
      clear b
      clear c0 c1
      obtain ⟨c0, c1⟩ := HC.out _ Y3.out
      go_wp2_with fail
      refine (HNW.out _ (HSB.out _ Y3.out)).mono ?_
      rintro e w4 ⟨rfl, b⟩
      have Y4 := Lib.hid (Y3.out.trans (b.mono Y3.out.size))
      clear b
      clear c0 c1
      obtain ⟨c0, c1⟩ := HC.out _ Y4.out
      go_upto_region 4 with fail
      have HN := Lib.hid (BxR.new w4 ps qs)
      have YA := Lib.hid (Y4.out.alloc Y4.out.size (ratO ps qs))
      obtain ⟨g4, hg⟩ : ∃ g, g = w4.heap.size := ⟨_, rfl⟩
      obtain ⟨V4, hV⟩ : ∃ V, V = w4.alloc (ratO ps qs) := ⟨_, rfl⟩
      rw [← hg, ← hV] at HN
      rw [← hV] at YA ⊢
      try rw [← hg]
      clear hg hV
      clear c0 c1
      have HBV := Lib.hid (HBW.out.trans (YA.out.mono HBW.out.size))
      have HSV := Lib.hid (show ∀ wx, Below V4.heap.size V4 wx → Stf wx from fun wx hx => HSB.out wx (YA.out.trans (hx.mono YA.out.size)))
      have HCV := Lib.hid (show ∀ wx, Below V4.heap.size V4 wx → wx.cell? ⟨w.heap.size, 0, none⟩ = some (.int .i64 x) ∧ wx.cell? ⟨w.heap.size, 1, none⟩ = some (.int .i64 0) ∧ wx.cell? ⟨g4, 0, none⟩ = some (.string ps) ∧ wx.cell? ⟨g4, 1, none⟩ = some (.string qs) from fun wx hx => by
        obtain ⟨c0, c1⟩ := HC.out wx (YA.out.trans (hx.mono YA.out.size))
        exact ⟨c0, c1, (HN.out.below hx).num, (HN.out.below hx).den⟩)
      clear HBW HSB HC HN YA Y4
      have HBW := HBV
      have HSB := HSV
      have HC := HCV
      clear HBV HSV HCV
      have Y1004 := Lib.hid (Below.refl V4.heap.size V4)
      obtain ⟨c0, c1, c2, c3⟩ := HC.out _ Y1004.out
      go_wp2_with fail
      refine (HOF.out _ (HSB.out _ Y1004.out)).mono ?_
      rintro e w5 ⟨rfl, b⟩
      have Y5 := Lib.hid (Y1004.out.trans (b.mono Y1004.out.size))
      clear b
      clear c0 c1 c2 c3
      obtain ⟨c0, c1, c2, c3⟩ := HC.out _ Y5.out
      go_upto_region 5 with fail
      have HN := Lib.hid (BxR.new w5 ⟨#[]⟩ ⟨#[]⟩)
      have YA := Lib.hid (Y5.out.alloc Y5.out.size (ratO ⟨#[]⟩ ⟨#[]⟩))
      obtain ⟨g5, hg⟩ : ∃ g, g = w5.heap.size := ⟨_, rfl⟩
      obtain ⟨V5, hV⟩ : ∃ V, V = w5.alloc (ratO ⟨#[]⟩ ⟨#[]⟩) := ⟨_, rfl⟩
      rw [← hg, ← hV] at HN
      rw [← hV] at YA ⊢
      try rw [← hg]
      clear hg hV
      clear c0 c1 c2 c3
      have HBV := Lib.hid (HBW.out.trans (YA.out.mono HBW.out.size))
      have HSV := Lib.hid (show ∀ wx, Below V5.heap.size V5 wx → Stf wx from fun wx hx => HSB.out wx (YA.out.trans (hx.mono YA.out.size)))
      have HCV := Lib.hid (show ∀ wx, Below V5.heap.size V5 wx → wx.cell? ⟨w.heap.size, 0, none⟩ = some (.int .i64 x) ∧ wx.cell? ⟨w.heap.size, 1, none⟩ = some (.int .i64 0) ∧ wx.cell? ⟨g4, 0, none⟩ = some (.string ps) ∧ wx.cell? ⟨g4, 1, none⟩ = some (.string qs) ∧ wx.cell? ⟨g5, 0, none⟩ = some (.string ⟨#[]⟩) ∧ wx.cell? ⟨g5, 1, none⟩ = some (.string ⟨#[]⟩) from fun wx hx => by
        obtain ⟨c0, c1, c2, c3⟩ := HC.out wx (YA.out.trans (hx.mono YA.out.size))
        exact ⟨c0, c1, c2, c3, (HN.out.below hx).num, (HN.out.below hx).den⟩)
      clear HBW HSB HC HN YA Y5
      have HBW := HBV
      have HSB := HSV
      have HC := HCV
      clear HBV HSV HCV
      have Y1005 := Lib.hid (Below.refl V5.heap.size V5)
      obtain ⟨c0, c1, c2, c3, c4, c5⟩ := HC.out _ Y1005.out
      go_upto_region 12 with fail
      have D1_0 := Lib.hid (show Below V5.heap.size V5 V5.drew from Y1005.out.trans ((Below.drew (Below.refl V5.heap.size V5)).mono Y1005.out.size))
      clear c0 c1 c2 c3 c4 c5
      go_region_held3 (fun W => W.cell? ⟨w.heap.size, 0, none⟩ = some (.int .i64 x) ∧ W.cell? ⟨w.heap.size, 1, none⟩ = some (.int .i64 0) ∧ W.cell? ⟨g4, 0, none⟩ = some (.string ps) ∧ W.cell? ⟨g4, 1, none⟩ = some (.string qs) ∧ W.cell? ⟨g5, 0, none⟩ = some (.string ⟨#[]⟩) ∧ W.cell? ⟨g5, 1, none⟩ = some (.string ⟨#[]⟩)) (first | exact HC.out _ D1_3.out | exact HC.out _ D1_2.out | exact HC.out _ D1_1.out | exact HC.out _ D1_0.out) (first | (go_at_call 24; have g0 := D1_2.out; have hq := makeY_any b1 o1 cc1 L1 (n) b2 o2 cc2 L2 (d) v1_2 (HSB.out _ g0).std HW1_2.out HW2_2.out HNZ.out (HW1_2.out.pcs.len_le (n := 20000) (by have := HSZ1.out; omega)) (HW2_2.out.pcs.len_le (n := 20000) (by have := HSZ2.out; omega)); unfold whV at hq; rw [← HM1.out, ← HM2.out, ← HPS.out, ← HQS.out] at hq; refine hq.mono ?_; rintro e v1_3 ⟨rfl, h⟩; have D1_3 := Lib.hid (g0.trans (h.mono g0.size)); clear h hq g0) | (go_at_call 25; have g0 := D1_1.out; refine (HT2.out _).mono ?_; rintro e v1_2 ⟨⟨b2, o2, cc2, L2, rfl, hwf⟩, h⟩; have D1_2 := Lib.hid (g0.trans (h.mono g0.size)); have HW1_2 := Lib.hid (HW1_1.out.below h); have HW2_2 := Lib.hid hwf.wh; (try unfold whV); obtain ⟨m2, hm⟩ : ∃ m, m = L2.length := ⟨_, rfl⟩; have HM2 := Lib.hid hm; rw [← hm]; clear h g0 hwf hm) | (go_at_call 25; have g0 := D1_0.out; refine (HT1.out _).mono ?_; rintro e v1_1 ⟨⟨b1, o1, cc1, L1, rfl, hwf⟩, h⟩; have D1_1 := Lib.hid (g0.trans (h.mono g0.size)); have HW1_1 := Lib.hid hwf.wh; (try unfold whV); obtain ⟨m1, hm⟩ : ∃ m, m = L1.length := ⟨_, rfl⟩; have HM1 := Lib.hid hm; rw [← hm]; clear h g0 hwf hm))
      all_goals (
        go_wp2_with fail
        go_ret
        exact ⟨rfl, HBW.out.trans (D1_3.out.mono HBW.out.size)⟩)
    · have e1 : newS x y = zS (newN x y) := if_neg hy0
      have e2 : newT x y = str (newD x y) := if_neg hy0
      have e3 : newE y = 0 := if_neg hy0
      have hyz : (y == 0) = false := beq_eq_false_iff_ne.mpr hy0
      have HFR := Lib.hid (fun wx (hw : Stf wx) => fracY_any x y wx hw.std hbx.1 hbx.2 hby.1 hby.2 hy0)
      rw [e1, e2, e3] at HOF
      obtain ⟨os, hos⟩ : ∃ s, s = zS (newN x y) := ⟨_, rfl⟩
      obtain ⟨ot, hot⟩ : ∃ s, s = str (newD x y) := ⟨_, rfl⟩
      rw [← hos, ← hot] at HOF HFR
      clear e1 e2 e3 hbx hby hos hot hy0
      go_enter Tryz.func4, Tryz.ntmps4
      go_upto_region 1 with fail
      obtain ⟨W0, hW0⟩ : ∃ W0, W0 = w.alloc (.cells #[.int .i64 x, .int .i64 y] 34) := ⟨_, rfl⟩
      rw [← hW0] at HBW HBX ⊢
      clear hW0
      have HSB := Lib.hid (show ∀ wx, Below W0.heap.size W0 wx → Stf wx from fun wx hx => HS.out.below (HBW.out.trans (hx.mono HBW.out.size)))
      have HC := Lib.hid (show ∀ wx, Below W0.heap.size W0 wx → wx.cell? ⟨w.heap.size, 0, none⟩ = some (.int .i64 x) ∧ wx.cell? ⟨w.heap.size, 1, none⟩ = some (.int .i64 y) from fun wx hx => ⟨(HBX.out.below hx).c0, (HBX.out.below hx).c1⟩)
      have Y0 := Lib.hid (Below.refl W0.heap.size W0)
      clear HBX
      obtain ⟨c0, c1⟩ := HC.out _ Y0.out
      go_wp2_with fail
      refine (HK.out _ (HSB.out _ Y0.out)).mono ?_
      rintro e w1 ⟨rfl, b⟩
      have Y1 := Lib.hid (Y0.out.trans (b.mono Y0.out.size))
      clear b
      clear c0 c1
      obtain ⟨c0, c1⟩ := HC.out _ Y1.out
      go_wp2_with fail
      refine (HC1.out _ (HSB.out _ Y1.out)).mono ?_
      rintro e w2 ⟨rfl, b⟩
      have Y2 := Lib.hid (Y1.out.trans (b.mono Y1.out.size))
      clear b
      clear c0 c1
      obtain ⟨c0, c1⟩ := HC.out _ Y2.out
      go_wp2_with fail
      refine (HC2.out _ (HSB.out _ Y2.out)).mono ?_
      rintro e w3 ⟨rfl, b⟩
      have Y3 := Lib.hid (Y2.out.trans (b.mono Y2.out.size))
      clear b
      clear c0 c1
      obtain ⟨c0, c1⟩ := HC.out _ Y3.out
      go_wp2_with fail
      refine (HNW.out _ (HSB.out _ Y3.out)).mono ?_
      rintro e w4 ⟨rfl, b⟩
      have Y4 := Lib.hid (Y3.out.trans (b.mono Y3.out.size))
      clear b
      clear c0 c1
      obtain ⟨c0, c1⟩ := HC.out _ Y4.out
      go_upto_region 4 with fail
      have HN := Lib.hid (BxR.new w4 ps qs)
      have YA := Lib.hid (Y4.out.alloc Y4.out.size (ratO ps qs))
      obtain ⟨g4, hg⟩ : ∃ g, g = w4.heap.size := ⟨_, rfl⟩
      obtain ⟨V4, hV⟩ : ∃ V, V = w4.alloc (ratO ps qs) := ⟨_, rfl⟩
      rw [← hg, ← hV] at HN
      rw [← hV] at YA ⊢
      try rw [← hg]
      clear hg hV
      clear c0 c1
      have HBV := Lib.hid (HBW.out.trans (YA.out.mono HBW.out.size))
      have HSV := Lib.hid (show ∀ wx, Below V4.heap.size V4 wx → Stf wx from fun wx hx => HSB.out wx (YA.out.trans (hx.mono YA.out.size)))
      have HCV := Lib.hid (show ∀ wx, Below V4.heap.size V4 wx → wx.cell? ⟨w.heap.size, 0, none⟩ = some (.int .i64 x) ∧ wx.cell? ⟨w.heap.size, 1, none⟩ = some (.int .i64 y) ∧ wx.cell? ⟨g4, 0, none⟩ = some (.string ps) ∧ wx.cell? ⟨g4, 1, none⟩ = some (.string qs) from fun wx hx => by
        obtain ⟨c0, c1⟩ := HC.out wx (YA.out.trans (hx.mono YA.out.size))
        exact ⟨c0, c1, (HN.out.below hx).num, (HN.out.below hx).den⟩)
      clear HBW HSB HC HN YA Y4
      have HBW := HBV
      have HSB := HSV
      have HC := HCV
      clear HBV HSV HCV
      have Y1004 := Lib.hid (Below.refl V4.heap.size V4)
      obtain ⟨c0, c1, c2, c3⟩ := HC.out _ Y1004.out
      go_wp2_with fail
      refine (HOF.out _ (HSB.out _ Y1004.out)).mono ?_
      rintro e w5 ⟨rfl, b⟩
      have Y5 := Lib.hid (Y1004.out.trans (b.mono Y1004.out.size))
      clear b
      clear c0 c1 c2 c3
      obtain ⟨c0, c1, c2, c3⟩ := HC.out _ Y5.out
      go_upto_region 5 with fail
      have HN := Lib.hid (BxR.new w5 os ot)
      have YA := Lib.hid (Y5.out.alloc Y5.out.size (ratO os ot))
      obtain ⟨g5, hg⟩ : ∃ g, g = w5.heap.size := ⟨_, rfl⟩
      obtain ⟨V5, hV⟩ : ∃ V, V = w5.alloc (ratO os ot) := ⟨_, rfl⟩
      rw [← hg, ← hV] at HN
      rw [← hV] at YA ⊢
      try rw [← hg]
      clear hg hV
      clear c0 c1 c2 c3
      have HBV := Lib.hid (HBW.out.trans (YA.out.mono HBW.out.size))
      have HSV := Lib.hid (show ∀ wx, Below V5.heap.size V5 wx → Stf wx from fun wx hx => HSB.out wx (YA.out.trans (hx.mono YA.out.size)))
      have HCV := Lib.hid (show ∀ wx, Below V5.heap.size V5 wx → wx.cell? ⟨w.heap.size, 0, none⟩ = some (.int .i64 x) ∧ wx.cell? ⟨w.heap.size, 1, none⟩ = some (.int .i64 y) ∧ wx.cell? ⟨g4, 0, none⟩ = some (.string ps) ∧ wx.cell? ⟨g4, 1, none⟩ = some (.string qs) ∧ wx.cell? ⟨g5, 0, none⟩ = some (.string os) ∧ wx.cell? ⟨g5, 1, none⟩ = some (.string ot) from fun wx hx => by
        obtain ⟨c0, c1, c2, c3⟩ := HC.out wx (YA.out.trans (hx.mono YA.out.size))
        exact ⟨c0, c1, c2, c3, (HN.out.below hx).num, (HN.out.below hx).den⟩)
      clear HBW HSB HC HN YA Y5
      have HBW := HBV
      have HSB := HSV
      have HC := HCV
      clear HBV HSV HCV
      have Y1005 := Lib.hid (Below.refl V5.heap.size V5)
      obtain ⟨c0, c1, c2, c3, c4, c5⟩ := HC.out _ Y1005.out
      go_upto_region 8 with fail
      have D1_0 := Lib.hid (show Below V5.heap.size V5 V5.drew from Y1005.out.trans ((Below.drew (Below.refl V5.heap.size V5)).mono Y1005.out.size))
      clear c0 c1 c2 c3 c4 c5
      go_region_held3 (fun W => W.cell? ⟨w.heap.size, 0, none⟩ = some (.int .i64 x) ∧ W.cell? ⟨w.heap.size, 1, none⟩ = some (.int .i64 y) ∧ W.cell? ⟨g4, 0, none⟩ = some (.string ps) ∧ W.cell? ⟨g4, 1, none⟩ = some (.string qs) ∧ W.cell? ⟨g5, 0, none⟩ = some (.string os) ∧ W.cell? ⟨g5, 1, none⟩ = some (.string ot)) (first | exact HC.out _ D1_1.out | exact HC.out _ D1_0.out) (first | (go_at_call 23; have g0 := D1_0.out; refine (HFR.out _ (HSB.out _ g0)).mono ?_; rintro e v1_1 ⟨rfl, h⟩; have D1_1 := Lib.hid (g0.trans (h.mono g0.size)); clear h g0))
      all_goals (
        obtain ⟨c0, c1, c2, c3, c4, c5⟩ := HC.out _ D1_1.out
        go_upto_region 12 with fail
        have D2_0 := Lib.hid (show Below V5.heap.size V5 v1_1.drew from D1_1.out.trans ((Below.drew (Below.refl v1_1.heap.size v1_1)).mono D1_1.out.size))
        clear c0 c1 c2 c3 c4 c5
        go_region_held3 (fun W => W.cell? ⟨w.heap.size, 0, none⟩ = some (.int .i64 x) ∧ W.cell? ⟨w.heap.size, 1, none⟩ = some (.int .i64 y) ∧ W.cell? ⟨g4, 0, none⟩ = some (.string ps) ∧ W.cell? ⟨g4, 1, none⟩ = some (.string qs) ∧ W.cell? ⟨g5, 0, none⟩ = some (.string os) ∧ W.cell? ⟨g5, 1, none⟩ = some (.string ot)) (first | exact HC.out _ D2_3.out | exact HC.out _ D2_2.out | exact HC.out _ D2_1.out | exact HC.out _ D2_0.out) (first | (go_at_call 24; have g0 := D2_2.out; have hq := makeY_any b1 o1 cc1 L1 (n) b2 o2 cc2 L2 (d) v2_2 (HSB.out _ g0).std HW1_2.out HW2_2.out HNZ.out (HW1_2.out.pcs.len_le (n := 20000) (by have := HSZ1.out; omega)) (HW2_2.out.pcs.len_le (n := 20000) (by have := HSZ2.out; omega)); unfold whV at hq; rw [← HM1.out, ← HM2.out, ← HPS.out, ← HQS.out] at hq; refine hq.mono ?_; rintro e v2_3 ⟨rfl, h⟩; have D2_3 := Lib.hid (g0.trans (h.mono g0.size)); clear h hq g0) | (go_at_call 25; have g0 := D2_1.out; refine (HT2.out _).mono ?_; rintro e v2_2 ⟨⟨b2, o2, cc2, L2, rfl, hwf⟩, h⟩; have D2_2 := Lib.hid (g0.trans (h.mono g0.size)); have HW1_2 := Lib.hid (HW1_1.out.below h); have HW2_2 := Lib.hid hwf.wh; (try unfold whV); obtain ⟨m2, hm⟩ : ∃ m, m = L2.length := ⟨_, rfl⟩; have HM2 := Lib.hid hm; rw [← hm]; clear h g0 hwf hm) | (go_at_call 25; have g0 := D2_0.out; refine (HT1.out _).mono ?_; rintro e v2_1 ⟨⟨b1, o1, cc1, L1, rfl, hwf⟩, h⟩; have D2_1 := Lib.hid (g0.trans (h.mono g0.size)); have HW1_1 := Lib.hid hwf.wh; (try unfold whV); obtain ⟨m1, hm⟩ : ∃ m, m = L1.length := ⟨_, rfl⟩; have HM1 := Lib.hid hm; rw [← hm]; clear h g0 hwf hm))
        all_goals (
          go_wp2_with fail
          go_ret
          exact ⟨rfl, HBW.out.trans (D2_3.out.mono HBW.out.size)⟩))
end Go.Proofs.YtdgbplppabalgaaGreatDoor
