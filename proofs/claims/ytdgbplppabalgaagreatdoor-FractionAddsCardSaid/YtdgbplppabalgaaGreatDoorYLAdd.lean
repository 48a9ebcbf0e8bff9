/-
  The law FractionAdds: the walk.
-/
import Derived.Test.YtdgbplppabalgaaGreatDoorJ33
import Derived.Test.YtdgbplppabalgaaGreatDoorJ25
import Derived.Test.YtdgbplppabalgaaGreatDoorJ28
import Derived.Test.YtdgbplppabalgaaGreatDoorJ14
namespace Go.Proofs.YtdgbplppabalgaaGreatDoor
open Go.RowKit

theorem lowN_sz {n : Int} {d k : Nat} (h : (str n.natAbs).size ≤ k) : (str (lowN n d).natAbs).size ≤ k := by
  refine zsz_le h ?_
  by_cases g : Nat.gcd n.natAbs d = 0
  · unfold lowN; rw [g]; simp
  · have h := congrArg Int.natAbs (low_parts n d).1
    rw [Int.natAbs_mul, Int.natAbs_natCast] at h
    exact Nat.le_trans (Nat.le_mul_of_pos_left _ (Nat.pos_of_ne_zero g)) (Nat.le_of_eq h.symm)
theorem lowD_sz {n : Int} {d k : Nat} (h : (str d).size ≤ k) : (str (lowD n d)).size ≤ k := zsz_le h (Nat.div_le_self _ _)
theorem lowD_pos (n : Int) {d : Nat} (hd : 0 < d) : 0 < lowD n d := (low_right n hd).pos
set_option maxHeartbeats 6400000 in
set_option maxRecDepth 100000 in
theorem lawAdds_any (s t s' t' s2 t2 : ByteArray) (w : World) (hs : Stf w) :
    Calls Tryz.prog 7 #[ratV s t, ratV s' t', ratV s2 t2] w fun e w' => e = .returned (.bool true) ∧ Below w.heap.size w w' := by
  have HS := Lib.hid hs
  have HK := Lib.hid (fun wx (hw : Stf wx) => knownF_any wx hw)
  have HF := Lib.hid (fun g wx (hw : Stf wx) (hr : Rw wx g [s, t, s', t', s2, t2]) => fits3_any s t s' t' s2 t2 g wx hw hr)
  have HZ := Lib.hid (B3.new w s t s' t' s2 t2)
  cases hok : (okF s t && okF s' t' && okF s2 t2) with
  | false =>
    rw [hok] at HF
    clear hok hs
    go_enter Tryz.func7, Tryz.ntmps7
    go_upto_region 1 with fail
    obtain ⟨W0, hW0⟩ : ∃ W0, W0 = ((w.alloc (ratO s t)).alloc (ratO s' t')).alloc (ratO s2 t2) := ⟨_, rfl⟩
    rw [← hW0] at HZ ⊢
    clear hW0
    have HBW := Lib.hid HZ.out.duo.below
    have HSB := Lib.hid (show ∀ wx, Below W0.heap.size W0 wx → Stf wx from fun wx hx => HS.out.below (HBW.out.trans (hx.mono HBW.out.size)))
    have HC := Lib.hid (show ∀ wx, Below W0.heap.size W0 wx → wx.cell? ⟨w.heap.size, 0, none⟩ = some (.string s) ∧ wx.cell? ⟨w.heap.size, 1, none⟩ = some (.string t) ∧ wx.cell? ⟨w.heap.size + 1, 0, none⟩ = some (.string s') ∧ wx.cell? ⟨w.heap.size + 1, 1, none⟩ = some (.string t') ∧ wx.cell? ⟨w.heap.size + 1 + 1, 0, none⟩ = some (.string s2) ∧ wx.cell? ⟨w.heap.size + 1 + 1, 1, none⟩ = some (.string t2) from fun wx hx => ⟨(HZ.out.to hx).duo.one.num, (HZ.out.to hx).duo.one.den, (HZ.out.to hx).duo.two.num, (HZ.out.to hx).duo.two.den, (HZ.out.to hx).three.num, (HZ.out.to hx).three.den⟩)
    have Y0 := Lib.hid (Below.refl W0.heap.size W0)
    clear HZ
    obtain ⟨c0, c1, c2, c3, c4, c5⟩ := HC.out _ Y0.out
    go_wp2_with fail
    refine (HK.out _ (HSB.out _ Y0.out)).mono ?_
    rintro e w1 ⟨rfl, b⟩
    have Y1 := Lib.hid (Y0.out.trans (b.mono Y0.out.size))
    clear b
    clear c0 c1 c2 c3 c4 c5
    obtain ⟨c0, c1, c2, c3, c4, c5⟩ := HC.out _ Y1.out
    go_wp2_with fail
    have ZA := Lib.hid (Y1.out.alloc Y1.out.size (.cells #[.string s, .string t, .string s', .string t', .string s2, .string t2] 24))
    refine (HF.out _ _ ?hss ?hrw).mono ?_
    case hss => exact HSB.out _ ZA.out
    case hrw => exact Rw.new3 w1 s t s' t' s2 t2 24
    rintro e w2 ⟨rfl, b⟩
    have Y2 := Lib.hid (ZA.out.trans (b.mono ZA.out.size))
    clear b ZA
    clear c0 c1 c2 c3 c4 c5
    obtain ⟨c0, c1, c2, c3, c4, c5⟩ := HC.out _ Y2.out
    go_wp2_with fail
    refine (HK.out _ (HSB.out _ Y2.out)).mono ?_
    rintro e w3 ⟨rfl, b⟩
    have Y3 := Lib.hid (Y2.out.trans (b.mono Y2.out.size))
    clear b
    clear c0 c1 c2 c3 c4 c5
    go_wp2_with fail
    go_ret
    exact ⟨rfl, HBW.out.trans (Y3.out.mono HBW.out.size)⟩
  | true =>
    rw [hok] at HF
    rw [Bool.and_eq_true, Bool.and_eq_true] at hok
    obtain ⟨n1, d1, hA⟩ := ok_parts hok.1.1
    obtain ⟨n2, d2, hB⟩ := ok_parts hok.1.2
    obtain ⟨n3, d3, hC⟩ := ok_parts hok.2
    have a1 := hA.sn
    have a2 := hA.sd
    have a3 := hB.sn
    have a4 := hB.sd
    have a5 := hC.sn
    have a6 := hC.sd
    have p1 := hA.pos
    have p2 := hB.pos
    have p3 := hC.pos
    have q1 := zsz_mul2 a1 a4 (by omega)
    have q2 := zsz_mul2 a3 a2 (by omega)
    have q3 := zsz_add2 q1 q2 (by omega)
    have q4 := zsz_mul2 a2 a4 (by omega)
    have q5 : (str (lowN (n1 * d2 + n2 * d1) (d1 * d2).natAbs).natAbs).size ≤ 10000 := lowN_sz (by omega)
    have q6 : (str (lowD (n1 * d2 + n2 * d1) (d1 * d2).natAbs)).size ≤ 10000 := lowD_sz (by omega)
    have q7 : 0 < lowD (n1 * d2 + n2 * d1) (d1 * d2).natAbs := lowD_pos _ (by have := Int.mul_pos p1 p2; omega)
    have e1 : 0 * d1 + n1 * 1 = n1 := by omega
    have e2 : 1 * d1 = d1 := by omega
    have e3 := low_self hA.fr
    have HA := Lib.hid (fun wx (hw : Stf wx) => addF_any n1 d1 n2 d2 wx hw.std (by omega) (by omega) (by omega) (by omega) p1 p2)
    have HAY := Lib.hid (fun wx (hw : Stf wx) => addY_any n1 d1 n2 d2 wx hw.std (by omega) (by omega) (by omega) (by omega) p1 p2)
    have HSB1 := Lib.hid (fun wx (hw : Stf wx) => subF_any n1 d1 n2 d2 wx hw.std (by omega) (by omega) (by omega) (by omega) p1 p2)
    have HSB2 := Lib.hid (fun wx (hw : Stf wx) => subY_any n1 d1 n2 d2 wx hw.std (by omega) (by omega) (by omega) (by omega) p1 p2)
    have HN1 := Lib.hid (fun wx (_ : Stf wx) => negF_any n1 (zS d1) wx (by omega))
    have HN2 := Lib.hid (fun wx (hw : Stf wx) => negY_any n1 (zS d1) wx hw.std (by omega))
    have HB1 := Lib.hid (fun wx (_ : Stf wx) => absF_any n1 (zS d1) wx (by omega))
    have HB2 := Lib.hid (fun wx (hw : Stf wx) => absY_any n1 (zS d1) wx hw.std (by omega))
    have HS0 := Lib.hid (fun wx (_ : Stf wx) => sum0F_any wx)
    have HFR := Lib.hid (fun wx (hw : Stf wx) => fracY_any 0 1 wx hw.std (by decide) (by decide) (by decide) (by decide) (by decide))
    rw [show newN 0 1 = 0 by unfold newN lowN; decide, show newD 0 1 = 1 by unfold newD lowD; decide, zS_zero, strOne] at HFR
    have hA1 := fun wx (hw : Stf wx) => addF_any 0 1 n1 d1 wx hw.std (Nat.le_trans (str_big (n := 1) (by decide) (by decide)) (by decide)) (Nat.le_trans (str_big (n := 1) (by decide) (by decide)) (by decide)) (by omega) (by omega) (by decide) p1
    rw [e1, e2, e3.1, e3.2, show str d1.natAbs = zS d1 from (zS_pos (by omega)).symm, zS_zero, show zS 1 = ⟨#[49]⟩ from zS_1] at hA1
    obtain ⟨m, hm⟩ : ∃ m, m = lowN (n1 * d2 + n2 * d1) (d1 * d2).natAbs := ⟨_, rfl⟩
    obtain ⟨e, he⟩ : ∃ e, e = lowD (n1 * d2 + n2 * d1) (d1 * d2).natAbs := ⟨_, rfl⟩
    rw [← hm] at q5
    rw [← he] at q6 q7
    rw [← hm, ← he] at HA HAY
    have hA3 := fun wx (hw : Stf wx) => addF_any m e n3 d3 wx hw.std q5 (by rw [Int.natAbs_natCast]; exact q6) (by omega) (by omega) (by omega) p3
    have hAZ := fun wx (hw : Stf wx) => addY_any m e n3 d3 wx hw.std q5 (by rw [Int.natAbs_natCast]; exact q6) (by omega) (by omega) (by omega) p3
    rw [show zS (e : Int) = str e from by rw [zS_pos (by omega), Int.natAbs_natCast]] at hA3 hAZ
    rw [← hA.s, ← hA.t, ← hB.s, ← hB.t] at HA HAY HSB1 HSB2
    rw [← hA.s, ← hA.t] at hA1
    rw [← hA.s, ← hA.t] at HN1 HN2 HB1 HB2
    rw [← hC.s, ← hC.t] at hA3 hAZ
    obtain ⟨u, hu⟩ : ∃ s, s = zS m := ⟨_, rfl⟩
    obtain ⟨v, hv⟩ : ∃ s, s = str e := ⟨_, rfl⟩
    rw [← hu, ← hv] at HA HAY hA3 hAZ
    obtain ⟨ds, hds⟩ : ∃ s, s = zS (lowN (n1 * d2 + -n2 * d1) (d1 * d2).natAbs) := ⟨_, rfl⟩
    obtain ⟨dt, hdt⟩ : ∃ s, s = str (lowD (n1 * d2 + -n2 * d1) (d1 * d2).natAbs) := ⟨_, rfl⟩
    rw [← hds, ← hdt] at HSB1 HSB2
    obtain ⟨ns, hns⟩ : ∃ s, s = zS (-n1) := ⟨_, rfl⟩
    rw [← hns] at HN1 HN2
    obtain ⟨bs, hbs⟩ : ∃ s, s = str n1.natAbs := ⟨_, rfl⟩
    rw [← hbs] at HB1 HB2
    obtain ⟨p, hp⟩ : ∃ s, s = zS (lowN (m * d3 + n3 * e) (e * d3).natAbs) := ⟨_, rfl⟩
    obtain ⟨q, hq⟩ : ∃ s, s = str (lowD (m * d3 + n3 * e) (e * d3).natAbs) := ⟨_, rfl⟩
    rw [← hp, ← hq] at hA3 hAZ
    have HAZ := Lib.hid hAZ
    have hstf := fun (wx : World) (hw : Stf wx) (wy : World) (hb : Below wx.heap.size wx wy) => hw.below hb
    have HSM := Lib.hid (fun g wx (hw : Stf wx) (hr : Rw wx g [s, t, s', t', s2, t2]) => sum3F_any s t s' t' s2 t2 u v p q g wx hr (fun wy hb => hA1 wy (hstf wx hw wy hb)) (fun wy hb => HA.out wy (hstf wx hw wy hb)) (fun wy hb => hA3 wy (hstf wx hw wy hb)))
    clear hok hs hA hB hC a1 a2 a3 a4 a5 a6 p1 p2 p3 q1 q2 q3 q4 q5 q6 q7 e1 e2 e3 hA1 hA3 hAZ hm he hu hv hds hdt hns hbs hp hq hstf
    go_enter Tryz.func7, Tryz.ntmps7
    go_upto_region 1 with fail
    obtain ⟨W0, hW0⟩ : ∃ W0, W0 = ((w.alloc (ratO s t)).alloc (ratO s' t')).alloc (ratO s2 t2) := ⟨_, rfl⟩
    rw [← hW0] at HZ ⊢
    clear hW0
    have HBW := Lib.hid HZ.out.duo.below
    have HSB := Lib.hid (show ∀ wx, Below W0.heap.size W0 wx → Stf wx from fun wx hx => HS.out.below (HBW.out.trans (hx.mono HBW.out.size)))
    have HC := Lib.hid (show ∀ wx, Below W0.heap.size W0 wx → wx.cell? ⟨w.heap.size, 0, none⟩ = some (.string s) ∧ wx.cell? ⟨w.heap.size, 1, none⟩ = some (.string t) ∧ wx.cell? ⟨w.heap.size + 1, 0, none⟩ = some (.string s') ∧ wx.cell? ⟨w.heap.size + 1, 1, none⟩ = some (.string t') ∧ wx.cell? ⟨w.heap.size + 1 + 1, 0, none⟩ = some (.string s2) ∧ wx.cell? ⟨w.heap.size + 1 + 1, 1, none⟩ = some (.string t2) from fun wx hx => ⟨(HZ.out.to hx).duo.one.num, (HZ.out.to hx).duo.one.den, (HZ.out.to hx).duo.two.num, (HZ.out.to hx).duo.two.den, (HZ.out.to hx).three.num, (HZ.out.to hx).three.den⟩)
    have Y0 := Lib.hid (Below.refl W0.heap.size W0)
    clear HZ
    obtain ⟨c0, c1, c2, c3, c4, c5⟩ := HC.out _ Y0.out
    go_wp2_with fail
    refine (HK.out _ (HSB.out _ Y0.out)).mono ?_
    rintro e w1 ⟨rfl, b⟩
    have Y1 := Lib.hid (Y0.out.trans (b.mono Y0.out.size))
    clear b
    clear c0 c1 c2 c3 c4 c5
    obtain ⟨c0, c1, c2, c3, c4, c5⟩ := HC.out _ Y1.out
    go_wp2_with fail
    have ZA := Lib.hid (Y1.out.alloc Y1.out.size (.cells #[.string s, .string t, .string s', .string t', .string s2, .string t2] 24))
    refine (HF.out _ _ ?hss ?hrw).mono ?_
    case hss => exact HSB.out _ ZA.out
    case hrw => exact Rw.new3 w1 s t s' t' s2 t2 24
    rintro e w2 ⟨rfl, b⟩
    have Y2 := Lib.hid (ZA.out.trans (b.mono ZA.out.size))
    clear b ZA
    clear c0 c1 c2 c3 c4 c5
    obtain ⟨c0, c1, c2, c3, c4, c5⟩ := HC.out _ Y2.out
    go_wp2_with fail
    refine (HAY.out _ (HSB.out _ Y2.out)).mono ?_
    rintro e w3 ⟨rfl, b⟩
    have Y3 := Lib.hid (Y2.out.trans (b.mono Y2.out.size))
    clear b
    clear c0 c1 c2 c3 c4 c5
    obtain ⟨c0, c1, c2, c3, c4, c5⟩ := HC.out _ Y3.out
    go_upto_region 4 with fail
    have HN := Lib.hid (BxR.new w3 u v)
    have YA := Lib.hid (Y3.out.alloc Y3.out.size (ratO u v))
    obtain ⟨g3, hg⟩ : ∃ g, g = w3.heap.size := ⟨_, rfl⟩
    obtain ⟨V3, hV⟩ : ∃ V, V = w3.alloc (ratO u v) := ⟨_, rfl⟩
    rw [← hg, ← hV] at HN
    rw [← hV] at YA ⊢
    try rw [← hg]
    clear hg hV
    clear c0 c1 c2 c3 c4 c5
    have HBV := Lib.hid (HBW.out.trans (YA.out.mono HBW.out.size))
    have HSV := Lib.hid (show ∀ wx, Below V3.heap.size V3 wx → Stf wx from fun wx hx => HSB.out wx (YA.out.trans (hx.mono YA.out.size)))
    have HCV := Lib.hid (show ∀ wx, Below V3.heap.size V3 wx → wx.cell? ⟨w.heap.size, 0, none⟩ = some (.string s) ∧ wx.cell? ⟨w.heap.size, 1, none⟩ = some (.string t) ∧ wx.cell? ⟨w.heap.size + 1, 0, none⟩ = some (.string s') ∧ wx.cell? ⟨w.heap.size + 1, 1, none⟩ = some (.string t') ∧ wx.cell? ⟨w.heap.size + 1 + 1, 0, none⟩ = some (.string s2) ∧ wx.cell? ⟨w.heap.size + 1 + 1, 1, none⟩ = some (.string t2) ∧ wx.cell? ⟨g3, 0, none⟩ = some (.string u) ∧ wx.cell? ⟨g3, 1, none⟩ = some (.string v) from fun wx hx => by
      obtain ⟨c0, c1, c2, c3, c4, c5⟩ := HC.out wx (YA.out.trans (hx.mono YA.out.size))
      exact ⟨c0, c1, c2, c3, c4, c5, (HN.out.below hx).num, (HN.out.below hx).den⟩)
    clear HBW HSB HC HN YA Y3
    have HBW := HBV
    have HSB := HSV
    have HC := HCV
    clear HBV HSV HCV
    have Y1003 := Lib.hid (Below.refl V3.heap.size V3)
    obtain ⟨c0, c1, c2, c3, c4, c5, c6, c7⟩ := HC.out _ Y1003.out
    go_upto_region 4 with fail
    have D1_0 := Lib.hid (show Below V3.heap.size V3 V3.drew from Y1003.out.trans ((Below.drew (Below.refl V3.heap.size V3)).mono Y1003.out.size))
    clear c0 c1 c2 c3 c4 c5 c6 c7
    go_region_held3 (fun W => W.cell? ⟨w.heap.size, 0, none⟩ = some (.string s) ∧ W.cell? ⟨w.heap.size, 1, none⟩ = some (.string t) ∧ W.cell? ⟨w.heap.size + 1, 0, none⟩ = some (.string s') ∧ W.cell? ⟨w.heap.size + 1, 1, none⟩ = some (.string t') ∧ W.cell? ⟨w.heap.size + 1 + 1, 0, none⟩ = some (.string s2) ∧ W.cell? ⟨w.heap.size + 1 + 1, 1, none⟩ = some (.string t2) ∧ W.cell? ⟨g3, 0, none⟩ = some (.string u) ∧ W.cell? ⟨g3, 1, none⟩ = some (.string v)) (first | exact HC.out _ D1_11.out | exact HC.out _ D1_10.out | exact HC.out _ D1_9.out | exact HC.out _ D1_8.out | exact HC.out _ D1_7.out | exact HC.out _ D1_6.out | exact HC.out _ D1_5.out | exact HC.out _ D1_4.out | exact HC.out _ D1_3.out | exact HC.out _ D1_2.out | exact HC.out _ D1_1.out | exact HC.out _ D1_0.out | exact HC.out _ (D1_7.out.alloc D1_7.out.size _)) (first | (go_at_call 23; have g0 := D1_10.out; refine (HFR.out _ (HSB.out _ g0)).mono ?_; rintro e v1_11 ⟨rfl, h⟩; have D1_11 := Lib.hid (g0.trans (h.mono g0.size)); clear h g0) | (go_at_call 40; have g0 := D1_9.out; refine (HS0.out _ (HSB.out _ g0)).mono ?_; rintro e v1_10 ⟨rfl, h⟩; have D1_10 := Lib.hid (g0.trans (h.mono g0.size)); clear h g0) | (go_at_call 32; have g0 := D1_8.out; refine (HAZ.out _ (HSB.out _ g0)).mono ?_; rintro e v1_9 ⟨rfl, h⟩; have D1_9 := Lib.hid (g0.trans (h.mono g0.size)); clear h g0) | (go_at_call 40; have g0 := D1_7.out; have ga := g0.alloc g0.size (.cells #[.string s, .string t, .string s', .string t', .string s2, .string t2] 24); refine (HSM.out _ _ ?hss ?hrw).mono ?_; (case hss => exact HSB.out _ ga); (case hrw => exact Rw.new3 _ s t s' t' s2 t2 24); rintro e v1_8 ⟨rfl, h⟩; have D1_8 := Lib.hid (ga.trans (h.mono ga.size)); clear h g0 ga) | (go_at_call 39; have g0 := D1_6.out; refine (HB2.out _ (HSB.out _ g0)).mono ?_; rintro e v1_7 ⟨rfl, h⟩; have D1_7 := Lib.hid (g0.trans (h.mono g0.size)); clear h g0) | (go_at_call 38; have g0 := D1_5.out; refine (HB1.out _ (HSB.out _ g0)).mono ?_; rintro e v1_6 ⟨rfl, h⟩; have D1_6 := Lib.hid (g0.trans (h.mono g0.size)); clear h g0) | (go_at_call 37; have g0 := D1_4.out; refine (HN2.out _ (HSB.out _ g0)).mono ?_; rintro e v1_5 ⟨rfl, h⟩; have D1_5 := Lib.hid (g0.trans (h.mono g0.size)); clear h g0) | (go_at_call 36; have g0 := D1_3.out; refine (HN1.out _ (HSB.out _ g0)).mono ?_; rintro e v1_4 ⟨rfl, h⟩; have D1_4 := Lib.hid (g0.trans (h.mono g0.size)); clear h g0) | (go_at_call 35; have g0 := D1_2.out; refine (HSB2.out _ (HSB.out _ g0)).mono ?_; rintro e v1_3 ⟨rfl, h⟩; have D1_3 := Lib.hid (g0.trans (h.mono g0.size)); clear h g0) | (go_at_call 34; have g0 := D1_1.out; refine (HSB1.out _ (HSB.out _ g0)).mono ?_; rintro e v1_2 ⟨rfl, h⟩; have D1_2 := Lib.hid (g0.trans (h.mono g0.size)); clear h g0) | (go_at_call 33; have g0 := D1_0.out; refine (HA.out _ (HSB.out _ g0)).mono ?_; rintro e v1_1 ⟨rfl, h⟩; have D1_1 := Lib.hid (g0.trans (h.mono g0.size)); clear h g0))
    all_goals (
      go_wp2_with fail
      go_ret
      exact ⟨rfl, HBW.out.trans (D1_11.out.mono HBW.out.size)⟩)
end Go.Proofs.YtdgbplppabalgaaGreatDoor
