/-
  The law FractionCompares: the walk.
-/
import Derived.Test.YtdgbplppabalgaaGreatDoorJ29
import Derived.Test.YtdgbplppabalgaaGreatDoorJ19
import Derived.Test.YtdgbplppabalgaaGreatDoorJ28
import Derived.Test.YtdgbplppabalgaaGreatDoorJ12
namespace Go.Proofs.YtdgbplppabalgaaGreatDoor
open Go.RowKit

/-- the boxes of the smaller and of the greater fraction -/
structure Blh (V W : World) (g1 g2 : Nat) (l1 l2 h1 h2 : ByteArray) : Prop where
  below : Below V.heap.size V W
  low : BxT W V.heap.size g1 24 (.string l1) (.string l2)
  high : BxT W V.heap.size g2 24 (.string h1) (.string h2)
  ne : g1 ≠ g2
theorem Blh.new (V W : World) (h0 : Below V.heap.size V W) (e : W.heap.size = V.heap.size) (l1 l2 h1 h2 : ByteArray) : Blh V ((W.alloc (.cells #[.string l1, .string l2] 24)).alloc (.cells #[.string h1, .string h2] 24)) V.heap.size (V.heap.size + 1) l1 l2 h1 h2 := by
  have a := BxT.new W V.heap.size (by omega) 24 (.string l1) (.string l2)
  have b := BxT.new (W.alloc (.cells #[.string l1, .string l2] 24)) V.heap.size (by rw [push_size]; omega) 24 (.string h1) (.string h2)
  rw [push_size] at b
  rw [e] at a b
  exact ⟨(h0.alloc (by omega) _).alloc (by rw [push_size]; omega) _, a.allocY _, b, by omega⟩
theorem Blh.to {V W W' : World} {g1 g2 : Nat} {l1 l2 h1 h2 : ByteArray} (h : Blh V W g1 g2 l1 l2 h1 h2) (hb : Below W.heap.size W W') : Blh V W' g1 g2 l1 l2 h1 h2 := ⟨h.below.trans (hb.mono h.below.size), h.low.kept hb, h.high.kept hb, h.ne⟩
theorem Blh.flip {V W : World} {g1 g2 : Nat} {l1 l2 h1 h2 : ByteArray} (h : Blh V W g1 g2 l1 l2 h1 h2) : Blh V W g2 g1 h1 h2 l1 l2 := ⟨h.below, h.high, h.low, fun e => h.ne e.symm⟩
theorem Blh.put {V W : World} {g1 g2 : Nat} {l1 l2 h1 h2 : ByteArray} (h : Blh V W g1 g2 l1 l2 h1 h2) (u v : ByteArray) : Blh V ((W.setCell ⟨g1, 0, none⟩ (.string u)).setCell ⟨g1, 1, none⟩ (.string v)) g1 g2 u v h1 h2 :=
  ⟨(h.below.setCell (p := ⟨g1, 0, none⟩) h.low.lt.1 _).setCell (p := ⟨g1, 1, none⟩) h.low.lt.1 _, (h.low.set0 (.string u)).set1 (.string v), (h.high.other (p := ⟨g1, 0, none⟩) (fun e => h.ne e.symm) _).other (p := ⟨g1, 1, none⟩) (fun e => h.ne e.symm) _, h.ne⟩
theorem Blh.put2 {V W : World} {g1 g2 : Nat} {l1 l2 h1 h2 : ByteArray} (h : Blh V W g1 g2 l1 l2 h1 h2) (u v : ByteArray) : Blh V ((W.setCell ⟨g2, 0, none⟩ (.string u)).setCell ⟨g2, 1, none⟩ (.string v)) g1 g2 l1 l2 u v := (h.flip.put u v).flip
set_option maxHeartbeats 6400000 in
set_option maxRecDepth 100000 in
theorem lawCompares_any (s t s' t' : ByteArray) (w : World) (hs : Stf w) :
    Calls Tryz.prog 9 #[ratV s t, ratV s' t'] w fun e w' => e = .returned (.bool true) ∧ Below w.heap.size w w' := by
  have HS := Lib.hid hs
  have HK := Lib.hid (fun wx (hw : Stf wx) => knownF_any wx hw)
  have HF := Lib.hid (fun g wx (hw : Stf wx) (hr : Rw wx g [s, t, s', t']) => fits2_any s t s' t' g wx hw hr)
  have HZ := Lib.hid (Bf.new w s t s' t')
  cases hok : (okF s t && okF s' t') with
  | false =>
    rw [hok] at HF
    clear hok hs
    go_enter Tryz.func9, Tryz.ntmps9
    go_upto_region 1 with fail
    obtain ⟨W0, hW0⟩ : ∃ W0, W0 = (w.alloc (ratO s t)).alloc (ratO s' t') := ⟨_, rfl⟩
    rw [← hW0] at HZ ⊢
    clear hW0
    have HBW := Lib.hid HZ.out.below
    have HSB := Lib.hid (show ∀ wx, Below W0.heap.size W0 wx → Stf wx from fun wx hx => HS.out.below (HBW.out.trans (hx.mono HBW.out.size)))
    have HC := Lib.hid (show ∀ wx, Below W0.heap.size W0 wx → wx.cell? ⟨w.heap.size, 0, none⟩ = some (.string s) ∧ wx.cell? ⟨w.heap.size, 1, none⟩ = some (.string t) ∧ wx.cell? ⟨w.heap.size + 1, 0, none⟩ = some (.string s') ∧ wx.cell? ⟨w.heap.size + 1, 1, none⟩ = some (.string t') from fun wx hx => ⟨(HZ.out.to hx).one.num, (HZ.out.to hx).one.den, (HZ.out.to hx).two.num, (HZ.out.to hx).two.den⟩)
    have Y0 := Lib.hid (Below.refl W0.heap.size W0)
    clear HZ
    obtain ⟨c0, c1, c2, c3⟩ := HC.out _ Y0.out
    go_wp2_with fail
    refine (HK.out _ (HSB.out _ Y0.out)).mono ?_
    rintro e w1 ⟨rfl, b⟩
    have Y1 := Lib.hid (Y0.out.trans (b.mono Y0.out.size))
    clear b
    clear c0 c1 c2 c3
    obtain ⟨c0, c1, c2, c3⟩ := HC.out _ Y1.out
    go_wp2_with fail
    have ZA := Lib.hid (Y1.out.alloc Y1.out.size (.cells #[.string s, .string t, .string s', .string t'] 24))
    refine (HF.out _ _ ?hss ?hrw).mono ?_
    case hss => exact HSB.out _ ZA.out
    case hrw => exact Rw.new2 w1 s t s' t' 24
    rintro e w2 ⟨rfl, b⟩
    have Y2 := Lib.hid (ZA.out.trans (b.mono ZA.out.size))
    clear b ZA
    clear c0 c1 c2 c3
    obtain ⟨c0, c1, c2, c3⟩ := HC.out _ Y2.out
    go_wp2_with fail
    refine (HK.out _ (HSB.out _ Y2.out)).mono ?_
    rintro e w3 ⟨rfl, b⟩
    have Y3 := Lib.hid (Y2.out.trans (b.mono Y2.out.size))
    clear b
    clear c0 c1 c2 c3
    go_wp2_with fail
    go_ret
    exact ⟨rfl, HBW.out.trans (Y3.out.mono HBW.out.size)⟩
  | true =>
    rw [hok] at HF
    rw [Bool.and_eq_true] at hok
    obtain ⟨n1, d1, hA⟩ := ok_parts hok.1
    obtain ⟨n2, d2, hB⟩ := ok_parts hok.2
    have a1 := hA.sn
    have a2 := hA.sd
    have a3 := hB.sn
    have a4 := hB.sd
    have p1 := hA.pos
    have p2 := hB.pos
    have HCY := Lib.hid (fun wx => cmpY_any n1 d1 n2 d2 wx (by omega) (by omega) (by omega) (by omega))
    have HCP := Lib.hid (fun wx (hw : Stf wx) => cmpF_any n1 d1 n2 d2 wx hw.std (by omega) (by omega) (by omega) (by omega) p1 p2)
    have HMI := Lib.hid (fun wx (hw : Stf wx) => minF_any n1 d1 n2 d2 wx hw.std (by omega) (by omega) (by omega) (by omega) p1 p2)
    have HMA := Lib.hid (fun wx (hw : Stf wx) => maxF_any n1 d1 n2 d2 wx hw.std (by omega) (by omega) (by omega) (by omega) p1 p2)
    have HSP := Lib.hid (fun wx (_ : Stf wx) => signF_any n1 (zS d1) wx (by omega))
    have HSY := Lib.hid (fun wx (_ : Stf wx) => signY_any n1 (zS d1) wx (by omega))
    have hfl := cmpZ_flip (n1 * d2) (n2 * d1)
    have hsame := fun h : n1 * d2 = n2 * d1 => same_of p1 p2 hA.fr hB.fr h
    rw [← hA.s, ← hA.t, ← hB.s, ← hB.t] at HCY HCP HMI HMA
    rw [← hA.s, ← hA.t] at HSP HSY
    have hlow : ∃ l1 l2 h1 h2 : ByteArray, (0 < cmpZ (n1 * d2) (n2 * d1) → l1 = s' ∧ l2 = t' ∧ h1 = s ∧ h2 = t) ∧ (¬ 0 < cmpZ (n1 * d2) (n2 * d1) → l1 = s ∧ l2 = t ∧ h1 = s' ∧ h2 = t') ∧ (if cmpZ (n2 * d1) (n1 * d2) < 0 then ratV s' t' else ratV s t) = ratV l1 l2 ∧ (if cmpZ (n2 * d1) (n1 * d2) > 0 then ratV s' t' else ratV s t) = ratV h1 h2 := by
      have hfl2 := cmpZ_flip (n2 * d1) (n1 * d2)
      by_cases hc : 0 < cmpZ (n1 * d2) (n2 * d1)
      · exact ⟨s', t', s, t, fun _ => ⟨rfl, rfl, rfl, rfl⟩, fun h => absurd hc h, by rw [if_pos (by omega)], by rw [if_neg (by omega)]⟩
      · refine ⟨s, t, s', t', fun h => absurd h hc, fun _ => ⟨rfl, rfl, rfl, rfl⟩, by rw [if_neg (by omega)], ?_⟩
        by_cases he : cmpZ (n1 * d2) (n2 * d1) = 0
        · obtain ⟨e1, e2⟩ := hsame (hfl.2.mp he)
          have es : s' = s := by rw [hB.s, hA.s, e1]
          have et : t' = t := by rw [hB.t, hA.t, e2]
          rw [es, et]; split <;> rfl
        · rw [if_pos (by omega)]
    obtain ⟨l1, l2, h1, h2, hl1, hl2, hmi, hma⟩ := hlow
    rw [hmi] at HMI
    rw [hma] at HMA
    obtain ⟨cz, hcz⟩ : ∃ c, c = cmpZ (n1 * d2) (n2 * d1) := ⟨_, rfl⟩
    rw [← hcz] at HCY HCP hl1 hl2
    obtain ⟨ks, hks⟩ : ∃ c, c = sgnI n1 := ⟨_, rfl⟩
    rw [← hks] at HSP HSY
    have HL1 := Lib.hid hl1
    have HL2 := Lib.hid hl2
    clear hok hs hA hB a1 a2 a3 a4 p1 p2 hcz hks hmi hma hl1 hl2 hfl hsame
    go_enter Tryz.func9, Tryz.ntmps9
    go_upto_region 1 with fail
    obtain ⟨W0, hW0⟩ : ∃ W0, W0 = (w.alloc (ratO s t)).alloc (ratO s' t') := ⟨_, rfl⟩
    rw [← hW0] at HZ ⊢
    clear hW0
    have HBW := Lib.hid HZ.out.below
    have HSB := Lib.hid (show ∀ wx, Below W0.heap.size W0 wx → Stf wx from fun wx hx => HS.out.below (HBW.out.trans (hx.mono HBW.out.size)))
    have HC := Lib.hid (show ∀ wx, Below W0.heap.size W0 wx → wx.cell? ⟨w.heap.size, 0, none⟩ = some (.string s) ∧ wx.cell? ⟨w.heap.size, 1, none⟩ = some (.string t) ∧ wx.cell? ⟨w.heap.size + 1, 0, none⟩ = some (.string s') ∧ wx.cell? ⟨w.heap.size + 1, 1, none⟩ = some (.string t') from fun wx hx => ⟨(HZ.out.to hx).one.num, (HZ.out.to hx).one.den, (HZ.out.to hx).two.num, (HZ.out.to hx).two.den⟩)
    have Y0 := Lib.hid (Below.refl W0.heap.size W0)
    clear HZ
    obtain ⟨c0, c1, c2, c3⟩ := HC.out _ Y0.out
    go_wp2_with fail
    refine (HK.out _ (HSB.out _ Y0.out)).mono ?_
    rintro e w1 ⟨rfl, b⟩
    have Y1 := Lib.hid (Y0.out.trans (b.mono Y0.out.size))
    clear b
    clear c0 c1 c2 c3
    obtain ⟨c0, c1, c2, c3⟩ := HC.out _ Y1.out
    go_wp2_with fail
    have ZA := Lib.hid (Y1.out.alloc Y1.out.size (.cells #[.string s, .string t, .string s', .string t'] 24))
    refine (HF.out _ _ ?hss ?hrw).mono ?_
    case hss => exact HSB.out _ ZA.out
    case hrw => exact Rw.new2 w1 s t s' t' 24
    rintro e w2 ⟨rfl, b⟩
    have Y2 := Lib.hid (ZA.out.trans (b.mono ZA.out.size))
    clear b ZA
    clear c0 c1 c2 c3
    obtain ⟨c0, c1, c2, c3⟩ := HC.out _ Y2.out
    go_wp2_with fail
    refine (HCY.out _).mono ?_
    rintro e w3 ⟨rfl, b⟩
    have Y3 := Lib.hid (Y2.out.trans (b.mono Y2.out.size))
    clear b
    clear c0 c1 c2 c3
    obtain ⟨c0, c1, c2, c3⟩ := HC.out _ Y3.out
    go_upto_region 4 with fail
    go_cut [6, 7] from 21 to 22 (fun a b wx => ∃ g1 g2 : Nat, a = .pointer (some ⟨g1, 0, none⟩) ∧ b = .pointer (some ⟨g2, 0, none⟩) ∧ Blh w3 wx g1 g2 s t s' t')
    case first =>
      clear c0 c1 c2 c3
      have D0 := Lib.hid (show Below w3.heap.size w3 w3.drew from Below.drew (Below.refl _ _))
      have HD := Lib.hid (show ∀ wx, Below w3.heap.size w3 wx → wx.cell? ⟨w.heap.size, 0, none⟩ = some (.string s) ∧ wx.cell? ⟨w.heap.size, 1, none⟩ = some (.string t) ∧ wx.cell? ⟨w.heap.size + 1, 0, none⟩ = some (.string s') ∧ wx.cell? ⟨w.heap.size + 1, 1, none⟩ = some (.string t') from fun wx hx => HC.out wx (Y3.out.trans (hx.mono Y3.out.size)))
      have G5 := Lib.hid (show Blh w3 (((w3.alloc (.cells #[.string s, .string t] 24)).alloc (.cells #[.string s', .string t'] 24)).drew) w3.heap.size (w3.heap.size + 1) s t s' t' from (Blh.new w3 w3 (Below.refl _ _) rfl s t s' t').to (Below.drew (Below.refl _ _)))
      have G6 := Lib.hid (show Blh w3 (((w3.alloc (.cells #[.string s', .string t'] 24)).alloc (.cells #[.string s, .string t] 24)).drew) w3.heap.size (w3.heap.size + 1) s' t' s t from (Blh.new w3 w3 (Below.refl _ _) rfl s' t' s t).to (Below.drew (Below.refl _ _)))
      go_region_held3 (fun W => W.cell? ⟨w.heap.size, 0, none⟩ = some (.string s) ∧ W.cell? ⟨w.heap.size, 1, none⟩ = some (.string t) ∧ W.cell? ⟨w.heap.size + 1, 0, none⟩ = some (.string s') ∧ W.cell? ⟨w.heap.size + 1, 1, none⟩ = some (.string t')) (first | exact HD.out _ D0.out | exact HD.out _ G5.out.below | exact HD.out _ G6.out.below | exact HD.out _ (D0.out.alloc (Nat.le_refl _) _) | exact HD.out _ ((D0.out.alloc (Nat.le_refl _) _).alloc (by rw [push_size]; exact Nat.le_succ _) _) | exact HD.out _ ((((Below.refl _ _).alloc (Nat.le_refl _) _)).drew) | exact HD.out _ ((((Below.refl _ _).alloc (Nat.le_refl _) _).alloc (by rw [push_size]; exact Nat.le_succ _) _).drew)) (first | fail)
      all_goals (
        go_wp2_with fail
        go_meet
        first | with_reducible exact ⟨_, _, rfl, rfl, G5.out⟩ | with_reducible exact ⟨_, _, rfl, rfl, G6.out.flip⟩)
    case rest =>
      obtain ⟨g1, g2, rfl, rfl, hbw⟩ := hcut
      have HQ := Lib.hid hbw
      clear hbw c0 c1 c2 c3
      by_cases hc : 0 < cz
      · obtain ⟨e1, e2, e3, e4⟩ := HL1.out hc
        rw [e1, e2] at HMI
        rw [e3, e4] at HMA
        have hd : decide (cz > 0) = true := decide_eq_true hc
        clear e1 e2 e3 e4 HL1 HL2 hc
        go_upto_region 6 with fail
        go_cut [] from 25 to 26 (fun wx => Blh w3 wx g1 g2 s' t' s t)
        case first =>
          have HD := Lib.hid (show ∀ wx, Below w3.heap.size w3 wx → wx.cell? ⟨w.heap.size, 0, none⟩ = some (.string s) ∧ wx.cell? ⟨w.heap.size, 1, none⟩ = some (.string t) ∧ wx.cell? ⟨w.heap.size + 1, 0, none⟩ = some (.string s') ∧ wx.cell? ⟨w.heap.size + 1, 1, none⟩ = some (.string t') from fun wx hx => HC.out wx (Y3.out.trans (hx.mono Y3.out.size)))
          have Q0 := Lib.hid HQ.out
          have Q1 := Lib.hid (Q0.out.put s' t')
          have Q2 := Lib.hid (Q0.out.put2 s t)
          have Q1d := Lib.hid (Q1.out.to (Below.drew (Below.refl _ _)))
          have Q2d := Lib.hid (Q2.out.to (Below.drew (Below.refl _ _)))
          have Q3 := Lib.hid (Q1.out.put2 s t)
          have Q4 := Lib.hid (Q2.out.put s' t')
          have Q5 := Lib.hid (Q3.out.to (Below.drew (Below.refl _ _)))
          have Q6 := Lib.hid (Q4.out.to (Below.drew (Below.refl _ _)))
          have Q7 := Lib.hid (Q0.out.to (Below.drew (Below.refl _ _)))
          obtain ⟨xa_0, xa_1, xa_2, xa_3, xa_4, xa_5, xa_6⟩ := Q0.out.low.stores (.string s') (.string t')
          obtain ⟨xb_0, xb_1, xb_2, xb_3, xb_4, xb_5, xb_6⟩ := Q0.out.high.stores (.string s) (.string t)
          obtain ⟨xc_0, xc_1, xc_2, xc_3, xc_4, xc_5, xc_6⟩ := Q1.out.high.stores (.string s) (.string t)
          obtain ⟨xd_0, xd_1, xd_2, xd_3, xd_4, xd_5, xd_6⟩ := Q2.out.low.stores (.string s') (.string t')
          go_region_held3 (fun W => W.cell? ⟨w.heap.size, 0, none⟩ = some (.string s) ∧ W.cell? ⟨w.heap.size, 1, none⟩ = some (.string t) ∧ W.cell? ⟨w.heap.size + 1, 0, none⟩ = some (.string s') ∧ W.cell? ⟨w.heap.size + 1, 1, none⟩ = some (.string t')) (first | exact HD.out _ Q0.out.below | exact HD.out _ Q1.out.below | exact HD.out _ Q2.out.below | exact HD.out _ Q3.out.below | exact HD.out _ Q4.out.below | exact HD.out _ Q1d.out.below | exact HD.out _ Q2d.out.below | exact HD.out _ Q5.out.below | exact HD.out _ Q6.out.below | exact HD.out _ Q7.out.below) (first | fail)
          all_goals (
            go_wp2_with fail
            go_meet
            first | with_reducible exact Q3.out | with_reducible exact Q4.out | with_reducible exact Q5.out | with_reducible exact Q6.out)
        case rest =>
          have HQ2 := Lib.hid hcut
          clear hcut HQ
          have YA := Lib.hid (show Below W0.heap.size W0 wc from Y3.out.trans (HQ2.out.below.mono Y3.out.size))
          have HBV := Lib.hid (HBW.out.trans (YA.out.mono HBW.out.size))
          have HSV := Lib.hid (show ∀ wx, Below wc.heap.size wc wx → Stf wx from fun wx hx => HSB.out wx (YA.out.trans (hx.mono YA.out.size)))
          have HCV := Lib.hid (show ∀ wx, Below wc.heap.size wc wx → wx.cell? ⟨w.heap.size, 0, none⟩ = some (.string s) ∧ wx.cell? ⟨w.heap.size, 1, none⟩ = some (.string t) ∧ wx.cell? ⟨w.heap.size + 1, 0, none⟩ = some (.string s') ∧ wx.cell? ⟨w.heap.size + 1, 1, none⟩ = some (.string t') ∧ wx.cell? ⟨g1, 0, none⟩ = some (.string s') ∧ wx.cell? ⟨g1, 1, none⟩ = some (.string t') ∧ wx.cell? ⟨g2, 0, none⟩ = some (.string s) ∧ wx.cell? ⟨g2, 1, none⟩ = some (.string t) from fun wx hx => by
            obtain ⟨c0, c1, c2, c3⟩ := HC.out wx (YA.out.trans (hx.mono YA.out.size))
            exact ⟨c0, c1, c2, c3, (HQ2.out.to hx).low.c0, (HQ2.out.to hx).low.c1, (HQ2.out.to hx).high.c0, (HQ2.out.to hx).high.c1⟩)
          clear HBW HSB HC YA
          have HBW := HBV
          have HSB := HSV
          have HC := HCV
          clear HBV HSV HCV
          have Y1004 := Lib.hid (Below.refl wc.heap.size wc)
          go_upto_region 7 with fail
          have D1_0 := Lib.hid (show Below wc.heap.size wc wc.drew from Y1004.out.trans ((Below.drew (Below.refl wc.heap.size wc)).mono Y1004.out.size))
          go_region_held3 (fun W => W.cell? ⟨w.heap.size, 0, none⟩ = some (.string s) ∧ W.cell? ⟨w.heap.size, 1, none⟩ = some (.string t) ∧ W.cell? ⟨w.heap.size + 1, 0, none⟩ = some (.string s') ∧ W.cell? ⟨w.heap.size + 1, 1, none⟩ = some (.string t') ∧ W.cell? ⟨g1, 0, none⟩ = some (.string s') ∧ W.cell? ⟨g1, 1, none⟩ = some (.string t') ∧ W.cell? ⟨g2, 0, none⟩ = some (.string s) ∧ W.cell? ⟨g2, 1, none⟩ = some (.string t)) (first | exact HC.out _ D1_5.out | exact HC.out _ D1_4.out | exact HC.out _ D1_3.out | exact HC.out _ D1_2.out | exact HC.out _ D1_1.out | exact HC.out _ D1_0.out) (first | (go_at_call 50; have g0 := D1_4.out; refine (HMA.out _ (HSB.out _ g0)).mono ?_; rintro e v1_5 ⟨rfl, h⟩; have D1_5 := Lib.hid (g0.trans (h.mono g0.size)); clear h g0) | (go_at_call 49; have g0 := D1_3.out; refine (HMI.out _ (HSB.out _ g0)).mono ?_; rintro e v1_4 ⟨rfl, h⟩; have D1_4 := Lib.hid (g0.trans (h.mono g0.size)); clear h g0) | (go_at_call 44; have g0 := D1_2.out; refine (HSY.out _ (HSB.out _ g0)).mono ?_; rintro e v1_3 ⟨rfl, h⟩; have D1_3 := Lib.hid (g0.trans (h.mono g0.size)); clear h g0) | (go_at_call 48; have g0 := D1_1.out; refine (HSP.out _ (HSB.out _ g0)).mono ?_; rintro e v1_2 ⟨rfl, h⟩; have D1_2 := Lib.hid (g0.trans (h.mono g0.size)); clear h g0) | (go_at_call 47; have g0 := D1_0.out; refine (HCP.out _ (HSB.out _ g0)).mono ?_; rintro e v1_1 ⟨rfl, h⟩; have D1_1 := Lib.hid (g0.trans (h.mono g0.size)); clear h g0))
          all_goals (
            go_wp2_with fail
            go_ret
            exact ⟨rfl, HBW.out.trans (D1_5.out.mono HBW.out.size)⟩)
      · obtain ⟨e1, e2, e3, e4⟩ := HL2.out (by omega)
        rw [e1, e2] at HMI
        rw [e3, e4] at HMA
        have hd : decide (cz > 0) = false := decide_eq_false hc
        clear e1 e2 e3 e4 HL1 HL2 hc
        have YA := Lib.hid (show Below W0.heap.size W0 wc from Y3.out.trans (HQ.out.below.mono Y3.out.size))
        have HBV := Lib.hid (HBW.out.trans (YA.out.mono HBW.out.size))
        have HSV := Lib.hid (show ∀ wx, Below wc.heap.size wc wx → Stf wx from fun wx hx => HSB.out wx (YA.out.trans (hx.mono YA.out.size)))
        have HCV := Lib.hid (show ∀ wx, Below wc.heap.size wc wx → wx.cell? ⟨w.heap.size, 0, none⟩ = some (.string s) ∧ wx.cell? ⟨w.heap.size, 1, none⟩ = some (.string t) ∧ wx.cell? ⟨w.heap.size + 1, 0, none⟩ = some (.string s') ∧ wx.cell? ⟨w.heap.size + 1, 1, none⟩ = some (.string t') ∧ wx.cell? ⟨g1, 0, none⟩ = some (.string s) ∧ wx.cell? ⟨g1, 1, none⟩ = some (.string t) ∧ wx.cell? ⟨g2, 0, none⟩ = some (.string s') ∧ wx.cell? ⟨g2, 1, none⟩ = some (.string t') from fun wx hx => by
          obtain ⟨c0, c1, c2, c3⟩ := HC.out wx (YA.out.trans (hx.mono YA.out.size))
          exact ⟨c0, c1, c2, c3, (HQ.out.to hx).low.c0, (HQ.out.to hx).low.c1, (HQ.out.to hx).high.c0, (HQ.out.to hx).high.c1⟩)
        clear HBW HSB HC YA
        have HBW := HBV
        have HSB := HSV
        have HC := HCV
        clear HBV HSV HCV
        have Y1004 := Lib.hid (Below.refl wc.heap.size wc)
        go_upto_region 7 with fail
        have D1_0 := Lib.hid (show Below wc.heap.size wc wc.drew from Y1004.out.trans ((Below.drew (Below.refl wc.heap.size wc)).mono Y1004.out.size))
        go_region_held3 (fun W => W.cell? ⟨w.heap.size, 0, none⟩ = some (.string s) ∧ W.cell? ⟨w.heap.size, 1, none⟩ = some (.string t) ∧ W.cell? ⟨w.heap.size + 1, 0, none⟩ = some (.string s') ∧ W.cell? ⟨w.heap.size + 1, 1, none⟩ = some (.string t') ∧ W.cell? ⟨g1, 0, none⟩ = some (.string s) ∧ W.cell? ⟨g1, 1, none⟩ = some (.string t) ∧ W.cell? ⟨g2, 0, none⟩ = some (.string s') ∧ W.cell? ⟨g2, 1, none⟩ = some (.string t')) (first | exact HC.out _ D1_5.out | exact HC.out _ D1_4.out | exact HC.out _ D1_3.out | exact HC.out _ D1_2.out | exact HC.out _ D1_1.out | exact HC.out _ D1_0.out) (first | (go_at_call 50; have g0 := D1_4.out; refine (HMA.out _ (HSB.out _ g0)).mono ?_; rintro e v1_5 ⟨rfl, h⟩; have D1_5 := Lib.hid (g0.trans (h.mono g0.size)); clear h g0) | (go_at_call 49; have g0 := D1_3.out; refine (HMI.out _ (HSB.out _ g0)).mono ?_; rintro e v1_4 ⟨rfl, h⟩; have D1_4 := Lib.hid (g0.trans (h.mono g0.size)); clear h g0) | (go_at_call 44; have g0 := D1_2.out; refine (HSY.out _ (HSB.out _ g0)).mono ?_; rintro e v1_3 ⟨rfl, h⟩; have D1_3 := Lib.hid (g0.trans (h.mono g0.size)); clear h g0) | (go_at_call 48; have g0 := D1_1.out; refine (HSP.out _ (HSB.out _ g0)).mono ?_; rintro e v1_2 ⟨rfl, h⟩; have D1_2 := Lib.hid (g0.trans (h.mono g0.size)); clear h g0) | (go_at_call 47; have g0 := D1_0.out; refine (HCP.out _ (HSB.out _ g0)).mono ?_; rintro e v1_1 ⟨rfl, h⟩; have D1_1 := Lib.hid (g0.trans (h.mono g0.size)); clear h g0))
        all_goals (
          go_wp2_with fail
          go_ret
          exact ⟨rfl, HBW.out.trans (D1_5.out.mono HBW.out.size)⟩)
end Go.Proofs.YtdgbplppabalgaaGreatDoor
