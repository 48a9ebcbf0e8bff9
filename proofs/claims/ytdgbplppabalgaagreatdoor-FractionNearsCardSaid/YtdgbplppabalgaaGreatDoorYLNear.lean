/-
  The law FractionNears: the walk.
-/
import Derived.Test.YtdgbplppabalgaaGreatDoorJ29
import Derived.Test.YtdgbplppabalgaaGreatDoorJ34
namespace Go.Proofs.YtdgbplppabalgaaGreatDoor
open Go.RowKit

set_option maxHeartbeats 6400000 in
set_option maxRecDepth 100000 in
theorem lawNears_any (x y : Int) (q : Int) (w : World) (hs : Stf w) (hx : (Lit.int .i16 x).wf = true) (hy : (Lit.int .u8 y).wf = true) (hq : (Lit.int .u8 q).wf = true) :
    Calls Tryz.prog 12 #[.agg #[.int .i16 x, .int .u8 y], .int .u8 q] w fun e w' => e = .returned (.bool true) ∧ Below w.heap.size w w' := by
  have hbx := bounds_i16 hx
  have hby := bounds_u8 hy
  have hbq := bounds_u8 hq
  have HS := Lib.hid hs
  have HK := Lib.hid (fun wx (hw : Stf wx) => knownF_any wx hw)
  have HBW := Lib.hid ((Below.refl w.heap.size w).alloc (Nat.le_refl _) (.cells #[.int .i16 x, .int .u8 y] 68))
  have HBX := Lib.hid (BxS.new w x y)
  have HMK := Lib.hid (fun wx (hw : Stf wx) => mkS_any x y wx hw.std hbx.1 hbx.2 hby.1 hby.2)
  obtain ⟨hz, hzn, hzd⟩ := smP_sz hbx.1 hbx.2 hby.1 hby.2
  obtain ⟨p, hp⟩ : ∃ p, p = smP x y := ⟨_, rfl⟩
  rw [← hp] at HMK hz hzn hzd

  obtain ⟨g, hg⟩ : ∃ g : Nat, (g : Int) = 1 + q % 200 := ⟨(1 + q % 200).toNat, by omega⟩
  have hg1 : 1 ≤ g := by omega
  have hg2 : g ≤ 200 := by omega
  have HRE := Lib.hid (fun wx (hw : Stf wx) => restP_any hz (by decide) wx hw.std)
  have HFL := Lib.hid (fun wx (hw : Stf wx) => floorP_any hz (by decide) wx hw.std)
  have HR1 := Lib.hid (fun wx (hw : Stf wx) => roundP_any (p := p) (g := g) hz.pos (by omega) (by omega) hg1 (by omega) wx hw.std)
  have hnb : (nearP (p.1 * (g : Int), p.2)).natAbs ≤ 2 * (32768 * 200) + 256 + 1 := by
    have h1 : (p.1 * (g : Int)).natAbs ≤ 32768 * 200 := by rw [Int.natAbs_mul, Int.natAbs_natCast]; exact Nat.mul_le_mul hzn hg2
    have h2 := fdivB (2 * (p.1 * (g : Int)) + (p.2 : Int)) (y := 2 * (p.2 : Int)) (by have := hz.pos; omega)
    show ((2 * (p.1 * (g : Int)) + (p.2 : Int)).fdiv (2 * (p.2 : Int))).natAbs ≤ _
    omega
  have hyn : (roundP p g).1.natAbs ≤ 2 * (32768 * 200) + 256 + 1 := Nat.le_trans (lowN_nat _ _) hnb
  have hyd : (roundP p g).2 ≤ 200 := Nat.le_trans (Nat.div_le_self _ _) hg2
  have hyr : Sz 9 (roundP p g) := ⟨round_right p (by omega), str_big (n := 9) (by omega) (by decide), str_big (n := 9) (by omega) (by decide)⟩
  have HR2 := Lib.hid (fun wx (hw : Stf wx) => roundP_any (p := roundP p g) (g := g) hyr.pos (by omega) (by omega) hg1 (by omega) wx hw.std)
  rw [round_round p (by omega)] at HR2
  have HOF := Lib.hid (fun wx (hw : Stf wx) => ofF_any 1 (2 * (g : Int)) wx hw.std (by omega) (by omega) (by omega) (by omega))
  have e1 : newS 1 (2 * (g : Int)) = zS (lo 1 (2 * g)).1 := by unfold newS newN; rw [if_neg (by omega), if_neg (by omega)]; exact congrArg (fun d => zS (lowN 1 d)) (by omega)
  have e2 : newT 1 (2 * (g : Int)) = str (lo 1 (2 * g)).2 := by unfold newT newD; rw [if_neg (by omega), if_neg (by omega)]; exact congrArg (fun d => str (lowD 1 d)) (by omega)
  have e3 : newE (2 * (g : Int)) = 0 := if_neg (by omega)
  rw [e1, e2, e3] at HOF
  have hh : Sz 9 (lo 1 (2 * g)) := Sz.lo (by omega) (str_big (n := 9) (by decide) (by decide)) (str_big (n := 9) (by omega) (by decide))
  have hfl : Sz 9 (floorP p, 1) := ⟨⟨Nat.one_pos, Nat.gcd_one_right _⟩, by
    have h2 := fdivB p.1 (y := (p.2 : Int)) (by have := hz.pos; omega)
    exact str_big (n := 9) (by show (p.1.fdiv (p.2 : Int)).natAbs < _; omega) (by decide), str_big (n := 9) (by show 1 < 10 ^ 9; decide) (by decide)⟩
  have hre : Sz 9 (restP p) := ⟨rest_right hz.fr, by
    have h2 := fmod_pos p.1 (y := (p.2 : Int)) (by have := hz.pos; omega)
    exact str_big (n := 9) (by show (p.1.fmod (p.2 : Int)).natAbs < _; omega) (by decide), str_big (n := 9) (by show p.2 < _; omega) (by decide)⟩
  have HAD := Lib.hid (fun wx (hw : Stf wx) => addP_any hfl hre (by decide) wx hw.std)
  rw [floor_rest hz.fr] at HAD
  have HSG := Lib.hid (fun wx (_ : Stf wx) => signP_any hre (by decide) wx)
  have h11 : Sz 9 ((1 : Int), (1 : Nat)) := ⟨⟨Nat.one_pos, rfl⟩, str_big (n := 9) (by decide) (by decide), str_big (n := 9) (by decide) (by decide)⟩
  have HCO := Lib.hid (fun wx (hw : Stf wx) => cmpP_any hre h11 (by decide) wx hw.std)
  rw [(rest_low hz.fr).2] at HCO
  have HSU := Lib.hid (fun wx (hw : Stf wx) => subP_any (hz.mono (by decide : 5 ≤ 9)) hyr (by decide) wx hw.std)
  have hzz := (hz.mono (by decide : 5 ≤ 9)).add hyr.neg (by decide)
  have HAB := Lib.hid (fun wx (_ : Stf wx) => absP_any hzz (by decide) wx)
  have HCH := Lib.hid (fun wx (hw : Stf wx) => cmpP_any hzz.abs (hh.mono (by decide)) (by decide) wx hw.std)
  have hle := round_near hz.fr (g := g) (by omega)
  have hsg : decide (sgnI (restP p).1 ≥ 0) = true := decide_eq_true (by
    have h1 := (rest_low hz.fr).1
    rcases sgnI_ways (restP p).1 with h | h | h <;> omega)
  obtain ⟨k, hk⟩ : ∃ k, k = sgnI (restP p).1 := ⟨_, rfl⟩
  rw [← hk] at HSG hsg
  obtain ⟨cc, hcc⟩ : ∃ k, k = cmpP (absP (addP p (negP (roundP p g)))) (lo 1 (2 * g)) := ⟨_, rfl⟩
  rw [← hcc] at HCH hle
  have hled : decide (cc ≤ 0) = true := decide_eq_true hle
  have hone : ratP ((1 : Int), (1 : Nat)) = ratV ⟨#[49]⟩ ⟨#[49]⟩ := by show ratV (zS 1) (str 1) = _; rw [zS_1, strOne]
  rw [hone] at HCO
  unfold ratP at HMK HRE HR1 HR2 HAD HSG HCO HSU HAB HCH HFL
  have hf1 : str ((floorP p, (1 : Nat)) : Int × Nat).2 = ⟨#[49]⟩ := strOne
  rw [hf1] at HAD
  obtain ⟨pa, hpa⟩ : ∃ s, s = zS p.1 := ⟨_, rfl⟩
  obtain ⟨pb, hpb⟩ : ∃ s, s = str p.2 := ⟨_, rfl⟩
  obtain ⟨ra, hra⟩ : ∃ s, s = zS (restP p).1 := ⟨_, rfl⟩
  obtain ⟨rb, hrb⟩ : ∃ s, s = str (restP p).2 := ⟨_, rfl⟩
  obtain ⟨fa, hfa⟩ : ∃ s, s = zS (floorP p) := ⟨_, rfl⟩
  obtain ⟨ya, hya⟩ : ∃ s, s = zS (roundP p g).1 := ⟨_, rfl⟩
  obtain ⟨yb, hyb⟩ : ∃ s, s = str (roundP p g).2 := ⟨_, rfl⟩
  obtain ⟨ha, hha⟩ : ∃ s, s = zS (lo 1 (2 * g)).1 := ⟨_, rfl⟩
  obtain ⟨hb, hhb⟩ : ∃ s, s = str (lo 1 (2 * g)).2 := ⟨_, rfl⟩
  obtain ⟨ua, hua⟩ : ∃ s, s = zS (addP p (negP (roundP p g))).1 := ⟨_, rfl⟩
  obtain ⟨ub, hub⟩ : ∃ s, s = str (addP p (negP (roundP p g))).2 := ⟨_, rfl⟩
  obtain ⟨va, hva⟩ : ∃ s, s = zS (absP (addP p (negP (roundP p g)))).1 := ⟨_, rfl⟩
  obtain ⟨vb, hvb⟩ : ∃ s, s = str (absP (addP p (negP (roundP p g)))).2 := ⟨_, rfl⟩
  rw [← hpa, ← hpb] at HMK
  rw [← hpa, ← hpb, ← hra, ← hrb] at HRE
  rw [← hpa, ← hpb, ← hfa] at HFL
  rw [← hpa, ← hpb, ← hya, ← hyb] at HR1
  rw [← hya, ← hyb] at HR2
  rw [← hha, ← hhb] at HOF
  rw [← hra, ← hrb, ← hpa, ← hpb] at HAD
  change Hid (∀ wx, Stf wx → Calls Tryz.prog 33 #[ratV (zS (floorP p)) ⟨#[49]⟩, ratV ra rb] wx fun e w' => e = .returned (ratV pa pb) ∧ Below wx.heap.size wx w') at HAD
  rw [← hfa] at HAD
  rw [← hra, ← hrb] at HSG HCO
  rw [← hpa, ← hpb, ← hya, ← hyb, ← hua, ← hub] at HSU
  rw [← hua, ← hub, ← hva, ← hvb] at HAB
  rw [← hva, ← hvb, ← hha, ← hhb] at HCH
  rw [hg] at HR1 HR2 HOF
  clear hs hx hy hq hz hzn hzd hp hg1 hg2 hnb hyn hyd hyr e1 e2 e3 hh hfl hre h11 hzz hle hk hcc hone hf1 hpa hpb hra hrb hfa hya hyb hha hhb hua hub hva hvb hg
  go_enter Tryz.func12, Tryz.ntmps12
  go_upto_region 1 with fail
  obtain ⟨W0, hW0⟩ : ∃ W0, W0 = w.alloc (.cells #[.int .i16 x, .int .u8 y] 68) := ⟨_, rfl⟩
  rw [← hW0] at HBW HBX ⊢
  clear hW0
  have HSB := Lib.hid (show ∀ wx, Below W0.heap.size W0 wx → Stf wx from fun wx hx => HS.out.below (HBW.out.trans (hx.mono HBW.out.size)))
  have HC := Lib.hid (show ∀ wx, Below W0.heap.size W0 wx → wx.cell? ⟨w.heap.size, 0, none⟩ = some (.int .i16 x) ∧ wx.cell? ⟨w.heap.size, 1, none⟩ = some (.int .u8 y) from fun wx hx => ⟨(HBX.out.below hx).c0, (HBX.out.below hx).c1⟩)
  have Y0 := Lib.hid (Below.refl W0.heap.size W0)
  clear HBX
  obtain ⟨c0, c1⟩ := HC.out _ Y0.out
  go_wp2_with fail
  refine (HK.out _ (HSB.out _ Y0.out)).mono ?_
  rintro e w1 ⟨rfl, b⟩
  have Y1 := Lib.hid (Y0.out.trans (b.mono Y0.out.size))
  clear b
  clear c0 c1
  obtain ⟨c0, c1⟩ := HC.out _ Y1.out
  go_wp2_with fail
  refine (HMK.out _ (HSB.out _ Y1.out)).mono ?_
  rintro e w2 ⟨rfl, b⟩
  have Y2 := Lib.hid (Y1.out.trans (b.mono Y1.out.size))
  clear b
  clear c0 c1
  obtain ⟨c0, c1⟩ := HC.out _ Y2.out
  go_upto_region 4 with fail
  have HN := Lib.hid (BxR.new w2 pa pb)
  have YA := Lib.hid (Y2.out.alloc Y2.out.size (ratO pa pb))
  obtain ⟨g2, hg⟩ : ∃ g, g = w2.heap.size := ⟨_, rfl⟩
  obtain ⟨V2, hV⟩ : ∃ V, V = w2.alloc (ratO pa pb) := ⟨_, rfl⟩
  rw [← hg, ← hV] at HN
  rw [← hV] at YA ⊢
  try rw [← hg]
  clear hg hV
  clear c0 c1
  have HBV := Lib.hid (HBW.out.trans (YA.out.mono HBW.out.size))
  have HSV := Lib.hid (show ∀ wx, Below V2.heap.size V2 wx → Stf wx from fun wx hx => HSB.out wx (YA.out.trans (hx.mono YA.out.size)))
  have HCV := Lib.hid (show ∀ wx, Below V2.heap.size V2 wx → wx.cell? ⟨w.heap.size, 0, none⟩ = some (.int .i16 x) ∧ wx.cell? ⟨w.heap.size, 1, none⟩ = some (.int .u8 y) ∧ wx.cell? ⟨g2, 0, none⟩ = some (.string pa) ∧ wx.cell? ⟨g2, 1, none⟩ = some (.string pb) from fun wx hx => by
    obtain ⟨c0, c1⟩ := HC.out wx (YA.out.trans (hx.mono YA.out.size))
    exact ⟨c0, c1, (HN.out.below hx).num, (HN.out.below hx).den⟩)
  clear HBW HSB HC HN YA Y2
  have HBW := HBV
  have HSB := HSV
  have HC := HCV
  clear HBV HSV HCV
  have Y1002 := Lib.hid (Below.refl V2.heap.size V2)
  obtain ⟨c0, c1, c2, c3⟩ := HC.out _ Y1002.out
  go_wp2_with fail
  refine (HRE.out _ (HSB.out _ Y1002.out)).mono ?_
  rintro e w3 ⟨rfl, b⟩
  have Y3 := Lib.hid (Y1002.out.trans (b.mono Y1002.out.size))
  clear b
  clear c0 c1 c2 c3
  obtain ⟨c0, c1, c2, c3⟩ := HC.out _ Y3.out
  go_upto_region 5 with fail
  have HN := Lib.hid (BxR.new w3 ra rb)
  have YA := Lib.hid (Y3.out.alloc Y3.out.size (ratO ra rb))
  obtain ⟨g3, hg⟩ : ∃ g, g = w3.heap.size := ⟨_, rfl⟩
  obtain ⟨V3, hV⟩ : ∃ V, V = w3.alloc (ratO ra rb) := ⟨_, rfl⟩
  rw [← hg, ← hV] at HN
  rw [← hV] at YA ⊢
  try rw [← hg]
  clear hg hV
  clear c0 c1 c2 c3
  have HBV := Lib.hid (HBW.out.trans (YA.out.mono HBW.out.size))
  have HSV := Lib.hid (show ∀ wx, Below V3.heap.size V3 wx → Stf wx from fun wx hx => HSB.out wx (YA.out.trans (hx.mono YA.out.size)))
  have HCV := Lib.hid (show ∀ wx, Below V3.heap.size V3 wx → wx.cell? ⟨w.heap.size, 0, none⟩ = some (.int .i16 x) ∧ wx.cell? ⟨w.heap.size, 1, none⟩ = some (.int .u8 y) ∧ wx.cell? ⟨g2, 0, none⟩ = some (.string pa) ∧ wx.cell? ⟨g2, 1, none⟩ = some (.string pb) ∧ wx.cell? ⟨g3, 0, none⟩ = some (.string ra) ∧ wx.cell? ⟨g3, 1, none⟩ = some (.string rb) from fun wx hx => by
    obtain ⟨c0, c1, c2, c3⟩ := HC.out wx (YA.out.trans (hx.mono YA.out.size))
    exact ⟨c0, c1, c2, c3, (HN.out.below hx).num, (HN.out.below hx).den⟩)
  clear HBW HSB HC HN YA Y3
  have HBW := HBV
  have HSB := HSV
  have HC := HCV
  clear HBV HSV HCV
  have Y1003 := Lib.hid (Below.refl V3.heap.size V3)
  obtain ⟨c0, c1, c2, c3, c4, c5⟩ := HC.out _ Y1003.out
  go_wp2_with fail
  refine (HFL.out _ (HSB.out _ Y1003.out)).mono ?_
  rintro e w4 ⟨rfl, b⟩
  have Y4 := Lib.hid (Y1003.out.trans (b.mono Y1003.out.size))
  clear b
  clear c0 c1 c2 c3 c4 c5
  obtain ⟨c0, c1, c2, c3, c4, c5⟩ := HC.out _ Y4.out
  go_upto_region 6 with fail
  have HN := Lib.hid (BxR.new w4 fa ⟨#[49]⟩)
  have YA := Lib.hid (Y4.out.alloc Y4.out.size (ratO fa ⟨#[49]⟩))
  obtain ⟨g4, hg⟩ : ∃ g, g = w4.heap.size := ⟨_, rfl⟩
  obtain ⟨V4, hV⟩ : ∃ V, V = w4.alloc (ratO fa ⟨#[49]⟩) := ⟨_, rfl⟩
  rw [← hg, ← hV] at HN
  rw [← hV] at YA ⊢
  try rw [← hg]
  clear hg hV
  clear c0 c1 c2 c3 c4 c5
  have HBV := Lib.hid (HBW.out.trans (YA.out.mono HBW.out.size))
  have HSV := Lib.hid (show ∀ wx, Below V4.heap.size V4 wx → Stf wx from fun wx hx => HSB.out wx (YA.out.trans (hx.mono YA.out.size)))
  have HCV := Lib.hid (show ∀ wx, Below V4.heap.size V4 wx → wx.cell? ⟨w.heap.size, 0, none⟩ = some (.int .i16 x) ∧ wx.cell? ⟨w.heap.size, 1, none⟩ = some (.int .u8 y) ∧ wx.cell? ⟨g2, 0, none⟩ = some (.string pa) ∧ wx.cell? ⟨g2, 1, none⟩ = some (.string pb) ∧ wx.cell? ⟨g3, 0, none⟩ = some (.string ra) ∧ wx.cell? ⟨g3, 1, none⟩ = some (.string rb) ∧ wx.cell? ⟨g4, 0, none⟩ = some (.string fa) ∧ wx.cell? ⟨g4, 1, none⟩ = some (.string ⟨#[49]⟩) from fun wx hx => by
    obtain ⟨c0, c1, c2, c3, c4, c5⟩ := HC.out wx (YA.out.trans (hx.mono YA.out.size))
    exact ⟨c0, c1, c2, c3, c4, c5, (HN.out.below hx).num, (HN.out.below hx).den⟩)
  clear HBW HSB HC HN YA Y4
  have HBW := HBV
  have HSB := HSV
  have HC := HCV
  clear HBV HSV HCV
  have Y1004 := Lib.hid (Below.refl V4.heap.size V4)
  obtain ⟨c0, c1, c2, c3, c4, c5, c6, c7⟩ := HC.out _ Y1004.out
  go_wp2_with fail
  refine (HR1.out _ (HSB.out _ Y1004.out)).mono ?_
  rintro e w5 ⟨rfl, b⟩
  have Y5 := Lib.hid (Y1004.out.trans (b.mono Y1004.out.size))
  clear b
  clear c0 c1 c2 c3 c4 c5 c6 c7
  obtain ⟨c0, c1, c2, c3, c4, c5, c6, c7⟩ := HC.out _ Y5.out
  go_upto_region 7 with fail
  have HN := Lib.hid (BxR.new w5 ya yb)
  have YA := Lib.hid (Y5.out.alloc Y5.out.size (ratO ya yb))
  obtain ⟨g5, hg⟩ : ∃ g, g = w5.heap.size := ⟨_, rfl⟩
  obtain ⟨V5, hV⟩ : ∃ V, V = w5.alloc (ratO ya yb) := ⟨_, rfl⟩
  rw [← hg, ← hV] at HN
  rw [← hV] at YA ⊢
  try rw [← hg]
  clear hg hV
  clear c0 c1 c2 c3 c4 c5 c6 c7
  have HBV := Lib.hid (HBW.out.trans (YA.out.mono HBW.out.size))
  have HSV := Lib.hid (show ∀ wx, Below V5.heap.size V5 wx → Stf wx from fun wx hx => HSB.out wx (YA.out.trans (hx.mono YA.out.size)))
  have HCV := Lib.hid (show ∀ wx, Below V5.heap.size V5 wx → wx.cell? ⟨w.heap.size, 0, none⟩ = some (.int .i16 x) ∧ wx.cell? ⟨w.heap.size, 1, none⟩ = some (.int .u8 y) ∧ wx.cell? ⟨g2, 0, none⟩ = some (.string pa) ∧ wx.cell? ⟨g2, 1, none⟩ = some (.string pb) ∧ wx.cell? ⟨g3, 0, none⟩ = some (.string ra) ∧ wx.cell? ⟨g3, 1, none⟩ = some (.string rb) ∧ wx.cell? ⟨g4, 0, none⟩ = some (.string fa) ∧ wx.cell? ⟨g4, 1, none⟩ = some (.string ⟨#[49]⟩) ∧ wx.cell? ⟨g5, 0, none⟩ = some (.string ya) ∧ wx.cell? ⟨g5, 1, none⟩ = some (.string yb) from fun wx hx => by
    obtain ⟨c0, c1, c2, c3, c4, c5, c6, c7⟩ := HC.out wx (YA.out.trans (hx.mono YA.out.size))
    exact ⟨c0, c1, c2, c3, c4, c5, c6, c7, (HN.out.below hx).num, (HN.out.below hx).den⟩)
  clear HBW HSB HC HN YA Y5
  have HBW := HBV
  have HSB := HSV
  have HC := HCV
  clear HBV HSV HCV
  have Y1005 := Lib.hid (Below.refl V5.heap.size V5)
  obtain ⟨c0, c1, c2, c3, c4, c5, c6, c7, c8, c9⟩ := HC.out _ Y1005.out
  go_wp2_with fail
  refine (HR2.out _ (HSB.out _ Y1005.out)).mono ?_
  rintro e w6 ⟨rfl, b⟩
  have Y6 := Lib.hid (Y1005.out.trans (b.mono Y1005.out.size))
  clear b
  clear c0 c1 c2 c3 c4 c5 c6 c7 c8 c9
  obtain ⟨c0, c1, c2, c3, c4, c5, c6, c7, c8, c9⟩ := HC.out _ Y6.out
  go_upto_region 8 with fail
  have HN := Lib.hid (BxR.new w6 ya yb)
  have YA := Lib.hid (Y6.out.alloc Y6.out.size (ratO ya yb))
  obtain ⟨g6, hg⟩ : ∃ g, g = w6.heap.size := ⟨_, rfl⟩
  obtain ⟨V6, hV⟩ : ∃ V, V = w6.alloc (ratO ya yb) := ⟨_, rfl⟩
  rw [← hg, ← hV] at HN
  rw [← hV] at YA ⊢
  try rw [← hg]
  clear hg hV
  clear c0 c1 c2 c3 c4 c5 c6 c7 c8 c9
  have HBV := Lib.hid (HBW.out.trans (YA.out.mono HBW.out.size))
  have HSV := Lib.hid (show ∀ wx, Below V6.heap.size V6 wx → Stf wx from fun wx hx => HSB.out wx (YA.out.trans (hx.mono YA.out.size)))
  have HCV := Lib.hid (show ∀ wx, Below V6.heap.size V6 wx → wx.cell? ⟨w.heap.size, 0, none⟩ = some (.int .i16 x) ∧ wx.cell? ⟨w.heap.size, 1, none⟩ = some (.int .u8 y) ∧ wx.cell? ⟨g2, 0, none⟩ = some (.string pa) ∧ wx.cell? ⟨g2, 1, none⟩ = some (.string pb) ∧ wx.cell? ⟨g3, 0, none⟩ = some (.string ra) ∧ wx.cell? ⟨g3, 1, none⟩ = some (.string rb) ∧ wx.cell? ⟨g4, 0, none⟩ = some (.string fa) ∧ wx.cell? ⟨g4, 1, none⟩ = some (.string ⟨#[49]⟩) ∧ wx.cell? ⟨g5, 0, none⟩ = some (.string ya) ∧ wx.cell? ⟨g5, 1, none⟩ = some (.string yb) ∧ wx.cell? ⟨g6, 0, none⟩ = some (.string ya) ∧ wx.cell? ⟨g6, 1, none⟩ = some (.string yb) from fun wx hx => by
    obtain ⟨c0, c1, c2, c3, c4, c5, c6, c7, c8, c9⟩ := HC.out wx (YA.out.trans (hx.mono YA.out.size))
    exact ⟨c0, c1, c2, c3, c4, c5, c6, c7, c8, c9, (HN.out.below hx).num, (HN.out.below hx).den⟩)
  clear HBW HSB HC HN YA Y6
  have HBW := HBV
  have HSB := HSV
  have HC := HCV
  clear HBV HSV HCV
  have Y1006 := Lib.hid (Below.refl V6.heap.size V6)
  obtain ⟨c0, c1, c2, c3, c4, c5, c6, c7, c8, c9, c10, c11⟩ := HC.out _ Y1006.out
  go_wp2_with fail
  refine (HOF.out _ (HSB.out _ Y1006.out)).mono ?_
  rintro e w7 ⟨rfl, b⟩
  have Y7 := Lib.hid (Y1006.out.trans (b.mono Y1006.out.size))
  clear b
  clear c0 c1 c2 c3 c4 c5 c6 c7 c8 c9 c10 c11
  obtain ⟨c0, c1, c2, c3, c4, c5, c6, c7, c8, c9, c10, c11⟩ := HC.out _ Y7.out
  go_upto_region 9 with fail
  have HN := Lib.hid (BxR.new w7 ha hb)
  have YA := Lib.hid (Y7.out.alloc Y7.out.size (ratO ha hb))
  obtain ⟨g7, hg⟩ : ∃ g, g = w7.heap.size := ⟨_, rfl⟩
  obtain ⟨V7, hV⟩ : ∃ V, V = w7.alloc (ratO ha hb) := ⟨_, rfl⟩
  rw [← hg, ← hV] at HN
  rw [← hV] at YA ⊢
  try rw [← hg]
  clear hg hV
  clear c0 c1 c2 c3 c4 c5 c6 c7 c8 c9 c10 c11
  have HBV := Lib.hid (HBW.out.trans (YA.out.mono HBW.out.size))
  have HSV := Lib.hid (show ∀ wx, Below V7.heap.size V7 wx → Stf wx from fun wx hx => HSB.out wx (YA.out.trans (hx.mono YA.out.size)))
  have HCV := Lib.hid (show ∀ wx, Below V7.heap.size V7 wx → wx.cell? ⟨w.heap.size, 0, none⟩ = some (.int .i16 x) ∧ wx.cell? ⟨w.heap.size, 1, none⟩ = some (.int .u8 y) ∧ wx.cell? ⟨g2, 0, none⟩ = some (.string pa) ∧ wx.cell? ⟨g2, 1, none⟩ = some (.string pb) ∧ wx.cell? ⟨g3, 0, none⟩ = some (.string ra) ∧ wx.cell? ⟨g3, 1, none⟩ = some (.string rb) ∧ wx.cell? ⟨g4, 0, none⟩ = some (.string fa) ∧ wx.cell? ⟨g4, 1, none⟩ = some (.string ⟨#[49]⟩) ∧ wx.cell? ⟨g5, 0, none⟩ = some (.string ya) ∧ wx.cell? ⟨g5, 1, none⟩ = some (.string yb) ∧ wx.cell? ⟨g6, 0, none⟩ = some (.string ya) ∧ wx.cell? ⟨g6, 1, none⟩ = some (.string yb) ∧ wx.cell? ⟨g7, 0, none⟩ = some (.string ha) ∧ wx.cell? ⟨g7, 1, none⟩ = some (.string hb) from fun wx hx => by
    obtain ⟨c0, c1, c2, c3, c4, c5, c6, c7, c8, c9, c10, c11⟩ := HC.out wx (YA.out.trans (hx.mono YA.out.size))
    exact ⟨c0, c1, c2, c3, c4, c5, c6, c7, c8, c9, c10, c11, (HN.out.below hx).num, (HN.out.below hx).den⟩)
  clear HBW HSB HC HN YA Y7
  have HBW := HBV
  have HSB := HSV
  have HC := HCV
  clear HBV HSV HCV
  have Y1007 := Lib.hid (Below.refl V7.heap.size V7)
  obtain ⟨c0, c1, c2, c3, c4, c5, c6, c7, c8, c9, c10, c11, c12, c13⟩ := HC.out _ Y1007.out
  go_upto_region 11 with fail
  have D1_0 := Lib.hid (show Below V7.heap.size V7 V7.drew from Y1007.out.trans ((Below.drew (Below.refl V7.heap.size V7)).mono Y1007.out.size))
  clear c0 c1 c2 c3 c4 c5 c6 c7 c8 c9 c10 c11 c12 c13
  go_region_held3 (fun W => W.cell? ⟨w.heap.size, 0, none⟩ = some (.int .i16 x) ∧ W.cell? ⟨w.heap.size, 1, none⟩ = some (.int .u8 y) ∧ W.cell? ⟨g2, 0, none⟩ = some (.string pa) ∧ W.cell? ⟨g2, 1, none⟩ = some (.string pb) ∧ W.cell? ⟨g3, 0, none⟩ = some (.string ra) ∧ W.cell? ⟨g3, 1, none⟩ = some (.string rb) ∧ W.cell? ⟨g4, 0, none⟩ = some (.string fa) ∧ W.cell? ⟨g4, 1, none⟩ = some (.string ⟨#[49]⟩) ∧ W.cell? ⟨g5, 0, none⟩ = some (.string ya) ∧ W.cell? ⟨g5, 1, none⟩ = some (.string yb) ∧ W.cell? ⟨g6, 0, none⟩ = some (.string ya) ∧ W.cell? ⟨g6, 1, none⟩ = some (.string yb) ∧ W.cell? ⟨g7, 0, none⟩ = some (.string ha) ∧ W.cell? ⟨g7, 1, none⟩ = some (.string hb)) (first | exact HC.out _ D1_6.out | exact HC.out _ D1_5.out | exact HC.out _ D1_4.out | exact HC.out _ D1_3.out | exact HC.out _ D1_2.out | exact HC.out _ D1_1.out | exact HC.out _ D1_0.out) (first | (go_at_call 47; have g0 := D1_5.out; refine (HCH.out _ (HSB.out _ g0)).mono ?_; rintro e v1_6 ⟨rfl, h⟩; have D1_6 := Lib.hid (g0.trans (h.mono g0.size)); clear h g0) | (go_at_call 38; have g0 := D1_4.out; refine (HAB.out _ (HSB.out _ g0)).mono ?_; rintro e v1_5 ⟨rfl, h⟩; have D1_5 := Lib.hid (g0.trans (h.mono g0.size)); clear h g0) | (go_at_call 34; have g0 := D1_3.out; refine (HSU.out _ (HSB.out _ g0)).mono ?_; rintro e v1_4 ⟨rfl, h⟩; have D1_4 := Lib.hid (g0.trans (h.mono g0.size)); clear h g0) | (go_at_call 47; have g0 := D1_2.out; refine (HCO.out _ (HSB.out _ g0)).mono ?_; rintro e v1_3 ⟨rfl, h⟩; have D1_3 := Lib.hid (g0.trans (h.mono g0.size)); clear h g0) | (go_at_call 48; have g0 := D1_1.out; refine (HSG.out _ (HSB.out _ g0)).mono ?_; rintro e v1_2 ⟨rfl, h⟩; have D1_2 := Lib.hid (g0.trans (h.mono g0.size)); clear h g0) | (go_at_call 33; have g0 := D1_0.out; refine (HAD.out _ (HSB.out _ g0)).mono ?_; rintro e v1_1 ⟨rfl, h⟩; have D1_1 := Lib.hid (g0.trans (h.mono g0.size)); clear h g0))
  all_goals (
    go_wp2_with fail
    go_ret
    exact ⟨rfl, HBW.out.trans (D1_6.out.mono HBW.out.size)⟩)
end Go.Proofs.YtdgbplppabalgaaGreatDoor
