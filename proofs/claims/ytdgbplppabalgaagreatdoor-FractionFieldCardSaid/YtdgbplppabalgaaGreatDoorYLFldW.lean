/-
  The law FractionField: the walk.
-/
import Derived.Test.YtdgbplppabalgaaGreatDoorL29
import Derived.Test.YtdgbplppabalgaaGreatDoorL43
import Derived.Test.YtdgbplppabalgaaGreatDoorL35
namespace Go.Proofs.YtdgbplppabalgaaGreatDoor
open Go.RowKit

theorem S3.new (w : World) (px py qx qy rx ry : Int) :
    BxS (((w.alloc (.cells #[.int .i16 px, .int .u8 py] 68)).alloc (.cells #[.int .i16 qx, .int .u8 qy] 68)).alloc (.cells #[.int .i16 rx, .int .u8 ry] 68)) w.heap.size px py ∧ BxS (((w.alloc (.cells #[.int .i16 px, .int .u8 py] 68)).alloc (.cells #[.int .i16 qx, .int .u8 qy] 68)).alloc (.cells #[.int .i16 rx, .int .u8 ry] 68)) (w.heap.size + 1) qx qy ∧ BxS (((w.alloc (.cells #[.int .i16 px, .int .u8 py] 68)).alloc (.cells #[.int .i16 qx, .int .u8 qy] 68)).alloc (.cells #[.int .i16 rx, .int .u8 ry] 68)) (w.heap.size + 1 + 1) rx ry := by
  have h1 := (BxS.new w px py).below ((Below.refl _ _).alloc (Nat.le_refl _) (.cells #[.int .i16 qx, .int .u8 qy] 68))
  have h2 := BxS.new (w.alloc (.cells #[.int .i16 px, .int .u8 py] 68)) qx qy
  have h3 := BxS.new ((w.alloc (.cells #[.int .i16 px, .int .u8 py] 68)).alloc (.cells #[.int .i16 qx, .int .u8 qy] 68)) rx ry
  rw [push_size] at h2
  rw [push_size, push_size] at h3
  exact ⟨h1.below ((Below.refl _ _).alloc (Nat.le_refl _) _), h2.below ((Below.refl _ _).alloc (by rw [push_size]; omega) _), h3⟩
set_option maxHeartbeats 12800000 in
set_option maxRecDepth 100000 in
theorem field_walk (px py qx qy rx ry z y k9 : Int) (aa ab ba bb ca cb oa ob sa sb ma mb ta tb ha hb la lb da db na nb ua ub ja jb ka kb xa xb : ByteArray) (w : World) (HS0 : Stf w) (hw : IntKind.i64.wrap (z * y) = z * y)
    (HK : ∀ wx, Stf wx → Calls Tryz.prog 13 #[] wx fun e w' => e = .returned (.bool true) ∧ Below wx.heap.size wx w')
    (HM1 : ∀ wx, Stf wx → Calls Tryz.prog 61 #[.agg #[.int .i16 px, .int .u8 py]] wx fun e w' => e = .returned (ratV aa ab) ∧ Below wx.heap.size wx w')
    (HM2 : ∀ wx, Stf wx → Calls Tryz.prog 61 #[.agg #[.int .i16 qx, .int .u8 qy]] wx fun e w' => e = .returned (ratV ba bb) ∧ Below wx.heap.size wx w')
    (HM3 : ∀ wx, Stf wx → Calls Tryz.prog 61 #[.agg #[.int .i16 rx, .int .u8 ry]] wx fun e w' => e = .returned (ratV ca cb) ∧ Below wx.heap.size wx w')
    (A1 : ∀ wx, Stf wx → Calls Tryz.prog 33 #[ratV aa ab, ratV ba bb] wx fun e w' => e = .returned (ratV oa ob) ∧ Below wx.heap.size wx w')
    (A2 : ∀ wx, Stf wx → Calls Tryz.prog 33 #[ratV oa ob, ratV ca cb] wx fun e w' => e = .returned (ratV sa sb) ∧ Below wx.heap.size wx w')
    (A3 : ∀ wx, Stf wx → Calls Tryz.prog 33 #[ratV ba bb, ratV aa ab] wx fun e w' => e = .returned (ratV oa ob) ∧ Below wx.heap.size wx w')
    (A4 : ∀ wx, Stf wx → Calls Tryz.prog 33 #[ratV ca cb, ratV oa ob] wx fun e w' => e = .returned (ratV sa sb) ∧ Below wx.heap.size wx w')
    (M1 : ∀ wx, Stf wx → Calls Tryz.prog 42 #[ratV aa ab, ratV ba bb] wx fun e w' => e = .returned (ratV ma mb) ∧ Below wx.heap.size wx w')
    (M2 : ∀ wx, Stf wx → Calls Tryz.prog 42 #[ratV ma mb, ratV ca cb] wx fun e w' => e = .returned (ratV ta tb) ∧ Below wx.heap.size wx w')
    (M3 : ∀ wx, Stf wx → Calls Tryz.prog 42 #[ratV ca cb, ratV ba bb] wx fun e w' => e = .returned (ratV ha hb) ∧ Below wx.heap.size wx w')
    (M4 : ∀ wx, Stf wx → Calls Tryz.prog 42 #[ratV ha hb, ratV aa ab] wx fun e w' => e = .returned (ratV ta tb) ∧ Below wx.heap.size wx w')
    (A5 : ∀ wx, Stf wx → Calls Tryz.prog 33 #[ratV ba bb, ratV ca cb] wx fun e w' => e = .returned (ratV la lb) ∧ Below wx.heap.size wx w')
    (M5 : ∀ wx, Stf wx → Calls Tryz.prog 42 #[ratV aa ab, ratV la lb] wx fun e w' => e = .returned (ratV da db) ∧ Below wx.heap.size wx w')
    (M6 : ∀ wx, Stf wx → Calls Tryz.prog 42 #[ratV aa ab, ratV ca cb] wx fun e w' => e = .returned (ratV na nb) ∧ Below wx.heap.size wx w')
    (A6 : ∀ wx, Stf wx → Calls Tryz.prog 33 #[ratV ma mb, ratV na nb] wx fun e w' => e = .returned (ratV da db) ∧ Below wx.heap.size wx w')
    (S1 : ∀ wx, Stf wx → Calls Tryz.prog 34 #[ratV aa ab, ratV ba bb] wx fun e w' => e = .returned (ratV ua ub) ∧ Below wx.heap.size wx w')
    (A7 : ∀ wx, Stf wx → Calls Tryz.prog 33 #[ratV ua ub, ratV ba bb] wx fun e w' => e = .returned (ratV aa ab) ∧ Below wx.heap.size wx w')
    (A8 : ∀ wx, Stf wx → Calls Tryz.prog 33 #[ratV aa ab, ratV ca cb] wx fun e w' => e = .returned (ratV ja jb) ∧ Below wx.heap.size wx w')
    (M8 : ∀ wx, Stf wx → Calls Tryz.prog 42 #[ratV ba bb, ratV ca cb] wx fun e w' => e = .returned (ratV ka kb) ∧ Below wx.heap.size wx w')
    (C1 : ∀ wx, Stf wx → Calls Tryz.prog 47 #[ratV aa ab, ratV ba bb] wx fun e w' => e = .returned (.int .i64 z) ∧ Below wx.heap.size wx w')
    (C2 : ∀ wx, Stf wx → Calls Tryz.prog 47 #[ratV ja jb, ratV la lb] wx fun e w' => e = .returned (.int .i64 z) ∧ Below wx.heap.size wx w')
    (C3 : ∀ wx, Stf wx → Calls Tryz.prog 47 #[ratV na nb, ratV ka kb] wx fun e w' => e = .returned (.int .i64 (z * y)) ∧ Below wx.heap.size wx w')
    (SC : ∀ wx, Stf wx → Calls Tryz.prog 48 #[ratV ca cb] wx fun e w' => e = .returned (.int .i64 y) ∧ Below wx.heap.size wx w')
    (DV : ∀ wx, Stf wx → Calls Tryz.prog 41 #[ratV aa ab, ratV ba bb] wx fun e w' => e = .returned (.tuple #[ratV xa xb, .int .i64 k9]) ∧ Below wx.heap.size wx w')
    (R9 : (k9 = 0 ∧ (∀ wx, Stf wx → Calls Tryz.prog 42 #[ratV xa xb, ratV ba bb] wx fun e w' => e = .returned (ratV aa ab) ∧ Below wx.heap.size wx w')) ∨ (k9 = 17 ∧ (∀ wx, Stf wx → Calls Tryz.prog 48 #[ratV ba bb] wx fun e w' => e = .returned (.int .i64 0) ∧ Below wx.heap.size wx w'))) :
    Calls Tryz.prog 11 #[.agg #[.int .i16 px, .int .u8 py], .agg #[.int .i16 qx, .int .u8 qy], .agg #[.int .i16 rx, .int .u8 ry]] w fun e w' => e = .returned (.bool true) ∧ Below w.heap.size w w' := by
  have HS := Lib.hid HS0
  have HKh := Lib.hid HK
  have HM1h := Lib.hid HM1
  have HM2h := Lib.hid HM2
  have HM3h := Lib.hid HM3
  have A1h := Lib.hid A1
  have A2h := Lib.hid A2
  have A3h := Lib.hid A3
  have A4h := Lib.hid A4
  have M1h := Lib.hid M1
  have M2h := Lib.hid M2
  have M3h := Lib.hid M3
  have M4h := Lib.hid M4
  have A5h := Lib.hid A5
  have M5h := Lib.hid M5
  have M6h := Lib.hid M6
  have A6h := Lib.hid A6
  have S1h := Lib.hid S1
  have A7h := Lib.hid A7
  have A8h := Lib.hid A8
  have M8h := Lib.hid M8
  have C1h := Lib.hid C1
  have C2h := Lib.hid C2
  have C3h := Lib.hid C3
  have SCh := Lib.hid SC
  have DVh := Lib.hid DV
  have R9h := Lib.hid R9
  clear HS0 HK HM1 HM2 HM3 A1 A2 A3 A4 M1 M2 M3 M4 A5 M5 M6 A6 S1 A7 A8 M8 C1 C2 C3 SC DV R9
  have HBX := Lib.hid (S3.new w px py qx qy rx ry)
  have HBW := Lib.hid (((Below.refl w.heap.size w).alloc (Nat.le_refl _) (.cells #[.int .i16 px, .int .u8 py] 68)).alloc (by rw [push_size]; omega) (.cells #[.int .i16 qx, .int .u8 qy] 68) |>.alloc (by rw [push_size, push_size]; omega) (.cells #[.int .i16 rx, .int .u8 ry] 68))
  go_enter Tryz.func11, Tryz.ntmps11
  go_upto_region 1 with fail
  obtain ⟨W0, hW0⟩ : ∃ W0, W0 = ((w.alloc (.cells #[.int .i16 px, .int .u8 py] 68)).alloc (.cells #[.int .i16 qx, .int .u8 qy] 68)).alloc (.cells #[.int .i16 rx, .int .u8 ry] 68) := ⟨_, rfl⟩
  rw [← hW0] at HBW HBX ⊢
  clear hW0
  have HSB := Lib.hid (show ∀ wx, Below W0.heap.size W0 wx → Stf wx from fun wx hx => HS.out.below (HBW.out.trans (hx.mono HBW.out.size)))
  have HC := Lib.hid (show ∀ wx, Below W0.heap.size W0 wx → wx.cell? ⟨w.heap.size, 0, none⟩ = some (.int .i16 px) ∧ wx.cell? ⟨w.heap.size, 1, none⟩ = some (.int .u8 py) ∧ wx.cell? ⟨w.heap.size + 1, 0, none⟩ = some (.int .i16 qx) ∧ wx.cell? ⟨w.heap.size + 1, 1, none⟩ = some (.int .u8 qy) ∧ wx.cell? ⟨w.heap.size + 1 + 1, 0, none⟩ = some (.int .i16 rx) ∧ wx.cell? ⟨w.heap.size + 1 + 1, 1, none⟩ = some (.int .u8 ry) from fun wx hx => ⟨(HBX.out.1.below hx).c0, (HBX.out.1.below hx).c1, (HBX.out.2.1.below hx).c0, (HBX.out.2.1.below hx).c1, (HBX.out.2.2.below hx).c0, (HBX.out.2.2.below hx).c1⟩)
  have Y0 := Lib.hid (Below.refl W0.heap.size W0)
  clear HBX
  obtain ⟨c0, c1, c2, c3, c4, c5⟩ := HC.out _ Y0.out
  go_wp2_with fail
  refine (HKh.out _ (HSB.out _ Y0.out)).mono ?_
  rintro e w1 ⟨rfl, b⟩
  have Y1 := Lib.hid (Y0.out.trans (b.mono Y0.out.size))
  clear b
  clear c0 c1 c2 c3 c4 c5
  obtain ⟨c0, c1, c2, c3, c4, c5⟩ := HC.out _ Y1.out
  go_upto_region 3 with fail
  have D1_0 := Lib.hid (show Below W0.heap.size W0 w1.drew from Y1.out.trans ((Below.drew (Below.refl w1.heap.size w1)).mono Y1.out.size))
  clear c0 c1 c2 c3 c4 c5
  refine' Batch.wp_region_inv (J := fun A D a wx => ∃ (x0 x1 x2 x3 x4 x5 x6 x7 x8 : Value) (z1 z2 z3 : Nat), a = Batch.lay A [(15, x0), (16, x1), (17, x2), (18, x3), (19, x4), (20, x5), (7, x6), (8, x7), (9, x8)] ∧ RowKit.Hid (Below W0.heap.size W0 wx ∧ (D 0 = true → x0 = .agg #[.int .i16 px, .int .u8 py]) ∧ (D 2 = true → x2 = .agg #[.int .i16 qx, .int .u8 qy]) ∧ (D 4 = true → x4 = .agg #[.int .i16 rx, .int .u8 ry]) ∧ Tri D 6 1 9 W0.heap.size 24 aa ab x6 x1 z1 wx ∧ Tri D 7 3 10 W0.heap.size 24 ba bb x7 x3 z2 wx ∧ Tri D 8 5 11 W0.heap.size 24 ca cb x8 x5 z3 wx ∧ (D 6 = true → D 7 = true → z1 ≠ z2) ∧ (D 6 = true → D 8 = true → z1 ≠ z3) ∧ (D 7 = true → D 8 = true → z2 ≠ z3))) (rs := [0, 1, 2, 3, 4, 5, 6, 7, 8, 9, 10, 11]) (by kernel_rfl) (by kernel_rfl) (by kernel_rfl) ?h0 ?hs ?fin
  case h0 =>
    intro D hD
    refine' ⟨_, _, _, _, _, _, _, _, _, 0, 0, 0, ?act, Lib.hid ⟨D1_0.out, fun h => (Bool.false_ne_true ((hD _ (by decide)).symm.trans h)).elim, fun h => (Bool.false_ne_true ((hD _ (by decide)).symm.trans h)).elim, fun h => (Bool.false_ne_true ((hD _ (by decide)).symm.trans h)).elim, Tri.init (hD _ (by decide)) (hD _ (by decide)) (hD _ (by decide)), Tri.init (hD _ (by decide)) (hD _ (by decide)) (hD _ (by decide)), Tri.init (hD _ (by decide)) (hD _ (by decide)) (hD _ (by decide)), fun h => (Bool.false_ne_true ((hD _ (by decide)).symm.trans h)).elim, fun h => (Bool.false_ne_true ((hD _ (by decide)).symm.trans h)).elim, fun h => (Bool.false_ne_true ((hD _ (by decide)).symm.trans h)).elim⟩⟩
    case act => (simp only [Batch.lay, List.foldl_cons, List.foldl_nil, Act.put, List.setIfInBounds_toArray, List.set_cons_zero, List.set_cons_succ]; rfl)
  case hs =>
    refine' Batch.StepsI.cons (i := 0) ?ho0 rfl ?st0 ?more0
    case ho0 => (simp only [List.getElem?_toArray, List.getElem?_cons_zero]; rfl)
    case st0 =>
      intro D a wx K hD hp hI hK
      obtain ⟨x0, x1, x2, x3, x4, x5, x6, x7, x8, z1, z2, z3, ha, hF⟩ := hI.out
      have hb := Lib.hid hF.out.1
      obtain ⟨c0, c1, c2, c3, c4, c5⟩ := HC.out wx hb.out
      simp only [ha, Batch.lay, List.foldl_cons, List.foldl_nil, Act.put, List.setIfInBounds_toArray, List.set_cons_zero, List.set_cons_succ]
      go_simp
      clear ha
      clear c0 c1 c2 c3 c4 c5 hb
      obtain ⟨hb, L0, L2, L4, T1, T2, T3, n12, n13, n23⟩ := hF.out
      refine' hK.out _ _ ⟨.agg #[.int .i16 px, .int .u8 py], x1, x2, x3, x4, x5, x6, x7, x8, z1, z2, z3, ?act0, Lib.hid ⟨hb, fun _ => rfl, L2, L4, T1.keep 0 (by decide) (by decide) (by decide) (fun _ _ _ h => h), T2.keep 0 (by decide) (by decide) (by decide) (fun _ _ _ h => h), T3.keep 0 (by decide) (by decide) (by decide) (fun _ _ _ h => h), n12, n13, n23⟩⟩
      case act0 => (simp only [Batch.lay, List.foldl_cons, List.foldl_nil, Act.put, List.setIfInBounds_toArray, List.set_cons_zero, List.set_cons_succ]; (try rfl))
    refine' Batch.StepsI.cons (i := 1) ?ho1 rfl ?st1 ?more1
    case ho1 => (simp only [List.getElem?_toArray, List.getElem?_cons_succ, List.getElem?_cons_zero]; rfl)
    case st1 =>
      intro D a wx K hD hp hI hK
      obtain ⟨x0, x1, x2, x3, x4, x5, x6, x7, x8, z1, z2, z3, ha, hF⟩ := hI.out
      have hb := Lib.hid hF.out.1
      obtain rfl := hF.out.2.1 (Batch.alls_has hp.out rfl)
      simp only [ha, Batch.lay, List.foldl_cons, List.foldl_nil, Act.put, List.setIfInBounds_toArray, List.set_cons_zero, List.set_cons_succ]
      go_simp
      clear ha
      go_at_call 61
      refine (HM1h.out _ (HSB.out _ hb.out)).mono ?_
      rintro e wy ⟨rfl, h⟩
      clear hb
      (try go_wp2_with fail)
      obtain ⟨hb, L0, L2, L4, T1, T2, T3, n12, n13, n23⟩ := hF.out
      refine' hK.out _ _ ⟨.agg #[.int .i16 px, .int .u8 py], ratV aa ab, x2, x3, x4, x5, x6, x7, x8, z1, z2, z3, ?act1, Lib.hid ⟨hb.trans (h.mono hb.size), fun _ => rfl, L2, L4, T1.call (by decide) (by decide) h, T2.keep 1 (by decide) (by decide) (by decide) (fun _ _ _ g => g.kept h), T3.keep 1 (by decide) (by decide) (by decide) (fun _ _ _ g => g.kept h), n12, n13, n23⟩⟩
      case act1 => (simp only [Batch.lay, List.foldl_cons, List.foldl_nil, Act.put, List.setIfInBounds_toArray, List.set_cons_zero, List.set_cons_succ]; (try rfl))
    refine' Batch.StepsI.cons (i := 2) ?ho2 rfl ?st2 ?more2
    case ho2 => (simp only [List.getElem?_toArray, List.getElem?_cons_succ, List.getElem?_cons_zero]; rfl)
    case st2 =>
      intro D a wx K hD hp hI hK
      obtain ⟨x0, x1, x2, x3, x4, x5, x6, x7, x8, z1, z2, z3, ha, hF⟩ := hI.out
      have hb := Lib.hid hF.out.1
      obtain ⟨c0, c1, c2, c3, c4, c5⟩ := HC.out wx hb.out
      simp only [ha, Batch.lay, List.foldl_cons, List.foldl_nil, Act.put, List.setIfInBounds_toArray, List.set_cons_zero, List.set_cons_succ]
      go_simp
      clear ha
      clear c0 c1 c2 c3 c4 c5 hb
      obtain ⟨hb, L0, L2, L4, T1, T2, T3, n12, n13, n23⟩ := hF.out
      refine' hK.out _ _ ⟨x0, x1, .agg #[.int .i16 qx, .int .u8 qy], x3, x4, x5, x6, x7, x8, z1, z2, z3, ?act2, Lib.hid ⟨hb, L0, fun _ => rfl, L4, T1.keep 2 (by decide) (by decide) (by decide) (fun _ _ _ h => h), T2.keep 2 (by decide) (by decide) (by decide) (fun _ _ _ h => h), T3.keep 2 (by decide) (by decide) (by decide) (fun _ _ _ h => h), n12, n13, n23⟩⟩
      case act2 => (simp only [Batch.lay, List.foldl_cons, List.foldl_nil, Act.put, List.setIfInBounds_toArray, List.set_cons_zero, List.set_cons_succ]; (try rfl))
    refine' Batch.StepsI.cons (i := 3) ?ho3 rfl ?st3 ?more3
    case ho3 => (simp only [List.getElem?_toArray, List.getElem?_cons_succ, List.getElem?_cons_zero]; rfl)
    case st3 =>
      intro D a wx K hD hp hI hK
      obtain ⟨x0, x1, x2, x3, x4, x5, x6, x7, x8, z1, z2, z3, ha, hF⟩ := hI.out
      have hb := Lib.hid hF.out.1
      obtain rfl := hF.out.2.2.1 (Batch.alls_has hp.out rfl)
      simp only [ha, Batch.lay, List.foldl_cons, List.foldl_nil, Act.put, List.setIfInBounds_toArray, List.set_cons_zero, List.set_cons_succ]
      go_simp
      clear ha
      go_at_call 61
      refine (HM2h.out _ (HSB.out _ hb.out)).mono ?_
      rintro e wy ⟨rfl, h⟩
      clear hb
      (try go_wp2_with fail)
      obtain ⟨hb, L0, L2, L4, T1, T2, T3, n12, n13, n23⟩ := hF.out
      refine' hK.out _ _ ⟨x0, x1, .agg #[.int .i16 qx, .int .u8 qy], ratV ba bb, x4, x5, x6, x7, x8, z1, z2, z3, ?act3, Lib.hid ⟨hb.trans (h.mono hb.size), L0, fun _ => rfl, L4, T1.keep 3 (by decide) (by decide) (by decide) (fun _ _ _ g => g.kept h), T2.call (by decide) (by decide) h, T3.keep 3 (by decide) (by decide) (by decide) (fun _ _ _ g => g.kept h), n12, n13, n23⟩⟩
      case act3 => (simp only [Batch.lay, List.foldl_cons, List.foldl_nil, Act.put, List.setIfInBounds_toArray, List.set_cons_zero, List.set_cons_succ]; (try rfl))
    refine' Batch.StepsI.cons (i := 4) ?ho4 rfl ?st4 ?more4
    case ho4 => (simp only [List.getElem?_toArray, List.getElem?_cons_succ, List.getElem?_cons_zero]; rfl)
    case st4 =>
      intro D a wx K hD hp hI hK
      obtain ⟨x0, x1, x2, x3, x4, x5, x6, x7, x8, z1, z2, z3, ha, hF⟩ := hI.out
      have hb := Lib.hid hF.out.1
      obtain ⟨c0, c1, c2, c3, c4, c5⟩ := HC.out wx hb.out
      simp only [ha, Batch.lay, List.foldl_cons, List.foldl_nil, Act.put, List.setIfInBounds_toArray, List.set_cons_zero, List.set_cons_succ]
      go_simp
      clear ha
      clear c0 c1 c2 c3 c4 c5 hb
      obtain ⟨hb, L0, L2, L4, T1, T2, T3, n12, n13, n23⟩ := hF.out
      refine' hK.out _ _ ⟨x0, x1, x2, x3, .agg #[.int .i16 rx, .int .u8 ry], x5, x6, x7, x8, z1, z2, z3, ?act4, Lib.hid ⟨hb, L0, L2, fun _ => rfl, T1.keep 4 (by decide) (by decide) (by decide) (fun _ _ _ h => h), T2.keep 4 (by decide) (by decide) (by decide) (fun _ _ _ h => h), T3.keep 4 (by decide) (by decide) (by decide) (fun _ _ _ h => h), n12, n13, n23⟩⟩
      case act4 => (simp only [Batch.lay, List.foldl_cons, List.foldl_nil, Act.put, List.setIfInBounds_toArray, List.set_cons_zero, List.set_cons_succ]; (try rfl))
    refine' Batch.StepsI.cons (i := 5) ?ho5 rfl ?st5 ?more5
    case ho5 => (simp only [List.getElem?_toArray, List.getElem?_cons_succ, List.getElem?_cons_zero]; rfl)
    case st5 =>
      intro D a wx K hD hp hI hK
      obtain ⟨x0, x1, x2, x3, x4, x5, x6, x7, x8, z1, z2, z3, ha, hF⟩ := hI.out
      have hb := Lib.hid hF.out.1
      obtain rfl := hF.out.2.2.2.1 (Batch.alls_has hp.out rfl)
      simp only [ha, Batch.lay, List.foldl_cons, List.foldl_nil, Act.put, List.setIfInBounds_toArray, List.set_cons_zero, List.set_cons_succ]
      go_simp
      clear ha
      go_at_call 61
      refine (HM3h.out _ (HSB.out _ hb.out)).mono ?_
      rintro e wy ⟨rfl, h⟩
      clear hb
      (try go_wp2_with fail)
      obtain ⟨hb, L0, L2, L4, T1, T2, T3, n12, n13, n23⟩ := hF.out
      refine' hK.out _ _ ⟨x0, x1, x2, x3, .agg #[.int .i16 rx, .int .u8 ry], ratV ca cb, x6, x7, x8, z1, z2, z3, ?act5, Lib.hid ⟨hb.trans (h.mono hb.size), L0, L2, fun _ => rfl, T1.keep 5 (by decide) (by decide) (by decide) (fun _ _ _ g => g.kept h), T2.keep 5 (by decide) (by decide) (by decide) (fun _ _ _ g => g.kept h), T3.call (by decide) (by decide) h, n12, n13, n23⟩⟩
      case act5 => (simp only [Batch.lay, List.foldl_cons, List.foldl_nil, Act.put, List.setIfInBounds_toArray, List.set_cons_zero, List.set_cons_succ]; (try rfl))
    refine' Batch.StepsI.cons (i := 6) ?ho6 rfl ?st6 ?more6
    case ho6 => (simp only [List.getElem?_toArray, List.getElem?_cons_succ, List.getElem?_cons_zero]; rfl)
    case st6 =>
      intro D a wx K hD hp hI hK
      obtain ⟨x0, x1, x2, x3, x4, x5, x6, x7, x8, z1, z2, z3, ha, hF⟩ := hI.out
      simp only [ha, Batch.lay, List.foldl_cons, List.foldl_nil, Act.put, List.setIfInBounds_toArray, List.set_cons_zero, List.set_cons_succ]
      go_simp
      clear ha
      obtain ⟨hb, L0, L2, L4, T1, T2, T3, n12, n13, n23⟩ := hF.out
      refine' hK.out _ _ ⟨x0, x1, x2, x3, x4, x5, .pointer (some ⟨wx.heap.size, 0, none⟩), x7, x8, wx.heap.size, z2, z3, ?act6, Lib.hid ⟨hb.alloc hb.size _, L0, L2, L4, T1.alloc hD (by decide) (by decide) hb.size, T2.keep 6 (by decide) (by decide) (by decide) (fun _ _ _ g => g.alloc _), T3.keep 6 (by decide) (by decide) (by decide) (fun _ _ _ g => g.alloc _), fun _ h => (by have e := (T2.lt h).2; omega), fun _ h => (by have e := (T3.lt h).2; omega), n23⟩⟩
      case act6 => (simp only [Batch.lay, List.foldl_cons, List.foldl_nil, Act.put, List.setIfInBounds_toArray, List.set_cons_zero, List.set_cons_succ]; (try rfl))
    refine' Batch.StepsI.cons (i := 7) ?ho7 rfl ?st7 ?more7
    case ho7 => (simp only [List.getElem?_toArray, List.getElem?_cons_succ, List.getElem?_cons_zero]; rfl)
    case st7 =>
      intro D a wx K hD hp hI hK
      obtain ⟨x0, x1, x2, x3, x4, x5, x6, x7, x8, z1, z2, z3, ha, hF⟩ := hI.out
      simp only [ha, Batch.lay, List.foldl_cons, List.foldl_nil, Act.put, List.setIfInBounds_toArray, List.set_cons_zero, List.set_cons_succ]
      go_simp
      clear ha
      obtain ⟨hb, L0, L2, L4, T1, T2, T3, n12, n13, n23⟩ := hF.out
      refine' hK.out _ _ ⟨x0, x1, x2, x3, x4, x5, x6, .pointer (some ⟨wx.heap.size, 0, none⟩), x8, z1, wx.heap.size, z3, ?act7, Lib.hid ⟨hb.alloc hb.size _, L0, L2, L4, T1.keep 7 (by decide) (by decide) (by decide) (fun _ _ _ g => g.alloc _), T2.alloc hD (by decide) (by decide) hb.size, T3.keep 7 (by decide) (by decide) (by decide) (fun _ _ _ g => g.alloc _), fun h _ => (by have e := (T1.lt h).2; omega), n13, fun _ h => (by have e := (T3.lt h).2; omega)⟩⟩
      case act7 => (simp only [Batch.lay, List.foldl_cons, List.foldl_nil, Act.put, List.setIfInBounds_toArray, List.set_cons_zero, List.set_cons_succ]; (try rfl))
    refine' Batch.StepsI.cons (i := 8) ?ho8 rfl ?st8 ?more8
    case ho8 => (simp only [List.getElem?_toArray, List.getElem?_cons_succ, List.getElem?_cons_zero]; rfl)
    case st8 =>
      intro D a wx K hD hp hI hK
      obtain ⟨x0, x1, x2, x3, x4, x5, x6, x7, x8, z1, z2, z3, ha, hF⟩ := hI.out
      simp only [ha, Batch.lay, List.foldl_cons, List.foldl_nil, Act.put, List.setIfInBounds_toArray, List.set_cons_zero, List.set_cons_succ]
      go_simp
      clear ha
      obtain ⟨hb, L0, L2, L4, T1, T2, T3, n12, n13, n23⟩ := hF.out
      refine' hK.out _ _ ⟨x0, x1, x2, x3, x4, x5, x6, x7, .pointer (some ⟨wx.heap.size, 0, none⟩), z1, z2, wx.heap.size, ?act8, Lib.hid ⟨hb.alloc hb.size _, L0, L2, L4, T1.keep 8 (by decide) (by decide) (by decide) (fun _ _ _ g => g.alloc _), T2.keep 8 (by decide) (by decide) (by decide) (fun _ _ _ g => g.alloc _), T3.alloc hD (by decide) (by decide) hb.size, n12, fun h _ => (by have e := (T1.lt h).2; omega), fun h _ => (by have e := (T2.lt h).2; omega)⟩⟩
      case act8 => (simp only [Batch.lay, List.foldl_cons, List.foldl_nil, Act.put, List.setIfInBounds_toArray, List.set_cons_zero, List.set_cons_succ]; (try rfl))
    refine' Batch.StepsI.cons (i := 9) ?ho9 rfl ?st9 ?more9
    case ho9 => (simp only [List.getElem?_toArray, List.getElem?_cons_succ, List.getElem?_cons_zero]; rfl)
    case st9 =>
      intro D a wx K hD hp hI hK
      obtain ⟨x0, x1, x2, x3, x4, x5, x6, x7, x8, z1, z2, z3, ha, hF⟩ := hI.out
      obtain rfl := hF.out.2.2.2.2.1.ptr (Batch.alls_has hp.out rfl)
      obtain rfl := hF.out.2.2.2.2.1.val (Batch.alls_has hp.out rfl)
      have HT := Lib.hid (hF.out.2.2.2.2.1.new (Batch.alls_has hp.out rfl) hD)
      obtain ⟨y0, y1, y2, y3, y4, y5, y6⟩ := HT.out.stores (.string aa) (.string ab)
      simp only [ha, Batch.lay, List.foldl_cons, List.foldl_nil, Act.put, List.setIfInBounds_toArray, List.set_cons_zero, List.set_cons_succ]
      go_simp
      clear ha
      clear y0 y1 y2 y3 y4 y5 y6
      obtain ⟨hb, L0, L2, L4, T1, T2, T3, n12, n13, n23⟩ := hF.out
      refine' hK.out _ _ ⟨x0, ratV aa ab, x2, x3, x4, x5, .pointer (some ⟨z1, 0, none⟩), x7, x8, z1, z2, z3, ?act9, Lib.hid ⟨(hb.setCell (p := ⟨z1, 0, none⟩) HT.out.lt.1 (.string aa)).setCell (p := ⟨z1, 1, none⟩) HT.out.lt.1 (.string ab), L0, L2, L4, T1.store (Batch.alls_has hp.out rfl) hD (by decide) (by decide), T2.keep 9 (by decide) (by decide) (by decide) (fun hx _ _ g => g.two ((n12 (Batch.alls_has hp.out rfl) hx).symm) _ _), T3.keep 9 (by decide) (by decide) (by decide) (fun hx _ _ g => g.two ((n13 (Batch.alls_has hp.out rfl) hx).symm) _ _), n12, n13, n23⟩⟩
      case act9 => (simp only [Batch.lay, List.foldl_cons, List.foldl_nil, Act.put, List.setIfInBounds_toArray, List.set_cons_zero, List.set_cons_succ]; (try rfl))
    refine' Batch.StepsI.cons (i := 10) ?ho10 rfl ?st10 ?more10
    case ho10 => (simp only [List.getElem?_toArray, List.getElem?_cons_succ, List.getElem?_cons_zero]; rfl)
    case st10 =>
      intro D a wx K hD hp hI hK
      obtain ⟨x0, x1, x2, x3, x4, x5, x6, x7, x8, z1, z2, z3, ha, hF⟩ := hI.out
      obtain rfl := hF.out.2.2.2.2.2.1.ptr (Batch.alls_has hp.out rfl)
      obtain rfl := hF.out.2.2.2.2.2.1.val (Batch.alls_has hp.out rfl)
      have HT := Lib.hid (hF.out.2.2.2.2.2.1.new (Batch.alls_has hp.out rfl) hD)
      obtain ⟨y0, y1, y2, y3, y4, y5, y6⟩ := HT.out.stores (.string ba) (.string bb)
      simp only [ha, Batch.lay, List.foldl_cons, List.foldl_nil, Act.put, List.setIfInBounds_toArray, List.set_cons_zero, List.set_cons_succ]
      go_simp
      clear ha
      clear y0 y1 y2 y3 y4 y5 y6
      obtain ⟨hb, L0, L2, L4, T1, T2, T3, n12, n13, n23⟩ := hF.out
      refine' hK.out _ _ ⟨x0, x1, x2, ratV ba bb, x4, x5, x6, .pointer (some ⟨z2, 0, none⟩), x8, z1, z2, z3, ?act10, Lib.hid ⟨(hb.setCell (p := ⟨z2, 0, none⟩) HT.out.lt.1 (.string ba)).setCell (p := ⟨z2, 1, none⟩) HT.out.lt.1 (.string bb), L0, L2, L4, T1.keep 10 (by decide) (by decide) (by decide) (fun hx _ _ g => g.two (n12 hx (Batch.alls_has hp.out rfl)) _ _), T2.store (Batch.alls_has hp.out rfl) hD (by decide) (by decide), T3.keep 10 (by decide) (by decide) (by decide) (fun hx _ _ g => g.two ((n23 (Batch.alls_has hp.out rfl) hx).symm) _ _), n12, n13, n23⟩⟩
      case act10 => (simp only [Batch.lay, List.foldl_cons, List.foldl_nil, Act.put, List.setIfInBounds_toArray, List.set_cons_zero, List.set_cons_succ]; (try rfl))
    refine' Batch.StepsI.cons (i := 11) ?ho11 rfl ?st11 ?more11
    case ho11 => (simp only [List.getElem?_toArray, List.getElem?_cons_succ, List.getElem?_cons_zero]; rfl)
    case st11 =>
      intro D a wx K hD hp hI hK
      obtain ⟨x0, x1, x2, x3, x4, x5, x6, x7, x8, z1, z2, z3, ha, hF⟩ := hI.out
      obtain rfl := hF.out.2.2.2.2.2.2.1.ptr (Batch.alls_has hp.out rfl)
      obtain rfl := hF.out.2.2.2.2.2.2.1.val (Batch.alls_has hp.out rfl)
      have HT := Lib.hid (hF.out.2.2.2.2.2.2.1.new (Batch.alls_has hp.out rfl) hD)
      obtain ⟨y0, y1, y2, y3, y4, y5, y6⟩ := HT.out.stores (.string ca) (.string cb)
      simp only [ha, Batch.lay, List.foldl_cons, List.foldl_nil, Act.put, List.setIfInBounds_toArray, List.set_cons_zero, List.set_cons_succ]
      go_simp
      clear ha
      clear y0 y1 y2 y3 y4 y5 y6
      obtain ⟨hb, L0, L2, L4, T1, T2, T3, n12, n13, n23⟩ := hF.out
      refine' hK.out _ _ ⟨x0, x1, x2, x3, x4, ratV ca cb, x6, x7, .pointer (some ⟨z3, 0, none⟩), z1, z2, z3, ?act11, Lib.hid ⟨(hb.setCell (p := ⟨z3, 0, none⟩) HT.out.lt.1 (.string ca)).setCell (p := ⟨z3, 1, none⟩) HT.out.lt.1 (.string cb), L0, L2, L4, T1.keep 11 (by decide) (by decide) (by decide) (fun hx _ _ g => g.two (n13 hx (Batch.alls_has hp.out rfl)) _ _), T2.keep 11 (by decide) (by decide) (by decide) (fun hx _ _ g => g.two (n23 hx (Batch.alls_has hp.out rfl)) _ _), T3.store (Batch.alls_has hp.out rfl) hD (by decide) (by decide), n12, n13, n23⟩⟩
      case act11 => (simp only [Batch.lay, List.foldl_cons, List.foldl_nil, Act.put, List.setIfInBounds_toArray, List.set_cons_zero, List.set_cons_succ]; (try rfl))
    exact Batch.StepsI.nil
  intro D a v1_1 hD hI
  obtain ⟨x0, x1, x2, x3, x4, x5, x6, x7, x8, z1, z2, z3, ha, hF⟩ := hI.out
  obtain rfl := hF.out.2.1 (hD _ (by decide))
  obtain rfl := hF.out.2.2.1 (hD _ (by decide))
  obtain rfl := hF.out.2.2.2.1 (hD _ (by decide))
  obtain rfl := hF.out.2.2.2.2.1.ptr (hD _ (by decide))
  obtain rfl := hF.out.2.2.2.2.1.val (hD _ (by decide))
  obtain rfl := hF.out.2.2.2.2.2.1.ptr (hD _ (by decide))
  obtain rfl := hF.out.2.2.2.2.2.1.val (hD _ (by decide))
  obtain rfl := hF.out.2.2.2.2.2.2.1.ptr (hD _ (by decide))
  obtain rfl := hF.out.2.2.2.2.2.2.1.val (hD _ (by decide))
  have B1 := Lib.hid (hF.out.2.2.2.2.1.full (hD _ (by decide)))
  have B2 := Lib.hid (hF.out.2.2.2.2.2.1.full (hD _ (by decide)))
  have B3 := Lib.hid (hF.out.2.2.2.2.2.2.1.full (hD _ (by decide)))
  have YA := Lib.hid hF.out.1
  simp only [ha, Batch.lay, List.foldl_cons, List.foldl_nil, Act.put, List.setIfInBounds_toArray, List.set_cons_zero, List.set_cons_succ]
  clear hF hI hD ha
  have HBV := Lib.hid (HBW.out.trans (YA.out.mono HBW.out.size))
  have HSV := Lib.hid (show ∀ wx, Below v1_1.heap.size v1_1 wx → Stf wx from fun wx hx => HSB.out wx (YA.out.trans (hx.mono YA.out.size)))
  have HCV := Lib.hid (show ∀ wx, Below v1_1.heap.size v1_1 wx → wx.cell? ⟨z1, 0, none⟩ = some (.string aa) ∧ wx.cell? ⟨z1, 1, none⟩ = some (.string ab) ∧ wx.cell? ⟨z2, 0, none⟩ = some (.string ba) ∧ wx.cell? ⟨z2, 1, none⟩ = some (.string bb) ∧ wx.cell? ⟨z3, 0, none⟩ = some (.string ca) ∧ wx.cell? ⟨z3, 1, none⟩ = some (.string cb) from fun wx hx => ⟨(B1.out.kept hx).c0, (B1.out.kept hx).c1, (B2.out.kept hx).c0, (B2.out.kept hx).c1, (B3.out.kept hx).c0, (B3.out.kept hx).c1⟩)
  clear HBW HSB HC YA D1_0 B1 B2 B3 Y1
  have HBW := HBV
  have HSB := HSV
  have HC := HCV
  clear HBV HSV HCV
  have Y2000 := Lib.hid (Below.refl v1_1.heap.size v1_1)
  go_upto_region 4 with fail
  have D2_0 := Lib.hid (show Below v1_1.heap.size v1_1 v1_1.drew from Y2000.out.trans ((Below.drew (Below.refl v1_1.heap.size v1_1)).mono Y2000.out.size))
  refine Batch.wp_region_det (S := fun W => Below v1_1.heap.size v1_1 W) (by kernel_rfl) D2_0.out ?_
  refine' Batch.det_take 0 (v := ?v1) ?hi1 (by kernel_rfl) (by kernel_rfl) (by kernel_rfl) (Batch.Does.val ?hw1 ?hv1) ?rest1
  case hi1 => (simp only [List.getElem?_toArray, List.getElem?_cons_zero]; rfl)
  case hw1 => rfl
  case hv1 => (intro wx hSw; obtain ⟨c0, c1, c2, c3, c4, c5⟩ := HC.out wx hSw; go_simp; (try with_reducible rfl))
  (try simp only [Act.put, List.setIfInBounds_toArray, List.set_cons_zero, List.set_cons_succ])
  refine' Batch.det_take 1 (v := ?v2) ?hi2 (by kernel_rfl) (by kernel_rfl) (by kernel_rfl) (Batch.Does.val ?hw2 ?hv2) ?rest2
  case hi2 => (simp only [List.getElem?_toArray, List.getElem?_cons_succ, List.getElem?_cons_zero]; rfl)
  case hw2 => rfl
  case hv2 => (intro wx hSw; obtain ⟨c0, c1, c2, c3, c4, c5⟩ := HC.out wx hSw; go_simp; (try with_reducible rfl))
  (try simp only [Act.put, List.setIfInBounds_toArray, List.set_cons_zero, List.set_cons_succ])
  refine' Batch.det_take 2 (v := ratV oa ob) ?hi3 (by kernel_rfl) (by kernel_rfl) (by kernel_rfl) (Batch.Does.call ?hw3 ?hv3 ?hc3) ?rest3
  case hi3 => (simp only [List.getElem?_toArray, List.getElem?_cons_succ, List.getElem?_cons_zero]; rfl)
  case hw3 => rfl
  case hv3 => (intro wx hSw; go_simp; (first | done | exact ⟨rfl, rfl⟩ | with_reducible rfl))
  case hc3 => (intro wx hSw; refine (A1h.out _ (HSB.out _ hSw)).mono ?_; rintro e wy ⟨rfl, h⟩; exact ⟨rfl, hSw.trans (h.mono hSw.size)⟩)
  (try simp only [Act.put, List.setIfInBounds_toArray, List.set_cons_zero, List.set_cons_succ])
  refine' Batch.det_take 3 (v := ?v4) ?hi4 (by kernel_rfl) (by kernel_rfl) (by kernel_rfl) (Batch.Does.val ?hw4 ?hv4) ?rest4
  case hi4 => (simp only [List.getElem?_toArray, List.getElem?_cons_succ, List.getElem?_cons_zero]; rfl)
  case hw4 => rfl
  case hv4 => (intro wx hSw; obtain ⟨c0, c1, c2, c3, c4, c5⟩ := HC.out wx hSw; go_simp; (try with_reducible rfl))
  (try simp only [Act.put, List.setIfInBounds_toArray, List.set_cons_zero, List.set_cons_succ])
  refine' Batch.det_take 4 (v := ratV sa sb) ?hi5 (by kernel_rfl) (by kernel_rfl) (by kernel_rfl) (Batch.Does.call ?hw5 ?hv5 ?hc5) ?rest5
  case hi5 => (simp only [List.getElem?_toArray, List.getElem?_cons_succ, List.getElem?_cons_zero]; rfl)
  case hw5 => rfl
  case hv5 => (intro wx hSw; go_simp; (first | done | exact ⟨rfl, rfl⟩ | with_reducible rfl))
  case hc5 => (intro wx hSw; refine (A2h.out _ (HSB.out _ hSw)).mono ?_; rintro e wy ⟨rfl, h⟩; exact ⟨rfl, hSw.trans (h.mono hSw.size)⟩)
  (try simp only [Act.put, List.setIfInBounds_toArray, List.set_cons_zero, List.set_cons_succ])
  refine' Batch.det_take 5 (v := ?v6) ?hi6 (by kernel_rfl) (by kernel_rfl) (by kernel_rfl) (Batch.Does.val ?hw6 ?hv6) ?rest6
  case hi6 => (simp only [List.getElem?_toArray, List.getElem?_cons_succ, List.getElem?_cons_zero]; rfl)
  case hw6 => rfl
  case hv6 => (intro wx hSw; obtain ⟨c0, c1, c2, c3, c4, c5⟩ := HC.out wx hSw; go_simp; (try with_reducible rfl))
  (try simp only [Act.put, List.setIfInBounds_toArray, List.set_cons_zero, List.set_cons_succ])
  refine' Batch.det_take 6 (v := ?v7) ?hi7 (by kernel_rfl) (by kernel_rfl) (by kernel_rfl) (Batch.Does.val ?hw7 ?hv7) ?rest7
  case hi7 => (simp only [List.getElem?_toArray, List.getElem?_cons_succ, List.getElem?_cons_zero]; rfl)
  case hw7 => rfl
  case hv7 => (intro wx hSw; obtain ⟨c0, c1, c2, c3, c4, c5⟩ := HC.out wx hSw; go_simp; (try with_reducible rfl))
  (try simp only [Act.put, List.setIfInBounds_toArray, List.set_cons_zero, List.set_cons_succ])
  refine' Batch.det_take 7 (v := ?v8) ?hi8 (by kernel_rfl) (by kernel_rfl) (by kernel_rfl) (Batch.Does.val ?hw8 ?hv8) ?rest8
  case hi8 => (simp only [List.getElem?_toArray, List.getElem?_cons_succ, List.getElem?_cons_zero]; rfl)
  case hw8 => rfl
  case hv8 => (intro wx hSw; obtain ⟨c0, c1, c2, c3, c4, c5⟩ := HC.out wx hSw; go_simp; (try with_reducible rfl))
  (try simp only [Act.put, List.setIfInBounds_toArray, List.set_cons_zero, List.set_cons_succ])
  refine' Batch.det_take 8 (v := ratV oa ob) ?hi9 (by kernel_rfl) (by kernel_rfl) (by kernel_rfl) (Batch.Does.call ?hw9 ?hv9 ?hc9) ?rest9
  case hi9 => (simp only [List.getElem?_toArray, List.getElem?_cons_succ, List.getElem?_cons_zero]; rfl)
  case hw9 => rfl
  case hv9 => (intro wx hSw; go_simp; (first | done | exact ⟨rfl, rfl⟩ | with_reducible rfl))
  case hc9 => (intro wx hSw; refine (A3h.out _ (HSB.out _ hSw)).mono ?_; rintro e wy ⟨rfl, h⟩; exact ⟨rfl, hSw.trans (h.mono hSw.size)⟩)
  (try simp only [Act.put, List.setIfInBounds_toArray, List.set_cons_zero, List.set_cons_succ])
  refine' Batch.det_take 9 (v := ratV sa sb) ?hi10 (by kernel_rfl) (by kernel_rfl) (by kernel_rfl) (Batch.Does.call ?hw10 ?hv10 ?hc10) ?rest10
  case hi10 => (simp only [List.getElem?_toArray, List.getElem?_cons_succ, List.getElem?_cons_zero]; rfl)
  case hw10 => rfl
  case hv10 => (intro wx hSw; go_simp; (first | done | exact ⟨rfl, rfl⟩ | with_reducible rfl))
  case hc10 => (intro wx hSw; refine (A4h.out _ (HSB.out _ hSw)).mono ?_; rintro e wy ⟨rfl, h⟩; exact ⟨rfl, hSw.trans (h.mono hSw.size)⟩)
  (try simp only [Act.put, List.setIfInBounds_toArray, List.set_cons_zero, List.set_cons_succ])
  refine' Batch.det_take 10 (v := ?v11) ?hi11 (by kernel_rfl) (by kernel_rfl) (by kernel_rfl) (Batch.Does.val ?hw11 ?hv11) ?rest11
  case hi11 => (simp only [List.getElem?_toArray, List.getElem?_cons_succ, List.getElem?_cons_zero]; rfl)
  case hw11 => rfl
  case hv11 => (intro wx hSw; go_simp; (try with_reducible rfl))
  (try simp only [Act.put, List.setIfInBounds_toArray, List.set_cons_zero, List.set_cons_succ])
  refine' Batch.det_take 11 (v := ?v12) ?hi12 (by kernel_rfl) (by kernel_rfl) (by kernel_rfl) (Batch.Does.val ?hw12 ?hv12) ?rest12
  case hi12 => (simp only [List.getElem?_toArray, List.getElem?_cons_succ, List.getElem?_cons_zero]; rfl)
  case hw12 => rfl
  case hv12 => (intro wx hSw; go_simp; (try with_reducible rfl))
  (try simp only [Act.put, List.setIfInBounds_toArray, List.set_cons_zero, List.set_cons_succ])
  refine' Batch.det_take 12 (v := ?v13) ?hi13 (by kernel_rfl) (by kernel_rfl) (by kernel_rfl) (Batch.Does.val ?hw13 ?hv13) ?rest13
  case hi13 => (simp only [List.getElem?_toArray, List.getElem?_cons_succ, List.getElem?_cons_zero]; rfl)
  case hw13 => rfl
  case hv13 => (intro wx hSw; obtain ⟨c0, c1, c2, c3, c4, c5⟩ := HC.out wx hSw; go_simp; (try with_reducible rfl))
  (try simp only [Act.put, List.setIfInBounds_toArray, List.set_cons_zero, List.set_cons_succ])
  refine' Batch.det_take 13 (v := ?v14) ?hi14 (by kernel_rfl) (by kernel_rfl) (by kernel_rfl) (Batch.Does.val ?hw14 ?hv14) ?rest14
  case hi14 => (simp only [List.getElem?_toArray, List.getElem?_cons_succ, List.getElem?_cons_zero]; rfl)
  case hw14 => rfl
  case hv14 => (intro wx hSw; obtain ⟨c0, c1, c2, c3, c4, c5⟩ := HC.out wx hSw; go_simp; (try with_reducible rfl))
  (try simp only [Act.put, List.setIfInBounds_toArray, List.set_cons_zero, List.set_cons_succ])
  refine' Batch.det_take 14 (v := ratV ma mb) ?hi15 (by kernel_rfl) (by kernel_rfl) (by kernel_rfl) (Batch.Does.call ?hw15 ?hv15 ?hc15) ?rest15
  case hi15 => (simp only [List.getElem?_toArray, List.getElem?_cons_succ, List.getElem?_cons_zero]; rfl)
  case hw15 => rfl
  case hv15 => (intro wx hSw; go_simp; (first | done | exact ⟨rfl, rfl⟩ | with_reducible rfl))
  case hc15 => (intro wx hSw; refine (M1h.out _ (HSB.out _ hSw)).mono ?_; rintro e wy ⟨rfl, h⟩; exact ⟨rfl, hSw.trans (h.mono hSw.size)⟩)
  (try simp only [Act.put, List.setIfInBounds_toArray, List.set_cons_zero, List.set_cons_succ])
  refine' Batch.det_take 15 (v := ?v16) ?hi16 (by kernel_rfl) (by kernel_rfl) (by kernel_rfl) (Batch.Does.val ?hw16 ?hv16) ?rest16
  case hi16 => (simp only [List.getElem?_toArray, List.getElem?_cons_succ, List.getElem?_cons_zero]; rfl)
  case hw16 => rfl
  case hv16 => (intro wx hSw; obtain ⟨c0, c1, c2, c3, c4, c5⟩ := HC.out wx hSw; go_simp; (try with_reducible rfl))
  (try simp only [Act.put, List.setIfInBounds_toArray, List.set_cons_zero, List.set_cons_succ])
  refine' Batch.det_take 16 (v := ratV ta tb) ?hi17 (by kernel_rfl) (by kernel_rfl) (by kernel_rfl) (Batch.Does.call ?hw17 ?hv17 ?hc17) ?rest17
  case hi17 => (simp only [List.getElem?_toArray, List.getElem?_cons_succ, List.getElem?_cons_zero]; rfl)
  case hw17 => rfl
  case hv17 => (intro wx hSw; go_simp; (first | done | exact ⟨rfl, rfl⟩ | with_reducible rfl))
  case hc17 => (intro wx hSw; refine (M2h.out _ (HSB.out _ hSw)).mono ?_; rintro e wy ⟨rfl, h⟩; exact ⟨rfl, hSw.trans (h.mono hSw.size)⟩)
  (try simp only [Act.put, List.setIfInBounds_toArray, List.set_cons_zero, List.set_cons_succ])
  refine' Batch.det_take 17 (v := ?v18) ?hi18 (by kernel_rfl) (by kernel_rfl) (by kernel_rfl) (Batch.Does.val ?hw18 ?hv18) ?rest18
  case hi18 => (simp only [List.getElem?_toArray, List.getElem?_cons_succ, List.getElem?_cons_zero]; rfl)
  case hw18 => rfl
  case hv18 => (intro wx hSw; obtain ⟨c0, c1, c2, c3, c4, c5⟩ := HC.out wx hSw; go_simp; (try with_reducible rfl))
  (try simp only [Act.put, List.setIfInBounds_toArray, List.set_cons_zero, List.set_cons_succ])
  refine' Batch.det_take 18 (v := ?v19) ?hi19 (by kernel_rfl) (by kernel_rfl) (by kernel_rfl) (Batch.Does.val ?hw19 ?hv19) ?rest19
  case hi19 => (simp only [List.getElem?_toArray, List.getElem?_cons_succ, List.getElem?_cons_zero]; rfl)
  case hw19 => rfl
  case hv19 => (intro wx hSw; obtain ⟨c0, c1, c2, c3, c4, c5⟩ := HC.out wx hSw; go_simp; (try with_reducible rfl))
  (try simp only [Act.put, List.setIfInBounds_toArray, List.set_cons_zero, List.set_cons_succ])
  refine' Batch.det_take 19 (v := ratV ha hb) ?hi20 (by kernel_rfl) (by kernel_rfl) (by kernel_rfl) (Batch.Does.call ?hw20 ?hv20 ?hc20) ?rest20
  case hi20 => (simp only [List.getElem?_toArray, List.getElem?_cons_succ, List.getElem?_cons_zero]; rfl)
  case hw20 => rfl
  case hv20 => (intro wx hSw; go_simp; (first | done | exact ⟨rfl, rfl⟩ | with_reducible rfl))
  case hc20 => (intro wx hSw; refine (M3h.out _ (HSB.out _ hSw)).mono ?_; rintro e wy ⟨rfl, h⟩; exact ⟨rfl, hSw.trans (h.mono hSw.size)⟩)
  (try simp only [Act.put, List.setIfInBounds_toArray, List.set_cons_zero, List.set_cons_succ])
  refine' Batch.det_take 20 (v := ?v21) ?hi21 (by kernel_rfl) (by kernel_rfl) (by kernel_rfl) (Batch.Does.val ?hw21 ?hv21) ?rest21
  case hi21 => (simp only [List.getElem?_toArray, List.getElem?_cons_succ, List.getElem?_cons_zero]; rfl)
  case hw21 => rfl
  case hv21 => (intro wx hSw; obtain ⟨c0, c1, c2, c3, c4, c5⟩ := HC.out wx hSw; go_simp; (try with_reducible rfl))
  (try simp only [Act.put, List.setIfInBounds_toArray, List.set_cons_zero, List.set_cons_succ])
  refine' Batch.det_take 21 (v := ratV ta tb) ?hi22 (by kernel_rfl) (by kernel_rfl) (by kernel_rfl) (Batch.Does.call ?hw22 ?hv22 ?hc22) ?rest22
  case hi22 => (simp only [List.getElem?_toArray, List.getElem?_cons_succ, List.getElem?_cons_zero]; rfl)
  case hw22 => rfl
  case hv22 => (intro wx hSw; go_simp; (first | done | exact ⟨rfl, rfl⟩ | with_reducible rfl))
  case hc22 => (intro wx hSw; refine (M4h.out _ (HSB.out _ hSw)).mono ?_; rintro e wy ⟨rfl, h⟩; exact ⟨rfl, hSw.trans (h.mono hSw.size)⟩)
  (try simp only [Act.put, List.setIfInBounds_toArray, List.set_cons_zero, List.set_cons_succ])
  refine' Batch.det_take 22 (v := ?v23) ?hi23 (by kernel_rfl) (by kernel_rfl) (by kernel_rfl) (Batch.Does.val ?hw23 ?hv23) ?rest23
  case hi23 => (simp only [List.getElem?_toArray, List.getElem?_cons_succ, List.getElem?_cons_zero]; rfl)
  case hw23 => rfl
  case hv23 => (intro wx hSw; go_simp; (try with_reducible rfl))
  (try simp only [Act.put, List.setIfInBounds_toArray, List.set_cons_zero, List.set_cons_succ])
  refine' Batch.det_take 23 (v := ?v24) ?hi24 (by kernel_rfl) (by kernel_rfl) (by kernel_rfl) (Batch.Does.val ?hw24 ?hv24) ?rest24
  case hi24 => (simp only [List.getElem?_toArray, List.getElem?_cons_succ, List.getElem?_cons_zero]; rfl)
  case hw24 => rfl
  case hv24 => (intro wx hSw; go_simp; (try with_reducible rfl))
  (try simp only [Act.put, List.setIfInBounds_toArray, List.set_cons_zero, List.set_cons_succ])
  refine Batch.det_done (by kernel_rfl) (fun v2_1 hS => ?_) _
  have D2_1 := Lib.hid hS
  clear hS D2_0
  go_upto_region 6 with fail
  have D3_0 := Lib.hid (show Below v1_1.heap.size v1_1 v2_1.drew from D2_1.out.trans ((Below.drew (Below.refl v2_1.heap.size v2_1)).mono D2_1.out.size))
  refine Batch.wp_region_det (S := fun W => Below v1_1.heap.size v1_1 W) (by kernel_rfl) D3_0.out ?_
  refine' Batch.det_take 0 (v := ?v25) ?hi25 (by kernel_rfl) (by kernel_rfl) (by kernel_rfl) (Batch.Does.val ?hw25 ?hv25) ?rest25
  case hi25 => (simp only [List.getElem?_toArray, List.getElem?_cons_zero]; rfl)
  case hw25 => rfl
  case hv25 => (intro wx hSw; obtain ⟨c0, c1, c2, c3, c4, c5⟩ := HC.out wx hSw; go_simp; (try with_reducible rfl))
  (try simp only [Act.put, List.setIfInBounds_toArray, List.set_cons_zero, List.set_cons_succ])
  refine' Batch.det_take 1 (v := ?v26) ?hi26 (by kernel_rfl) (by kernel_rfl) (by kernel_rfl) (Batch.Does.val ?hw26 ?hv26) ?rest26
  case hi26 => (simp only [List.getElem?_toArray, List.getElem?_cons_succ, List.getElem?_cons_zero]; rfl)
  case hw26 => rfl
  case hv26 => (intro wx hSw; obtain ⟨c0, c1, c2, c3, c4, c5⟩ := HC.out wx hSw; go_simp; (try with_reducible rfl))
  (try simp only [Act.put, List.setIfInBounds_toArray, List.set_cons_zero, List.set_cons_succ])
  refine' Batch.det_take 2 (v := ?v27) ?hi27 (by kernel_rfl) (by kernel_rfl) (by kernel_rfl) (Batch.Does.val ?hw27 ?hv27) ?rest27
  case hi27 => (simp only [List.getElem?_toArray, List.getElem?_cons_succ, List.getElem?_cons_zero]; rfl)
  case hw27 => rfl
  case hv27 => (intro wx hSw; obtain ⟨c0, c1, c2, c3, c4, c5⟩ := HC.out wx hSw; go_simp; (try with_reducible rfl))
  (try simp only [Act.put, List.setIfInBounds_toArray, List.set_cons_zero, List.set_cons_succ])
  refine' Batch.det_take 3 (v := ratV la lb) ?hi28 (by kernel_rfl) (by kernel_rfl) (by kernel_rfl) (Batch.Does.call ?hw28 ?hv28 ?hc28) ?rest28
  case hi28 => (simp only [List.getElem?_toArray, List.getElem?_cons_succ, List.getElem?_cons_zero]; rfl)
  case hw28 => rfl
  case hv28 => (intro wx hSw; go_simp; (first | done | exact ⟨rfl, rfl⟩ | with_reducible rfl))
  case hc28 => (intro wx hSw; refine (A5h.out _ (HSB.out _ hSw)).mono ?_; rintro e wy ⟨rfl, h⟩; exact ⟨rfl, hSw.trans (h.mono hSw.size)⟩)
  (try simp only [Act.put, List.setIfInBounds_toArray, List.set_cons_zero, List.set_cons_succ])
  refine' Batch.det_take 4 (v := ratV da db) ?hi29 (by kernel_rfl) (by kernel_rfl) (by kernel_rfl) (Batch.Does.call ?hw29 ?hv29 ?hc29) ?rest29
  case hi29 => (simp only [List.getElem?_toArray, List.getElem?_cons_succ, List.getElem?_cons_zero]; rfl)
  case hw29 => rfl
  case hv29 => (intro wx hSw; go_simp; (first | done | exact ⟨rfl, rfl⟩ | with_reducible rfl))
  case hc29 => (intro wx hSw; refine (M5h.out _ (HSB.out _ hSw)).mono ?_; rintro e wy ⟨rfl, h⟩; exact ⟨rfl, hSw.trans (h.mono hSw.size)⟩)
  (try simp only [Act.put, List.setIfInBounds_toArray, List.set_cons_zero, List.set_cons_succ])
  refine' Batch.det_take 5 (v := ?v30) ?hi30 (by kernel_rfl) (by kernel_rfl) (by kernel_rfl) (Batch.Does.val ?hw30 ?hv30) ?rest30
  case hi30 => (simp only [List.getElem?_toArray, List.getElem?_cons_succ, List.getElem?_cons_zero]; rfl)
  case hw30 => rfl
  case hv30 => (intro wx hSw; obtain ⟨c0, c1, c2, c3, c4, c5⟩ := HC.out wx hSw; go_simp; (try with_reducible rfl))
  (try simp only [Act.put, List.setIfInBounds_toArray, List.set_cons_zero, List.set_cons_succ])
  refine' Batch.det_take 6 (v := ?v31) ?hi31 (by kernel_rfl) (by kernel_rfl) (by kernel_rfl) (Batch.Does.val ?hw31 ?hv31) ?rest31
  case hi31 => (simp only [List.getElem?_toArray, List.getElem?_cons_succ, List.getElem?_cons_zero]; rfl)
  case hw31 => rfl
  case hv31 => (intro wx hSw; obtain ⟨c0, c1, c2, c3, c4, c5⟩ := HC.out wx hSw; go_simp; (try with_reducible rfl))
  (try simp only [Act.put, List.setIfInBounds_toArray, List.set_cons_zero, List.set_cons_succ])
  refine' Batch.det_take 7 (v := ratV ma mb) ?hi32 (by kernel_rfl) (by kernel_rfl) (by kernel_rfl) (Batch.Does.call ?hw32 ?hv32 ?hc32) ?rest32
  case hi32 => (simp only [List.getElem?_toArray, List.getElem?_cons_succ, List.getElem?_cons_zero]; rfl)
  case hw32 => rfl
  case hv32 => (intro wx hSw; go_simp; (first | done | exact ⟨rfl, rfl⟩ | with_reducible rfl))
  case hc32 => (intro wx hSw; refine (M1h.out _ (HSB.out _ hSw)).mono ?_; rintro e wy ⟨rfl, h⟩; exact ⟨rfl, hSw.trans (h.mono hSw.size)⟩)
  (try simp only [Act.put, List.setIfInBounds_toArray, List.set_cons_zero, List.set_cons_succ])
  refine' Batch.det_take 8 (v := ?v33) ?hi33 (by kernel_rfl) (by kernel_rfl) (by kernel_rfl) (Batch.Does.val ?hw33 ?hv33) ?rest33
  case hi33 => (simp only [List.getElem?_toArray, List.getElem?_cons_succ, List.getElem?_cons_zero]; rfl)
  case hw33 => rfl
  case hv33 => (intro wx hSw; obtain ⟨c0, c1, c2, c3, c4, c5⟩ := HC.out wx hSw; go_simp; (try with_reducible rfl))
  (try simp only [Act.put, List.setIfInBounds_toArray, List.set_cons_zero, List.set_cons_succ])
  refine' Batch.det_take 9 (v := ?v34) ?hi34 (by kernel_rfl) (by kernel_rfl) (by kernel_rfl) (Batch.Does.val ?hw34 ?hv34) ?rest34
  case hi34 => (simp only [List.getElem?_toArray, List.getElem?_cons_succ, List.getElem?_cons_zero]; rfl)
  case hw34 => rfl
  case hv34 => (intro wx hSw; obtain ⟨c0, c1, c2, c3, c4, c5⟩ := HC.out wx hSw; go_simp; (try with_reducible rfl))
  (try simp only [Act.put, List.setIfInBounds_toArray, List.set_cons_zero, List.set_cons_succ])
  refine' Batch.det_take 10 (v := ratV na nb) ?hi35 (by kernel_rfl) (by kernel_rfl) (by kernel_rfl) (Batch.Does.call ?hw35 ?hv35 ?hc35) ?rest35
  case hi35 => (simp only [List.getElem?_toArray, List.getElem?_cons_succ, List.getElem?_cons_zero]; rfl)
  case hw35 => rfl
  case hv35 => (intro wx hSw; go_simp; (first | done | exact ⟨rfl, rfl⟩ | with_reducible rfl))
  case hc35 => (intro wx hSw; refine (M6h.out _ (HSB.out _ hSw)).mono ?_; rintro e wy ⟨rfl, h⟩; exact ⟨rfl, hSw.trans (h.mono hSw.size)⟩)
  (try simp only [Act.put, List.setIfInBounds_toArray, List.set_cons_zero, List.set_cons_succ])
  refine' Batch.det_take 11 (v := ratV da db) ?hi36 (by kernel_rfl) (by kernel_rfl) (by kernel_rfl) (Batch.Does.call ?hw36 ?hv36 ?hc36) ?rest36
  case hi36 => (simp only [List.getElem?_toArray, List.getElem?_cons_succ, List.getElem?_cons_zero]; rfl)
  case hw36 => rfl
  case hv36 => (intro wx hSw; go_simp; (first | done | exact ⟨rfl, rfl⟩ | with_reducible rfl))
  case hc36 => (intro wx hSw; refine (A6h.out _ (HSB.out _ hSw)).mono ?_; rintro e wy ⟨rfl, h⟩; exact ⟨rfl, hSw.trans (h.mono hSw.size)⟩)
  (try simp only [Act.put, List.setIfInBounds_toArray, List.set_cons_zero, List.set_cons_succ])
  refine' Batch.det_take 12 (v := ?v37) ?hi37 (by kernel_rfl) (by kernel_rfl) (by kernel_rfl) (Batch.Does.val ?hw37 ?hv37) ?rest37
  case hi37 => (simp only [List.getElem?_toArray, List.getElem?_cons_succ, List.getElem?_cons_zero]; rfl)
  case hw37 => rfl
  case hv37 => (intro wx hSw; go_simp; (try with_reducible rfl))
  (try simp only [Act.put, List.setIfInBounds_toArray, List.set_cons_zero, List.set_cons_succ])
  refine' Batch.det_take 13 (v := ?v38) ?hi38 (by kernel_rfl) (by kernel_rfl) (by kernel_rfl) (Batch.Does.val ?hw38 ?hv38) ?rest38
  case hi38 => (simp only [List.getElem?_toArray, List.getElem?_cons_succ, List.getElem?_cons_zero]; rfl)
  case hw38 => rfl
  case hv38 => (intro wx hSw; go_simp; (try with_reducible rfl))
  (try simp only [Act.put, List.setIfInBounds_toArray, List.set_cons_zero, List.set_cons_succ])
  refine' Batch.det_take 14 (v := ?v39) ?hi39 (by kernel_rfl) (by kernel_rfl) (by kernel_rfl) (Batch.Does.val ?hw39 ?hv39) ?rest39
  case hi39 => (simp only [List.getElem?_toArray, List.getElem?_cons_succ, List.getElem?_cons_zero]; rfl)
  case hw39 => rfl
  case hv39 => (intro wx hSw; obtain ⟨c0, c1, c2, c3, c4, c5⟩ := HC.out wx hSw; go_simp; (try with_reducible rfl))
  (try simp only [Act.put, List.setIfInBounds_toArray, List.set_cons_zero, List.set_cons_succ])
  refine' Batch.det_take 15 (v := ?v40) ?hi40 (by kernel_rfl) (by kernel_rfl) (by kernel_rfl) (Batch.Does.val ?hw40 ?hv40) ?rest40
  case hi40 => (simp only [List.getElem?_toArray, List.getElem?_cons_succ, List.getElem?_cons_zero]; rfl)
  case hw40 => rfl
  case hv40 => (intro wx hSw; obtain ⟨c0, c1, c2, c3, c4, c5⟩ := HC.out wx hSw; go_simp; (try with_reducible rfl))
  (try simp only [Act.put, List.setIfInBounds_toArray, List.set_cons_zero, List.set_cons_succ])
  refine' Batch.det_take 16 (v := ratV ua ub) ?hi41 (by kernel_rfl) (by kernel_rfl) (by kernel_rfl) (Batch.Does.call ?hw41 ?hv41 ?hc41) ?rest41
  case hi41 => (simp only [List.getElem?_toArray, List.getElem?_cons_succ, List.getElem?_cons_zero]; rfl)
  case hw41 => rfl
  case hv41 => (intro wx hSw; go_simp; (first | done | exact ⟨rfl, rfl⟩ | with_reducible rfl))
  case hc41 => (intro wx hSw; refine (S1h.out _ (HSB.out _ hSw)).mono ?_; rintro e wy ⟨rfl, h⟩; exact ⟨rfl, hSw.trans (h.mono hSw.size)⟩)
  (try simp only [Act.put, List.setIfInBounds_toArray, List.set_cons_zero, List.set_cons_succ])
  refine' Batch.det_take 17 (v := ?v42) ?hi42 (by kernel_rfl) (by kernel_rfl) (by kernel_rfl) (Batch.Does.val ?hw42 ?hv42) ?rest42
  case hi42 => (simp only [List.getElem?_toArray, List.getElem?_cons_succ, List.getElem?_cons_zero]; rfl)
  case hw42 => rfl
  case hv42 => (intro wx hSw; obtain ⟨c0, c1, c2, c3, c4, c5⟩ := HC.out wx hSw; go_simp; (try with_reducible rfl))
  (try simp only [Act.put, List.setIfInBounds_toArray, List.set_cons_zero, List.set_cons_succ])
  refine' Batch.det_take 18 (v := ratV aa ab) ?hi43 (by kernel_rfl) (by kernel_rfl) (by kernel_rfl) (Batch.Does.call ?hw43 ?hv43 ?hc43) ?rest43
  case hi43 => (simp only [List.getElem?_toArray, List.getElem?_cons_succ, List.getElem?_cons_zero]; rfl)
  case hw43 => rfl
  case hv43 => (intro wx hSw; go_simp; (first | done | exact ⟨rfl, rfl⟩ | with_reducible rfl))
  case hc43 => (intro wx hSw; refine (A7h.out _ (HSB.out _ hSw)).mono ?_; rintro e wy ⟨rfl, h⟩; exact ⟨rfl, hSw.trans (h.mono hSw.size)⟩)
  (try simp only [Act.put, List.setIfInBounds_toArray, List.set_cons_zero, List.set_cons_succ])
  refine' Batch.det_take 19 (v := ?v44) ?hi44 (by kernel_rfl) (by kernel_rfl) (by kernel_rfl) (Batch.Does.val ?hw44 ?hv44) ?rest44
  case hi44 => (simp only [List.getElem?_toArray, List.getElem?_cons_succ, List.getElem?_cons_zero]; rfl)
  case hw44 => rfl
  case hv44 => (intro wx hSw; obtain ⟨c0, c1, c2, c3, c4, c5⟩ := HC.out wx hSw; go_simp; (try with_reducible rfl))
  (try simp only [Act.put, List.setIfInBounds_toArray, List.set_cons_zero, List.set_cons_succ])
  refine' Batch.det_take 20 (v := ?v45) ?hi45 (by kernel_rfl) (by kernel_rfl) (by kernel_rfl) (Batch.Does.val ?hw45 ?hv45) ?rest45
  case hi45 => (simp only [List.getElem?_toArray, List.getElem?_cons_succ, List.getElem?_cons_zero]; rfl)
  case hw45 => rfl
  case hv45 => (intro wx hSw; go_simp; (try with_reducible rfl))
  (try simp only [Act.put, List.setIfInBounds_toArray, List.set_cons_zero, List.set_cons_succ])
  refine' Batch.det_take 21 (v := ?v46) ?hi46 (by kernel_rfl) (by kernel_rfl) (by kernel_rfl) (Batch.Does.val ?hw46 ?hv46) ?rest46
  case hi46 => (simp only [List.getElem?_toArray, List.getElem?_cons_succ, List.getElem?_cons_zero]; rfl)
  case hw46 => rfl
  case hv46 => (intro wx hSw; go_simp; (try with_reducible rfl))
  (try simp only [Act.put, List.setIfInBounds_toArray, List.set_cons_zero, List.set_cons_succ])
  refine Batch.det_done (by kernel_rfl) (fun v3_1 hS => ?_) _
  have D3_1 := Lib.hid hS
  clear hS D3_0
  obtain ⟨c0, c1, c2, c3, c4, c5⟩ := HC.out _ D3_1.out
  go_wp2_with fail
  refine (DVh.out _ (HSB.out _ D3_1.out)).mono ?_
  rintro e w2 ⟨rfl, b⟩
  have Y2 := Lib.hid (D3_1.out.trans (b.mono D3_1.out.size))
  clear b
  clear c0 c1 c2 c3 c4 c5
  obtain ⟨c0, c1, c2, c3, c4, c5⟩ := HC.out _ Y2.out
  go_upto_region 9 with fail
  have HN := Lib.hid (BxR.new w2 xa xb)
  have YA := Lib.hid (Y2.out.alloc Y2.out.size (ratO xa xb))
  obtain ⟨g2, hg⟩ : ∃ g, g = w2.heap.size := ⟨_, rfl⟩
  obtain ⟨V2, hV⟩ : ∃ V, V = w2.alloc (ratO xa xb) := ⟨_, rfl⟩
  rw [← hg, ← hV] at HN
  rw [← hV] at YA ⊢
  try rw [← hg]
  clear hg hV
  clear c0 c1 c2 c3 c4 c5
  have HBV := Lib.hid (HBW.out.trans (YA.out.mono HBW.out.size))
  have HSV := Lib.hid (show ∀ wx, Below V2.heap.size V2 wx → Stf wx from fun wx hx => HSB.out wx (YA.out.trans (hx.mono YA.out.size)))
  have HCV := Lib.hid (show ∀ wx, Below V2.heap.size V2 wx → wx.cell? ⟨z1, 0, none⟩ = some (.string aa) ∧ wx.cell? ⟨z1, 1, none⟩ = some (.string ab) ∧ wx.cell? ⟨z2, 0, none⟩ = some (.string ba) ∧ wx.cell? ⟨z2, 1, none⟩ = some (.string bb) ∧ wx.cell? ⟨z3, 0, none⟩ = some (.string ca) ∧ wx.cell? ⟨z3, 1, none⟩ = some (.string cb) ∧ wx.cell? ⟨g2, 0, none⟩ = some (.string xa) ∧ wx.cell? ⟨g2, 1, none⟩ = some (.string xb) from fun wx hx => by
    obtain ⟨c0, c1, c2, c3, c4, c5⟩ := HC.out wx (YA.out.trans (hx.mono YA.out.size))
    exact ⟨c0, c1, c2, c3, c4, c5, (HN.out.below hx).num, (HN.out.below hx).den⟩)
  clear HBW HSB HC HN YA Y2
  have HBW := HBV
  have HSB := HSV
  have HC := HCV
  clear HBV HSV HCV
  have Y1002 := Lib.hid (Below.refl V2.heap.size V2)
  obtain ⟨c0, c1, c2, c3, c4, c5, c6, c7⟩ := HC.out _ Y1002.out
  rcases R9h.out with ⟨he, HX⟩ | ⟨he, HX⟩
  · clear R9h
    subst he
    have M7h := Lib.hid HX
    clear HX
    go_upto_region 9 with fail
    have D4_0 := Lib.hid (show Below V2.heap.size V2 V2.drew from Y1002.out.trans ((Below.drew (Below.refl V2.heap.size V2)).mono Y1002.out.size))
    clear c0 c1 c2 c3 c4 c5 c6 c7
    refine Batch.wp_region_det (S := fun W => Below V2.heap.size V2 W) (by kernel_rfl) D4_0.out ?_
    refine' Batch.det_take 0 (v := ?v47) ?hi47 (by kernel_rfl) (by kernel_rfl) (by kernel_rfl) (Batch.Does.val ?hw47 ?hv47) ?rest47
    case hi47 => (simp only [List.getElem?_toArray, List.getElem?_cons_zero]; rfl)
    case hw47 => rfl
    case hv47 => (intro wx hSw; go_simp; (try with_reducible rfl))
    (try simp only [Act.put, List.setIfInBounds_toArray, List.set_cons_zero, List.set_cons_succ])
    refine' Batch.det_take 1 (v := ?v48) ?hi48 (by kernel_rfl) (by kernel_rfl) (by kernel_rfl) (Batch.Does.val ?hw48 ?hv48) ?rest48
    case hi48 => (simp only [List.getElem?_toArray, List.getElem?_cons_succ, List.getElem?_cons_zero]; rfl)
    case hw48 => rfl
    case hv48 => (intro wx hSw; go_simp; (try with_reducible rfl))
    (try simp only [Act.put, List.setIfInBounds_toArray, List.set_cons_zero, List.set_cons_succ])
    refine' Batch.det_take 2 (v := ?v49) ?hi49 (by kernel_rfl) (by kernel_rfl) (by kernel_rfl) (Batch.Does.val ?hw49 ?hv49) ?rest49
    case hi49 => (simp only [List.getElem?_toArray, List.getElem?_cons_succ, List.getElem?_cons_zero]; rfl)
    case hw49 => rfl
    case hv49 => (intro wx hSw; go_simp; (try with_reducible rfl))
    (try simp only [Act.put, List.setIfInBounds_toArray, List.set_cons_zero, List.set_cons_succ])
    refine' Batch.det_take 3 (v := ?v50) ?hi50 (by kernel_rfl) (by kernel_rfl) (by kernel_rfl) (Batch.Does.val ?hw50 ?hv50) ?rest50
    case hi50 => (simp only [List.getElem?_toArray, List.getElem?_cons_succ, List.getElem?_cons_zero]; rfl)
    case hw50 => rfl
    case hv50 => (intro wx hSw; obtain ⟨c0, c1, c2, c3, c4, c5, c6, c7⟩ := HC.out wx hSw; go_simp; (try with_reducible rfl))
    (try simp only [Act.put, List.setIfInBounds_toArray, List.set_cons_zero, List.set_cons_succ])
    refine' Batch.det_take 4 (v := ?v51) ?hi51 (by kernel_rfl) (by kernel_rfl) (by kernel_rfl) (Batch.Does.val ?hw51 ?hv51) ?rest51
    case hi51 => (simp only [List.getElem?_toArray, List.getElem?_cons_succ, List.getElem?_cons_zero]; rfl)
    case hw51 => rfl
    case hv51 => (intro wx hSw; obtain ⟨c0, c1, c2, c3, c4, c5, c6, c7⟩ := HC.out wx hSw; go_simp; (try with_reducible rfl))
    (try simp only [Act.put, List.setIfInBounds_toArray, List.set_cons_zero, List.set_cons_succ])
    refine' Batch.det_take 5 (v := ratV aa ab) ?hi52 (by kernel_rfl) (by kernel_rfl) (by kernel_rfl) (Batch.Does.call ?hw52 ?hv52 ?hc52) ?rest52
    case hi52 => (simp only [List.getElem?_toArray, List.getElem?_cons_succ, List.getElem?_cons_zero]; rfl)
    case hw52 => rfl
    case hv52 => (intro wx hSw; go_simp; (first | done | exact ⟨rfl, rfl⟩ | with_reducible rfl))
    case hc52 => (intro wx hSw; refine (M7h.out _ (HSB.out _ hSw)).mono ?_; rintro e wy ⟨rfl, h⟩; exact ⟨rfl, hSw.trans (h.mono hSw.size)⟩)
    (try simp only [Act.put, List.setIfInBounds_toArray, List.set_cons_zero, List.set_cons_succ])
    refine' Batch.det_take 6 (v := ?v53) ?hi53 (by kernel_rfl) (by kernel_rfl) (by kernel_rfl) (Batch.Does.val ?hw53 ?hv53) ?rest53
    case hi53 => (simp only [List.getElem?_toArray, List.getElem?_cons_succ, List.getElem?_cons_zero]; rfl)
    case hw53 => rfl
    case hv53 => (intro wx hSw; obtain ⟨c0, c1, c2, c3, c4, c5, c6, c7⟩ := HC.out wx hSw; go_simp; (try with_reducible rfl))
    (try simp only [Act.put, List.setIfInBounds_toArray, List.set_cons_zero, List.set_cons_succ])
    refine' Batch.det_take 7 (v := ?v54) ?hi54 (by kernel_rfl) (by kernel_rfl) (by kernel_rfl) (Batch.Does.val ?hw54 ?hv54) ?rest54
    case hi54 => (simp only [List.getElem?_toArray, List.getElem?_cons_succ, List.getElem?_cons_zero]; rfl)
    case hw54 => rfl
    case hv54 => (intro wx hSw; go_simp; (try with_reducible rfl))
    (try simp only [Act.put, List.setIfInBounds_toArray, List.set_cons_zero, List.set_cons_succ])
    refine' Batch.det_take 8 (v := ?v55) ?hi55 (by kernel_rfl) (by kernel_rfl) (by kernel_rfl) (Batch.Does.val ?hw55 ?hv55) ?rest55
    case hi55 => (simp only [List.getElem?_toArray, List.getElem?_cons_succ, List.getElem?_cons_zero]; rfl)
    case hw55 => rfl
    case hv55 => (intro wx hSw; go_simp; (try with_reducible rfl))
    (try simp only [Act.put, List.setIfInBounds_toArray, List.set_cons_zero, List.set_cons_succ])
    refine' Batch.det_take 9 (v := ?v56) ?hi56 (by kernel_rfl) (by kernel_rfl) (by kernel_rfl) (Batch.Does.val ?hw56 ?hv56) ?rest56
    case hi56 => (simp only [List.getElem?_toArray, List.getElem?_cons_succ, List.getElem?_cons_zero]; rfl)
    case hw56 => rfl
    case hv56 => (intro wx hSw; go_simp; (try with_reducible rfl))
    (try simp only [Act.put, List.setIfInBounds_toArray, List.set_cons_zero, List.set_cons_succ])
    refine' Batch.det_take 10 (v := ?v57) ?hi57 (by kernel_rfl) (by kernel_rfl) (by kernel_rfl) (Batch.Does.val ?hw57 ?hv57) ?rest57
    case hi57 => (simp only [List.getElem?_toArray, List.getElem?_cons_succ, List.getElem?_cons_zero]; rfl)
    case hw57 => rfl
    case hv57 => (intro wx hSw; go_simp; (try with_reducible rfl))
    (try simp only [Act.put, List.setIfInBounds_toArray, List.set_cons_zero, List.set_cons_succ])
    refine' Batch.det_take 11 (v := ?v58) ?hi58 (by kernel_rfl) (by kernel_rfl) (by kernel_rfl) (Batch.Does.val ?hw58 ?hv58) ?rest58
    case hi58 => (simp only [List.getElem?_toArray, List.getElem?_cons_succ, List.getElem?_cons_zero]; rfl)
    case hw58 => rfl
    case hv58 => (intro wx hSw; go_simp; (try with_reducible rfl))
    (try simp only [Act.put, List.setIfInBounds_toArray, List.set_cons_zero, List.set_cons_succ])
    refine' Batch.det_take 12 (v := ?v59) ?hi59 (by kernel_rfl) (by kernel_rfl) (by kernel_rfl) (Batch.Does.val ?hw59 ?hv59) ?rest59
    case hi59 => (simp only [List.getElem?_toArray, List.getElem?_cons_succ, List.getElem?_cons_zero]; rfl)
    case hw59 => rfl
    case hv59 => (intro wx hSw; go_simp; (try with_reducible rfl))
    (try simp only [Act.put, List.setIfInBounds_toArray, List.set_cons_zero, List.set_cons_succ])
    refine' Batch.det_take 13 ?hi60 (by kernel_rfl) (by kernel_rfl) (by kernel_rfl) (Batch.Does.pass ?hw60) ?rest60
    case hi60 => (simp only [List.getElem?_toArray, List.getElem?_cons_succ, List.getElem?_cons_zero]; rfl)
    case hw60 => rfl
    (try simp only [Act.put, List.setIfInBounds_toArray, List.set_cons_zero, List.set_cons_succ])
    refine' Batch.det_take 14 ?hi61 (by kernel_rfl) (by kernel_rfl) (by kernel_rfl) (Batch.Does.pass ?hw61) ?rest61
    case hi61 => (simp only [List.getElem?_toArray, List.getElem?_cons_succ, List.getElem?_cons_zero]; rfl)
    case hw61 => rfl
    (try simp only [Act.put, List.setIfInBounds_toArray, List.set_cons_zero, List.set_cons_succ])
    refine' Batch.det_take 15 ?hi62 (by kernel_rfl) (by kernel_rfl) (by kernel_rfl) (Batch.Does.pass ?hw62) ?rest62
    case hi62 => (simp only [List.getElem?_toArray, List.getElem?_cons_succ, List.getElem?_cons_zero]; rfl)
    case hw62 => rfl
    (try simp only [Act.put, List.setIfInBounds_toArray, List.set_cons_zero, List.set_cons_succ])
    refine' Batch.det_take 16 (v := ?v63) ?hi63 (by kernel_rfl) (by kernel_rfl) (by kernel_rfl) (Batch.Does.val ?hw63 ?hv63) ?rest63
    case hi63 => (simp only [List.getElem?_toArray, List.getElem?_cons_succ, List.getElem?_cons_zero]; rfl)
    case hw63 => rfl
    case hv63 => (intro wx hSw; go_simp; (try with_reducible rfl))
    (try simp only [Act.put, List.setIfInBounds_toArray, List.set_cons_zero, List.set_cons_succ])
    refine' Batch.det_take 17 (v := ?v64) ?hi64 (by kernel_rfl) (by kernel_rfl) (by kernel_rfl) (Batch.Does.val ?hw64 ?hv64) ?rest64
    case hi64 => (simp only [List.getElem?_toArray, List.getElem?_cons_succ, List.getElem?_cons_zero]; rfl)
    case hw64 => rfl
    case hv64 => (intro wx hSw; go_simp; (try with_reducible rfl))
    (try simp only [Act.put, List.setIfInBounds_toArray, List.set_cons_zero, List.set_cons_succ])
    refine Batch.det_done (by kernel_rfl) (fun v4_1 hS => ?_) _
    have D4_1 := Lib.hid hS
    clear hS D4_0
    obtain ⟨c0, c1, c2, c3, c4, c5, c6, c7⟩ := HC.out _ D4_1.out
    go_wp2_with fail
    refine (C1h.out _ (HSB.out _ D4_1.out)).mono ?_
    rintro e w3 ⟨rfl, b⟩
    have Y3 := Lib.hid (D4_1.out.trans (b.mono D4_1.out.size))
    clear b
    clear c0 c1 c2 c3 c4 c5 c6 c7
    obtain ⟨c0, c1, c2, c3, c4, c5, c6, c7⟩ := HC.out _ Y3.out
    go_upto_region 12 with fail
    have D5_0 := Lib.hid (show Below V2.heap.size V2 w3.drew from Y3.out.trans ((Below.drew (Below.refl w3.heap.size w3)).mono Y3.out.size))
    clear c0 c1 c2 c3 c4 c5 c6 c7
    refine Batch.wp_region_det (S := fun W => Below V2.heap.size V2 W) (by kernel_rfl) D5_0.out ?_
    refine' Batch.det_take 0 (v := ?v65) ?hi65 (by kernel_rfl) (by kernel_rfl) (by kernel_rfl) (Batch.Does.val ?hw65 ?hv65) ?rest65
    case hi65 => (simp only [List.getElem?_toArray, List.getElem?_cons_zero]; rfl)
    case hw65 => rfl
    case hv65 => (intro wx hSw; obtain ⟨c0, c1, c2, c3, c4, c5, c6, c7⟩ := HC.out wx hSw; go_simp; (try with_reducible rfl))
    (try simp only [Act.put, List.setIfInBounds_toArray, List.set_cons_zero, List.set_cons_succ])
    refine' Batch.det_take 1 (v := ?v66) ?hi66 (by kernel_rfl) (by kernel_rfl) (by kernel_rfl) (Batch.Does.val ?hw66 ?hv66) ?rest66
    case hi66 => (simp only [List.getElem?_toArray, List.getElem?_cons_succ, List.getElem?_cons_zero]; rfl)
    case hw66 => rfl
    case hv66 => (intro wx hSw; obtain ⟨c0, c1, c2, c3, c4, c5, c6, c7⟩ := HC.out wx hSw; go_simp; (try with_reducible rfl))
    (try simp only [Act.put, List.setIfInBounds_toArray, List.set_cons_zero, List.set_cons_succ])
    refine' Batch.det_take 2 (v := ratV ja jb) ?hi67 (by kernel_rfl) (by kernel_rfl) (by kernel_rfl) (Batch.Does.call ?hw67 ?hv67 ?hc67) ?rest67
    case hi67 => (simp only [List.getElem?_toArray, List.getElem?_cons_succ, List.getElem?_cons_zero]; rfl)
    case hw67 => rfl
    case hv67 => (intro wx hSw; go_simp; (first | done | exact ⟨rfl, rfl⟩ | with_reducible rfl))
    case hc67 => (intro wx hSw; refine (A8h.out _ (HSB.out _ hSw)).mono ?_; rintro e wy ⟨rfl, h⟩; exact ⟨rfl, hSw.trans (h.mono hSw.size)⟩)
    (try simp only [Act.put, List.setIfInBounds_toArray, List.set_cons_zero, List.set_cons_succ])
    refine' Batch.det_take 3 (v := ?v68) ?hi68 (by kernel_rfl) (by kernel_rfl) (by kernel_rfl) (Batch.Does.val ?hw68 ?hv68) ?rest68
    case hi68 => (simp only [List.getElem?_toArray, List.getElem?_cons_succ, List.getElem?_cons_zero]; rfl)
    case hw68 => rfl
    case hv68 => (intro wx hSw; obtain ⟨c0, c1, c2, c3, c4, c5, c6, c7⟩ := HC.out wx hSw; go_simp; (try with_reducible rfl))
    (try simp only [Act.put, List.setIfInBounds_toArray, List.set_cons_zero, List.set_cons_succ])
    refine' Batch.det_take 4 (v := ?v69) ?hi69 (by kernel_rfl) (by kernel_rfl) (by kernel_rfl) (Batch.Does.val ?hw69 ?hv69) ?rest69
    case hi69 => (simp only [List.getElem?_toArray, List.getElem?_cons_succ, List.getElem?_cons_zero]; rfl)
    case hw69 => rfl
    case hv69 => (intro wx hSw; obtain ⟨c0, c1, c2, c3, c4, c5, c6, c7⟩ := HC.out wx hSw; go_simp; (try with_reducible rfl))
    (try simp only [Act.put, List.setIfInBounds_toArray, List.set_cons_zero, List.set_cons_succ])
    refine' Batch.det_take 5 (v := ratV la lb) ?hi70 (by kernel_rfl) (by kernel_rfl) (by kernel_rfl) (Batch.Does.call ?hw70 ?hv70 ?hc70) ?rest70
    case hi70 => (simp only [List.getElem?_toArray, List.getElem?_cons_succ, List.getElem?_cons_zero]; rfl)
    case hw70 => rfl
    case hv70 => (intro wx hSw; go_simp; (first | done | exact ⟨rfl, rfl⟩ | with_reducible rfl))
    case hc70 => (intro wx hSw; refine (A5h.out _ (HSB.out _ hSw)).mono ?_; rintro e wy ⟨rfl, h⟩; exact ⟨rfl, hSw.trans (h.mono hSw.size)⟩)
    (try simp only [Act.put, List.setIfInBounds_toArray, List.set_cons_zero, List.set_cons_succ])
    refine' Batch.det_take 6 (v := .int .i64 z) ?hi71 (by kernel_rfl) (by kernel_rfl) (by kernel_rfl) (Batch.Does.call ?hw71 ?hv71 ?hc71) ?rest71
    case hi71 => (simp only [List.getElem?_toArray, List.getElem?_cons_succ, List.getElem?_cons_zero]; rfl)
    case hw71 => rfl
    case hv71 => (intro wx hSw; go_simp; (first | done | exact ⟨rfl, rfl⟩ | with_reducible rfl))
    case hc71 => (intro wx hSw; refine (C2h.out _ (HSB.out _ hSw)).mono ?_; rintro e wy ⟨rfl, h⟩; exact ⟨rfl, hSw.trans (h.mono hSw.size)⟩)
    (try simp only [Act.put, List.setIfInBounds_toArray, List.set_cons_zero, List.set_cons_succ])
    refine' Batch.det_take 7 (v := ?v72) ?hi72 (by kernel_rfl) (by kernel_rfl) (by kernel_rfl) (Batch.Does.val ?hw72 ?hv72) ?rest72
    case hi72 => (simp only [List.getElem?_toArray, List.getElem?_cons_succ, List.getElem?_cons_zero]; rfl)
    case hw72 => rfl
    case hv72 => (intro wx hSw; go_simp; (try with_reducible rfl))
    (try simp only [Act.put, List.setIfInBounds_toArray, List.set_cons_zero, List.set_cons_succ])
    refine' Batch.det_take 8 (v := ?v73) ?hi73 (by kernel_rfl) (by kernel_rfl) (by kernel_rfl) (Batch.Does.val ?hw73 ?hv73) ?rest73
    case hi73 => (simp only [List.getElem?_toArray, List.getElem?_cons_succ, List.getElem?_cons_zero]; rfl)
    case hw73 => rfl
    case hv73 => (intro wx hSw; go_simp; (try with_reducible rfl))
    (try simp only [Act.put, List.setIfInBounds_toArray, List.set_cons_zero, List.set_cons_succ])
    refine Batch.det_done (by kernel_rfl) (fun v5_1 hS => ?_) _
    have D5_1 := Lib.hid hS
    clear hS D5_0
    go_upto_region 14 with fail
    have D6_0 := Lib.hid (show Below V2.heap.size V2 v5_1.drew from D5_1.out.trans ((Below.drew (Below.refl v5_1.heap.size v5_1)).mono D5_1.out.size))
    refine Batch.wp_region_det (S := fun W => Below V2.heap.size V2 W) (by kernel_rfl) D6_0.out ?_
    refine' Batch.det_take 0 (v := ?v74) ?hi74 (by kernel_rfl) (by kernel_rfl) (by kernel_rfl) (Batch.Does.val ?hw74 ?hv74) ?rest74
    case hi74 => (simp only [List.getElem?_toArray, List.getElem?_cons_zero]; rfl)
    case hw74 => rfl
    case hv74 => (intro wx hSw; obtain ⟨c0, c1, c2, c3, c4, c5, c6, c7⟩ := HC.out wx hSw; go_simp; (try with_reducible rfl))
    (try simp only [Act.put, List.setIfInBounds_toArray, List.set_cons_zero, List.set_cons_succ])
    refine' Batch.det_take 1 (v := ?v75) ?hi75 (by kernel_rfl) (by kernel_rfl) (by kernel_rfl) (Batch.Does.val ?hw75 ?hv75) ?rest75
    case hi75 => (simp only [List.getElem?_toArray, List.getElem?_cons_succ, List.getElem?_cons_zero]; rfl)
    case hw75 => rfl
    case hv75 => (intro wx hSw; obtain ⟨c0, c1, c2, c3, c4, c5, c6, c7⟩ := HC.out wx hSw; go_simp; (try with_reducible rfl))
    (try simp only [Act.put, List.setIfInBounds_toArray, List.set_cons_zero, List.set_cons_succ])
    refine' Batch.det_take 2 (v := ratV na nb) ?hi76 (by kernel_rfl) (by kernel_rfl) (by kernel_rfl) (Batch.Does.call ?hw76 ?hv76 ?hc76) ?rest76
    case hi76 => (simp only [List.getElem?_toArray, List.getElem?_cons_succ, List.getElem?_cons_zero]; rfl)
    case hw76 => rfl
    case hv76 => (intro wx hSw; go_simp; (first | done | exact ⟨rfl, rfl⟩ | with_reducible rfl))
    case hc76 => (intro wx hSw; refine (M6h.out _ (HSB.out _ hSw)).mono ?_; rintro e wy ⟨rfl, h⟩; exact ⟨rfl, hSw.trans (h.mono hSw.size)⟩)
    (try simp only [Act.put, List.setIfInBounds_toArray, List.set_cons_zero, List.set_cons_succ])
    refine' Batch.det_take 3 (v := ?v77) ?hi77 (by kernel_rfl) (by kernel_rfl) (by kernel_rfl) (Batch.Does.val ?hw77 ?hv77) ?rest77
    case hi77 => (simp only [List.getElem?_toArray, List.getElem?_cons_succ, List.getElem?_cons_zero]; rfl)
    case hw77 => rfl
    case hv77 => (intro wx hSw; obtain ⟨c0, c1, c2, c3, c4, c5, c6, c7⟩ := HC.out wx hSw; go_simp; (try with_reducible rfl))
    (try simp only [Act.put, List.setIfInBounds_toArray, List.set_cons_zero, List.set_cons_succ])
    refine' Batch.det_take 4 (v := ?v78) ?hi78 (by kernel_rfl) (by kernel_rfl) (by kernel_rfl) (Batch.Does.val ?hw78 ?hv78) ?rest78
    case hi78 => (simp only [List.getElem?_toArray, List.getElem?_cons_succ, List.getElem?_cons_zero]; rfl)
    case hw78 => rfl
    case hv78 => (intro wx hSw; obtain ⟨c0, c1, c2, c3, c4, c5, c6, c7⟩ := HC.out wx hSw; go_simp; (try with_reducible rfl))
    (try simp only [Act.put, List.setIfInBounds_toArray, List.set_cons_zero, List.set_cons_succ])
    refine' Batch.det_take 5 (v := ratV ka kb) ?hi79 (by kernel_rfl) (by kernel_rfl) (by kernel_rfl) (Batch.Does.call ?hw79 ?hv79 ?hc79) ?rest79
    case hi79 => (simp only [List.getElem?_toArray, List.getElem?_cons_succ, List.getElem?_cons_zero]; rfl)
    case hw79 => rfl
    case hv79 => (intro wx hSw; go_simp; (first | done | exact ⟨rfl, rfl⟩ | with_reducible rfl))
    case hc79 => (intro wx hSw; refine (M8h.out _ (HSB.out _ hSw)).mono ?_; rintro e wy ⟨rfl, h⟩; exact ⟨rfl, hSw.trans (h.mono hSw.size)⟩)
    (try simp only [Act.put, List.setIfInBounds_toArray, List.set_cons_zero, List.set_cons_succ])
    refine' Batch.det_take 6 (v := .int .i64 (z * y)) ?hi80 (by kernel_rfl) (by kernel_rfl) (by kernel_rfl) (Batch.Does.call ?hw80 ?hv80 ?hc80) ?rest80
    case hi80 => (simp only [List.getElem?_toArray, List.getElem?_cons_succ, List.getElem?_cons_zero]; rfl)
    case hw80 => rfl
    case hv80 => (intro wx hSw; go_simp; (first | done | exact ⟨rfl, rfl⟩ | with_reducible rfl))
    case hc80 => (intro wx hSw; refine (C3h.out _ (HSB.out _ hSw)).mono ?_; rintro e wy ⟨rfl, h⟩; exact ⟨rfl, hSw.trans (h.mono hSw.size)⟩)
    (try simp only [Act.put, List.setIfInBounds_toArray, List.set_cons_zero, List.set_cons_succ])
    refine' Batch.det_take 7 (v := ?v81) ?hi81 (by kernel_rfl) (by kernel_rfl) (by kernel_rfl) (Batch.Does.val ?hw81 ?hv81) ?rest81
    case hi81 => (simp only [List.getElem?_toArray, List.getElem?_cons_succ, List.getElem?_cons_zero]; rfl)
    case hw81 => rfl
    case hv81 => (intro wx hSw; go_simp; (try with_reducible rfl))
    (try simp only [Act.put, List.setIfInBounds_toArray, List.set_cons_zero, List.set_cons_succ])
    refine' Batch.det_take 8 (v := ?v82) ?hi82 (by kernel_rfl) (by kernel_rfl) (by kernel_rfl) (Batch.Does.val ?hw82 ?hv82) ?rest82
    case hi82 => (simp only [List.getElem?_toArray, List.getElem?_cons_succ, List.getElem?_cons_zero]; rfl)
    case hw82 => rfl
    case hv82 => (intro wx hSw; obtain ⟨c0, c1, c2, c3, c4, c5, c6, c7⟩ := HC.out wx hSw; go_simp; (try with_reducible rfl))
    (try simp only [Act.put, List.setIfInBounds_toArray, List.set_cons_zero, List.set_cons_succ])
    refine' Batch.det_take 9 (v := .int .i64 y) ?hi83 (by kernel_rfl) (by kernel_rfl) (by kernel_rfl) (Batch.Does.call ?hw83 ?hv83 ?hc83) ?rest83
    case hi83 => (simp only [List.getElem?_toArray, List.getElem?_cons_succ, List.getElem?_cons_zero]; rfl)
    case hw83 => rfl
    case hv83 => (intro wx hSw; go_simp; (first | done | exact ⟨rfl, rfl⟩ | with_reducible rfl))
    case hc83 => (intro wx hSw; refine (SCh.out _ (HSB.out _ hSw)).mono ?_; rintro e wy ⟨rfl, h⟩; exact ⟨rfl, hSw.trans (h.mono hSw.size)⟩)
    (try simp only [Act.put, List.setIfInBounds_toArray, List.set_cons_zero, List.set_cons_succ])
    refine' Batch.det_take 10 (v := ?v84) ?hi84 (by kernel_rfl) (by kernel_rfl) (by kernel_rfl) (Batch.Does.val ?hw84 ?hv84) ?rest84
    case hi84 => (simp only [List.getElem?_toArray, List.getElem?_cons_succ, List.getElem?_cons_zero]; rfl)
    case hw84 => rfl
    case hv84 => (intro wx hSw; go_simp; (try with_reducible rfl))
    (try simp only [Act.put, List.setIfInBounds_toArray, List.set_cons_zero, List.set_cons_succ])
    refine' Batch.det_take 11 (v := ?v85) ?hi85 (by kernel_rfl) (by kernel_rfl) (by kernel_rfl) (Batch.Does.val ?hw85 ?hv85) ?rest85
    case hi85 => (simp only [List.getElem?_toArray, List.getElem?_cons_succ, List.getElem?_cons_zero]; rfl)
    case hw85 => rfl
    case hv85 => (intro wx hSw; go_simp; (try with_reducible rfl))
    (try simp only [Act.put, List.setIfInBounds_toArray, List.set_cons_zero, List.set_cons_succ])
    refine' Batch.det_take 12 (v := ?v86) ?hi86 (by kernel_rfl) (by kernel_rfl) (by kernel_rfl) (Batch.Does.val ?hw86 ?hv86) ?rest86
    case hi86 => (simp only [List.getElem?_toArray, List.getElem?_cons_succ, List.getElem?_cons_zero]; rfl)
    case hw86 => rfl
    case hv86 => (intro wx hSw; go_simp; (try with_reducible rfl))
    (try simp only [Act.put, List.setIfInBounds_toArray, List.set_cons_zero, List.set_cons_succ])
    refine Batch.det_done (by kernel_rfl) (fun v6_1 hS => ?_) _
    have D6_1 := Lib.hid hS
    clear hS D6_0
    go_wp2_with fail
    go_ret
    exact ⟨rfl, HBW.out.trans (D6_1.out.mono HBW.out.size)⟩
  · clear R9h
    subst he
    have SBh := Lib.hid HX
    clear HX
    go_upto_region 9 with fail
    have D4_0 := Lib.hid (show Below V2.heap.size V2 V2.drew from Y1002.out.trans ((Below.drew (Below.refl V2.heap.size V2)).mono Y1002.out.size))
    clear c0 c1 c2 c3 c4 c5 c6 c7
    refine Batch.wp_region_det (S := fun W => Below V2.heap.size V2 W) (by kernel_rfl) D4_0.out ?_
    refine' Batch.det_take 0 (v := ?v87) ?hi87 (by kernel_rfl) (by kernel_rfl) (by kernel_rfl) (Batch.Does.val ?hw87 ?hv87) ?rest87
    case hi87 => (simp only [List.getElem?_toArray, List.getElem?_cons_zero]; rfl)
    case hw87 => rfl
    case hv87 => (intro wx hSw; go_simp; (try with_reducible rfl))
    (try simp only [Act.put, List.setIfInBounds_toArray, List.set_cons_zero, List.set_cons_succ])
    refine' Batch.det_take 1 (v := ?v88) ?hi88 (by kernel_rfl) (by kernel_rfl) (by kernel_rfl) (Batch.Does.val ?hw88 ?hv88) ?rest88
    case hi88 => (simp only [List.getElem?_toArray, List.getElem?_cons_succ, List.getElem?_cons_zero]; rfl)
    case hw88 => rfl
    case hv88 => (intro wx hSw; go_simp; (try with_reducible rfl))
    (try simp only [Act.put, List.setIfInBounds_toArray, List.set_cons_zero, List.set_cons_succ])
    refine' Batch.det_take 2 (v := ?v89) ?hi89 (by kernel_rfl) (by kernel_rfl) (by kernel_rfl) (Batch.Does.val ?hw89 ?hv89) ?rest89
    case hi89 => (simp only [List.getElem?_toArray, List.getElem?_cons_succ, List.getElem?_cons_zero]; rfl)
    case hw89 => rfl
    case hv89 => (intro wx hSw; go_simp; (try with_reducible rfl))
    (try simp only [Act.put, List.setIfInBounds_toArray, List.set_cons_zero, List.set_cons_succ])
    refine' Batch.det_take 3 ?hi90 (by kernel_rfl) (by kernel_rfl) (by kernel_rfl) (Batch.Does.pass ?hw90) ?rest90
    case hi90 => (simp only [List.getElem?_toArray, List.getElem?_cons_succ, List.getElem?_cons_zero]; rfl)
    case hw90 => rfl
    (try simp only [Act.put, List.setIfInBounds_toArray, List.set_cons_zero, List.set_cons_succ])
    refine' Batch.det_take 4 ?hi91 (by kernel_rfl) (by kernel_rfl) (by kernel_rfl) (Batch.Does.pass ?hw91) ?rest91
    case hi91 => (simp only [List.getElem?_toArray, List.getElem?_cons_succ, List.getElem?_cons_zero]; rfl)
    case hw91 => rfl
    (try simp only [Act.put, List.setIfInBounds_toArray, List.set_cons_zero, List.set_cons_succ])
    refine' Batch.det_take 5 ?hi92 (by kernel_rfl) (by kernel_rfl) (by kernel_rfl) (Batch.Does.pass ?hw92) ?rest92
    case hi92 => (simp only [List.getElem?_toArray, List.getElem?_cons_succ, List.getElem?_cons_zero]; rfl)
    case hw92 => rfl
    (try simp only [Act.put, List.setIfInBounds_toArray, List.set_cons_zero, List.set_cons_succ])
    refine' Batch.det_take 6 ?hi93 (by kernel_rfl) (by kernel_rfl) (by kernel_rfl) (Batch.Does.pass ?hw93) ?rest93
    case hi93 => (simp only [List.getElem?_toArray, List.getElem?_cons_succ, List.getElem?_cons_zero]; rfl)
    case hw93 => rfl
    (try simp only [Act.put, List.setIfInBounds_toArray, List.set_cons_zero, List.set_cons_succ])
    refine' Batch.det_take 7 ?hi94 (by kernel_rfl) (by kernel_rfl) (by kernel_rfl) (Batch.Does.pass ?hw94) ?rest94
    case hi94 => (simp only [List.getElem?_toArray, List.getElem?_cons_succ, List.getElem?_cons_zero]; rfl)
    case hw94 => rfl
    (try simp only [Act.put, List.setIfInBounds_toArray, List.set_cons_zero, List.set_cons_succ])
    refine' Batch.det_take 8 (v := ?v95) ?hi95 (by kernel_rfl) (by kernel_rfl) (by kernel_rfl) (Batch.Does.val ?hw95 ?hv95) ?rest95
    case hi95 => (simp only [List.getElem?_toArray, List.getElem?_cons_succ, List.getElem?_cons_zero]; rfl)
    case hw95 => rfl
    case hv95 => (intro wx hSw; go_simp; (try with_reducible rfl))
    (try simp only [Act.put, List.setIfInBounds_toArray, List.set_cons_zero, List.set_cons_succ])
    refine' Batch.det_take 9 (v := ?v96) ?hi96 (by kernel_rfl) (by kernel_rfl) (by kernel_rfl) (Batch.Does.val ?hw96 ?hv96) ?rest96
    case hi96 => (simp only [List.getElem?_toArray, List.getElem?_cons_succ, List.getElem?_cons_zero]; rfl)
    case hw96 => rfl
    case hv96 => (intro wx hSw; go_simp; (try with_reducible rfl))
    (try simp only [Act.put, List.setIfInBounds_toArray, List.set_cons_zero, List.set_cons_succ])
    refine' Batch.det_take 10 (v := ?v97) ?hi97 (by kernel_rfl) (by kernel_rfl) (by kernel_rfl) (Batch.Does.val ?hw97 ?hv97) ?rest97
    case hi97 => (simp only [List.getElem?_toArray, List.getElem?_cons_succ, List.getElem?_cons_zero]; rfl)
    case hw97 => rfl
    case hv97 => (intro wx hSw; go_simp; (try with_reducible rfl))
    (try simp only [Act.put, List.setIfInBounds_toArray, List.set_cons_zero, List.set_cons_succ])
    refine' Batch.det_take 11 (v := ?v98) ?hi98 (by kernel_rfl) (by kernel_rfl) (by kernel_rfl) (Batch.Does.val ?hw98 ?hv98) ?rest98
    case hi98 => (simp only [List.getElem?_toArray, List.getElem?_cons_succ, List.getElem?_cons_zero]; rfl)
    case hw98 => rfl
    case hv98 => (intro wx hSw; go_simp; (try with_reducible rfl))
    (try simp only [Act.put, List.setIfInBounds_toArray, List.set_cons_zero, List.set_cons_succ])
    refine' Batch.det_take 12 (v := ?v99) ?hi99 (by kernel_rfl) (by kernel_rfl) (by kernel_rfl) (Batch.Does.val ?hw99 ?hv99) ?rest99
    case hi99 => (simp only [List.getElem?_toArray, List.getElem?_cons_succ, List.getElem?_cons_zero]; rfl)
    case hw99 => rfl
    case hv99 => (intro wx hSw; go_simp; (try with_reducible rfl))
    (try simp only [Act.put, List.setIfInBounds_toArray, List.set_cons_zero, List.set_cons_succ])
    refine' Batch.det_take 13 (v := ?v100) ?hi100 (by kernel_rfl) (by kernel_rfl) (by kernel_rfl) (Batch.Does.val ?hw100 ?hv100) ?rest100
    case hi100 => (simp only [List.getElem?_toArray, List.getElem?_cons_succ, List.getElem?_cons_zero]; rfl)
    case hw100 => rfl
    case hv100 => (intro wx hSw; obtain ⟨c0, c1, c2, c3, c4, c5, c6, c7⟩ := HC.out wx hSw; go_simp; (try with_reducible rfl))
    (try simp only [Act.put, List.setIfInBounds_toArray, List.set_cons_zero, List.set_cons_succ])
    refine' Batch.det_take 14 (v := .int .i64 0) ?hi101 (by kernel_rfl) (by kernel_rfl) (by kernel_rfl) (Batch.Does.call ?hw101 ?hv101 ?hc101) ?rest101
    case hi101 => (simp only [List.getElem?_toArray, List.getElem?_cons_succ, List.getElem?_cons_zero]; rfl)
    case hw101 => rfl
    case hv101 => (intro wx hSw; go_simp; (first | done | exact ⟨rfl, rfl⟩ | with_reducible rfl))
    case hc101 => (intro wx hSw; refine (SBh.out _ (HSB.out _ hSw)).mono ?_; rintro e wy ⟨rfl, h⟩; exact ⟨rfl, hSw.trans (h.mono hSw.size)⟩)
    (try simp only [Act.put, List.setIfInBounds_toArray, List.set_cons_zero, List.set_cons_succ])
    refine' Batch.det_take 15 (v := ?v102) ?hi102 (by kernel_rfl) (by kernel_rfl) (by kernel_rfl) (Batch.Does.val ?hw102 ?hv102) ?rest102
    case hi102 => (simp only [List.getElem?_toArray, List.getElem?_cons_succ, List.getElem?_cons_zero]; rfl)
    case hw102 => rfl
    case hv102 => (intro wx hSw; go_simp; (try with_reducible rfl))
    (try simp only [Act.put, List.setIfInBounds_toArray, List.set_cons_zero, List.set_cons_succ])
    refine' Batch.det_take 16 (v := ?v103) ?hi103 (by kernel_rfl) (by kernel_rfl) (by kernel_rfl) (Batch.Does.val ?hw103 ?hv103) ?rest103
    case hi103 => (simp only [List.getElem?_toArray, List.getElem?_cons_succ, List.getElem?_cons_zero]; rfl)
    case hw103 => rfl
    case hv103 => (intro wx hSw; go_simp; (try with_reducible rfl))
    (try simp only [Act.put, List.setIfInBounds_toArray, List.set_cons_zero, List.set_cons_succ])
    refine' Batch.det_take 17 (v := ?v104) ?hi104 (by kernel_rfl) (by kernel_rfl) (by kernel_rfl) (Batch.Does.val ?hw104 ?hv104) ?rest104
    case hi104 => (simp only [List.getElem?_toArray, List.getElem?_cons_succ, List.getElem?_cons_zero]; rfl)
    case hw104 => rfl
    case hv104 => (intro wx hSw; go_simp; (try with_reducible rfl))
    (try simp only [Act.put, List.setIfInBounds_toArray, List.set_cons_zero, List.set_cons_succ])
    refine Batch.det_done (by kernel_rfl) (fun v4_1 hS => ?_) _
    have D4_1 := Lib.hid hS
    clear hS D4_0
    obtain ⟨c0, c1, c2, c3, c4, c5, c6, c7⟩ := HC.out _ D4_1.out
    go_wp2_with fail
    refine (C1h.out _ (HSB.out _ D4_1.out)).mono ?_
    rintro e w3 ⟨rfl, b⟩
    have Y3 := Lib.hid (D4_1.out.trans (b.mono D4_1.out.size))
    clear b
    clear c0 c1 c2 c3 c4 c5 c6 c7
    obtain ⟨c0, c1, c2, c3, c4, c5, c6, c7⟩ := HC.out _ Y3.out
    go_upto_region 12 with fail
    have D5_0 := Lib.hid (show Below V2.heap.size V2 w3.drew from Y3.out.trans ((Below.drew (Below.refl w3.heap.size w3)).mono Y3.out.size))
    clear c0 c1 c2 c3 c4 c5 c6 c7
    refine Batch.wp_region_det (S := fun W => Below V2.heap.size V2 W) (by kernel_rfl) D5_0.out ?_
    refine' Batch.det_take 0 (v := ?v105) ?hi105 (by kernel_rfl) (by kernel_rfl) (by kernel_rfl) (Batch.Does.val ?hw105 ?hv105) ?rest105
    case hi105 => (simp only [List.getElem?_toArray, List.getElem?_cons_zero]; rfl)
    case hw105 => rfl
    case hv105 => (intro wx hSw; obtain ⟨c0, c1, c2, c3, c4, c5, c6, c7⟩ := HC.out wx hSw; go_simp; (try with_reducible rfl))
    (try simp only [Act.put, List.setIfInBounds_toArray, List.set_cons_zero, List.set_cons_succ])
    refine' Batch.det_take 1 (v := ?v106) ?hi106 (by kernel_rfl) (by kernel_rfl) (by kernel_rfl) (Batch.Does.val ?hw106 ?hv106) ?rest106
    case hi106 => (simp only [List.getElem?_toArray, List.getElem?_cons_succ, List.getElem?_cons_zero]; rfl)
    case hw106 => rfl
    case hv106 => (intro wx hSw; obtain ⟨c0, c1, c2, c3, c4, c5, c6, c7⟩ := HC.out wx hSw; go_simp; (try with_reducible rfl))
    (try simp only [Act.put, List.setIfInBounds_toArray, List.set_cons_zero, List.set_cons_succ])
    refine' Batch.det_take 2 (v := ratV ja jb) ?hi107 (by kernel_rfl) (by kernel_rfl) (by kernel_rfl) (Batch.Does.call ?hw107 ?hv107 ?hc107) ?rest107
    case hi107 => (simp only [List.getElem?_toArray, List.getElem?_cons_succ, List.getElem?_cons_zero]; rfl)
    case hw107 => rfl
    case hv107 => (intro wx hSw; go_simp; (first | done | exact ⟨rfl, rfl⟩ | with_reducible rfl))
    case hc107 => (intro wx hSw; refine (A8h.out _ (HSB.out _ hSw)).mono ?_; rintro e wy ⟨rfl, h⟩; exact ⟨rfl, hSw.trans (h.mono hSw.size)⟩)
    (try simp only [Act.put, List.setIfInBounds_toArray, List.set_cons_zero, List.set_cons_succ])
    refine' Batch.det_take 3 (v := ?v108) ?hi108 (by kernel_rfl) (by kernel_rfl) (by kernel_rfl) (Batch.Does.val ?hw108 ?hv108) ?rest108
    case hi108 => (simp only [List.getElem?_toArray, List.getElem?_cons_succ, List.getElem?_cons_zero]; rfl)
    case hw108 => rfl
    case hv108 => (intro wx hSw; obtain ⟨c0, c1, c2, c3, c4, c5, c6, c7⟩ := HC.out wx hSw; go_simp; (try with_reducible rfl))
    (try simp only [Act.put, List.setIfInBounds_toArray, List.set_cons_zero, List.set_cons_succ])
    refine' Batch.det_take 4 (v := ?v109) ?hi109 (by kernel_rfl) (by kernel_rfl) (by kernel_rfl) (Batch.Does.val ?hw109 ?hv109) ?rest109
    case hi109 => (simp only [List.getElem?_toArray, List.getElem?_cons_succ, List.getElem?_cons_zero]; rfl)
    case hw109 => rfl
    case hv109 => (intro wx hSw; obtain ⟨c0, c1, c2, c3, c4, c5, c6, c7⟩ := HC.out wx hSw; go_simp; (try with_reducible rfl))
    (try simp only [Act.put, List.setIfInBounds_toArray, List.set_cons_zero, List.set_cons_succ])
    refine' Batch.det_take 5 (v := ratV la lb) ?hi110 (by kernel_rfl) (by kernel_rfl) (by kernel_rfl) (Batch.Does.call ?hw110 ?hv110 ?hc110) ?rest110
    case hi110 => (simp only [List.getElem?_toArray, List.getElem?_cons_succ, List.getElem?_cons_zero]; rfl)
    case hw110 => rfl
    case hv110 => (intro wx hSw; go_simp; (first | done | exact ⟨rfl, rfl⟩ | with_reducible rfl))
    case hc110 => (intro wx hSw; refine (A5h.out _ (HSB.out _ hSw)).mono ?_; rintro e wy ⟨rfl, h⟩; exact ⟨rfl, hSw.trans (h.mono hSw.size)⟩)
    (try simp only [Act.put, List.setIfInBounds_toArray, List.set_cons_zero, List.set_cons_succ])
    refine' Batch.det_take 6 (v := .int .i64 z) ?hi111 (by kernel_rfl) (by kernel_rfl) (by kernel_rfl) (Batch.Does.call ?hw111 ?hv111 ?hc111) ?rest111
    case hi111 => (simp only [List.getElem?_toArray, List.getElem?_cons_succ, List.getElem?_cons_zero]; rfl)
    case hw111 => rfl
    case hv111 => (intro wx hSw; go_simp; (first | done | exact ⟨rfl, rfl⟩ | with_reducible rfl))
    case hc111 => (intro wx hSw; refine (C2h.out _ (HSB.out _ hSw)).mono ?_; rintro e wy ⟨rfl, h⟩; exact ⟨rfl, hSw.trans (h.mono hSw.size)⟩)
    (try simp only [Act.put, List.setIfInBounds_toArray, List.set_cons_zero, List.set_cons_succ])
    refine' Batch.det_take 7 (v := ?v112) ?hi112 (by kernel_rfl) (by kernel_rfl) (by kernel_rfl) (Batch.Does.val ?hw112 ?hv112) ?rest112
    case hi112 => (simp only [List.getElem?_toArray, List.getElem?_cons_succ, List.getElem?_cons_zero]; rfl)
    case hw112 => rfl
    case hv112 => (intro wx hSw; go_simp; (try with_reducible rfl))
    (try simp only [Act.put, List.setIfInBounds_toArray, List.set_cons_zero, List.set_cons_succ])
    refine' Batch.det_take 8 (v := ?v113) ?hi113 (by kernel_rfl) (by kernel_rfl) (by kernel_rfl) (Batch.Does.val ?hw113 ?hv113) ?rest113
    case hi113 => (simp only [List.getElem?_toArray, List.getElem?_cons_succ, List.getElem?_cons_zero]; rfl)
    case hw113 => rfl
    case hv113 => (intro wx hSw; go_simp; (try with_reducible rfl))
    (try simp only [Act.put, List.setIfInBounds_toArray, List.set_cons_zero, List.set_cons_succ])
    refine Batch.det_done (by kernel_rfl) (fun v5_1 hS => ?_) _
    have D5_1 := Lib.hid hS
    clear hS D5_0
    go_upto_region 14 with fail
    have D6_0 := Lib.hid (show Below V2.heap.size V2 v5_1.drew from D5_1.out.trans ((Below.drew (Below.refl v5_1.heap.size v5_1)).mono D5_1.out.size))
    refine Batch.wp_region_det (S := fun W => Below V2.heap.size V2 W) (by kernel_rfl) D6_0.out ?_
    refine' Batch.det_take 0 (v := ?v114) ?hi114 (by kernel_rfl) (by kernel_rfl) (by kernel_rfl) (Batch.Does.val ?hw114 ?hv114) ?rest114
    case hi114 => (simp only [List.getElem?_toArray, List.getElem?_cons_zero]; rfl)
    case hw114 => rfl
    case hv114 => (intro wx hSw; obtain ⟨c0, c1, c2, c3, c4, c5, c6, c7⟩ := HC.out wx hSw; go_simp; (try with_reducible rfl))
    (try simp only [Act.put, List.setIfInBounds_toArray, List.set_cons_zero, List.set_cons_succ])
    refine' Batch.det_take 1 (v := ?v115) ?hi115 (by kernel_rfl) (by kernel_rfl) (by kernel_rfl) (Batch.Does.val ?hw115 ?hv115) ?rest115
    case hi115 => (simp only [List.getElem?_toArray, List.getElem?_cons_succ, List.getElem?_cons_zero]; rfl)
    case hw115 => rfl
    case hv115 => (intro wx hSw; obtain ⟨c0, c1, c2, c3, c4, c5, c6, c7⟩ := HC.out wx hSw; go_simp; (try with_reducible rfl))
    (try simp only [Act.put, List.setIfInBounds_toArray, List.set_cons_zero, List.set_cons_succ])
    refine' Batch.det_take 2 (v := ratV na nb) ?hi116 (by kernel_rfl) (by kernel_rfl) (by kernel_rfl) (Batch.Does.call ?hw116 ?hv116 ?hc116) ?rest116
    case hi116 => (simp only [List.getElem?_toArray, List.getElem?_cons_succ, List.getElem?_cons_zero]; rfl)
    case hw116 => rfl
    case hv116 => (intro wx hSw; go_simp; (first | done | exact ⟨rfl, rfl⟩ | with_reducible rfl))
    case hc116 => (intro wx hSw; refine (M6h.out _ (HSB.out _ hSw)).mono ?_; rintro e wy ⟨rfl, h⟩; exact ⟨rfl, hSw.trans (h.mono hSw.size)⟩)
    (try simp only [Act.put, List.setIfInBounds_toArray, List.set_cons_zero, List.set_cons_succ])
    refine' Batch.det_take 3 (v := ?v117) ?hi117 (by kernel_rfl) (by kernel_rfl) (by kernel_rfl) (Batch.Does.val ?hw117 ?hv117) ?rest117
    case hi117 => (simp only [List.getElem?_toArray, List.getElem?_cons_succ, List.getElem?_cons_zero]; rfl)
    case hw117 => rfl
    case hv117 => (intro wx hSw; obtain ⟨c0, c1, c2, c3, c4, c5, c6, c7⟩ := HC.out wx hSw; go_simp; (try with_reducible rfl))
    (try simp only [Act.put, List.setIfInBounds_toArray, List.set_cons_zero, List.set_cons_succ])
    refine' Batch.det_take 4 (v := ?v118) ?hi118 (by kernel_rfl) (by kernel_rfl) (by kernel_rfl) (Batch.Does.val ?hw118 ?hv118) ?rest118
    case hi118 => (simp only [List.getElem?_toArray, List.getElem?_cons_succ, List.getElem?_cons_zero]; rfl)
    case hw118 => rfl
    case hv118 => (intro wx hSw; obtain ⟨c0, c1, c2, c3, c4, c5, c6, c7⟩ := HC.out wx hSw; go_simp; (try with_reducible rfl))
    (try simp only [Act.put, List.setIfInBounds_toArray, List.set_cons_zero, List.set_cons_succ])
    refine' Batch.det_take 5 (v := ratV ka kb) ?hi119 (by kernel_rfl) (by kernel_rfl) (by kernel_rfl) (Batch.Does.call ?hw119 ?hv119 ?hc119) ?rest119
    case hi119 => (simp only [List.getElem?_toArray, List.getElem?_cons_succ, List.getElem?_cons_zero]; rfl)
    case hw119 => rfl
    case hv119 => (intro wx hSw; go_simp; (first | done | exact ⟨rfl, rfl⟩ | with_reducible rfl))
    case hc119 => (intro wx hSw; refine (M8h.out _ (HSB.out _ hSw)).mono ?_; rintro e wy ⟨rfl, h⟩; exact ⟨rfl, hSw.trans (h.mono hSw.size)⟩)
    (try simp only [Act.put, List.setIfInBounds_toArray, List.set_cons_zero, List.set_cons_succ])
    refine' Batch.det_take 6 (v := .int .i64 (z * y)) ?hi120 (by kernel_rfl) (by kernel_rfl) (by kernel_rfl) (Batch.Does.call ?hw120 ?hv120 ?hc120) ?rest120
    case hi120 => (simp only [List.getElem?_toArray, List.getElem?_cons_succ, List.getElem?_cons_zero]; rfl)
    case hw120 => rfl
    case hv120 => (intro wx hSw; go_simp; (first | done | exact ⟨rfl, rfl⟩ | with_reducible rfl))
    case hc120 => (intro wx hSw; refine (C3h.out _ (HSB.out _ hSw)).mono ?_; rintro e wy ⟨rfl, h⟩; exact ⟨rfl, hSw.trans (h.mono hSw.size)⟩)
    (try simp only [Act.put, List.setIfInBounds_toArray, List.set_cons_zero, List.set_cons_succ])
    refine' Batch.det_take 7 (v := ?v121) ?hi121 (by kernel_rfl) (by kernel_rfl) (by kernel_rfl) (Batch.Does.val ?hw121 ?hv121) ?rest121
    case hi121 => (simp only [List.getElem?_toArray, List.getElem?_cons_succ, List.getElem?_cons_zero]; rfl)
    case hw121 => rfl
    case hv121 => (intro wx hSw; go_simp; (try with_reducible rfl))
    (try simp only [Act.put, List.setIfInBounds_toArray, List.set_cons_zero, List.set_cons_succ])
    refine' Batch.det_take 8 (v := ?v122) ?hi122 (by kernel_rfl) (by kernel_rfl) (by kernel_rfl) (Batch.Does.val ?hw122 ?hv122) ?rest122
    case hi122 => (simp only [List.getElem?_toArray, List.getElem?_cons_succ, List.getElem?_cons_zero]; rfl)
    case hw122 => rfl
    case hv122 => (intro wx hSw; obtain ⟨c0, c1, c2, c3, c4, c5, c6, c7⟩ := HC.out wx hSw; go_simp; (try with_reducible rfl))
    (try simp only [Act.put, List.setIfInBounds_toArray, List.set_cons_zero, List.set_cons_succ])
    refine' Batch.det_take 9 (v := .int .i64 y) ?hi123 (by kernel_rfl) (by kernel_rfl) (by kernel_rfl) (Batch.Does.call ?hw123 ?hv123 ?hc123) ?rest123
    case hi123 => (simp only [List.getElem?_toArray, List.getElem?_cons_succ, List.getElem?_cons_zero]; rfl)
    case hw123 => rfl
    case hv123 => (intro wx hSw; go_simp; (first | done | exact ⟨rfl, rfl⟩ | with_reducible rfl))
    case hc123 => (intro wx hSw; refine (SCh.out _ (HSB.out _ hSw)).mono ?_; rintro e wy ⟨rfl, h⟩; exact ⟨rfl, hSw.trans (h.mono hSw.size)⟩)
    (try simp only [Act.put, List.setIfInBounds_toArray, List.set_cons_zero, List.set_cons_succ])
    refine' Batch.det_take 10 (v := ?v124) ?hi124 (by kernel_rfl) (by kernel_rfl) (by kernel_rfl) (Batch.Does.val ?hw124 ?hv124) ?rest124
    case hi124 => (simp only [List.getElem?_toArray, List.getElem?_cons_succ, List.getElem?_cons_zero]; rfl)
    case hw124 => rfl
    case hv124 => (intro wx hSw; go_simp; (try with_reducible rfl))
    (try simp only [Act.put, List.setIfInBounds_toArray, List.set_cons_zero, List.set_cons_succ])
    refine' Batch.det_take 11 (v := ?v125) ?hi125 (by kernel_rfl) (by kernel_rfl) (by kernel_rfl) (Batch.Does.val ?hw125 ?hv125) ?rest125
    case hi125 => (simp only [List.getElem?_toArray, List.getElem?_cons_succ, List.getElem?_cons_zero]; rfl)
    case hw125 => rfl
    case hv125 => (intro wx hSw; go_simp; (try with_reducible rfl))
    (try simp only [Act.put, List.setIfInBounds_toArray, List.set_cons_zero, List.set_cons_succ])
    refine' Batch.det_take 12 (v := ?v126) ?hi126 (by kernel_rfl) (by kernel_rfl) (by kernel_rfl) (Batch.Does.val ?hw126 ?hv126) ?rest126
    case hi126 => (simp only [List.getElem?_toArray, List.getElem?_cons_succ, List.getElem?_cons_zero]; rfl)
    case hw126 => rfl
    case hv126 => (intro wx hSw; go_simp; (try with_reducible rfl))
    (try simp only [Act.put, List.setIfInBounds_toArray, List.set_cons_zero, List.set_cons_succ])
    refine Batch.det_done (by kernel_rfl) (fun v6_1 hS => ?_) _
    have D6_1 := Lib.hid hS
    clear hS D6_0
    go_wp2_with fail
    go_ret
    exact ⟨rfl, HBW.out.trans (D6_1.out.mono HBW.out.size)⟩
end Go.Proofs.YtdgbplppabalgaaGreatDoor
