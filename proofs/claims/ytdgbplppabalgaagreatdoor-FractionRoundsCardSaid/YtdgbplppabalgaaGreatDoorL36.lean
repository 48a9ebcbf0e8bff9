/-
  Texts of one seat, joined: YVar YRfl YRnr.
-/
import Derived.Test.YtdgbplppabalgaaGreatDoorL35
import Derived.Test.YtdgbplppabalgaaGreatDoorL29
import Derived.Test.YtdgbplppabalgaaGreatDoorL34
import Derived.Test.YtdgbplppabalgaaGreatDoorJ32
import Derived.Test.YtdgbplppabalgaaGreatDoorJ21
import Derived.Test.YtdgbplppabalgaaGreatDoorL28
namespace Go.Proofs.YtdgbplppabalgaaGreatDoor
open Go.RowKit

/-- the variable made by operation ia, filled by is -/
structure Vb (D : Nat → Bool) (ia is B : Nat) (T : TypeId) (u0 v0 u v : Value) (va : Value) (g : Nat) (wx : World) : Prop where
  ptr : D ia = true → va = .pointer (some ⟨g, 0, none⟩)
  ord : D is = true → D ia = true
  new : D ia = true → D is = false → BxT wx B g T u0 v0
  full : D is = true → BxT wx B g T u v
section
variable {D : Nat → Bool} {ia is B : Nat} {T : TypeId} {u0 v0 u v va : Value} {g : Nat} {wx wy : World}
theorem Vb.init (h1 : D ia = false) (h3 : D is = false) : Vb D ia is B T u0 v0 u v va g wx :=
  ⟨fun h => (by rw [h1] at h; cases h), fun h => (by rw [h3] at h; cases h), fun h => (by rw [h1] at h; cases h), fun h => (by rw [h3] at h; cases h)⟩
theorem Vb.lt (h : Vb D ia is B T u0 v0 u v va g wx) (ha : D ia = true) : B ≤ g ∧ g < wx.heap.size := by
  cases hs : D is
  · exact (h.new ha hs).lt
  · exact (h.full hs).lt
theorem Vb.keep (h : Vb D ia is B T u0 v0 u v va g wx) (j : Nat) (h1 : ia ≠ j) (h3 : is ≠ j)
    (hk : D ia = true → ∀ u v, BxT wx B g T u v → BxT wy B g T u v) : Vb (fun k => k == j || D k) ia is B T u0 v0 u v va g wy := by
  refine ⟨fun x => h.ptr ?_, fun x => ?_, fun x y => hk ?_ _ _ (h.new ?_ ?_), fun x => hk (h.ord ?_) _ _ (h.full ?_)⟩ <;> simp only [ne_beq h1, ne_beq h3, Bool.false_or] at * <;> first | assumption | exact h.ord x
theorem Vb.re (h : Vb D ia is B T u0 v0 u v va g wx) (hs : D is = false) (u' v' : Value) : Vb D ia is B T u0 v0 u' v' va g wx :=
  ⟨h.ptr, h.ord, h.new, fun x => (by rw [hs] at x; cases x)⟩
theorem Vb.alloc (h : Vb D ia is B T u0 v0 u v va g wx) (ha : D ia = false) (h3 : is ≠ ia) (hB : B ≤ wx.heap.size) :
    Vb (fun k => k == ia || D k) ia is B T u0 v0 u v (.pointer (some ⟨wx.heap.size, 0, none⟩)) wx.heap.size (wx.alloc (.cells #[u0, v0] T)) := by
  have no : D is = true → False := fun x => by rw [h.ord x] at ha; cases ha
  refine ⟨fun _ => rfl, fun _ => ?_, fun _ _ => BxT.new wx B hB T _ _, fun x => (no ?_).elim⟩
  · simp
  · simpa only [ne_beq h3, Bool.false_or] using x
theorem Vb.store (h : Vb D ia is B T u0 v0 u v va g wx) (ha : D ia = true) (hs : D is = false) (_h1 : ia ≠ is) :
    Vb (fun k => k == is || D k) ia is B T u0 v0 u v va g ((wx.setCell ⟨g, 0, none⟩ u).setCell ⟨g, 1, none⟩ v) := by
  refine ⟨fun x => h.ptr ha, fun _ => ?_, fun _ y => ?_, fun _ => ((h.new ha hs).set0 _).set1 _⟩
  · simp [ha]
  · simp at y
end
theorem Wh.two {w : World} {b : Bool} {o : Option Addr} {c : Nat} {L : List Nat} {z : Int} (h : Wh w b o c L z) {g : Nat} (u v : Value) (hne : ∀ g', o = some ⟨g', 0, none⟩ → g' ≠ g) :
    Wh ((w.setCell ⟨g, 0, none⟩ u).setCell ⟨g, 1, none⟩ v) b o c L z := (h.stored g 0 u hne).stored g 1 v hne
end Go.Proofs.YtdgbplppabalgaaGreatDoor

namespace Go.Proofs.YtdgbplppabalgaaGreatDoor
open Go.RowKit

set_option maxHeartbeats 6400000 in
set_option maxRecDepth 100000 in
theorem rflY_any (n d : Int) (w : World) (hs : Std w) (h1 : (str n.natAbs).size ≤ 10000) (h2 : (str d.natAbs).size ≤ 10000) (hp : 0 < d) :
    Calls Tryz.prog 51 #[ratV (zS n) (zS d)] w fun e w' => e = .returned (.string (zS (n.fdiv d))) ∧ Below w.heap.size w w' := by
  have HT1 := Lib.hid (fun wx => toY_any n wx (by omega))
  have HT2 := Lib.hid (fun wx => toY_any d wx (by omega))
  have hq : (str (n.fdiv d).natAbs).size ≤ 10001 := by
    refine zsz_le (zsz_add2 (a := (n.natAbs : Int)) (b := 1) (k := 10000) (by rw [Int.natAbs_natCast]; exact h1) (Nat.le_trans (str_big (n := 1) (by decide) (by decide)) (by decide)) (by decide)) ?_
    have := fdivB n hp
    omega
  have HFL := Lib.hid (fun b1 o1 c1 L1 b2 o2 c2 L2 wx (hw : Std wx) (w1 : Wh wx b1 o1 c1 L1 n) (w2 : Wh wx b2 o2 c2 L2 d) => floorWY_any b1 o1 c1 L1 n b2 o2 c2 L2 d wx hw w1 w2 hp (w1.pcs.len_le (n := 20000) (by omega)) (w2.pcs.len_le (n := 20000) (by omega)))
  have HFR := Lib.hid (fun b o c L wx (hw : Std wx) (w1 : Wh wx b o c L (n.fdiv d)) => fromY_any b o c L (n.fdiv d) wx hw w1 (w1.pcs.len_le (n := 100000) (by omega)))
  have HS := Lib.hid hs
  obtain ⟨s, hs1⟩ : ∃ s, s = zS n := ⟨_, rfl⟩
  obtain ⟨t, ht1⟩ : ∃ s, s = zS d := ⟨_, rfl⟩
  obtain ⟨q, hq1⟩ : ∃ q, q = n.fdiv d := ⟨_, rfl⟩
  have HX := Lib.hid (BxR.new w s t)
  have HBW := Lib.hid ((Below.refl w.heap.size w).alloc (Nat.le_refl _) (ratO s t))
  rw [← hs1] at HT1
  rw [← ht1] at HT2
  rw [← hq1] at HFL HFR
  rw [← hs1, ← ht1, ← hq1]
  obtain ⟨r, hr1⟩ : ∃ s, s = zS q := ⟨_, rfl⟩
  rw [← hr1] at HFR ⊢
  clear hs h1 h2 hp hq hs1 ht1 hq1 hr1
  go_enter Tryz.func51, Tryz.ntmps51
  go_upto_region 1 with fail
  obtain ⟨W0, hW0⟩ : ∃ W0, W0 = w.alloc (ratO s t) := ⟨_, rfl⟩
  rw [← hW0] at HX HBW ⊢
  clear hW0
  have HSB := Lib.hid (show ∀ wx, Below W0.heap.size W0 wx → Std wx from fun wx hx => HS.out.below (HBW.out.trans (hx.mono HBW.out.size)))
  have HC := Lib.hid (show ∀ wx, Below W0.heap.size W0 wx → wx.cell? ⟨w.heap.size, 0, none⟩ = some (.string s) ∧ wx.cell? ⟨w.heap.size, 1, none⟩ = some (.string t) from fun wx hx => ⟨(HX.out.below hx).num, (HX.out.below hx).den⟩)
  have D0 := Lib.hid (Below.drew (Below.refl W0.heap.size W0))
  clear HX
  refine' Batch.wp_region_inv (J := fun A D a wx => ∃ (x0 x1 x2 x3 x4 x5 x6 x7 x8 x9 x10 x11 : Value) (b1 : Bool) (o1 : Option Addr) (c1 : Nat) (L1 : List Nat) (b2 : Bool) (o2 : Option Addr) (c2 : Nat) (L2 : List Nat) (b3 : Bool) (o3 : Option Addr) (c3 : Nat) (L3 : List Nat) (b4 : Bool) (o4 : Option Addr) (c4 : Nat) (L4 : List Nat) (z1 : Nat) (z2 : Nat), a = Batch.lay A [(6, x0), (7, x1), (8, x2), (9, x3), (10, x4), (11, x5), (12, x6), (5, x7), (13, x8), (14, x9), (3, x10), (4, x11)] ∧ RowKit.Hid (Below W0.heap.size W0 wx ∧ (D 0 = true → x0 = .pointer (some ⟨w.heap.size, 0, none⟩)) ∧ (D 1 = true → x1 = .string s) ∧ (D 2 = true → D 6 = false → x2 = .agg #[.bool b1, .slice o1 L1.length c1]) ∧ (D 2 = true → D 6 = false → Wh wx b1 o1 c1 L1 n) ∧ (D 3 = true → x3 = .pointer (some ⟨w.heap.size, 1, none⟩)) ∧ (D 4 = true → x4 = .string t) ∧ (D 5 = true → D 6 = false → x5 = .agg #[.bool b2, .slice o2 L2.length c2]) ∧ (D 5 = true → D 6 = false → Wh wx b2 o2 c2 L2 d) ∧ (D 6 = true → x6 = .tuple #[.agg #[.bool b3, .slice o3 L3.length c3], .agg #[.bool b4, .slice o4 L4.length c4]]) ∧ (D 6 = true → Wh wx b3 o3 c3 L3 q) ∧ (D 7 = true → x7 = .tuple #[.agg #[.bool b3, .slice o3 L3.length c3], .agg #[.bool b4, .slice o4 L4.length c4]]) ∧ (D 8 = true → x8 = .agg #[.bool b3, .slice o3 L3.length c3]) ∧ (D 9 = true → x9 = .agg #[.bool b4, .slice o4 L4.length c4]) ∧ (D 7 = true → D 6 = true) ∧ (D 8 = true → D 6 = true) ∧ (D 9 = true → D 6 = true) ∧ (D 12 = true → D 6 = true) ∧ (D 13 = true → D 6 = true) ∧ (Vb D 10 12 W0.heap.size 43 (.bool false) (.slice none 0 0) (.bool b3) (.slice o3 L3.length c3) x10 z1 wx) ∧ (Vb D 11 13 W0.heap.size 43 (.bool false) (.slice none 0 0) (.bool b4) (.slice o4 L4.length c4) x11 z2 wx) ∧ (D 10 = true → D 11 = true → z1 ≠ z2) ∧ (D 6 = true → D 10 = true → ∀ g', o3 = some ⟨g', 0, none⟩ → g' ≠ z1) ∧ (D 6 = true → D 11 = true → ∀ g', o3 = some ⟨g', 0, none⟩ → g' ≠ z2))) (rs := [0, 1, 2, 3, 4, 5, 6, 7, 8, 9, 10, 11, 12, 13]) (by kernel_rfl) (by kernel_rfl) (by kernel_rfl) ?h0 ?hs ?fin
  case h0 =>
    intro D hD
    refine' ⟨_, _, _, _, _, _, _, _, _, _, _, _, false, none, 0, [], false, none, 0, [], false, none, 0, [], false, none, 0, [], 0, 0, ?act, Lib.hid ⟨D0.out, fun h => (Bool.false_ne_true ((hD _ (by decide)).symm.trans h)).elim, fun h => (Bool.false_ne_true ((hD _ (by decide)).symm.trans h)).elim, fun h _ => (Bool.false_ne_true ((hD _ (by decide)).symm.trans h)).elim, fun h _ => (Bool.false_ne_true ((hD _ (by decide)).symm.trans h)).elim, fun h => (Bool.false_ne_true ((hD _ (by decide)).symm.trans h)).elim, fun h => (Bool.false_ne_true ((hD _ (by decide)).symm.trans h)).elim, fun h _ => (Bool.false_ne_true ((hD _ (by decide)).symm.trans h)).elim, fun h _ => (Bool.false_ne_true ((hD _ (by decide)).symm.trans h)).elim, fun h => (Bool.false_ne_true ((hD _ (by decide)).symm.trans h)).elim, fun h => (Bool.false_ne_true ((hD _ (by decide)).symm.trans h)).elim, fun h => (Bool.false_ne_true ((hD _ (by decide)).symm.trans h)).elim, fun h => (Bool.false_ne_true ((hD _ (by decide)).symm.trans h)).elim, fun h => (Bool.false_ne_true ((hD _ (by decide)).symm.trans h)).elim, fun h => (Bool.false_ne_true ((hD _ (by decide)).symm.trans h)).elim, fun h => (Bool.false_ne_true ((hD _ (by decide)).symm.trans h)).elim, fun h => (Bool.false_ne_true ((hD _ (by decide)).symm.trans h)).elim, fun h => (Bool.false_ne_true ((hD _ (by decide)).symm.trans h)).elim, fun h => (Bool.false_ne_true ((hD _ (by decide)).symm.trans h)).elim, Vb.init (hD _ (by decide)) (hD _ (by decide)), Vb.init (hD _ (by decide)) (hD _ (by decide)), fun h _ => (Bool.false_ne_true ((hD _ (by decide)).symm.trans h)).elim, fun h _ => (Bool.false_ne_true ((hD _ (by decide)).symm.trans h)).elim, fun h _ => (Bool.false_ne_true ((hD _ (by decide)).symm.trans h)).elim⟩⟩
    case act => (simp only [Batch.lay, List.foldl_cons, List.foldl_nil, Act.put, List.setIfInBounds_toArray, List.set_cons_zero, List.set_cons_succ]; rfl)
  case hs =>
    refine' Batch.StepsI.cons (i := 0) ?ho_0 rfl ?st_0 ?more_0
    case ho_0 => (simp only [List.getElem?_toArray, List.getElem?_cons_zero]; rfl)
    case st_0 =>
      intro D a wx K hD hp hI hK
      obtain ⟨x0, x1, x2, x3, x4, x5, x6, x7, x8, x9, x10, x11, b1, o1, c1, L1, b2, o2, c2, L2, b3, o3, c3, L3, b4, o4, c4, L4, z1, z2, ha, hF⟩ := hI.out
      have hb := Lib.hid hF.out.1
      simp only [ha, Batch.lay, List.foldl_cons, List.foldl_nil, Act.put, List.setIfInBounds_toArray, List.set_cons_zero, List.set_cons_succ]
      go_simp
      clear ha
      clear hb
      obtain ⟨hb, F0, F1, F2, W2, F3, F4, F5, W5, F6, W6, F7, F8, F9, O7, O8, O9, O12, O13, B1, B2, n12, N1, N2⟩ := hF.out
      refine' hK.out _ _ ⟨.pointer (some ⟨w.heap.size, 0, none⟩), x1, x2, x3, x4, x5, x6, x7, x8, x9, x10, x11, b1, o1, c1, L1, b2, o2, c2, L2, b3, o3, c3, L3, b4, o4, c4, L4, z1, z2, ?act_0, Lib.hid ⟨hb, fun _ => rfl, F1, F2, W2, F3, F4, F5, W5, F6, W6, F7, F8, F9, O7, O8, O9, O12, O13, B1.keep 0 (by decide) (by decide) (fun _ _ _ g => g), B2.keep 0 (by decide) (by decide) (fun _ _ _ g => g), n12, N1, N2⟩⟩
      case act_0 => (simp only [Batch.lay, List.foldl_cons, List.foldl_nil, Act.put, List.setIfInBounds_toArray, List.set_cons_zero, List.set_cons_succ]; (try rfl))
    refine' Batch.StepsI.cons (i := 1) ?ho_1 rfl ?st_1 ?more_1
    case ho_1 => (simp only [List.getElem?_toArray, List.getElem?_cons_succ, List.getElem?_cons_zero]; rfl)
    case st_1 =>
      intro D a wx K hD hp hI hK
      obtain ⟨x0, x1, x2, x3, x4, x5, x6, x7, x8, x9, x10, x11, b1, o1, c1, L1, b2, o2, c2, L2, b3, o3, c3, L3, b4, o4, c4, L4, z1, z2, ha, hF⟩ := hI.out
      have hb := Lib.hid hF.out.1
      obtain rfl := hF.out.2.1 (Batch.alls_has (k := 0) hp.out rfl)
      obtain ⟨c0, c1⟩ := HC.out wx hb.out
      simp only [ha, Batch.lay, List.foldl_cons, List.foldl_nil, Act.put, List.setIfInBounds_toArray, List.set_cons_zero, List.set_cons_succ]
      go_simp
      clear ha
      clear c0 c1
      clear hb
      obtain ⟨hb, F0, F1, F2, W2, F3, F4, F5, W5, F6, W6, F7, F8, F9, O7, O8, O9, O12, O13, B1, B2, n12, N1, N2⟩ := hF.out
      refine' hK.out _ _ ⟨.pointer (some ⟨w.heap.size, 0, none⟩), .string s, x2, x3, x4, x5, x6, x7, x8, x9, x10, x11, b1, o1, c1, L1, b2, o2, c2, L2, b3, o3, c3, L3, b4, o4, c4, L4, z1, z2, ?act_1, Lib.hid ⟨hb, fun _ => rfl, fun _ => rfl, F2, W2, F3, F4, F5, W5, F6, W6, F7, F8, F9, O7, O8, O9, O12, O13, B1.keep 1 (by decide) (by decide) (fun _ _ _ g => g), B2.keep 1 (by decide) (by decide) (fun _ _ _ g => g), n12, N1, N2⟩⟩
      case act_1 => (simp only [Batch.lay, List.foldl_cons, List.foldl_nil, Act.put, List.setIfInBounds_toArray, List.set_cons_zero, List.set_cons_succ]; (try rfl))
    refine' Batch.StepsI.cons (i := 2) ?ho_2 rfl ?st_2 ?more_2
    case ho_2 => (simp only [List.getElem?_toArray, List.getElem?_cons_succ, List.getElem?_cons_zero]; rfl)
    case st_2 =>
      intro D a wx K hD hp hI hK
      obtain ⟨x0, x1, x2, x3, x4, x5, x6, x7, x8, x9, x10, x11, b1, o1, c1, L1, b2, o2, c2, L2, b3, o3, c3, L3, b4, o4, c4, L4, z1, z2, ha, hF⟩ := hI.out
      have hb := Lib.hid hF.out.1
      obtain rfl := hF.out.2.2.1 (Batch.alls_has (k := 1) hp.out rfl)
      simp only [ha, Batch.lay, List.foldl_cons, List.foldl_nil, Act.put, List.setIfInBounds_toArray, List.set_cons_zero, List.set_cons_succ]
      go_simp
      clear ha
      go_at_call 25
      refine (HT1.out wx).mono ?_
      rintro e wy ⟨⟨b', o', c', L', rfl, hw⟩, h⟩
      (try go_wp2_with fail)
      clear hb
      obtain ⟨hb, F0, F1, F2, W2, F3, F4, F5, W5, F6, W6, F7, F8, F9, O7, O8, O9, O12, O13, B1, B2, n12, N1, N2⟩ := hF.out
      refine' hK.out _ _ ⟨x0, .string s, .agg #[.bool b', .slice o' L'.length c'], x3, x4, x5, x6, x7, x8, x9, x10, x11, b', o', c', L', b2, o2, c2, L2, b3, o3, c3, L3, b4, o4, c4, L4, z1, z2, ?act_2, Lib.hid ⟨hb.trans (h.mono hb.size), F0, fun _ => rfl, fun _ _ => rfl, fun _ _ => hw.wh, F3, F4, F5, fun h0 h1 => (W5 h0 h1).below h, F6, fun h0 => (W6 h0).below h, F7, F8, F9, O7, O8, O9, O12, O13, B1.keep 2 (by decide) (by decide) (fun _ _ _ g => g.kept h), B2.keep 2 (by decide) (by decide) (fun _ _ _ g => g.kept h), n12, N1, N2⟩⟩
      case act_2 => (simp only [Batch.lay, List.foldl_cons, List.foldl_nil, Act.put, List.setIfInBounds_toArray, List.set_cons_zero, List.set_cons_succ]; (try rfl))
    refine' Batch.StepsI.cons (i := 3) ?ho_3 rfl ?st_3 ?more_3
    case ho_3 => (simp only [List.getElem?_toArray, List.getElem?_cons_succ, List.getElem?_cons_zero]; rfl)
    case st_3 =>
      intro D a wx K hD hp hI hK
      obtain ⟨x0, x1, x2, x3, x4, x5, x6, x7, x8, x9, x10, x11, b1, o1, c1, L1, b2, o2, c2, L2, b3, o3, c3, L3, b4, o4, c4, L4, z1, z2, ha, hF⟩ := hI.out
      have hb := Lib.hid hF.out.1
      simp only [ha, Batch.lay, List.foldl_cons, List.foldl_nil, Act.put, List.setIfInBounds_toArray, List.set_cons_zero, List.set_cons_succ]
      go_simp
      clear ha
      clear hb
      obtain ⟨hb, F0, F1, F2, W2, F3, F4, F5, W5, F6, W6, F7, F8, F9, O7, O8, O9, O12, O13, B1, B2, n12, N1, N2⟩ := hF.out
      refine' hK.out _ _ ⟨x0, x1, x2, .pointer (some ⟨w.heap.size, 1, none⟩), x4, x5, x6, x7, x8, x9, x10, x11, b1, o1, c1, L1, b2, o2, c2, L2, b3, o3, c3, L3, b4, o4, c4, L4, z1, z2, ?act_3, Lib.hid ⟨hb, F0, F1, F2, W2, fun _ => rfl, F4, F5, W5, F6, W6, F7, F8, F9, O7, O8, O9, O12, O13, B1.keep 3 (by decide) (by decide) (fun _ _ _ g => g), B2.keep 3 (by decide) (by decide) (fun _ _ _ g => g), n12, N1, N2⟩⟩
      case act_3 => (simp only [Batch.lay, List.foldl_cons, List.foldl_nil, Act.put, List.setIfInBounds_toArray, List.set_cons_zero, List.set_cons_succ]; (try rfl))
    refine' Batch.StepsI.cons (i := 4) ?ho_4 rfl ?st_4 ?more_4
    case ho_4 => (simp only [List.getElem?_toArray, List.getElem?_cons_succ, List.getElem?_cons_zero]; rfl)
    case st_4 =>
      intro D a wx K hD hp hI hK
      obtain ⟨x0, x1, x2, x3, x4, x5, x6, x7, x8, x9, x10, x11, b1, o1, c1, L1, b2, o2, c2, L2, b3, o3, c3, L3, b4, o4, c4, L4, z1, z2, ha, hF⟩ := hI.out
      have hb := Lib.hid hF.out.1
      obtain rfl := hF.out.2.2.2.2.2.1 (Batch.alls_has (k := 3) hp.out rfl)
      obtain ⟨c0, c1⟩ := HC.out wx hb.out
      simp only [ha, Batch.lay, List.foldl_cons, List.foldl_nil, Act.put, List.setIfInBounds_toArray, List.set_cons_zero, List.set_cons_succ]
      go_simp
      clear ha
      clear c0 c1
      clear hb
      obtain ⟨hb, F0, F1, F2, W2, F3, F4, F5, W5, F6, W6, F7, F8, F9, O7, O8, O9, O12, O13, B1, B2, n12, N1, N2⟩ := hF.out
      refine' hK.out _ _ ⟨x0, x1, x2, .pointer (some ⟨w.heap.size, 1, none⟩), .string t, x5, x6, x7, x8, x9, x10, x11, b1, o1, c1, L1, b2, o2, c2, L2, b3, o3, c3, L3, b4, o4, c4, L4, z1, z2, ?act_4, Lib.hid ⟨hb, F0, F1, F2, W2, fun _ => rfl, fun _ => rfl, F5, W5, F6, W6, F7, F8, F9, O7, O8, O9, O12, O13, B1.keep 4 (by decide) (by decide) (fun _ _ _ g => g), B2.keep 4 (by decide) (by decide) (fun _ _ _ g => g), n12, N1, N2⟩⟩
      case act_4 => (simp only [Batch.lay, List.foldl_cons, List.foldl_nil, Act.put, List.setIfInBounds_toArray, List.set_cons_zero, List.set_cons_succ]; (try rfl))
    refine' Batch.StepsI.cons (i := 5) ?ho_5 rfl ?st_5 ?more_5
    case ho_5 => (simp only [List.getElem?_toArray, List.getElem?_cons_succ, List.getElem?_cons_zero]; rfl)
    case st_5 =>
      intro D a wx K hD hp hI hK
      obtain ⟨x0, x1, x2, x3, x4, x5, x6, x7, x8, x9, x10, x11, b1, o1, c1, L1, b2, o2, c2, L2, b3, o3, c3, L3, b4, o4, c4, L4, z1, z2, ha, hF⟩ := hI.out
      have hb := Lib.hid hF.out.1
      obtain rfl := hF.out.2.2.2.2.2.2.1 (Batch.alls_has (k := 4) hp.out rfl)
      simp only [ha, Batch.lay, List.foldl_cons, List.foldl_nil, Act.put, List.setIfInBounds_toArray, List.set_cons_zero, List.set_cons_succ]
      go_simp
      clear ha
      go_at_call 25
      refine (HT2.out wx).mono ?_
      rintro e wy ⟨⟨b', o', c', L', rfl, hw⟩, h⟩
      (try go_wp2_with fail)
      clear hb
      obtain ⟨hb, F0, F1, F2, W2, F3, F4, F5, W5, F6, W6, F7, F8, F9, O7, O8, O9, O12, O13, B1, B2, n12, N1, N2⟩ := hF.out
      refine' hK.out _ _ ⟨x0, x1, x2, x3, .string t, .agg #[.bool b', .slice o' L'.length c'], x6, x7, x8, x9, x10, x11, b1, o1, c1, L1, b', o', c', L', b3, o3, c3, L3, b4, o4, c4, L4, z1, z2, ?act_5, Lib.hid ⟨hb.trans (h.mono hb.size), F0, F1, F2, fun h0 h1 => (W2 h0 h1).below h, F3, fun _ => rfl, fun _ _ => rfl, fun _ _ => hw.wh, F6, fun h0 => (W6 h0).below h, F7, F8, F9, O7, O8, O9, O12, O13, B1.keep 5 (by decide) (by decide) (fun _ _ _ g => g.kept h), B2.keep 5 (by decide) (by decide) (fun _ _ _ g => g.kept h), n12, N1, N2⟩⟩
      case act_5 => (simp only [Batch.lay, List.foldl_cons, List.foldl_nil, Act.put, List.setIfInBounds_toArray, List.set_cons_zero, List.set_cons_succ]; (try rfl))
    refine' Batch.StepsI.cons (i := 6) ?ho_6 rfl ?st_6 ?more_6
    case ho_6 => (simp only [List.getElem?_toArray, List.getElem?_cons_succ, List.getElem?_cons_zero]; rfl)
    case st_6 =>
      intro D a wx K hD hp hI hK
      obtain ⟨x0, x1, x2, x3, x4, x5, x6, x7, x8, x9, x10, x11, b1, o1, c1, L1, b2, o2, c2, L2, b3, o3, c3, L3, b4, o4, c4, L4, z1, z2, ha, hF⟩ := hI.out
      have hb := Lib.hid hF.out.1
      obtain rfl := hF.out.2.2.2.1 (Batch.alls_has (k := 2) hp.out rfl) hD
      obtain rfl := hF.out.2.2.2.2.2.2.2.1 (Batch.alls_has (k := 5) hp.out rfl) hD
      have HW1 := Lib.hid (hF.out.2.2.2.2.1 (Batch.alls_has (k := 2) hp.out rfl) hD)
      have HW2 := Lib.hid (hF.out.2.2.2.2.2.2.2.2.1 (Batch.alls_has (k := 5) hp.out rfl) hD)
      simp only [ha, Batch.lay, List.foldl_cons, List.foldl_nil, Act.put, List.setIfInBounds_toArray, List.set_cons_zero, List.set_cons_succ]
      go_simp
      clear ha
      go_at_call 106
      refine (HFL.out b1 o1 c1 L1 b2 o2 c2 L2 wx (HSB.out _ hb.out) HW1.out HW2.out).mono ?_
      rintro e wy ⟨⟨b3n, o3n, c3n, L3n, b4n, o4n, c4n, L4n, rfl, hw, _⟩, h⟩
      (try go_wp2_with fail)
      clear HW1 HW2
      clear hb
      obtain ⟨hb, F0, F1, F2, W2, F3, F4, F5, W5, F6, W6, F7, F8, F9, O7, O8, O9, O12, O13, B1, B2, n12, N1, N2⟩ := hF.out
      refine' hK.out _ _ ⟨x0, x1, .agg #[.bool b1, .slice o1 L1.length c1], x3, x4, .agg #[.bool b2, .slice o2 L2.length c2], .tuple #[.agg #[.bool b3n, .slice o3n L3n.length c3n], .agg #[.bool b4n, .slice o4n L4n.length c4n]], x7, x8, x9, x10, x11, b1, o1, c1, L1, b2, o2, c2, L2, b3n, o3n, c3n, L3n, b4n, o4n, c4n, L4n, z1, z2, ?act_6, Lib.hid ⟨hb.trans (h.mono hb.size), F0, F1, fun _ h => (Bool.false_ne_true (h.symm.trans rfl)).elim, fun _ h => (Bool.false_ne_true (h.symm.trans rfl)).elim, F3, F4, fun _ h => (Bool.false_ne_true (h.symm.trans rfl)).elim, fun _ h => (Bool.false_ne_true (h.symm.trans rfl)).elim, fun _ => rfl, fun _ => hw.wh, fun e => (Bool.false_ne_true (hD.symm.trans (O7 e))).elim, fun e => (Bool.false_ne_true (hD.symm.trans (O8 e))).elim, fun e => (Bool.false_ne_true (hD.symm.trans (O9 e))).elim, fun _ => rfl, fun _ => rfl, fun _ => rfl, fun _ => rfl, fun _ => rfl, (B1.re (by cases e : D 12 with | false => rfl | true => exact (Bool.false_ne_true (hD.symm.trans (O12 e))).elim) _ _).keep 6 (by decide) (by decide) (fun _ _ _ g => g.kept h), (B2.re (by cases e : D 13 with | false => rfl | true => exact (Bool.false_ne_true (hD.symm.trans (O13 e))).elim) _ _).keep 6 (by decide) (by decide) (fun _ _ _ g => g.kept h), n12, fun _ e => hw.new.ne (B1.lt e).2, fun _ e => hw.new.ne (B2.lt e).2⟩⟩
      case act_6 => (simp only [Batch.lay, List.foldl_cons, List.foldl_nil, Act.put, List.setIfInBounds_toArray, List.set_cons_zero, List.set_cons_succ]; (try rfl))
    refine' Batch.StepsI.cons (i := 7) ?ho_7 rfl ?st_7 ?more_7
    case ho_7 => (simp only [List.getElem?_toArray, List.getElem?_cons_succ, List.getElem?_cons_zero]; rfl)
    case st_7 =>
      intro D a wx K hD hp hI hK
      obtain ⟨x0, x1, x2, x3, x4, x5, x6, x7, x8, x9, x10, x11, b1, o1, c1, L1, b2, o2, c2, L2, b3, o3, c3, L3, b4, o4, c4, L4, z1, z2, ha, hF⟩ := hI.out
      have hb := Lib.hid hF.out.1
      obtain rfl := hF.out.2.2.2.2.2.2.2.2.2.1 (Batch.alls_has (k := 6) hp.out rfl)
      simp only [ha, Batch.lay, List.foldl_cons, List.foldl_nil, Act.put, List.setIfInBounds_toArray, List.set_cons_zero, List.set_cons_succ]
      go_simp
      clear ha
      clear hb
      obtain ⟨hb, F0, F1, F2, W2, F3, F4, F5, W5, F6, W6, F7, F8, F9, O7, O8, O9, O12, O13, B1, B2, n12, N1, N2⟩ := hF.out
      refine' hK.out _ _ ⟨x0, x1, x2, x3, x4, x5, .tuple #[.agg #[.bool b3, .slice o3 L3.length c3], .agg #[.bool b4, .slice o4 L4.length c4]], .tuple #[.agg #[.bool b3, .slice o3 L3.length c3], .agg #[.bool b4, .slice o4 L4.length c4]], x8, x9, x10, x11, b1, o1, c1, L1, b2, o2, c2, L2, b3, o3, c3, L3, b4, o4, c4, L4, z1, z2, ?act_7, Lib.hid ⟨hb, F0, F1, F2, W2, F3, F4, F5, W5, fun _ => rfl, W6, fun _ => rfl, F8, F9, fun _ => (Batch.alls_has (k := 6) hp.out rfl), O8, O9, O12, O13, B1.keep 7 (by decide) (by decide) (fun _ _ _ g => g), B2.keep 7 (by decide) (by decide) (fun _ _ _ g => g), n12, N1, N2⟩⟩
      case act_7 => (simp only [Batch.lay, List.foldl_cons, List.foldl_nil, Act.put, List.setIfInBounds_toArray, List.set_cons_zero, List.set_cons_succ]; (try rfl))
    refine' Batch.StepsI.cons (i := 8) ?ho_8 rfl ?st_8 ?more_8
    case ho_8 => (simp only [List.getElem?_toArray, List.getElem?_cons_succ, List.getElem?_cons_zero]; rfl)
    case st_8 =>
      intro D a wx K hD hp hI hK
      obtain ⟨x0, x1, x2, x3, x4, x5, x6, x7, x8, x9, x10, x11, b1, o1, c1, L1, b2, o2, c2, L2, b3, o3, c3, L3, b4, o4, c4, L4, z1, z2, ha, hF⟩ := hI.out
      have hb := Lib.hid hF.out.1
      have o6 := hF.out.2.2.2.2.2.2.2.2.2.2.2.2.2.2.1 (Batch.alls_has (k := 7) hp.out rfl)
      obtain rfl := hF.out.2.2.2.2.2.2.2.2.2.2.2.1 (Batch.alls_has (k := 7) hp.out rfl)
      simp only [ha, Batch.lay, List.foldl_cons, List.foldl_nil, Act.put, List.setIfInBounds_toArray, List.set_cons_zero, List.set_cons_succ]
      go_simp
      clear ha
      clear hb
      obtain ⟨hb, F0, F1, F2, W2, F3, F4, F5, W5, F6, W6, F7, F8, F9, O7, O8, O9, O12, O13, B1, B2, n12, N1, N2⟩ := hF.out
      refine' hK.out _ _ ⟨x0, x1, x2, x3, x4, x5, x6, .tuple #[.agg #[.bool b3, .slice o3 L3.length c3], .agg #[.bool b4, .slice o4 L4.length c4]], .agg #[.bool b3, .slice o3 L3.length c3], x9, x10, x11, b1, o1, c1, L1, b2, o2, c2, L2, b3, o3, c3, L3, b4, o4, c4, L4, z1, z2, ?act_8, Lib.hid ⟨hb, F0, F1, F2, W2, F3, F4, F5, W5, F6, W6, fun _ => rfl, fun _ => rfl, F9, O7, fun _ => o6, O9, O12, O13, B1.keep 8 (by decide) (by decide) (fun _ _ _ g => g), B2.keep 8 (by decide) (by decide) (fun _ _ _ g => g), n12, N1, N2⟩⟩
      case act_8 => (simp only [Batch.lay, List.foldl_cons, List.foldl_nil, Act.put, List.setIfInBounds_toArray, List.set_cons_zero, List.set_cons_succ]; (try rfl))
    refine' Batch.StepsI.cons (i := 9) ?ho_9 rfl ?st_9 ?more_9
    case ho_9 => (simp only [List.getElem?_toArray, List.getElem?_cons_succ, List.getElem?_cons_zero]; rfl)
    case st_9 =>
      intro D a wx K hD hp hI hK
      obtain ⟨x0, x1, x2, x3, x4, x5, x6, x7, x8, x9, x10, x11, b1, o1, c1, L1, b2, o2, c2, L2, b3, o3, c3, L3, b4, o4, c4, L4, z1, z2, ha, hF⟩ := hI.out
      have hb := Lib.hid hF.out.1
      have o6 := hF.out.2.2.2.2.2.2.2.2.2.2.2.2.2.2.1 (Batch.alls_has (k := 7) hp.out rfl)
      obtain rfl := hF.out.2.2.2.2.2.2.2.2.2.2.2.1 (Batch.alls_has (k := 7) hp.out rfl)
      simp only [ha, Batch.lay, List.foldl_cons, List.foldl_nil, Act.put, List.setIfInBounds_toArray, List.set_cons_zero, List.set_cons_succ]
      go_simp
      clear ha
      clear hb
      obtain ⟨hb, F0, F1, F2, W2, F3, F4, F5, W5, F6, W6, F7, F8, F9, O7, O8, O9, O12, O13, B1, B2, n12, N1, N2⟩ := hF.out
      refine' hK.out _ _ ⟨x0, x1, x2, x3, x4, x5, x6, .tuple #[.agg #[.bool b3, .slice o3 L3.length c3], .agg #[.bool b4, .slice o4 L4.length c4]], x8, .agg #[.bool b4, .slice o4 L4.length c4], x10, x11, b1, o1, c1, L1, b2, o2, c2, L2, b3, o3, c3, L3, b4, o4, c4, L4, z1, z2, ?act_9, Lib.hid ⟨hb, F0, F1, F2, W2, F3, F4, F5, W5, F6, W6, fun _ => rfl, F8, fun _ => rfl, O7, O8, fun _ => o6, O12, O13, B1.keep 9 (by decide) (by decide) (fun _ _ _ g => g), B2.keep 9 (by decide) (by decide) (fun _ _ _ g => g), n12, N1, N2⟩⟩
      case act_9 => (simp only [Batch.lay, List.foldl_cons, List.foldl_nil, Act.put, List.setIfInBounds_toArray, List.set_cons_zero, List.set_cons_succ]; (try rfl))
    refine' Batch.StepsI.cons (i := 10) ?ho_10 rfl ?st_10 ?more_10
    case ho_10 => (simp only [List.getElem?_toArray, List.getElem?_cons_succ, List.getElem?_cons_zero]; rfl)
    case st_10 =>
      intro D a wx K hD hp hI hK
      obtain ⟨x0, x1, x2, x3, x4, x5, x6, x7, x8, x9, x10, x11, b1, o1, c1, L1, b2, o2, c2, L2, b3, o3, c3, L3, b4, o4, c4, L4, z1, z2, ha, hF⟩ := hI.out
      have hb := Lib.hid hF.out.1
      simp only [ha, Batch.lay, List.foldl_cons, List.foldl_nil, Act.put, List.setIfInBounds_toArray, List.set_cons_zero, List.set_cons_succ]
      go_simp
      clear ha
      clear hb
      obtain ⟨hb, F0, F1, F2, W2, F3, F4, F5, W5, F6, W6, F7, F8, F9, O7, O8, O9, O12, O13, B1, B2, n12, N1, N2⟩ := hF.out
      refine' hK.out _ _ ⟨x0, x1, x2, x3, x4, x5, x6, x7, x8, x9, .pointer (some ⟨wx.heap.size, 0, none⟩), x11, b1, o1, c1, L1, b2, o2, c2, L2, b3, o3, c3, L3, b4, o4, c4, L4, wx.heap.size, z2, ?act_10, Lib.hid ⟨hb.alloc hb.size _, F0, F1, F2, fun h0 h1 => (W2 h0 h1).below ((Below.refl _ _).alloc (Nat.le_refl _) _), F3, F4, F5, fun h0 h1 => (W5 h0 h1).below ((Below.refl _ _).alloc (Nat.le_refl _) _), F6, fun h0 => (W6 h0).below ((Below.refl _ _).alloc (Nat.le_refl _) _), F7, F8, F9, O7, O8, O9, O12, O13, B1.alloc hD (by decide) hb.size, B2.keep 10 (by decide) (by decide) (fun _ _ _ g => g.alloc _), fun _ e => (by have e2 := (B2.lt e).2; omega), fun e _ g' h' => Nat.ne_of_lt ((W6 e).pd.lt g' h'), N2⟩⟩
      case act_10 => (simp only [Batch.lay, List.foldl_cons, List.foldl_nil, Act.put, List.setIfInBounds_toArray, List.set_cons_zero, List.set_cons_succ]; (try rfl))
    refine' Batch.StepsI.cons (i := 11) ?ho_11 rfl ?st_11 ?more_11
    case ho_11 => (simp only [List.getElem?_toArray, List.getElem?_cons_succ, List.getElem?_cons_zero]; rfl)
    case st_11 =>
      intro D a wx K hD hp hI hK
      obtain ⟨x0, x1, x2, x3, x4, x5, x6, x7, x8, x9, x10, x11, b1, o1, c1, L1, b2, o2, c2, L2, b3, o3, c3, L3, b4, o4, c4, L4, z1, z2, ha, hF⟩ := hI.out
      have hb := Lib.hid hF.out.1
      simp only [ha, Batch.lay, List.foldl_cons, List.foldl_nil, Act.put, List.setIfInBounds_toArray, List.set_cons_zero, List.set_cons_succ]
      go_simp
      clear ha
      clear hb
      obtain ⟨hb, F0, F1, F2, W2, F3, F4, F5, W5, F6, W6, F7, F8, F9, O7, O8, O9, O12, O13, B1, B2, n12, N1, N2⟩ := hF.out
      refine' hK.out _ _ ⟨x0, x1, x2, x3, x4, x5, x6, x7, x8, x9, x10, .pointer (some ⟨wx.heap.size, 0, none⟩), b1, o1, c1, L1, b2, o2, c2, L2, b3, o3, c3, L3, b4, o4, c4, L4, z1, wx.heap.size, ?act_11, Lib.hid ⟨hb.alloc hb.size _, F0, F1, F2, fun h0 h1 => (W2 h0 h1).below ((Below.refl _ _).alloc (Nat.le_refl _) _), F3, F4, F5, fun h0 h1 => (W5 h0 h1).below ((Below.refl _ _).alloc (Nat.le_refl _) _), F6, fun h0 => (W6 h0).below ((Below.refl _ _).alloc (Nat.le_refl _) _), F7, F8, F9, O7, O8, O9, O12, O13, B1.keep 11 (by decide) (by decide) (fun _ _ _ g => g.alloc _), B2.alloc hD (by decide) hb.size, fun e _ => (by have e2 := (B1.lt e).2; omega), N1, fun e _ g' h' => Nat.ne_of_lt ((W6 e).pd.lt g' h')⟩⟩
      case act_11 => (simp only [Batch.lay, List.foldl_cons, List.foldl_nil, Act.put, List.setIfInBounds_toArray, List.set_cons_zero, List.set_cons_succ]; (try rfl))
    refine' Batch.StepsI.cons (i := 12) ?ho_12 rfl ?st_12 ?more_12
    case ho_12 => (simp only [List.getElem?_toArray, List.getElem?_cons_succ, List.getElem?_cons_zero]; rfl)
    case st_12 =>
      intro D a wx K hD hp hI hK
      obtain ⟨x0, x1, x2, x3, x4, x5, x6, x7, x8, x9, x10, x11, b1, o1, c1, L1, b2, o2, c2, L2, b3, o3, c3, L3, b4, o4, c4, L4, z1, z2, ha, hF⟩ := hI.out
      have hb := Lib.hid hF.out.1
      obtain rfl := hF.out.2.2.2.2.2.2.2.2.2.2.2.2.2.2.2.2.2.2.2.1.ptr (Batch.alls_has (k := 10) hp.out rfl)
      obtain rfl := hF.out.2.2.2.2.2.2.2.2.2.2.2.2.1 (Batch.alls_has (k := 8) hp.out rfl)
      have HT := Lib.hid (hF.out.2.2.2.2.2.2.2.2.2.2.2.2.2.2.2.2.2.2.2.1.new (Batch.alls_has (k := 10) hp.out rfl) hD)
      obtain ⟨y0, y1, y2, y3, y4, y5, y6⟩ := HT.out.stores (.bool b3) (.slice o3 L3.length c3)
      simp only [ha, Batch.lay, List.foldl_cons, List.foldl_nil, Act.put, List.setIfInBounds_toArray, List.set_cons_zero, List.set_cons_succ]
      go_simp
      clear ha
      clear y0 y1 y2 y3 y4 y5 y6
      clear hb
      obtain ⟨hb, F0, F1, F2, W2, F3, F4, F5, W5, F6, W6, F7, F8, F9, O7, O8, O9, O12, O13, B1, B2, n12, N1, N2⟩ := hF.out
      refine' hK.out _ _ ⟨x0, x1, x2, x3, x4, x5, x6, x7, .agg #[.bool b3, .slice o3 L3.length c3], x9, .pointer (some ⟨z1, 0, none⟩), x11, b1, o1, c1, L1, b2, o2, c2, L2, b3, o3, c3, L3, b4, o4, c4, L4, z1, z2, ?act_12, Lib.hid ⟨(hb.setCell (p := ⟨z1, 0, none⟩) HT.out.lt.1 (.bool b3)).setCell (p := ⟨z1, 1, none⟩) HT.out.lt.1 (.slice o3 L3.length c3), F0, F1, F2, fun _ h => (Bool.false_ne_true (h.symm.trans (Batch.alls_has (k := 6) hp.out rfl))).elim, F3, F4, F5, fun _ h => (Bool.false_ne_true (h.symm.trans (Batch.alls_has (k := 6) hp.out rfl))).elim, F6, fun e => (W6 e).two _ _ (N1 e (Batch.alls_has (k := 10) hp.out rfl)), F7, fun _ => rfl, F9, O7, O8, O9, fun _ => (Batch.alls_has (k := 6) hp.out rfl), O13, B1.store (Batch.alls_has hp.out rfl) hD (by decide), B2.keep 12 (by decide) (by decide) (fun hx _ _ g => g.two ((n12 (Batch.alls_has hp.out rfl) hx).symm) _ _), n12, N1, N2⟩⟩
      case act_12 => (simp only [Batch.lay, List.foldl_cons, List.foldl_nil, Act.put, List.setIfInBounds_toArray, List.set_cons_zero, List.set_cons_succ]; (try rfl))
    refine' Batch.StepsI.cons (i := 13) ?ho_13 rfl ?st_13 ?more_13
    case ho_13 => (simp only [List.getElem?_toArray, List.getElem?_cons_succ, List.getElem?_cons_zero]; rfl)
    case st_13 =>
      intro D a wx K hD hp hI hK
      obtain ⟨x0, x1, x2, x3, x4, x5, x6, x7, x8, x9, x10, x11, b1, o1, c1, L1, b2, o2, c2, L2, b3, o3, c3, L3, b4, o4, c4, L4, z1, z2, ha, hF⟩ := hI.out
      have hb := Lib.hid hF.out.1
      obtain rfl := hF.out.2.2.2.2.2.2.2.2.2.2.2.2.2.2.2.2.2.2.2.2.1.ptr (Batch.alls_has (k := 11) hp.out rfl)
      obtain rfl := hF.out.2.2.2.2.2.2.2.2.2.2.2.2.2.1 (Batch.alls_has (k := 9) hp.out rfl)
      have HT := Lib.hid (hF.out.2.2.2.2.2.2.2.2.2.2.2.2.2.2.2.2.2.2.2.2.1.new (Batch.alls_has (k := 11) hp.out rfl) hD)
      obtain ⟨y0, y1, y2, y3, y4, y5, y6⟩ := HT.out.stores (.bool b4) (.slice o4 L4.length c4)
      simp only [ha, Batch.lay, List.foldl_cons, List.foldl_nil, Act.put, List.setIfInBounds_toArray, List.set_cons_zero, List.set_cons_succ]
      go_simp
      clear ha
      clear y0 y1 y2 y3 y4 y5 y6
      clear hb
      obtain ⟨hb, F0, F1, F2, W2, F3, F4, F5, W5, F6, W6, F7, F8, F9, O7, O8, O9, O12, O13, B1, B2, n12, N1, N2⟩ := hF.out
      refine' hK.out _ _ ⟨x0, x1, x2, x3, x4, x5, x6, x7, x8, .agg #[.bool b4, .slice o4 L4.length c4], x10, .pointer (some ⟨z2, 0, none⟩), b1, o1, c1, L1, b2, o2, c2, L2, b3, o3, c3, L3, b4, o4, c4, L4, z1, z2, ?act_13, Lib.hid ⟨(hb.setCell (p := ⟨z2, 0, none⟩) HT.out.lt.1 (.bool b4)).setCell (p := ⟨z2, 1, none⟩) HT.out.lt.1 (.slice o4 L4.length c4), F0, F1, F2, fun _ h => (Bool.false_ne_true (h.symm.trans (Batch.alls_has (k := 6) hp.out rfl))).elim, F3, F4, F5, fun _ h => (Bool.false_ne_true (h.symm.trans (Batch.alls_has (k := 6) hp.out rfl))).elim, F6, fun e => (W6 e).two _ _ (N2 e (Batch.alls_has (k := 11) hp.out rfl)), F7, F8, fun _ => rfl, O7, O8, O9, O12, fun _ => (Batch.alls_has (k := 6) hp.out rfl), B1.keep 13 (by decide) (by decide) (fun hx _ _ g => g.two (n12 hx (Batch.alls_has hp.out rfl)) _ _), B2.store (Batch.alls_has hp.out rfl) hD (by decide), n12, N1, N2⟩⟩
      case act_13 => (simp only [Batch.lay, List.foldl_cons, List.foldl_nil, Act.put, List.setIfInBounds_toArray, List.set_cons_zero, List.set_cons_succ]; (try rfl))
    exact Batch.StepsI.nil
  intro D a v hD hI
  obtain ⟨x0, x1, x2, x3, x4, x5, x6, x7, x8, x9, x10, x11, b1, o1, c1, L1, b2, o2, c2, L2, b3, o3, c3, L3, b4, o4, c4, L4, z1, z2, ha, hF⟩ := hI.out
  obtain rfl := hF.out.2.1 (hD _ (by decide))
  obtain rfl := hF.out.2.2.1 (hD _ (by decide))
  obtain rfl := hF.out.2.2.2.2.2.1 (hD _ (by decide))
  obtain rfl := hF.out.2.2.2.2.2.2.1 (hD _ (by decide))
  obtain rfl := hF.out.2.2.2.2.2.2.2.2.2.1 (hD _ (by decide))
  obtain rfl := hF.out.2.2.2.2.2.2.2.2.2.2.2.1 (hD _ (by decide))
  obtain rfl := hF.out.2.2.2.2.2.2.2.2.2.2.2.2.1 (hD _ (by decide))
  obtain rfl := hF.out.2.2.2.2.2.2.2.2.2.2.2.2.2.1 (hD _ (by decide))
  obtain rfl := hF.out.2.2.2.2.2.2.2.2.2.2.2.2.2.2.2.2.2.2.2.1.ptr (hD _ (by decide))
  obtain rfl := hF.out.2.2.2.2.2.2.2.2.2.2.2.2.2.2.2.2.2.2.2.2.1.ptr (hD _ (by decide))
  have HB1 := Lib.hid (hF.out.2.2.2.2.2.2.2.2.2.2.2.2.2.2.2.2.2.2.2.1.full (hD _ (by decide)))
  have HW6 := Lib.hid (hF.out.2.2.2.2.2.2.2.2.2.2.1 (hD _ (by decide)))
  have YA := Lib.hid hF.out.1
  clear hF
  simp only [ha, Batch.lay, List.foldl_cons, List.foldl_nil, Act.put, List.setIfInBounds_toArray, List.set_cons_zero, List.set_cons_succ]
  clear hI hD ha
  have c0 := HB1.out.c0
  have c1 := HB1.out.c1
  go_wp2_with fail
  refine (HFR.out b3 o3 c3 L3 _ (HSB.out _ YA.out) HW6.out).mono ?_
  rintro e w2 ⟨rfl, b⟩
  have YB := Lib.hid (YA.out.trans (b.mono YA.out.size))
  clear b c0 c1
  go_wp2_with fail
  go_ret
  exact ⟨rfl, HBW.out.trans (YB.out.mono HBW.out.size)⟩
end Go.Proofs.YtdgbplppabalgaaGreatDoor

namespace Go.Proofs.YtdgbplppabalgaaGreatDoor
open Go.RowKit

/-- the floor does not hang on the form of a fraction -/
theorem fdiv_low (m : Int) {e : Nat} (he : 0 < e) : (lowN m e).fdiv (lowD m e : Int) = m.fdiv (e : Int) := by
  have hE := (low_right m he).pos
  have h1 := low_parts m e
  have h2 := Int.fmod_add_mul_fdiv (lowN m e) (lowD m e : Int)
  have h3 := fmod_pos (lowN m e) (y := (lowD m e : Int)) (by omega)
  obtain ⟨g, hg⟩ : ∃ g, g = Nat.gcd m.natAbs e := ⟨_, rfl⟩
  rw [← hg] at h1
  obtain ⟨N, hN⟩ : ∃ N, N = lowN m e := ⟨_, rfl⟩
  obtain ⟨E, hE2⟩ : ∃ E, E = lowD m e := ⟨_, rfl⟩
  rw [← hN, ← hE2] at h1 h2 h3 ⊢
  rw [← hE2] at hE
  obtain ⟨q, hq⟩ : ∃ q, q = N.fdiv (E : Int) := ⟨_, rfl⟩
  obtain ⟨r, hr⟩ : ∃ r, r = N.fmod (E : Int) := ⟨_, rfl⟩
  rw [← hq, ← hr] at h2
  rw [← hr] at h3
  rw [← hq]
  have hg0 : 0 < g := by
    rcases Nat.eq_zero_or_pos g with h | h
    · rw [h, Nat.zero_mul] at h1; omega
    · exact h
  have hg1 : (0 : Int) < g := by omega
  have e1 : (e : Int) = g * E := by rw [h1.2]; exact Int.natCast_mul g E
  have h5 : 0 ≤ (g : Int) * r := Int.mul_nonneg (by omega) h3.1
  have h6 : (g : Int) * r < g * E := Int.mul_lt_mul_of_pos_left h3.2 hg1
  have h := fl_unique (x := m) (y := (e : Int)) (q := q) (r := (g : Int) * r) (by rw [h1.1, e1, ← h2]; grind) (.inl ⟨h5, by rw [e1]; exact h6⟩)
  exact h.1
set_option maxHeartbeats 1600000 in
set_option maxRecDepth 100000 in
theorem rnrY_any (n d : Int) (w : World) (hs : Std w) (h1 : (str n.natAbs).size ≤ 5000) (h2 : (str d.natAbs).size ≤ 5000) (hp : 0 < d) :
    Calls Tryz.prog 57 #[ratV (zS n) (zS d)] w fun e w' => e = .returned (.string (zS ((n + n + d).fdiv (d + d)))) ∧ Below w.heap.size w w' := by
  have HFR := Lib.hid (fun wx (hw : Std wx) => fracY_any 1 2 wx hw (by decide) (by decide) (by decide) (by decide) (by decide))
  rw [show newN 1 2 = 1 by unfold newN lowN; decide, show newD 1 2 = 2 by unfold newD lowD; decide] at HFR
  have HAD := fun wx (hw : Std wx) => addY_any n d 1 2 wx hw (by omega) (by omega) (Nat.le_trans (str_big (n := 1) (by decide) (by decide)) (by decide)) (Nat.le_trans (str_big (n := 1) (by decide) (by decide)) (by decide)) hp (by decide)
  have ed : (d * 2).natAbs = (d + d).natAbs := by omega
  have en : n * 2 + 1 * d = n + n + d := by omega
  rw [ed, en] at HAD
  have hlow := fdiv_low (n + n + d) (e := (d + d).natAbs) (by omega)
  have z1 : (str (n + n + d).natAbs).size ≤ 5002 := zsz_add2 (zsz_add2 h1 h1 (by omega)) (Nat.le_trans h2 (by omega)) (by omega)
  have z2 : (str (d + d).natAbs).size ≤ 5001 := zsz_add2 h2 h2 (by omega)
  have hpos := (low_right (n + n + d) (d := (d + d).natAbs) (by omega)).pos
  have z3 : (str (lowN (n + n + d) (d + d).natAbs).natAbs).size ≤ 10000 := Nat.le_trans (zsz_le z1 (lowN_nat _ _)) (by omega)
  have z4 : (str (lowD (n + n + d) (d + d).natAbs)).size ≤ 10000 := Nat.le_trans (zsz_le z2 (Nat.div_le_self _ _)) (by omega)
  have HFL := fun wx (hw : Std wx) => rflY_any (lowN (n + n + d) (d + d).natAbs) ((lowD (n + n + d) (d + d).natAbs : Nat) : Int) wx hw z3 (by rw [Int.natAbs_natCast]; exact z4) (by omega)
  rw [hlow, sd, show (((d + d).natAbs : Nat) : Int) = d + d by omega] at HFL
  have HSB0 := Lib.hid hs
  have HAD := Lib.hid HAD
  have HFL := Lib.hid HFL
  obtain ⟨s, hs1⟩ : ∃ s, s = zS n := ⟨_, rfl⟩
  obtain ⟨t, ht1⟩ : ∃ s, s = zS d := ⟨_, rfl⟩
  obtain ⟨p, hp1⟩ : ∃ s, s = zS (lowN (n + n + d) (d + d).natAbs) := ⟨_, rfl⟩
  obtain ⟨q, hq1⟩ : ∃ s, s = str (lowD (n + n + d) (d + d).natAbs) := ⟨_, rfl⟩
  obtain ⟨r, hr1⟩ : ∃ s, s = zS ((n + n + d).fdiv (d + d)) := ⟨_, rfl⟩
  obtain ⟨u, hu1⟩ : ∃ s, s = zS 1 := ⟨_, rfl⟩
  obtain ⟨v, hv1⟩ : ∃ s, s = str 2 := ⟨_, rfl⟩
  have hv2 : zS 2 = v := by rw [hv1]; exact sd 2
  rw [← hs1, ← ht1, ← hp1, ← hq1, ← hu1, hv2] at HAD
  rw [← hp1, ← hq1, ← hr1] at HFL
  rw [← hu1, ← hv1] at HFR
  rw [← hs1, ← ht1, ← hr1]
  have HX := Lib.hid (BxR.new w s t)
  have HBW := Lib.hid ((Below.refl w.heap.size w).alloc (Nat.le_refl _) (ratO s t))
  clear hs h1 h2 hp ed en hlow z1 z2 z3 z4 hpos hs1 ht1 hp1 hq1 hr1 hu1 hv1 hv2
  go_enter Tryz.func57, Tryz.ntmps57
  go_upto_region 1 with fail
  obtain ⟨W0, hW0⟩ : ∃ W0, W0 = w.alloc (ratO s t) := ⟨_, rfl⟩
  rw [← hW0] at HX HBW ⊢
  clear hW0
  have HSB := Lib.hid (show ∀ wx, Below W0.heap.size W0 wx → Std wx from fun wx hx => HSB0.out.below (HBW.out.trans (hx.mono HBW.out.size)))
  have HC := Lib.hid (show ∀ wx, Below W0.heap.size W0 wx → wx.cell? ⟨w.heap.size, 0, none⟩ = some (.string s) ∧ wx.cell? ⟨w.heap.size, 1, none⟩ = some (.string t) from fun wx hx => ⟨(HX.out.below hx).num, (HX.out.below hx).den⟩)
  have Y0 := Lib.hid (Below.refl W0.heap.size W0)
  clear HX
  go_upto_region 1 with fail
  have D1_0 := Lib.hid (show Below W0.heap.size W0 W0.drew from Y0.out.trans ((Below.drew (Below.refl W0.heap.size W0)).mono Y0.out.size))
  refine Batch.wp_region_det (S := fun W => Below W0.heap.size W0 W) (by kernel_rfl) D1_0.out ?_
  refine' Batch.det_take 0 (v := ?v1) ?hi1 (by kernel_rfl) (by kernel_rfl) (by kernel_rfl) (Batch.Does.val ?hw1 ?hv1) ?rest1
  case hi1 => (simp only [List.getElem?_toArray, List.getElem?_cons_zero]; rfl)
  case hw1 => rfl
  case hv1 => (intro wx hSw; obtain ⟨c0, c1⟩ := HC.out wx hSw; go_simp; (try with_reducible rfl))
  (try simp only [Act.put, List.setIfInBounds_toArray, List.set_cons_zero, List.set_cons_succ])
  refine' Batch.det_take 1 (v := ratV u v) ?hi2 (by kernel_rfl) (by kernel_rfl) (by kernel_rfl) (Batch.Does.call ?hw2 ?hv2 ?hc2) ?rest2
  case hi2 => (simp only [List.getElem?_toArray, List.getElem?_cons_succ, List.getElem?_cons_zero]; rfl)
  case hw2 => rfl
  case hv2 => (intro wx hSw; go_simp; (first | done | exact ⟨rfl, rfl⟩ | with_reducible rfl))
  case hc2 => (intro wx hSw; refine (HFR.out _ (HSB.out _ hSw)).mono ?_; rintro e wy ⟨rfl, h⟩; exact ⟨rfl, hSw.trans (h.mono hSw.size)⟩)
  (try simp only [Act.put, List.setIfInBounds_toArray, List.set_cons_zero, List.set_cons_succ])
  refine' Batch.det_take 2 (v := ratV p q) ?hi3 (by kernel_rfl) (by kernel_rfl) (by kernel_rfl) (Batch.Does.call ?hw3 ?hv3 ?hc3) ?rest3
  case hi3 => (simp only [List.getElem?_toArray, List.getElem?_cons_succ, List.getElem?_cons_zero]; rfl)
  case hw3 => rfl
  case hv3 => (intro wx hSw; go_simp; (first | done | exact ⟨rfl, rfl⟩ | with_reducible rfl))
  case hc3 => (intro wx hSw; refine (HAD.out _ (HSB.out _ hSw)).mono ?_; rintro e wy ⟨rfl, h⟩; exact ⟨rfl, hSw.trans (h.mono hSw.size)⟩)
  (try simp only [Act.put, List.setIfInBounds_toArray, List.set_cons_zero, List.set_cons_succ])
  refine' Batch.det_take 3 (v := .string r) ?hi4 (by kernel_rfl) (by kernel_rfl) (by kernel_rfl) (Batch.Does.call ?hw4 ?hv4 ?hc4) ?rest4
  case hi4 => (simp only [List.getElem?_toArray, List.getElem?_cons_succ, List.getElem?_cons_zero]; rfl)
  case hw4 => rfl
  case hv4 => (intro wx hSw; go_simp; (first | done | exact ⟨rfl, rfl⟩ | with_reducible rfl))
  case hc4 => (intro wx hSw; refine (HFL.out _ (HSB.out _ hSw)).mono ?_; rintro e wy ⟨rfl, h⟩; exact ⟨rfl, hSw.trans (h.mono hSw.size)⟩)
  (try simp only [Act.put, List.setIfInBounds_toArray, List.set_cons_zero, List.set_cons_succ])
  refine' Batch.det_take 4 (v := ?v5) ?hi5 (by kernel_rfl) (by kernel_rfl) (by kernel_rfl) (Batch.Does.val ?hw5 ?hv5) ?rest5
  case hi5 => (simp only [List.getElem?_toArray, List.getElem?_cons_succ, List.getElem?_cons_zero]; rfl)
  case hw5 => rfl
  case hv5 => (intro wx hSw; go_simp; (try with_reducible rfl))
  (try simp only [Act.put, List.setIfInBounds_toArray, List.set_cons_zero, List.set_cons_succ])
  refine Batch.det_done (by kernel_rfl) (fun v1_1 hS => ?_) _
  have D1_1 := Lib.hid hS
  clear hS D1_0
  go_wp2_with fail
  go_ret
  exact ⟨rfl, HBW.out.trans (D1_1.out.mono HBW.out.size)⟩
end Go.Proofs.YtdgbplppabalgaaGreatDoor
