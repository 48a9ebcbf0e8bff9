/-
  Texts of one seat, joined: YMulC.
-/
import Derived.Test.YtdgbplppabalgaaGreatDoorJ18
namespace Go.Proofs.YtdgbplppabalgaaGreatDoor
open Go.RowKit

/-- what two stores into a box of two cells want and leave -/
theorem BxT.stores {W : World} {B g : Nat} {T : TypeId} {u v : Value} (h : BxT W B g T u v) (x y : Value) :
    W.frozen? ⟨g, 0, none⟩ = false ∧ W.cell? ⟨g, 0, none⟩ = some u ∧ W.cell? ⟨g, 1, none⟩ = some v ∧ (W.setCell ⟨g, 0, none⟩ x).frozen? ⟨g, 1, none⟩ = false ∧ (W.setCell ⟨g, 0, none⟩ x).cell? ⟨g, 1, none⟩ = some v ∧ ((W.setCell ⟨g, 0, none⟩ x).setCell ⟨g, 1, none⟩ y).cell? ⟨g, 0, none⟩ = some x ∧ ((W.setCell ⟨g, 0, none⟩ x).setCell ⟨g, 1, none⟩ y).cell? ⟨g, 1, none⟩ = some y :=
  ⟨h.free 0, h.c0, h.c1, (h.set0 x).free 1, (h.set0 x).c1, ((h.set0 x).set1 y).c0, ((h.set0 x).set1 y).c1⟩
/-- a fraction stored into another box, then into the result's -/
theorem store2 {w W : World} {g : Nat} (X : Bz w W) (hg : w.heap.size + 1 ≤ g) (rs rt : ByteArray) :
    ((W.setCell ⟨g, 0, none⟩ (.string rs)).setCell ⟨g, 1, none⟩ (.string rt)).frozen? ⟨w.heap.size, 0, none⟩ = false ∧
    ((W.setCell ⟨g, 0, none⟩ (.string rs)).setCell ⟨g, 1, none⟩ (.string rt)).cell? ⟨w.heap.size, 0, none⟩ = some (.string ⟨#[]⟩) ∧
    ((W.setCell ⟨g, 0, none⟩ (.string rs)).setCell ⟨g, 1, none⟩ (.string rt)).cell? ⟨w.heap.size, 1, none⟩ = some (.string ⟨#[]⟩) ∧
    (((W.setCell ⟨g, 0, none⟩ (.string rs)).setCell ⟨g, 1, none⟩ (.string rt)).setCell ⟨w.heap.size, 0, none⟩ (.string rs)).frozen? ⟨w.heap.size, 1, none⟩ = false ∧
    (((W.setCell ⟨g, 0, none⟩ (.string rs)).setCell ⟨g, 1, none⟩ (.string rt)).setCell ⟨w.heap.size, 0, none⟩ (.string rs)).cell? ⟨w.heap.size, 1, none⟩ = some (.string ⟨#[]⟩) ∧
    ((((W.setCell ⟨g, 0, none⟩ (.string rs)).setCell ⟨g, 1, none⟩ (.string rt)).setCell ⟨w.heap.size, 0, none⟩ (.string rs)).setCell ⟨w.heap.size, 1, none⟩ (.string rt)).cell? ⟨w.heap.size, 0, none⟩ = some (.string rs) ∧
    ((((W.setCell ⟨g, 0, none⟩ (.string rs)).setCell ⟨g, 1, none⟩ (.string rt)).setCell ⟨w.heap.size, 0, none⟩ (.string rs)).setCell ⟨w.heap.size, 1, none⟩ (.string rt)).cell? ⟨w.heap.size, 1, none⟩ = some (.string rt) ∧
    Below w.heap.size w ((W.setCell ⟨g, 0, none⟩ (.string rs)).setCell ⟨g, 1, none⟩ (.string rt)) ∧
    Below w.heap.size w ((((W.setCell ⟨g, 0, none⟩ (.string rs)).setCell ⟨g, 1, none⟩ (.string rt)).setCell ⟨w.heap.size, 0, none⟩ (.string rs)).setCell ⟨w.heap.size, 1, none⟩ (.string rt)) := by
  have R := (X.res.other (p := ⟨g, 0, none⟩) (show w.heap.size ≠ g by omega) (.string rs)).other (p := ⟨g, 1, none⟩) (show w.heap.size ≠ g by omega) (.string rt)
  have D := (X.below.setCell (p := ⟨g, 0, none⟩) (show w.heap.size ≤ g by omega) (.string rs)).setCell (p := ⟨g, 1, none⟩) (show w.heap.size ≤ g by omega) (.string rt)
  obtain ⟨a1, a2, a3, a4, a5, a6, a7⟩ := R.stores (.string rs) (.string rt)
  exact ⟨a1, a2, a3, a4, a5, a6, a7, D, (D.setCell (p := ⟨w.heap.size, 0, none⟩) (Nat.le_refl _) (.string rs)).setCell (p := ⟨w.heap.size, 1, none⟩) (Nat.le_refl _) (.string rt)⟩

set_option maxHeartbeats 3200000 in
set_option maxRecDepth 100000 in
theorem mulClo_any (n1 d1 n2 d2 : Int) (ga gb : Nat) (w : World) (hs : Std w) (hA : BxR w ga (zS n1) (zS d1)) (hB : BxR w gb (zS n2) (zS d2)) (h1 : (str n1.natAbs).size ≤ 10000) (h2 : (str d1.natAbs).size ≤ 10000) (h3 : (str n2.natAbs).size ≤ 10000) (h4 : (str d2.natAbs).size ≤ 10000) (p1 : 0 < d1) (p2 : 0 < d2) :
    Calls Tryz.prog 100 #[.pointer (some ⟨ga, 0, none⟩), .pointer (some ⟨gb, 0, none⟩)] w fun e w' => e = .returned (ratV (zS (lowN (n1 * n2) (d1 * d2).natAbs)) (str (lowD (n1 * n2) (d1 * d2).natAbs))) ∧ Below w.heap.size w w' := by
  have HM1 := Lib.hid (fun wx hw => mulW_any n1 n2 wx hw (by omega) (by omega))
  have HM2 := Lib.hid (fun wx hw => mulW_any d1 d2 wx hw (by omega) (by omega))
  have z1 := zsz_mul2 h1 h3 (by omega)
  have z3 := zsz_mul2 h2 h4 (by omega)
  have HLW := Lib.hid (fun wx hw => lowestF_any (n1 * n2) (d1 * d2) wx hw (Int.mul_pos p1 p2) (by omega) (by omega))
  obtain ⟨s1, hs1⟩ : ∃ s, s = zS n1 := ⟨_, rfl⟩
  obtain ⟨t1, ht1⟩ : ∃ s, s = zS d1 := ⟨_, rfl⟩
  obtain ⟨s2, hs2⟩ : ∃ s, s = zS n2 := ⟨_, rfl⟩
  obtain ⟨t2, ht2⟩ : ∃ s, s = zS d2 := ⟨_, rfl⟩
  obtain ⟨m1, hm1⟩ : ∃ s, s = zS (n1 * n2) := ⟨_, rfl⟩
  obtain ⟨m2, hm2⟩ : ∃ s, s = zS (d1 * d2) := ⟨_, rfl⟩
  obtain ⟨rs, hrs⟩ : ∃ s, s = zS (lowN (n1 * n2) (d1 * d2).natAbs) := ⟨_, rfl⟩
  obtain ⟨rt, hrt⟩ : ∃ s, s = str (lowD (n1 * n2) (d1 * d2).natAbs) := ⟨_, rfl⟩
  rw [← hs1, ← ht1] at hA
  rw [← hs2, ← ht2] at hB
  rw [← hs1, ← hs2, ← hm1] at HM1
  rw [← ht1, ← ht2, ← hm2] at HM2
  rw [← hm1, ← hm2, ← hrs, ← hrt] at HLW
  rw [← hrs, ← hrt]
  have HS := Lib.hid hs
  have HAB := Lib.hid (show ∀ wx, Below w.heap.size w wx → wx.cell? ⟨ga, 0, none⟩ = some (.string s1) ∧ wx.cell? ⟨ga, 1, none⟩ = some (.string t1) ∧ wx.cell? ⟨gb, 0, none⟩ = some (.string s2) ∧ wx.cell? ⟨gb, 1, none⟩ = some (.string t2) from fun wx hx => ⟨(hA.below hx).num, (hA.below hx).den, (hB.below hx).num, (hB.below hx).den⟩)
  have HZ := Lib.hid (Bz.new w)
  clear hs hA hB h1 h2 h3 h4 p1 p2 z1 z3 hs1 ht1 hs2 ht2 hm1 hm2 hrs hrt
  go_enter Tryz.func100, Tryz.ntmps100
  go_upto_region 1 with fail
  obtain ⟨W0, hW0⟩ : ∃ W0, W0 = w.alloc (.cells #[.string ⟨#[]⟩, .string ⟨#[]⟩] 24) := ⟨_, rfl⟩
  rw [← hW0] at HZ ⊢
  clear hW0
  have X0 := Lib.hid (HZ.out.to (Below.drew (Below.refl W0.heap.size W0)))
  go_region_held3 (fun W => W.cell? ⟨ga, 0, none⟩ = some (.string s1) ∧ W.cell? ⟨ga, 1, none⟩ = some (.string t1) ∧ W.cell? ⟨gb, 0, none⟩ = some (.string s2) ∧ W.cell? ⟨gb, 1, none⟩ = some (.string t2)) (first | exact HAB.out _ BST.out | exact HAB.out _ (BST.out.setCell (Nat.le_refl _) _) | exact HAB.out _ X3.out.below | exact HAB.out _ (X3.out.below.alloc X3.out.below.size _) | exact HAB.out _ X2.out.below | exact HAB.out _ (X2.out.below.alloc X2.out.below.size _) | exact HAB.out _ X1.out.below | exact HAB.out _ (X1.out.below.alloc X1.out.below.size _) | exact HAB.out _ X0.out.below | exact HAB.out _ (X0.out.below.alloc X0.out.below.size _)) (first | (go_at_call 71; have g0 := X2.out.below; first | (refine (HLW.out _ (HS.out.below g0)).mono ?_; rintro e v3 ⟨rfl, h⟩; have X3 := Lib.hid (X2.out.to h); (try have P3 := Lib.hid (P2.out.kept h)); clear h g0; first | (have hgx := P3.out.lt.1; obtain ⟨f0, e0, e1, f1, g1, u0, u1⟩ := P3.out.stores (.string rs) (.string rt); obtain ⟨k0, k1, k2, k3, k4, k5, k6, D1, D2⟩ := store2 X3.out P3.out.lt.1 rs rt; have BST := Lib.hid D1; have HBE := Lib.hid D2; clear D1 D2) | (have P4 := Lib.hid (BxT.new v3 (w.heap.size + 1) X3.out.res.lt.2 24 (.string ⟨#[]⟩) (.string ⟨#[]⟩)); have X4 := Lib.hid (X3.out.to ((Below.refl _ _).alloc (Nat.le_refl _) (.cells #[.string ⟨#[]⟩, .string ⟨#[]⟩] 24))); have X5 := X3.out.to ((Below.refl _ _).alloc (Nat.le_refl _) (.cells #[.string rs, .string rt] 24)); have P5 := BxT.new v3 (w.heap.size + 1) X3.out.res.lt.2 24 (.string rs) (.string rt); have cc0 := P5.c0; have cc1 := P5.c1; obtain ⟨q0, q1, q2, q3, q4, q5, q6⟩ := X5.res.stores (.string rs) (.string rt); have HBF := Lib.hid ((X5.below.setCell (p := ⟨w.heap.size, 0, none⟩) (Nat.le_refl _) (.string rs)).setCell (p := ⟨w.heap.size, 1, none⟩) (Nat.le_refl _) (.string rt)); clear X5 P5; have hgx := P4.out.lt.1; obtain ⟨f0, e0, e1, f1, g1, u0, u1⟩ := P4.out.stores (.string rs) (.string rt); obtain ⟨k0, k1, k2, k3, k4, k5, k6, D1, D2⟩ := store2 X4.out P4.out.lt.1 rs rt; have BST := Lib.hid D1; have HBE := Lib.hid D2; clear D1 D2)) | (have XA := Lib.hid (X2.out.to ((Below.refl _ _).alloc (Nat.le_refl _) (.cells #[.string ⟨#[]⟩, .string ⟨#[]⟩] 24))); have PA := Lib.hid (BxT.new v2 (w.heap.size + 1) X2.out.res.lt.2 24 (.string ⟨#[]⟩) (.string ⟨#[]⟩)); refine (HLW.out _ (HS.out.below XA.out.below)).mono ?_; rintro e v3 ⟨rfl, h⟩; have X3 := Lib.hid (XA.out.to h); have P3 := Lib.hid (PA.out.kept h); clear h g0 XA PA; have hgx := P3.out.lt.1; obtain ⟨f0, e0, e1, f1, g1, u0, u1⟩ := P3.out.stores (.string rs) (.string rt); obtain ⟨k0, k1, k2, k3, k4, k5, k6, D1, D2⟩ := store2 X3.out P3.out.lt.1 rs rt; have BST := Lib.hid D1; have HBE := Lib.hid D2; clear D1 D2)) | (go_at_call 97; have g0 := X1.out.below; first | (refine (HM2.out _ (HS.out.below g0)).mono ?_; rintro e v2 ⟨rfl, h⟩; have X2 := Lib.hid (X1.out.to h); (try have P2 := Lib.hid (P1.out.kept h)); clear h g0) | (have XA := Lib.hid (X1.out.to ((Below.refl _ _).alloc (Nat.le_refl _) (.cells #[.string ⟨#[]⟩, .string ⟨#[]⟩] 24))); have PA := Lib.hid (BxT.new v1 (w.heap.size + 1) X1.out.res.lt.2 24 (.string ⟨#[]⟩) (.string ⟨#[]⟩)); refine (HM2.out _ (HS.out.below XA.out.below)).mono ?_; rintro e v2 ⟨rfl, h⟩; have X2 := Lib.hid (XA.out.to h); have P2 := Lib.hid (PA.out.kept h); clear h g0 XA PA)) | (go_at_call 97; have g0 := X0.out.below; first | (refine (HM1.out _ (HS.out.below g0)).mono ?_; rintro e v1 ⟨rfl, h⟩; have X1 := Lib.hid (X0.out.to h); (try have P1 := Lib.hid (P0.out.kept h)); clear h g0) | (have XA := Lib.hid (X0.out.to ((Below.refl _ _).alloc (Nat.le_refl _) (.cells #[.string ⟨#[]⟩, .string ⟨#[]⟩] 24))); have PA := Lib.hid (show BxT (W0.drew.alloc (.cells #[.string ⟨#[]⟩, .string ⟨#[]⟩] 24)) (w.heap.size + 1) W0.heap.size 24 (.string ⟨#[]⟩) (.string ⟨#[]⟩) from BxT.new W0.drew (w.heap.size + 1) X0.out.res.lt.2 24 (.string ⟨#[]⟩) (.string ⟨#[]⟩)); refine (HM1.out _ (HS.out.below XA.out.below)).mono ?_; rintro e v1 ⟨rfl, h⟩; have X1 := Lib.hid (XA.out.to h); have P1 := Lib.hid (PA.out.kept h); clear h g0 XA PA)))
  all_goals (
    go_wp2_with fail
    (try simp only [Exit.inBlock, Exit.then])
    first | refine bodyPost_ret (v := ratV rs rt) ?_ rfl ⟨rfl, HBE.out⟩ | refine bodyPost_ret (v := ratV rs rt) ?_ rfl ⟨rfl, HBF.out⟩
    rw [results_cell_one rfl]
    go_simp)
end Go.Proofs.YtdgbplppabalgaaGreatDoor
