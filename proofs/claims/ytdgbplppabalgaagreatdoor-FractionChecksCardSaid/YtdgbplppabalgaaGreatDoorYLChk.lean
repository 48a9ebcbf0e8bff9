/-
  The law FractionChecks: the walk.
-/
import Derived.Test.YtdgbplppabalgaaGreatDoorJ20
import Derived.Test.YtdgbplppabalgaaGreatDoorJ35
import Derived.Test.YtdgbplppabalgaaGreatDoorJ29
import Derived.Test.YtdgbplppabalgaaGreatDoorJ24
import Derived.Test.YtdgbplppabalgaaGreatDoorJ23
import Derived.Deep.RegionWith
import Derived.Deep.Cut
import Derived.BigQuiet
namespace Go.Proofs.YtdgbplppabalgaaGreatDoor
open Go.RowKit

set_option maxHeartbeats 12800000 in
set_option maxRecDepth 100000 in
theorem lawChecks_small (n d : Int) (w : World) (hs : Stf w) (hl : longB (zS n) (zS d) 410 = false) (hr : riB (zS n) (zS d) = true) (hn : (str n.natAbs).size ≤ 400) (hd : (str d.natAbs).size ≤ 400) (hf : fewOk n d) :
    Calls Tryz.prog 3 #[ratV (zS n) (zS d)] w fun e w' => e = .returned (.bool true) ∧ Below w.heap.size w w' := by
  have HS := Lib.hid hs
  have HK := Lib.hid (fun wx (hw : Stf wx) => knownF_any wx hw)
  have HLG := Lib.hid (fun wx => longF_any (zS n) (zS d) 410 wx)
  have HZ := Lib.hid (Bi.new w (zS n) (zS d))
  rw [hl] at HLG
  have hsz : (zS n).size ≤ 1000001 ∧ (zS d).size ≤ 1000001 := by
    unfold longB at hl
    rw [Bool.or_eq_false_iff] at hl
    have := of_decide_eq_false hl.1
    have := of_decide_eq_false hl.2
    omega
  have HR := Lib.hid (fun wx (hw : Std wx) => rightY_any (zS n) (zS d) wx hw hsz.1 hsz.2)
  have HC := Lib.hid (fun wx (hw : Std wx) => checkF_any (zS n) (zS d) wx hw hsz.1 hsz.2)
  rw [hr] at HR HC
  rw [show chR true = 0 from rfl] at HC
  have HT := Lib.hid (fun wx => trP (zS n) wx)
  rw [magB_zS] at HT
  have hdd : zS d = str d.natAbs := zS_pos (by have := hf.2.2.1; omega)
  have hds : (zS d).size = (str d.natAbs).size := by rw [hdd]
  have HSM := Lib.hid (fun wx (hw : Std wx) => smallF_yes n d wx hw hf (by omega) (by omega))
  obtain ⟨f1, f2, f3, f4⟩ := hf
  have q1 : ((str n.natAbs).size : Int) ≤ 18 := by have := size18.2 ⟨f1, f2⟩; omega
  have q2 : ((zS d).size : Int) ≤ 18 := by have := (size18 (n := d)).2 ⟨by omega, f4⟩; omega
  have p1 : -9223372036854775808 ≤ n := by omega
  have p2 : n ≤ 9223372036854775807 := by omega
  have p3 : -9223372036854775808 ≤ d := by omega
  have p4 : d ≤ 9223372036854775807 := by omega
  clear hdd hds hl hr hn hd hsz hs
  have HI1 := Lib.hid (fun wx (hw : Stf wx) => intY_any n wx hw.std (by omega) (by omega))
  have HI2 := Lib.hid (fun wx (hw : Stf wx) => intY_any d wx hw.std (by omega) (by omega))
  have HR1 := Lib.hid (fun wx (hw : Stf wx) => HR.out wx hw.std)
  have HC1 := Lib.hid (fun wx (hw : Stf wx) => HC.out wx hw.std)
  have HSM1 := Lib.hid (fun wx (hw : Stf wx) => HSM.out wx hw.std)
  clear HR HC HSM
  have HR := HR1
  have HC := HC1
  have HSM := HSM1
  clear HR1 HC1 HSM1
  obtain ⟨s, hs1⟩ : ∃ s, s = zS n := ⟨_, rfl⟩
  obtain ⟨t, ht1⟩ : ∃ s, s = zS d := ⟨_, rfl⟩
  obtain ⟨u, hu⟩ : ∃ u, u = str n.natAbs := ⟨_, rfl⟩
  rw [← hs1, ← ht1] at HZ HLG HR HC HSM
  rw [← hs1] at HI1
  rw [← ht1] at HI2
  rw [← hs1, ← hu] at HT
  rw [← hu] at q1
  rw [← ht1] at q2
  rw [← hs1, ← ht1]
  clear hs1 ht1 hu f1 f2 f3 f4 p1 p2 p3 p4
  go_enter Tryz.func3, Tryz.ntmps3
  go_upto_region 1 with fail
  obtain ⟨W0, hW0⟩ : ∃ W0, W0 = w.alloc (ratO s t) := ⟨_, rfl⟩
  rw [← hW0] at HZ ⊢
  clear hW0
  have HBW := Lib.hid HZ.out.below
  have HSB := Lib.hid (show ∀ wx, Below W0.heap.size W0 wx → Stf wx from fun wx hx => HS.out.below (HBW.out.trans (hx.mono HBW.out.size)))
  have HCX := Lib.hid (show ∀ wx, Below W0.heap.size W0 wx → wx.cell? ⟨w.heap.size, 0, none⟩ = some (.string s) ∧ wx.cell? ⟨w.heap.size, 1, none⟩ = some (.string t) from fun wx hx => ⟨(HZ.out.to hx).box.num, (HZ.out.to hx).box.den⟩)
  have Y0 := Lib.hid (Below.refl W0.heap.size W0)
  clear HZ
  obtain ⟨c0, c1⟩ := HCX.out _ Y0.out
  go_wp2_with fail
  refine (HK.out _ (HSB.out _ Y0.out)).mono ?_
  rintro e w1 ⟨rfl, b⟩
  have Y1 := Lib.hid (Y0.out.trans (b.mono Y0.out.size))
  clear b
  clear c0 c1
  obtain ⟨c0, c1⟩ := HCX.out _ Y1.out
  go_wp2_with fail
  refine (HLG.out _).mono ?_
  rintro e w2 ⟨rfl, b⟩
  have Y2 := Lib.hid (Y1.out.trans (b.mono Y1.out.size))
  clear b
  clear c0 c1
  obtain ⟨c0, c1⟩ := HCX.out _ Y2.out
  go_wp2_with fail
  refine (HR.out _ (HSB.out _ Y2.out)).mono ?_
  rintro e w3 ⟨rfl, b⟩
  have Y3 := Lib.hid (Y2.out.trans (b.mono Y2.out.size))
  clear b
  clear c0 c1
  obtain ⟨c0, c1⟩ := HCX.out _ Y3.out
  go_wp2_with fail
  refine (HSM.out _ (HSB.out _ Y3.out)).mono ?_
  rintro e w4 ⟨rfl, b⟩
  have Y4 := Lib.hid (Y3.out.trans (b.mono Y3.out.size))
  clear b
  clear c0 c1
  obtain ⟨c0, c1⟩ := HCX.out _ Y4.out
  go_wp2_with fail
  refine (HT.out _).mono ?_
  rintro e wt ⟨rfl, bt⟩
  obtain rfl := bt
  go_upto_region 7 with fail
  have D1_0 := Lib.hid (show Below W0.heap.size W0 w4.drew from Y4.out.trans ((Below.drew (Below.refl w4.heap.size w4)).mono Y4.out.size))
  clear c0 c1
  refine Batch.wp_region_det (S := fun W => Below W0.heap.size W0 W) (by kernel_rfl) D1_0.out ?_
  refine' Batch.det_take 0 (v := ?v1) ?hi1 (by kernel_rfl) (by kernel_rfl) (by kernel_rfl) (Batch.Does.val ?hw1 ?hv1) ?rest1
  case hi1 => (simp only [List.getElem?_toArray, List.getElem?_cons_zero]; rfl)
  case hw1 => rfl
  case hv1 => (intro wx hSw; go_simp; (try with_reducible rfl))
  (try simp only [Act.put, List.setIfInBounds_toArray, List.set_cons_zero, List.set_cons_succ])
  refine' Batch.det_take 1 (v := ?v2) ?hi2 (by kernel_rfl) (by kernel_rfl) (by kernel_rfl) (Batch.Does.val ?hw2 ?hv2) ?rest2
  case hi2 => (simp only [List.getElem?_toArray, List.getElem?_cons_succ, List.getElem?_cons_zero]; rfl)
  case hw2 => rfl
  case hv2 => (intro wx hSw; go_simp; (try with_reducible rfl))
  (try simp only [Act.put, List.setIfInBounds_toArray, List.set_cons_zero, List.set_cons_succ])
  refine' Batch.det_take 2 (v := ?v3) ?hi3 (by kernel_rfl) (by kernel_rfl) (by kernel_rfl) (Batch.Does.val ?hw3 ?hv3) ?rest3
  case hi3 => (simp only [List.getElem?_toArray, List.getElem?_cons_succ, List.getElem?_cons_zero]; rfl)
  case hw3 => rfl
  case hv3 => (intro wx hSw; go_simp; (try with_reducible rfl))
  (try simp only [Act.put, List.setIfInBounds_toArray, List.set_cons_zero, List.set_cons_succ])
  refine' Batch.det_take 3 (v := ?v4) ?hi4 (by kernel_rfl) (by kernel_rfl) (by kernel_rfl) (Batch.Does.val ?hw4 ?hv4) ?rest4
  case hi4 => (simp only [List.getElem?_toArray, List.getElem?_cons_succ, List.getElem?_cons_zero]; rfl)
  case hw4 => rfl
  case hv4 => (intro wx hSw; go_simp; (try with_reducible rfl))
  (try simp only [Act.put, List.setIfInBounds_toArray, List.set_cons_zero, List.set_cons_succ])
  refine' Batch.det_take 4 (v := ?v5) ?hi5 (by kernel_rfl) (by kernel_rfl) (by kernel_rfl) (Batch.Does.val ?hw5 ?hv5) ?rest5
  case hi5 => (simp only [List.getElem?_toArray, List.getElem?_cons_succ, List.getElem?_cons_zero]; rfl)
  case hw5 => rfl
  case hv5 => (intro wx hSw; go_simp; (try with_reducible rfl))
  (try simp only [Act.put, List.setIfInBounds_toArray, List.set_cons_zero, List.set_cons_succ])
  refine' Batch.det_take 5 (v := ?v6) ?hi6 (by kernel_rfl) (by kernel_rfl) (by kernel_rfl) (Batch.Does.val ?hw6 ?hv6) ?rest6
  case hi6 => (simp only [List.getElem?_toArray, List.getElem?_cons_succ, List.getElem?_cons_zero]; rfl)
  case hw6 => rfl
  case hv6 => (intro wx hSw; go_simp; (try with_reducible rfl))
  (try simp only [Act.put, List.setIfInBounds_toArray, List.set_cons_zero, List.set_cons_succ])
  refine' Batch.det_take 6 (v := ?v7) ?hi7 (by kernel_rfl) (by kernel_rfl) (by kernel_rfl) (Batch.Does.val ?hw7 ?hv7) ?rest7
  case hi7 => (simp only [List.getElem?_toArray, List.getElem?_cons_succ, List.getElem?_cons_zero]; rfl)
  case hw7 => rfl
  case hv7 => (intro wx hSw; go_simp; (try with_reducible rfl))
  (try simp only [Act.put, List.setIfInBounds_toArray, List.set_cons_zero, List.set_cons_succ])
  refine' Batch.det_take 7 ?hi8 (by kernel_rfl) (by kernel_rfl) (by kernel_rfl) (Batch.Does.pass ?hw8) ?rest8
  case hi8 => (simp only [List.getElem?_toArray, List.getElem?_cons_succ, List.getElem?_cons_zero]; rfl)
  case hw8 => rfl
  (try simp only [Act.put, List.setIfInBounds_toArray, List.set_cons_zero, List.set_cons_succ])
  refine' Batch.det_take 8 ?hi9 (by kernel_rfl) (by kernel_rfl) (by kernel_rfl) (Batch.Does.pass ?hw9) ?rest9
  case hi9 => (simp only [List.getElem?_toArray, List.getElem?_cons_succ, List.getElem?_cons_zero]; rfl)
  case hw9 => rfl
  (try simp only [Act.put, List.setIfInBounds_toArray, List.set_cons_zero, List.set_cons_succ])
  refine' Batch.det_take 9 ?hi10 (by kernel_rfl) (by kernel_rfl) (by kernel_rfl) (Batch.Does.pass ?hw10) ?rest10
  case hi10 => (simp only [List.getElem?_toArray, List.getElem?_cons_succ, List.getElem?_cons_zero]; rfl)
  case hw10 => rfl
  (try simp only [Act.put, List.setIfInBounds_toArray, List.set_cons_zero, List.set_cons_succ])
  refine' Batch.det_take 10 ?hi11 (by kernel_rfl) (by kernel_rfl) (by kernel_rfl) (Batch.Does.pass ?hw11) ?rest11
  case hi11 => (simp only [List.getElem?_toArray, List.getElem?_cons_succ, List.getElem?_cons_zero]; rfl)
  case hw11 => rfl
  (try simp only [Act.put, List.setIfInBounds_toArray, List.set_cons_zero, List.set_cons_succ])
  refine' Batch.det_take 11 ?hi12 (by kernel_rfl) (by kernel_rfl) (by kernel_rfl) (Batch.Does.pass ?hw12) ?rest12
  case hi12 => (simp only [List.getElem?_toArray, List.getElem?_cons_succ, List.getElem?_cons_zero]; rfl)
  case hw12 => rfl
  (try simp only [Act.put, List.setIfInBounds_toArray, List.set_cons_zero, List.set_cons_succ])
  refine' Batch.det_take 12 ?hi13 (by kernel_rfl) (by kernel_rfl) (by kernel_rfl) (Batch.Does.pass ?hw13) ?rest13
  case hi13 => (simp only [List.getElem?_toArray, List.getElem?_cons_succ, List.getElem?_cons_zero]; rfl)
  case hw13 => rfl
  (try simp only [Act.put, List.setIfInBounds_toArray, List.set_cons_zero, List.set_cons_succ])
  refine' Batch.det_take 13 (v := ?v14) ?hi14 (by kernel_rfl) (by kernel_rfl) (by kernel_rfl) (Batch.Does.val ?hw14 ?hv14) ?rest14
  case hi14 => (simp only [List.getElem?_toArray, List.getElem?_cons_succ, List.getElem?_cons_zero]; rfl)
  case hw14 => rfl
  case hv14 => (intro wx hSw; go_simp; (try with_reducible rfl))
  (try simp only [Act.put, List.setIfInBounds_toArray, List.set_cons_zero, List.set_cons_succ])
  refine' Batch.det_take 14 (v := ?v15) ?hi15 (by kernel_rfl) (by kernel_rfl) (by kernel_rfl) (Batch.Does.val ?hw15 ?hv15) ?rest15
  case hi15 => (simp only [List.getElem?_toArray, List.getElem?_cons_succ, List.getElem?_cons_zero]; rfl)
  case hw15 => rfl
  case hv15 => (intro wx hSw; go_simp; (try with_reducible rfl))
  (try simp only [Act.put, List.setIfInBounds_toArray, List.set_cons_zero, List.set_cons_succ])
  refine' Batch.det_take 15 (v := ?v16) ?hi16 (by kernel_rfl) (by kernel_rfl) (by kernel_rfl) (Batch.Does.val ?hw16 ?hv16) ?rest16
  case hi16 => (simp only [List.getElem?_toArray, List.getElem?_cons_succ, List.getElem?_cons_zero]; rfl)
  case hw16 => rfl
  case hv16 => (intro wx hSw; go_simp; (try with_reducible rfl))
  (try simp only [Act.put, List.setIfInBounds_toArray, List.set_cons_zero, List.set_cons_succ])
  refine' Batch.det_take 16 (v := ?v17) ?hi17 (by kernel_rfl) (by kernel_rfl) (by kernel_rfl) (Batch.Does.val ?hw17 ?hv17) ?rest17
  case hi17 => (simp only [List.getElem?_toArray, List.getElem?_cons_succ, List.getElem?_cons_zero]; rfl)
  case hw17 => rfl
  case hv17 => (intro wx hSw; go_simp; (try with_reducible rfl))
  (try simp only [Act.put, List.setIfInBounds_toArray, List.set_cons_zero, List.set_cons_succ])
  refine' Batch.det_take 17 (v := ?v18) ?hi18 (by kernel_rfl) (by kernel_rfl) (by kernel_rfl) (Batch.Does.val ?hw18 ?hv18) ?rest18
  case hi18 => (simp only [List.getElem?_toArray, List.getElem?_cons_succ, List.getElem?_cons_zero]; rfl)
  case hw18 => rfl
  case hv18 => (intro wx hSw; go_simp; (try with_reducible rfl))
  (try simp only [Act.put, List.setIfInBounds_toArray, List.set_cons_zero, List.set_cons_succ])
  refine' Batch.det_take 18 (v := ?v19) ?hi19 (by kernel_rfl) (by kernel_rfl) (by kernel_rfl) (Batch.Does.val ?hw19 ?hv19) ?rest19
  case hi19 => (simp only [List.getElem?_toArray, List.getElem?_cons_succ, List.getElem?_cons_zero]; rfl)
  case hw19 => rfl
  case hv19 => (intro wx hSw; go_simp; (try with_reducible rfl))
  (try simp only [Act.put, List.setIfInBounds_toArray, List.set_cons_zero, List.set_cons_succ])
  refine' Batch.det_take 20 (v := ?v20) ?hi20 (by kernel_rfl) (by kernel_rfl) (by kernel_rfl) (Batch.Does.val ?hw20 ?hv20) ?rest20
  case hi20 => (simp only [List.getElem?_toArray, List.getElem?_cons_succ, List.getElem?_cons_zero]; rfl)
  case hw20 => rfl
  case hv20 => (intro wx hSw; go_simp; (try with_reducible rfl))
  (try simp only [Act.put, List.setIfInBounds_toArray, List.set_cons_zero, List.set_cons_succ])
  refine' Batch.det_take 21 (v := ?v21) ?hi21 (by kernel_rfl) (by kernel_rfl) (by kernel_rfl) (Batch.Does.val ?hw21 ?hv21) ?rest21
  case hi21 => (simp only [List.getElem?_toArray, List.getElem?_cons_succ, List.getElem?_cons_zero]; rfl)
  case hw21 => rfl
  case hv21 => (intro wx hSw; obtain ⟨c0, c1⟩ := HCX.out wx hSw; go_simp; (try with_reducible rfl))
  (try simp only [Act.put, List.setIfInBounds_toArray, List.set_cons_zero, List.set_cons_succ])
  refine' Batch.det_take 19 (v := .string s) ?hi22 (by kernel_rfl) (by kernel_rfl) (by kernel_rfl) (Batch.Does.call ?hw22 ?hv22 ?hc22) ?rest22
  case hi22 => (simp only [List.getElem?_toArray, List.getElem?_cons_succ, List.getElem?_cons_zero]; rfl)
  case hw22 => rfl
  case hv22 => (intro wx hSw; go_simp; (first | done | exact ⟨rfl, rfl⟩ | with_reducible rfl))
  case hc22 => (intro wx hSw; refine (HI1.out _ (HSB.out _ hSw)).mono ?_; rintro e wy ⟨rfl, h⟩; exact ⟨rfl, hSw.trans (h.mono hSw.size)⟩)
  (try simp only [Act.put, List.setIfInBounds_toArray, List.set_cons_zero, List.set_cons_succ])
  refine' Batch.det_take 22 (v := ?v23) ?hi23 (by kernel_rfl) (by kernel_rfl) (by kernel_rfl) (Batch.Does.val ?hw23 ?hv23) ?rest23
  case hi23 => (simp only [List.getElem?_toArray, List.getElem?_cons_succ, List.getElem?_cons_zero]; rfl)
  case hw23 => rfl
  case hv23 => (intro wx hSw; go_simp; (try with_reducible rfl))
  (try simp only [Act.put, List.setIfInBounds_toArray, List.set_cons_zero, List.set_cons_succ])
  refine' Batch.det_take 23 (v := ?v24) ?hi24 (by kernel_rfl) (by kernel_rfl) (by kernel_rfl) (Batch.Does.val ?hw24 ?hv24) ?rest24
  case hi24 => (simp only [List.getElem?_toArray, List.getElem?_cons_succ, List.getElem?_cons_zero]; rfl)
  case hw24 => rfl
  case hv24 => (intro wx hSw; go_simp; (try with_reducible rfl))
  (try simp only [Act.put, List.setIfInBounds_toArray, List.set_cons_zero, List.set_cons_succ])
  refine' Batch.det_take 24 (v := ?v25) ?hi25 (by kernel_rfl) (by kernel_rfl) (by kernel_rfl) (Batch.Does.val ?hw25 ?hv25) ?rest25
  case hi25 => (simp only [List.getElem?_toArray, List.getElem?_cons_succ, List.getElem?_cons_zero]; rfl)
  case hw25 => rfl
  case hv25 => (intro wx hSw; go_simp; (try with_reducible rfl))
  (try simp only [Act.put, List.setIfInBounds_toArray, List.set_cons_zero, List.set_cons_succ])
  refine' Batch.det_take 26 (v := ?v26) ?hi26 (by kernel_rfl) (by kernel_rfl) (by kernel_rfl) (Batch.Does.val ?hw26 ?hv26) ?rest26
  case hi26 => (simp only [List.getElem?_toArray, List.getElem?_cons_succ, List.getElem?_cons_zero]; rfl)
  case hw26 => rfl
  case hv26 => (intro wx hSw; go_simp; (try with_reducible rfl))
  (try simp only [Act.put, List.setIfInBounds_toArray, List.set_cons_zero, List.set_cons_succ])
  refine' Batch.det_take 27 (v := ?v27) ?hi27 (by kernel_rfl) (by kernel_rfl) (by kernel_rfl) (Batch.Does.val ?hw27 ?hv27) ?rest27
  case hi27 => (simp only [List.getElem?_toArray, List.getElem?_cons_succ, List.getElem?_cons_zero]; rfl)
  case hw27 => rfl
  case hv27 => (intro wx hSw; obtain ⟨c0, c1⟩ := HCX.out wx hSw; go_simp; (try with_reducible rfl))
  (try simp only [Act.put, List.setIfInBounds_toArray, List.set_cons_zero, List.set_cons_succ])
  refine' Batch.det_take 25 (v := .string t) ?hi28 (by kernel_rfl) (by kernel_rfl) (by kernel_rfl) (Batch.Does.call ?hw28 ?hv28 ?hc28) ?rest28
  case hi28 => (simp only [List.getElem?_toArray, List.getElem?_cons_succ, List.getElem?_cons_zero]; rfl)
  case hw28 => rfl
  case hv28 => (intro wx hSw; go_simp; (first | done | exact ⟨rfl, rfl⟩ | with_reducible rfl))
  case hc28 => (intro wx hSw; refine (HI2.out _ (HSB.out _ hSw)).mono ?_; rintro e wy ⟨rfl, h⟩; exact ⟨rfl, hSw.trans (h.mono hSw.size)⟩)
  (try simp only [Act.put, List.setIfInBounds_toArray, List.set_cons_zero, List.set_cons_succ])
  refine' Batch.det_take 28 (v := ?v29) ?hi29 (by kernel_rfl) (by kernel_rfl) (by kernel_rfl) (Batch.Does.val ?hw29 ?hv29) ?rest29
  case hi29 => (simp only [List.getElem?_toArray, List.getElem?_cons_succ, List.getElem?_cons_zero]; rfl)
  case hw29 => rfl
  case hv29 => (intro wx hSw; go_simp; (try with_reducible rfl))
  (try simp only [Act.put, List.setIfInBounds_toArray, List.set_cons_zero, List.set_cons_succ])
  refine' Batch.det_take 29 (v := ?v30) ?hi30 (by kernel_rfl) (by kernel_rfl) (by kernel_rfl) (Batch.Does.val ?hw30 ?hv30) ?rest30
  case hi30 => (simp only [List.getElem?_toArray, List.getElem?_cons_succ, List.getElem?_cons_zero]; rfl)
  case hw30 => rfl
  case hv30 => (intro wx hSw; go_simp; (try with_reducible rfl))
  (try simp only [Act.put, List.setIfInBounds_toArray, List.set_cons_zero, List.set_cons_succ])
  refine' Batch.det_take 30 (v := ?v31) ?hi31 (by kernel_rfl) (by kernel_rfl) (by kernel_rfl) (Batch.Does.val ?hw31 ?hv31) ?rest31
  case hi31 => (simp only [List.getElem?_toArray, List.getElem?_cons_succ, List.getElem?_cons_zero]; rfl)
  case hw31 => rfl
  case hv31 => (intro wx hSw; go_simp; (try with_reducible rfl))
  (try simp only [Act.put, List.setIfInBounds_toArray, List.set_cons_zero, List.set_cons_succ])
  refine' Batch.det_take 31 (v := ?v32) ?hi32 (by kernel_rfl) (by kernel_rfl) (by kernel_rfl) (Batch.Does.val ?hw32 ?hv32) ?rest32
  case hi32 => (simp only [List.getElem?_toArray, List.getElem?_cons_succ, List.getElem?_cons_zero]; rfl)
  case hw32 => rfl
  case hv32 => (intro wx hSw; go_simp; (try with_reducible rfl))
  (try simp only [Act.put, List.setIfInBounds_toArray, List.set_cons_zero, List.set_cons_succ])
  refine Batch.det_done (by kernel_rfl) (fun v1_1 hS => ?_) _
  have D1_1 := Lib.hid hS
  clear hS D1_0
  obtain ⟨c0, c1⟩ := HCX.out _ D1_1.out
  go_wp2_with fail
  refine (HC.out _ (HSB.out _ D1_1.out)).mono ?_
  rintro e w5 ⟨rfl, b⟩
  have Y5 := Lib.hid (D1_1.out.trans (b.mono D1_1.out.size))
  clear b
  clear c0 c1
  obtain ⟨c0, c1⟩ := HCX.out _ Y5.out
  go_wp2_with fail
  go_ret
  exact ⟨rfl, HBW.out.trans (Y5.out.mono HBW.out.size)⟩
set_option maxHeartbeats 3200000 in
set_option maxRecDepth 100000 in
theorem lawChecks_any (s t : ByteArray) (w : World) (hs : Stf w) :
    Calls Tryz.prog 3 #[ratV s t] w fun e w' => e = .returned (.bool true) ∧ Below w.heap.size w w' := by
  have HS := Lib.hid hs
  have HK := Lib.hid (fun wx (hw : Stf wx) => knownF_any wx hw)
  have HLG := Lib.hid (fun wx => longF_any s t 410 wx)
  have HZ := Lib.hid (Bi.new w s t)
  cases hl : longB s t 410 with
  | true =>
    rw [hl] at HLG
    clear hl hs
    go_enter Tryz.func3, Tryz.ntmps3
    go_upto_region 1 with fail
    obtain ⟨W0, hW0⟩ : ∃ W0, W0 = w.alloc (ratO s t) := ⟨_, rfl⟩
    rw [← hW0] at HZ ⊢
    clear hW0
    have c0 := HZ.out.box.num
    have d0 := HZ.out.box.den
    go_wp2_with fail
    refine (HK.out _ (HS.out.below HZ.out.below)).mono ?_
    rintro e w1 ⟨rfl, b1⟩
    have Z1 := Lib.hid (HZ.out.to b1)
    clear b1
    have c1 := Z1.out.box.num
    have d1 := Z1.out.box.den
    clear c0 d0
    go_wp2_with fail
    refine (HLG.out _ ).mono ?_
    rintro e w2 ⟨rfl, b2⟩
    have Z2 := Lib.hid (Z1.out.to b2)
    clear b2
    have c2 := Z2.out.box.num
    have d2 := Z2.out.box.den
    go_wp2_with fail
    refine (HK.out _ (HS.out.below Z2.out.below)).mono ?_
    rintro e w3 ⟨rfl, b3⟩
    have Z3 := Lib.hid (Z2.out.to b3)
    clear b3
    go_wp2_with fail
    go_ret
    exact ⟨rfl, Z3.out.below⟩
  | false =>
    rw [hl] at HLG
    have hsz : s.size ≤ 410 ∧ t.size ≤ 410 := by
      unfold longB at hl
      rw [Bool.or_eq_false_iff] at hl
      have := of_decide_eq_false hl.1
      have := of_decide_eq_false hl.2
      omega
    have HR := Lib.hid (fun wx (hw : Std wx) => rightY_any s t wx hw (by omega) (by omega))
    have HC := Lib.hid (fun wx (hw : Std wx) => checkF_any s t wx hw (by omega) (by omega))
    cases hr : riB s t with
    | false =>
      rw [hr] at HR HC
      rw [show chR false = 2 from rfl] at HC
      clear hl hs hr hsz
      go_enter Tryz.func3, Tryz.ntmps3
      go_upto_region 1 with fail
      obtain ⟨W0, hW0⟩ : ∃ W0, W0 = w.alloc (ratO s t) := ⟨_, rfl⟩
      rw [← hW0] at HZ ⊢
      clear hW0
      have c0 := HZ.out.box.num
      have d0 := HZ.out.box.den
      go_wp2_with fail
      refine (HK.out _ (HS.out.below HZ.out.below)).mono ?_
      rintro e w1 ⟨rfl, b1⟩
      have Z1 := Lib.hid (HZ.out.to b1)
      clear b1
      have c1 := Z1.out.box.num
      have d1 := Z1.out.box.den
      clear c0 d0
      go_wp2_with fail
      refine (HLG.out _ ).mono ?_
      rintro e w2 ⟨rfl, b2⟩
      have Z2 := Lib.hid (Z1.out.to b2)
      clear b2
      have c2 := Z2.out.box.num
      have d2 := Z2.out.box.den
      clear c1 d1
      go_wp2_with fail
      refine (HR.out _ (HS.out.below Z2.out.below).std).mono ?_
      rintro e w3 ⟨rfl, b3⟩
      have Z3 := Lib.hid (Z2.out.to b3)
      clear b3
      have c3 := Z3.out.box.num
      have d3 := Z3.out.box.den
      clear c2 d2
      go_wp2_with fail
      refine (HC.out _ (HS.out.below Z3.out.below).std).mono ?_
      rintro e w4 ⟨rfl, b4⟩
      have Z4 := Lib.hid (Z3.out.to b4)
      clear b4
      go_wp2_with fail
      go_ret
      exact ⟨rfl, Z4.out.below⟩
    | true =>
      rw [hr] at HR HC
      rw [show chR true = 0 from rfl] at HC
      obtain ⟨n, d, rfl, rfl, hn, hd, hp⟩ : ∃ n d : Int, s = zS n ∧ t = zS d ∧ (str n.natAbs).size ≤ 400 ∧ (str d.natAbs).size ≤ 400 ∧ 0 < d := by
        unfold riB at hr
        simp only [Bool.and_eq_true, decide_eq_true_iff] at hr
        obtain ⟨⟨⟨h1, h2⟩, h3⟩, -⟩ := hr
        obtain ⟨n, e1, hn⟩ := rgY_yes h1
        obtain ⟨d, e2, hd⟩ := rgY_yes h2
        rw [e2, zV_zS] at h3
        exact ⟨n, d, e1, e2, hn, hd, h3⟩
      have HT := Lib.hid (fun wx => trP (zS n) wx)
      rw [magB_zS] at HT
      have hsn := size18 (n := n)
      have hsd := size18 (n := d)
      have hdd : zS d = str d.natAbs := zS_pos (by omega)
      have hds : (zS d).size = (str d.natAbs).size := by rw [hdd]
      by_cases hf : fewOk n d
      · exact lawChecks_small n d w hs hl hr hn hd hf
      · have HSM := Lib.hid (fun wx (hw : Std wx) => smallF_no n d wx hw hf (by omega) (by omega))
        have q0 : (decide (((str n.natAbs).size : Int) ≤ 18) && decide (((zS d).size : Int) ≤ 18)) = false := by
          rw [Bool.eq_false_iff]
          intro k
          rw [Bool.and_eq_true, decide_eq_true_iff, decide_eq_true_iff] at k
          have k1 := hsn.1 (by omega)
          have k2 := hsd.1 (by omega)
          exact hf ⟨k1.1, k1.2, hp, k2.2⟩
        obtain ⟨s, hs1⟩ : ∃ s, s = zS n := ⟨_, rfl⟩
        obtain ⟨t, ht1⟩ : ∃ s, s = zS d := ⟨_, rfl⟩
        obtain ⟨u, hu⟩ : ∃ u, u = str n.natAbs := ⟨_, rfl⟩
        rw [← hs1, ← ht1] at HZ HLG HR HC HSM
        rw [← hs1, ← hu] at HT
        rw [← ht1, ← hu] at q0
        rw [← hs1, ← ht1]
        clear hl hs hr hsz hn hd hp hsn hsd hdd hds hs1 ht1 hu hf
        by_cases q1 : (u.size : Int) ≤ 18
        · rw [decide_eq_true q1, Bool.true_and] at q0
          have q2 : ¬ (t.size : Int) ≤ 18 := of_decide_eq_false q0
          go_enter Tryz.func3, Tryz.ntmps3
          go_upto_region 1 with fail
          obtain ⟨W0, hW0⟩ : ∃ W0, W0 = w.alloc (ratO s t) := ⟨_, rfl⟩
          rw [← hW0] at HZ ⊢
          clear hW0
          have c0 := HZ.out.box.num
          have d0 := HZ.out.box.den
          go_wp2_with fail
          refine (HK.out _ (HS.out.below HZ.out.below)).mono ?_
          rintro e w1 ⟨rfl, b1⟩
          have Z1 := Lib.hid (HZ.out.to b1)
          clear b1
          have c1 := Z1.out.box.num
          have d1 := Z1.out.box.den
          clear c0 d0
          go_wp2_with fail
          refine (HLG.out _ ).mono ?_
          rintro e w2 ⟨rfl, b2⟩
          have Z2 := Lib.hid (Z1.out.to b2)
          clear b2
          have c2 := Z2.out.box.num
          have d2 := Z2.out.box.den
          clear c1 d1
          go_wp2_with fail
          refine (HR.out _ (HS.out.below Z2.out.below).std).mono ?_
          rintro e w3 ⟨rfl, b3⟩
          have Z3 := Lib.hid (Z2.out.to b3)
          clear b3
          have c3 := Z3.out.box.num
          have d3 := Z3.out.box.den
          clear c2 d2
          go_wp2_with fail
          refine (HSM.out _ (HS.out.below Z3.out.below).std).mono ?_
          rintro e w4 ⟨rfl, b4⟩
          have Z4 := Lib.hid (Z3.out.to b4)
          clear b4
          have c4 := Z4.out.box.num
          have d4 := Z4.out.box.den
          clear c3 d3
          go_wp2_with fail
          refine (HT.out _).mono ?_
          rintro e w5 ⟨rfl, b5⟩
          obtain rfl := b5
          go_upto_region 7 with fail
          go_quiet (fail)
          go_wp2_with fail
          refine (HC.out _ ?hss).mono ?_
          case hss => exact (HS.out.below (Z4.out.to (drN_below _ _)).below).std
          rintro e w9 ⟨rfl, b9⟩
          have Z9 := Lib.hid ((Z4.out.to (drN_below _ _)).to b9)
          clear b9
          go_wp2_with fail
          go_ret
          exact ⟨rfl, Z9.out.below⟩
        · have q2 : decide ((u.size : Int) ≤ 18) = false := decide_eq_false q1
          clear q0
          go_enter Tryz.func3, Tryz.ntmps3
          go_upto_region 1 with fail
          obtain ⟨W0, hW0⟩ : ∃ W0, W0 = w.alloc (ratO s t) := ⟨_, rfl⟩
          rw [← hW0] at HZ ⊢
          clear hW0
          have c0 := HZ.out.box.num
          have d0 := HZ.out.box.den
          go_wp2_with fail
          refine (HK.out _ (HS.out.below HZ.out.below)).mono ?_
          rintro e w1 ⟨rfl, b1⟩
          have Z1 := Lib.hid (HZ.out.to b1)
          clear b1
          have c1 := Z1.out.box.num
          have d1 := Z1.out.box.den
          clear c0 d0
          go_wp2_with fail
          refine (HLG.out _ ).mono ?_
          rintro e w2 ⟨rfl, b2⟩
          have Z2 := Lib.hid (Z1.out.to b2)
          clear b2
          have c2 := Z2.out.box.num
          have d2 := Z2.out.box.den
          clear c1 d1
          go_wp2_with fail
          refine (HR.out _ (HS.out.below Z2.out.below).std).mono ?_
          rintro e w3 ⟨rfl, b3⟩
          have Z3 := Lib.hid (Z2.out.to b3)
          clear b3
          have c3 := Z3.out.box.num
          have d3 := Z3.out.box.den
          clear c2 d2
          go_wp2_with fail
          refine (HSM.out _ (HS.out.below Z3.out.below).std).mono ?_
          rintro e w4 ⟨rfl, b4⟩
          have Z4 := Lib.hid (Z3.out.to b4)
          clear b4
          have c4 := Z4.out.box.num
          have d4 := Z4.out.box.den
          clear c3 d3
          go_wp2_with fail
          refine (HT.out _).mono ?_
          rintro e w5 ⟨rfl, b5⟩
          obtain rfl := b5
          go_upto_region 7 with fail
          go_quiet (fail)
          go_wp2_with fail
          refine (HC.out _ ?hss).mono ?_
          case hss => exact (HS.out.below (Z4.out.to (drN_below _ _)).below).std
          rintro e w9 ⟨rfl, b9⟩
          have Z9 := Lib.hid ((Z4.out.to (drN_below _ _)).to b9)
          clear b9
          go_wp2_with fail
          go_ret
          exact ⟨rfl, Z9.out.below⟩
end Go.Proofs.YtdgbplppabalgaaGreatDoor
