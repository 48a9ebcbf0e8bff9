/-
  Texts of one seat, joined: YPart Wit Laid YOpen YLaid YTimes.
-/
import Derived.Test.YtdgbplppabalgaaGreatDoorShelf3
import Derived.Test.YtdgbplppabalgaaGreatDoorJ15
import Derived.Test.YtdgbplppabalgaaGreatDoorJ16
import Derived.Test.YtdgbplppabalgaaGreatDoorRows
import Derived.Test.YtdgbplppabalgaaGreatDoorJ1
import Derived.ProofKit
import Derived.OpenShut
import Derived.LaidLaws
import Derived.Deep.DeepHandedRow
import Derived.Deep.DeepWitnessRowRef
import Derived.Lib.LaidTab
import Derived.Stop.LaidErr
import Derived.Test.YtdgbplppabalgaaGreatDoorJ4
import Derived.Lib.SmallJoins
import Derived.ChangeSame
import Derived.ChangeMaps5
import Derived.Test.YtdgbplppabalgaaGreatDoorJ6
namespace Go.Proofs.YtdgbplppabalgaaGreatDoor
open Go.RowKit

/-- what the contracts ask of the world: the tables of Std and the variable of internal/bytealg -/
structure Stf (w : World) : Prop where
  std : Std w
  len : ∃ m : Int, w.cell? ⟨2, 0, none⟩ = some (.int .i64 m)
  lt : 2 < w.heap.size
theorem Stf.below {w w' : World} (h : Stf w) (hb : Below w.heap.size w w') : Stf w' :=
  ⟨h.std.below hb, by obtain ⟨m, hm⟩ := h.len; exact ⟨m, by rw [hb.cell (p := ⟨2, 0, none⟩) h.lt]; exact hm⟩, Nat.lt_of_lt_of_le h.lt hb.size⟩
theorem drN_below (w : World) (n : Nat) : Below w.heap.size w (w.drewN n) := ⟨rfl, rfl, rfl, Nat.le_refl _, fun _ _ => rfl⟩
theorem cutF (s sep : ByteArray) (w : World) (hs : Stf w) (h : s.size ≤ 400) :
    Calls Tryz.prog 78 #[.string s, .string sep] w fun e w' => e = .returned (.tuple #[.string ⟨(Lib.cut s.data.toList sep.data.toList).1.toArray⟩, .string ⟨(Lib.cut s.data.toList sep.data.toList).2.1.toArray⟩, .bool (Lib.cut s.data.toList sep.data.toList).2.2]) ∧ Below w.heap.size w w' := by
  obtain ⟨m, hm⟩ := hs.len
  refine (Tryz.strings_Cut s sep m w (by omega) hm).mono ?_
  rintro e w' ⟨h1, n, rfl⟩
  exact ⟨h1, drN_below w n⟩
set_option maxHeartbeats 3200000 in
set_option maxRecDepth 100000 in
theorem paF_over (s : ByteArray) (w : World) (h : 400 < s.size) :
    Calls Tryz.prog 27 #[.string s] w fun e w' => e = .returned (.tuple #[ratV ⟨#[]⟩ ⟨#[]⟩, .int .i64 16]) ∧ Below w.heap.size w w' := by
  have hp : (400 : Int) < s.size := by omega
  have HZ := Lib.hid (Bz.new w)
  clear h
  go_enter Tryz.func27, Tryz.ntmps27
  go_upto_region 1 with fail
  obtain ⟨W0, hW0⟩ : ∃ W0, W0 = w.alloc (.cells #[.string ⟨#[]⟩, .string ⟨#[]⟩] 24) := ⟨_, rfl⟩
  rw [← hW0] at HZ ⊢
  clear hW0
  have f0 := HZ.out.res.free 0
  have e0 := HZ.out.res.c0
  have e1 := HZ.out.res.c1
  have S0 := HZ.out.res.set0 (.string ⟨#[]⟩)
  have S1 := S0.set1 (.string ⟨#[]⟩)
  have f1 := S0.free 1
  have g1 := S0.c1
  have x0 := S1.c0
  have x1 := S1.c1
  have HBE := Lib.hid ((HZ.out.below.setCell (p := ⟨w.heap.size, 0, none⟩) (Nat.le_refl _) (.string ⟨#[]⟩)).setCell (p := ⟨w.heap.size, 1, none⟩) (Nat.le_refl _) (.string ⟨#[]⟩))
  clear S0 S1
  go_wp2_with fail
  (try simp only [Exit.inBlock, Exit.then])
  refine bodyPost_ret (v := .tuple #[ratV ⟨#[]⟩ ⟨#[]⟩, .int .i64 16]) ?_ rfl ⟨rfl, HBE.out⟩
  rw [results_cell_tmp rfl]
  go_simp
set_option maxHeartbeats 3200000 in
set_option maxRecDepth 100000 in
theorem paF_dec (s : ByteArray) (w : World) (hs : Stf w) (h : ¬ 400 < s.size) (B R : ByteArray) (hc : Lib.cut s.data.toList [46] = (B.data.toList, R.data.toList, true)) (P Q : ByteArray) (E : Int)
    (HP : Hid (∀ wx, Std wx → Calls Tryz.prog 79 #[.string B, .string R] wx fun e w' => e = .returned (.tuple #[ratV P Q, .int .i64 E]) ∧ Below wx.heap.size wx w')) :
    Calls Tryz.prog 27 #[.string s] w fun e w' => e = .returned (.tuple #[ratV P Q, .int .i64 E]) ∧ Below w.heap.size w w' := by
  have hp : ¬ (400 : Int) < s.size := by omega
  have HC := Lib.hid (fun wx (hw : Stf wx) => cutF s ⟨#[46]⟩ wx hw (by omega))
  have hdt : (⟨#[46]⟩ : ByteArray).data.toList = [46] := rfl
  have hB : (⟨B.data.toList.toArray⟩ : ByteArray) = B := by simp
  have hR : (⟨R.data.toList.toArray⟩ : ByteArray) = R := by simp
  rw [hdt, hc] at HC
  simp only [hB, hR] at HC
  have HS := Lib.hid hs
  have HZ := Lib.hid (Bz.new w)
  clear h hs hc hdt hB hR
  go_enter Tryz.func27, Tryz.ntmps27
  go_upto_region 1 with fail
  obtain ⟨W0, hW0⟩ : ∃ W0, W0 = w.alloc (.cells #[.string ⟨#[]⟩, .string ⟨#[]⟩] 24) := ⟨_, rfl⟩
  rw [← hW0] at HZ ⊢
  clear hW0
  go_wp2_with fail
  refine (HC.out _ (HS.out.below HZ.out.below)).mono ?_
  rintro e w1 ⟨rfl, b1⟩
  have Z1 := Lib.hid (HZ.out.to b1)
  clear b1
  go_wp2_with fail
  refine (HP.out _ (HS.out.below Z1.out.below).std).mono ?_
  rintro e w2 ⟨rfl, b2⟩
  have Z2 := Lib.hid (Z1.out.to b2)
  clear b2
  have f0 := Z2.out.res.free 0
  have e0 := Z2.out.res.c0
  have e1 := Z2.out.res.c1
  have S0 := Z2.out.res.set0 (.string P)
  have S1 := S0.set1 (.string Q)
  have f1 := S0.free 1
  have g1 := S0.c1
  have x0 := S1.c0
  have x1 := S1.c1
  have HBE := Lib.hid ((Z2.out.below.setCell (p := ⟨w.heap.size, 0, none⟩) (Nat.le_refl _) (.string P)).setCell (p := ⟨w.heap.size, 1, none⟩) (Nat.le_refl _) (.string Q))
  clear S0 S1
  go_wp2_with fail
  (try simp only [Exit.inBlock, Exit.then])
  refine bodyPost_ret (v := .tuple #[ratV P Q, .int .i64 E]) ?_ rfl ⟨rfl, HBE.out⟩
  rw [results_cell_tmp rfl]
  go_simp
set_option maxHeartbeats 3200000 in
set_option maxRecDepth 100000 in
theorem paF_bar1 (s : ByteArray) (w : World) (hs : Stf w) (h : ¬ 400 < s.size) (hc0 : (46 : UInt8) ∉ s.data.toList) (B R : ByteArray) (hc : Lib.cut s.data.toList [47] = (B.data.toList, R.data.toList, true)) (hBl : B.size ≤ 400) (_hRl : R.size ≤ 400) (k1 : digL (magB B).data.toList = false) :
    Calls Tryz.prog 27 #[.string s] w fun e w' => e = .returned (.tuple #[ratV ⟨#[]⟩ ⟨#[]⟩, .int .i64 15]) ∧ Below w.heap.size w w' := by
  have hp : ¬ (400 : Int) < s.size := by omega
  have HC := Lib.hid (fun wx (hw : Stf wx) => cutF s ⟨#[46]⟩ wx hw (by omega))
  have HC2 := Lib.hid (fun wx (hw : Stf wx) => cutF s ⟨#[47]⟩ wx hw (by omega))
  have hdt : (⟨#[46]⟩ : ByteArray).data.toList = [46] := rfl
  have hdt2 : (⟨#[47]⟩ : ByteArray).data.toList = [47] := rfl
  have hB : (⟨B.data.toList.toArray⟩ : ByteArray) = B := by simp
  have hR : (⟨R.data.toList.toArray⟩ : ByteArray) = R := by simp
  have hcc : Lib.cut s.data.toList [46] = (s.data.toList, [], false) := by
    rcases cut_ways 46 s.data.toList with ⟨b, r, e, _, _⟩ | ⟨_, e⟩
    · exact absurd (by rw [e]; simp) hc0
    · exact e
  rw [hdt, hcc] at HC
  rw [hdt2, hc] at HC2
  simp only [hB, hR] at HC2
  have HT := Lib.hid (fun wx => trP B wx)
  have hm := mag_le B
  have HA := Lib.hid (fun wx => areF_any (magB B) wx (by omega))
  rw [k1] at HA
  obtain ⟨m, hmm⟩ : ∃ m, m = magB B := ⟨_, rfl⟩
  rw [← hmm] at HT HA
  have HS := Lib.hid hs
  have HZ := Lib.hid (Bz.new w)
  clear h hs hc hdt hdt2 hB hR hcc hc0 hBl _hRl hm hmm k1
  go_enter Tryz.func27, Tryz.ntmps27
  go_upto_region 1 with fail
  obtain ⟨W0, hW0⟩ : ∃ W0, W0 = w.alloc (.cells #[.string ⟨#[]⟩, .string ⟨#[]⟩] 24) := ⟨_, rfl⟩
  rw [← hW0] at HZ ⊢
  clear hW0
  go_wp2_with fail
  refine (HC.out _ (HS.out.below HZ.out.below)).mono ?_
  rintro e w1 ⟨rfl, b1⟩
  have Z1 := Lib.hid (HZ.out.to b1)
  clear b1
  go_wp2_with fail
  refine (HC2.out _ (HS.out.below Z1.out.below)).mono ?_
  rintro e w2 ⟨rfl, b2⟩
  have Z2 := Lib.hid (Z1.out.to b2)
  clear b2
  go_wp2_with fail
  refine (HT.out _).mono ?_
  rintro e w3 ⟨rfl, rfl⟩
  go_wp2_with fail
  refine (HA.out _).mono ?_
  rintro e w4 ⟨rfl, rfl⟩
  have f0 := Z2.out.res.free 0
  have e0 := Z2.out.res.c0
  have e1 := Z2.out.res.c1
  have S0 := Z2.out.res.set0 (.string ⟨#[]⟩)
  have S1 := S0.set1 (.string ⟨#[]⟩)
  have f1 := S0.free 1
  have g1 := S0.c1
  have x0 := S1.c0
  have x1 := S1.c1
  have HBE := Lib.hid ((Z2.out.below.setCell (p := ⟨w.heap.size, 0, none⟩) (Nat.le_refl _) (.string ⟨#[]⟩)).setCell (p := ⟨w.heap.size, 1, none⟩) (Nat.le_refl _) (.string ⟨#[]⟩))
  clear S0 S1
  go_wp2_with fail
  (try simp only [Exit.inBlock, Exit.then])
  refine bodyPost_ret (v := .tuple #[ratV ⟨#[]⟩ ⟨#[]⟩, .int .i64 15]) ?_ rfl ⟨rfl, HBE.out⟩
  rw [results_cell_tmp rfl]
  go_simp
set_option maxHeartbeats 3200000 in
set_option maxRecDepth 100000 in
theorem paF_bar2 (s : ByteArray) (w : World) (hs : Stf w) (h : ¬ 400 < s.size) (hc0 : (46 : UInt8) ∉ s.data.toList) (B R : ByteArray) (hc : Lib.cut s.data.toList [47] = (B.data.toList, R.data.toList, true)) (hBl : B.size ≤ 400) (hRl : R.size ≤ 400) (k1 : digL (magB B).data.toList = true) (k2 : digL R.data.toList = false) :
    Calls Tryz.prog 27 #[.string s] w fun e w' => e = .returned (.tuple #[ratV ⟨#[]⟩ ⟨#[]⟩, .int .i64 15]) ∧ Below w.heap.size w w' := by
  have hp : ¬ (400 : Int) < s.size := by omega
  have HC := Lib.hid (fun wx (hw : Stf wx) => cutF s ⟨#[46]⟩ wx hw (by omega))
  have HC2 := Lib.hid (fun wx (hw : Stf wx) => cutF s ⟨#[47]⟩ wx hw (by omega))
  have hdt : (⟨#[46]⟩ : ByteArray).data.toList = [46] := rfl
  have hdt2 : (⟨#[47]⟩ : ByteArray).data.toList = [47] := rfl
  have hB : (⟨B.data.toList.toArray⟩ : ByteArray) = B := by simp
  have hR : (⟨R.data.toList.toArray⟩ : ByteArray) = R := by simp
  have hcc : Lib.cut s.data.toList [46] = (s.data.toList, [], false) := by
    rcases cut_ways 46 s.data.toList with ⟨b, r, e, _, _⟩ | ⟨_, e⟩
    · exact absurd (by rw [e]; simp) hc0
    · exact e
  rw [hdt, hcc] at HC
  rw [hdt2, hc] at HC2
  simp only [hB, hR] at HC2
  have HT := Lib.hid (fun wx => trP B wx)
  have hm := mag_le B
  have HA := Lib.hid (fun wx => areF_any (magB B) wx (by omega))
  rw [k1] at HA
  have HR := Lib.hid (fun wx => areF_any R wx (by omega))
  rw [k2] at HR
  obtain ⟨m, hmm⟩ : ∃ m, m = magB B := ⟨_, rfl⟩
  rw [← hmm] at HT HA
  have HS := Lib.hid hs
  have HZ := Lib.hid (Bz.new w)
  clear h hs hc hdt hdt2 hB hR hcc hc0 hBl hRl hm hmm k1 k2
  go_enter Tryz.func27, Tryz.ntmps27
  go_upto_region 1 with fail
  obtain ⟨W0, hW0⟩ : ∃ W0, W0 = w.alloc (.cells #[.string ⟨#[]⟩, .string ⟨#[]⟩] 24) := ⟨_, rfl⟩
  rw [← hW0] at HZ ⊢
  clear hW0
  go_wp2_with fail
  refine (HC.out _ (HS.out.below HZ.out.below)).mono ?_
  rintro e w1 ⟨rfl, b1⟩
  have Z1 := Lib.hid (HZ.out.to b1)
  clear b1
  go_wp2_with fail
  refine (HC2.out _ (HS.out.below Z1.out.below)).mono ?_
  rintro e w2 ⟨rfl, b2⟩
  have Z2 := Lib.hid (Z1.out.to b2)
  clear b2
  go_wp2_with fail
  refine (HT.out _).mono ?_
  rintro e w3 ⟨rfl, rfl⟩
  go_wp2_with fail
  refine (HA.out _).mono ?_
  rintro e w4 ⟨rfl, rfl⟩
  go_wp2_with fail
  refine (HR.out _).mono ?_
  rintro e w5 ⟨rfl, rfl⟩
  have f0 := Z2.out.res.free 0
  have e0 := Z2.out.res.c0
  have e1 := Z2.out.res.c1
  have S0 := Z2.out.res.set0 (.string ⟨#[]⟩)
  have S1 := S0.set1 (.string ⟨#[]⟩)
  have f1 := S0.free 1
  have g1 := S0.c1
  have x0 := S1.c0
  have x1 := S1.c1
  have HBE := Lib.hid ((Z2.out.below.setCell (p := ⟨w.heap.size, 0, none⟩) (Nat.le_refl _) (.string ⟨#[]⟩)).setCell (p := ⟨w.heap.size, 1, none⟩) (Nat.le_refl _) (.string ⟨#[]⟩))
  clear S0 S1
  go_wp2_with fail
  (try simp only [Exit.inBlock, Exit.then])
  refine bodyPost_ret (v := .tuple #[ratV ⟨#[]⟩ ⟨#[]⟩, .int .i64 15]) ?_ rfl ⟨rfl, HBE.out⟩
  rw [results_cell_tmp rfl]
  go_simp
set_option maxHeartbeats 3200000 in
set_option maxRecDepth 100000 in
theorem paF_bar3 (s : ByteArray) (w : World) (hs : Stf w) (h : ¬ 400 < s.size) (hc0 : (46 : UInt8) ∉ s.data.toList) (B R : ByteArray) (hc : Lib.cut s.data.toList [47] = (B.data.toList, R.data.toList, true)) (hBl : B.size ≤ 400) (hRl : R.size ≤ 400) (k1 : digL (magB B).data.toList = true) (k2 : digL R.data.toList = true) :
    Calls Tryz.prog 27 #[.string s] w fun e w' => e = .returned (.tuple #[ratV (newS (sgN (negB B) (val (magB B).data.toList)) ((val R.data.toList : Nat) : Int)) (newT (sgN (negB B) (val (magB B).data.toList)) ((val R.data.toList : Nat) : Int)), .int .i64 (newE ((val R.data.toList : Nat) : Int))]) ∧ Below w.heap.size w w' := by
  have hp : ¬ (400 : Int) < s.size := by omega
  have HC := Lib.hid (fun wx (hw : Stf wx) => cutF s ⟨#[46]⟩ wx hw (by omega))
  have HC2 := Lib.hid (fun wx (hw : Stf wx) => cutF s ⟨#[47]⟩ wx hw (by omega))
  have hdt : (⟨#[46]⟩ : ByteArray).data.toList = [46] := rfl
  have hdt2 : (⟨#[47]⟩ : ByteArray).data.toList = [47] := rfl
  have hB : (⟨B.data.toList.toArray⟩ : ByteArray) = B := by simp
  have hR : (⟨R.data.toList.toArray⟩ : ByteArray) = R := by simp
  have hcc : Lib.cut s.data.toList [46] = (s.data.toList, [], false) := by
    rcases cut_ways 46 s.data.toList with ⟨b, r, e, _, _⟩ | ⟨_, e⟩
    · exact absurd (by rw [e]; simp) hc0
    · exact e
  rw [hdt, hcc] at HC
  rw [hdt2, hc] at HC2
  simp only [hB, hR] at HC2
  have HT := Lib.hid (fun wx => trP B wx)
  have hm := mag_le B
  have HA := Lib.hid (fun wx => areF_any (magB B) wx (by omega))
  rw [k1] at HA
  have HR := Lib.hid (fun wx => areF_any R wx (by omega))
  rw [k2] at HR
  have HP1 := Lib.hid (fun wx => parW_any B wx (by omega))
  rw [par_dig k1 hBl] at HP1
  have HP2 := Lib.hid (fun wx => parW_any R wx (by omega))
  rw [par_pl k2 hRl] at HP2
  have h3 : (str (sgN (negB B) (val (magB B).data.toList)).natAbs).size ≤ 400000 := by
    rw [sgN_abs]
    exact Nat.le_trans (val_size2 (digL_all k1) (k := 400) (by rw [← size_list]; omega) (by decide)) (by decide)
  have h4 : (str (((val R.data.toList : Nat) : Int) : Int).natAbs).size ≤ 400000 := by
    rw [Int.natAbs_natCast]
    exact Nat.le_trans (val_size2 (digL_all k2) (k := 400) (by rw [← size_list]; omega) (by decide)) (by decide)
  have HN := Lib.hid (fun wx (hw : Std wx) => newF_any (sgN (negB B) (val (magB B).data.toList)) ((val R.data.toList : Nat) : Int) wx hw h3 h4)
  obtain ⟨N, hN⟩ : ∃ N, N = sgN (negB B) (val (magB B).data.toList) := ⟨_, rfl⟩
  obtain ⟨D, hD⟩ : ∃ D : Int, D = ((val R.data.toList : Nat) : Int) := ⟨_, rfl⟩
  rw [← hN, ← hD] at HN ⊢
  rw [← hN] at HP1
  rw [← hD] at HP2
  obtain ⟨ps, hps⟩ : ∃ s, s = newS N D := ⟨_, rfl⟩
  obtain ⟨qs, hqs⟩ : ∃ s, s = newT N D := ⟨_, rfl⟩
  obtain ⟨E, hE⟩ : ∃ E, E = newE D := ⟨_, rfl⟩
  rw [← hps, ← hqs, ← hE] at HN ⊢
  obtain ⟨sn, hsn⟩ : ∃ s, s = zS N := ⟨_, rfl⟩
  obtain ⟨sd, hsd⟩ : ∃ s, s = zS D := ⟨_, rfl⟩
  rw [← hsn, ← hsd] at HN
  rw [← hsn] at HP1
  rw [← hsd] at HP2
  clear hN hD hps hqs hE hsn hsd h3 h4
  obtain ⟨m, hmm⟩ : ∃ m, m = magB B := ⟨_, rfl⟩
  rw [← hmm] at HT HA
  have HS := Lib.hid hs
  have HZ := Lib.hid (Bz.new w)
  clear h hs hc hdt hdt2 hB hR hcc hc0 hBl hRl hm hmm k1 k2
  go_enter Tryz.func27, Tryz.ntmps27
  go_upto_region 1 with fail
  obtain ⟨W0, hW0⟩ : ∃ W0, W0 = w.alloc (.cells #[.string ⟨#[]⟩, .string ⟨#[]⟩] 24) := ⟨_, rfl⟩
  rw [← hW0] at HZ ⊢
  clear hW0
  go_wp2_with fail
  refine (HC.out _ (HS.out.below HZ.out.below)).mono ?_
  rintro e w1 ⟨rfl, b1⟩
  have Z1 := Lib.hid (HZ.out.to b1)
  clear b1
  go_wp2_with fail
  refine (HC2.out _ (HS.out.below Z1.out.below)).mono ?_
  rintro e w2 ⟨rfl, b2⟩
  have Z2 := Lib.hid (Z1.out.to b2)
  clear b2
  go_wp2_with fail
  refine (HT.out _).mono ?_
  rintro e w3 ⟨rfl, rfl⟩
  go_wp2_with fail
  refine (HA.out _).mono ?_
  rintro e w4 ⟨rfl, rfl⟩
  go_wp2_with fail
  refine (HR.out _).mono ?_
  rintro e w5 ⟨rfl, rfl⟩
  go_wp2_with fail
  refine (HP1.out _ ).mono ?_
  rintro e w6 ⟨rfl, b6⟩
  have Z6 := Lib.hid (Z2.out.to b6)
  clear b6
  go_wp2_with fail
  refine (HP2.out _ ).mono ?_
  rintro e w7 ⟨rfl, b7⟩
  have Z7 := Lib.hid (Z6.out.to b7)
  clear b7
  go_wp2_with fail
  refine (HN.out _ (HS.out.below Z7.out.below).std).mono ?_
  rintro e w8 ⟨rfl, b8⟩
  have Z8 := Lib.hid (Z7.out.to b8)
  clear b8
  have f0 := Z8.out.res.free 0
  have e0 := Z8.out.res.c0
  have e1 := Z8.out.res.c1
  have S0 := Z8.out.res.set0 (.string ps)
  have S1 := S0.set1 (.string qs)
  have f1 := S0.free 1
  have g1 := S0.c1
  have x0 := S1.c0
  have x1 := S1.c1
  have HBE := Lib.hid ((Z8.out.below.setCell (p := ⟨w.heap.size, 0, none⟩) (Nat.le_refl _) (.string ps)).setCell (p := ⟨w.heap.size, 1, none⟩) (Nat.le_refl _) (.string qs))
  clear S0 S1
  go_wp2_with fail
  (try simp only [Exit.inBlock, Exit.then])
  refine bodyPost_ret (v := .tuple #[ratV ps qs, .int .i64 E]) ?_ rfl ⟨rfl, HBE.out⟩
  rw [results_cell_tmp rfl]
  go_simp
set_option maxHeartbeats 3200000 in
set_option maxRecDepth 100000 in
theorem paF_no1 (s : ByteArray) (w : World) (hs : Stf w) (h : ¬ 400 < s.size) (hc0 : (46 : UInt8) ∉ s.data.toList) (B R : ByteArray) (hc : Lib.cut s.data.toList [47] = (B.data.toList, R.data.toList, false)) (hBl : B.size ≤ 400) (_hRl : R.size ≤ 400) (k1 : digL (magB B).data.toList = false) :
    Calls Tryz.prog 27 #[.string s] w fun e w' => e = .returned (.tuple #[ratV ⟨#[]⟩ ⟨#[]⟩, .int .i64 15]) ∧ Below w.heap.size w w' := by
  have hp : ¬ (400 : Int) < s.size := by omega
  have HC := Lib.hid (fun wx (hw : Stf wx) => cutF s ⟨#[46]⟩ wx hw (by omega))
  have HC2 := Lib.hid (fun wx (hw : Stf wx) => cutF s ⟨#[47]⟩ wx hw (by omega))
  have hdt : (⟨#[46]⟩ : ByteArray).data.toList = [46] := rfl
  have hdt2 : (⟨#[47]⟩ : ByteArray).data.toList = [47] := rfl
  have hB : (⟨B.data.toList.toArray⟩ : ByteArray) = B := by simp
  have hR : (⟨R.data.toList.toArray⟩ : ByteArray) = R := by simp
  have hcc : Lib.cut s.data.toList [46] = (s.data.toList, [], false) := by
    rcases cut_ways 46 s.data.toList with ⟨b, r, e, _, _⟩ | ⟨_, e⟩
    · exact absurd (by rw [e]; simp) hc0
    · exact e
  rw [hdt, hcc] at HC
  rw [hdt2, hc] at HC2
  simp only [hB, hR] at HC2
  have HT := Lib.hid (fun wx => trP B wx)
  have hm := mag_le B
  have HA := Lib.hid (fun wx => areF_any (magB B) wx (by omega))
  rw [k1] at HA
  obtain ⟨m, hmm⟩ : ∃ m, m = magB B := ⟨_, rfl⟩
  rw [← hmm] at HT HA
  have HS := Lib.hid hs
  have HZ := Lib.hid (Bz.new w)
  clear h hs hc hdt hdt2 hB hR hcc hc0 hBl _hRl hm hmm k1
  go_enter Tryz.func27, Tryz.ntmps27
  go_upto_region 1 with fail
  obtain ⟨W0, hW0⟩ : ∃ W0, W0 = w.alloc (.cells #[.string ⟨#[]⟩, .string ⟨#[]⟩] 24) := ⟨_, rfl⟩
  rw [← hW0] at HZ ⊢
  clear hW0
  go_wp2_with fail
  refine (HC.out _ (HS.out.below HZ.out.below)).mono ?_
  rintro e w1 ⟨rfl, b1⟩
  have Z1 := Lib.hid (HZ.out.to b1)
  clear b1
  go_wp2_with fail
  refine (HC2.out _ (HS.out.below Z1.out.below)).mono ?_
  rintro e w2 ⟨rfl, b2⟩
  have Z2 := Lib.hid (Z1.out.to b2)
  clear b2
  go_wp2_with fail
  refine (HT.out _).mono ?_
  rintro e w3 ⟨rfl, rfl⟩
  go_wp2_with fail
  refine (HA.out _).mono ?_
  rintro e w4 ⟨rfl, rfl⟩
  have f0 := Z2.out.res.free 0
  have e0 := Z2.out.res.c0
  have e1 := Z2.out.res.c1
  have S0 := Z2.out.res.set0 (.string ⟨#[]⟩)
  have S1 := S0.set1 (.string ⟨#[]⟩)
  have f1 := S0.free 1
  have g1 := S0.c1
  have x0 := S1.c0
  have x1 := S1.c1
  have HBE := Lib.hid ((Z2.out.below.setCell (p := ⟨w.heap.size, 0, none⟩) (Nat.le_refl _) (.string ⟨#[]⟩)).setCell (p := ⟨w.heap.size, 1, none⟩) (Nat.le_refl _) (.string ⟨#[]⟩))
  clear S0 S1
  go_wp2_with fail
  (try simp only [Exit.inBlock, Exit.then])
  refine bodyPost_ret (v := .tuple #[ratV ⟨#[]⟩ ⟨#[]⟩, .int .i64 15]) ?_ rfl ⟨rfl, HBE.out⟩
  rw [results_cell_tmp rfl]
  go_simp
set_option maxHeartbeats 3200000 in
set_option maxRecDepth 100000 in
theorem paF_no3 (s : ByteArray) (w : World) (hs : Stf w) (h : ¬ 400 < s.size) (hc0 : (46 : UInt8) ∉ s.data.toList) (B R : ByteArray) (hc : Lib.cut s.data.toList [47] = (B.data.toList, R.data.toList, false)) (hBl : B.size ≤ 400) (_hRl : R.size ≤ 400) (k1 : digL (magB B).data.toList = true) :
    Calls Tryz.prog 27 #[.string s] w fun e w' => e = .returned (.tuple #[ratV (newS (sgN (negB B) (val (magB B).data.toList)) 1) (newT (sgN (negB B) (val (magB B).data.toList)) 1), .int .i64 (newE 1)]) ∧ Below w.heap.size w w' := by
  have hp : ¬ (400 : Int) < s.size := by omega
  have HC := Lib.hid (fun wx (hw : Stf wx) => cutF s ⟨#[46]⟩ wx hw (by omega))
  have HC2 := Lib.hid (fun wx (hw : Stf wx) => cutF s ⟨#[47]⟩ wx hw (by omega))
  have hdt : (⟨#[46]⟩ : ByteArray).data.toList = [46] := rfl
  have hdt2 : (⟨#[47]⟩ : ByteArray).data.toList = [47] := rfl
  have hB : (⟨B.data.toList.toArray⟩ : ByteArray) = B := by simp
  have hR : (⟨R.data.toList.toArray⟩ : ByteArray) = R := by simp
  have hcc : Lib.cut s.data.toList [46] = (s.data.toList, [], false) := by
    rcases cut_ways 46 s.data.toList with ⟨b, r, e, _, _⟩ | ⟨_, e⟩
    · exact absurd (by rw [e]; simp) hc0
    · exact e
  rw [hdt, hcc] at HC
  rw [hdt2, hc] at HC2
  simp only [hB, hR] at HC2
  have HT := Lib.hid (fun wx => trP B wx)
  have hm := mag_le B
  have HA := Lib.hid (fun wx => areF_any (magB B) wx (by omega))
  rw [k1] at HA
  have HR := Lib.hid (fun wx => areF_any ⟨#[49]⟩ wx (by decide))
  have hone : digL (⟨#[49]⟩ : ByteArray).data.toList = true := by decide
  rw [hone] at HR
  clear hone
  have HP1 := Lib.hid (fun wx => parW_any B wx (by omega))
  rw [par_dig k1 hBl] at HP1
  have HP2 := Lib.hid (fun wx => parW_any ⟨#[49]⟩ wx (by decide))
  rw [par_one] at HP2
  have h3 : (str (sgN (negB B) (val (magB B).data.toList)).natAbs).size ≤ 400000 := by
    rw [sgN_abs]
    exact Nat.le_trans (val_size2 (digL_all k1) (k := 400) (by rw [← size_list]; omega) (by decide)) (by decide)
  have h4 : (str (1 : Int).natAbs).size ≤ 400000 := Nat.le_trans (str_big (n := 1) (by decide) (by decide)) (by decide)
  have HN := Lib.hid (fun wx (hw : Std wx) => newF_any (sgN (negB B) (val (magB B).data.toList)) 1 wx hw h3 h4)
  obtain ⟨N, hN⟩ : ∃ N, N = sgN (negB B) (val (magB B).data.toList) := ⟨_, rfl⟩
  obtain ⟨D, hD⟩ : ∃ D : Int, D = 1 := ⟨_, rfl⟩
  rw [← hN, ← hD] at HN ⊢
  rw [← hN] at HP1
  rw [← hD] at HP2
  obtain ⟨ps, hps⟩ : ∃ s, s = newS N D := ⟨_, rfl⟩
  obtain ⟨qs, hqs⟩ : ∃ s, s = newT N D := ⟨_, rfl⟩
  obtain ⟨E, hE⟩ : ∃ E, E = newE D := ⟨_, rfl⟩
  rw [← hps, ← hqs, ← hE] at HN ⊢
  obtain ⟨sn, hsn⟩ : ∃ s, s = zS N := ⟨_, rfl⟩
  obtain ⟨sd, hsd⟩ : ∃ s, s = zS D := ⟨_, rfl⟩
  rw [← hsn, ← hsd] at HN
  rw [← hsn] at HP1
  rw [← hsd] at HP2
  clear hN hD hps hqs hE hsn hsd h3 h4
  obtain ⟨m, hmm⟩ : ∃ m, m = magB B := ⟨_, rfl⟩
  rw [← hmm] at HT HA
  have HS := Lib.hid hs
  have HZ := Lib.hid (Bz.new w)
  clear h hs hc hdt hdt2 hB hR hcc hc0 hBl _hRl hm hmm k1
  go_enter Tryz.func27, Tryz.ntmps27
  go_upto_region 1 with fail
  obtain ⟨W0, hW0⟩ : ∃ W0, W0 = w.alloc (.cells #[.string ⟨#[]⟩, .string ⟨#[]⟩] 24) := ⟨_, rfl⟩
  rw [← hW0] at HZ ⊢
  clear hW0
  go_wp2_with fail
  refine (HC.out _ (HS.out.below HZ.out.below)).mono ?_
  rintro e w1 ⟨rfl, b1⟩
  have Z1 := Lib.hid (HZ.out.to b1)
  clear b1
  go_wp2_with fail
  refine (HC2.out _ (HS.out.below Z1.out.below)).mono ?_
  rintro e w2 ⟨rfl, b2⟩
  have Z2 := Lib.hid (Z1.out.to b2)
  clear b2
  go_wp2_with fail
  refine (HT.out _).mono ?_
  rintro e w3 ⟨rfl, rfl⟩
  go_wp2_with fail
  refine (HA.out _).mono ?_
  rintro e w4 ⟨rfl, rfl⟩
  go_wp2_with fail
  refine (HR.out _).mono ?_
  rintro e w5 ⟨rfl, rfl⟩
  go_wp2_with fail
  refine (HP1.out _ ).mono ?_
  rintro e w6 ⟨rfl, b6⟩
  have Z6 := Lib.hid (Z2.out.to b6)
  clear b6
  go_wp2_with fail
  refine (HP2.out _ ).mono ?_
  rintro e w7 ⟨rfl, b7⟩
  have Z7 := Lib.hid (Z6.out.to b7)
  clear b7
  go_wp2_with fail
  refine (HN.out _ (HS.out.below Z7.out.below).std).mono ?_
  rintro e w8 ⟨rfl, b8⟩
  have Z8 := Lib.hid (Z7.out.to b8)
  clear b8
  have f0 := Z8.out.res.free 0
  have e0 := Z8.out.res.c0
  have e1 := Z8.out.res.c1
  have S0 := Z8.out.res.set0 (.string ps)
  have S1 := S0.set1 (.string qs)
  have f1 := S0.free 1
  have g1 := S0.c1
  have x0 := S1.c0
  have x1 := S1.c1
  have HBE := Lib.hid ((Z8.out.below.setCell (p := ⟨w.heap.size, 0, none⟩) (Nat.le_refl _) (.string ps)).setCell (p := ⟨w.heap.size, 1, none⟩) (Nat.le_refl _) (.string qs))
  clear S0 S1
  go_wp2_with fail
  (try simp only [Exit.inBlock, Exit.then])
  refine bodyPost_ret (v := .tuple #[ratV ps qs, .int .i64 E]) ?_ rfl ⟨rfl, HBE.out⟩
  rw [results_cell_tmp rfl]
  go_simp
theorem mkL (l : List UInt8) : (⟨l.toArray⟩ : ByteArray).data.toList = l := by simp
theorem sz_mk {s : ByteArray} {b r : List UInt8} {y : UInt8} (h : s.data.toList = b ++ y :: r) : (⟨b.toArray⟩ : ByteArray).size + (⟨r.toArray⟩ : ByteArray).size + 1 = s.size := by
  rw [size_list, size_list, size_list, mkL, mkL, h, List.length_append, List.length_cons]; omega
theorem paF_any (s : ByteArray) (w : World) (hs : Stf w) :
    Calls Tryz.prog 27 #[.string s] w fun e w' => e = .returned (.tuple #[ratV (parO s).1 (parO s).2.1, .int .i64 (parO s).2.2]) ∧ Below w.heap.size w w' := by
  by_cases h : 400 < s.size
  · rw [parO_over h]; exact paF_over s w h
  rcases cut_ways 46 s.data.toList with ⟨b, r, e, hb, hc⟩ | ⟨hc0, hc⟩
  · have hsz := sz_mk e
    have hc2 : Lib.cut s.data.toList [46] = ((⟨b.toArray⟩ : ByteArray).data.toList, (⟨r.toArray⟩ : ByteArray).data.toList, true) := by rw [mkL, mkL]; exact hc
    by_cases k : digL (magB ⟨b.toArray⟩).data.toList = true ∧ digL r = true
    · rw [parO_dec h e k.1 k.2]
      have hl : (⟨r.toArray⟩ : ByteArray).size = r.length := by rw [size_list, mkL]
      have := fun wx (hw : Std wx) => pdF_ok ⟨b.toArray⟩ ⟨r.toArray⟩ wx hw (by omega) k.1 (by rw [mkL]; exact k.2)
      rw [mkL, hl] at this
      exact paF_dec s w hs h _ _ hc2 _ _ _ (Lib.hid this)
    · have k' : digL (magB ⟨b.toArray⟩).data.toList = false ∨ digL r = false := by
        cases h1 : digL (magB ⟨b.toArray⟩).data.toList with
        | false => exact .inl rfl
        | true => right; cases h2 : digL r with
          | false => rfl
          | true => exact absurd ⟨h1, h2⟩ k
      rw [parO_bad h e (.inr rfl) k']
      exact paF_dec s w hs h _ _ hc2 _ _ _ (Lib.hid (fun wx _ => pdF_bad ⟨b.toArray⟩ ⟨r.toArray⟩ wx (by omega) (by omega) (by rw [mkL]; exact k')))
  · rcases cut_ways 47 s.data.toList with ⟨b, r, e, hb, hc⟩ | ⟨hc1, hc⟩
    · have hsz := sz_mk e
      have hc2 : Lib.cut s.data.toList [47] = ((⟨b.toArray⟩ : ByteArray).data.toList, (⟨r.toArray⟩ : ByteArray).data.toList, true) := by rw [mkL, mkL]; exact hc
      cases h1 : digL (magB ⟨b.toArray⟩).data.toList with
      | false => rw [parO_bad h e (.inl rfl) (.inl h1)]; exact paF_bar1 s w hs h hc0 _ _ hc2 (by omega) (by omega) h1
      | true =>
        cases h2 : digL r with
        | false => rw [parO_bad h e (.inl rfl) (.inr h2)]; exact paF_bar2 s w hs h hc0 _ _ hc2 (by omega) (by omega) h1 (by rw [mkL]; exact h2)
        | true =>
          rw [parO_rat h e h1 h2]
          have := paF_bar3 s w hs h hc0 _ _ hc2 (by omega) (by omega) h1 (by rw [mkL]; exact h2)
          rw [mkL] at this
          exact this
    · have hc2 : Lib.cut s.data.toList [47] = (s.data.toList, (⟨#[]⟩ : ByteArray).data.toList, false) := hc
      cases h1 : digL (magB s).data.toList with
      | false => rw [parO_none h hc1 hc0 h1]; exact paF_no1 s w hs h hc0 _ _ hc2 (by omega) (by decide) h1
      | true => rw [parO_one h hc1 hc0 h1]; exact paF_no3 s w hs h hc0 _ _ hc2 (by omega) (by decide) h1
end Go.Proofs.YtdgbplppabalgaaGreatDoor

namespace Go.Proofs.YtdgbplppabalgaaGreatDoor
open Go.ChangeShapes Go.WideShapes Go.ChangeAt Go.RowKit

theorem own : ownKnob Tryz.prog.godebug = none := by kernel_rfl

def litV : DataW Unit → Value
  | .lit (.int k n) => .int k n
  | _ => .nilIface
def flatV : DataW Unit → Array Value
  | .agg ps => (ps.map litV).toArray
  | _ => #[]
def flatV2 : DataW Unit → Array Value
  | .agg ps => (ps.flatMap fun | .agg qs => qs.map litV | _ => []).toArray
  | _ => #[]
def rngS : ByteArray := ⟨#[118, 97, 108, 117, 101, 32, 111, 117, 116, 32, 111, 102, 32, 114, 97, 110, 103, 101]⟩
def synS : ByteArray := ⟨#[105, 110, 118, 97, 108, 105, 100, 32, 115, 121, 110, 116, 97, 120]⟩
/-- So many blocks has the settled world. -/
noncomputable def low : Nat := (World.holding Tryz.prog default ⟨#[], #[], []⟩).heap.size
def put (cs : Array Value) : Obj → Obj
  | .cells _ t frozen => .cells cs t frozen
  | o => o
noncomputable def laidWorld (os : Os) : World :=
  let w0 := World.holding Tryz.prog os ⟨#[.cells #[.string synS] 225, .cells #[.string rngS] 225], #[], []⟩
  { w0 with heap := ((((((w0.heap.modify 8 (put (flatV Rows.laid_math_bits_deBruijn32tab))).modify 9 (put (flatV Rows.laid_math_bits_deBruijn64tab))).modify 3 (put (flatV Rows.laid_internal_strconv_uint64pow10))).modify 7 (put (flatV2 Rows.laid_unicode_utf8_acceptRanges))).modify 6 (put (flatV Rows.laid_unicode_utf8_first))).modify 0 (put #[.iface 223 (.pointer (some ⟨low, 0, none⟩))])).modify 1 (put #[.iface 223 (.pointer (some ⟨low + 1, 0, none⟩))]) }
theorem laid_met (os : Os) (args : Array Value) : laidMet Tryz.prog Rows.fractionChecksRow.laid ((laidWorld os).forCall (fun _ _ => 0) ⟨#[], args, []⟩).memory :=
  laidMet_of_run' 8 (by kernel_rfl) (by kernel_rfl)
end Go.Proofs.YtdgbplppabalgaaGreatDoor

namespace Go.Proofs.YtdgbplppabalgaaGreatDoor
open Go.ChangeShapes Go.WideShapes Go.ChangeAt Go.RowKit

theorem gTab : Tryz.prog.globalNamed "internal/strconv.uint64pow10" = some 3 := by kernel_rfl
theorem gTabType : (Tryz.prog.globals[3]?).map (·.type) = some 219 := by kernel_rfl
theorem cellsTab : Tryz.prog.cellsOf 219 = 20 := by kernel_rfl
theorem cellsU64 : Tryz.prog.cellsOf 135 = 1 := by kernel_rfl
theorem gER : Tryz.prog.globalNamed "strconv.ErrRange" = some 1 := by kernel_rfl
theorem gERType : (Tryz.prog.globals[1]?).map (·.type) = some 88 := by kernel_rfl
theorem cellsES : Tryz.prog.cellsOf 225 = 1 := by kernel_rfl
theorem cellsS : Tryz.prog.cellsOf 9 = 1 := by kernel_rfl
theorem star : "*" ++ "errors.errorString" = "*errors.errorString" := by decide
theorem rowES (u : TypeId) (h : Tryz.prog.typeName? 3 u = some "*errors.errorString") : u = 223 :=
  typeName_ptr_named (nm := "errors.errorString") (by rw [star]; kernel_rfl) (by kernel_rfl) (by decide) u (by rw [star]; exact h)

theorem std_of {W : World} (h : laidMetH Tryz.prog Rows.fractionChecksRow.laid W) : Std W := by
  have h0 : laidMet Tryz.prog Rows.fractionChecksRow.laid W := h
  refine ⟨?_, ?_⟩
  · exact Lib.tabIs_of_head (zs := Lib.pow10Tab) gTab gTabType Tryz.underlying219 Tryz.underlying135 cellsU64 cellsTab h0.tail.tail
  · obtain ⟨a, s, hv, -, -, -⟩ := laid_sentinel h0.tail.tail.tail.tail gER gERType Tryz.underlying88 rowES Tryz.underlying223 Tryz.underlying225 rfl rfl Tryz.underlying9 cellsES cellsS
    exact ⟨_, _, hv⟩
end Go.Proofs.YtdgbplppabalgaaGreatDoor

namespace Go.Proofs.YtdgbplppabalgaaGreatDoor
open Go.ChangeShapes Go.WideShapes Go.ChangeAt Go.RowKit Go.Joins
set_option maxRecDepth 100000 in
theorem open_rat {H : Type} {enc : TypeId × Value → H} {W : World} {base b0 : Nat} {held : Bool} {r : Reach} {v : Value} {d : DataW H} {p : List MemPlace}
    (hv : Value.okWide Tryz.prog W r b0 24 v) (h : DataW.Trod enc Tryz.prog W base (fun _ => true) held 24 v d p) :
    ∃ s t : ByteArray, v = .agg #[.string s, .string t] ∧ s.size ≤ 9223372036854775807 ∧ t.size ≤ 9223372036854775807 := by
  obtain ⟨v0, v1, y0, y1, n, rfl, -, -, h0, h1⟩ := open_agg2 Tryz.underlying24 (by kernel_rfl) (by kernel_rfl) hv h
  obtain ⟨s, hs, -, hs2⟩ := DataW.trod_string Tryz.underlying22 h0
  obtain ⟨t, ht, -, ht2⟩ := DataW.trod_string Tryz.underlying22 h1
  obtain rfl : v0 = .string s := by simpa using hs
  obtain rfl : v1 = .string t := by simpa using ht
  exact ⟨s, t, rfl, hs2, ht2⟩
end Go.Proofs.YtdgbplppabalgaaGreatDoor

namespace Go.Proofs.YtdgbplppabalgaaGreatDoor
open Go.RowKit Go.ChangeShapes Go.WideShapes Go.ChangeAt

theorem cell_lt {w : World} {g o : Nat} {v : Value} (h : w.cell? ⟨g, o, none⟩ = some v) : g < w.heap.size := by
  apply Nat.lt_of_not_le; intro hle
  unfold World.cell? at h
  simp only [Array.getElem?_eq_none hle] at h; simp at h
theorem stf_of {W : World} (h : laidMetH Tryz.prog Rows.fractionChecksRow.laid W) (hsh : W.ShapedOpen Tryz.prog) : Stf W := by
  obtain ⟨m, hm⟩ := Tryz.laysM145.s1_3 W hsh
  have hm2 : W.cell? ⟨2, 0, none⟩ = some (.int .i64 m) := hm
  exact ⟨std_of h, ⟨m, hm2⟩, cell_lt hm2⟩
end Go.Proofs.YtdgbplppabalgaaGreatDoor

namespace Go.Proofs.YtdgbplppabalgaaGreatDoor
open Go.RowKit

set_option maxHeartbeats 400000 in
theorem magF_any (z : Int) (w : World) (h1 : -9223372036854775807 ≤ z) (h2 : z ≤ 9223372036854775807) :
    Calls Tryz.prog 143 #[.int .i64 z] w fun e w' => e = .returned (.int .u64 (z.natAbs : Int)) ∧ w = w' := by
  have hm : max z (-z) = (z.natAbs : Int) := by omega
  have hw := IntWalk.i64_in (-z) ⟨by omega, by omega⟩
  have hu : IntKind.u64.wrap (z.natAbs : Int) = (z.natAbs : Int) := by rw [IntKind.wrap_u64]; omega
  obtain ⟨n, hn⟩ : ∃ n : Nat, n = z.natAbs := ⟨_, rfl⟩
  rw [← hn] at hm hu ⊢
  clear hn
  go_enter Tryz.func143, Tryz.ntmps143
  go_wp2_with fail
  go_ret
  exact ⟨rfl, rfl⟩
def fitF (x y : Int) : Bool := decide (x.natAbs * y.natAbs < 4611686018427387904)
set_option maxHeartbeats 1600000 in
theorem timesF_any (x y : Int) (w : World) (h1 : -1000000000000000000 < x) (h2 : x < 1000000000000000000) (h3 : -1000000000000000000 < y) (h4 : y < 1000000000000000000) :
    Calls Tryz.prog 134 #[.int .i64 x, .int .i64 y] w fun e w' => (∃ v : Int, e = .returned (.tuple #[.int .i64 v, .bool (fitF x y)]) ∧ (fitF x y = true → v = x * y)) ∧ w = w' := by
  have HX := Lib.hid (fun wx => magF_any x wx (by omega) (by omega))
  have HY := Lib.hid (fun wx => magF_any y wx (by omega) (by omega))
  obtain ⟨a, ha⟩ : ∃ a : Nat, a = x.natAbs := ⟨_, rfl⟩
  obtain ⟨b, hb⟩ : ∃ b : Nat, b = y.natAbs := ⟨_, rfl⟩
  have hxy := mul_abs x y
  rw [← ha] at HX hxy
  rw [← hb] at HY hxy
  have HM := Lib.hid (fun wx => Tryz.bits_Mul64 a b (by omega) (by omega) wx)
  have hf : fitF x y = decide (a * b < 4611686018427387904) := by unfold fitF; rw [ha, hb]
  obtain ⟨P, hP⟩ : ∃ P, P = a * b := ⟨_, rfl⟩
  rw [← hP] at HM hxy hf
  obtain ⟨V, hV⟩ : ∃ V, V = IntKind.i64.wrap (x * y) := ⟨_, rfl⟩
  have HV := Lib.hid (show P ≤ 9223372036854775807 → V = x * y from fun h => by rw [hV]; exact IntWalk.i64_in _ ⟨by omega, by omega⟩)
  obtain ⟨F, hF⟩ : ∃ F, F = fitF x y := ⟨_, rfl⟩
  rw [← hF] at hf ⊢
  obtain ⟨H, hH⟩ : ∃ H : Nat, H = P / 18446744073709551616 := ⟨_, rfl⟩
  obtain ⟨L, hL⟩ : ∃ L : Nat, L = P % 18446744073709551616 := ⟨_, rfl⟩
  rw [← hH, ← hL] at HM
  have hVs := hV.symm
  by_cases hz : H = 0
  · have hzb : ((H : Int) == 0) = true := by rw [beq_iff_eq]; omega
    by_cases hl : L < 4611686018427387904
    · have hlb : decide ((L : Int) < 4611686018427387904) = true := decide_eq_true (by omega)
      have HF := Lib.hid (show F = true by rw [hf]; exact decide_eq_true (by omega))
      have HV2 := Lib.hid (HV.out (by omega))
      clear hz hl hf hH hL hP hF hxy ha hb hV HV
      go_enter Tryz.func134, Tryz.ntmps134
      go_wp2_with fail
      refine (HX.out _).mono ?_
      rintro e w1 ⟨rfl, rfl⟩
      go_wp2_with fail
      refine (HY.out _).mono ?_
      rintro e w1 ⟨rfl, rfl⟩
      go_wp2_with fail
      refine (HM.out _).mono ?_
      rintro e w1 ⟨rfl, hw1⟩
      obtain rfl := hw1
      go_wp2_with fail
      go_ret2
      exact ⟨⟨V, by rw [HF.out]; rfl, fun _ => HV2.out⟩, rfl⟩
    · have hlb : decide ((L : Int) < 4611686018427387904) = false := decide_eq_false (by omega)
      have HF := Lib.hid (show F = false by rw [hf]; exact decide_eq_false (by omega))
      clear hz hl hf hH hL hP hF hxy ha hb hV HV
      go_enter Tryz.func134, Tryz.ntmps134
      go_wp2_with fail
      refine (HX.out _).mono ?_
      rintro e w1 ⟨rfl, rfl⟩
      go_wp2_with fail
      refine (HY.out _).mono ?_
      rintro e w1 ⟨rfl, rfl⟩
      go_wp2_with fail
      refine (HM.out _).mono ?_
      rintro e w1 ⟨rfl, hw1⟩
      obtain rfl := hw1
      go_wp2_with fail
      go_ret2
      exact ⟨⟨V, by rw [HF.out]; rfl, fun h => by rw [HF.out] at h; cases h⟩, rfl⟩
  · have hzb : ((H : Int) == 0) = false := by rw [beq_eq_false_iff_ne]; omega
    have HF := Lib.hid (show F = false by rw [hf]; exact decide_eq_false (by omega))
    clear hz hf hH hL hP hF hxy ha hb hV HV
    go_enter Tryz.func134, Tryz.ntmps134
    go_wp2_with fail
    refine (HX.out _).mono ?_
    rintro e w1 ⟨rfl, rfl⟩
    go_wp2_with fail
    refine (HY.out _).mono ?_
    rintro e w1 ⟨rfl, rfl⟩
    go_wp2_with fail
    refine (HM.out _).mono ?_
    rintro e w1 ⟨rfl, hw1⟩
    obtain rfl := hw1
    go_wp2_with fail
    go_ret2
    exact ⟨⟨V, by rw [HF.out]; rfl, fun h => by rw [HF.out] at h; cases h⟩, rfl⟩
end Go.Proofs.YtdgbplppabalgaaGreatDoor
