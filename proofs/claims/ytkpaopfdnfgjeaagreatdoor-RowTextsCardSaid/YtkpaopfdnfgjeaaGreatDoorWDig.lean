/-
  The reference's digits.
-/
import Derived.Test.YtkpaopfdnfgjeaaGreatDoorWRead
import Derived.Lib.ItoaNum
import Derived.Lib.ItoaMem
import Derived.Lib.ItoaLen
import Derived.RegionTactic
import Derived.WalkSmall
import Derived.Laws.IdiomStrings
import Derived.Deep.RegionWith
namespace Go.Proofs.YtkpaopfdnfgjeaaGreatDoor
open Go.RowKit

/-- the digits of a natural number -/
def dS (n : Nat) : ByteArray := ⟨(Lib.decDigits n).toArray⟩
theorem dS_one {n : Nat} (h : n < 10) : dS n = ⟨#[UInt8.ofNat (48 + n)]⟩ := by unfold dS; rw [Lib.decDigits_one h]
theorem dS_more {n : Nat} (h : ¬ n < 10) : dS n = dS (n / 10) ++ ⟨#[UInt8.ofNat (48 + n % 10)]⟩ := by
  apply ByteArray.ext
  rw [ByteArray.data_append]
  unfold dS
  rw [Lib.decDigits, dif_neg h]; simp
theorem dS_size {n : Nat} (h : n < 18446744073709551616) : (dS n).size ≤ 20 := by
  show (Lib.decDigits n).toArray.size ≤ 20
  rw [List.size_toArray, Lib.decDigits_length]; exact Lib.nDigits_le20 n h
theorem dig_nat {d : Nat} (hd : d < 10) : ((UInt8.ofNat (48 + d)).toNat : Int) = 48 + (d : Int) := by
  have h : (UInt8.ofNat (48 + d)).toNat = 48 + d := by simp; omega
  rw [h]; push_cast; rfl
theorem one_cv (d : Nat) (hd : d < 10) (W : World) (B : Nat) (hc : W.cell? ⟨B, 0, none⟩ = some (.int .u8 (48 + (d : Int)))) :
    (convert 34 9 (.slice (some ⟨B, 0, none⟩) 1 1)).run Tryz.prog W = .ok (.string ⟨#[UInt8.ofNat (48 + d)]⟩) W := by
  exact run_convert_bytes_back (P := Tryz.prog) W 34 9 5 ⟨B, 0, none⟩ 1 [UInt8.ofNat (48 + d)] Tryz.underlying34 Tryz.underlying5 Tryz.underlying9 (fun j hj => by
    have hj0 : j = 0 := by simp at hj; omega
    subst hj0
    refine hc.trans ?_
    show some (Value.int .u8 (48 + (d : Int))) = some (Value.int .u8 ((UInt8.ofNat (48 + d)).toNat : Int))
    rw [dig_nat hd])
theorem one_cv2 (d : Nat) (hd : d < 10) (wx : World) :
    (convert 34 9 (.slice (some ⟨wx.heap.size, 0, none⟩) 1 1)).run Tryz.prog (wx.alloc (.cells #[.int .u8 (48 + (d : Int))] 5)) = .ok (.string ⟨#[UInt8.ofNat (48 + d)]⟩) (wx.alloc (.cells #[.int .u8 (48 + (d : Int))] 5)) :=
  one_cv d hd _ _ (by rw [World.cell?_alloc_new]; rfl)
set_option maxHeartbeats 1600000 in
set_option maxRecDepth 100000 in
theorem digN_any (n : Nat) : ∀ w : World, n < 9223372036854775808 → Calls Tryz.prog 22 #[.int .i64 (n : Int)] w fun e w' => e = .returned (.string (dS n)) ∧ Below w.heap.size w w' := by
  induction n using Nat.strongRecOn with
  | _ n ih =>
    intro w hn
    have hneg : decide ((n : Int) < 0) = false := decide_eq_false (by omega)
    by_cases h : n < 10
    · have hw1 : IntKind.u8.wrap (n : Int) = (n : Int) := by rw [IntKind.wrap_u8]; omega
      have hw2 : IntKind.u8.wrap (48 + (n : Int)) = 48 + (n : Int) := by rw [IntKind.wrap_u8]; omega
      have hcv := one_cv2 n h
      have hd := dS_one h
      obtain ⟨c, hc⟩ : ∃ c, c = UInt8.ofNat (48 + n) := ⟨_, rfl⟩
      rw [← hc] at hcv hd
      have HD := Lib.hid hd
      clear hc hd
      clear ih
      go_enter Tryz.func22, Tryz.ntmps22
      go_wp2_with fail
      go_ret
      exact ⟨by rw [HD.out]; rfl, (Below.refl _ _).alloc (Nat.le_refl _) _⟩
    · obtain ⟨q, hq⟩ : ∃ q, q = n / 10 := ⟨_, rfl⟩
      obtain ⟨r, hr⟩ : ∃ r, r = n % 10 := ⟨_, rfl⟩
      have hq1 : q < n := by omega
      have HO := Lib.hid (fun wx (hb : Below w.heap.size w wx) => (ih q hq1 wx (by omega)).mono fun e w' h => (⟨h.1, hb.trans (h.2.mono hb.size), h.2⟩ : e = _ ∧ Below w.heap.size w w' ∧ Below wx.heap.size wx w'))
      have hb0 : Below w.heap.size w w.drew := Below.drew (Below.refl _ _)
      have hb1 : Below w.heap.size w (w.drew.alloc (.cells #[.int .u8 (48 + (r : Int))] 5)) := hb0.alloc (Nat.le_refl _) _
      have hr10 : r < 10 := by omega
      have hd : dS n = dS q ++ ⟨#[UInt8.ofNat (48 + r)]⟩ := by rw [dS_more h, ← hq, ← hr]
      have hsz := dS_size (n := q) (by omega)
      have hqi : (n : Int).tdiv 10 = (q : Int) := by rw [Int.tdiv_eq_ediv_of_nonneg (by omega)]; omega
      have hri : (n : Int).tmod 10 = (r : Int) := by rw [Int.tmod_eq_emod_of_nonneg (by omega)]; omega
      have hwq : IntKind.i64.wrap (q : Int) = (q : Int) := IntWalk.i64_in _ ⟨by omega, by omega⟩
      have hwr : IntKind.i64.wrap (r : Int) = (r : Int) := IntWalk.i64_in _ ⟨by omega, by omega⟩
      have hw1 : IntKind.u8.wrap (r : Int) = (r : Int) := by rw [IntKind.wrap_u8]; omega
      have hw2 : IntKind.u8.wrap (48 + (r : Int)) = 48 + (r : Int) := by rw [IntKind.wrap_u8]; omega
      have hcv := one_cv r hr10
      have hcv2 := one_cv2 r hr10
      obtain ⟨c, hc⟩ : ∃ c, c = UInt8.ofNat (48 + r) := ⟨_, rfl⟩
      rw [← hc] at hcv hcv2 hd
      have HD := Lib.hid hd
      clear hc hd
      have h10 : decide ((n : Int) < 10) = false := decide_eq_false (by omega)
      clear ih hq hr
      go_enter Tryz.func22, Tryz.ntmps22
      go_wp2_with fail
      go_region_with (go_at_call 22; refine (HO.out _ ?hb).mono ?_; (case hb => first | exact hb0 | exact hb1); rintro e w' ⟨rfl, h0, h1⟩; (try (have hk : w'.cell? ⟨w.heap.size, 0, none⟩ = some (.int .u8 (48 + (r : Int))) := (h1.cell (p := ⟨w.heap.size, 0, none⟩) (by simp)).trans (World.cell?_alloc_new _ _ _ _))))
      all_goals
        go_wp2_with fail
        go_ret
        exact ⟨by rw [HD.out]; rfl, by first | assumption | exact Below.alloc (by assumption) (Below.size (by assumption)) _⟩
end Go.Proofs.YtkpaopfdnfgjeaaGreatDoor
