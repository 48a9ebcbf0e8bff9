/-
  The laws of package whole: Make.
-/
import Derived.Test.YtjebddpapbopnaaGreatDoorZParR
import Derived.Test.YtjebddpapbopnaaGreatDoorZSmR
import Derived.Test.YtjebddpapbopnaaGreatDoorG1
namespace Go.Proofs.YtjebddpapbopnaaGreatDoor
open Go.RowKit

theorem neg_cat (D : ByteArray) : negB (⟨#[45]⟩ ++ D) = true ∧ magB (⟨#[45]⟩ ++ D) = D := by
  have hd : (⟨#[45]⟩ ++ D : ByteArray).data.toList = 45 :: D.data.toList := by
    rw [ByteArray.data_append]; simp
  have h1 : negB (⟨#[45]⟩ ++ D) = true := by unfold negB; rw [hd]; rfl
  refine ⟨h1, ?_⟩
  unfold magB
  rw [if_pos h1]
  have h0 : 0 < (⟨#[45]⟩ ++ D : ByteArray).size := by rw [ByteArray.size_append]; show 0 < 1 + _; omega
  apply ByteArray.ext
  apply Array.toList_inj.1
  rw [(ext1 h0).1, hd]; rfl
theorem pos_mag {D : ByteArray} (h : D.data.toList.all isD = true) : negB D = false ∧ magB D = D := by
  have h1 : negB D = false := by
    rcases Nat.eq_zero_or_pos D.size with hz | hz
    · exact negB_nil hz
    · rw [negB_at hz, beq_eq_false_iff_ne]
      have hm : (D[0]'hz) ∈ D.data.toList := by rw [← at_list D 0 hz]; exact List.getElem_mem _
      have := isD_lt (List.all_eq_true.1 h _ hm)
      omega
  exact ⟨h1, by unfold magB; rw [h1]; rfl⟩
theorem parV_neg {D : ByteArray} (h : D.data.toList.all isD = true) (h0 : 0 < D.size) (hv : (str (val D.data.toList)).size ≤ 400) : parV (⟨#[45]⟩ ++ D) = (zS (-((val D.data.toList : Nat) : Int)), 0) := by
  obtain ⟨h1, h2⟩ := neg_cat D
  have hs : ¬ (⟨#[45]⟩ ++ D : ByteArray).size = 0 := by rw [ByteArray.size_append]; show ¬ 1 + _ = 0; omega
  rw [parV_ok hs (by rw [h2, h]; intro q; rcases q with q | q; omega; cases q) (by rw [h2]; omega), h1, h2, if_pos rfl]
theorem parV_pos {D : ByteArray} (h : D.data.toList.all isD = true) (h0 : 0 < D.size) (hv : (str (val D.data.toList)).size ≤ 400) : parV D = (zS ((val D.data.toList : Nat) : Int), 0) := by
  obtain ⟨h1, h2⟩ := pos_mag h
  rw [parV_ok (by omega) (by rw [h2, h]; intro q; rcases q with q | q; omega; cases q) (by rw [h2]; omega), h1, h2, if_neg (by decide)]
theorem parV_zS {z : Int} (hz : (str z.natAbs).size ≤ 400) : parV (zS z) = (zS z, 0) := by
  have hp := str_pos z.natAbs
  have hd : (str z.natAbs).data.toList.all isD = true := by rw [str_list]; exact all_dd _
  by_cases h : z < 0
  · rw [zS_neg h, parV_neg hd hp (by rw [val_str]; exact hz), val_str, zS_neg (z := -((z.natAbs : Nat) : Int)) (by omega), show (-((z.natAbs : Nat) : Int)).natAbs = z.natAbs by omega]
  · rw [zS_pos h, parV_pos hd hp (by rw [val_str]; exact hz), val_str, zS_of_nat]
theorem one_cvW (d : Nat) (hd : d < 10) (wx : World) :
    (convert 31 9 (.slice (some ⟨wx.heap.size, 0, none⟩) 1 1)).run Tryz.prog (wx.alloc (.cells #[.int .u8 (48 + (d : Int))] 5)) = .ok (.string ⟨#[UInt8.ofNat (48 + d)]⟩) (wx.alloc (.cells #[.int .u8 (48 + (d : Int))] 5)) :=
  run_convert_bytes_back (P := Tryz.prog) _ 31 9 5 ⟨wx.heap.size, 0, none⟩ 1 [UInt8.ofNat (48 + d)] Tryz.underlying31 Tryz.underlying5 Tryz.underlying9 (fun j hj => by
    have hj0 : j = 0 := by simp at hj; omega
    subst hj0
    have hc : (wx.alloc (.cells #[.int .u8 (48 + (d : Int))] 5)).cell? ⟨wx.heap.size, 0, none⟩ = some (.int .u8 (48 + (d : Int))) := by rw [World.cell?_alloc_new]; rfl
    refine hc.trans ?_
    show some (Value.int .u8 (48 + (d : Int))) = some (Value.int .u8 ((UInt8.ofNat (48 + d)).toNat : Int))
    rw [ofNat_dig hd]; push_cast; rfl)
theorem cat_one (L : List UInt8) (c : UInt8) : (⟨L.toArray⟩ ++ ⟨#[c]⟩ : ByteArray) = ⟨(L ++ [c]).toArray⟩ := by
  apply ByteArray.ext
  rw [ByteArray.data_append]; simp
/-- what the walk is told of a number that came in -/
def IsNum (w : World) (v : Value) : Prop := ∃ (b : Bool) (a : Option Addr) (len cap : Nat) (zs : List Int), v = .agg #[.bool b, .slice a len cap] ∧ IsRow .u8 w a len cap zs
set_option maxHeartbeats 3200000 in
set_option maxRecDepth 100000 in
theorem makeZ_any (b : Bool) (a : Option Addr) (len cap : Nat) (zs : List Int) (N : Nat) (w : World) (h : IsRow .u8 w a len cap zs) (hN : N ≤ 100) :
    Calls Tryz.prog 20 #[.agg #[.bool b, .slice a len cap], .int .i64 (N : Int)] w fun e w' => (∃ z : Int, e = .returned (.string (zS z)) ∧ z.natAbs < 10 ^ N) ∧ Below w.heap.size w w' := by
  have hlb := h.len_bd
  have HC := Lib.hid (fun (wx : World) (hw : Below w.heap.size w wx) (i : Nat) (hi : i < len) => (show ∃ (g o z : Nat), a = some ⟨g, o, none⟩ ∧ z ≤ 255 ∧ wx.cell? ⟨g, o + i, none⟩ = some (.int .u8 (z : Int)) by
    obtain ⟨g, o, ha, h2, h3, h4⟩ := (h.below hw).cells (by omega)
    obtain ⟨z, h5, h6⟩ := h4 i hi
    exact ⟨g, o, z, ha, h5, h6⟩))
  obtain ⟨O, hO⟩ : ∃ O : Obj, O = .cells #[.bool b, .slice a len cap] 33 := ⟨_, rfl⟩
  have HO0 := Lib.hid (show (w.alloc O).cell? ⟨w.heap.size, 0, none⟩ = some (.bool b) by rw [hO, World.cell?_alloc_new]; rfl)
  have HO1 := Lib.hid (show (w.alloc O).cell? ⟨w.heap.size, 1, none⟩ = some (.slice a len cap) by rw [hO, World.cell?_alloc_new]; rfl)
  have HW := Lib.hid ((Below.refl w.heap.size w).alloc (Nat.le_refl _) O)
  have HSZ := Lib.hid (show (w.alloc O).heap.size = w.heap.size + 1 by show (w.heap.push O).size = _; exact Array.size_push _)
  clear h
  subst hO
  go_enter Tryz.func20, Tryz.ntmps20
  go_wp2_with fail
  obtain ⟨W0, hW0⟩ : ∃ W0, W0 = w.alloc (.cells #[.bool b, .slice a len cap] 33) := ⟨_, rfl⟩
  rw [← hW0] at HO0 HO1 HW HSZ ⊢
  clear hW0
  go_loopw [5, 6] (fun sv iv wr => ∃ (k : Nat) (L : List UInt8), sv = .string ⟨L.toArray⟩ ∧ iv = .int .i64 (k : Int) ∧ k ≤ len ∧ k ≤ N ∧ Hid (L.length = k ∧ L.all isD = true) ∧ Hid (Below W0.heap.size W0 wr)) (fun _ iv _ => N - (intOf iv).toNat)
  case atStart => exact ⟨0, [], rfl, rfl, Nat.zero_le _, Nat.zero_le _, ⟨rfl, rfl⟩, Below.refl _ _⟩
  case round =>
    obtain ⟨k, L, rfl, rfl, hk, hkN, HL, HB⟩ := hrel
    have hc1 := HB.out.cell (p := ⟨w.heap.size, 1, none⟩) (by show w.heap.size < _; rw [HSZ.out]; omega)
    rw [HO1.out] at hc1
    have hc0 := HB.out.cell (p := ⟨w.heap.size, 0, none⟩) (by show w.heap.size < _; rw [HSZ.out]; omega)
    rw [HO0.out] at hc0
    have HBW := Lib.hid (show Below w.heap.size w wr from HW.out.trans (HB.out.mono HW.out.size))
    have hLl := HL.out.1
    have hSs : (⟨L.toArray⟩ : ByteArray).size = k := by show L.toArray.size = k; rw [List.size_toArray]; exact hLl
    by_cases hlt : k < len ∧ k < N
    · obtain ⟨g, o, z, ha, hz, hcz⟩ := HC.out wr HBW.out k hlt.1
      subst ha
      obtain ⟨hlt1, hlt2⟩ := hlt
      obtain ⟨d, hd⟩ : ∃ d, d = z % 10 := ⟨_, rfl⟩
      have hd10 : d < 10 := by omega
      have hri : (z : Int).tmod 10 = (d : Int) := by rw [Int.tmod_eq_emod_of_nonneg (by omega)]; omega
      have hrm : (z : Int) % 10 = (d : Int) := by omega
      have hw1 : IntKind.u8.wrap (d : Int) = (d : Int) := by rw [IntKind.wrap_u8]; omega
      have hw2 : IntKind.u8.wrap (48 + (d : Int)) = 48 + (d : Int) := by rw [IntKind.wrap_u8]; omega
      have hcv := one_cvW d hd10 wr
      have hdd := ofNat_isD hd10
      have hbs := HB.out.size
      obtain ⟨c, hc⟩ : ∃ c, c = UInt8.ofNat (48 + d) := ⟨_, rfl⟩
      rw [← hc] at hcv hdd
      have HL2 := Lib.hid (show (L ++ [c]).length = k + 1 ∧ (L ++ [c]).all isD = true from ⟨by simp [hLl], by rw [List.all_append, HL.out.2]; simp [hdd]⟩)
      have HCT := Lib.hid (cat_one L c)
      obtain ⟨S, hS⟩ : ∃ S : ByteArray, S = ⟨L.toArray⟩ := ⟨_, rfl⟩
      rw [← hS] at HCT hSs ⊢
      have HBA := Lib.hid (HB.out.alloc hbs (.cells #[.int .u8 (48 + (d : Int))] 5))
      clear hd hc hdd hbs hS hLl HL
      go_wp2_with fail
      all_goals go_roundw
      case rel => exact ⟨k + 1, L ++ [c], by rw [← HCT.out], by go_num, by omega, by omega, HL2, HBA⟩
      case measure => simp [intOf] <;> omega
    · have hD : ∃ D : ByteArray, D.data.toList.all isD = true ∧ 0 < D.size ∧ D.size ≤ 101 ∧ val D.data.toList < 10 ^ N ∧ ((((⟨L.toArray⟩ : ByteArray).toList == []) = true ∧ D = ⟨#[48]⟩) ∨ (((⟨L.toArray⟩ : ByteArray).toList == []) = false ∧ D = ⟨L.toArray⟩)) := by
        by_cases hk0 : k = 0
        · exact ⟨⟨#[48]⟩, by decide, by decide, by decide, Nat.pow_pos (by decide), .inl ⟨by rw [nil_tl]; exact decide_eq_true (by omega), rfl⟩⟩
        · have hv := val_lt L HL.out.2
          rw [hLl] at hv
          exact ⟨⟨L.toArray⟩, HL.out.2, by omega, by omega, Nat.lt_of_lt_of_le hv (Nat.pow_le_pow_right (by decide) hkN), .inr ⟨by rw [nil_tl]; exact decide_eq_false (by omega), rfl⟩⟩
      obtain ⟨D, d1, d2, d3, d4, hD⟩ := hD
      have d5 : (str (val D.data.toList)).size ≤ 400 := Nat.le_trans (str_big (Nat.lt_of_lt_of_le d4 (Nat.pow_le_pow_right (by decide) hN)) (by decide)) (by decide)
      have hP1 := fun wx => parR_any D wx (by omega)
      rw [parV_pos d1 d2 d5] at hP1
      have hP2 := fun wx => parR_any (⟨#[45]⟩ ++ D) wx (by rw [ByteArray.size_append]; show 1 + _ ≤ _; omega)
      rw [parV_neg d1 d2 d5] at hP2
      obtain ⟨v, hv⟩ : ∃ v, v = val D.data.toList := ⟨_, rfl⟩
      rw [← hv] at hP1 hP2 d4
      have HV1 := Lib.hid (show ((v : Int)).natAbs < 10 ^ N by rw [Int.natAbs_natCast]; exact d4)
      have HV2 := Lib.hid (show (-(v : Int)).natAbs < 10 ^ N by rw [Int.natAbs_neg, Int.natAbs_natCast]; exact d4)
      have HP1 := Lib.hid hP1
      have HP2 := Lib.hid hP2
      have hkk : (k < len ∧ ¬ k < N) ∨ ¬ k < len := by omega
      obtain ⟨S, hS⟩ : ∃ S : ByteArray, S = ⟨L.toArray⟩ := ⟨_, rfl⟩
      rw [← hS] at hD hSs ⊢
      clear hlt hv d1 d2 d3 d4 d5 hP1 hP2 hS hLl HL
      rcases hD with ⟨hS0, rfl⟩ | ⟨hS0, rfl⟩
      all_goals
        rcases hkk with ⟨hk1, hk2⟩ | hk1
        all_goals
          cases b
          · go_wp2_with fail
            refine (HP1.out _).mono ?_
            rintro e w1 ⟨rfl, rfl⟩
            go_wp2_with fail
            go_ret
            exact ⟨⟨(v : Int), rfl, HV1.out⟩, HBW.out⟩
          · go_wp2_with fail
            refine (HP2.out _).mono ?_
            rintro e w1 ⟨rfl, rfl⟩
            go_wp2_with fail
            go_ret
            exact ⟨⟨-(v : Int), rfl, HV2.out⟩, HBW.out⟩
end Go.Proofs.YtjebddpapbopnaaGreatDoor
