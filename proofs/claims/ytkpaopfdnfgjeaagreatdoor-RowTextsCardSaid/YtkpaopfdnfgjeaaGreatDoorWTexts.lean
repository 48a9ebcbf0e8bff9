/-
  The walk of the law RowTexts.
-/
import Derived.Test.YtkpaopfdnfgjeaaGreatDoorWParW
import Derived.Test.YtkpaopfdnfgjeaaGreatDoorWRefText
import Derived.Test.YtkpaopfdnfgjeaaGreatDoorWComp
namespace Go.Proofs.YtkpaopfdnfgjeaaGreatDoor
open Go.RowKit

theorem text_unw (zs : List Int) (ket : Bool) : unwL (textS zs ket).data.toList = (Lib.join (zs.map Lib.itoa) [32], ket, true) := by
  cases ket with
  | true =>
    have e : (textS zs true).data.toList = 91 :: (midL zs ++ [62]) := by
      show (⟨#[91]⟩ ++ (⟨(midL zs).toArray⟩ : ByteArray) ++ ⟨#[62]⟩).data.toList = _
      rw [ByteArray.data_append, ByteArray.data_append]; simp
    rw [e]; exact unw_ket _
  | false =>
    have e : (textS zs false).data.toList = 60 :: (midL zs ++ [93]) := by
      show (⟨#[60]⟩ ++ (⟨(midL zs).toArray⟩ : ByteArray) ++ ⟨#[93]⟩).data.toList = _
      rw [ByteArray.data_append, ByteArray.data_append]; simp
    rw [e]; exact unw_bra _
theorem text_size {zs : List Int} (ok : okB zs = true) (ket : Bool) : (textS zs ket).size ≤ 1500 := by
  have h := mid_len ok
  rw [← wlen_list]
  cases ket with
  | true =>
    have e : (textS zs true).data.toList = 91 :: (midL zs ++ [62]) := by
      show (⟨#[91]⟩ ++ (⟨(midL zs).toArray⟩ : ByteArray) ++ ⟨#[62]⟩).data.toList = _
      rw [ByteArray.data_append, ByteArray.data_append]; simp
    rw [e]; simp; omega
  | false =>
    have e : (textS zs false).data.toList = 60 :: (midL zs ++ [93]) := by
      show (⟨#[60]⟩ ++ (⟨(midL zs).toArray⟩ : ByteArray) ++ ⟨#[93]⟩).data.toList = _
      rw [ByteArray.data_append, ByteArray.data_append]; simp
    rw [e]; simp; omega

set_option maxHeartbeats 1600000 in
set_option maxRecDepth 100000 in
theorem texts_long (a : Option Addr) (l c : Nat) (z : List Int) (ket : Bool) (w : World) (hs : StdP w) (r1 : Rd w a l c z) (h : 80 < l) :
    Calls Tryz.prog 3 #[.slice a l c, .bool ket] w fun e w' => e = .returned (.bool true) ∧ Below w.heap.size w w' := by
  have HS := Lib.hid hs.1
  have hc := r1.cap
  have hi : (80 : Int) < l := by omega
  clear hs r1
  go_enter Tryz.func3, Tryz.ntmps3
  go_wp2_with fail
  refine (known_any _ HS.out).mono ?_
  rintro e w1 ⟨rfl, h1⟩
  have B1 := Lib.hid h1
  clear h1
  go_wp2_with fail
  refine (known_any _ (HS.out.below B1.out)).mono ?_
  rintro e w2 ⟨rfl, h2⟩
  have B2 := Lib.hid (B1.out.trans (h2.mono B1.out.size))
  clear h2
  go_wp2_with fail
  go_ret
  exact ⟨rfl, B2.out⟩
set_option maxHeartbeats 1600000 in
set_option maxRecDepth 100000 in
theorem texts_bad (a : Option Addr) (l c : Nat) (z : List Int) (ket : Bool) (w : World) (hs : StdP w) (r1 : Rd w a l c z) (h : l ≤ 80) (ok : okB z = false) :
    Calls Tryz.prog 3 #[.slice a l c, .bool ket] w fun e w' => e = .returned (.bool true) ∧ Below w.heap.size w w' := by
  have HS := Lib.hid hs.1
  have hc := r1.cap
  have R1 := Lib.hid r1
  have HT := Lib.hid (fun wx hr => textN_bad a l c z ket wx hr ok)
  have HC := Lib.hid (fun wx hr => checkR_any a l c z wx hr)
  rw [errR_no ok] at HC
  have hi : ¬ (80 : Int) < l := by omega
  clear hs r1 ok
  go_enter Tryz.func3, Tryz.ntmps3
  go_wp2_with fail
  refine (known_any _ HS.out).mono ?_
  rintro e w1 ⟨rfl, h1⟩
  have B1 := Lib.hid h1
  clear h1
  go_wp2_with fail
  refine (HT.out _ (R1.out.below B1.out)).mono ?_
  rintro e w2 ⟨rfl, hw⟩
  obtain rfl := hw
  go_wp2_with fail
  refine (HC.out _ (R1.out.below B1.out)).mono ?_
  rintro e w2 ⟨rfl, hw⟩
  obtain rfl := hw
  go_wp2_with fail
  go_ret
  exact ⟨rfl, B1.out⟩
set_option maxHeartbeats 1600000 in
set_option maxRecDepth 100000 in
theorem texts_good (a : Option Addr) (l c : Nat) (z : List Int) (ket : Bool) (w : World) (hs : StdP w) (r1 : Rd w a l c z) (h : l ≤ 80) (ok : okB z = true) :
    Calls Tryz.prog 3 #[.slice a l c, .bool ket] w fun e w' => e = .returned (.bool true) ∧ Below w.heap.size w w' := by
  have HS := Lib.hid hs
  have hc := r1.cap
  have R1 := Lib.hid r1
  have HT := Lib.hid (fun wx hw hr => textN_any a l c z ket wx hw hr ok)
  have HC := Lib.hid (fun wx hr => checkR_any a l c z wx hr)
  rw [errR_ok ok] at HC
  have HR := Lib.hid (fun wx hr => textR_any a l c z ket wx hr ok)
  have hpm := par_text ok (text_unw z ket)
  have hts := text_size ok ket
  have HP := Lib.hid (fun wx hw => parN_any (textS z ket) wx hw (by omega))
  rw [hpm] at HP
  have HE := Lib.hid (fun (wx : World) (a' : Option Addr) (n' cap' : Nat) (hx : Rd wx a' n' cap' z) (hy : Rd wx a l c z) => equalR_any a' a n' cap' l c z z wx hx hy)
  simp only [decide_true] at HE
  obtain ⟨T, hT⟩ : ∃ T, T = textS z ket := ⟨_, rfl⟩
  rw [← hT] at HT HR HP hts
  have hi : ¬ (80 : Int) < l := by omega
  clear hs r1 ok hpm hT
  go_enter Tryz.func3, Tryz.ntmps3
  go_wp2_with fail
  refine (known_any _ HS.out.1).mono ?_
  rintro e w1 ⟨rfl, h1⟩
  have B1 := Lib.hid h1
  clear h1
  go_wp2_with fail
  refine (HT.out _ (HS.out.1.below B1.out) (R1.out.below B1.out)).mono ?_
  rintro e w2 ⟨rfl, h2⟩
  have B2 := Lib.hid (B1.out.trans (h2.mono B1.out.size))
  clear h2
  go_wp2_with fail
  refine (HC.out _ (R1.out.below B2.out)).mono ?_
  rintro e w3 ⟨rfl, hw⟩
  obtain rfl := hw
  go_wp2_with fail
  refine (HP.out _ (HS.out.below B2.out)).mono ?_
  rintro e w3 ⟨a3, n3, c3, rfl, hr3, h3⟩
  have B3 := Lib.hid (B2.out.trans (h3.mono B2.out.size))
  have R3 := Lib.hid hr3
  have hc3 := hr3.cap
  clear h3 hr3
  go_wp2_with fail
  refine (HR.out _ (R1.out.below B3.out)).mono ?_
  rintro e w4 ⟨rfl, h4⟩
  have B4 := Lib.hid (B3.out.trans (h4.mono B3.out.size))
  have R4 := Lib.hid (R3.out.below h4)
  clear h4
  go_wp2_with fail
  refine (HE.out _ _ _ _ R4.out (R1.out.below B4.out)).mono ?_
  rintro e w5 ⟨rfl, h5⟩
  have B5 := Lib.hid (B4.out.trans (h5.mono B4.out.size))
  clear h5
  go_wp2_with fail
  go_ret
  exact ⟨rfl, B5.out⟩
theorem texts_law (a : Option Addr) (l c : Nat) (z : List Int) (ket : Bool) (w : World) (hs : StdP w) (r1 : Rd w a l c z) :
    Calls Tryz.prog 3 #[.slice a l c, .bool ket] w fun e w' => e = .returned (.bool true) ∧ Below w.heap.size w w' := by
  by_cases h : 80 < l
  · exact texts_long a l c z ket w hs r1 h
  · cases ok : okB z with
    | false => exact texts_bad a l c z ket w hs r1 (by omega) ok
    | true => exact texts_good a l c z ket w hs r1 (by omega) ok
end Go.Proofs.YtkpaopfdnfgjeaaGreatDoor
