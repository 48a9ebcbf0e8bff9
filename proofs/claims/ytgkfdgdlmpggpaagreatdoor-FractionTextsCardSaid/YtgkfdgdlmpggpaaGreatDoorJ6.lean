/-
  Texts of one seat, joined: ZSmall ZFew.
-/
import Derived.Test.YtgkfdgdlmpggpaaGreatDoorJ5
namespace Go.Proofs.YtgkfdgdlmpggpaaGreatDoor
open Go.RowKit

def inI (z : Int) : Bool := decide (-9223372036854775808 ≤ z) && decide (z ≤ 9223372036854775807)
def smV (z : Int) : Int := if inI z = true then z else 0
set_option maxHeartbeats 1600000 in
theorem smallW_any (z : Int) (w : World) (hs : Std w) (hz : (str z.natAbs).size ≤ 1000000) :
    Calls Tryz.prog 112 #[.string (zS z)] w fun e w' => e = .returned (.tuple #[.int .i64 (smV z), .bool (inI z)]) ∧ Below w.heap.size w w' := by
  have HS := Lib.hid (split_any z w hz)
  have HSTD := Lib.hid hs
  obtain ⟨s, hs2⟩ : ∃ s, s = zS z := ⟨_, rfl⟩
  rw [← hs2] at HS ⊢
  obtain ⟨n, hn⟩ : ∃ n : Nat, n = z.natAbs := ⟨_, rfl⟩
  rw [← hn] at HS
  have hY := fun wx (h : n < 18446744073709551616) => small_yes n h wx
  have hN := fun wx (h : ¬ n < 18446744073709551616) hw => small_no n h wx hw
  obtain ⟨d, hd⟩ : ∃ d, d = str n := ⟨_, rfl⟩
  rw [← hd] at HS hY hN
  have HY := Lib.hid hY
  have HN := Lib.hid hN
  clear hs2 hd hs hz hY hN
  by_cases h64 : n < 18446744073709551616
  · by_cases h63 : n ≤ 9223372036854775807
    · have HI := Lib.hid (show inI z = true by unfold inI; rw [decide_eq_true (by omega), decide_eq_true (by omega)]; rfl)
      have HV := Lib.hid (show smV z = z by unfold smV; rw [HI.out]; rfl)
      have hm : decide ((n : Int) ≤ 9223372036854775807) = true := decide_eq_true (by omega)
      have hc : IntKind.i64.wrap (n : Int) = (n : Int) := IntWalk.i64_in _ ⟨by omega, by omega⟩
      have hc2 : IntKind.i64.wrap (-(n : Int)) = -(n : Int) := IntWalk.i64_in _ ⟨by omega, by omega⟩
      by_cases h : z < 0
      · have HZ := Lib.hid (show -(n : Int) = z by omega)
        rw [decide_eq_true h] at HS
        clear h hn
        go_enter Tryz.func112, Tryz.ntmps112
        go_wp2_with fail
        refine HS.out.mono ?_
        rintro e w1 ⟨rfl, h1⟩
        have B1 := Lib.hid h1
        clear h1
        go_wp2_with fail
        refine (HY.out _ h64).mono ?_
        rintro e w2 ⟨rfl, h2⟩
        have B2 := Lib.hid (B1.out.trans (h2.mono B1.out.size))
        clear h2
        go_wp2_with fail
        go_ret2
        exact ⟨by rw [HI.out, HV.out, ← HZ.out]; rfl, B2.out⟩
      · have HZ := Lib.hid (show (n : Int) = z by omega)
        rw [decide_eq_false h] at HS
        clear h hn
        go_enter Tryz.func112, Tryz.ntmps112
        go_wp2_with fail
        refine HS.out.mono ?_
        rintro e w1 ⟨rfl, h1⟩
        have B1 := Lib.hid h1
        clear h1
        go_wp2_with fail
        refine (HY.out _ h64).mono ?_
        rintro e w2 ⟨rfl, h2⟩
        have B2 := Lib.hid (B1.out.trans (h2.mono B1.out.size))
        clear h2
        go_wp2_with fail
        go_ret2
        exact ⟨by rw [HI.out, HV.out, ← HZ.out]; rfl, B2.out⟩
    · have hm : decide ((n : Int) ≤ 9223372036854775807) = false := decide_eq_false (by omega)
      by_cases h : z < 0
      · rw [decide_eq_true h] at HS
        by_cases he : n = 9223372036854775808
        · have HI := Lib.hid (show inI z = true by unfold inI; rw [decide_eq_true (by omega), decide_eq_true (by omega)]; rfl)
          have HV := Lib.hid (show smV z = -9223372036854775808 by unfold smV; rw [HI.out, if_pos rfl]; omega)
          have heq : ((n : Int) == 9223372036854775808) = true := by rw [beq_iff_eq]; omega
          clear h hn he
          go_enter Tryz.func112, Tryz.ntmps112
          go_wp2_with fail
          refine HS.out.mono ?_
          rintro e w1 ⟨rfl, h1⟩
          have B1 := Lib.hid h1
          clear h1
          go_wp2_with fail
          refine (HY.out _ h64).mono ?_
          rintro e w2 ⟨rfl, h2⟩
          have B2 := Lib.hid (B1.out.trans (h2.mono B1.out.size))
          clear h2
          go_wp2_with fail
          go_ret2
          exact ⟨by rw [HI.out, HV.out]; rfl, B2.out⟩
        · have HI := Lib.hid (show inI z = false by unfold inI; rw [decide_eq_false (by omega)]; rfl)
          have HV := Lib.hid (show smV z = 0 by unfold smV; rw [HI.out]; rfl)
          have heq : ((n : Int) == 9223372036854775808) = false := by rw [beq_eq_false_iff_ne]; omega
          clear h hn he
          go_enter Tryz.func112, Tryz.ntmps112
          go_wp2_with fail
          refine HS.out.mono ?_
          rintro e w1 ⟨rfl, h1⟩
          have B1 := Lib.hid h1
          clear h1
          go_wp2_with fail
          refine (HY.out _ h64).mono ?_
          rintro e w2 ⟨rfl, h2⟩
          have B2 := Lib.hid (B1.out.trans (h2.mono B1.out.size))
          clear h2
          go_wp2_with fail
          go_ret2
          exact ⟨by rw [HI.out, HV.out]; rfl, B2.out⟩
      · rw [decide_eq_false h] at HS
        have HI := Lib.hid (show inI z = false by unfold inI; rw [decide_eq_false (p := z ≤ 9223372036854775807) (by omega)]; simp)
        have HV := Lib.hid (show smV z = 0 by unfold smV; rw [HI.out]; rfl)
        by_cases he : n = 9223372036854775808
        · have heq : ((n : Int) == 9223372036854775808) = true := by rw [beq_iff_eq]; omega
          clear h hn he
          go_enter Tryz.func112, Tryz.ntmps112
          go_wp2_with fail
          refine HS.out.mono ?_
          rintro e w1 ⟨rfl, h1⟩
          have B1 := Lib.hid h1
          clear h1
          go_wp2_with fail
          refine (HY.out _ h64).mono ?_
          rintro e w2 ⟨rfl, h2⟩
          have B2 := Lib.hid (B1.out.trans (h2.mono B1.out.size))
          clear h2
          go_wp2_with fail
          go_ret2
          exact ⟨by rw [HI.out, HV.out]; rfl, B2.out⟩
        · have heq : ((n : Int) == 9223372036854775808) = false := by rw [beq_eq_false_iff_ne]; omega
          clear h hn he
          go_enter Tryz.func112, Tryz.ntmps112
          go_wp2_with fail
          refine HS.out.mono ?_
          rintro e w1 ⟨rfl, h1⟩
          have B1 := Lib.hid h1
          clear h1
          go_wp2_with fail
          refine (HY.out _ h64).mono ?_
          rintro e w2 ⟨rfl, h2⟩
          have B2 := Lib.hid (B1.out.trans (h2.mono B1.out.size))
          clear h2
          go_wp2_with fail
          go_ret2
          exact ⟨by rw [HI.out, HV.out]; rfl, B2.out⟩
  · have HI := Lib.hid (show inI z = false by
      unfold inI
      by_cases h : z < 0
      · rw [decide_eq_false (by omega)]; rfl
      · rw [decide_eq_false (p := z ≤ 9223372036854775807) (by omega)]; simp)
    have HV := Lib.hid (show smV z = 0 by unfold smV; rw [HI.out]; rfl)
    obtain ⟨b, hb⟩ : ∃ b, b = decide (z < 0) := ⟨_, rfl⟩
    rw [← hb] at HS
    clear hn hb
    go_enter Tryz.func112, Tryz.ntmps112
    go_wp2_with fail
    refine HS.out.mono ?_
    rintro e w1 ⟨rfl, h1⟩
    have B1 := Lib.hid h1
    clear h1
    go_wp2_with fail
    refine (HN.out _ h64 (HSTD.out.below B1.out)).mono ?_
    rintro e w2 ⟨rfl, h2⟩
    have B2 := Lib.hid (B1.out.trans (h2.mono B1.out.size))
    clear h2
    go_wp2_with fail
    go_ret2
    exact ⟨by rw [HI.out, HV.out]; rfl, B2.out⟩
end Go.Proofs.YtgkfdgdlmpggpaaGreatDoor

namespace Go.Proofs.YtgkfdgdlmpggpaaGreatDoor
open Go.RowKit

theorem itoa_zS (z : Int) : (⟨(Lib.itoa z).toArray⟩ : ByteArray) = zS z := by
  unfold zS Lib.itoa str
  by_cases h : z < 0
  · rw [if_pos h, if_pos h]
    apply ByteArray.ext
    rw [ByteArray.data_append]; simp
  · rw [if_neg h, if_neg h, show z.toNat = z.natAbs by omega]
set_option maxHeartbeats 400000 in
theorem ofW_any (z : Int) (w : World) (hs : Std w) (h1 : -9223372036854775808 ≤ z) (h2 : z ≤ 9223372036854775807) :
    Calls Tryz.prog 72 #[.int .i64 z] w fun e w' => e = .returned (.string (zS z)) ∧ Below w.heap.size w w' := by
  have hi := Tryz.strconv_Itoa z h1 h2 w hs.tab
  rw [itoa_zS] at hi
  have HI := Lib.hid hi
  clear hi hs
  go_enter Tryz.func72, Tryz.ntmps72
  go_wp2_with fail
  refine HI.out.mono ?_
  rintro e w3 ⟨rfl, k, os, hw3⟩
  have hb3 : Below w.heap.size w w3 := by rw [hw3]; exact Lib.below_grow _ _ (Nat.le_refl _) _ _
  have HB := Lib.hid hb3
  clear hw3 hb3
  go_wp2_with fail
  go_ret
  exact ⟨rfl, HB.out⟩
def fewB (z : Int) : Bool := decide (-1000000000000000000 < z) && decide (z < 1000000000000000000)
theorem few_size {z : Int} (h : fewB z = true) : (zS z).size ≤ 19 := by
  unfold fewB at h
  simp at h
  have hs : (str z.natAbs).size ≤ 18 := str_big (n := 18) (by omega) (by decide)
  by_cases hz : z < 0
  · rw [zS_neg hz, (negS z.natAbs).sz]; omega
  · rw [zS_pos hz]; omega
theorem few_in {z : Int} (h : fewB z = true) : inI z = true ∧ smV z = z := by
  have h' := h
  unfold fewB at h'
  simp at h'
  have hi : inI z = true := by unfold inI; rw [decide_eq_true (by omega), decide_eq_true (by omega)]; rfl
  exact ⟨hi, by unfold smV; rw [hi]; rfl⟩
theorem few_val (z : Int) : (inI z && decide (-1000000000000000000 < smV z) && decide (smV z < 1000000000000000000)) = fewB z := by
  cases hi : inI z with
  | true => rw [show smV z = z by unfold smV; rw [hi]; rfl]; rfl
  | false =>
    cases hf : fewB z with
    | false => rfl
    | true => rw [(few_in hf).1] at hi; cases hi
set_option maxHeartbeats 1600000 in
theorem few_any (z : Int) (w : World) (hs : Std w) (hz : (str z.natAbs).size ≤ 1000000) :
    Calls Tryz.prog 148 #[.string (zS z)] w fun e w' => (∃ v : Int, e = .returned (.tuple #[.int .i64 v, .bool (fewB z)]) ∧ (fewB z = true → v = z)) ∧ Below w.heap.size w w' := by
  have HS := Lib.hid (smallW_any z w hs hz)
  have HF := Lib.hid (few_val z)
  have HV := Lib.hid (show fewB z = true → smV z = z from fun h => (few_in h).2)
  have hsz : ¬ (zS z).size ≤ 19 → fewB z = false := fun h => by
    cases hf : fewB z with
    | false => rfl
    | true => exact absurd (few_size hf) h
  have hlim := (zF z hz).lim
  obtain ⟨s, hs2⟩ : ∃ s, s = zS z := ⟨_, rfl⟩
  rw [← hs2] at HS hsz hlim ⊢
  obtain ⟨F, hF⟩ : ∃ F, F = fewB z := ⟨_, rfl⟩
  rw [← hF] at HF HV hsz ⊢
  obtain ⟨V, hV⟩ : ∃ V, V = smV z := ⟨_, rfl⟩
  rw [← hV] at HS HF HV
  obtain ⟨I, hI⟩ : ∃ I, I = inI z := ⟨_, rfl⟩
  rw [← hI] at HS HF
  clear hs2 hF hV hI hs hz
  by_cases h19 : s.size ≤ 19
  · have hl : decide ((19 : Int) < s.size) = false := decide_eq_false (by omega)
    clear hsz
    cases I
    · have HF2 := Lib.hid (show F = false by have := HF.out; simpa using this.symm)
      clear HF
      go_enter Tryz.func148, Tryz.ntmps148
      go_wp2_with fail
      refine HS.out.mono ?_
      rintro e w1 ⟨rfl, h1⟩
      have B1 := Lib.hid h1
      clear h1
      go_wp2_with fail
      go_ret2
      exact ⟨⟨V, by rw [HF2.out]; rfl, HV.out⟩, B1.out⟩
    · by_cases ha : -1000000000000000000 < V
      · by_cases hb : V < 1000000000000000000
        · have HF2 := Lib.hid (show F = true by have := HF.out; rw [decide_eq_true ha, decide_eq_true hb] at this; exact this.symm)
          clear HF
          go_enter Tryz.func148, Tryz.ntmps148
          go_wp2_with fail
          refine HS.out.mono ?_
          rintro e w1 ⟨rfl, h1⟩
          have B1 := Lib.hid h1
          clear h1
          go_wp2_with fail
          go_ret2
          exact ⟨⟨V, by rw [HF2.out]; rfl, HV.out⟩, B1.out⟩
        · have HF2 := Lib.hid (show F = false by have := HF.out; rw [decide_eq_false hb] at this; simpa using this.symm)
          clear HF
          go_enter Tryz.func148, Tryz.ntmps148
          go_wp2_with fail
          refine HS.out.mono ?_
          rintro e w1 ⟨rfl, h1⟩
          have B1 := Lib.hid h1
          clear h1
          go_wp2_with fail
          go_ret2
          exact ⟨⟨V, by rw [HF2.out]; show Ending.returned (.tuple #[.int .i64 V, .bool (decide (V < 1000000000000000000))]) = _; rw [decide_eq_false (by omega)], HV.out⟩, B1.out⟩
      · have HF2 := Lib.hid (show F = false by have := HF.out; rw [decide_eq_false ha] at this; simpa using this.symm)
        clear HF
        go_enter Tryz.func148, Tryz.ntmps148
        go_wp2_with fail
        refine HS.out.mono ?_
        rintro e w1 ⟨rfl, h1⟩
        have B1 := Lib.hid h1
        clear h1
        go_wp2_with fail
        go_ret2
        exact ⟨⟨V, by rw [HF2.out]; rfl, HV.out⟩, B1.out⟩
  · have HF2 := Lib.hid (hsz h19)
    have hl : decide ((19 : Int) < s.size) = true := decide_eq_true (by omega)
    clear hsz HF
    go_enter Tryz.func148, Tryz.ntmps148
    go_wp2_with fail
    go_ret2
    exact ⟨⟨0, by rw [HF2.out]; rfl, fun h => by rw [HF2.out] at h; cases h⟩, Below.refl _ _⟩
set_option maxHeartbeats 800000 in
theorem both_any (x y : Int) (w : World) (hs : Std w) (hx : (str x.natAbs).size ≤ 1000000) (hy : (str y.natAbs).size ≤ 1000000) :
    Calls Tryz.prog 135 #[.string (zS x), .string (zS y)] w fun e w' => (∃ u v : Int, e = .returned (.tuple #[.int .i64 u, .int .i64 v, .bool (fewB x && fewB y)]) ∧ ((fewB x && fewB y) = true → u = x ∧ v = y)) ∧ Below w.heap.size w w' := by
  have HX := Lib.hid (few_any x w hs hx)
  have HY := Lib.hid (fun wx hw => few_any y wx hw hy)
  have HS := Lib.hid hs
  obtain ⟨s, hs2⟩ : ∃ s, s = zS x := ⟨_, rfl⟩
  obtain ⟨t, ht⟩ : ∃ t, t = zS y := ⟨_, rfl⟩
  rw [← hs2] at HX ⊢
  rw [← ht] at HY ⊢
  obtain ⟨A, hA⟩ : ∃ F, F = fewB x := ⟨_, rfl⟩
  obtain ⟨B, hB⟩ : ∃ F, F = fewB y := ⟨_, rfl⟩
  rw [← hA] at HX ⊢
  rw [← hB] at HY ⊢
  clear hs2 ht hA hB hs hx hy
  cases A
  · clear HY
    go_enter Tryz.func135, Tryz.ntmps135
    go_wp2_with fail
    refine HX.out.mono ?_
    rintro e w1 ⟨⟨v, rfl, hv⟩, h1⟩
    have B1 := Lib.hid h1
    clear h1 hv
    go_wp2_with fail
    go_ret3
    exact ⟨⟨0, 0, rfl, fun h => by cases h⟩, B1.out⟩
  · go_enter Tryz.func135, Tryz.ntmps135
    go_wp2_with fail
    refine HX.out.mono ?_
    rintro e w1 ⟨⟨v, rfl, hv⟩, h1⟩
    have B1 := Lib.hid h1
    have V1 := Lib.hid (hv trivial)
    clear h1 hv
    go_wp2_with fail
    refine (HY.out _ (HS.out.below B1.out)).mono ?_
    rintro e w2 ⟨⟨v2, rfl, hv2⟩, h2⟩
    have B2 := Lib.hid (B1.out.trans (h2.mono B1.out.size))
    have V2 := Lib.hid hv2
    clear h2 hv2
    go_wp2_with fail
    go_ret3
    exact ⟨⟨v, v2, rfl, fun h => ⟨V1.out, V2.out (by simpa using h)⟩⟩, B2.out⟩
end Go.Proofs.YtgkfdgdlmpggpaaGreatDoor
