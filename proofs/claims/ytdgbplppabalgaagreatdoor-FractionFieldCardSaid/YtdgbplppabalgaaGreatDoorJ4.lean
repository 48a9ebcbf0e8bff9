/-
  Texts of one seat, joined: ZComp ZSmall ZFew Add.
-/
import Derived.Test.YtdgbplppabalgaaGreatDoorJ3
import Derived.Test.YtdgbplppabalgaaGreatDoorJ2
namespace Go.Proofs.YtdgbplppabalgaaGreatDoor
open Go.RowKit

def cmpZ (x y : Int) : Int := if x < y then -1 else if y < x then 1 else 0
theorem cmpN_ways (a b : Nat) : (a < b ∧ cmpN a b = -1) ∨ (a = b ∧ cmpN a b = 0) ∨ (b < a ∧ cmpN a b = 1) := by
  rcases Nat.lt_trichotomy a b with h | h | h
  · exact .inl ⟨h, cmp_lt h⟩
  · subst h; exact .inr (.inl ⟨rfl, cmp_eq a⟩)
  · exact .inr (.inr ⟨h, cmp_gt h⟩)
theorem sgnI_ways (z : Int) : (z < 0 ∧ sgnI z = -1) ∨ (z = 0 ∧ sgnI z = 0) ∨ (0 < z ∧ sgnI z = 1) := by
  unfold sgnI
  rcases (by omega : z = 0 ∨ z < 0 ∨ 0 < z) with h | h | h
  · exact .inr (.inl ⟨h, if_pos h⟩)
  · exact .inl ⟨h, by rw [if_neg (by omega), if_pos h]⟩
  · exact .inr (.inr ⟨h, by rw [if_neg (by omega), if_neg (by omega)]⟩)
theorem cmpZ_ways (x y : Int) : (x < y ∧ cmpZ x y = -1) ∨ (x = y ∧ cmpZ x y = 0) ∨ (y < x ∧ cmpZ x y = 1) := by
  unfold cmpZ
  rcases (by omega : x < y ∨ x = y ∨ y < x) with h | h | h
  · exact .inl ⟨h, if_pos h⟩
  · exact .inr (.inl ⟨h, by rw [if_neg (by omega), if_neg (by omega)]⟩)
  · exact .inr (.inr ⟨h, by rw [if_neg (by omega), if_pos h]⟩)
theorem cmp_diff {x y : Int} (h : sgnI x ≠ sgnI y) : Lib.compareInt (sgnI x) (sgnI y) = cmpZ x y ∧ sgnI x ≠ sgnI y := by
  refine ⟨?_, h⟩
  unfold Lib.compareInt
  rcases sgnI_ways x with ⟨h1, e1⟩ | ⟨h1, e1⟩ | ⟨h1, e1⟩ <;> rcases sgnI_ways y with ⟨h2, e2⟩ | ⟨h2, e2⟩ | ⟨h2, e2⟩ <;> rw [e1, e2] at h ⊢ <;>
    rcases cmpZ_ways x y with ⟨h3, e3⟩ | ⟨h3, e3⟩ | ⟨h3, e3⟩ <;> rw [e3] <;> first | (exfalso; omega) | rfl | decide
theorem cmp_same {x y : Int} (h : sgnI x = sgnI y) : sgnI x * cmpN x.natAbs y.natAbs = cmpZ x y := by
  rcases sgnI_ways x with ⟨h1, e1⟩ | ⟨h1, e1⟩ | ⟨h1, e1⟩ <;> rcases sgnI_ways y with ⟨h2, e2⟩ | ⟨h2, e2⟩ | ⟨h2, e2⟩ <;> rw [e1, e2] at h <;> first | (exfalso; omega) | skip
  all_goals
    rw [e1]
    rcases cmpN_ways x.natAbs y.natAbs with ⟨h4, e4⟩ | ⟨h4, e4⟩ | ⟨h4, e4⟩ <;>
      rcases cmpZ_ways x y with ⟨h3, e3⟩ | ⟨h3, e3⟩ | ⟨h3, e3⟩ <;> rw [e3, e4] <;> first | (exfalso; omega) | rfl | decide
set_option maxHeartbeats 800000 in
theorem cmpW_any (x y : Int) (w : World) (hx : (str x.natAbs).size ≤ 1000000) (hy : (str y.natAbs).size ≤ 1000000) :
    Calls Tryz.prog 105 #[.string (zS x), .string (zS y)] w fun e w' => e = .returned (.int .i64 (cmpZ x y)) ∧ Below w.heap.size w w' := by
  have HSX := Lib.hid (fun wx => sign_any x wx hx)
  have HSY := Lib.hid (fun wx => sign_any y wx hy)
  have HAX := Lib.hid (fun wx => abs_any x wx hx)
  have HAY := Lib.hid (fun wx => abs_any y wx hy)
  have HCM := Lib.hid (fun wx => compare_any x.natAbs y.natAbs wx)
  have HCI := Lib.hid (fun wx => Tryz.cmp_Compare_int (sgnI x) (sgnI y) wx)
  obtain ⟨s, hs⟩ : ∃ s, s = zS x := ⟨_, rfl⟩
  obtain ⟨t, ht⟩ : ∃ t, t = zS y := ⟨_, rfl⟩
  rw [← hs] at HSX HAX ⊢
  rw [← ht] at HSY HAY ⊢
  obtain ⟨a, ha⟩ : ∃ a, a = str x.natAbs := ⟨_, rfl⟩
  obtain ⟨b, hb⟩ : ∃ b, b = str y.natAbs := ⟨_, rfl⟩
  rw [← ha] at HAX HCM
  rw [← hb] at HAY HCM
  clear hs ht ha hb hx hy
  by_cases h : sgnI x = sgnI y
  · have hm := cmp_same h
    have hn : (sgnI x != sgnI y) = false := by rw [h]; simp
    obtain ⟨C, hC⟩ : ∃ C, C = cmpN x.natAbs y.natAbs := ⟨_, rfl⟩
    have hw := IntWalk.i64_in (sgnI x * cmpN x.natAbs y.natAbs) (by rw [hm]; rcases cmpZ_ways x y with ⟨_, e⟩ | ⟨_, e⟩ | ⟨_, e⟩ <;> rw [e] <;> decide)
    rw [hm] at hw
    rw [← hC] at HCM hm
    obtain ⟨X, hX⟩ : ∃ X, X = sgnI x := ⟨_, rfl⟩
    obtain ⟨Y, hY⟩ : ∃ Y, Y = sgnI y := ⟨_, rfl⟩
    obtain ⟨Z, hZ⟩ : ∃ Z, Z = cmpZ x y := ⟨_, rfl⟩
    rw [← hX] at HSX hn hm
    rw [← hY] at HSY hn
    rw [← hZ] at hm hw ⊢
    clear h hC hX hY hZ HCI
    go_enter Tryz.func105, Tryz.ntmps105
    go_wp2_with fail
    refine (HSX.out _).mono ?_
    rintro e w1 ⟨rfl, rfl⟩
    go_wp2_with fail
    refine (HSY.out _).mono ?_
    rintro e w1 ⟨rfl, rfl⟩
    go_wp2_with fail
    refine (HAX.out _).mono ?_
    rintro e w1 ⟨rfl, h1⟩
    have B1 := Lib.hid h1
    clear h1
    go_wp2_with fail
    refine (HAY.out _).mono ?_
    rintro e w2 ⟨rfl, h2⟩
    have B2 := Lib.hid (B1.out.trans (h2.mono B1.out.size))
    clear h2
    go_wp2_with fail
    refine (HCM.out _).mono ?_
    rintro e w3 ⟨rfl, rfl⟩
    go_wp2_with fail
    go_ret
    exact ⟨rfl, B2.out⟩
  · obtain ⟨hm, -⟩ := cmp_diff h
    have hn : (sgnI x != sgnI y) = true := by simpa using h
    rw [hm] at HCI
    obtain ⟨X, hX⟩ : ∃ X, X = sgnI x := ⟨_, rfl⟩
    obtain ⟨Y, hY⟩ : ∃ Y, Y = sgnI y := ⟨_, rfl⟩
    obtain ⟨Z, hZ⟩ : ∃ Z, Z = cmpZ x y := ⟨_, rfl⟩
    rw [← hX] at HSX hn HCI
    rw [← hY] at HSY hn HCI
    rw [← hZ] at HCI ⊢
    clear h hm hX hY hZ HAX HAY HCM
    go_enter Tryz.func105, Tryz.ntmps105
    go_wp2_with fail
    refine (HSX.out _).mono ?_
    rintro e w1 ⟨rfl, rfl⟩
    go_wp2_with fail
    refine (HSY.out _).mono ?_
    rintro e w1 ⟨rfl, rfl⟩
    go_wp2_with fail
    refine (HSY.out _).mono ?_
    rintro e w1 ⟨rfl, rfl⟩
    go_wp2_with fail
    refine (HCI.out _).mono ?_
    rintro e w1 ⟨rfl, hw1⟩
    obtain rfl := hw1
    go_wp2_with fail
    go_ret
    exact ⟨rfl, Below.refl _ _⟩

end Go.Proofs.YtdgbplppabalgaaGreatDoor

namespace Go.Proofs.YtdgbplppabalgaaGreatDoor
open Go.RowKit

def inI (z : Int) : Bool := decide (-9223372036854775808 ≤ z) && decide (z ≤ 9223372036854775807)
def smV (z : Int) : Int := if inI z = true then z else 0
set_option maxHeartbeats 1600000 in
theorem smallW_any (z : Int) (w : World) (hs : Std w) (hz : (str z.natAbs).size ≤ 1000000) :
    Calls Tryz.prog 112 #[.string (zS z)] w fun e w' => e = .returned (.tuple #[.int .i64 (smV z), .bool (inI z)]) ∧ Below w.heap.size w w' := by
  have HS := Lib.hid (split_any z w hz)
  have HSTD := Lib.hid hs
  obtain ⟨s, hs2⟩ : ∃ s, s = zS z := ⟨_, rfl⟩
  rw [← hs2] at HS ⊢
  obtain ⟨n, hn⟩ : ∃ n : Nat, n = z.natAbs := ⟨_, rfl⟩
  rw [← hn] at HS
  have hY := fun wx (h : n < 18446744073709551616) => small_yes n h wx
  have hN := fun wx (h : ¬ n < 18446744073709551616) hw => small_no n h wx hw
  obtain ⟨d, hd⟩ : ∃ d, d = str n := ⟨_, rfl⟩
  rw [← hd] at HS hY hN
  have HY := Lib.hid hY
  have HN := Lib.hid hN
  clear hs2 hd hs hz hY hN
  by_cases h64 : n < 18446744073709551616
  · by_cases h63 : n ≤ 9223372036854775807
    · have HI := Lib.hid (show inI z = true by unfold inI; rw [decide_eq_true (by omega), decide_eq_true (by omega)]; rfl)
      have HV := Lib.hid (show smV z = z by unfold smV; rw [HI.out]; rfl)
      have hm : decide ((n : Int) ≤ 9223372036854775807) = true := decide_eq_true (by omega)
      have hc : IntKind.i64.wrap (n : Int) = (n : Int) := IntWalk.i64_in _ ⟨by omega, by omega⟩
      have hc2 : IntKind.i64.wrap (-(n : Int)) = -(n : Int) := IntWalk.i64_in _ ⟨by omega, by omega⟩
      by_cases h : z < 0
      · have HZ := Lib.hid (show -(n : Int) = z by omega)
        rw [decide_eq_true h] at HS
        clear h hn
        go_enter Tryz.func112, Tryz.ntmps112
        go_wp2_with fail
        refine HS.out.mono ?_
        rintro e w1 ⟨rfl, h1⟩
        have B1 := Lib.hid h1
        clear h1
        go_wp2_with fail
        refine (HY.out _ h64).mono ?_
        rintro e w2 ⟨rfl, h2⟩
        have B2 := Lib.hid (B1.out.trans (h2.mono B1.out.size))
        clear h2
        go_wp2_with fail
        go_ret2
        exact ⟨by rw [HI.out, HV.out, ← HZ.out]; rfl, B2.out⟩
      · have HZ := Lib.hid (show (n : Int) = z by omega)
        rw [decide_eq_false h] at HS
        clear h hn
        go_enter Tryz.func112, Tryz.ntmps112
        go_wp2_with fail
        refine HS.out.mono ?_
        rintro e w1 ⟨rfl, h1⟩
        have B1 := Lib.hid h1
        clear h1
        go_wp2_with fail
        refine (HY.out _ h64).mono ?_
        rintro e w2 ⟨rfl, h2⟩
        have B2 := Lib.hid (B1.out.trans (h2.mono B1.out.size))
        clear h2
        go_wp2_with fail
        go_ret2
        exact ⟨by rw [HI.out, HV.out, ← HZ.out]; rfl, B2.out⟩
    · have hm : decide ((n : Int) ≤ 9223372036854775807) = false := decide_eq_false (by omega)
      by_cases h : z < 0
      · rw [decide_eq_true h] at HS
        by_cases he : n = 9223372036854775808
        · have HI := Lib.hid (show inI z = true by unfold inI; rw [decide_eq_true (by omega), decide_eq_true (by omega)]; rfl)
          have HV := Lib.hid (show smV z = -9223372036854775808 by unfold smV; rw [HI.out, if_pos rfl]; omega)
          have heq : ((n : Int) == 9223372036854775808) = true := by rw [beq_iff_eq]; omega
          clear h hn he
          go_enter Tryz.func112, Tryz.ntmps112
          go_wp2_with fail
          refine HS.out.mono ?_
          rintro e w1 ⟨rfl, h1⟩
          have B1 := Lib.hid h1
          clear h1
          go_wp2_with fail
          refine (HY.out _ h64).mono ?_
          rintro e w2 ⟨rfl, h2⟩
          have B2 := Lib.hid (B1.out.trans (h2.mono B1.out.size))
          clear h2
          go_wp2_with fail
          go_ret2
          exact ⟨by rw [HI.out, HV.out]; rfl, B2.out⟩
        · have HI := Lib.hid (show inI z = false by unfold inI; rw [decide_eq_false (by omega)]; rfl)
          have HV := Lib.hid (show smV z = 0 by unfold smV; rw [HI.out]; rfl)
          have heq : ((n : Int) == 9223372036854775808) = false := by rw [beq_eq_false_iff_ne]; omega
          clear h hn he
          go_enter Tryz.func112, Tryz.ntmps112
          go_wp2_with fail
          refine HS.out.mono ?_
          rintro e w1 ⟨rfl, h1⟩
          have B1 := Lib.hid h1
          clear h1
          go_wp2_with fail
          refine (HY.out _ h64).mono ?_
          rintro e w2 ⟨rfl, h2⟩
          have B2 := Lib.hid (B1.out.trans (h2.mono B1.out.size))
          clear h2
          go_wp2_with fail
          go_ret2
          exact ⟨by rw [HI.out, HV.out]; rfl, B2.out⟩
      · rw [decide_eq_false h] at HS
        have HI := Lib.hid (show inI z = false by unfold inI; rw [decide_eq_false (p := z ≤ 9223372036854775807) (by omega)]; simp)
        have HV := Lib.hid (show smV z = 0 by unfold smV; rw [HI.out]; rfl)
        by_cases he : n = 9223372036854775808
        · have heq : ((n : Int) == 9223372036854775808) = true := by rw [beq_iff_eq]; omega
          clear h hn he
          go_enter Tryz.func112, Tryz.ntmps112
          go_wp2_with fail
          refine HS.out.mono ?_
          rintro e w1 ⟨rfl, h1⟩
          have B1 := Lib.hid h1
          clear h1
          go_wp2_with fail
          refine (HY.out _ h64).mono ?_
          rintro e w2 ⟨rfl, h2⟩
          have B2 := Lib.hid (B1.out.trans (h2.mono B1.out.size))
          clear h2
          go_wp2_with fail
          go_ret2
          exact ⟨by rw [HI.out, HV.out]; rfl, B2.out⟩
        · have heq : ((n : Int) == 9223372036854775808) = false := by rw [beq_eq_false_iff_ne]; omega
          clear h hn he
          go_enter Tryz.func112, Tryz.ntmps112
          go_wp2_with fail
          refine HS.out.mono ?_
          rintro e w1 ⟨rfl, h1⟩
          have B1 := Lib.hid h1
          clear h1
          go_wp2_with fail
          refine (HY.out _ h64).mono ?_
          rintro e w2 ⟨rfl, h2⟩
          have B2 := Lib.hid (B1.out.trans (h2.mono B1.out.size))
          clear h2
          go_wp2_with fail
          go_ret2
          exact ⟨by rw [HI.out, HV.out]; rfl, B2.out⟩
  · have HI := Lib.hid (show inI z = false by
      unfold inI
      by_cases h : z < 0
      · rw [decide_eq_false (by omega)]; rfl
      · rw [decide_eq_false (p := z ≤ 9223372036854775807) (by omega)]; simp)
    have HV := Lib.hid (show smV z = 0 by unfold smV; rw [HI.out]; rfl)
    obtain ⟨b, hb⟩ : ∃ b, b = decide (z < 0) := ⟨_, rfl⟩
    rw [← hb] at HS
    clear hn hb
    go_enter Tryz.func112, Tryz.ntmps112
    go_wp2_with fail
    refine HS.out.mono ?_
    rintro e w1 ⟨rfl, h1⟩
    have B1 := Lib.hid h1
    clear h1
    go_wp2_with fail
    refine (HN.out _ h64 (HSTD.out.below B1.out)).mono ?_
    rintro e w2 ⟨rfl, h2⟩
    have B2 := Lib.hid (B1.out.trans (h2.mono B1.out.size))
    clear h2
    go_wp2_with fail
    go_ret2
    exact ⟨by rw [HI.out, HV.out]; rfl, B2.out⟩
end Go.Proofs.YtdgbplppabalgaaGreatDoor

namespace Go.Proofs.YtdgbplppabalgaaGreatDoor
open Go.RowKit

theorem itoa_zS (z : Int) : (⟨(Lib.itoa z).toArray⟩ : ByteArray) = zS z := by
  unfold zS Lib.itoa str
  by_cases h : z < 0
  · rw [if_pos h, if_pos h]
    apply ByteArray.ext
    rw [ByteArray.data_append]; simp
  · rw [if_neg h, if_neg h, show z.toNat = z.natAbs by omega]
set_option maxHeartbeats 400000 in
theorem ofW_any (z : Int) (w : World) (hs : Std w) (h1 : -9223372036854775808 ≤ z) (h2 : z ≤ 9223372036854775807) :
    Calls Tryz.prog 72 #[.int .i64 z] w fun e w' => e = .returned (.string (zS z)) ∧ Below w.heap.size w w' := by
  have hi := Tryz.strconv_Itoa z h1 h2 w hs.tab
  rw [itoa_zS] at hi
  have HI := Lib.hid hi
  clear hi hs
  go_enter Tryz.func72, Tryz.ntmps72
  go_wp2_with fail
  refine HI.out.mono ?_
  rintro e w3 ⟨rfl, k, os, hw3⟩
  have hb3 : Below w.heap.size w w3 := by rw [hw3]; exact Lib.below_grow _ _ (Nat.le_refl _) _ _
  have HB := Lib.hid hb3
  clear hw3 hb3
  go_wp2_with fail
  go_ret
  exact ⟨rfl, HB.out⟩
def fewB (z : Int) : Bool := decide (-1000000000000000000 < z) && decide (z < 1000000000000000000)
theorem few_size {z : Int} (h : fewB z = true) : (zS z).size ≤ 19 := by
  unfold fewB at h
  simp at h
  have hs : (str z.natAbs).size ≤ 18 := str_big (n := 18) (by omega) (by decide)
  by_cases hz : z < 0
  · rw [zS_neg hz, (negS z.natAbs).sz]; omega
  · rw [zS_pos hz]; omega
theorem few_in {z : Int} (h : fewB z = true) : inI z = true ∧ smV z = z := by
  have h' := h
  unfold fewB at h'
  simp at h'
  have hi : inI z = true := by unfold inI; rw [decide_eq_true (by omega), decide_eq_true (by omega)]; rfl
  exact ⟨hi, by unfold smV; rw [hi]; rfl⟩
theorem few_val (z : Int) : (inI z && decide (-1000000000000000000 < smV z) && decide (smV z < 1000000000000000000)) = fewB z := by
  cases hi : inI z with
  | true => rw [show smV z = z by unfold smV; rw [hi]; rfl]; rfl
  | false =>
    cases hf : fewB z with
    | false => rfl
    | true => rw [(few_in hf).1] at hi; cases hi
set_option maxHeartbeats 1600000 in
theorem few_any (z : Int) (w : World) (hs : Std w) (hz : (str z.natAbs).size ≤ 1000000) :
    Calls Tryz.prog 148 #[.string (zS z)] w fun e w' => (∃ v : Int, e = .returned (.tuple #[.int .i64 v, .bool (fewB z)]) ∧ (fewB z = true → v = z)) ∧ Below w.heap.size w w' := by
  have HS := Lib.hid (smallW_any z w hs hz)
  have HF := Lib.hid (few_val z)
  have HV := Lib.hid (show fewB z = true → smV z = z from fun h => (few_in h).2)
  have hsz : ¬ (zS z).size ≤ 19 → fewB z = false := fun h => by
    cases hf : fewB z with
    | false => rfl
    | true => exact absurd (few_size hf) h
  have hlim := (zF z hz).lim
  obtain ⟨s, hs2⟩ : ∃ s, s = zS z := ⟨_, rfl⟩
  rw [← hs2] at HS hsz hlim ⊢
  obtain ⟨F, hF⟩ : ∃ F, F = fewB z := ⟨_, rfl⟩
  rw [← hF] at HF HV hsz ⊢
  obtain ⟨V, hV⟩ : ∃ V, V = smV z := ⟨_, rfl⟩
  rw [← hV] at HS HF HV
  obtain ⟨I, hI⟩ : ∃ I, I = inI z := ⟨_, rfl⟩
  rw [← hI] at HS HF
  clear hs2 hF hV hI hs hz
  by_cases h19 : s.size ≤ 19
  · have hl : decide ((19 : Int) < s.size) = false := decide_eq_false (by omega)
    clear hsz
    cases I
    · have HF2 := Lib.hid (show F = false by have := HF.out; simpa using this.symm)
      clear HF
      go_enter Tryz.func148, Tryz.ntmps148
      go_wp2_with fail
      refine HS.out.mono ?_
      rintro e w1 ⟨rfl, h1⟩
      have B1 := Lib.hid h1
      clear h1
      go_wp2_with fail
      go_ret2
      exact ⟨⟨V, by rw [HF2.out]; rfl, HV.out⟩, B1.out⟩
    · by_cases ha : -1000000000000000000 < V
      · by_cases hb : V < 1000000000000000000
        · have HF2 := Lib.hid (show F = true by have := HF.out; rw [decide_eq_true ha, decide_eq_true hb] at this; exact this.symm)
          clear HF
          go_enter Tryz.func148, Tryz.ntmps148
          go_wp2_with fail
          refine HS.out.mono ?_
          rintro e w1 ⟨rfl, h1⟩
          have B1 := Lib.hid h1
          clear h1
          go_wp2_with fail
          go_ret2
          exact ⟨⟨V, by rw [HF2.out]; rfl, HV.out⟩, B1.out⟩
        · have HF2 := Lib.hid (show F = false by have := HF.out; rw [decide_eq_false hb] at this; simpa using this.symm)
          clear HF
          go_enter Tryz.func148, Tryz.ntmps148
          go_wp2_with fail
          refine HS.out.mono ?_
          rintro e w1 ⟨rfl, h1⟩
          have B1 := Lib.hid h1
          clear h1
          go_wp2_with fail
          go_ret2
          exact ⟨⟨V, by rw [HF2.out]; show Ending.returned (.tuple #[.int .i64 V, .bool (decide (V < 1000000000000000000))]) = _; rw [decide_eq_false (by omega)], HV.out⟩, B1.out⟩
      · have HF2 := Lib.hid (show F = false by have := HF.out; rw [decide_eq_false ha] at this; simpa using this.symm)
        clear HF
        go_enter Tryz.func148, Tryz.ntmps148
        go_wp2_with fail
        refine HS.out.mono ?_
        rintro e w1 ⟨rfl, h1⟩
        have B1 := Lib.hid h1
        clear h1
        go_wp2_with fail
        go_ret2
        exact ⟨⟨V, by rw [HF2.out]; rfl, HV.out⟩, B1.out⟩
  · have HF2 := Lib.hid (hsz h19)
    have hl : decide ((19 : Int) < s.size) = true := decide_eq_true (by omega)
    clear hsz HF
    go_enter Tryz.func148, Tryz.ntmps148
    go_wp2_with fail
    go_ret2
    exact ⟨⟨0, by rw [HF2.out]; rfl, fun h => by rw [HF2.out] at h; cases h⟩, Below.refl _ _⟩
set_option maxHeartbeats 800000 in
theorem both_any (x y : Int) (w : World) (hs : Std w) (hx : (str x.natAbs).size ≤ 1000000) (hy : (str y.natAbs).size ≤ 1000000) :
    Calls Tryz.prog 135 #[.string (zS x), .string (zS y)] w fun e w' => (∃ u v : Int, e = .returned (.tuple #[.int .i64 u, .int .i64 v, .bool (fewB x && fewB y)]) ∧ ((fewB x && fewB y) = true → u = x ∧ v = y)) ∧ Below w.heap.size w w' := by
  have HX := Lib.hid (few_any x w hs hx)
  have HY := Lib.hid (fun wx hw => few_any y wx hw hy)
  have HS := Lib.hid hs
  obtain ⟨s, hs2⟩ : ∃ s, s = zS x := ⟨_, rfl⟩
  obtain ⟨t, ht⟩ : ∃ t, t = zS y := ⟨_, rfl⟩
  rw [← hs2] at HX ⊢
  rw [← ht] at HY ⊢
  obtain ⟨A, hA⟩ : ∃ F, F = fewB x := ⟨_, rfl⟩
  obtain ⟨B, hB⟩ : ∃ F, F = fewB y := ⟨_, rfl⟩
  rw [← hA] at HX ⊢
  rw [← hB] at HY ⊢
  clear hs2 ht hA hB hs hx hy
  cases A
  · clear HY
    go_enter Tryz.func135, Tryz.ntmps135
    go_wp2_with fail
    refine HX.out.mono ?_
    rintro e w1 ⟨⟨v, rfl, hv⟩, h1⟩
    have B1 := Lib.hid h1
    clear h1 hv
    go_wp2_with fail
    go_ret3
    exact ⟨⟨0, 0, rfl, fun h => by cases h⟩, B1.out⟩
  · go_enter Tryz.func135, Tryz.ntmps135
    go_wp2_with fail
    refine HX.out.mono ?_
    rintro e w1 ⟨⟨v, rfl, hv⟩, h1⟩
    have B1 := Lib.hid h1
    have V1 := Lib.hid (hv trivial)
    clear h1 hv
    go_wp2_with fail
    refine (HY.out _ (HS.out.below B1.out)).mono ?_
    rintro e w2 ⟨⟨v2, rfl, hv2⟩, h2⟩
    have B2 := Lib.hid (B1.out.trans (h2.mono B1.out.size))
    have V2 := Lib.hid hv2
    clear h2 hv2
    go_wp2_with fail
    go_ret3
    exact ⟨⟨v, v2, rfl, fun h => ⟨V1.out, V2.out (by simpa using h)⟩⟩, B2.out⟩
end Go.Proofs.YtdgbplppabalgaaGreatDoor

namespace Go.Proofs.YtdgbplppabalgaaGreatDoor
open Go.RowKit

theorem add_step {L : List Nat} {k T : Nat} (hk : k < L.length) (h0 : L[k] = 0) :
    pv (L.set k (T % 1000000000)) + 1000000000 ^ (k + 1) * (T / 1000000000) = pv L + 1000000000 ^ k * T := by
  have h1 := pv_set (T % 1000000000) hk
  rw [h0] at h1
  have h2 : 1000000000 ^ (k + 1) * (T / 1000000000) + 1000000000 ^ k * (T % 1000000000) = 1000000000 ^ k * T := by
    rw [Nat.pow_succ, Nat.mul_assoc, ← Nat.mul_add, Nat.div_add_mod]
  omega

set_option maxHeartbeats 6400000 in
set_option maxRecDepth 100000 in
theorem add_ge (B g cap g' cap' : Nat) (a b : List Nat) (w : World) (ha : Row w B g cap a) (hb : Row w B g' cap' b) (ha9 : lt9 a) (hb9 : lt9 b) (hla : a.length ≤ 200000) (hl : b.length ≤ a.length) :
    Calls Tryz.prog 175 #[.slice (some ⟨g, 0, none⟩) a.length cap, .slice (some ⟨g', 0, none⟩) b.length cap'] w fun e w' => ∃ (h c : Nat) (q : List Nat), e = .returned (.slice (some ⟨h, 0, none⟩) q.length c) ∧ Pcs q (pv a + pv b) ∧ Row w' w.heap.size h c q ∧ Below w.heap.size w w' := by
  have hlc := ha.len_cap
  have hlc' := hb.len_cap
  unfold maxLen at hlc hlc'
  obtain ⟨i0, hi, hz0, hz1, hz2⟩ := info_parts info64
  have HA := Lib.hid ha
  have HB := Lib.hid hb
  have H9A := Lib.hid ha9
  have H9B := Lib.hid hb9
  clear ha hb ha9 hb9
  go_enter Tryz.func175, Tryz.ntmps175
  go_wp2_with (at_make; refine wpList_make_full _ rfl _ _ 161 rfl w.heap.size 135 i0 (.int .u64 0) 1 Tryz.underlying161 hi hz0 hz1 .i64 .i64 _ _ (a.length + 1) rfl rfl (by omega) (by omega) (by rw [hz2]; omega) (by unfold maxLen; omega) (Nat.le_refl _) ?_; intro w0 hown0 hgrow0)
  have hbel0 : Below w.heap.size w w0 := (Below.refl _ _).grown hgrow0 (Nat.le_refl _) (by intro k hk; cases hk)
  have hrow0 := Row.made hown0
  clear hown0 hgrow0
  go_wp2_with fail
  go_loopw [6, 7, 8, 22] (fun cv _ _ iv wr => ∃ (k c : Nat) (L : List Nat), iv = .int .i64 k ∧ k ≤ a.length ∧ cv = .int .u64 c ∧ c ≤ 1 ∧ Hid (L.length = a.length + 1 ∧ lt9 L ∧ pv L + 1000000000 ^ k * c = pv (a.take k) + pv (b.take k) ∧ (∀ t (h : t < L.length), k ≤ t → L[t] = 0)) ∧ Row wr w.heap.size w.heap.size (a.length + 1) L ∧ Below w.heap.size w wr) (fun _ _ _ iv _ => a.length - (intOf iv).toNat)
  case atStart =>
    refine ⟨0, 0, z0 (a.length + 1) [], rfl, Nat.zero_le _, rfl, by omega, ⟨by rw [z0_len]; rfl, ?_, ?_, ?_⟩, hrow0, hbel0⟩
    · unfold z0; rw [List.append_nil]; exact lt9_replicate _
    · unfold z0; rw [List.append_nil, pv_replicate]; simp [pv]
    · intro t ht _; simp [z0]
  case round =>
    obtain ⟨k, c, L, rfl, hk, rfl, hc, HI, hrow, hbel⟩ := hrel
    have hLl := HI.1
    by_cases hlt : k < a.length
    · have hca := (HA.out.below hbel).cell k hlt
      have hx9 := lt9_at H9A.out k hlt
      have hta := pv_take_succ hlt
      obtain ⟨x, hx⟩ : ∃ x : Nat, x = a[k] := ⟨_, rfl⟩
      rw [← hx] at hca hx9 hta
      have hkL : k < L.length := by omega
      have hcp := hrow.cell k hkL
      have hl0 := HI.2.2.2 k hkL (Nat.le_refl _)
      rw [hl0] at hcp
      have hfp := hrow.free k
      by_cases hkb : k < b.length
      · have hcb := (HB.out.below hbel).cell k hkb
        have hy9 := lt9_at H9B.out k hkb
        have htb := pv_take_succ hkb
        obtain ⟨y, hy⟩ : ∃ y : Nat, y = b[k] := ⟨_, rfl⟩
        rw [← hy] at hcb hy9 htb
        have hst := add_step (T := c + x + y) hkL hl0
        have HST := Lib.hid (show pv (L.set k ((c + x + y) % 1000000000)) + 1000000000 ^ (k + 1) * ((c + x + y) / 1000000000) = pv (a.take (k + 1)) + pv (b.take (k + 1)) by
          rw [hst, hta, htb, Nat.mul_add, Nat.mul_add]; have := HI.2.2.1; omega)
        have HR := Lib.hid hrow
        have HBL := Lib.hid hbel
        clear hx hy hta htb hst hl0 hrow hbel hkL
        go_wp2_with fail
        all_goals go_roundw
        case rel =>
          have e := HR.out.set k ((c + x + y) % 1000000000)
          have e2 : (((c + x + y) % 1000000000 : Nat) : Int) = ((c : Int) + (x : Int) + (y : Int)) % 1000000000 := by omega
          rw [e2] at e
          refine ⟨k + 1, (c + x + y) / 1000000000, L.set k ((c + x + y) % 1000000000), by go_num, by omega, by go_num, by omega, ⟨by rw [List.length_set]; exact HI.1, lt9_set HI.2.1 (Nat.mod_lt _ (by decide)), HST.out, ?_⟩, e, HBL.out.setCell (Nat.le_refl _) _⟩
          intro t ht hkt
          rw [List.getElem_set_ne (by omega)]
          exact HI.2.2.2 t (by rw [List.length_set] at ht; exact ht) (by omega)
        case measure => simp [intOf] <;> omega
      · have htb : b.take (k + 1) = b.take k := by rw [List.take_of_length_le (by omega), List.take_of_length_le (by omega)]
        have hst := add_step (T := c + x) hkL hl0
        have HST := Lib.hid (show pv (L.set k ((c + x) % 1000000000)) + 1000000000 ^ (k + 1) * ((c + x) / 1000000000) = pv (a.take (k + 1)) + pv (b.take (k + 1)) by
          rw [hst, hta, htb, Nat.mul_add]; have := HI.2.2.1; omega)
        have HR := Lib.hid hrow
        have HBL := Lib.hid hbel
        clear hx hta htb hst hl0 hrow hbel hkL
        go_wp2_with fail
        all_goals go_roundw
        case rel =>
          have e := HR.out.set k ((c + x) % 1000000000)
          have e2 : (((c + x) % 1000000000 : Nat) : Int) = ((c : Int) + (x : Int)) % 1000000000 := by omega
          rw [e2] at e
          refine ⟨k + 1, (c + x) / 1000000000, L.set k ((c + x) % 1000000000), by go_num, by omega, by go_num, by omega, ⟨by rw [List.length_set]; exact HI.1, lt9_set HI.2.1 (Nat.mod_lt _ (by decide)), HST.out, ?_⟩, e, HBL.out.setCell (Nat.le_refl _) _⟩
          intro t ht hkt
          rw [List.getElem_set_ne (by omega)]
          exact HI.2.2.2 t (by rw [List.length_set] at ht; exact ht) (by omega)
        case measure => simp [intOf] <;> omega
    · obtain rfl : k = a.length := by omega
      have hkL : a.length < L.length := by omega
      have hcp := hrow.cell a.length hkL
      have hl0 := HI.2.2.2 a.length hkL (Nat.le_refl _)
      rw [hl0] at hcp
      have hfp := hrow.free a.length
      have hpv : pv (L.set a.length c) = pv a + pv b := by
        have h1 := pv_set c hkL
        rw [hl0] at h1
        have h2 := HI.2.2.1
        rw [List.take_length, List.take_of_length_le (show b.length ≤ a.length by omega)] at h2
        omega
      have hrow2 := hrow.set a.length c
      have hlen2 : (L.set a.length c).length = a.length + 1 := by rw [List.length_set]; exact HI.1
      have ht := trim_any w.heap.size w.heap.size (a.length + 1) (L.set a.length c) _ hrow2
      rw [hlen2] at ht
      have HT := Lib.hid ht
      have HPV := Lib.hid hpv
      have HR2 := Lib.hid hrow2
      have HB2 := Lib.hid (hbel.setCell (p := ⟨w.heap.size, a.length, none⟩) (Nat.le_refl _) (.int .u64 (c : Int)))
      clear ht hpv hrow2 hrow hbel hl0 hkL hlen2
      go_wp2_with fail
      refine HT.out.mono ?_
      rintro e w1 ⟨rfl, rfl⟩
      go_wp2_with fail
      go_ret
      refine ⟨w.heap.size, a.length + 1, trimP (L.set a.length c), rfl, ?_, ?_, HB2.out⟩
      · rw [← HPV.out]; exact Pcs.of_trim (lt9_set HI.2.1 (by omega))
      · have := HR2.out.take (trimP (L.set a.length c)).length (trimP_props _).2.2.2.1
        rw [← (trimP_props (L.set a.length c)).2.2.2.2] at this; exact this
set_option maxHeartbeats 6400000 in
set_option maxRecDepth 100000 in
theorem add_lt (B g cap g' cap' : Nat) (a b : List Nat) (w : World) (ha : Row w B g cap a) (hb : Row w B g' cap' b) (ha9 : lt9 a) (hb9 : lt9 b) (hla : a.length ≤ 200000) (hl : b.length < a.length) :
    Calls Tryz.prog 175 #[.slice (some ⟨g', 0, none⟩) b.length cap', .slice (some ⟨g, 0, none⟩) a.length cap] w fun e w' => ∃ (h c : Nat) (q : List Nat), e = .returned (.slice (some ⟨h, 0, none⟩) q.length c) ∧ Pcs q (pv a + pv b) ∧ Row w' w.heap.size h c q ∧ Below w.heap.size w w' := by
  have hlc := ha.len_cap
  have hlc' := hb.len_cap
  unfold maxLen at hlc hlc'
  obtain ⟨i0, hi, hz0, hz1, hz2⟩ := info_parts info64
  have HA := Lib.hid ha
  have HB := Lib.hid hb
  have H9A := Lib.hid ha9
  have H9B := Lib.hid hb9
  clear ha hb ha9 hb9
  go_enter Tryz.func175, Tryz.ntmps175
  go_wp2_with (at_make; refine wpList_make_full _ rfl _ _ 161 rfl w.heap.size 135 i0 (.int .u64 0) 1 Tryz.underlying161 hi hz0 hz1 .i64 .i64 _ _ (a.length + 1) rfl rfl (by omega) (by omega) (by rw [hz2]; omega) (by unfold maxLen; omega) (Nat.le_refl _) ?_; intro w0 hown0 hgrow0)
  have hbel0 : Below w.heap.size w w0 := (Below.refl _ _).grown hgrow0 (Nat.le_refl _) (by intro k hk; cases hk)
  have hrow0 := Row.made hown0
  clear hown0 hgrow0
  go_wp2_with fail
  go_loopw [6, 7, 8, 22] (fun cv _ _ iv wr => ∃ (k c : Nat) (L : List Nat), iv = .int .i64 k ∧ k ≤ a.length ∧ cv = .int .u64 c ∧ c ≤ 1 ∧ Hid (L.length = a.length + 1 ∧ lt9 L ∧ pv L + 1000000000 ^ k * c = pv (a.take k) + pv (b.take k) ∧ (∀ t (h : t < L.length), k ≤ t → L[t] = 0)) ∧ Row wr w.heap.size w.heap.size (a.length + 1) L ∧ Below w.heap.size w wr) (fun _ _ _ iv _ => a.length - (intOf iv).toNat)
  case atStart =>
    refine ⟨0, 0, z0 (a.length + 1) [], rfl, Nat.zero_le _, rfl, by omega, ⟨by rw [z0_len]; rfl, ?_, ?_, ?_⟩, hrow0, hbel0⟩
    · unfold z0; rw [List.append_nil]; exact lt9_replicate _
    · unfold z0; rw [List.append_nil, pv_replicate]; simp [pv]
    · intro t ht _; simp [z0]
  case round =>
    obtain ⟨k, c, L, rfl, hk, rfl, hc, HI, hrow, hbel⟩ := hrel
    have hLl := HI.1
    by_cases hlt : k < a.length
    · have hca := (HA.out.below hbel).cell k hlt
      have hx9 := lt9_at H9A.out k hlt
      have hta := pv_take_succ hlt
      obtain ⟨x, hx⟩ : ∃ x : Nat, x = a[k] := ⟨_, rfl⟩
      rw [← hx] at hca hx9 hta
      have hkL : k < L.length := by omega
      have hcp := hrow.cell k hkL
      have hl0 := HI.2.2.2 k hkL (Nat.le_refl _)
      rw [hl0] at hcp
      have hfp := hrow.free k
      by_cases hkb : k < b.length
      · have hcb := (HB.out.below hbel).cell k hkb
        have hy9 := lt9_at H9B.out k hkb
        have htb := pv_take_succ hkb
        obtain ⟨y, hy⟩ : ∃ y : Nat, y = b[k] := ⟨_, rfl⟩
        rw [← hy] at hcb hy9 htb
        have hst := add_step (T := c + x + y) hkL hl0
        have HST := Lib.hid (show pv (L.set k ((c + x + y) % 1000000000)) + 1000000000 ^ (k + 1) * ((c + x + y) / 1000000000) = pv (a.take (k + 1)) + pv (b.take (k + 1)) by
          rw [hst, hta, htb, Nat.mul_add, Nat.mul_add]; have := HI.2.2.1; omega)
        have HR := Lib.hid hrow
        have HBL := Lib.hid hbel
        clear hx hy hta htb hst hl0 hrow hbel hkL
        go_wp2_with fail
        all_goals go_roundw
        case rel =>
          have e := HR.out.set k ((c + x + y) % 1000000000)
          have e2 : (((c + x + y) % 1000000000 : Nat) : Int) = ((c : Int) + (x : Int) + (y : Int)) % 1000000000 := by omega
          rw [e2] at e
          refine ⟨k + 1, (c + x + y) / 1000000000, L.set k ((c + x + y) % 1000000000), by go_num, by omega, by go_num, by omega, ⟨by rw [List.length_set]; exact HI.1, lt9_set HI.2.1 (Nat.mod_lt _ (by decide)), HST.out, ?_⟩, e, HBL.out.setCell (Nat.le_refl _) _⟩
          intro t ht hkt
          rw [List.getElem_set_ne (by omega)]
          exact HI.2.2.2 t (by rw [List.length_set] at ht; exact ht) (by omega)
        case measure => simp [intOf] <;> omega
      · have htb : b.take (k + 1) = b.take k := by rw [List.take_of_length_le (by omega), List.take_of_length_le (by omega)]
        have hst := add_step (T := c + x) hkL hl0
        have HST := Lib.hid (show pv (L.set k ((c + x) % 1000000000)) + 1000000000 ^ (k + 1) * ((c + x) / 1000000000) = pv (a.take (k + 1)) + pv (b.take (k + 1)) by
          rw [hst, hta, htb, Nat.mul_add]; have := HI.2.2.1; omega)
        have HR := Lib.hid hrow
        have HBL := Lib.hid hbel
        clear hx hta htb hst hl0 hrow hbel hkL
        go_wp2_with fail
        all_goals go_roundw
        case rel =>
          have e := HR.out.set k ((c + x) % 1000000000)
          have e2 : (((c + x) % 1000000000 : Nat) : Int) = ((c : Int) + (x : Int)) % 1000000000 := by omega
          rw [e2] at e
          refine ⟨k + 1, (c + x) / 1000000000, L.set k ((c + x) % 1000000000), by go_num, by omega, by go_num, by omega, ⟨by rw [List.length_set]; exact HI.1, lt9_set HI.2.1 (Nat.mod_lt _ (by decide)), HST.out, ?_⟩, e, HBL.out.setCell (Nat.le_refl _) _⟩
          intro t ht hkt
          rw [List.getElem_set_ne (by omega)]
          exact HI.2.2.2 t (by rw [List.length_set] at ht; exact ht) (by omega)
        case measure => simp [intOf] <;> omega
    · obtain rfl : k = a.length := by omega
      have hkL : a.length < L.length := by omega
      have hcp := hrow.cell a.length hkL
      have hl0 := HI.2.2.2 a.length hkL (Nat.le_refl _)
      rw [hl0] at hcp
      have hfp := hrow.free a.length
      have hpv : pv (L.set a.length c) = pv a + pv b := by
        have h1 := pv_set c hkL
        rw [hl0] at h1
        have h2 := HI.2.2.1
        rw [List.take_length, List.take_of_length_le (show b.length ≤ a.length by omega)] at h2
        omega
      have hrow2 := hrow.set a.length c
      have hlen2 : (L.set a.length c).length = a.length + 1 := by rw [List.length_set]; exact HI.1
      have ht := trim_any w.heap.size w.heap.size (a.length + 1) (L.set a.length c) _ hrow2
      rw [hlen2] at ht
      have HT := Lib.hid ht
      have HPV := Lib.hid hpv
      have HR2 := Lib.hid hrow2
      have HB2 := Lib.hid (hbel.setCell (p := ⟨w.heap.size, a.length, none⟩) (Nat.le_refl _) (.int .u64 (c : Int)))
      clear ht hpv hrow2 hrow hbel hl0 hkL hlen2
      go_wp2_with fail
      refine HT.out.mono ?_
      rintro e w1 ⟨rfl, rfl⟩
      go_wp2_with fail
      go_ret
      refine ⟨w.heap.size, a.length + 1, trimP (L.set a.length c), rfl, ?_, ?_, HB2.out⟩
      · rw [← HPV.out]; exact Pcs.of_trim (lt9_set HI.2.1 (by omega))
      · have := HR2.out.take (trimP (L.set a.length c)).length (trimP_props _).2.2.2.1
        rw [← (trimP_props (L.set a.length c)).2.2.2.2] at this; exact this
theorem add_any (B g cap g' cap' : Nat) (a b : List Nat) (w : World) (ha : Row w B g cap a) (hb : Row w B g' cap' b) (ha9 : lt9 a) (hb9 : lt9 b) (hla : a.length ≤ 200000) (hlb : b.length ≤ 200000) :
    Calls Tryz.prog 175 #[.slice (some ⟨g, 0, none⟩) a.length cap, .slice (some ⟨g', 0, none⟩) b.length cap'] w fun e w' => ∃ (h c : Nat) (q : List Nat), e = .returned (.slice (some ⟨h, 0, none⟩) q.length c) ∧ Pcs q (pv a + pv b) ∧ Row w' w.heap.size h c q ∧ Below w.heap.size w w' := by
  by_cases h : b.length ≤ a.length
  · exact add_ge B g cap g' cap' a b w ha hb ha9 hb9 hla h
  · rw [Nat.add_comm]
    exact add_lt B g' cap' g cap b a w hb ha hb9 ha9 hlb (by omega)
end Go.Proofs.YtdgbplppabalgaaGreatDoor
