/-
  The reference's Dot; the walk of the law RowDots.
-/
import Derived.Test.YtgcddiakdmddjaaDoorWSums
import Derived.Test.YtgcddiakdmddjaaDoorWAdds
namespace Go.Proofs.YtgcddiakdmddjaaDoor
open Go.RowKit

set_option maxHeartbeats 1600000 in
set_option maxRecDepth 100000 in
theorem dotR_any (a a' : Option Addr) (n cap cap' : Nat) (xs ys : List Int) (w : World) (hx : Rd w a n cap xs) (hy : Rd w a' n cap' ys) (ox : okB xs = true) (oy : okB ys = true) :
    Calls Tryd.prog 38 #[.slice a n cap, .slice a' n cap'] w fun e w' => (∃ v : Int, e = .returned (.tuple #[.int .i64 v, .bool (entB (dotI xs ys))]) ∧ (entB (dotI xs ys) = true → v = dotI xs ys)) ∧ Below w.heap.size w w' := by
  have hc := hx.cap
  have hc' := hy.cap
  have hl := hx.len
  have hl' := hy.len
  have h64 : n ≤ 64 := by rw [← hl]; exact okB_len ox
  have hD : dotI xs ys = sumTo (fun j => xs[j]?.getD 0 * ys[j]?.getD 0) n := by rw [← hl]; rfl
  rcases hx.ways with ⟨rfl, rfl⟩ | ⟨b, off, rfl, hb, hcell⟩
  · have HV := Lib.hid (fun wx => valueS_any 0 0 wx (by decide) (by decide) (by decide) (by decide))
    clear hx hy hl hl' ox oy hD
    go_enter Tryd.func38, Tryd.ntmps38
    go_wp2_with fail
    refine wp_loop_rounds 1 ?_
    rw [rounds_succ]
    go_wp2_with fail
    refine (HV.out _).mono ?_
    rintro e w1 ⟨⟨v, rfl, hv⟩, h1⟩
    go_wp2_with fail
    go_ret2
    exact ⟨⟨v, rfl, hv⟩, (below_alloc _).trans (h1.mono (by simp))⟩
  · rcases hy.ways with ⟨rfl, rfl⟩ | ⟨b', off', rfl, hb', hcell'⟩
    · have HV := Lib.hid (fun wx => valueS_any 0 0 wx (by decide) (by decide) (by decide) (by decide))
      have e := List.eq_nil_of_length_eq_zero hl
      subst e
      clear hx hy hl hl' ox oy hD
      go_enter Tryd.func38, Tryd.ntmps38
      go_wp2_with fail
      refine wp_loop_rounds 1 ?_
      rw [rounds_succ]
      go_wp2_with fail
      refine (HV.out _).mono ?_
      rintro e w1 ⟨⟨v, rfl, hv⟩, h1⟩
      go_wp2_with fail
      go_ret2
      exact ⟨⟨v, rfl, hv⟩, (below_alloc _).trans (h1.mono (by simp))⟩
    · have HX := Lib.hid hcell
      have HY := Lib.hid hcell'
      have HL := Lib.hid hl
      have HL' := Lib.hid hl'
      have HOX := Lib.hid ox
      have HOY := Lib.hid oy
      have HD := Lib.hid hD
      clear hx hy hl hl' ox oy hD hcell hcell'
      go_enter Tryd.func38, Tryd.ntmps38
      go_wp2_with fail
      go_loopw [7] (fun iv wr => ∃ i : Nat, iv = .int .i64 i ∧ i ≤ n ∧ Hid (SumC w.heap.size (sumTo (fun j => xs[j]?.getD 0 * ys[j]?.getD 0) i) i wr) ∧ Below w.heap.size w wr) (fun iv _ => n - (intOf iv).toNat)
      case atStart => exact ⟨0, rfl, Nat.zero_le _, Lib.hid (sumC_new w _), below_alloc _⟩
      case round =>
        obtain ⟨i, rfl, hi, HS, hbel⟩ := hrel
        have HBL := Lib.hid hbel
        have hsz2 := hbel.size
        clear hbel
        obtain ⟨U, L, h1, h2, h3, h4, h5⟩ := HS.out
        obtain ⟨k1, k2, k3, k4, k5⟩ := h5.out
        have hlt2 : w.heap.size < wr.heap.size := cell_lt h1
        clear HS
        by_cases hlt : i < n
        · have hil : i < xs.length := by rw [HL.out]; exact hlt
          have hil' : i < ys.length := by rw [HL'.out]; exact hlt
          have hcl : wr.cell? ⟨b, off + i, none⟩ = some (.int .i64 (xs[i]'hil)) := (HBL.out.cell (p := ⟨b, off + i, none⟩) hb).trans (HX.out i hil)
          have hcl' : wr.cell? ⟨b', off' + i, none⟩ = some (.int .i64 (ys[i]'hil')) := (HBL.out.cell (p := ⟨b', off' + i, none⟩) hb').trans (HY.out i hil')
          have hze := okB_at HOX.out i hil
          have hye := okB_at HOY.out i hil'
          have hsu : sumTo (fun j => xs[j]?.getD 0 * ys[j]?.getD 0) (i + 1) = sumTo (fun j => xs[j]?.getD 0 * ys[j]?.getD 0) i + xs[i] * ys[i] := by
            show _ + xs[i]?.getD 0 * ys[i]?.getD 0 = _
            rw [List.getElem?_eq_getElem hil, List.getElem?_eq_getElem hil']; rfl
          obtain ⟨x, hx⟩ : ∃ x, x = xs[i] := ⟨_, rfl⟩
          obtain ⟨y, hy⟩ : ∃ y, y = ys[i] := ⟨_, rfl⟩
          rw [← hx] at hcl hze hsu
          rw [← hy] at hcl' hye hsu
          obtain ⟨p1, p2⟩ := prod_bd hze.1 hze.2 hye.1 hye.2
          obtain ⟨q, r, hs⟩ := spl_of (x * y) p1 p2
          have HP := Lib.hid (fun wx => plusS_any U L x y q r wx hs (by omega) (by omega) (by omega) (by omega))
          have HSU := Lib.hid hsu
          have HSP := Lib.hid hs
          have HK := Lib.hid h5.out
          clear hsu hs p1 p2 hx hy k1 k2 k3 k4 k5 h5
          go_wp2_with fail
          go_still_tail 9, (by kernel_rfl)
          change wpList _ _ _ _ _ wr.drew
          go_wp2_with fail
          refine (HP.out _).mono ?_
          rintro e w3 ⟨rfl, hb3⟩
          have hb3' : Below wr.heap.size wr w3 := (Below.drew (Below.refl _ _)).trans hb3
          have h1' := (hb3'.cell (p := ⟨w.heap.size, 0, none⟩) hlt2).trans h1
          have h2' := (hb3'.cell (p := ⟨w.heap.size, 1, none⟩) hlt2).trans h2
          have h3' := (hb3'.frozen (p := ⟨w.heap.size, 0, none⟩) hlt2).trans h3
          have h4' := (hb3'.frozen (p := ⟨w.heap.size, 1, none⟩) hlt2).trans h4
          have hst := sumC_step HSP.out h1' h2' h3' h4' HK.out
          rw [← HSU.out] at hst
          have HST := Lib.hid hst
          have HB4 := Lib.hid (((HBL.out.trans (hb3'.mono hsz2)).setCell (p := ⟨w.heap.size, 0, none⟩) (Nat.le_refl _) (.int .i64 (U + q))).setCell (p := ⟨w.heap.size, 1, none⟩) (Nat.le_refl _) (.int .i64 (L + r)))
          clear hst hb3 hb3' h1 h2 h3 h4
          go_wp2_with fail
          refine ⟨⟨i + 1, by push_cast; rfl, by omega, HST, HB4.out⟩, ?_⟩
          simp [intOf] <;> omega
        · obtain rfl : i = n := by omega
          have hV := fun wx => valueS_any U L wx (by omega) (by omega) (by omega) (by omega)
          rw [k1, ← HD.out] at hV
          have HV := Lib.hid hV
          clear hV k1 k2 k3 k4 k5 h5
          go_wp2_with fail
          refine (HV.out _).mono ?_
          rintro e w1 ⟨⟨v, rfl, hv⟩, hb1⟩
          have HF := Lib.hid hv
          clear hv
          go_wp2_with fail
          go_ret2
          exact ⟨⟨v, rfl, HF.out⟩, HBL.out.trans (hb1.mono HBL.out.size)⟩
theorem sum_rel (T : Int) (h : 0 ≤ T) : (T ≤ 1000000000 ∧ sumV T = T ∧ sumE T = 0) ∨ (1000000000 < T ∧ sumV T = 0 ∧ sumE T = 4) := by
  by_cases h1 : T ≤ 1000000000
  · have e := entB_iff.2 ⟨(by omega : -1000000000 ≤ T), h1⟩
    exact .inl ⟨h1, sumV_ok e, sumE_ok e⟩
  · have e := entB_no (S := T) (.inr (by omega))
    exact .inr ⟨by omega, sumV_no e, sumE_no e⟩

set_option maxHeartbeats 3200000 in
set_option maxRecDepth 100000 in
theorem dots_long1 (a : Option Addr) (l c : Nat) (z : List Int) (a2 : Option Addr) (l2 c2 : Nat) (z2 : List Int) (w : World) (hs : Std w) (r1 : Rd w a l c z) (r2 : Rd w a2 l2 c2 z2) (h : 80 < l) :
    Calls Tryd.prog 8 #[.slice a l c, .slice a2 l2 c2] w fun e w' => e = .returned (.bool true) ∧ Below w.heap.size w w' := by
  have HS := Lib.hid hs
  have hc := r1.cap
  have hc2 := r2.cap
  have R1 := Lib.hid r1
  have R2 := Lib.hid r2
  clear hs r1 r2
  go_enter Tryd.func8, Tryd.ntmps8
  go_wp2_with fail
  refine (known_any _ HS.out).mono ?_
  rintro e w1 ⟨rfl, h1⟩
  have B1 := Lib.hid h1
  clear h1
  go_wp2_with fail
  refine (known_any _ (HS.out.below B1.out)).mono ?_
  rintro e w2 ⟨rfl, h2⟩
  have B2 := Lib.hid (B1.out.trans (h2.mono B1.out.size))
  clear h2
  go_wp2_with fail
  go_ret
  exact ⟨rfl, B2.out⟩

set_option maxHeartbeats 3200000 in
set_option maxRecDepth 100000 in
theorem dots_long2 (a : Option Addr) (l c : Nat) (z : List Int) (a2 : Option Addr) (l2 c2 : Nat) (z2 : List Int) (w : World) (hs : Std w) (r1 : Rd w a l c z) (r2 : Rd w a2 l2 c2 z2) (hl : l ≤ 80) (h : 80 < l2) :
    Calls Tryd.prog 8 #[.slice a l c, .slice a2 l2 c2] w fun e w' => e = .returned (.bool true) ∧ Below w.heap.size w w' := by
  have HS := Lib.hid hs
  have hc := r1.cap
  have hc2 := r2.cap
  have R1 := Lib.hid r1
  have R2 := Lib.hid r2
  clear hs r1 r2
  go_enter Tryd.func8, Tryd.ntmps8
  go_wp2_with fail
  refine (known_any _ HS.out).mono ?_
  rintro e w1 ⟨rfl, h1⟩
  have B1 := Lib.hid h1
  clear h1
  go_wp2_with fail
  refine (known_any _ (HS.out.below B1.out)).mono ?_
  rintro e w2 ⟨rfl, h2⟩
  have B2 := Lib.hid (B1.out.trans (h2.mono B1.out.size))
  clear h2
  go_wp2_with fail
  go_ret
  exact ⟨rfl, B2.out⟩

set_option maxHeartbeats 3200000 in
set_option maxRecDepth 100000 in
theorem dots_bad (a : Option Addr) (l c : Nat) (z : List Int) (a2 : Option Addr) (l2 c2 : Nat) (z2 : List Int) (w : World) (hs : Std w) (r1 : Rd w a l c z) (r2 : Rd w a2 l2 c2 z2) (hl : l ≤ 80) (hl2 : l2 ≤ 80) (ok : okB z = false) :
    Calls Tryd.prog 8 #[.slice a l c, .slice a2 l2 c2] w fun e w' => e = .returned (.bool true) ∧ Below w.heap.size w w' := by
  have HS := Lib.hid hs
  have hc := r1.cap
  have hc2 := r2.cap
  have hpe := pairE_no (ys := z2) ok
  have HD := Lib.hid (fun wx h1 h2 => dotN_any a a2 l c l2 c2 z z2 wx h1 h2)
  rw [show dotV z z2 = 0 from if_neg (by rw [hpe]; decide), show dotE z z2 = 4 by unfold dotE; rw [if_neg (by rw [hpe]; decide), hpe]] at HD
  have HSU := Lib.hid (fun wx h1 => sumN_bad a l c z wx h1 ok)
  have HMX := Lib.hid (fun wx h1 => maxN_bad a l c z wx h1 ok)
  have HK := Lib.hid (fun wx h1 => checkR_any a l c z wx h1)
  rw [errR_no ok] at HK
  clear hpe ok
  have R1 := Lib.hid r1
  have R2 := Lib.hid r2
  clear hs r1 r2
  go_enter Tryd.func8, Tryd.ntmps8
  go_wp2_with fail
  refine (known_any _ HS.out).mono ?_
  rintro e w1 ⟨rfl, h1⟩
  have A_1 := Lib.hid (R1.out.below h1)
  have Bb_1 := Lib.hid (R2.out.below h1)
  have B1 := Lib.hid h1
  clear h1
  go_wp2_with fail
  refine (HD.out _ A_1.out Bb_1.out).mono ?_
  rintro e w2 ⟨rfl, h2⟩
  have A_2 := Lib.hid (A_1.out.below h2)
  have Bb_2 := Lib.hid (Bb_1.out.below h2)
  have B2 := Lib.hid (B1.out.trans (h2.mono B1.out.size))
  clear h2
  go_wp2_with fail
  refine (HSU.out _ A_2.out).mono ?_
  rintro e w3 ⟨rfl, rfl⟩
  go_wp2_with fail
  refine (HMX.out _ A_2.out).mono ?_
  rintro e w4 ⟨rfl, rfl⟩
  go_wp2_with fail
  refine (HK.out _ A_2.out).mono ?_
  rintro e w5 ⟨rfl, rfl⟩
  go_wp2_with fail
  go_ret
  exact ⟨rfl, B2.out⟩

set_option maxHeartbeats 3200000 in
set_option maxRecDepth 100000 in
theorem dots_two_e (a : Option Addr) (l c : Nat) (z : List Int) (a2 : Option Addr) (l2 c2 : Nat) (z2 : List Int) (w : World) (hs : Std w) (r1 : Rd w a l c z) (r2 : Rd w a2 l2 c2 z2) (hl : l ≤ 80) (hl2 : l2 ≤ 80) (ok : okB z = true) (ok2 : okB z2 = false) (hemp : z = []) :
    Calls Tryd.prog 8 #[.slice a l c, .slice a2 l2 c2] w fun e w' => e = .returned (.bool true) ∧ Below w.heap.size w w' := by
  have HS := Lib.hid hs
  have hc := r1.cap
  have hc2 := r2.cap
  have hpe : pairE z z2 = 4 := by unfold pairE; rw [if_pos ok, if_neg (by simp [ok2])]
  have HD := Lib.hid (fun wx h1 h2 => dotN_any a a2 l c l2 c2 z z2 wx h1 h2)
  rw [show dotV z z2 = 0 from if_neg (by rw [hpe]; decide), show dotE z z2 = 4 by unfold dotE; rw [if_neg (by rw [hpe]; decide), hpe]] at HD
  have HK2 := Lib.hid (fun wx h1 => checkR_any a2 l2 c2 z2 wx h1)
  rw [errR_no ok2] at HK2
  have HSU := Lib.hid (fun wx h1 => sumN_good a l c z wx h1 ok)
  have HMX := Lib.hid (fun wx h1 => maxN_good a l c z wx h1 ok)
  have HK := Lib.hid (fun wx h1 => checkR_any a l c z wx h1)
  rw [errR_ok ok] at HK
  subst hemp
  obtain rfl : l = 0 := r1.len.symm
  rw [show sumV (absTo [] 0) = 0 by decide, show sumE (absTo [] 0) = 0 by decide] at HSU
  rw [show maxTo [] 0 = 0 from rfl] at HMX
  clear ok ok2 hpe
  have R1 := Lib.hid r1
  have R2 := Lib.hid r2
  clear hs r1 r2
  go_enter Tryd.func8, Tryd.ntmps8
  go_wp2_with fail
  refine (known_any _ HS.out).mono ?_
  rintro e w1 ⟨rfl, h1⟩
  have A_1 := Lib.hid (R1.out.below h1)
  have Bb_1 := Lib.hid (R2.out.below h1)
  have B1 := Lib.hid h1
  clear h1
  go_wp2_with fail
  refine (HD.out _ A_1.out Bb_1.out).mono ?_
  rintro e w2 ⟨rfl, h2⟩
  have A_2 := Lib.hid (A_1.out.below h2)
  have Bb_2 := Lib.hid (Bb_1.out.below h2)
  have B2 := Lib.hid (B1.out.trans (h2.mono B1.out.size))
  clear h2
  go_wp2_with fail
  refine (HSU.out _ A_2.out).mono ?_
  rintro e w3 ⟨rfl, h3⟩
  have A_3 := Lib.hid (A_2.out.below h3)
  have Bb_3 := Lib.hid (Bb_2.out.below h3)
  have B3 := Lib.hid (B2.out.trans (h3.mono B2.out.size))
  clear h3
  go_wp2_with fail
  refine (HMX.out _ A_3.out).mono ?_
  rintro e w4 ⟨rfl, rfl⟩
  go_wp2_with fail
  refine (HK.out _ A_3.out).mono ?_
  rintro e w5 ⟨rfl, rfl⟩
  have BX := Lib.hid B3.out
  have RA := A_3
  have RB := Bb_3
  go_wp2_with fail
  refine wp_loop_rounds 1 ?_
  rw [rounds_succ]
  go_wp2_with fail
  refine (HK2.out _ RB.out).mono ?_
  rintro e w21 ⟨rfl, rfl⟩
  go_wp2_with fail
  go_ret
  exact ⟨rfl, BX.out⟩

set_option maxHeartbeats 3200000 in
set_option maxRecDepth 100000 in
theorem dots_two (a : Option Addr) (l c : Nat) (z : List Int) (a2 : Option Addr) (l2 c2 : Nat) (z2 : List Int) (w : World) (hs : Std w) (r1 : Rd w a l c z) (r2 : Rd w a2 l2 c2 z2) (hl : l ≤ 80) (hl2 : l2 ≤ 80) (ok : okB z = true) (ok2 : okB z2 = false) (b off : Nat) (ha : a = some ⟨b, off, none⟩) (hb : b < w.heap.size) (hcell : ∀ i (h : i < z.length), w.cell? ⟨b, off + i, none⟩ = some (.int .i64 (z[i]'h))) :
    Calls Tryd.prog 8 #[.slice a l c, .slice a2 l2 c2] w fun e w' => e = .returned (.bool true) ∧ Below w.heap.size w w' := by
  have HS := Lib.hid hs
  have hc := r1.cap
  have hc2 := r2.cap
  have hpe : pairE z z2 = 4 := by unfold pairE; rw [if_pos ok, if_neg (by simp [ok2])]
  have HD := Lib.hid (fun wx h1 h2 => dotN_any a a2 l c l2 c2 z z2 wx h1 h2)
  rw [show dotV z z2 = 0 from if_neg (by rw [hpe]; decide), show dotE z z2 = 4 by unfold dotE; rw [if_neg (by rw [hpe]; decide), hpe]] at HD
  have HK2 := Lib.hid (fun wx h1 => checkR_any a2 l2 c2 z2 wx h1)
  rw [errR_no ok2] at HK2
  have HSU := Lib.hid (fun wx h1 => sumN_good a l c z wx h1 ok)
  have HMX := Lib.hid (fun wx h1 => maxN_good a l c z wx h1 ok)
  have HK := Lib.hid (fun wx h1 => checkR_any a l c z wx h1)
  rw [errR_ok ok] at HK
  have HL := Lib.hid r1.len
  have HOK := Lib.hid ok
  have HCL := Lib.hid (fun (wx : World) (hw : Below w.heap.size w wx) i (h : i < z.length) => (hw.cell (p := ⟨b, off + i, none⟩) hb).trans (hcell i h))
  obtain ⟨T, hT⟩ : ∃ T, T = absTo z l := ⟨_, rfl⟩
  obtain ⟨M, hM⟩ : ∃ M, M = maxTo z l := ⟨_, rfl⟩
  have hsr := sum_rel T (by rw [hT]; exact (absTo_bd ok l (by rw [r1.len]; omega)).1)
  rw [← hT] at HSU
  rw [← hM] at HMX
  have HT := Lib.hid hT
  have HMM := Lib.hid hM
  obtain ⟨SV, hSV⟩ : ∃ SV, SV = sumV T := ⟨_, rfl⟩
  obtain ⟨SE, hSE⟩ : ∃ SE, SE = sumE T := ⟨_, rfl⟩
  rw [← hSV, ← hSE] at HSU hsr
  have HSR := Lib.hid hsr
  subst ha
  clear hT hM hsr hSV hSE hcell
  clear ok ok2 hpe
  have R1 := Lib.hid r1
  have R2 := Lib.hid r2
  clear hs r1 r2
  go_enter Tryd.func8, Tryd.ntmps8
  go_wp2_with fail
  refine (known_any _ HS.out).mono ?_
  rintro e w1 ⟨rfl, h1⟩
  have A_1 := Lib.hid (R1.out.below h1)
  have Bb_1 := Lib.hid (R2.out.below h1)
  have B1 := Lib.hid h1
  clear h1
  go_wp2_with fail
  refine (HD.out _ A_1.out Bb_1.out).mono ?_
  rintro e w2 ⟨rfl, h2⟩
  have A_2 := Lib.hid (A_1.out.below h2)
  have Bb_2 := Lib.hid (Bb_1.out.below h2)
  have B2 := Lib.hid (B1.out.trans (h2.mono B1.out.size))
  clear h2
  go_wp2_with fail
  refine (HSU.out _ A_2.out).mono ?_
  rintro e w3 ⟨rfl, h3⟩
  have A_3 := Lib.hid (A_2.out.below h3)
  have Bb_3 := Lib.hid (Bb_2.out.below h3)
  have B3 := Lib.hid (B2.out.trans (h3.mono B2.out.size))
  clear h3
  go_wp2_with fail
  refine (HMX.out _ A_3.out).mono ?_
  rintro e w4 ⟨rfl, rfl⟩
  go_wp2_with fail
  refine (HK.out _ A_3.out).mono ?_
  rintro e w5 ⟨rfl, rfl⟩
  have BX := Lib.hid B3.out
  have RA := A_3
  have RB := Bb_3
  go_wp2_with fail
  go_loop [12, 13, 14] (fun tv mv iv => ∃ (i : Nat) (tt mm : Int), iv = .int .i64 i ∧ i ≤ l ∧ tv = .int .i64 tt ∧ mv = .int .i64 mm ∧ 0 ≤ tt ∧ tt ≤ 1000000000 * (i : Int) ∧ Hid (tt = absTo z i ∧ mm = maxTo z i)) (fun _ _ iv => l - (intOf iv).toNat)
  case atStart => exact ⟨0, 0, 0, rfl, Nat.zero_le _, rfl, rfl, by omega, by omega, Lib.hid ⟨rfl, rfl⟩⟩
  case round =>
    obtain ⟨i, tt, mm, rfl, hi, rfl, rfl, ht0, ht1, HTM⟩ := hrel
    by_cases hlt : i < l
    · have hil : i < z.length := by rw [HL.out]; exact hlt
      have hcl := HCL.out _ BX.out i hil
      have hze := okB_at HOK.out i hil
      have hab := absTo_succ z hil
      have hmx := maxTo_succ z hil
      rw [← HTM.out.1] at hab
      rw [← HTM.out.2] at hmx
      obtain ⟨y, hy⟩ : ∃ y, y = z[i] := ⟨_, rfl⟩
      rw [← hy] at hcl hze hab hmx
      have ha0 := absI_nn y
      have ha1 := absI_le hze.1 hze.2
      have HM := Lib.hid (fun wx => absR_any y wx (by omega) (by omega))
      obtain ⟨A, hA⟩ : ∃ A, A = absI y := ⟨_, rfl⟩
      rw [← hA] at HM ha0 ha1 hab hmx
      have hw := in64 (x := tt + A) (by omega) (by omega)
      have HAB := Lib.hid hab
      clear hy hA hab
      by_cases hga : mm ≤ A
      · have HN := Lib.hid (show A = maxTo z (i + 1) by rw [hmx]; omega)
        clear hmx
        go_wp2_with fail
        refine (HM.out _).mono ?_
        rintro e w30 ⟨rfl, rfl⟩
        go_wp2_with fail
        refine (HM.out _).mono ?_
        rintro e w30 ⟨rfl, rfl⟩
        go_wp2_with fail
        go_round
        case rel => exact ⟨i + 1, tt + A, A, by go_num, by omega, rfl, by first | rfl | (congr 1; omega), by omega, by push_cast; omega, Lib.hid ⟨HAB.out.symm, HN.out⟩⟩
        case measure => simp [intOf]; omega
      · have hga' : A < mm := by omega
        have HN := Lib.hid (show mm = maxTo z (i + 1) by rw [hmx]; omega)
        clear hmx hga
        go_wp2_with fail
        refine (HM.out _).mono ?_
        rintro e w30 ⟨rfl, rfl⟩
        go_wp2_with fail
        refine (HM.out _).mono ?_
        rintro e w30 ⟨rfl, rfl⟩
        go_wp2_with fail
        go_round
        case rel => exact ⟨i + 1, tt + A, mm, by go_num, by omega, rfl, by first | rfl | (congr 1; omega), by omega, by push_cast; omega, Lib.hid ⟨HAB.out.symm, HN.out⟩⟩
        case measure => simp [intOf]; omega
    · obtain rfl : i = l := by omega
      obtain ⟨e1, e2⟩ := HTM.out
      obtain rfl : tt = T := e1.trans HT.out.symm
      obtain rfl : mm = M := e2.trans HMM.out.symm
      clear e1 e2
      have HSR2 := HSR.out
      rcases HSR2 with ⟨hT, hSV, hSE⟩ | ⟨hT, hSV, hSE⟩
      · subst hSV
        subst hSE
        go_wp2_with fail
        refine (HK2.out _ RB.out).mono ?_
        rintro e w21 ⟨rfl, rfl⟩
        go_wp2_with fail
        go_ret
        exact ⟨rfl, BX.out⟩
      · subst hSV
        subst hSE
        go_wp2_with fail
        refine (HK2.out _ RB.out).mono ?_
        rintro e w21 ⟨rfl, rfl⟩
        go_wp2_with fail
        go_ret
        exact ⟨rfl, BX.out⟩

set_option maxHeartbeats 3200000 in
set_option maxRecDepth 100000 in
theorem dots_size_e (a : Option Addr) (l c : Nat) (z : List Int) (a2 : Option Addr) (l2 c2 : Nat) (z2 : List Int) (w : World) (hs : Std w) (r1 : Rd w a l c z) (r2 : Rd w a2 l2 c2 z2) (hl : l ≤ 80) (hl2 : l2 ≤ 80) (ok : okB z = true) (ok2 : okB z2 = true) (hne : l ≠ l2) (hemp : z = []) :
    Calls Tryd.prog 8 #[.slice a l c, .slice a2 l2 c2] w fun e w' => e = .returned (.bool true) ∧ Below w.heap.size w w' := by
  have HS := Lib.hid hs
  have hc := r1.cap
  have hc2 := r2.cap
  have hpe : pairE z z2 = 5 := by unfold pairE; rw [if_pos ok, if_pos ok2, if_neg (by rw [r1.len, r2.len]; exact hne)]
  have hnb : ((l : Int) != (l2 : Int)) = true := by simp; omega
  have HD := Lib.hid (fun wx h1 h2 => dotN_any a a2 l c l2 c2 z z2 wx h1 h2)
  rw [show dotV z z2 = 0 from if_neg (by rw [hpe]; decide), show dotE z z2 = 5 by unfold dotE; rw [if_neg (by rw [hpe]; decide), hpe]] at HD
  have HK2 := Lib.hid (fun wx h1 => checkR_any a2 l2 c2 z2 wx h1)
  rw [errR_ok ok2] at HK2
  have HSU := Lib.hid (fun wx h1 => sumN_good a l c z wx h1 ok)
  have HMX := Lib.hid (fun wx h1 => maxN_good a l c z wx h1 ok)
  have HK := Lib.hid (fun wx h1 => checkR_any a l c z wx h1)
  rw [errR_ok ok] at HK
  subst hemp
  obtain rfl : l = 0 := r1.len.symm
  rw [show sumV (absTo [] 0) = 0 by decide, show sumE (absTo [] 0) = 0 by decide] at HSU
  rw [show maxTo [] 0 = 0 from rfl] at HMX
  clear ok ok2 hne hpe
  have R1 := Lib.hid r1
  have R2 := Lib.hid r2
  clear hs r1 r2
  go_enter Tryd.func8, Tryd.ntmps8
  go_wp2_with fail
  refine (known_any _ HS.out).mono ?_
  rintro e w1 ⟨rfl, h1⟩
  have A_1 := Lib.hid (R1.out.below h1)
  have Bb_1 := Lib.hid (R2.out.below h1)
  have B1 := Lib.hid h1
  clear h1
  go_wp2_with fail
  refine (HD.out _ A_1.out Bb_1.out).mono ?_
  rintro e w2 ⟨rfl, h2⟩
  have A_2 := Lib.hid (A_1.out.below h2)
  have Bb_2 := Lib.hid (Bb_1.out.below h2)
  have B2 := Lib.hid (B1.out.trans (h2.mono B1.out.size))
  clear h2
  go_wp2_with fail
  refine (HSU.out _ A_2.out).mono ?_
  rintro e w3 ⟨rfl, h3⟩
  have A_3 := Lib.hid (A_2.out.below h3)
  have Bb_3 := Lib.hid (Bb_2.out.below h3)
  have B3 := Lib.hid (B2.out.trans (h3.mono B2.out.size))
  clear h3
  go_wp2_with fail
  refine (HMX.out _ A_3.out).mono ?_
  rintro e w4 ⟨rfl, rfl⟩
  go_wp2_with fail
  refine (HK.out _ A_3.out).mono ?_
  rintro e w5 ⟨rfl, rfl⟩
  have BX := Lib.hid B3.out
  have RA := A_3
  have RB := Bb_3
  go_wp2_with fail
  refine wp_loop_rounds 1 ?_
  rw [rounds_succ]
  go_wp2_with fail
  refine (HK2.out _ RB.out).mono ?_
  rintro e w21 ⟨rfl, rfl⟩
  go_wp2_with fail
  go_ret
  exact ⟨rfl, BX.out⟩

set_option maxHeartbeats 3200000 in
set_option maxRecDepth 100000 in
theorem dots_size (a : Option Addr) (l c : Nat) (z : List Int) (a2 : Option Addr) (l2 c2 : Nat) (z2 : List Int) (w : World) (hs : Std w) (r1 : Rd w a l c z) (r2 : Rd w a2 l2 c2 z2) (hl : l ≤ 80) (hl2 : l2 ≤ 80) (ok : okB z = true) (ok2 : okB z2 = true) (hne : l ≠ l2) (b off : Nat) (ha : a = some ⟨b, off, none⟩) (hb : b < w.heap.size) (hcell : ∀ i (h : i < z.length), w.cell? ⟨b, off + i, none⟩ = some (.int .i64 (z[i]'h))) :
    Calls Tryd.prog 8 #[.slice a l c, .slice a2 l2 c2] w fun e w' => e = .returned (.bool true) ∧ Below w.heap.size w w' := by
  have HS := Lib.hid hs
  have hc := r1.cap
  have hc2 := r2.cap
  have hpe : pairE z z2 = 5 := by unfold pairE; rw [if_pos ok, if_pos ok2, if_neg (by rw [r1.len, r2.len]; exact hne)]
  have hnb : ((l : Int) != (l2 : Int)) = true := by simp; omega
  have HD := Lib.hid (fun wx h1 h2 => dotN_any a a2 l c l2 c2 z z2 wx h1 h2)
  rw [show dotV z z2 = 0 from if_neg (by rw [hpe]; decide), show dotE z z2 = 5 by unfold dotE; rw [if_neg (by rw [hpe]; decide), hpe]] at HD
  have HK2 := Lib.hid (fun wx h1 => checkR_any a2 l2 c2 z2 wx h1)
  rw [errR_ok ok2] at HK2
  have HSU := Lib.hid (fun wx h1 => sumN_good a l c z wx h1 ok)
  have HMX := Lib.hid (fun wx h1 => maxN_good a l c z wx h1 ok)
  have HK := Lib.hid (fun wx h1 => checkR_any a l c z wx h1)
  rw [errR_ok ok] at HK
  have HL := Lib.hid r1.len
  have HOK := Lib.hid ok
  have HCL := Lib.hid (fun (wx : World) (hw : Below w.heap.size w wx) i (h : i < z.length) => (hw.cell (p := ⟨b, off + i, none⟩) hb).trans (hcell i h))
  obtain ⟨T, hT⟩ : ∃ T, T = absTo z l := ⟨_, rfl⟩
  obtain ⟨M, hM⟩ : ∃ M, M = maxTo z l := ⟨_, rfl⟩
  have hsr := sum_rel T (by rw [hT]; exact (absTo_bd ok l (by rw [r1.len]; omega)).1)
  rw [← hT] at HSU
  rw [← hM] at HMX
  have HT := Lib.hid hT
  have HMM := Lib.hid hM
  obtain ⟨SV, hSV⟩ : ∃ SV, SV = sumV T := ⟨_, rfl⟩
  obtain ⟨SE, hSE⟩ : ∃ SE, SE = sumE T := ⟨_, rfl⟩
  rw [← hSV, ← hSE] at HSU hsr
  have HSR := Lib.hid hsr
  subst ha
  clear hT hM hsr hSV hSE hcell
  clear ok ok2 hne hpe
  have R1 := Lib.hid r1
  have R2 := Lib.hid r2
  clear hs r1 r2
  go_enter Tryd.func8, Tryd.ntmps8
  go_wp2_with fail
  refine (known_any _ HS.out).mono ?_
  rintro e w1 ⟨rfl, h1⟩
  have A_1 := Lib.hid (R1.out.below h1)
  have Bb_1 := Lib.hid (R2.out.below h1)
  have B1 := Lib.hid h1
  clear h1
  go_wp2_with fail
  refine (HD.out _ A_1.out Bb_1.out).mono ?_
  rintro e w2 ⟨rfl, h2⟩
  have A_2 := Lib.hid (A_1.out.below h2)
  have Bb_2 := Lib.hid (Bb_1.out.below h2)
  have B2 := Lib.hid (B1.out.trans (h2.mono B1.out.size))
  clear h2
  go_wp2_with fail
  refine (HSU.out _ A_2.out).mono ?_
  rintro e w3 ⟨rfl, h3⟩
  have A_3 := Lib.hid (A_2.out.below h3)
  have Bb_3 := Lib.hid (Bb_2.out.below h3)
  have B3 := Lib.hid (B2.out.trans (h3.mono B2.out.size))
  clear h3
  go_wp2_with fail
  refine (HMX.out _ A_3.out).mono ?_
  rintro e w4 ⟨rfl, rfl⟩
  go_wp2_with fail
  refine (HK.out _ A_3.out).mono ?_
  rintro e w5 ⟨rfl, rfl⟩
  have BX := Lib.hid B3.out
  have RA := A_3
  have RB := Bb_3
  go_wp2_with fail
  go_loop [12, 13, 14] (fun tv mv iv => ∃ (i : Nat) (tt mm : Int), iv = .int .i64 i ∧ i ≤ l ∧ tv = .int .i64 tt ∧ mv = .int .i64 mm ∧ 0 ≤ tt ∧ tt ≤ 1000000000 * (i : Int) ∧ Hid (tt = absTo z i ∧ mm = maxTo z i)) (fun _ _ iv => l - (intOf iv).toNat)
  case atStart => exact ⟨0, 0, 0, rfl, Nat.zero_le _, rfl, rfl, by omega, by omega, Lib.hid ⟨rfl, rfl⟩⟩
  case round =>
    obtain ⟨i, tt, mm, rfl, hi, rfl, rfl, ht0, ht1, HTM⟩ := hrel
    by_cases hlt : i < l
    · have hil : i < z.length := by rw [HL.out]; exact hlt
      have hcl := HCL.out _ BX.out i hil
      have hze := okB_at HOK.out i hil
      have hab := absTo_succ z hil
      have hmx := maxTo_succ z hil
      rw [← HTM.out.1] at hab
      rw [← HTM.out.2] at hmx
      obtain ⟨y, hy⟩ : ∃ y, y = z[i] := ⟨_, rfl⟩
      rw [← hy] at hcl hze hab hmx
      have ha0 := absI_nn y
      have ha1 := absI_le hze.1 hze.2
      have HM := Lib.hid (fun wx => absR_any y wx (by omega) (by omega))
      obtain ⟨A, hA⟩ : ∃ A, A = absI y := ⟨_, rfl⟩
      rw [← hA] at HM ha0 ha1 hab hmx
      have hw := in64 (x := tt + A) (by omega) (by omega)
      have HAB := Lib.hid hab
      clear hy hA hab
      by_cases hga : mm ≤ A
      · have HN := Lib.hid (show A = maxTo z (i + 1) by rw [hmx]; omega)
        clear hmx
        go_wp2_with fail
        refine (HM.out _).mono ?_
        rintro e w30 ⟨rfl, rfl⟩
        go_wp2_with fail
        refine (HM.out _).mono ?_
        rintro e w30 ⟨rfl, rfl⟩
        go_wp2_with fail
        go_round
        case rel => exact ⟨i + 1, tt + A, A, by go_num, by omega, rfl, by first | rfl | (congr 1; omega), by omega, by push_cast; omega, Lib.hid ⟨HAB.out.symm, HN.out⟩⟩
        case measure => simp [intOf]; omega
      · have hga' : A < mm := by omega
        have HN := Lib.hid (show mm = maxTo z (i + 1) by rw [hmx]; omega)
        clear hmx hga
        go_wp2_with fail
        refine (HM.out _).mono ?_
        rintro e w30 ⟨rfl, rfl⟩
        go_wp2_with fail
        refine (HM.out _).mono ?_
        rintro e w30 ⟨rfl, rfl⟩
        go_wp2_with fail
        go_round
        case rel => exact ⟨i + 1, tt + A, mm, by go_num, by omega, rfl, by first | rfl | (congr 1; omega), by omega, by push_cast; omega, Lib.hid ⟨HAB.out.symm, HN.out⟩⟩
        case measure => simp [intOf]; omega
    · obtain rfl : i = l := by omega
      obtain ⟨e1, e2⟩ := HTM.out
      obtain rfl : tt = T := e1.trans HT.out.symm
      obtain rfl : mm = M := e2.trans HMM.out.symm
      clear e1 e2
      have HSR2 := HSR.out
      rcases HSR2 with ⟨hT, hSV, hSE⟩ | ⟨hT, hSV, hSE⟩
      · subst hSV
        subst hSE
        go_wp2_with fail
        refine (HK2.out _ RB.out).mono ?_
        rintro e w21 ⟨rfl, rfl⟩
        go_wp2_with fail
        go_ret
        exact ⟨rfl, BX.out⟩
      · subst hSV
        subst hSE
        go_wp2_with fail
        refine (HK2.out _ RB.out).mono ?_
        rintro e w21 ⟨rfl, rfl⟩
        go_wp2_with fail
        go_ret
        exact ⟨rfl, BX.out⟩

set_option maxHeartbeats 3200000 in
set_option maxRecDepth 100000 in
theorem dots_good_true_e (a : Option Addr) (l c : Nat) (z : List Int) (a2 : Option Addr) (l2 c2 : Nat) (z2 : List Int) (w : World) (hs : Std w) (r1 : Rd w a l c z) (r2 : Rd w a2 l2 c2 z2) (hl : l ≤ 80) (ok : okB z = true) (ok2 : okB z2 = true) (heq : l = l2) (he : entB (dotI z z2) = true) (hemp : z = []) :
    Calls Tryd.prog 8 #[.slice a l c, .slice a2 l2 c2] w fun e w' => e = .returned (.bool true) ∧ Below w.heap.size w w' := by
  have HS := Lib.hid hs
  have hc := r1.cap
  have hc2 := r2.cap
  subst heq
  have hpe : pairE z z2 = 0 := by unfold pairE; rw [if_pos ok, if_pos ok2, if_pos (by rw [r1.len, r2.len])]
  have HD := Lib.hid (fun wx h1 h2 => dotN_any a a2 l c l c2 z z2 wx h1 h2)
  rw [show dotV z z2 = sumV (dotI z z2) from if_pos hpe, show dotE z z2 = sumE (dotI z z2) from if_pos hpe, sumV_ok he, sumE_ok he] at HD
  have HK2 := Lib.hid (fun wx h1 => checkR_any a2 l c2 z2 wx h1)
  rw [errR_ok ok2] at HK2
  have HDR := Lib.hid (fun wx h1 h2 => dotR_any a a2 l c c2 z z2 wx h1 h2 ok ok2)
  obtain ⟨DI, hDI⟩ : ∃ DI, DI = dotI z z2 := ⟨_, rfl⟩
  rw [he] at HDR
  rw [← hDI] at HDR
  try rw [← hDI] at HD
  clear hDI
  have HSU := Lib.hid (fun wx h1 => sumN_good a l c z wx h1 ok)
  have HMX := Lib.hid (fun wx h1 => maxN_good a l c z wx h1 ok)
  have HK := Lib.hid (fun wx h1 => checkR_any a l c z wx h1)
  rw [errR_ok ok] at HK
  subst hemp
  obtain rfl : l = 0 := r1.len.symm
  rw [show sumV (absTo [] 0) = 0 by decide, show sumE (absTo [] 0) = 0 by decide] at HSU
  rw [show maxTo [] 0 = 0 from rfl] at HMX
  clear ok ok2 he hpe
  have R1 := Lib.hid r1
  have R2 := Lib.hid r2
  clear hs r1 r2
  go_enter Tryd.func8, Tryd.ntmps8
  go_wp2_with fail
  refine (known_any _ HS.out).mono ?_
  rintro e w1 ⟨rfl, h1⟩
  have A_1 := Lib.hid (R1.out.below h1)
  have Bb_1 := Lib.hid (R2.out.below h1)
  have B1 := Lib.hid h1
  clear h1
  go_wp2_with fail
  refine (HD.out _ A_1.out Bb_1.out).mono ?_
  rintro e w2 ⟨rfl, h2⟩
  have A_2 := Lib.hid (A_1.out.below h2)
  have Bb_2 := Lib.hid (Bb_1.out.below h2)
  have B2 := Lib.hid (B1.out.trans (h2.mono B1.out.size))
  clear h2
  go_wp2_with fail
  refine (HSU.out _ A_2.out).mono ?_
  rintro e w3 ⟨rfl, h3⟩
  have A_3 := Lib.hid (A_2.out.below h3)
  have Bb_3 := Lib.hid (Bb_2.out.below h3)
  have B3 := Lib.hid (B2.out.trans (h3.mono B2.out.size))
  clear h3
  go_wp2_with fail
  refine (HMX.out _ A_3.out).mono ?_
  rintro e w4 ⟨rfl, rfl⟩
  go_wp2_with fail
  refine (HK.out _ A_3.out).mono ?_
  rintro e w5 ⟨rfl, rfl⟩
  have BX := Lib.hid B3.out
  have RA := A_3
  have RB := Bb_3
  go_wp2_with fail
  refine wp_loop_rounds 1 ?_
  rw [rounds_succ]
  go_wp2_with fail
  refine (HK2.out _ RB.out).mono ?_
  rintro e w21 ⟨rfl, rfl⟩
  go_wp2_with fail
  refine (HDR.out _ RA.out RB.out).mono ?_
  rintro e w21 ⟨⟨v, rfl, hv⟩, h21⟩
  obtain rfl := hv trivial
  have B21 := Lib.hid (BX.out.trans (h21.mono BX.out.size))
  clear h21
  go_wp2_with fail
  go_ret
  exact ⟨rfl, B21.out⟩

set_option maxHeartbeats 3200000 in
set_option maxRecDepth 100000 in
theorem dots_good_true (a : Option Addr) (l c : Nat) (z : List Int) (a2 : Option Addr) (l2 c2 : Nat) (z2 : List Int) (w : World) (hs : Std w) (r1 : Rd w a l c z) (r2 : Rd w a2 l2 c2 z2) (hl : l ≤ 80) (ok : okB z = true) (ok2 : okB z2 = true) (heq : l = l2) (he : entB (dotI z z2) = true) (b off : Nat) (ha : a = some ⟨b, off, none⟩) (hb : b < w.heap.size) (hcell : ∀ i (h : i < z.length), w.cell? ⟨b, off + i, none⟩ = some (.int .i64 (z[i]'h))) :
    Calls Tryd.prog 8 #[.slice a l c, .slice a2 l2 c2] w fun e w' => e = .returned (.bool true) ∧ Below w.heap.size w w' := by
  have HS := Lib.hid hs
  have hc := r1.cap
  have hc2 := r2.cap
  subst heq
  have hpe : pairE z z2 = 0 := by unfold pairE; rw [if_pos ok, if_pos ok2, if_pos (by rw [r1.len, r2.len])]
  have HD := Lib.hid (fun wx h1 h2 => dotN_any a a2 l c l c2 z z2 wx h1 h2)
  rw [show dotV z z2 = sumV (dotI z z2) from if_pos hpe, show dotE z z2 = sumE (dotI z z2) from if_pos hpe, sumV_ok he, sumE_ok he] at HD
  have HK2 := Lib.hid (fun wx h1 => checkR_any a2 l c2 z2 wx h1)
  rw [errR_ok ok2] at HK2
  have HDR := Lib.hid (fun wx h1 h2 => dotR_any a a2 l c c2 z z2 wx h1 h2 ok ok2)
  obtain ⟨DI, hDI⟩ : ∃ DI, DI = dotI z z2 := ⟨_, rfl⟩
  rw [he] at HDR
  rw [← hDI] at HDR
  try rw [← hDI] at HD
  clear hDI
  have HSU := Lib.hid (fun wx h1 => sumN_good a l c z wx h1 ok)
  have HMX := Lib.hid (fun wx h1 => maxN_good a l c z wx h1 ok)
  have HK := Lib.hid (fun wx h1 => checkR_any a l c z wx h1)
  rw [errR_ok ok] at HK
  have HL := Lib.hid r1.len
  have HOK := Lib.hid ok
  have HCL := Lib.hid (fun (wx : World) (hw : Below w.heap.size w wx) i (h : i < z.length) => (hw.cell (p := ⟨b, off + i, none⟩) hb).trans (hcell i h))
  obtain ⟨T, hT⟩ : ∃ T, T = absTo z l := ⟨_, rfl⟩
  obtain ⟨M, hM⟩ : ∃ M, M = maxTo z l := ⟨_, rfl⟩
  have hsr := sum_rel T (by rw [hT]; exact (absTo_bd ok l (by rw [r1.len]; omega)).1)
  rw [← hT] at HSU
  rw [← hM] at HMX
  have HT := Lib.hid hT
  have HMM := Lib.hid hM
  obtain ⟨SV, hSV⟩ : ∃ SV, SV = sumV T := ⟨_, rfl⟩
  obtain ⟨SE, hSE⟩ : ∃ SE, SE = sumE T := ⟨_, rfl⟩
  rw [← hSV, ← hSE] at HSU hsr
  have HSR := Lib.hid hsr
  subst ha
  clear hT hM hsr hSV hSE hcell
  clear ok ok2 he hpe
  have R1 := Lib.hid r1
  have R2 := Lib.hid r2
  clear hs r1 r2
  go_enter Tryd.func8, Tryd.ntmps8
  go_wp2_with fail
  refine (known_any _ HS.out).mono ?_
  rintro e w1 ⟨rfl, h1⟩
  have A_1 := Lib.hid (R1.out.below h1)
  have Bb_1 := Lib.hid (R2.out.below h1)
  have B1 := Lib.hid h1
  clear h1
  go_wp2_with fail
  refine (HD.out _ A_1.out Bb_1.out).mono ?_
  rintro e w2 ⟨rfl, h2⟩
  have A_2 := Lib.hid (A_1.out.below h2)
  have Bb_2 := Lib.hid (Bb_1.out.below h2)
  have B2 := Lib.hid (B1.out.trans (h2.mono B1.out.size))
  clear h2
  go_wp2_with fail
  refine (HSU.out _ A_2.out).mono ?_
  rintro e w3 ⟨rfl, h3⟩
  have A_3 := Lib.hid (A_2.out.below h3)
  have Bb_3 := Lib.hid (Bb_2.out.below h3)
  have B3 := Lib.hid (B2.out.trans (h3.mono B2.out.size))
  clear h3
  go_wp2_with fail
  refine (HMX.out _ A_3.out).mono ?_
  rintro e w4 ⟨rfl, rfl⟩
  go_wp2_with fail
  refine (HK.out _ A_3.out).mono ?_
  rintro e w5 ⟨rfl, rfl⟩
  have BX := Lib.hid B3.out
  have RA := A_3
  have RB := Bb_3
  go_wp2_with fail
  go_loop [12, 13, 14] (fun tv mv iv => ∃ (i : Nat) (tt mm : Int), iv = .int .i64 i ∧ i ≤ l ∧ tv = .int .i64 tt ∧ mv = .int .i64 mm ∧ 0 ≤ tt ∧ tt ≤ 1000000000 * (i : Int) ∧ Hid (tt = absTo z i ∧ mm = maxTo z i)) (fun _ _ iv => l - (intOf iv).toNat)
  case atStart => exact ⟨0, 0, 0, rfl, Nat.zero_le _, rfl, rfl, by omega, by omega, Lib.hid ⟨rfl, rfl⟩⟩
  case round =>
    obtain ⟨i, tt, mm, rfl, hi, rfl, rfl, ht0, ht1, HTM⟩ := hrel
    by_cases hlt : i < l
    · have hil : i < z.length := by rw [HL.out]; exact hlt
      have hcl := HCL.out _ BX.out i hil
      have hze := okB_at HOK.out i hil
      have hab := absTo_succ z hil
      have hmx := maxTo_succ z hil
      rw [← HTM.out.1] at hab
      rw [← HTM.out.2] at hmx
      obtain ⟨y, hy⟩ : ∃ y, y = z[i] := ⟨_, rfl⟩
      rw [← hy] at hcl hze hab hmx
      have ha0 := absI_nn y
      have ha1 := absI_le hze.1 hze.2
      have HM := Lib.hid (fun wx => absR_any y wx (by omega) (by omega))
      obtain ⟨A, hA⟩ : ∃ A, A = absI y := ⟨_, rfl⟩
      rw [← hA] at HM ha0 ha1 hab hmx
      have hw := in64 (x := tt + A) (by omega) (by omega)
      have HAB := Lib.hid hab
      clear hy hA hab
      by_cases hga : mm ≤ A
      · have HN := Lib.hid (show A = maxTo z (i + 1) by rw [hmx]; omega)
        clear hmx
        go_wp2_with fail
        refine (HM.out _).mono ?_
        rintro e w30 ⟨rfl, rfl⟩
        go_wp2_with fail
        refine (HM.out _).mono ?_
        rintro e w30 ⟨rfl, rfl⟩
        go_wp2_with fail
        go_round
        case rel => exact ⟨i + 1, tt + A, A, by go_num, by omega, rfl, by first | rfl | (congr 1; omega), by omega, by push_cast; omega, Lib.hid ⟨HAB.out.symm, HN.out⟩⟩
        case measure => simp [intOf]; omega
      · have hga' : A < mm := by omega
        have HN := Lib.hid (show mm = maxTo z (i + 1) by rw [hmx]; omega)
        clear hmx hga
        go_wp2_with fail
        refine (HM.out _).mono ?_
        rintro e w30 ⟨rfl, rfl⟩
        go_wp2_with fail
        refine (HM.out _).mono ?_
        rintro e w30 ⟨rfl, rfl⟩
        go_wp2_with fail
        go_round
        case rel => exact ⟨i + 1, tt + A, mm, by go_num, by omega, rfl, by first | rfl | (congr 1; omega), by omega, by push_cast; omega, Lib.hid ⟨HAB.out.symm, HN.out⟩⟩
        case measure => simp [intOf]; omega
    · obtain rfl : i = l := by omega
      obtain ⟨e1, e2⟩ := HTM.out
      obtain rfl : tt = T := e1.trans HT.out.symm
      obtain rfl : mm = M := e2.trans HMM.out.symm
      clear e1 e2
      have HSR2 := HSR.out
      rcases HSR2 with ⟨hT, hSV, hSE⟩ | ⟨hT, hSV, hSE⟩
      · subst hSV
        subst hSE
        go_wp2_with fail
        refine (HK2.out _ RB.out).mono ?_
        rintro e w21 ⟨rfl, rfl⟩
        go_wp2_with fail
        refine (HDR.out _ RA.out RB.out).mono ?_
        rintro e w21 ⟨⟨v, rfl, hv⟩, h21⟩
        obtain rfl := hv trivial
        have B21 := Lib.hid (BX.out.trans (h21.mono BX.out.size))
        clear h21
        go_wp2_with fail
        go_ret
        exact ⟨rfl, B21.out⟩
      · subst hSV
        subst hSE
        go_wp2_with fail
        refine (HK2.out _ RB.out).mono ?_
        rintro e w21 ⟨rfl, rfl⟩
        go_wp2_with fail
        refine (HDR.out _ RA.out RB.out).mono ?_
        rintro e w21 ⟨⟨v, rfl, hv⟩, h21⟩
        obtain rfl := hv trivial
        have B21 := Lib.hid (BX.out.trans (h21.mono BX.out.size))
        clear h21
        go_wp2_with fail
        go_ret
        exact ⟨rfl, B21.out⟩

set_option maxHeartbeats 3200000 in
set_option maxRecDepth 100000 in
theorem dots_good_false_e (a : Option Addr) (l c : Nat) (z : List Int) (a2 : Option Addr) (l2 c2 : Nat) (z2 : List Int) (w : World) (hs : Std w) (r1 : Rd w a l c z) (r2 : Rd w a2 l2 c2 z2) (hl : l ≤ 80) (ok : okB z = true) (ok2 : okB z2 = true) (heq : l = l2) (he : entB (dotI z z2) = false) (hemp : z = []) :
    Calls Tryd.prog 8 #[.slice a l c, .slice a2 l2 c2] w fun e w' => e = .returned (.bool true) ∧ Below w.heap.size w w' := by
  have HS := Lib.hid hs
  have hc := r1.cap
  have hc2 := r2.cap
  subst heq
  have hpe : pairE z z2 = 0 := by unfold pairE; rw [if_pos ok, if_pos ok2, if_pos (by rw [r1.len, r2.len])]
  have HD := Lib.hid (fun wx h1 h2 => dotN_any a a2 l c l c2 z z2 wx h1 h2)
  rw [show dotV z z2 = sumV (dotI z z2) from if_pos hpe, show dotE z z2 = sumE (dotI z z2) from if_pos hpe, sumV_no he, sumE_no he] at HD
  have HK2 := Lib.hid (fun wx h1 => checkR_any a2 l c2 z2 wx h1)
  rw [errR_ok ok2] at HK2
  have HDR := Lib.hid (fun wx h1 h2 => dotR_any a a2 l c c2 z z2 wx h1 h2 ok ok2)
  obtain ⟨DI, hDI⟩ : ∃ DI, DI = dotI z z2 := ⟨_, rfl⟩
  rw [he] at HDR
  rw [← hDI] at HDR
  try rw [← hDI] at HD
  clear hDI
  have HSU := Lib.hid (fun wx h1 => sumN_good a l c z wx h1 ok)
  have HMX := Lib.hid (fun wx h1 => maxN_good a l c z wx h1 ok)
  have HK := Lib.hid (fun wx h1 => checkR_any a l c z wx h1)
  rw [errR_ok ok] at HK
  subst hemp
  obtain rfl : l = 0 := r1.len.symm
  rw [show sumV (absTo [] 0) = 0 by decide, show sumE (absTo [] 0) = 0 by decide] at HSU
  rw [show maxTo [] 0 = 0 from rfl] at HMX
  clear ok ok2 he hpe
  have R1 := Lib.hid r1
  have R2 := Lib.hid r2
  clear hs r1 r2
  go_enter Tryd.func8, Tryd.ntmps8
  go_wp2_with fail
  refine (known_any _ HS.out).mono ?_
  rintro e w1 ⟨rfl, h1⟩
  have A_1 := Lib.hid (R1.out.below h1)
  have Bb_1 := Lib.hid (R2.out.below h1)
  have B1 := Lib.hid h1
  clear h1
  go_wp2_with fail
  refine (HD.out _ A_1.out Bb_1.out).mono ?_
  rintro e w2 ⟨rfl, h2⟩
  have A_2 := Lib.hid (A_1.out.below h2)
  have Bb_2 := Lib.hid (Bb_1.out.below h2)
  have B2 := Lib.hid (B1.out.trans (h2.mono B1.out.size))
  clear h2
  go_wp2_with fail
  refine (HSU.out _ A_2.out).mono ?_
  rintro e w3 ⟨rfl, h3⟩
  have A_3 := Lib.hid (A_2.out.below h3)
  have Bb_3 := Lib.hid (Bb_2.out.below h3)
  have B3 := Lib.hid (B2.out.trans (h3.mono B2.out.size))
  clear h3
  go_wp2_with fail
  refine (HMX.out _ A_3.out).mono ?_
  rintro e w4 ⟨rfl, rfl⟩
  go_wp2_with fail
  refine (HK.out _ A_3.out).mono ?_
  rintro e w5 ⟨rfl, rfl⟩
  have BX := Lib.hid B3.out
  have RA := A_3
  have RB := Bb_3
  go_wp2_with fail
  refine wp_loop_rounds 1 ?_
  rw [rounds_succ]
  go_wp2_with fail
  refine (HK2.out _ RB.out).mono ?_
  rintro e w21 ⟨rfl, rfl⟩
  go_wp2_with fail
  refine (HDR.out _ RA.out RB.out).mono ?_
  rintro e w21 ⟨⟨v, rfl, hv⟩, h21⟩
  clear hv
  have B21 := Lib.hid (BX.out.trans (h21.mono BX.out.size))
  clear h21
  go_wp2_with fail
  go_ret
  exact ⟨rfl, B21.out⟩

set_option maxHeartbeats 3200000 in
set_option maxRecDepth 100000 in
theorem dots_good_false (a : Option Addr) (l c : Nat) (z : List Int) (a2 : Option Addr) (l2 c2 : Nat) (z2 : List Int) (w : World) (hs : Std w) (r1 : Rd w a l c z) (r2 : Rd w a2 l2 c2 z2) (hl : l ≤ 80) (ok : okB z = true) (ok2 : okB z2 = true) (heq : l = l2) (he : entB (dotI z z2) = false) (b off : Nat) (ha : a = some ⟨b, off, none⟩) (hb : b < w.heap.size) (hcell : ∀ i (h : i < z.length), w.cell? ⟨b, off + i, none⟩ = some (.int .i64 (z[i]'h))) :
    Calls Tryd.prog 8 #[.slice a l c, .slice a2 l2 c2] w fun e w' => e = .returned (.bool true) ∧ Below w.heap.size w w' := by
  have HS := Lib.hid hs
  have hc := r1.cap
  have hc2 := r2.cap
  subst heq
  have hpe : pairE z z2 = 0 := by unfold pairE; rw [if_pos ok, if_pos ok2, if_pos (by rw [r1.len, r2.len])]
  have HD := Lib.hid (fun wx h1 h2 => dotN_any a a2 l c l c2 z z2 wx h1 h2)
  rw [show dotV z z2 = sumV (dotI z z2) from if_pos hpe, show dotE z z2 = sumE (dotI z z2) from if_pos hpe, sumV_no he, sumE_no he] at HD
  have HK2 := Lib.hid (fun wx h1 => checkR_any a2 l c2 z2 wx h1)
  rw [errR_ok ok2] at HK2
  have HDR := Lib.hid (fun wx h1 h2 => dotR_any a a2 l c c2 z z2 wx h1 h2 ok ok2)
  obtain ⟨DI, hDI⟩ : ∃ DI, DI = dotI z z2 := ⟨_, rfl⟩
  rw [he] at HDR
  rw [← hDI] at HDR
  try rw [← hDI] at HD
  clear hDI
  have HSU := Lib.hid (fun wx h1 => sumN_good a l c z wx h1 ok)
  have HMX := Lib.hid (fun wx h1 => maxN_good a l c z wx h1 ok)
  have HK := Lib.hid (fun wx h1 => checkR_any a l c z wx h1)
  rw [errR_ok ok] at HK
  have HL := Lib.hid r1.len
  have HOK := Lib.hid ok
  have HCL := Lib.hid (fun (wx : World) (hw : Below w.heap.size w wx) i (h : i < z.length) => (hw.cell (p := ⟨b, off + i, none⟩) hb).trans (hcell i h))
  obtain ⟨T, hT⟩ : ∃ T, T = absTo z l := ⟨_, rfl⟩
  obtain ⟨M, hM⟩ : ∃ M, M = maxTo z l := ⟨_, rfl⟩
  have hsr := sum_rel T (by rw [hT]; exact (absTo_bd ok l (by rw [r1.len]; omega)).1)
  rw [← hT] at HSU
  rw [← hM] at HMX
  have HT := Lib.hid hT
  have HMM := Lib.hid hM
  obtain ⟨SV, hSV⟩ : ∃ SV, SV = sumV T := ⟨_, rfl⟩
  obtain ⟨SE, hSE⟩ : ∃ SE, SE = sumE T := ⟨_, rfl⟩
  rw [← hSV, ← hSE] at HSU hsr
  have HSR := Lib.hid hsr
  subst ha
  clear hT hM hsr hSV hSE hcell
  clear ok ok2 he hpe
  have R1 := Lib.hid r1
  have R2 := Lib.hid r2
  clear hs r1 r2
  go_enter Tryd.func8, Tryd.ntmps8
  go_wp2_with fail
  refine (known_any _ HS.out).mono ?_
  rintro e w1 ⟨rfl, h1⟩
  have A_1 := Lib.hid (R1.out.below h1)
  have Bb_1 := Lib.hid (R2.out.below h1)
  have B1 := Lib.hid h1
  clear h1
  go_wp2_with fail
  refine (HD.out _ A_1.out Bb_1.out).mono ?_
  rintro e w2 ⟨rfl, h2⟩
  have A_2 := Lib.hid (A_1.out.below h2)
  have Bb_2 := Lib.hid (Bb_1.out.below h2)
  have B2 := Lib.hid (B1.out.trans (h2.mono B1.out.size))
  clear h2
  go_wp2_with fail
  refine (HSU.out _ A_2.out).mono ?_
  rintro e w3 ⟨rfl, h3⟩
  have A_3 := Lib.hid (A_2.out.below h3)
  have Bb_3 := Lib.hid (Bb_2.out.below h3)
  have B3 := Lib.hid (B2.out.trans (h3.mono B2.out.size))
  clear h3
  go_wp2_with fail
  refine (HMX.out _ A_3.out).mono ?_
  rintro e w4 ⟨rfl, rfl⟩
  go_wp2_with fail
  refine (HK.out _ A_3.out).mono ?_
  rintro e w5 ⟨rfl, rfl⟩
  have BX := Lib.hid B3.out
  have RA := A_3
  have RB := Bb_3
  go_wp2_with fail
  go_loop [12, 13, 14] (fun tv mv iv => ∃ (i : Nat) (tt mm : Int), iv = .int .i64 i ∧ i ≤ l ∧ tv = .int .i64 tt ∧ mv = .int .i64 mm ∧ 0 ≤ tt ∧ tt ≤ 1000000000 * (i : Int) ∧ Hid (tt = absTo z i ∧ mm = maxTo z i)) (fun _ _ iv => l - (intOf iv).toNat)
  case atStart => exact ⟨0, 0, 0, rfl, Nat.zero_le _, rfl, rfl, by omega, by omega, Lib.hid ⟨rfl, rfl⟩⟩
  case round =>
    obtain ⟨i, tt, mm, rfl, hi, rfl, rfl, ht0, ht1, HTM⟩ := hrel
    by_cases hlt : i < l
    · have hil : i < z.length := by rw [HL.out]; exact hlt
      have hcl := HCL.out _ BX.out i hil
      have hze := okB_at HOK.out i hil
      have hab := absTo_succ z hil
      have hmx := maxTo_succ z hil
      rw [← HTM.out.1] at hab
      rw [← HTM.out.2] at hmx
      obtain ⟨y, hy⟩ : ∃ y, y = z[i] := ⟨_, rfl⟩
      rw [← hy] at hcl hze hab hmx
      have ha0 := absI_nn y
      have ha1 := absI_le hze.1 hze.2
      have HM := Lib.hid (fun wx => absR_any y wx (by omega) (by omega))
      obtain ⟨A, hA⟩ : ∃ A, A = absI y := ⟨_, rfl⟩
      rw [← hA] at HM ha0 ha1 hab hmx
      have hw := in64 (x := tt + A) (by omega) (by omega)
      have HAB := Lib.hid hab
      clear hy hA hab
      by_cases hga : mm ≤ A
      · have HN := Lib.hid (show A = maxTo z (i + 1) by rw [hmx]; omega)
        clear hmx
        go_wp2_with fail
        refine (HM.out _).mono ?_
        rintro e w30 ⟨rfl, rfl⟩
        go_wp2_with fail
        refine (HM.out _).mono ?_
        rintro e w30 ⟨rfl, rfl⟩
        go_wp2_with fail
        go_round
        case rel => exact ⟨i + 1, tt + A, A, by go_num, by omega, rfl, by first | rfl | (congr 1; omega), by omega, by push_cast; omega, Lib.hid ⟨HAB.out.symm, HN.out⟩⟩
        case measure => simp [intOf]; omega
      · have hga' : A < mm := by omega
        have HN := Lib.hid (show mm = maxTo z (i + 1) by rw [hmx]; omega)
        clear hmx hga
        go_wp2_with fail
        refine (HM.out _).mono ?_
        rintro e w30 ⟨rfl, rfl⟩
        go_wp2_with fail
        refine (HM.out _).mono ?_
        rintro e w30 ⟨rfl, rfl⟩
        go_wp2_with fail
        go_round
        case rel => exact ⟨i + 1, tt + A, mm, by go_num, by omega, rfl, by first | rfl | (congr 1; omega), by omega, by push_cast; omega, Lib.hid ⟨HAB.out.symm, HN.out⟩⟩
        case measure => simp [intOf]; omega
    · obtain rfl : i = l := by omega
      obtain ⟨e1, e2⟩ := HTM.out
      obtain rfl : tt = T := e1.trans HT.out.symm
      obtain rfl : mm = M := e2.trans HMM.out.symm
      clear e1 e2
      have HSR2 := HSR.out
      rcases HSR2 with ⟨hT, hSV, hSE⟩ | ⟨hT, hSV, hSE⟩
      · subst hSV
        subst hSE
        go_wp2_with fail
        refine (HK2.out _ RB.out).mono ?_
        rintro e w21 ⟨rfl, rfl⟩
        go_wp2_with fail
        refine (HDR.out _ RA.out RB.out).mono ?_
        rintro e w21 ⟨⟨v, rfl, hv⟩, h21⟩
        clear hv
        have B21 := Lib.hid (BX.out.trans (h21.mono BX.out.size))
        clear h21
        go_wp2_with fail
        go_ret
        exact ⟨rfl, B21.out⟩
      · subst hSV
        subst hSE
        go_wp2_with fail
        refine (HK2.out _ RB.out).mono ?_
        rintro e w21 ⟨rfl, rfl⟩
        go_wp2_with fail
        refine (HDR.out _ RA.out RB.out).mono ?_
        rintro e w21 ⟨⟨v, rfl, hv⟩, h21⟩
        clear hv
        have B21 := Lib.hid (BX.out.trans (h21.mono BX.out.size))
        clear h21
        go_wp2_with fail
        go_ret
        exact ⟨rfl, B21.out⟩

theorem dots_law (a : Option Addr) (l c : Nat) (z : List Int) (a2 : Option Addr) (l2 c2 : Nat) (z2 : List Int) (w : World) (hs : Std w) (r1 : Rd w a l c z) (r2 : Rd w a2 l2 c2 z2) :
    Calls Tryd.prog 8 #[.slice a l c, .slice a2 l2 c2] w fun e w' => e = .returned (.bool true) ∧ Below w.heap.size w w' := by
  by_cases hl : l ≤ 80
  · by_cases h : l2 ≤ 80
    · cases ok : okB z with
      | false => exact dots_bad a l c z a2 l2 c2 z2 w hs r1 r2 hl h ok
      | true =>
        cases ok2 : okB z2 with
        | false =>
          rcases r1.ways with ⟨e, _⟩ | ⟨b, off, ha, hb, hcell⟩
          · exact dots_two_e a l c z a2 l2 c2 z2 w hs r1 r2 hl h ok ok2 e
          · exact dots_two a l c z a2 l2 c2 z2 w hs r1 r2 hl h ok ok2 b off ha hb hcell
        | true =>
          by_cases heq : l = l2
          · cases he : entB (dotI z z2) with
            | false =>
              rcases r1.ways with ⟨e, _⟩ | ⟨b, off, ha, hb, hcell⟩
              · exact dots_good_false_e a l c z a2 l2 c2 z2 w hs r1 r2 hl ok ok2 heq he e
              · exact dots_good_false a l c z a2 l2 c2 z2 w hs r1 r2 hl ok ok2 heq he b off ha hb hcell
            | true =>
              rcases r1.ways with ⟨e, _⟩ | ⟨b, off, ha, hb, hcell⟩
              · exact dots_good_true_e a l c z a2 l2 c2 z2 w hs r1 r2 hl ok ok2 heq he e
              · exact dots_good_true a l c z a2 l2 c2 z2 w hs r1 r2 hl ok ok2 heq he b off ha hb hcell
          · rcases r1.ways with ⟨e, _⟩ | ⟨b, off, ha, hb, hcell⟩
            · exact dots_size_e a l c z a2 l2 c2 z2 w hs r1 r2 hl h ok ok2 heq e
            · exact dots_size a l c z a2 l2 c2 z2 w hs r1 r2 hl h ok ok2 heq b off ha hb hcell
    · exact dots_long2 a l c z a2 l2 c2 z2 w hs r1 r2 hl (by omega)
  · exact dots_long1 a l c z a2 l2 c2 z2 w hs r1 r2 (by omega)
end Go.Proofs.YtgcddiakdmddjaaDoor
