/-
  The walk of the law RowContents.
-/
import Derived.Test.YtgcddiakdmddjaaDoorWContents0
namespace Go.Proofs.YtgcddiakdmddjaaDoor
open Go.RowKit

set_option maxHeartbeats 3200000 in
set_option maxRecDepth 100000 in
theorem contents_long (a : Option Addr) (l c : Nat) (z : List Int) (w : World) (hs : Std w) (r1 : Rd w a l c z) (h : 80 < l) :
    Calls Tryd.prog 9 #[.slice a l c] w fun e w' => e = .returned (.bool true) ∧ Below w.heap.size w w' := by
  have HS := Lib.hid hs
  have hc := r1.cap
  have R1 := Lib.hid r1
  clear hs r1
  go_enter Tryd.func9, Tryd.ntmps9
  go_wp2_with fail
  refine (known_any _ HS.out).mono ?_
  rintro e w1 ⟨rfl, h1⟩
  have B1 := Lib.hid h1
  clear h1
  go_wp2_with fail
  refine (known_any _ (HS.out.below B1.out)).mono ?_
  rintro e w2 ⟨rfl, h2⟩
  have B2 := Lib.hid (B1.out.trans (h2.mono B1.out.size))
  clear h2
  go_wp2_with fail
  go_ret
  exact ⟨rfl, B2.out⟩

set_option maxHeartbeats 3200000 in
set_option maxRecDepth 100000 in
theorem contents_bad (a : Option Addr) (l c : Nat) (z : List Int) (w : World) (hs : Std w) (r1 : Rd w a l c z) (hl : l ≤ 80) (ok : okB z = false) :
    Calls Tryd.prog 9 #[.slice a l c] w fun e w' => e = .returned (.bool true) ∧ Below w.heap.size w w' := by
  have HS := Lib.hid hs
  have hc := r1.cap
  have HCN := Lib.hid (fun wx h1 => contentN_any a l c z wx h1)
  have HPN := Lib.hid (fun wx h1 => primN_any a l c z wx h1)
  have HNN := Lib.hid (fun wx h1 => normalN_any a l c z wx h1)
  have HK := Lib.hid (fun wx h1 => checkR_any a l c z wx h1)
  rw [show contV z = 0 from if_neg (by simp [ok]), errR_no ok] at HCN
  rw [show primV z = [] from if_neg (by simp [ok]), show primE z = 4 from if_neg (by simp [ok])] at HPN
  rw [(bad_vals ok (sgnL z)).1, (bad_vals ok (sgnL z)).2] at HNN
  rw [errR_no ok] at HK
  clear ok
  have R1 := Lib.hid r1
  clear hs r1
  go_enter Tryd.func9, Tryd.ntmps9
  go_wp2_with fail
  refine (known_any _ HS.out).mono ?_
  rintro e w1 ⟨rfl, h1⟩
  have A_1 := Lib.hid (R1.out.below h1)
  have B1 := Lib.hid h1
  clear h1
  go_wp2_with fail
  refine (HCN.out _ A_1.out).mono ?_
  rintro e w2 ⟨rfl, h2⟩
  have A_2 := Lib.hid (A_1.out.below h2)
  have B2 := Lib.hid (B1.out.trans (h2.mono B1.out.size))
  clear h2
  go_wp2_with fail
  refine (HPN.out _ A_2.out).mono ?_
  rintro e w3 ⟨a_p, n_p, c_p, rfl, hr3, h3⟩
  have A_3 := Lib.hid (A_2.out.below h3)
  have B3 := Lib.hid (B2.out.trans (h3.mono B2.out.size))
  have hcap_p := hr3.cap
  obtain rfl : n_p = 0 := hr3.len.symm
  have p_3 := Lib.hid hr3
  clear h3 hr3
  go_wp2_with fail
  refine (HNN.out _ A_3.out).mono ?_
  rintro e w4 ⟨a_nn, n_nn, c_nn, rfl, hr4, h4⟩
  have A_4 := Lib.hid (A_3.out.below h4)
  have p_4 := Lib.hid (p_3.out.below h4)
  have B4 := Lib.hid (B3.out.trans (h4.mono B3.out.size))
  have hcap_nn := hr4.cap
  obtain rfl : n_nn = 0 := hr4.len.symm
  have nn_4 := Lib.hid hr4
  clear h4 hr4
  go_wp2_with fail
  refine (HK.out _ A_4.out).mono ?_
  rintro e w5 ⟨rfl, rfl⟩
  go_wp2_with fail
  go_ret
  exact ⟨rfl, B4.out⟩

set_option maxHeartbeats 3200000 in
set_option maxRecDepth 100000 in
theorem contents_zero (a : Option Addr) (l c : Nat) (z : List Int) (w : World) (hs : Std w) (r1 : Rd w a l c z) (hl : l ≤ 80) (ok : okB z = true) (oz : zeroB z = true) :
    Calls Tryd.prog 9 #[.slice a l c] w fun e w' => e = .returned (.bool true) ∧ Below w.heap.size w w' := by
  have HS := Lib.hid hs
  have hc := r1.cap
  have HCN := Lib.hid (fun wx h1 => contentN_any a l c z wx h1)
  have HPN := Lib.hid (fun wx h1 => primN_any a l c z wx h1)
  have HNN := Lib.hid (fun wx h1 => normalN_any a l c z wx h1)
  have HK := Lib.hid (fun wx h1 => checkR_any a l c z wx h1)
  rw [errR_ok ok] at HK HCN
  rw [(norm_vals ok).1, (norm_vals ok).2] at HNN
  have HCR := Lib.hid (fun wx h1 => contentR_any a l c z wx h1 ok)
  have HNR := Lib.hid (fun wx h1 => normR_any a l c z wx h1 ok)
  obtain ⟨g, hg⟩ : ∃ g, g = gcdL z := ⟨_, rfl⟩
  rw [show contV z = (g : Int) by unfold contV; rw [if_pos ok, hg]] at HCN
  rw [← hg] at HCR
  have HZ := Lib.hid (fun wx h1 => zeroR_any a l c z wx h1)
  rw [oz] at HZ
  obtain ⟨NV, hNV⟩ : ∃ NV, NV = normL z := ⟨_, rfl⟩
  rw [← hNV] at HNN HNR
  have HEQ := Lib.hid (fun wx a n c a' n' c' h1 h2 => equalR_any a a' n c n' c' NV NV wx h1 h2)
  rw [show decide (NV = NV) = true from decide_eq_true rfl] at HEQ
  rw [show primV z = [] by unfold primV; rw [if_pos ok, if_pos oz], show primE z = 17 by unfold primE; rw [if_pos ok, if_pos oz]] at HPN
  clear ok oz hg hNV
  have R1 := Lib.hid r1
  clear hs r1
  go_enter Tryd.func9, Tryd.ntmps9
  go_wp2_with fail
  refine (known_any _ HS.out).mono ?_
  rintro e w1 ⟨rfl, h1⟩
  have A_1 := Lib.hid (R1.out.below h1)
  have B1 := Lib.hid h1
  clear h1
  go_wp2_with fail
  refine (HCN.out _ A_1.out).mono ?_
  rintro e w2 ⟨rfl, h2⟩
  have A_2 := Lib.hid (A_1.out.below h2)
  have B2 := Lib.hid (B1.out.trans (h2.mono B1.out.size))
  clear h2
  go_wp2_with fail
  refine (HPN.out _ A_2.out).mono ?_
  rintro e w3 ⟨a_p, n_p, c_p, rfl, hr3, h3⟩
  have A_3 := Lib.hid (A_2.out.below h3)
  have B3 := Lib.hid (B2.out.trans (h3.mono B2.out.size))
  have hcap_p := hr3.cap
  obtain rfl : n_p = 0 := hr3.len.symm
  have p_3 := Lib.hid hr3
  clear h3 hr3
  go_wp2_with fail
  refine (HNN.out _ A_3.out).mono ?_
  rintro e w4 ⟨a_nn, n_nn, c_nn, rfl, hr4, h4⟩
  have A_4 := Lib.hid (A_3.out.below h4)
  have p_4 := Lib.hid (p_3.out.below h4)
  have B4 := Lib.hid (B3.out.trans (h4.mono B3.out.size))
  have hcap_nn := hr4.cap
  have nn_4 := Lib.hid hr4
  clear h4 hr4
  go_wp2_with fail
  refine (HK.out _ A_4.out).mono ?_
  rintro e w5 ⟨rfl, rfl⟩
  go_wp2_with fail
  refine (HCR.out _ A_4.out).mono ?_
  rintro e w6 ⟨rfl, h6⟩
  have A_6 := Lib.hid (A_4.out.below h6)
  have p_6 := Lib.hid (p_4.out.below h6)
  have nn_6 := Lib.hid (nn_4.out.below h6)
  have B6 := Lib.hid (B4.out.trans (h6.mono B4.out.size))
  clear h6
  go_wp2_with fail
  refine (HNR.out _ A_6.out).mono ?_
  rintro e w7 ⟨a_mm, n_mm, c_mm, rfl, hr7, h7⟩
  have A_7 := Lib.hid (A_6.out.below h7)
  have p_7 := Lib.hid (p_6.out.below h7)
  have nn_7 := Lib.hid (nn_6.out.below h7)
  have B7 := Lib.hid (B6.out.trans (h7.mono B6.out.size))
  have hcap_mm := hr7.cap
  have mm_7 := Lib.hid hr7
  clear h7 hr7
  go_wp2_with fail
  refine (HEQ.out _ _ _ _ _ _ _ nn_7.out mm_7.out).mono ?_
  rintro e w8 ⟨rfl, h8⟩
  have A_8 := Lib.hid (A_7.out.below h8)
  have p_8 := Lib.hid (p_7.out.below h8)
  have nn_8 := Lib.hid (nn_7.out.below h8)
  have mm_8 := Lib.hid (mm_7.out.below h8)
  have B8 := Lib.hid (B7.out.trans (h8.mono B7.out.size))
  clear h8
  go_wp2_with fail
  refine (HZ.out _ A_8.out).mono ?_
  rintro e w9 ⟨rfl, rfl⟩
  go_wp2_with fail
  go_ret
  exact ⟨rfl, B8.out⟩

set_option maxHeartbeats 3200000 in
set_option maxRecDepth 100000 in
theorem contents_good (a : Option Addr) (l c : Nat) (z : List Int) (w : World) (hs : Std w) (r1 : Rd w a l c z) (hl : l ≤ 80) (ok : okB z = true) (oz : zeroB z = false) :
    Calls Tryd.prog 9 #[.slice a l c] w fun e w' => e = .returned (.bool true) ∧ Below w.heap.size w w' := by
  have HS := Lib.hid hs
  have hc := r1.cap
  have HCN := Lib.hid (fun wx h1 => contentN_any a l c z wx h1)
  have HPN := Lib.hid (fun wx h1 => primN_any a l c z wx h1)
  have HNN := Lib.hid (fun wx h1 => normalN_any a l c z wx h1)
  have HK := Lib.hid (fun wx h1 => checkR_any a l c z wx h1)
  rw [errR_ok ok] at HK HCN
  rw [(norm_vals ok).1, (norm_vals ok).2] at HNN
  have HCR := Lib.hid (fun wx h1 => contentR_any a l c z wx h1 ok)
  have HNR := Lib.hid (fun wx h1 => normR_any a l c z wx h1 ok)
  obtain ⟨g, hg⟩ : ∃ g, g = gcdL z := ⟨_, rfl⟩
  rw [show contV z = (g : Int) by unfold contV; rw [if_pos ok, hg]] at HCN
  rw [← hg] at HCR
  have HZ := Lib.hid (fun wx h1 => zeroR_any a l c z wx h1)
  rw [oz] at HZ
  obtain ⟨NV, hNV⟩ : ∃ NV, NV = normL z := ⟨_, rfl⟩
  rw [← hNV] at HNN HNR
  have HEQ := Lib.hid (fun wx a n c a' n' c' h1 h2 => equalR_any a a' n c n' c' NV NV wx h1 h2)
  rw [show decide (NV = NV) = true from decide_eq_true rfl] at HEQ
  rw [show primV z = z.map (fun z => z.tdiv (g : Int)) by unfold primV; rw [if_pos ok, if_neg (by simp [oz]), hg], show primE z = 0 by unfold primE; rw [if_pos ok, if_neg (by simp [oz])]] at HPN
  have hg0 : 0 < g := by
    rcases Nat.eq_zero_or_pos g with h | h
    · rw [hg, gcdL_zero, oz] at h; cases h
    · exact h
  have HPR := Lib.hid (fun wx h1 => primR_any a l c z g hg hg0 wx h1 ok)
  have HSC := Lib.hid (fun wx a n c h1 => scaleR_any a n c (z.map (fun z => z.tdiv (g : Int))) (g : Int) wx h1 (prim_ok ok g))
  rw [show scOk (z.map (fun z => z.tdiv (g : Int))) (g : Int) = true by rw [hg]; exact prim_scOk ok oz, show (z.map (fun z => z.tdiv (g : Int))).map ((g : Int) * ·) = z by rw [hg]; exact prim_back z] at HSC
  obtain ⟨PV, hPV⟩ : ∃ PV, PV = z.map (fun z => z.tdiv (g : Int)) := ⟨_, rfl⟩
  rw [← hPV] at HPN HPR HSC
  have HEP := Lib.hid (fun wx a n c a' n' c' h1 h2 => equalR_any a a' n c n' c' PV PV wx h1 h2)
  rw [show decide (PV = PV) = true from decide_eq_true rfl] at HEP
  have HEA := Lib.hid (fun wx a n c a' n' c' h1 h2 => equalR_any a a' n c n' c' z z wx h1 h2)
  rw [show decide (z = z) = true from decide_eq_true rfl] at HEA
  clear ok oz hg hNV hPV hg0
  have R1 := Lib.hid r1
  clear hs r1
  go_enter Tryd.func9, Tryd.ntmps9
  go_wp2_with fail
  refine (known_any _ HS.out).mono ?_
  rintro e w1 ⟨rfl, h1⟩
  have A_1 := Lib.hid (R1.out.below h1)
  have B1 := Lib.hid h1
  clear h1
  go_wp2_with fail
  refine (HCN.out _ A_1.out).mono ?_
  rintro e w2 ⟨rfl, h2⟩
  have A_2 := Lib.hid (A_1.out.below h2)
  have B2 := Lib.hid (B1.out.trans (h2.mono B1.out.size))
  clear h2
  go_wp2_with fail
  refine (HPN.out _ A_2.out).mono ?_
  rintro e w3 ⟨a_p, n_p, c_p, rfl, hr3, h3⟩
  have A_3 := Lib.hid (A_2.out.below h3)
  have B3 := Lib.hid (B2.out.trans (h3.mono B2.out.size))
  have hcap_p := hr3.cap
  have p_3 := Lib.hid hr3
  clear h3 hr3
  go_wp2_with fail
  refine (HNN.out _ A_3.out).mono ?_
  rintro e w4 ⟨a_nn, n_nn, c_nn, rfl, hr4, h4⟩
  have A_4 := Lib.hid (A_3.out.below h4)
  have p_4 := Lib.hid (p_3.out.below h4)
  have B4 := Lib.hid (B3.out.trans (h4.mono B3.out.size))
  have hcap_nn := hr4.cap
  have nn_4 := Lib.hid hr4
  clear h4 hr4
  go_wp2_with fail
  refine (HK.out _ A_4.out).mono ?_
  rintro e w5 ⟨rfl, rfl⟩
  go_wp2_with fail
  refine (HCR.out _ A_4.out).mono ?_
  rintro e w6 ⟨rfl, h6⟩
  have A_6 := Lib.hid (A_4.out.below h6)
  have p_6 := Lib.hid (p_4.out.below h6)
  have nn_6 := Lib.hid (nn_4.out.below h6)
  have B6 := Lib.hid (B4.out.trans (h6.mono B4.out.size))
  clear h6
  go_wp2_with fail
  refine (HNR.out _ A_6.out).mono ?_
  rintro e w7 ⟨a_mm, n_mm, c_mm, rfl, hr7, h7⟩
  have A_7 := Lib.hid (A_6.out.below h7)
  have p_7 := Lib.hid (p_6.out.below h7)
  have nn_7 := Lib.hid (nn_6.out.below h7)
  have B7 := Lib.hid (B6.out.trans (h7.mono B6.out.size))
  have hcap_mm := hr7.cap
  have mm_7 := Lib.hid hr7
  clear h7 hr7
  go_wp2_with fail
  refine (HEQ.out _ _ _ _ _ _ _ nn_7.out mm_7.out).mono ?_
  rintro e w8 ⟨rfl, h8⟩
  have A_8 := Lib.hid (A_7.out.below h8)
  have p_8 := Lib.hid (p_7.out.below h8)
  have nn_8 := Lib.hid (nn_7.out.below h8)
  have mm_8 := Lib.hid (mm_7.out.below h8)
  have B8 := Lib.hid (B7.out.trans (h8.mono B7.out.size))
  clear h8
  go_wp2_with fail
  refine (HZ.out _ A_8.out).mono ?_
  rintro e w9 ⟨rfl, rfl⟩
  go_wp2_with fail
  refine (HSC.out _ _ _ _ p_8.out).mono ?_
  rintro e w10 ⟨a_bk, n_bk, c_bk, rfl, hr10, h10⟩
  have A_10 := Lib.hid (A_8.out.below h10)
  have p_10 := Lib.hid (p_8.out.below h10)
  have B10 := Lib.hid (B8.out.trans (h10.mono B8.out.size))
  have hcap_bk := hr10.cap
  rw [if_pos rfl] at hr10
  have bk_10 := Lib.hid hr10
  clear h10 hr10
  go_wp2_with fail
  refine (HPR.out _ A_10.out).mono ?_
  rintro e w11 ⟨a_q, n_q, c_q, rfl, hr11, h11⟩
  have A_11 := Lib.hid (A_10.out.below h11)
  have p_11 := Lib.hid (p_10.out.below h11)
  have bk_11 := Lib.hid (bk_10.out.below h11)
  have B11 := Lib.hid (B10.out.trans (h11.mono B10.out.size))
  have hcap_q := hr11.cap
  have q_11 := Lib.hid hr11
  clear h11 hr11
  go_wp2_with fail
  refine (HEP.out _ _ _ _ _ _ _ p_11.out q_11.out).mono ?_
  rintro e w12 ⟨rfl, h12⟩
  have A_12 := Lib.hid (A_11.out.below h12)
  have p_12 := Lib.hid (p_11.out.below h12)
  have bk_12 := Lib.hid (bk_11.out.below h12)
  have q_12 := Lib.hid (q_11.out.below h12)
  have B12 := Lib.hid (B11.out.trans (h12.mono B11.out.size))
  clear h12
  go_wp2_with fail
  refine (HEA.out _ _ _ _ _ _ _ bk_12.out A_12.out).mono ?_
  rintro e w13 ⟨rfl, h13⟩
  have A_13 := Lib.hid (A_12.out.below h13)
  have bk_13 := Lib.hid (bk_12.out.below h13)
  have B13 := Lib.hid (B12.out.trans (h13.mono B12.out.size))
  clear h13
  go_wp2_with fail
  go_ret
  exact ⟨rfl, B13.out⟩

theorem contents_law (a : Option Addr) (l c : Nat) (z : List Int) (w : World) (hs : Std w) (r1 : Rd w a l c z) :
    Calls Tryd.prog 9 #[.slice a l c] w fun e w' => e = .returned (.bool true) ∧ Below w.heap.size w w' := by
  by_cases hl : l ≤ 80
  · cases ok : okB z with
    | false => exact contents_bad a l c z w hs r1 hl ok
    | true =>
      cases oz : zeroB z with
      | true => exact contents_zero a l c z w hs r1 hl ok oz
      | false => exact contents_good a l c z w hs r1 hl ok oz
  · exact contents_long a l c z w hs r1 (by omega)
end Go.Proofs.YtgcddiakdmddjaaDoor
