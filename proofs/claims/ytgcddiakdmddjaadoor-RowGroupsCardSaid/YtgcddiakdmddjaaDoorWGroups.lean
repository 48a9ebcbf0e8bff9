/-
  The walk of the law RowGroups.
-/
import Derived.Test.YtgcddiakdmddjaaDoorWGroups0
import Derived.Test.YtgcddiakdmddjaaDoorWDots
namespace Go.Proofs.YtgcddiakdmddjaaDoor
open Go.RowKit

set_option maxHeartbeats 8000000 in
set_option maxRecDepth 100000 in
theorem groups_long1 (a : Option Addr) (l c : Nat) (z : List Int) (a2 : Option Addr) (l2 c2 : Nat) (z2 : List Int) (k : Int) (w : World) (hs : Std w) (r1 : Rd8 w a l c z) (r2 : Rd8 w a2 l2 c2 z2) (h : 8 < l) :
    Calls Tryd.prog 10 #[.slice a l c, .slice a2 l2 c2, .int .i8 k] w fun e w' => e = .returned (.bool true) ∧ Below w.heap.size w w' := by
  have HS := Lib.hid hs
  have hc := r1.cap
  have hc2 := r2.cap
  have R1 := Lib.hid r1
  have R2 := Lib.hid r2
  clear hs r1 r2
  go_enter Tryd.func10, Tryd.ntmps10
  go_wp2_with fail
  refine (known_any _ HS.out).mono ?_
  rintro e w1 ⟨rfl, h1⟩
  have B1 := Lib.hid h1
  clear h1
  go_wp2_with fail
  refine (known_any _ (HS.out.below B1.out)).mono ?_
  rintro e w2 ⟨rfl, h2⟩
  have B2 := Lib.hid (B1.out.trans (h2.mono B1.out.size))
  clear h2
  go_wp2_with fail
  go_ret
  exact ⟨rfl, B2.out⟩

set_option maxHeartbeats 8000000 in
set_option maxRecDepth 100000 in
theorem groups_long2 (a : Option Addr) (l c : Nat) (z : List Int) (a2 : Option Addr) (l2 c2 : Nat) (z2 : List Int) (k : Int) (w : World) (hs : Std w) (r1 : Rd8 w a l c z) (r2 : Rd8 w a2 l2 c2 z2) (hl : l ≤ 8) (h : 8 < l2) :
    Calls Tryd.prog 10 #[.slice a l c, .slice a2 l2 c2, .int .i8 k] w fun e w' => e = .returned (.bool true) ∧ Below w.heap.size w w' := by
  have HS := Lib.hid hs
  have hc := r1.cap
  have hc2 := r2.cap
  have R1 := Lib.hid r1
  have R2 := Lib.hid r2
  clear hs r1 r2
  go_enter Tryd.func10, Tryd.ntmps10
  go_wp2_with fail
  refine (known_any _ HS.out).mono ?_
  rintro e w1 ⟨rfl, h1⟩
  have B1 := Lib.hid h1
  clear h1
  go_wp2_with fail
  refine (known_any _ (HS.out.below B1.out)).mono ?_
  rintro e w2 ⟨rfl, h2⟩
  have B2 := Lib.hid (B1.out.trans (h2.mono B1.out.size))
  clear h2
  go_wp2_with fail
  go_ret
  exact ⟨rfl, B2.out⟩

set_option maxHeartbeats 8000000 in
set_option maxRecDepth 100000 in
theorem groups_good (a : Option Addr) (l c : Nat) (z : List Int) (a2 : Option Addr) (l2 c2 : Nat) (z2 : List Int) (k : Int) (w : World) (hs : Std w) (r1 : Rd8 w a l c z) (r2 : Rd8 w a2 l2 c2 z2) (hl : l ≤ 8) (hl2 : l2 ≤ 8) (k1 : -128 ≤ k) (k2 : k ≤ 127) :
    Calls Tryd.prog 10 #[.slice a l c, .slice a2 l2 c2, .int .i8 k] w fun e w' => e = .returned (.bool true) ∧ Below w.heap.size w w' := by
  have HS := Lib.hid hs
  have hc := r1.cap
  have hc2 := r2.cap
  have hzl := r1.1
  have HLA := Lib.hid hzl
  have sA : Sm z 128 := fun x hx => by have := r1.2.2.2.1 x hx; omega
  have sQ : Sm z2 128 := fun x hx => by have := r2.2.2.2.1 x hx; omega
  have HFIT := Lib.hid (fun wx a n c a' c' h1 hcc => fit_any a n c z2 a' l c' wx h1 hcc hl sQ)
  have sB : Sm (fitL z2 l) 128 := fit_sm sQ (by decide) l
  have hBl : (fitL z2 l).length = l := fit_len _ _
  obtain ⟨B, hB⟩ : ∃ B, B = fitL z2 l := ⟨_, rfl⟩
  rw [← hB] at HFIT sB hBl
  clear hB
  have okA : okB z = true := sA.ok (by decide) (by omega)
  have okB' : okB B = true := sB.ok (by decide) (by omega)
  have sM : Sm (z.map (fun z => -z)) 128 := by
    intro x hx
    obtain ⟨y, hy, rfl⟩ := List.mem_map.1 hx
    have := sA y hy
    show -128 ≤ -y ∧ -y ≤ 128
    omega
  have sZ : Sm (List.replicate l 0) 128 := by
    intro x hx
    rw [(List.mem_replicate.1 hx).2]; decide
  have sT : Sm (z.map (k * ·)) 16384 := by
    intro x hx
    obtain ⟨y, hy, rfl⟩ := List.mem_map.1 hx
    have := sA y hy
    exact mul_sm (p := 128) (q := 128) (by decide) (by omega) (by omega) this.1 this.2
  have okM : okB (z.map (fun z => -z)) = true := sM.ok (by decide) (by rw [List.length_map]; omega)
  have okT : okB (z.map (k * ·)) = true := sT.ok (by decide) (by rw [List.length_map]; omega)
  have hcm := plus_comm (xs := z) (ys := B) (by omega)
  have p1 := plus_ok (xs := z) (ys := B) (by omega) (by omega) sA sB
  have p2 := plus_ok (xs := B) (ys := z) (by omega) (by omega) sB sA
  have p3 := plus_ok (xs := z) (ys := z.map (fun z => -z)) (by rw [List.length_map]) (by omega) sA sM
  have p4 := plus_ok (xs := z) (ys := List.replicate l 0) (by rw [List.length_replicate]; omega) (by omega) sA sZ
  rw [plus_neg, hzl] at p3
  rw [show plusL 1 z (List.replicate l 0) = z by have := plus_zero z; rw [hzl] at this; exact this] at p4
  rw [← hcm] at p2
  have b1 := dot_sm sA sB (by decide) (by decide)
  have b3 := dot_sm sT sB (by decide) (by decide)
  have hd2 := dot_comm (xs := B) (ys := z) (by omega)
  have hd3 := dot_scale z B k
  rw [List.length_map] at b3
  have q1 := dot_ok okA okB' (by omega) (entB_iff.2 (by omega))
  have q2 := dot_ok okB' okA (by omega) (by rw [hd2]; exact entB_iff.2 (by omega))
  have q3 := dot_ok okT okB' (by rw [List.length_map]; omega) (entB_iff.2 (by omega))
  rw [hd2] at q2
  rw [hd3] at q3 b3
  obtain ⟨D, hD⟩ : ∃ D, D = dotI z B := ⟨_, rfl⟩
  rw [← hD] at q1 q2 q3 b3
  have HNEG := Lib.hid (fun wx a n c h1 => negN_any a n c z wx h1)
  rw [(neg_vals okA).1, (neg_vals okA).2] at HNEG
  have HXY := Lib.hid (fun wx a n c a' n' c' h1 h2 => addRow_any a a' n c n' c' z B wx h1 h2)
  rw [p1.1, p1.2] at HXY
  have HYX := Lib.hid (fun wx a n c a' n' c' h1 h2 => addRow_any a a' n c n' c' B z wx h1 h2)
  rw [p2.1, p2.2] at HYX
  have HNO := Lib.hid (fun wx a n c a' n' c' h1 h2 => addRow_any a a' n c n' c' z (z.map (fun z => -z)) wx h1 h2)
  rw [p3.1, p3.2] at HNO
  have HOW := Lib.hid (fun wx a n c a' n' c' h1 h2 => addRow_any a a' n c n' c' z (List.replicate l 0) wx h1 h2)
  rw [p4.1, p4.2] at HOW
  have HE1 := Lib.hid (fun wx a n c a' n' c' h1 h2 => equalN_any a a' n c n' c' (plusL 1 z B) (plusL 1 z B) wx h1 h2)
  rw [show decide (plusL 1 z B = plusL 1 z B) = true from decide_eq_true rfl] at HE1
  have HE2 := Lib.hid (fun wx a n c a' n' c' h1 h2 => equalN_any a a' n c n' c' (List.replicate l 0) (List.replicate l 0) wx h1 h2)
  rw [show decide (List.replicate l (0 : Int) = List.replicate l 0) = true from decide_eq_true rfl] at HE2
  have HE3 := Lib.hid (fun wx a n c a' n' c' h1 h2 => equalN_any a a' n c n' c' z z wx h1 h2)
  rw [show decide (z = z) = true from decide_eq_true rfl] at HE3
  have HD1 := Lib.hid (fun wx a n c a' n' c' h1 h2 => dotN_any a a' n c n' c' z B wx h1 h2)
  rw [q1.1, q1.2] at HD1
  have HD2 := Lib.hid (fun wx a n c a' n' c' h1 h2 => dotN_any a a' n c n' c' B z wx h1 h2)
  rw [q2.1, q2.2] at HD2
  have HSC := Lib.hid (fun wx a n c h1 => scaleN_any a n c z k wx h1)
  rw [(scale_ok okA (entB_iff.2 (by omega)) okT).1, (scale_ok okA (entB_iff.2 (by omega)) okT).2] at HSC
  have HD3 := Lib.hid (fun wx a n c a' n' c' h1 h2 => dotN_any a a' n c n' c' (z.map (k * ·)) B wx h1 h2)
  rw [q3.1, q3.2] at HD3
  have HN1 := Lib.hid (fun wx a n c h1 => normalN_any a n c z wx h1)
  rw [(norm_vals okA).1, (norm_vals okA).2] at HN1
  have HN2 := Lib.hid (fun wx a n c h1 => normalN_any a n c (z.map (fun z => -z)) wx h1)
  rw [(norm_vals okM).1, (norm_vals okM).2, norm_neg] at HN2
  have HE4 := Lib.hid (fun wx a n c a' n' c' h1 h2 => equalN_any a a' n c n' c' (normL z) (normL z) wx h1 h2)
  rw [show decide (normL z = normL z) = true from decide_eq_true rfl] at HE4
  have w1 := in64 (x := k) (by omega) (by omega)
  have w2 := in64 (x := k * D) (by omega) (by omega)
  clear hD b1 b3 hd2 hd3 q1 q2 q3 p1 p2 p3 p4 hcm okA okB' okM okT sA sQ sB sM sZ sT hBl hzl
  have R1 := Lib.hid r1
  have R2 := Lib.hid r2
  clear hs r1 r2
  go_enter Tryd.func10, Tryd.ntmps10
  go_wp2_with fail
  refine (known_any _ HS.out).mono ?_
  rintro e w1 ⟨rfl, h1⟩
  have P_1 := Lib.hid (R1.out.below h1)
  have Q_1 := Lib.hid (R2.out.below h1)
  have B1 := Lib.hid h1
  clear h1
  go_wp2_with fail
  refine (mk_any _ _ _ _ _ P_1.out hl).mono ?_
  rintro e w2 ⟨a_a, n_a, c_a, rfl, hr2, h2⟩
  have P_2 := Lib.hid (P_1.out.below h2)
  have Q_2 := Lib.hid (Q_1.out.below h2)
  have B2 := Lib.hid (B1.out.trans (h2.mono B1.out.size))
  have hcap_a := hr2.cap
  obtain rfl : l = n_a := HLA.out.symm.trans hr2.len
  have a_2 := Lib.hid hr2
  clear h2 hr2
  go_wp2_with fail
  refine (mk_any _ _ _ _ _ Q_2.out hl2).mono ?_
  rintro e w3 ⟨a_q, n_q, c_q, rfl, hr3, h3⟩
  have Q_3 := Lib.hid (Q_2.out.below h3)
  have a_3 := Lib.hid (a_2.out.below h3)
  have B3 := Lib.hid (B2.out.trans (h3.mono B2.out.size))
  have hcap_q := hr3.cap
  have q_3 := Lib.hid hr3
  clear h3 hr3
  go_wp2_with fail
  refine (HFIT.out _ _ _ _ _ _ q_3.out hcap_a).mono ?_
  rintro e w4 ⟨a_b, n_b, c_b, rfl, hr4, h4⟩
  have a_4 := Lib.hid (a_3.out.below h4)
  have q_4 := Lib.hid (q_3.out.below h4)
  have B4 := Lib.hid (B3.out.trans (h4.mono B3.out.size))
  have hcap_b := hr4.cap
  have b_4 := Lib.hid hr4
  clear h4 hr4
  go_wp2_with fail
  refine (zeroRow_any l _ (by omega)).mono ?_
  rintro e w5 ⟨a_z, n_z, c_z, rfl, hr5, h5⟩
  have a_5 := Lib.hid (a_4.out.below h5)
  have b_5 := Lib.hid (b_4.out.below h5)
  have B5 := Lib.hid (B4.out.trans (h5.mono B4.out.size))
  have hcap_z := hr5.cap
  have z_5 := Lib.hid hr5
  clear h5 hr5
  go_wp2_with fail
  refine (HNEG.out _ _ _ _ a_5.out).mono ?_
  rintro e w6 ⟨a_m, n_m, c_m, rfl, hr6, h6⟩
  have a_6 := Lib.hid (a_5.out.below h6)
  have b_6 := Lib.hid (b_5.out.below h6)
  have z_6 := Lib.hid (z_5.out.below h6)
  have B6 := Lib.hid (B5.out.trans (h6.mono B5.out.size))
  have hcap_m := hr6.cap
  have m_6 := Lib.hid hr6
  clear h6 hr6
  go_wp2_with fail
  refine (HXY.out _ _ _ _ _ _ _ a_6.out b_6.out).mono ?_
  rintro e w7 ⟨a_x, n_x, c_x, rfl, hr7, h7⟩
  have a_7 := Lib.hid (a_6.out.below h7)
  have b_7 := Lib.hid (b_6.out.below h7)
  have z_7 := Lib.hid (z_6.out.below h7)
  have m_7 := Lib.hid (m_6.out.below h7)
  have B7 := Lib.hid (B6.out.trans (h7.mono B6.out.size))
  have hcap_x := hr7.cap
  have x_7 := Lib.hid hr7
  clear h7 hr7
  go_wp2_with fail
  refine (HYX.out _ _ _ _ _ _ _ b_7.out a_7.out).mono ?_
  rintro e w8 ⟨a_y, n_y, c_y, rfl, hr8, h8⟩
  have a_8 := Lib.hid (a_7.out.below h8)
  have b_8 := Lib.hid (b_7.out.below h8)
  have z_8 := Lib.hid (z_7.out.below h8)
  have m_8 := Lib.hid (m_7.out.below h8)
  have x_8 := Lib.hid (x_7.out.below h8)
  have B8 := Lib.hid (B7.out.trans (h8.mono B7.out.size))
  have hcap_y := hr8.cap
  have y_8 := Lib.hid hr8
  clear h8 hr8
  go_wp2_with fail
  refine (HNO.out _ _ _ _ _ _ _ a_8.out m_8.out).mono ?_
  rintro e w9 ⟨a_no, n_no, c_no, rfl, hr9, h9⟩
  have a_9 := Lib.hid (a_8.out.below h9)
  have b_9 := Lib.hid (b_8.out.below h9)
  have z_9 := Lib.hid (z_8.out.below h9)
  have m_9 := Lib.hid (m_8.out.below h9)
  have x_9 := Lib.hid (x_8.out.below h9)
  have y_9 := Lib.hid (y_8.out.below h9)
  have B9 := Lib.hid (B8.out.trans (h9.mono B8.out.size))
  have hcap_no := hr9.cap
  have no_9 := Lib.hid hr9
  clear h9 hr9
  go_wp2_with fail
  refine (HOW.out _ _ _ _ _ _ _ a_9.out z_9.out).mono ?_
  rintro e w10 ⟨a_ow, n_ow, c_ow, rfl, hr10, h10⟩
  have a_10 := Lib.hid (a_9.out.below h10)
  have b_10 := Lib.hid (b_9.out.below h10)
  have z_10 := Lib.hid (z_9.out.below h10)
  have m_10 := Lib.hid (m_9.out.below h10)
  have x_10 := Lib.hid (x_9.out.below h10)
  have y_10 := Lib.hid (y_9.out.below h10)
  have no_10 := Lib.hid (no_9.out.below h10)
  have B10 := Lib.hid (B9.out.trans (h10.mono B9.out.size))
  have hcap_ow := hr10.cap
  have ow_10 := Lib.hid hr10
  clear h10 hr10
  go_wp2_with fail
  refine (HE1.out _ _ _ _ _ _ _ x_10.out y_10.out).mono ?_
  rintro e w11 ⟨rfl, h11⟩
  have a_11 := Lib.hid (a_10.out.below h11)
  have b_11 := Lib.hid (b_10.out.below h11)
  have z_11 := Lib.hid (z_10.out.below h11)
  have m_11 := Lib.hid (m_10.out.below h11)
  have x_11 := Lib.hid (x_10.out.below h11)
  have y_11 := Lib.hid (y_10.out.below h11)
  have no_11 := Lib.hid (no_10.out.below h11)
  have ow_11 := Lib.hid (ow_10.out.below h11)
  have B11 := Lib.hid (B10.out.trans (h11.mono B10.out.size))
  clear h11
  go_wp2_with fail
  refine (HE2.out _ _ _ _ _ _ _ no_11.out z_11.out).mono ?_
  rintro e w12 ⟨rfl, h12⟩
  have a_12 := Lib.hid (a_11.out.below h12)
  have b_12 := Lib.hid (b_11.out.below h12)
  have z_12 := Lib.hid (z_11.out.below h12)
  have m_12 := Lib.hid (m_11.out.below h12)
  have no_12 := Lib.hid (no_11.out.below h12)
  have ow_12 := Lib.hid (ow_11.out.below h12)
  have B12 := Lib.hid (B11.out.trans (h12.mono B11.out.size))
  clear h12
  go_wp2_with fail
  refine (HE3.out _ _ _ _ _ _ _ ow_12.out a_12.out).mono ?_
  rintro e w13 ⟨rfl, h13⟩
  have a_13 := Lib.hid (a_12.out.below h13)
  have b_13 := Lib.hid (b_12.out.below h13)
  have m_13 := Lib.hid (m_12.out.below h13)
  have ow_13 := Lib.hid (ow_12.out.below h13)
  have B13 := Lib.hid (B12.out.trans (h13.mono B12.out.size))
  clear h13
  go_wp2_with fail
  refine (HD1.out _ _ _ _ _ _ _ a_13.out b_13.out).mono ?_
  rintro e w14 ⟨rfl, h14⟩
  have a_14 := Lib.hid (a_13.out.below h14)
  have b_14 := Lib.hid (b_13.out.below h14)
  have m_14 := Lib.hid (m_13.out.below h14)
  have B14 := Lib.hid (B13.out.trans (h14.mono B13.out.size))
  clear h14
  go_wp2_with fail
  refine (HD2.out _ _ _ _ _ _ _ b_14.out a_14.out).mono ?_
  rintro e w15 ⟨rfl, h15⟩
  have a_15 := Lib.hid (a_14.out.below h15)
  have b_15 := Lib.hid (b_14.out.below h15)
  have m_15 := Lib.hid (m_14.out.below h15)
  have B15 := Lib.hid (B14.out.trans (h15.mono B14.out.size))
  clear h15
  go_wp2_with fail
  refine (HSC.out _ _ _ _ a_15.out).mono ?_
  rintro e w16 ⟨a_t, n_t, c_t, rfl, hr16, h16⟩
  have a_16 := Lib.hid (a_15.out.below h16)
  have b_16 := Lib.hid (b_15.out.below h16)
  have m_16 := Lib.hid (m_15.out.below h16)
  have B16 := Lib.hid (B15.out.trans (h16.mono B15.out.size))
  have hcap_t := hr16.cap
  have t_16 := Lib.hid hr16
  clear h16 hr16
  go_wp2_with fail
  refine (HD3.out _ _ _ _ _ _ _ t_16.out b_16.out).mono ?_
  rintro e w17 ⟨rfl, h17⟩
  have a_17 := Lib.hid (a_16.out.below h17)
  have b_17 := Lib.hid (b_16.out.below h17)
  have m_17 := Lib.hid (m_16.out.below h17)
  have t_17 := Lib.hid (t_16.out.below h17)
  have B17 := Lib.hid (B16.out.trans (h17.mono B16.out.size))
  clear h17
  go_wp2_with fail
  refine (HN1.out _ _ _ _ a_17.out).mono ?_
  rintro e w18 ⟨a_n1, n_n1, c_n1, rfl, hr18, h18⟩
  have a_18 := Lib.hid (a_17.out.below h18)
  have m_18 := Lib.hid (m_17.out.below h18)
  have B18 := Lib.hid (B17.out.trans (h18.mono B17.out.size))
  have hcap_n1 := hr18.cap
  have n1_18 := Lib.hid hr18
  clear h18 hr18
  go_wp2_with fail
  refine (HN2.out _ _ _ _ m_18.out).mono ?_
  rintro e w19 ⟨a_n2, n_n2, c_n2, rfl, hr19, h19⟩
  have a_19 := Lib.hid (a_18.out.below h19)
  have m_19 := Lib.hid (m_18.out.below h19)
  have n1_19 := Lib.hid (n1_18.out.below h19)
  have B19 := Lib.hid (B18.out.trans (h19.mono B18.out.size))
  have hcap_n2 := hr19.cap
  have n2_19 := Lib.hid hr19
  clear h19 hr19
  go_wp2_with fail
  refine (HE4.out _ _ _ _ _ _ _ n1_19.out n2_19.out).mono ?_
  rintro e w20 ⟨rfl, h20⟩
  have n1_20 := Lib.hid (n1_19.out.below h20)
  have n2_20 := Lib.hid (n2_19.out.below h20)
  have B20 := Lib.hid (B19.out.trans (h20.mono B19.out.size))
  clear h20
  go_wp2_with fail
  go_ret
  exact ⟨rfl, B20.out⟩

theorem groups_law (a : Option Addr) (l c : Nat) (z : List Int) (a2 : Option Addr) (l2 c2 : Nat) (z2 : List Int) (k : Int) (w : World) (hs : Std w) (r1 : Rd8 w a l c z) (r2 : Rd8 w a2 l2 c2 z2) (wk : (Lit.int .i8 k).wf = true) :
    Calls Tryd.prog 10 #[.slice a l c, .slice a2 l2 c2, .int .i8 k] w fun e w' => e = .returned (.bool true) ∧ Below w.heap.size w w' := by
  have hk := bounds_i8 wk
  by_cases hl : l ≤ 8
  · by_cases h : l2 ≤ 8
    · exact groups_good a l c z a2 l2 c2 z2 k w hs r1 r2 hl h hk.1 hk.2
    · exact groups_long2 a l c z a2 l2 c2 z2 k w hs r1 r2 hl (by omega)
  · exact groups_long1 a l c z a2 l2 c2 z2 k w hs r1 r2 (by omega)
end Go.Proofs.YtgcddiakdmddjaaDoor
