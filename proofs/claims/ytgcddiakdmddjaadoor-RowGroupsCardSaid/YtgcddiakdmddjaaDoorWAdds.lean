/-
  The walk of the law RowAdds.
-/
import Derived.Test.YtgcddiakdmddjaaDoorWRefScale
namespace Go.Proofs.YtgcddiakdmddjaaDoor
open Go.RowKit

/-- a result against the reference's -/
def Rel (V : List Int) (E : Int) (V' : List Int) (ok : Bool) : Prop := (ok = true ∧ V = V' ∧ E = 0) ∨ (ok = false ∧ V = [] ∧ E = 4)
set_option maxHeartbeats 800000 in
theorem same_any (a : Option Addr) (n c : Nat) (V : List Int) (E : Int) (a2 : Option Addr) (n2 c2 : Nat) (V' : List Int) (ok : Bool) (w : World) (h : Rd w a n c V) (h2 : Rd w a2 n2 c2 (if ok = true then V' else [])) (hr : Rel V E V' ok) :
    Calls Tryd.prog 29 #[.slice a n c, .int .i64 E, .slice a2 n2 c2, .bool ok] w fun e w' => e = .returned (.bool true) ∧ Below w.heap.size w w' := by
  have hc := h.cap
  rcases hr with ⟨rfl, rfl, rfl⟩ | ⟨rfl, rfl, rfl⟩
  · rw [if_pos rfl] at h2
    have he := equalR_any a a2 n c n2 c2 V V w h h2
    rw [show decide (V = V) = true from decide_eq_true rfl] at he
    have HE := Lib.hid he
    clear h h2 he
    go_enter Tryd.func29, Tryd.ntmps29
    go_wp2_with fail
    refine HE.out.mono ?_
    rintro e w1 ⟨rfl, h1⟩
    go_wp2_with fail
    go_ret
    exact ⟨rfl, h1⟩
  · obtain rfl : n = 0 := h.len.symm
    clear h h2
    go_enter Tryd.func29, Tryd.ntmps29
    go_wp2_with fail
    go_ret
    exact ⟨rfl, Below.refl _ _⟩
theorem rel_scale {zs : List Int} {k : Int} (ok : okB zs = true) : Rel (scaleV zs k) (scaleE zs k) (zs.map (k * ·)) (scOk zs k) := by
  rcases scale_rel (k := k) ok with ⟨h1, h2, h3⟩ | ⟨h1, h2, h3⟩
  · exact .inl ⟨h1, h2, h3⟩
  · exact .inr ⟨h1, h2, h3⟩
theorem rel_plus {xs ys : List Int} {s : Int} (h : pairE xs ys = 0) : Rel (plusV s xs ys) (plusE s xs ys) (plusL s xs ys) (okB (plusL s xs ys)) := by
  unfold plusV plusE
  rw [if_pos h, if_pos h]
  unfold chkV
  cases om : okB (plusL s xs ys) with
  | true => exact .inl ⟨rfl, by rw [if_pos rfl], errR_ok om⟩
  | false => exact .inr ⟨rfl, by rw [if_neg (by simp)], errR_no om⟩
theorem neg_vals {zs : List Int} (ok : okB zs = true) : scaleV zs (-1) = zs.map (fun z => -z) ∧ scaleE zs (-1) = 0 := by
  have hm : zs.map ((-1) * ·) = zs.map (fun z => -z) := List.map_congr_left fun z _ => by show -1 * z = -z; omega
  have hok : okB (zs.map ((-1) * ·)) = true := by
    refine okB_good (by rw [List.length_map]; exact okB_len ok) (List.all_eq_true.2 fun z hz => ?_)
    obtain ⟨y, hy, rfl⟩ := List.mem_map.1 hz
    have := okB_ent ok hy
    exact entB_iff.2 (by show _ ≤ -1 * y ∧ -1 * y ≤ _; omega)
  rcases scale_rel (k := -1) ok with ⟨h1, h2, h3⟩ | ⟨h1, h2, h3⟩
  · exact ⟨by rw [h2, hm], h3⟩
  · exfalso
    unfold scOk at h1
    rw [hok] at h1
    cases hz : zeroB zs <;> simp [hz] at h1
    exact absurd h1 (by decide)
theorem bad_vals {zs : List Int} (ok : okB zs = false) (k : Int) : scaleV zs k = [] ∧ scaleE zs k = 4 := by
  unfold scaleV scaleE; rw [if_neg (by simp [ok]), if_neg (by simp [ok])]; exact ⟨rfl, rfl⟩
theorem pair_bad {xs ys : List Int} (s : Int) (h : pairE xs ys ≠ 0) : plusV s xs ys = [] ∧ plusE s xs ys = pairE xs ys := by
  unfold plusV plusE; rw [if_neg h, if_neg h]; exact ⟨rfl, rfl⟩
theorem pairE_no {xs ys : List Int} (ok : okB xs = false) : pairE xs ys = 4 := by unfold pairE; rw [if_neg (by simp [ok])]

set_option maxHeartbeats 3200000 in
set_option maxRecDepth 100000 in
theorem adds_long1 (a : Option Addr) (l c : Nat) (z : List Int) (a2 : Option Addr) (l2 c2 : Nat) (z2 : List Int) (k : Int) (w : World) (hs : Std w) (r1 : Rd w a l c z) (r2 : Rd w a2 l2 c2 z2) (h : 80 < l) :
    Calls Tryd.prog 6 #[.slice a l c, .slice a2 l2 c2, .int .i64 k] w fun e w' => e = .returned (.bool true) ∧ Below w.heap.size w w' := by
  have HS := Lib.hid hs
  have hc := r1.cap
  have hc2 := r2.cap
  have R1 := Lib.hid r1
  have R2 := Lib.hid r2
  clear hs r1 r2
  go_enter Tryd.func6, Tryd.ntmps6
  go_wp2_with fail
  refine (known_any _ HS.out).mono ?_
  rintro e w1 ⟨rfl, h1⟩
  have B1 := Lib.hid h1
  clear h1
  go_wp2_with fail
  refine (known_any _ (HS.out.below B1.out)).mono ?_
  rintro e w2 ⟨rfl, h2⟩
  have B2 := Lib.hid (B1.out.trans (h2.mono B1.out.size))
  clear h2
  go_wp2_with fail
  go_ret
  exact ⟨rfl, B2.out⟩

set_option maxHeartbeats 3200000 in
set_option maxRecDepth 100000 in
theorem adds_long2 (a : Option Addr) (l c : Nat) (z : List Int) (a2 : Option Addr) (l2 c2 : Nat) (z2 : List Int) (k : Int) (w : World) (hs : Std w) (r1 : Rd w a l c z) (r2 : Rd w a2 l2 c2 z2) (hl : l ≤ 80) (h : 80 < l2) :
    Calls Tryd.prog 6 #[.slice a l c, .slice a2 l2 c2, .int .i64 k] w fun e w' => e = .returned (.bool true) ∧ Below w.heap.size w w' := by
  have HS := Lib.hid hs
  have hc := r1.cap
  have hc2 := r2.cap
  have R1 := Lib.hid r1
  have R2 := Lib.hid r2
  clear hs r1 r2
  go_enter Tryd.func6, Tryd.ntmps6
  go_wp2_with fail
  refine (known_any _ HS.out).mono ?_
  rintro e w1 ⟨rfl, h1⟩
  have B1 := Lib.hid h1
  clear h1
  go_wp2_with fail
  refine (known_any _ (HS.out.below B1.out)).mono ?_
  rintro e w2 ⟨rfl, h2⟩
  have B2 := Lib.hid (B1.out.trans (h2.mono B1.out.size))
  clear h2
  go_wp2_with fail
  go_ret
  exact ⟨rfl, B2.out⟩

set_option maxHeartbeats 3200000 in
set_option maxRecDepth 100000 in
theorem adds_bad (a : Option Addr) (l c : Nat) (z : List Int) (a2 : Option Addr) (l2 c2 : Nat) (z2 : List Int) (k : Int) (w : World) (hs : Std w) (r1 : Rd w a l c z) (r2 : Rd w a2 l2 c2 z2) (hl : l ≤ 80) (hl2 : l2 ≤ 80) (ok : okB z = false) :
    Calls Tryd.prog 6 #[.slice a l c, .slice a2 l2 c2, .int .i64 k] w fun e w' => e = .returned (.bool true) ∧ Below w.heap.size w w' := by
  have HS := Lib.hid hs
  have hc := r1.cap
  have hc2 := r2.cap
  have HA := Lib.hid (fun wx h1 h2 => addRow_any a a2 l c l2 c2 z z2 wx h1 h2)
  have HB := Lib.hid (fun wx h1 h2 => subRow_any a a2 l c l2 c2 z z2 wx h1 h2)
  have HN := Lib.hid (fun wx h1 => negN_any a l c z wx h1)
  have HC := Lib.hid (fun wx h1 => scaleN_any a l c z k wx h1)
  have HK1 := Lib.hid (fun wx h1 => checkR_any a l c z wx h1)
  have HK2 := Lib.hid (fun wx h1 => checkR_any a2 l2 c2 z2 wx h1)
  rw [(pair_bad 1 (by rw [pairE_no ok]; decide)).1, (pair_bad 1 (by rw [pairE_no ok]; decide)).2, pairE_no ok] at HA
  rw [(pair_bad (-1) (by rw [pairE_no ok]; decide)).1, (pair_bad (-1) (by rw [pairE_no ok]; decide)).2, pairE_no ok] at HB
  rw [(bad_vals ok (-1)).1, (bad_vals ok (-1)).2] at HN
  rw [(bad_vals ok k).1, (bad_vals ok k).2] at HC
  rw [errR_no ok] at HK1
  obtain ⟨E2, hE2⟩ : ∃ E2, E2 = errR z2 := ⟨_, rfl⟩
  rw [← hE2] at HK2
  clear ok hE2
  have R1 := Lib.hid r1
  have R2 := Lib.hid r2
  clear hs r1 r2
  go_enter Tryd.func6, Tryd.ntmps6
  go_wp2_with fail
  refine (known_any _ HS.out).mono ?_
  rintro e w1 ⟨rfl, h1⟩
  have A_1 := Lib.hid (R1.out.below h1)
  have Bb_1 := Lib.hid (R2.out.below h1)
  have B1 := Lib.hid h1
  clear h1
  go_wp2_with fail
  refine (HA.out _ A_1.out Bb_1.out).mono ?_
  rintro e w2 ⟨a_x, n_x, c_x, rfl, hr2, h2⟩
  have A_2 := Lib.hid (A_1.out.below h2)
  have Bb_2 := Lib.hid (Bb_1.out.below h2)
  have B2 := Lib.hid (B1.out.trans (h2.mono B1.out.size))
  have hcap_x := hr2.cap
  obtain rfl : n_x = 0 := hr2.len.symm
  have x_2 := Lib.hid hr2
  clear h2 hr2
  go_wp2_with fail
  refine (HB.out _ A_2.out Bb_2.out).mono ?_
  rintro e w3 ⟨a_y, n_y, c_y, rfl, hr3, h3⟩
  have A_3 := Lib.hid (A_2.out.below h3)
  have Bb_3 := Lib.hid (Bb_2.out.below h3)
  have x_3 := Lib.hid (x_2.out.below h3)
  have B3 := Lib.hid (B2.out.trans (h3.mono B2.out.size))
  have hcap_y := hr3.cap
  obtain rfl : n_y = 0 := hr3.len.symm
  have y_3 := Lib.hid hr3
  clear h3 hr3
  go_wp2_with fail
  refine (HN.out _ A_3.out).mono ?_
  rintro e w4 ⟨a_z_, n_z_, c_z_, rfl, hr4, h4⟩
  have A_4 := Lib.hid (A_3.out.below h4)
  have Bb_4 := Lib.hid (Bb_3.out.below h4)
  have x_4 := Lib.hid (x_3.out.below h4)
  have y_4 := Lib.hid (y_3.out.below h4)
  have B4 := Lib.hid (B3.out.trans (h4.mono B3.out.size))
  have hcap_z_ := hr4.cap
  obtain rfl : n_z_ = 0 := hr4.len.symm
  have z__4 := Lib.hid hr4
  clear h4 hr4
  go_wp2_with fail
  refine (HC.out _ A_4.out).mono ?_
  rintro e w5 ⟨a_u, n_u, c_u, rfl, hr5, h5⟩
  have A_5 := Lib.hid (A_4.out.below h5)
  have Bb_5 := Lib.hid (Bb_4.out.below h5)
  have x_5 := Lib.hid (x_4.out.below h5)
  have y_5 := Lib.hid (y_4.out.below h5)
  have z__5 := Lib.hid (z__4.out.below h5)
  have B5 := Lib.hid (B4.out.trans (h5.mono B4.out.size))
  have hcap_u := hr5.cap
  obtain rfl : n_u = 0 := hr5.len.symm
  have u_5 := Lib.hid hr5
  clear h5 hr5
  go_wp2_with fail
  refine (HK1.out _ A_5.out).mono ?_
  rintro e w6 ⟨rfl, rfl⟩
  go_wp2_with fail
  refine (HK2.out _ Bb_5.out).mono ?_
  rintro e w7 ⟨rfl, rfl⟩
  go_wp2_with fail
  go_ret
  exact ⟨rfl, B5.out⟩

set_option maxHeartbeats 3200000 in
set_option maxRecDepth 100000 in
theorem adds_two (a : Option Addr) (l c : Nat) (z : List Int) (a2 : Option Addr) (l2 c2 : Nat) (z2 : List Int) (k : Int) (w : World) (hs : Std w) (r1 : Rd w a l c z) (r2 : Rd w a2 l2 c2 z2) (hl : l ≤ 80) (hl2 : l2 ≤ 80) (ok : okB z = true) (ok2 : okB z2 = false) :
    Calls Tryd.prog 6 #[.slice a l c, .slice a2 l2 c2, .int .i64 k] w fun e w' => e = .returned (.bool true) ∧ Below w.heap.size w w' := by
  have HS := Lib.hid hs
  have hc := r1.cap
  have hc2 := r2.cap
  have HA := Lib.hid (fun wx h1 h2 => addRow_any a a2 l c l2 c2 z z2 wx h1 h2)
  have HB := Lib.hid (fun wx h1 h2 => subRow_any a a2 l c l2 c2 z z2 wx h1 h2)
  have HN := Lib.hid (fun wx h1 => negN_any a l c z wx h1)
  have HC := Lib.hid (fun wx h1 => scaleN_any a l c z k wx h1)
  have HK1 := Lib.hid (fun wx h1 => checkR_any a l c z wx h1)
  have HK2 := Lib.hid (fun wx h1 => checkR_any a2 l2 c2 z2 wx h1)
  have hpe : pairE z z2 = 4 := by unfold pairE; rw [if_pos ok, if_neg (by simp [ok2])]
  rw [(pair_bad 1 (by rw [hpe]; decide)).1, (pair_bad 1 (by rw [hpe]; decide)).2, hpe] at HA
  rw [(pair_bad (-1) (by rw [hpe]; decide)).1, (pair_bad (-1) (by rw [hpe]; decide)).2, hpe] at HB
  rw [errR_no ok2] at HK2
  rw [(neg_vals ok).1, (neg_vals ok).2] at HN
  rw [errR_ok ok] at HK1
  have HRS := Lib.hid (fun wx h1 => scaleR_any a l c z k wx h1 ok)
  have HRN := Lib.hid (fun wx h1 => negR_any a l c z wx h1 ok)
  have HREL := Lib.hid (rel_scale (k := k) ok)
  obtain ⟨SV, hSV⟩ : ∃ SV, SV = scaleV z k := ⟨_, rfl⟩
  obtain ⟨SE, hSE⟩ : ∃ SE, SE = scaleE z k := ⟨_, rfl⟩
  obtain ⟨SO, hSO⟩ : ∃ SO, SO = scOk z k := ⟨_, rfl⟩
  rw [← hSV, ← hSE] at HC
  rw [← hSO] at HRS
  rw [← hSV, ← hSE, ← hSO] at HREL
  obtain ⟨NV, hNV⟩ : ∃ NV, NV = z.map (fun z => -z) := ⟨_, rfl⟩
  rw [← hNV] at HN HRN
  have HEQ := Lib.hid (fun wx a n c a' n' c' h1 h2 => equalR_any a a' n c n' c' NV NV wx h1 h2)
  rw [show decide (NV = NV) = true from decide_eq_true rfl] at HEQ
  have HSM := Lib.hid (fun wx a n c a' n' c' h1 h2 => same_any a n c SV SE a' n' c' _ SO wx h1 h2 HREL.out)
  clear hSV hSE hSO hNV
  clear ok ok2 hpe
  have R1 := Lib.hid r1
  have R2 := Lib.hid r2
  clear hs r1 r2
  go_enter Tryd.func6, Tryd.ntmps6
  go_wp2_with fail
  refine (known_any _ HS.out).mono ?_
  rintro e w1 ⟨rfl, h1⟩
  have A_1 := Lib.hid (R1.out.below h1)
  have Bb_1 := Lib.hid (R2.out.below h1)
  have B1 := Lib.hid h1
  clear h1
  go_wp2_with fail
  refine (HA.out _ A_1.out Bb_1.out).mono ?_
  rintro e w2 ⟨a_x, n_x, c_x, rfl, hr2, h2⟩
  have A_2 := Lib.hid (A_1.out.below h2)
  have Bb_2 := Lib.hid (Bb_1.out.below h2)
  have B2 := Lib.hid (B1.out.trans (h2.mono B1.out.size))
  have hcap_x := hr2.cap
  obtain rfl : n_x = 0 := hr2.len.symm
  have x_2 := Lib.hid hr2
  clear h2 hr2
  go_wp2_with fail
  refine (HB.out _ A_2.out Bb_2.out).mono ?_
  rintro e w3 ⟨a_y, n_y, c_y, rfl, hr3, h3⟩
  have A_3 := Lib.hid (A_2.out.below h3)
  have Bb_3 := Lib.hid (Bb_2.out.below h3)
  have x_3 := Lib.hid (x_2.out.below h3)
  have B3 := Lib.hid (B2.out.trans (h3.mono B2.out.size))
  have hcap_y := hr3.cap
  obtain rfl : n_y = 0 := hr3.len.symm
  have y_3 := Lib.hid hr3
  clear h3 hr3
  go_wp2_with fail
  refine (HN.out _ A_3.out).mono ?_
  rintro e w4 ⟨a_z_, n_z_, c_z_, rfl, hr4, h4⟩
  have A_4 := Lib.hid (A_3.out.below h4)
  have Bb_4 := Lib.hid (Bb_3.out.below h4)
  have x_4 := Lib.hid (x_3.out.below h4)
  have y_4 := Lib.hid (y_3.out.below h4)
  have B4 := Lib.hid (B3.out.trans (h4.mono B3.out.size))
  have hcap_z_ := hr4.cap
  have z__4 := Lib.hid hr4
  clear h4 hr4
  go_wp2_with fail
  refine (HC.out _ A_4.out).mono ?_
  rintro e w5 ⟨a_u, n_u, c_u, rfl, hr5, h5⟩
  have A_5 := Lib.hid (A_4.out.below h5)
  have Bb_5 := Lib.hid (Bb_4.out.below h5)
  have x_5 := Lib.hid (x_4.out.below h5)
  have y_5 := Lib.hid (y_4.out.below h5)
  have z__5 := Lib.hid (z__4.out.below h5)
  have B5 := Lib.hid (B4.out.trans (h5.mono B4.out.size))
  have hcap_u := hr5.cap
  have u_5 := Lib.hid hr5
  clear h5 hr5
  go_wp2_with fail
  refine (HK1.out _ A_5.out).mono ?_
  rintro e w6 ⟨rfl, rfl⟩
  go_wp2_with fail
  refine (HK2.out _ Bb_5.out).mono ?_
  rintro e w7 ⟨rfl, rfl⟩
  go_wp2_with fail
  refine (HRS.out _ A_5.out).mono ?_
  rintro e w8 ⟨a_v, n_v, c_v, rfl, hr8, h8⟩
  have A_8 := Lib.hid (A_5.out.below h8)
  have Bb_8 := Lib.hid (Bb_5.out.below h8)
  have x_8 := Lib.hid (x_5.out.below h8)
  have y_8 := Lib.hid (y_5.out.below h8)
  have z__8 := Lib.hid (z__5.out.below h8)
  have u_8 := Lib.hid (u_5.out.below h8)
  have B8 := Lib.hid (B5.out.trans (h8.mono B5.out.size))
  have hcap_v := hr8.cap
  have v_8 := Lib.hid hr8
  clear h8 hr8
  go_wp2_with fail
  refine (HRN.out _ A_8.out).mono ?_
  rintro e w9 ⟨a_nn, n_nn, c_nn, rfl, hr9, h9⟩
  have A_9 := Lib.hid (A_8.out.below h9)
  have Bb_9 := Lib.hid (Bb_8.out.below h9)
  have x_9 := Lib.hid (x_8.out.below h9)
  have y_9 := Lib.hid (y_8.out.below h9)
  have z__9 := Lib.hid (z__8.out.below h9)
  have u_9 := Lib.hid (u_8.out.below h9)
  have v_9 := Lib.hid (v_8.out.below h9)
  have B9 := Lib.hid (B8.out.trans (h9.mono B8.out.size))
  have hcap_nn := hr9.cap
  have nn_9 := Lib.hid hr9
  clear h9 hr9
  go_wp2_with fail
  refine (HEQ.out _ _ _ _ _ _ _ z__9.out nn_9.out).mono ?_
  rintro e w10 ⟨rfl, h10⟩
  have A_10 := Lib.hid (A_9.out.below h10)
  have Bb_10 := Lib.hid (Bb_9.out.below h10)
  have x_10 := Lib.hid (x_9.out.below h10)
  have y_10 := Lib.hid (y_9.out.below h10)
  have z__10 := Lib.hid (z__9.out.below h10)
  have u_10 := Lib.hid (u_9.out.below h10)
  have v_10 := Lib.hid (v_9.out.below h10)
  have nn_10 := Lib.hid (nn_9.out.below h10)
  have B10 := Lib.hid (B9.out.trans (h10.mono B9.out.size))
  clear h10
  go_wp2_with fail
  refine (HSM.out _ _ _ _ _ _ _ u_10.out v_10.out).mono ?_
  rintro e w11 ⟨rfl, h11⟩
  have A_11 := Lib.hid (A_10.out.below h11)
  have Bb_11 := Lib.hid (Bb_10.out.below h11)
  have x_11 := Lib.hid (x_10.out.below h11)
  have y_11 := Lib.hid (y_10.out.below h11)
  have u_11 := Lib.hid (u_10.out.below h11)
  have v_11 := Lib.hid (v_10.out.below h11)
  have B11 := Lib.hid (B10.out.trans (h11.mono B10.out.size))
  clear h11
  go_wp2_with fail
  go_ret
  exact ⟨rfl, B11.out⟩

set_option maxHeartbeats 3200000 in
set_option maxRecDepth 100000 in
theorem adds_size (a : Option Addr) (l c : Nat) (z : List Int) (a2 : Option Addr) (l2 c2 : Nat) (z2 : List Int) (k : Int) (w : World) (hs : Std w) (r1 : Rd w a l c z) (r2 : Rd w a2 l2 c2 z2) (hl : l ≤ 80) (hl2 : l2 ≤ 80) (ok : okB z = true) (ok2 : okB z2 = true) (hne : l ≠ l2) :
    Calls Tryd.prog 6 #[.slice a l c, .slice a2 l2 c2, .int .i64 k] w fun e w' => e = .returned (.bool true) ∧ Below w.heap.size w w' := by
  have HS := Lib.hid hs
  have hc := r1.cap
  have hc2 := r2.cap
  have HA := Lib.hid (fun wx h1 h2 => addRow_any a a2 l c l2 c2 z z2 wx h1 h2)
  have HB := Lib.hid (fun wx h1 h2 => subRow_any a a2 l c l2 c2 z z2 wx h1 h2)
  have HN := Lib.hid (fun wx h1 => negN_any a l c z wx h1)
  have HC := Lib.hid (fun wx h1 => scaleN_any a l c z k wx h1)
  have HK1 := Lib.hid (fun wx h1 => checkR_any a l c z wx h1)
  have HK2 := Lib.hid (fun wx h1 => checkR_any a2 l2 c2 z2 wx h1)
  have hpe : pairE z z2 = 5 := by unfold pairE; rw [if_pos ok, if_pos ok2, if_neg (by rw [r1.len, r2.len]; exact hne)]
  have hnb : ((l : Int) != (l2 : Int)) = true := by simp; omega
  rw [(pair_bad 1 (by rw [hpe]; decide)).1, (pair_bad 1 (by rw [hpe]; decide)).2, hpe] at HA
  rw [(pair_bad (-1) (by rw [hpe]; decide)).1, (pair_bad (-1) (by rw [hpe]; decide)).2, hpe] at HB
  rw [errR_ok ok2] at HK2
  rw [(neg_vals ok).1, (neg_vals ok).2] at HN
  rw [errR_ok ok] at HK1
  have HRS := Lib.hid (fun wx h1 => scaleR_any a l c z k wx h1 ok)
  have HRN := Lib.hid (fun wx h1 => negR_any a l c z wx h1 ok)
  have HREL := Lib.hid (rel_scale (k := k) ok)
  obtain ⟨SV, hSV⟩ : ∃ SV, SV = scaleV z k := ⟨_, rfl⟩
  obtain ⟨SE, hSE⟩ : ∃ SE, SE = scaleE z k := ⟨_, rfl⟩
  obtain ⟨SO, hSO⟩ : ∃ SO, SO = scOk z k := ⟨_, rfl⟩
  rw [← hSV, ← hSE] at HC
  rw [← hSO] at HRS
  rw [← hSV, ← hSE, ← hSO] at HREL
  obtain ⟨NV, hNV⟩ : ∃ NV, NV = z.map (fun z => -z) := ⟨_, rfl⟩
  rw [← hNV] at HN HRN
  have HEQ := Lib.hid (fun wx a n c a' n' c' h1 h2 => equalR_any a a' n c n' c' NV NV wx h1 h2)
  rw [show decide (NV = NV) = true from decide_eq_true rfl] at HEQ
  have HSM := Lib.hid (fun wx a n c a' n' c' h1 h2 => same_any a n c SV SE a' n' c' _ SO wx h1 h2 HREL.out)
  clear hSV hSE hSO hNV
  clear ok ok2 hpe hne
  have R1 := Lib.hid r1
  have R2 := Lib.hid r2
  clear hs r1 r2
  go_enter Tryd.func6, Tryd.ntmps6
  go_wp2_with fail
  refine (known_any _ HS.out).mono ?_
  rintro e w1 ⟨rfl, h1⟩
  have A_1 := Lib.hid (R1.out.below h1)
  have Bb_1 := Lib.hid (R2.out.below h1)
  have B1 := Lib.hid h1
  clear h1
  go_wp2_with fail
  refine (HA.out _ A_1.out Bb_1.out).mono ?_
  rintro e w2 ⟨a_x, n_x, c_x, rfl, hr2, h2⟩
  have A_2 := Lib.hid (A_1.out.below h2)
  have Bb_2 := Lib.hid (Bb_1.out.below h2)
  have B2 := Lib.hid (B1.out.trans (h2.mono B1.out.size))
  have hcap_x := hr2.cap
  obtain rfl : n_x = 0 := hr2.len.symm
  have x_2 := Lib.hid hr2
  clear h2 hr2
  go_wp2_with fail
  refine (HB.out _ A_2.out Bb_2.out).mono ?_
  rintro e w3 ⟨a_y, n_y, c_y, rfl, hr3, h3⟩
  have A_3 := Lib.hid (A_2.out.below h3)
  have Bb_3 := Lib.hid (Bb_2.out.below h3)
  have x_3 := Lib.hid (x_2.out.below h3)
  have B3 := Lib.hid (B2.out.trans (h3.mono B2.out.size))
  have hcap_y := hr3.cap
  obtain rfl : n_y = 0 := hr3.len.symm
  have y_3 := Lib.hid hr3
  clear h3 hr3
  go_wp2_with fail
  refine (HN.out _ A_3.out).mono ?_
  rintro e w4 ⟨a_z_, n_z_, c_z_, rfl, hr4, h4⟩
  have A_4 := Lib.hid (A_3.out.below h4)
  have Bb_4 := Lib.hid (Bb_3.out.below h4)
  have x_4 := Lib.hid (x_3.out.below h4)
  have y_4 := Lib.hid (y_3.out.below h4)
  have B4 := Lib.hid (B3.out.trans (h4.mono B3.out.size))
  have hcap_z_ := hr4.cap
  have z__4 := Lib.hid hr4
  clear h4 hr4
  go_wp2_with fail
  refine (HC.out _ A_4.out).mono ?_
  rintro e w5 ⟨a_u, n_u, c_u, rfl, hr5, h5⟩
  have A_5 := Lib.hid (A_4.out.below h5)
  have Bb_5 := Lib.hid (Bb_4.out.below h5)
  have x_5 := Lib.hid (x_4.out.below h5)
  have y_5 := Lib.hid (y_4.out.below h5)
  have z__5 := Lib.hid (z__4.out.below h5)
  have B5 := Lib.hid (B4.out.trans (h5.mono B4.out.size))
  have hcap_u := hr5.cap
  have u_5 := Lib.hid hr5
  clear h5 hr5
  go_wp2_with fail
  refine (HK1.out _ A_5.out).mono ?_
  rintro e w6 ⟨rfl, rfl⟩
  go_wp2_with fail
  refine (HK2.out _ Bb_5.out).mono ?_
  rintro e w7 ⟨rfl, rfl⟩
  go_wp2_with fail
  refine (HRS.out _ A_5.out).mono ?_
  rintro e w8 ⟨a_v, n_v, c_v, rfl, hr8, h8⟩
  have A_8 := Lib.hid (A_5.out.below h8)
  have Bb_8 := Lib.hid (Bb_5.out.below h8)
  have x_8 := Lib.hid (x_5.out.below h8)
  have y_8 := Lib.hid (y_5.out.below h8)
  have z__8 := Lib.hid (z__5.out.below h8)
  have u_8 := Lib.hid (u_5.out.below h8)
  have B8 := Lib.hid (B5.out.trans (h8.mono B5.out.size))
  have hcap_v := hr8.cap
  have v_8 := Lib.hid hr8
  clear h8 hr8
  go_wp2_with fail
  refine (HRN.out _ A_8.out).mono ?_
  rintro e w9 ⟨a_nn, n_nn, c_nn, rfl, hr9, h9⟩
  have A_9 := Lib.hid (A_8.out.below h9)
  have Bb_9 := Lib.hid (Bb_8.out.below h9)
  have x_9 := Lib.hid (x_8.out.below h9)
  have y_9 := Lib.hid (y_8.out.below h9)
  have z__9 := Lib.hid (z__8.out.below h9)
  have u_9 := Lib.hid (u_8.out.below h9)
  have v_9 := Lib.hid (v_8.out.below h9)
  have B9 := Lib.hid (B8.out.trans (h9.mono B8.out.size))
  have hcap_nn := hr9.cap
  have nn_9 := Lib.hid hr9
  clear h9 hr9
  go_wp2_with fail
  refine (HEQ.out _ _ _ _ _ _ _ z__9.out nn_9.out).mono ?_
  rintro e w10 ⟨rfl, h10⟩
  have A_10 := Lib.hid (A_9.out.below h10)
  have Bb_10 := Lib.hid (Bb_9.out.below h10)
  have x_10 := Lib.hid (x_9.out.below h10)
  have y_10 := Lib.hid (y_9.out.below h10)
  have z__10 := Lib.hid (z__9.out.below h10)
  have u_10 := Lib.hid (u_9.out.below h10)
  have v_10 := Lib.hid (v_9.out.below h10)
  have nn_10 := Lib.hid (nn_9.out.below h10)
  have B10 := Lib.hid (B9.out.trans (h10.mono B9.out.size))
  clear h10
  go_wp2_with fail
  refine (HSM.out _ _ _ _ _ _ _ u_10.out v_10.out).mono ?_
  rintro e w11 ⟨rfl, h11⟩
  have A_11 := Lib.hid (A_10.out.below h11)
  have Bb_11 := Lib.hid (Bb_10.out.below h11)
  have x_11 := Lib.hid (x_10.out.below h11)
  have y_11 := Lib.hid (y_10.out.below h11)
  have u_11 := Lib.hid (u_10.out.below h11)
  have v_11 := Lib.hid (v_10.out.below h11)
  have B11 := Lib.hid (B10.out.trans (h11.mono B10.out.size))
  clear h11
  go_wp2_with fail
  go_ret
  exact ⟨rfl, B11.out⟩

set_option maxHeartbeats 3200000 in
set_option maxRecDepth 100000 in
theorem adds_good (a : Option Addr) (l c : Nat) (z : List Int) (a2 : Option Addr) (l2 c2 : Nat) (z2 : List Int) (k : Int) (w : World) (hs : Std w) (r1 : Rd w a l c z) (r2 : Rd w a2 l2 c2 z2) (hl : l ≤ 80) (ok : okB z = true) (ok2 : okB z2 = true) (heq : l = l2) :
    Calls Tryd.prog 6 #[.slice a l c, .slice a2 l2 c2, .int .i64 k] w fun e w' => e = .returned (.bool true) ∧ Below w.heap.size w w' := by
  have HS := Lib.hid hs
  have hc := r1.cap
  have hc2 := r2.cap
  subst heq
  have hpe : pairE z z2 = 0 := by unfold pairE; rw [if_pos ok, if_pos ok2, if_pos (by rw [r1.len, r2.len])]
  have HA := Lib.hid (fun wx h1 h2 => addRow_any a a2 l c l c2 z z2 wx h1 h2)
  have HB := Lib.hid (fun wx h1 h2 => subRow_any a a2 l c l c2 z z2 wx h1 h2)
  have HN := Lib.hid (fun wx h1 => negN_any a l c z wx h1)
  have HC := Lib.hid (fun wx h1 => scaleN_any a l c z k wx h1)
  have HK1 := Lib.hid (fun wx h1 => checkR_any a l c z wx h1)
  have HK2 := Lib.hid (fun wx h1 => checkR_any a2 l c2 z2 wx h1)
  rw [errR_ok ok2] at HK2
  have HP := Lib.hid (fun wx h1 h2 => addR5 a a2 l c c2 z z2 wx h1 h2 ok ok2)
  have HM := Lib.hid (fun wx h1 h2 => subR5 a a2 l c c2 z z2 wx h1 h2 ok ok2)
  have HREP := Lib.hid (rel_plus (s := 1) hpe)
  have HREM := Lib.hid (rel_plus (s := -1) hpe)
  rw [(neg_vals ok).1, (neg_vals ok).2] at HN
  rw [errR_ok ok] at HK1
  have HRS := Lib.hid (fun wx h1 => scaleR_any a l c z k wx h1 ok)
  have HRN := Lib.hid (fun wx h1 => negR_any a l c z wx h1 ok)
  have HREL := Lib.hid (rel_scale (k := k) ok)
  obtain ⟨SV, hSV⟩ : ∃ SV, SV = scaleV z k := ⟨_, rfl⟩
  obtain ⟨SE, hSE⟩ : ∃ SE, SE = scaleE z k := ⟨_, rfl⟩
  obtain ⟨SO, hSO⟩ : ∃ SO, SO = scOk z k := ⟨_, rfl⟩
  rw [← hSV, ← hSE] at HC
  rw [← hSO] at HRS
  rw [← hSV, ← hSE, ← hSO] at HREL
  obtain ⟨NV, hNV⟩ : ∃ NV, NV = z.map (fun z => -z) := ⟨_, rfl⟩
  rw [← hNV] at HN HRN
  have HEQ := Lib.hid (fun wx a n c a' n' c' h1 h2 => equalR_any a a' n c n' c' NV NV wx h1 h2)
  rw [show decide (NV = NV) = true from decide_eq_true rfl] at HEQ
  have HSM := Lib.hid (fun wx a n c a' n' c' h1 h2 => same_any a n c SV SE a' n' c' _ SO wx h1 h2 HREL.out)
  clear hSV hSE hSO hNV
  obtain ⟨PV, hPV⟩ : ∃ PV, PV = plusV 1 z z2 := ⟨_, rfl⟩
  obtain ⟨PE, hPE⟩ : ∃ PE, PE = plusE 1 z z2 := ⟨_, rfl⟩
  obtain ⟨PO, hPO⟩ : ∃ PO, PO = okB (plusL 1 z z2) := ⟨_, rfl⟩
  obtain ⟨MV, hMV⟩ : ∃ MV, MV = plusV (-1) z z2 := ⟨_, rfl⟩
  obtain ⟨ME, hME⟩ : ∃ ME, ME = plusE (-1) z z2 := ⟨_, rfl⟩
  obtain ⟨MO, hMO⟩ : ∃ MO, MO = okB (plusL (-1) z z2) := ⟨_, rfl⟩
  rw [← hPV, ← hPE] at HA
  rw [← hMV, ← hME] at HB
  rw [← hPO] at HP
  rw [← hMO] at HM
  rw [← hPV, ← hPE, ← hPO] at HREP
  rw [← hMV, ← hME, ← hMO] at HREM
  have HSP := Lib.hid (fun wx a n c a' n' c' h1 h2 => same_any a n c PV PE a' n' c' _ PO wx h1 h2 HREP.out)
  have HSQ := Lib.hid (fun wx a n c a' n' c' h1 h2 => same_any a n c MV ME a' n' c' _ MO wx h1 h2 HREM.out)
  clear hPV hPE hPO hMV hME hMO hpe ok ok2
  have R1 := Lib.hid r1
  have R2 := Lib.hid r2
  clear hs r1 r2
  go_enter Tryd.func6, Tryd.ntmps6
  go_wp2_with fail
  refine (known_any _ HS.out).mono ?_
  rintro e w1 ⟨rfl, h1⟩
  have A_1 := Lib.hid (R1.out.below h1)
  have Bb_1 := Lib.hid (R2.out.below h1)
  have B1 := Lib.hid h1
  clear h1
  go_wp2_with fail
  refine (HA.out _ A_1.out Bb_1.out).mono ?_
  rintro e w2 ⟨a_x, n_x, c_x, rfl, hr2, h2⟩
  have A_2 := Lib.hid (A_1.out.below h2)
  have Bb_2 := Lib.hid (Bb_1.out.below h2)
  have B2 := Lib.hid (B1.out.trans (h2.mono B1.out.size))
  have hcap_x := hr2.cap
  have x_2 := Lib.hid hr2
  clear h2 hr2
  go_wp2_with fail
  refine (HB.out _ A_2.out Bb_2.out).mono ?_
  rintro e w3 ⟨a_y, n_y, c_y, rfl, hr3, h3⟩
  have A_3 := Lib.hid (A_2.out.below h3)
  have Bb_3 := Lib.hid (Bb_2.out.below h3)
  have x_3 := Lib.hid (x_2.out.below h3)
  have B3 := Lib.hid (B2.out.trans (h3.mono B2.out.size))
  have hcap_y := hr3.cap
  have y_3 := Lib.hid hr3
  clear h3 hr3
  go_wp2_with fail
  refine (HN.out _ A_3.out).mono ?_
  rintro e w4 ⟨a_z_, n_z_, c_z_, rfl, hr4, h4⟩
  have A_4 := Lib.hid (A_3.out.below h4)
  have Bb_4 := Lib.hid (Bb_3.out.below h4)
  have x_4 := Lib.hid (x_3.out.below h4)
  have y_4 := Lib.hid (y_3.out.below h4)
  have B4 := Lib.hid (B3.out.trans (h4.mono B3.out.size))
  have hcap_z_ := hr4.cap
  have z__4 := Lib.hid hr4
  clear h4 hr4
  go_wp2_with fail
  refine (HC.out _ A_4.out).mono ?_
  rintro e w5 ⟨a_u, n_u, c_u, rfl, hr5, h5⟩
  have A_5 := Lib.hid (A_4.out.below h5)
  have Bb_5 := Lib.hid (Bb_4.out.below h5)
  have x_5 := Lib.hid (x_4.out.below h5)
  have y_5 := Lib.hid (y_4.out.below h5)
  have z__5 := Lib.hid (z__4.out.below h5)
  have B5 := Lib.hid (B4.out.trans (h5.mono B4.out.size))
  have hcap_u := hr5.cap
  have u_5 := Lib.hid hr5
  clear h5 hr5
  go_wp2_with fail
  refine (HK1.out _ A_5.out).mono ?_
  rintro e w6 ⟨rfl, rfl⟩
  go_wp2_with fail
  refine (HK2.out _ Bb_5.out).mono ?_
  rintro e w7 ⟨rfl, rfl⟩
  go_wp2_with fail
  refine (HRS.out _ A_5.out).mono ?_
  rintro e w8 ⟨a_v, n_v, c_v, rfl, hr8, h8⟩
  have A_8 := Lib.hid (A_5.out.below h8)
  have Bb_8 := Lib.hid (Bb_5.out.below h8)
  have x_8 := Lib.hid (x_5.out.below h8)
  have y_8 := Lib.hid (y_5.out.below h8)
  have z__8 := Lib.hid (z__5.out.below h8)
  have u_8 := Lib.hid (u_5.out.below h8)
  have B8 := Lib.hid (B5.out.trans (h8.mono B5.out.size))
  have hcap_v := hr8.cap
  have v_8 := Lib.hid hr8
  clear h8 hr8
  go_wp2_with fail
  refine (HRN.out _ A_8.out).mono ?_
  rintro e w9 ⟨a_nn, n_nn, c_nn, rfl, hr9, h9⟩
  have A_9 := Lib.hid (A_8.out.below h9)
  have Bb_9 := Lib.hid (Bb_8.out.below h9)
  have x_9 := Lib.hid (x_8.out.below h9)
  have y_9 := Lib.hid (y_8.out.below h9)
  have z__9 := Lib.hid (z__8.out.below h9)
  have u_9 := Lib.hid (u_8.out.below h9)
  have v_9 := Lib.hid (v_8.out.below h9)
  have B9 := Lib.hid (B8.out.trans (h9.mono B8.out.size))
  have hcap_nn := hr9.cap
  have nn_9 := Lib.hid hr9
  clear h9 hr9
  go_wp2_with fail
  refine (HEQ.out _ _ _ _ _ _ _ z__9.out nn_9.out).mono ?_
  rintro e w10 ⟨rfl, h10⟩
  have A_10 := Lib.hid (A_9.out.below h10)
  have Bb_10 := Lib.hid (Bb_9.out.below h10)
  have x_10 := Lib.hid (x_9.out.below h10)
  have y_10 := Lib.hid (y_9.out.below h10)
  have z__10 := Lib.hid (z__9.out.below h10)
  have u_10 := Lib.hid (u_9.out.below h10)
  have v_10 := Lib.hid (v_9.out.below h10)
  have nn_10 := Lib.hid (nn_9.out.below h10)
  have B10 := Lib.hid (B9.out.trans (h10.mono B9.out.size))
  clear h10
  go_wp2_with fail
  refine (HSM.out _ _ _ _ _ _ _ u_10.out v_10.out).mono ?_
  rintro e w11 ⟨rfl, h11⟩
  have A_11 := Lib.hid (A_10.out.below h11)
  have Bb_11 := Lib.hid (Bb_10.out.below h11)
  have x_11 := Lib.hid (x_10.out.below h11)
  have y_11 := Lib.hid (y_10.out.below h11)
  have u_11 := Lib.hid (u_10.out.below h11)
  have v_11 := Lib.hid (v_10.out.below h11)
  have B11 := Lib.hid (B10.out.trans (h11.mono B10.out.size))
  clear h11
  go_wp2_with fail
  refine (HP.out _ A_11.out Bb_11.out).mono ?_
  rintro e w12 ⟨a_p, n_p, c_p, rfl, hr12, h12⟩
  have A_12 := Lib.hid (A_11.out.below h12)
  have Bb_12 := Lib.hid (Bb_11.out.below h12)
  have x_12 := Lib.hid (x_11.out.below h12)
  have y_12 := Lib.hid (y_11.out.below h12)
  have B12 := Lib.hid (B11.out.trans (h12.mono B11.out.size))
  have hcap_p := hr12.cap
  have p_12 := Lib.hid hr12
  clear h12 hr12
  go_wp2_with fail
  refine (HM.out _ A_12.out Bb_12.out).mono ?_
  rintro e w13 ⟨a_m, n_m, c_m, rfl, hr13, h13⟩
  have A_13 := Lib.hid (A_12.out.below h13)
  have Bb_13 := Lib.hid (Bb_12.out.below h13)
  have x_13 := Lib.hid (x_12.out.below h13)
  have y_13 := Lib.hid (y_12.out.below h13)
  have p_13 := Lib.hid (p_12.out.below h13)
  have B13 := Lib.hid (B12.out.trans (h13.mono B12.out.size))
  have hcap_m := hr13.cap
  have m_13 := Lib.hid hr13
  clear h13 hr13
  go_wp2_with fail
  refine (HSP.out _ _ _ _ _ _ _ x_13.out p_13.out).mono ?_
  rintro e w14 ⟨rfl, h14⟩
  have A_14 := Lib.hid (A_13.out.below h14)
  have Bb_14 := Lib.hid (Bb_13.out.below h14)
  have x_14 := Lib.hid (x_13.out.below h14)
  have y_14 := Lib.hid (y_13.out.below h14)
  have p_14 := Lib.hid (p_13.out.below h14)
  have m_14 := Lib.hid (m_13.out.below h14)
  have B14 := Lib.hid (B13.out.trans (h14.mono B13.out.size))
  clear h14
  go_wp2_with fail
  refine (HSQ.out _ _ _ _ _ _ _ y_14.out m_14.out).mono ?_
  rintro e w15 ⟨rfl, h15⟩
  have A_15 := Lib.hid (A_14.out.below h15)
  have Bb_15 := Lib.hid (Bb_14.out.below h15)
  have y_15 := Lib.hid (y_14.out.below h15)
  have m_15 := Lib.hid (m_14.out.below h15)
  have B15 := Lib.hid (B14.out.trans (h15.mono B14.out.size))
  clear h15
  go_wp2_with fail
  go_ret
  exact ⟨rfl, B15.out⟩

theorem adds_law (a : Option Addr) (l c : Nat) (z : List Int) (a2 : Option Addr) (l2 c2 : Nat) (z2 : List Int) (k : Int) (w : World) (hs : Std w) (r1 : Rd w a l c z) (r2 : Rd w a2 l2 c2 z2) (_wk : (Lit.int .i64 k).wf = true) :
    Calls Tryd.prog 6 #[.slice a l c, .slice a2 l2 c2, .int .i64 k] w fun e w' => e = .returned (.bool true) ∧ Below w.heap.size w w' := by
  by_cases hl : l ≤ 80
  · by_cases h : l2 ≤ 80
    · cases ok : okB z with
      | false => exact adds_bad a l c z a2 l2 c2 z2 k w hs r1 r2 hl h ok
      | true =>
        cases ok2 : okB z2 with
        | false => exact adds_two a l c z a2 l2 c2 z2 k w hs r1 r2 hl h ok ok2
        | true =>
          by_cases heq : l = l2
          · exact adds_good a l c z a2 l2 c2 z2 k w hs r1 r2 hl ok ok2 heq
          · exact adds_size a l c z a2 l2 c2 z2 k w hs r1 r2 hl h ok ok2 heq
    · exact adds_long2 a l c z a2 l2 c2 z2 k w hs r1 r2 hl (by omega)
  · exact adds_long1 a l c z a2 l2 c2 z2 k w hs r1 r2 (by omega)
end Go.Proofs.YtgcddiakdmddjaaDoor
