/-
  Texts of one seat, joined: ZQuo ZBzM.
-/
import Derived.Test.YtdgbplppabalgaaGreatDoorJ10
namespace Go.Proofs.YtdgbplppabalgaaGreatDoor
open Go.RowKit

theorem fl_unique {x y q r : Int} (h : x = y * q + r) (hr : (0 ≤ r ∧ r < y) ∨ (y < r ∧ r ≤ 0)) : q = x.fdiv y ∧ r = x.fmod y := by
  rcases hr with ⟨h1, h2⟩ | ⟨h1, h2⟩
  · have h3 := (Int.ediv_emod_unique (a := x) (b := y) (r := r) (q := q) (by omega)).2 ⟨by omega, h1, h2⟩
    rw [Int.fdiv_eq_ediv_of_nonneg _ (by omega), Int.fmod_eq_emod_of_nonneg _ (by omega)]
    exact ⟨h3.1.symm, h3.2.symm⟩
  · have h3 := (Int.ediv_emod_unique (a := -x) (b := -y) (r := -r) (q := q) (by omega)).2 ⟨by rw [h, Int.neg_mul]; omega, by omega, by omega⟩
    have h4 : x.fdiv y = (-x).fdiv (-y) := (Int.neg_fdiv_neg x y).symm
    have h5 : x.fmod y = x - y * x.fdiv y := Int.fmod_def x y
    have hq : q = x.fdiv y := by rw [h4, Int.fdiv_eq_ediv_of_nonneg _ (by omega)]; exact h3.1.symm
    refine ⟨hq, ?_⟩
    rw [h5, ← hq]; omega
theorem fl_range (x : Int) {y : Int} (hy : y ≠ 0) : x = y * x.fdiv y + x.fmod y ∧ ((0 ≤ x.fmod y ∧ x.fmod y < y) ∨ (y < x.fmod y ∧ x.fmod y ≤ 0)) := by
  refine ⟨by have := Int.fmod_def x y; omega, ?_⟩
  rcases (by omega : 0 < y ∨ y < 0) with h | h
  · exact .inl ⟨Int.fmod_nonneg_of_pos x h, Int.fmod_lt_of_pos x h⟩
  · have h1 := Int.fmod_def x y
    have h2 := Int.fmod_def (-x) (-y)
    rw [Int.neg_fdiv_neg, Int.neg_mul] at h2
    have h3 := Int.fmod_nonneg_of_pos (-x) (b := -y) (by omega)
    have h4 := Int.fmod_lt_of_pos (-x) (b := -y) (by omega)
    exact .inr ⟨by omega, by omega⟩
theorem nat_div (x y : Int) : x.natAbs = y.natAbs * (x.natAbs / y.natAbs) + x.natAbs % y.natAbs := (Nat.div_add_mod _ _).symm
/-- the great way's four ways -/
theorem fl_same {x y : Int} (hy : y ≠ 0) (h : decide (x < 0) = decide (y < 0)) :
    ((x.natAbs / y.natAbs : Nat) : Int) = x.fdiv y ∧ (if decide (y < 0) = true then -((x.natAbs % y.natAbs : Nat) : Int) else ((x.natAbs % y.natAbs : Nat) : Int)) = x.fmod y := by
  have h1 := nat_div x y
  have h2 := Nat.mod_lt x.natAbs (show 0 < y.natAbs by omega)
  obtain ⟨Q, hQ⟩ : ∃ Q, Q = x.natAbs / y.natAbs := ⟨_, rfl⟩
  obtain ⟨R, hR⟩ : ∃ R, R = x.natAbs % y.natAbs := ⟨_, rfl⟩
  rw [← hQ, ← hR] at h1
  rw [← hR] at h2
  rw [← hQ, ← hR]
  clear hQ hR
  have h3 : (x.natAbs : Int) = (y.natAbs : Int) * (Q : Int) + (R : Int) := by rw [h1]; push_cast; rfl
  have e : (x < 0) ↔ (y < 0) := by rw [← decide_eq_true_iff (p := x < 0), ← decide_eq_true_iff (p := y < 0), h]
  by_cases hn : y < 0
  · have hx := e.2 hn
    rw [decide_eq_true hn, if_pos rfl]
    rw [show (x.natAbs : Int) = -x by omega, show (y.natAbs : Int) = -y by omega, Int.neg_mul] at h3
    exact fl_unique (by omega) (by omega)
  · have hx : ¬ x < 0 := fun q => hn (e.1 q)
    rw [decide_eq_false hn, if_neg (by decide)]
    rw [show (x.natAbs : Int) = x by omega, show (y.natAbs : Int) = y by omega] at h3
    exact fl_unique (by omega) (by omega)
theorem fl_diff {x y : Int} (hy : y ≠ 0) (h : decide (x < 0) ≠ decide (y < 0)) :
    (x.natAbs % y.natAbs = 0 → -((x.natAbs / y.natAbs : Nat) : Int) = x.fdiv y ∧ (if decide (y < 0) = true then -((x.natAbs % y.natAbs : Nat) : Int) else ((x.natAbs % y.natAbs : Nat) : Int)) = x.fmod y) ∧
    (x.natAbs % y.natAbs ≠ 0 → -((x.natAbs / y.natAbs + 1 : Nat) : Int) = x.fdiv y ∧ (if decide (y < 0) = true then -((y.natAbs - x.natAbs % y.natAbs : Nat) : Int) else ((y.natAbs - x.natAbs % y.natAbs : Nat) : Int)) = x.fmod y) := by
  have h1 := nat_div x y
  have h2 := Nat.mod_lt x.natAbs (show 0 < y.natAbs by omega)
  obtain ⟨Q, hQ⟩ : ∃ Q, Q = x.natAbs / y.natAbs := ⟨_, rfl⟩
  obtain ⟨R, hR⟩ : ∃ R, R = x.natAbs % y.natAbs := ⟨_, rfl⟩
  rw [← hQ, ← hR] at h1
  rw [← hR] at h2
  rw [← hQ, ← hR]
  clear hQ hR
  have h3 : (x.natAbs : Int) = (y.natAbs : Int) * (Q : Int) + (R : Int) := by rw [h1]; push_cast; rfl
  by_cases hn : y < 0
  · have hx : ¬ x < 0 := fun q => h (by rw [decide_eq_true hn, decide_eq_true q])
    rw [decide_eq_true hn, if_pos rfl, if_pos rfl]
    rw [show (x.natAbs : Int) = x by omega, show (y.natAbs : Int) = -y by omega, Int.neg_mul] at h3
    refine ⟨fun hz => fl_unique ?_ (by omega), fun hz => fl_unique ?_ (by omega)⟩
    · rw [Int.mul_neg]; omega
    · rw [Int.mul_neg, show ((Q + 1 : Nat) : Int) = (Q : Int) + 1 by omega, Int.mul_add]; omega
  · have hx : x < 0 := by
      apply Classical.byContradiction; intro q; exact h (by rw [decide_eq_false hn, decide_eq_false q])
    rw [decide_eq_false hn, if_neg (by decide), if_neg (by decide)]
    rw [show (x.natAbs : Int) = -x by omega, show (y.natAbs : Int) = y by omega] at h3
    refine ⟨fun hz => fl_unique ?_ (by omega), fun hz => fl_unique ?_ (by omega)⟩
    · rw [Int.mul_neg]; omega
    · rw [Int.mul_neg, show ((Q + 1 : Nat) : Int) = (Q : Int) + 1 by omega, Int.mul_add]; omega
/-- the quick way's numbers -/
theorem dn_eq (x : Int) {y : Int} (hy : y ≠ 0) : dnQ x y = x.fdiv y ∧ dnR x y = x.fmod y := by
  have h1 := Int.mul_tdiv_add_tmod x y
  have h2 : (x.tmod y).natAbs < y.natAbs := by rw [Int.natAbs_tmod]; exact Nat.mod_lt _ (by omega)
  have h4 : (0 ≤ x → 0 ≤ x.tmod y) ∧ (x ≤ 0 → x.tmod y ≤ 0) := ⟨fun h => Int.tmod_nonneg y h, fun h => by
    have := Int.tmod_nonneg y (a := -x) (by omega)
    rw [Int.neg_tmod] at this; omega⟩
  have h3 : offB x y = true ↔ (x.tmod y ≠ 0 ∧ ¬ (x.tmod y < 0 ↔ y < 0)) := by
    unfold offB
    rw [Bool.and_eq_true, bne_iff_ne, bne_iff_ne]
    refine and_congr_right fun _ => not_congr ?_
    rw [Bool.eq_iff_iff, decide_eq_true_iff, decide_eq_true_iff]
  apply fl_unique
  · unfold dnQ dnR
    split
    · rw [Int.mul_sub]; omega
    · omega
  · unfold dnR
    split
    · rename_i h
      have h5 := h3.1 h
      rcases (by omega : 0 < y ∨ y < 0) with hy' | hy' <;> omega
    · rename_i h
      have h5 : x.tmod y = 0 ∨ (x.tmod y < 0 ↔ y < 0) := by
        by_cases hz : x.tmod y = 0
        · exact .inl hz
        · right; apply Classical.byContradiction; intro q; exact h (h3.2 ⟨hz, q⟩)
      rcases (by omega : 0 < y ∨ y < 0) with hy' | hy' <;> omega
theorem one_str : (⟨#[49]⟩ : ByteArray) = str 1 := str_eq 1 (by decide) (by decide)
theorem zsz_mod {a b k : Nat} (hb : (str b).size ≤ k) (h : 0 < b) : (str (a % b)).size ≤ k := zsz_le hb (Nat.le_of_lt (Nat.mod_lt _ h))
theorem zsz_div {a b k : Nat} (ha : (str a).size ≤ k) : (str (a / b)).size ≤ k := zsz_le ha (Nat.div_le_self _ _)
theorem zsz_succ {a k : Nat} (ha : (str a).size ≤ k) (hk : 0 < k) : (str (a + 1)).size ≤ k + 1 :=
  zsz_add ha (by rw [← one_str]; show 1 ≤ k; omega) hk
theorem rest_zero (n : Nat) (hn : (str n).size ≤ 1000000) : ((str n).toList == [48]) = decide (n = 0) := by
  have h := (zF (n : Int) (by rw [show ((n : Int)).natAbs = n by omega]; exact hn)).zero
  rw [zS_of_nat] at h
  rw [h]
  by_cases h0 : n = 0
  · rw [decide_eq_true h0, decide_eq_true (by omega)]
  · rw [decide_eq_false h0, decide_eq_false (by omega)]
set_option maxHeartbeats 3200000 in
set_option maxRecDepth 100000 in
theorem divW_far (x y : Int) (w : World) (hs : Std w) (hx : (str x.natAbs).size ≤ 400000) (hy : (str y.natAbs).size ≤ 400000) (hf : (fewB x && fewB y) = false) (hy0 : y ≠ 0) :
    Calls Tryz.prog 107 #[.string (zS x), .string (zS y)] w fun e w' => e = .returned (.tuple #[.string (zS (x.fdiv y)), .string (zS (x.fmod y)), .int .i64 0]) ∧ Below w.heap.size w w' := by
  have hB := both_any x y w hs (by omega) (by omega)
  rw [hf] at hB
  have HB := Lib.hid hB
  have HX := Lib.hid (fun wx => split_any x wx (by omega))
  have HY := Lib.hid (fun wx => split_any y wx (by omega))
  have HD := Lib.hid (fun wx hw => dm_any x.natAbs y.natAbs wx hw (by omega) (by omega) (by omega))
  have sq := zsz_div (b := y.natAbs) hx
  have sr := zsz_mod (a := x.natAbs) hy (by omega)
  have HA := Lib.hid (fun wx hw => addN_any (x.natAbs / y.natAbs) 1 wx hw (by omega) (by rw [← one_str]; decide))
  rw [← one_str] at HA
  have HU := Lib.hid (fun wx hw => subN_yes y.natAbs (x.natAbs % y.natAbs) wx hw (by omega) (Nat.le_of_lt (Nat.mod_lt _ (by omega))))
  have HZ := Lib.hid (rest_zero (x.natAbs % y.natAbs) (by omega))
  have HS := Lib.hid hs
  have hqq := fun (b : Bool) wx => signed_any b (x.natAbs / y.natAbs) wx (by omega)
  have hqr := fun (b : Bool) wx => signed_any b (x.natAbs % y.natAbs) wx (by omega)
  have sq1 := zsz_succ sq (by decide)
  have sr1 := zsz_le (b := y.natAbs - x.natAbs % y.natAbs) hy (Nat.sub_le _ _)
  have hqs := fun (b : Bool) wx => signed_any b (x.natAbs / y.natAbs + 1) wx (by omega)
  have hqt := fun (b : Bool) wx => signed_any b (y.natAbs - x.natAbs % y.natAbs) wx (by omega)
  by_cases hsame : decide (x < 0) = decide (y < 0)
  · obtain ⟨v1, v2⟩ := fl_same hy0 hsame
    have HQ := Lib.hid (hqq false)
    rw [if_neg (by decide), v1] at HQ
    have HR := Lib.hid (hqr (decide (y < 0)))
    rw [v2] at HR
    rw [hsame] at HX
    obtain ⟨s, hs2⟩ : ∃ s, s = zS x := ⟨_, rfl⟩
    obtain ⟨t, ht⟩ : ∃ s, s = zS y := ⟨_, rfl⟩
    obtain ⟨p, hp⟩ : ∃ s, s = str x.natAbs := ⟨_, rfl⟩
    obtain ⟨q, hq⟩ : ∃ s, s = str y.natAbs := ⟨_, rfl⟩
    obtain ⟨Q, hQ⟩ : ∃ s, s = str (x.natAbs / y.natAbs) := ⟨_, rfl⟩
    obtain ⟨R', hR'⟩ : ∃ s, s = str (x.natAbs % y.natAbs) := ⟨_, rfl⟩
    obtain ⟨u, hu⟩ : ∃ s, s = zS (x.fdiv y) := ⟨_, rfl⟩
    obtain ⟨v, hv⟩ : ∃ s, s = zS (x.fmod y) := ⟨_, rfl⟩
    rw [← hs2] at HB HX ⊢
    rw [← ht] at HB HY ⊢
    rw [← hp] at HX HD
    rw [← hq] at HY HD
    rw [← hQ] at HD HQ
    rw [← hR'] at HD HR
    rw [← hu] at HQ ⊢
    rw [← hv] at HR ⊢
    obtain ⟨b, hb⟩ : ∃ b, b = decide (y < 0) := ⟨_, rfl⟩
    rw [← hb] at HX HY HR
    clear hb hsame hs hx hy hf hB hy0 hs2 ht hp hq hQ hR' hu hv hqq hqr hqs hqt v1 v2 HA HU
    cases b
    all_goals
      go_enter Tryz.func107, Tryz.ntmps107
      go_wp2_with fail
      refine HB.out.mono ?_
      rintro e w1 ⟨⟨u1, v1, rfl, _⟩, h1⟩
      have B1 := Lib.hid h1
      clear h1
      go_wp2_with fail
      refine (HX.out _).mono ?_
      rintro e w2 ⟨rfl, h2⟩
      have B2 := Lib.hid (B1.out.trans (h2.mono B1.out.size))
      clear h2
      go_wp2_with fail
      refine (HY.out _).mono ?_
      rintro e w3 ⟨rfl, h3⟩
      have B3 := Lib.hid (B2.out.trans (h3.mono B2.out.size))
      clear h3
      go_wp2_with fail
      refine (HD.out _ (HS.out.below B3.out)).mono ?_
      rintro e w4 ⟨rfl, h4⟩
      have B4 := Lib.hid (B3.out.trans (h4.mono B3.out.size))
      clear h4
      go_wp2_with fail
      refine (HQ.out _).mono ?_
      rintro e w5 ⟨rfl, rfl⟩
      go_wp2_with fail
      refine (HR.out _).mono ?_
      rintro e w6 ⟨rfl, rfl⟩
      go_wp2_with fail
      go_ret3
      exact ⟨rfl, B4.out⟩
  · obtain ⟨k1, k2⟩ := fl_diff hy0 hsame
    have hb' : decide (x < 0) = !decide (y < 0) := by
      cases h1 : decide (x < 0) <;> cases h2 : decide (y < 0) <;> rw [h1, h2] at hsame <;> first | rfl | exact absurd rfl hsame
    by_cases hz : x.natAbs % y.natAbs = 0
    · obtain ⟨v1, v2⟩ := k1 hz
      have HQ := Lib.hid (hqq true)
      rw [if_pos rfl, v1] at HQ
      have HR := Lib.hid (hqr (decide (y < 0)))
      rw [v2] at HR
      rw [hb'] at HX
      have hz2 := HZ.out
      rw [decide_eq_true hz] at hz2
      obtain ⟨s, hs2⟩ : ∃ s, s = zS x := ⟨_, rfl⟩
      obtain ⟨t, ht⟩ : ∃ s, s = zS y := ⟨_, rfl⟩
      obtain ⟨p, hp⟩ : ∃ s, s = str x.natAbs := ⟨_, rfl⟩
      obtain ⟨q, hq⟩ : ∃ s, s = str y.natAbs := ⟨_, rfl⟩
      obtain ⟨Q, hQ⟩ : ∃ s, s = str (x.natAbs / y.natAbs) := ⟨_, rfl⟩
      obtain ⟨R', hR'⟩ : ∃ s, s = str (x.natAbs % y.natAbs) := ⟨_, rfl⟩
      obtain ⟨u, hu⟩ : ∃ s, s = zS (x.fdiv y) := ⟨_, rfl⟩
      obtain ⟨v, hv⟩ : ∃ s, s = zS (x.fmod y) := ⟨_, rfl⟩
      rw [← hs2] at HB HX ⊢
      rw [← ht] at HB HY ⊢
      rw [← hp] at HX HD
      rw [← hq] at HY HD
      rw [← hQ] at HD HQ
      rw [← hR'] at HD HR
      rw [← hu] at HQ ⊢
      rw [← hv] at HR ⊢
      rw [← hR'] at hz2
      obtain ⟨b, hb⟩ : ∃ b, b = decide (y < 0) := ⟨_, rfl⟩
      rw [← hb] at HX HY HR
      clear hb hb' hz k1 k2 hsame hs hx hy hf hB hy0 hs2 ht hp hq hQ hR' hu hv hqq hqr hqs hqt v1 v2 HA HU HZ
      cases b
      all_goals
        go_enter Tryz.func107, Tryz.ntmps107
        go_wp2_with fail
        refine HB.out.mono ?_
        rintro e w1 ⟨⟨u1, v1, rfl, _⟩, h1⟩
        have B1 := Lib.hid h1
        clear h1
        go_wp2_with fail
        refine (HX.out _).mono ?_
        rintro e w2 ⟨rfl, h2⟩
        have B2 := Lib.hid (B1.out.trans (h2.mono B1.out.size))
        clear h2
        go_wp2_with fail
        refine (HY.out _).mono ?_
        rintro e w3 ⟨rfl, h3⟩
        have B3 := Lib.hid (B2.out.trans (h3.mono B2.out.size))
        clear h3
        go_wp2_with fail
        refine (HD.out _ (HS.out.below B3.out)).mono ?_
        rintro e w4 ⟨rfl, h4⟩
        have B4 := Lib.hid (B3.out.trans (h4.mono B3.out.size))
        clear h4
        go_wp2_with fail
        refine (HQ.out _).mono ?_
        rintro e w5 ⟨rfl, rfl⟩
        go_wp2_with fail
        refine (HR.out _).mono ?_
        rintro e w6 ⟨rfl, rfl⟩
        go_wp2_with fail
        go_ret3
        exact ⟨rfl, B4.out⟩
    · obtain ⟨v1, v2⟩ := k2 hz
      have HQ := Lib.hid (hqs true)
      rw [if_pos rfl, v1] at HQ
      have HR := Lib.hid (hqt (decide (y < 0)))
      rw [v2] at HR
      rw [hb'] at HX
      have hz2 := HZ.out
      rw [decide_eq_false hz] at hz2
      obtain ⟨q2, hq2⟩ : ∃ s, s = str (x.natAbs / y.natAbs + 1) := ⟨_, rfl⟩
      obtain ⟨r2, hr2⟩ : ∃ s, s = str (y.natAbs - x.natAbs % y.natAbs) := ⟨_, rfl⟩
      rw [← hq2] at HA HQ
      rw [← hr2] at HU HR
      obtain ⟨s, hs2⟩ : ∃ s, s = zS x := ⟨_, rfl⟩
      obtain ⟨t, ht⟩ : ∃ s, s = zS y := ⟨_, rfl⟩
      obtain ⟨p, hp⟩ : ∃ s, s = str x.natAbs := ⟨_, rfl⟩
      obtain ⟨q, hq⟩ : ∃ s, s = str y.natAbs := ⟨_, rfl⟩
      obtain ⟨Q, hQ⟩ : ∃ s, s = str (x.natAbs / y.natAbs) := ⟨_, rfl⟩
      obtain ⟨R', hR'⟩ : ∃ s, s = str (x.natAbs % y.natAbs) := ⟨_, rfl⟩
      obtain ⟨u, hu⟩ : ∃ s, s = zS (x.fdiv y) := ⟨_, rfl⟩
      obtain ⟨v, hv⟩ : ∃ s, s = zS (x.fmod y) := ⟨_, rfl⟩
      rw [← hs2] at HB HX ⊢
      rw [← ht] at HB HY ⊢
      rw [← hp] at HX HD
      rw [← hq] at HY HD HU
      rw [← hQ] at HD HA
      rw [← hR'] at HD HU
      rw [← hu] at HQ ⊢
      rw [← hv] at HR ⊢
      rw [← hR'] at hz2
      obtain ⟨b, hb⟩ : ∃ b, b = decide (y < 0) := ⟨_, rfl⟩
      rw [← hb] at HX HY HR
      clear hb hb' hz k1 k2 hsame hs hx hy hf hB hy0 hs2 ht hp hq hQ hR' hu hv hqq hqr hqs hqt v1 v2 HZ hq2 hr2
      cases b
      all_goals
        go_enter Tryz.func107, Tryz.ntmps107
        go_wp2_with fail
        refine HB.out.mono ?_
        rintro e w1 ⟨⟨u1, v1, rfl, _⟩, h1⟩
        have B1 := Lib.hid h1
        clear h1
        go_wp2_with fail
        refine (HX.out _).mono ?_
        rintro e w2 ⟨rfl, h2⟩
        have B2 := Lib.hid (B1.out.trans (h2.mono B1.out.size))
        clear h2
        go_wp2_with fail
        refine (HY.out _).mono ?_
        rintro e w3 ⟨rfl, h3⟩
        have B3 := Lib.hid (B2.out.trans (h3.mono B2.out.size))
        clear h3
        go_wp2_with fail
        refine (HD.out _ (HS.out.below B3.out)).mono ?_
        rintro e w4 ⟨rfl, h4⟩
        have B4 := Lib.hid (B3.out.trans (h4.mono B3.out.size))
        clear h4
        go_wp2_with fail
        refine (HA.out _ (HS.out.below B4.out)).mono ?_
        rintro e w5 ⟨rfl, h5⟩
        have B5 := Lib.hid (B4.out.trans (h5.mono B4.out.size))
        clear h5
        go_wp2_with fail
        refine (HU.out _ (HS.out.below B5.out)).mono ?_
        rintro e w6 ⟨rfl, h6⟩
        have B6 := Lib.hid (B5.out.trans (h6.mono B5.out.size))
        clear h6
        go_wp2_with fail
        refine (HQ.out _).mono ?_
        rintro e w7 ⟨rfl, rfl⟩
        go_wp2_with fail
        refine (HR.out _).mono ?_
        rintro e w8 ⟨rfl, rfl⟩
        go_wp2_with fail
        go_ret3
        exact ⟨rfl, B6.out⟩
set_option maxHeartbeats 1600000 in
theorem divW_zero (x y : Int) (w : World) (hs : Std w) (hx : (str x.natAbs).size ≤ 400000) (hy0 : y = 0) :
    Calls Tryz.prog 107 #[.string (zS x), .string (zS y)] w fun e w' => e = .returned (.tuple #[.string ⟨#[]⟩, .string ⟨#[]⟩, .int .i64 17]) ∧ Below w.heap.size w w' := by
  have hsy : (str y.natAbs).size ≤ 400000 := by rw [hy0]; exact Nat.le_trans (str_big (n := 1) (by decide) (by decide)) (by decide)
  have HB := Lib.hid (both_any x y w hs (by omega) (by omega))
  have HX := Lib.hid (fun wx => split_any x wx (by omega))
  have HY := Lib.hid (fun wx => split_any y wx (by omega))
  have HD := Lib.hid (fun wx hw => dm_zero x.natAbs y.natAbs wx hw (by omega) (by omega))
  have HS := Lib.hid hs
  have hyz : (y == 0) = true := by rw [beq_iff_eq]; exact hy0
  obtain ⟨s, hs2⟩ : ∃ s, s = zS x := ⟨_, rfl⟩
  obtain ⟨t, ht⟩ : ∃ t, t = zS y := ⟨_, rfl⟩
  obtain ⟨p, hp⟩ : ∃ p, p = str x.natAbs := ⟨_, rfl⟩
  obtain ⟨q, hq⟩ : ∃ q, q = str y.natAbs := ⟨_, rfl⟩
  rw [← hs2] at HB HX ⊢
  rw [← ht] at HB HY ⊢
  rw [← hp] at HX HD
  rw [← hq] at HY HD
  obtain ⟨b1, hb1⟩ : ∃ b, b = decide (x < 0) := ⟨_, rfl⟩
  obtain ⟨b2, hb2⟩ : ∃ b, b = decide (y < 0) := ⟨_, rfl⟩
  rw [← hb1] at HX
  rw [← hb2] at HY
  obtain ⟨F, hF⟩ : ∃ F, F = (fewB x && fewB y) := ⟨_, rfl⟩
  rw [← hF] at HB
  have HY0 := Lib.hid hy0
  clear hs2 ht hp hq hs hx hsy hb1 hb2 hF hy0 hyz
  cases F
  · go_enter Tryz.func107, Tryz.ntmps107
    go_wp2_with fail
    refine HB.out.mono ?_
    rintro e w1 ⟨⟨u1, v1, rfl, _⟩, h1⟩
    have B1 := Lib.hid h1
    clear h1
    go_wp2_with fail
    refine (HX.out _).mono ?_
    rintro e w2 ⟨rfl, h2⟩
    have B2 := Lib.hid (B1.out.trans (h2.mono B1.out.size))
    clear h2
    go_wp2_with fail
    refine (HY.out _).mono ?_
    rintro e w3 ⟨rfl, h3⟩
    have B3 := Lib.hid (B2.out.trans (h3.mono B2.out.size))
    clear h3
    go_wp2_with fail
    refine (HD.out _ (HS.out.below B3.out)).mono ?_
    rintro e w4 ⟨rfl, h4⟩
    have B4 := Lib.hid (B3.out.trans (h4.mono B3.out.size))
    clear h4
    go_wp2_with fail
    go_ret3
    exact ⟨rfl, B4.out⟩
  · go_enter Tryz.func107, Tryz.ntmps107
    go_wp2_with fail
    refine HB.out.mono ?_
    rintro e w1 ⟨⟨u1, v1, rfl, huv⟩, h1⟩
    have B1 := Lib.hid h1
    clear h1
    obtain ⟨rfl, rfl⟩ := huv trivial
    have hyz := HY0.out
    clear huv
    go_wp2_with fail
    refine (HX.out _).mono ?_
    rintro e w2 ⟨rfl, h2⟩
    have B2 := Lib.hid (B1.out.trans (h2.mono B1.out.size))
    clear h2
    go_wp2_with fail
    refine (HY.out _).mono ?_
    rintro e w3 ⟨rfl, h3⟩
    have B3 := Lib.hid (B2.out.trans (h3.mono B2.out.size))
    clear h3
    go_wp2_with fail
    refine (HD.out _ (HS.out.below B3.out)).mono ?_
    rintro e w4 ⟨rfl, h4⟩
    have B4 := Lib.hid (B3.out.trans (h4.mono B3.out.size))
    clear h4
    go_wp2_with fail
    go_ret3
    exact ⟨rfl, B4.out⟩
theorem divW_any (x y : Int) (w : World) (hs : Std w) (hx : (str x.natAbs).size ≤ 400000) (hy : (str y.natAbs).size ≤ 400000) (hy0 : y ≠ 0) :
    Calls Tryz.prog 107 #[.string (zS x), .string (zS y)] w fun e w' => e = .returned (.tuple #[.string (zS (x.fdiv y)), .string (zS (x.fmod y)), .int .i64 0]) ∧ Below w.heap.size w w' := by
  cases hf : (fewB x && fewB y) with
  | false => exact divW_far x y w hs hx hy hf hy0
  | true =>
    have h := divW_few x y w hs hf hy0
    rw [(dn_eq x hy0).1, (dn_eq x hy0).2] at h
    exact h
end Go.Proofs.YtdgbplppabalgaaGreatDoor

namespace Go.Proofs.YtdgbplppabalgaaGreatDoor
open Go.RowKit

theorem abs_sub_mul {f x : Int} (q : Nat) (h : f * x ≤ 0) : (f - (q : Int) * x).natAbs = f.natAbs + q * x.natAbs := by
  have hq : (0 : Int) ≤ (q : Int) := by omega
  rcases (by omega : x = 0 ∨ 0 < x ∨ x < 0) with hx | hx | hx
  · subst hx; simp
  · have hf : f ≤ 0 := by
      apply Classical.byContradiction; intro hn
      have := Int.mul_pos (show 0 < f by omega) hx; omega
    have h1 : 0 ≤ (q : Int) * x := Int.mul_nonneg hq (by omega)
    have h2 : ((q * x.natAbs : Nat) : Int) = (q : Int) * x := by push_cast; rw [show ((x.natAbs : Int)) = x by omega]
    omega
  · have hf : 0 ≤ f := by
      apply Classical.byContradiction; intro hn
      have := Int.mul_pos_of_neg_of_neg (show f < 0 by omega) hx; omega
    have h1 : (q : Int) * x ≤ 0 := Int.mul_nonpos_of_nonneg_of_nonpos hq (by omega)
    have h2 : ((q * x.natAbs : Nat) : Int) = -((q : Int) * x) := by push_cast; rw [show ((x.natAbs : Int)) = -x by omega, Int.mul_neg]
    omega
/-- what holds at the head of Euclid's loop -/
structure BzI (m n : Int) (A B : Nat) (f x : Int) : Prop where
  apos : 0 < A
  gcd : Nat.gcd A B = Nat.gcd m.natAbs n.natAbs
  cf : m ∣ f * n - A
  cx : m ∣ x * n - B
  mag : f.natAbs * B + x.natAbs * A = m.natAbs
  sign : f * x ≤ 0
  fb : f.natAbs ≤ m.natAbs
theorem BzI.start {m n : Nat} (h : 0 < m) : BzI m n m n 0 1 :=
  ⟨h, rfl, ⟨-1, by omega⟩, ⟨0, by omega⟩, by simp, by simp, by simp⟩
theorem BzI.ab {m n : Int} {A B : Nat} {f x : Int} (h : BzI m n A B f x) : x.natAbs ≤ m.natAbs := by
  have h1 := h.mag
  have h2 : x.natAbs * 1 ≤ x.natAbs * A := Nat.mul_le_mul_left _ h.apos
  omega
theorem BzI.step {m n : Int} {A B : Nat} {f x : Int} (h : BzI m n A B f x) (hB : 0 < B) : BzI m n B (A % B) x (f - ((A / B : Nat) : Int) * x) := by
  obtain ⟨h1, h2, ⟨k, h3⟩, ⟨l, h4⟩, h5, h6, h7⟩ := h
  have hq : A = B * (A / B) + A % B := (Nat.div_add_mod A B).symm
  obtain ⟨q, hq'⟩ : ∃ q, q = A / B := ⟨_, rfl⟩
  obtain ⟨r, hr'⟩ : ∃ r, r = A % B := ⟨_, rfl⟩
  have hm := abs_sub_mul q h6
  have hg : Nat.gcd B (A % B) = Nat.gcd A B := by rw [Nat.gcd_comm B (A % B), ← Nat.gcd_rec B A, Nat.gcd_comm]
  rw [← hq', ← hr'] at hq
  rw [← hr'] at hg
  rw [← hq', ← hr']
  refine ⟨hB, hg.trans h2, ⟨l, h4⟩, ⟨k - (q : Int) * l, ?_⟩, ?_, ?_, ?_⟩
  · have e1 : (f - (q : Int) * x) * n - (r : Int) = (f * n - (A : Int)) - (q : Int) * (x * n - (B : Int)) := by
      have hA : (A : Int) = (B : Int) * (q : Int) + (r : Int) := by rw [hq]; push_cast; rfl
      rw [Int.sub_mul, Int.mul_sub, Int.mul_assoc, hA, Int.mul_comm (B : Int) (q : Int)]; omega
    rw [e1, h3, h4, Int.mul_sub, Int.mul_left_comm]
  · rw [hm, Nat.add_mul]
    have e2 : x.natAbs * A = x.natAbs * (B * q) + x.natAbs * r := by rw [hq, Nat.mul_add]
    have e3 : q * x.natAbs * B = x.natAbs * (B * q) := by rw [Nat.mul_comm q, Nat.mul_assoc, Nat.mul_comm q B]
    omega
  · rw [Int.mul_sub]
    have e4 : x * ((q : Int) * x) = (q : Int) * (x * x) := by rw [Int.mul_left_comm]
    have e5 : 0 ≤ (q : Int) * (x * x) := Int.mul_nonneg (by omega) (by
      rcases (by omega : 0 ≤ x ∨ x ≤ 0) with hx | hx
      · exact Int.mul_nonneg hx hx
      · exact Int.mul_nonneg_of_nonpos_of_nonpos hx hx)
    rw [e4, Int.mul_comm x f]; omega
  · have h2 : x.natAbs * 1 ≤ x.natAbs * A := Nat.mul_le_mul_left _ h1
    omega
/-- the least number that makes the number times it the divisor, modulo m -/
def IsX (m n x : Int) : Prop := 0 ≤ x ∧ x < ((m.natAbs / Nat.gcd m.natAbs n.natAbs : Nat) : Int) ∧ m ∣ x * n - ((Nat.gcd m.natAbs n.natAbs : Nat) : Int)
theorem BzI.done {m n : Int} {A : Nat} {f x : Int} (h : BzI m n A 0 f x) : A = Nat.gcd m.natAbs n.natAbs ∧ 0 < m.natAbs / A ∧ IsX m n (f.fmod ((m.natAbs / A : Nat) : Int)) := by
  have hA : A = Nat.gcd m.natAbs n.natAbs := by rw [← h.gcd, Nat.gcd_zero_right]
  have hmg := h.mag
  have hx : m.natAbs / A = x.natAbs := by
    rw [← hmg, Nat.mul_zero, Nat.zero_add]; exact Nat.mul_div_cancel _ h.apos
  have hmp : 0 < m.natAbs := by
    rcases Nat.eq_zero_or_pos m.natAbs with hz | hz
    · have hfb := h.fb
      exfalso
      have h3 := h.cx
      have h4 := h.cf
      have hm0 : m = 0 := by omega
      have hx0 : x.natAbs * A = 0 := by omega
      have hf0 : f = 0 := by omega
      rw [hm0] at h4
      have h5 := Int.zero_dvd.1 h4
      rw [hf0] at h5
      have := h.apos
      omega
    · exact hz
  have hgd : A ∣ m.natAbs := by rw [hA]; exact Nat.gcd_dvd_left _ _
  have hnd : A ∣ n.natAbs := by rw [hA]; exact Nat.gcd_dvd_right _ _
  have hP : 0 < m.natAbs / A := Nat.div_pos (Nat.le_of_dvd hmp hgd) h.apos
  refine ⟨hA, hP, ?_⟩
  obtain ⟨P, hPe⟩ : ∃ P, P = m.natAbs / A := ⟨_, rfl⟩
  have hm : m.natAbs = A * P := by rw [hPe]; exact (Nat.mul_div_cancel' hgd).symm
  unfold IsX
  rw [← hA, ← hPe]
  rw [← hPe] at hP
  have hr := fl_range f (y := (P : Int)) (by omega)
  refine ⟨by omega, by omega, ?_⟩
  have hfm := Int.fmod_def f (P : Int)
  rw [hfm, Int.sub_mul]
  have e1 : f * n - (P : Int) * f.fdiv (P : Int) * n - (A : Int) = (f * n - (A : Int)) - (P : Int) * f.fdiv (P : Int) * n := by omega
  rw [e1]
  refine Int.dvd_sub h.cf ?_
  obtain ⟨t, ht⟩ := hnd
  have hn2 : (A : Int) ∣ n := Int.natAbs_dvd_natAbs.1 (by rw [Int.natAbs_natCast]; exact ⟨t, ht⟩)
  obtain ⟨u, hu⟩ := hn2
  have hm2 : m ∣ ((A * P : Nat) : Int) := Int.natAbs_dvd_natAbs.1 (by rw [Int.natAbs_natCast, hm]; exact Nat.dvd_refl _)
  obtain ⟨v, hv⟩ := hm2
  refine ⟨v * (f.fdiv (P : Int) * u), ?_⟩
  rw [← Int.mul_assoc m v, ← hv, hu]
  push_cast
  rw [Int.mul_assoc, Int.mul_left_comm _ (A : Int) u, ← Int.mul_assoc (P : Int) (A : Int), Int.mul_comm (P : Int) (A : Int)]
theorem IsX.unique {m n x y : Int} (hm : m ≠ 0) (hx : IsX m n x) (hy : IsX m n y) : x = y := by
  obtain ⟨a1, a2, a3⟩ := hx
  obtain ⟨b1, b2, b3⟩ := hy
  have h := Int.dvd_sub a3 b3
  rw [show x * n - ((Nat.gcd m.natAbs n.natAbs : Nat) : Int) - (y * n - ((Nat.gcd m.natAbs n.natAbs : Nat) : Int)) = (x - y) * n by rw [Int.sub_mul]; omega] at h
  have h2 := Int.natAbs_dvd_natAbs.2 h
  rw [Int.natAbs_mul] at h2
  have hg : 0 < Nat.gcd m.natAbs n.natAbs := Nat.gcd_pos_of_pos_left _ (by omega)
  have h3 : m.natAbs / Nat.gcd m.natAbs n.natAbs ∣ (x - y).natAbs * (n.natAbs / Nat.gcd m.natAbs n.natAbs) := by
    have e : (x - y).natAbs * n.natAbs = ((x - y).natAbs * (n.natAbs / Nat.gcd m.natAbs n.natAbs)) * Nat.gcd m.natAbs n.natAbs := by
      rw [Nat.mul_assoc, Nat.div_mul_cancel (Nat.gcd_dvd_right _ _)]
    rw [e] at h2
    exact Nat.dvd_of_mul_dvd_mul_right hg (by rw [Nat.div_mul_cancel (Nat.gcd_dvd_left _ _)]; exact h2)
  have hc : Nat.Coprime (m.natAbs / Nat.gcd m.natAbs n.natAbs) (n.natAbs / Nat.gcd m.natAbs n.natAbs) := Nat.coprime_div_gcd_div_gcd hg
  have h4 := hc.dvd_of_dvd_mul_right h3
  have h5 : (x - y).natAbs = 0 := Nat.eq_zero_of_dvd_of_lt h4 (by omega)
  omega
/-- Bezout's numbers -/
structure IsBz (a b x y : Int) : Prop where
  none : b = 0 → x = sgnI a ∧ y = 0
  some : b ≠ 0 → IsX b a x
  sum : a * x + b * y = ((Nat.gcd a.natAbs b.natAbs : Nat) : Int)
theorem IsBz.unique {a b x y x' y' : Int} (h : IsBz a b x y) (h' : IsBz a b x' y') : x = x' ∧ y = y' := by
  by_cases hb : b = 0
  · obtain ⟨h1, h2⟩ := h.none hb
    obtain ⟨h3, h4⟩ := h'.none hb
    omega
  · have h1 := IsX.unique hb (h.some hb) (h'.some hb)
    have h2 := h.sum
    have h3 := h'.sum
    rw [← h1] at h3
    have h4 : b * y = b * y' := by omega
    exact ⟨h1, Int.eq_of_mul_eq_mul_left hb h4⟩
end Go.Proofs.YtdgbplppabalgaaGreatDoor
