/-
  Package whole: Bezout.
-/
import Derived.Test.YtjebddpapbopnaaGreatDoorZBez
namespace Go.Proofs.YtjebddpapbopnaaGreatDoor
open Go.RowKit

theorem gcd_fmod (a b : Int) : Nat.gcd b.natAbs (a.fmod (b.natAbs : Int)).natAbs = Nat.gcd a.natAbs b.natAbs := by
  have h := Int.fmod_def a (b.natAbs : Int)
  apply Nat.dvd_antisymm
  · apply Nat.dvd_gcd
    · have h1 : ((Nat.gcd b.natAbs (a.fmod (b.natAbs : Int)).natAbs : Nat) : Int) ∣ (b.natAbs : Int) := Int.natCast_dvd_natCast.2 (Nat.gcd_dvd_left _ _)
      have h2 : ((Nat.gcd b.natAbs (a.fmod (b.natAbs : Int)).natAbs : Nat) : Int) ∣ a.fmod (b.natAbs : Int) := Int.ofNat_dvd_left.2 (Nat.gcd_dvd_right _ _)
      have h3 := Int.dvd_add h2 (Int.dvd_mul_of_dvd_left (c := a.fdiv (b.natAbs : Int)) h1)
      rw [show a.fmod (b.natAbs : Int) + (b.natAbs : Int) * a.fdiv (b.natAbs : Int) = a by omega] at h3
      exact Int.ofNat_dvd_left.1 h3
    · exact Nat.gcd_dvd_left _ _
  · apply Nat.dvd_gcd
    · exact Nat.gcd_dvd_right _ _
    · have h1 : ((Nat.gcd a.natAbs b.natAbs : Nat) : Int) ∣ (b.natAbs : Int) := Int.natCast_dvd_natCast.2 (Nat.gcd_dvd_right _ _)
      have h2 : ((Nat.gcd a.natAbs b.natAbs : Nat) : Int) ∣ a := Int.ofNat_dvd_left.2 (Nat.gcd_dvd_left _ _)
      have h3 := Int.dvd_sub h2 (Int.dvd_mul_of_dvd_left (c := a.fdiv (b.natAbs : Int)) h1)
      rw [← h] at h3
      exact Int.ofNat_dvd_left.1 h3
theorem isX_of {a b x : Int} (h : IsX (b.natAbs : Int) (a.fmod (b.natAbs : Int)) x) : IsX b a x := by
  obtain ⟨h1, h2, h3⟩ := h
  rw [Int.natAbs_natCast, gcd_fmod, Nat.gcd_comm] at h2 h3
  refine ⟨h1, h2, ?_⟩
  have hm : b ∣ (b.natAbs : Int) := Int.dvd_natAbs.2 (Int.dvd_refl b)
  have hf := Int.fmod_def a (b.natAbs : Int)
  have h4 := Int.dvd_trans hm h3
  have h5 : b ∣ x * ((b.natAbs : Int) * a.fdiv (b.natAbs : Int)) := Int.dvd_mul_of_dvd_right (Int.dvd_mul_of_dvd_left hm)
  have h6 := Int.dvd_add h4 h5
  rw [show x * a.fmod (b.natAbs : Int) - ((Nat.gcd b.natAbs a.natAbs : Nat) : Int) + x * ((b.natAbs : Int) * a.fdiv (b.natAbs : Int)) = x * a - ((Nat.gcd b.natAbs a.natAbs : Nat) : Int) by
    rw [hf, Int.mul_sub]; omega] at h6
  exact h6
theorem bz_sum {a b x : Int} (hb : b ≠ 0) (h : IsX b a x) : IsBz a b x ((((Nat.gcd a.natAbs b.natAbs : Nat) : Int) - a * x).fdiv b) := by
  refine ⟨fun q => absurd q hb, fun _ => h, ?_⟩
  obtain ⟨h1, h2, h3⟩ := h
  rw [Nat.gcd_comm] at h3
  obtain ⟨L, hL⟩ : ∃ L, L = ((Nat.gcd a.natAbs b.natAbs : Nat) : Int) - a * x := ⟨_, rfl⟩
  rw [← hL]
  have hd : b ∣ L := by
    have := Int.dvd_neg.2 h3
    rw [show -(x * a - ((Nat.gcd a.natAbs b.natAbs : Nat) : Int)) = L by rw [hL, Int.mul_comm x a]; omega] at this
    exact this
  obtain ⟨r1, r2⟩ := fl_range L hb
  have hf : b ∣ L.fmod b := by
    have := Int.dvd_sub hd (Int.dvd_mul_right b (L.fdiv b))
    rw [← Int.fmod_def] at this; exact this
  have h0 : L.fmod b = 0 := Int.eq_zero_of_dvd_of_natAbs_lt_natAbs hf (by omega)
  omega
theorem isX_lt {a b x : Int} (h : IsX b a x) : x.natAbs ≤ b.natAbs := by
  obtain ⟨h1, h2, -⟩ := h
  have := Nat.div_le_self b.natAbs (Nat.gcd b.natAbs a.natAbs)
  omega
theorem gcd_le_add (a b : Nat) : Nat.gcd a b ≤ a + b := by
  rcases Nat.eq_zero_or_pos a with h | h
  · subst h; rw [Nat.gcd_zero_left]; omega
  · have := Nat.gcd_le_left b h; omega
theorem sgn_mul (a : Int) : a * sgnI a = (a.natAbs : Int) := by
  rcases sgnI_ways a with ⟨h, e⟩ | ⟨h, e⟩ | ⟨h, e⟩ <;> rw [e] <;> omega
set_option maxHeartbeats 1600000 in
theorem bezW_zero (a b : Int) (w : World) (hs : Std w) (ha : (str a.natAbs).size ≤ 100000) (hb : b = 0) :
    Calls Tryz.prog 43 #[.string (zS a), .string (zS b)] w fun e w' => (∃ x y : Int, e = .returned (.tuple #[.string (str (Nat.gcd a.natAbs b.natAbs)), .string (zS x), .string (zS y)]) ∧ IsBz a b x y) ∧ Below w.heap.size w w' := by
  have hsb : (str b.natAbs).size ≤ 100000 := by rw [hb]; exact Nat.le_trans (str_big (n := 1) (by decide) (by decide)) (by decide)
  have hfa := (zF a (by omega)).lim
  have hfb := (zF b (by omega)).lim
  have hz := (zF b (by omega)).zero
  rw [decide_eq_true hb] at hz
  have hca := fun wx => canonW_any (zS a) wx hfa
  have hcb := fun wx => canonW_any (zS b) wx hfb
  rw [zCan_zS] at hca hcb
  have HCA := Lib.hid hca
  have HCB := Lib.hid hcb
  have HA := Lib.hid (fun wx => abs_any a wx (by omega))
  have HSG := Lib.hid (fun wx => sign_any a wx (by omega))
  have HO := Lib.hid (fun wx hw => ofW_any (sgnI a) wx hw (by rcases sgnI_ways a with ⟨_, e⟩ | ⟨_, e⟩ | ⟨_, e⟩ <;> rw [e] <;> decide) (by rcases sgnI_ways a with ⟨_, e⟩ | ⟨_, e⟩ | ⟨_, e⟩ <;> rw [e] <;> decide))
  have HS := Lib.hid hs
  have HP := Lib.hid (show IsBz a b (sgnI a) 0 from ⟨fun _ => ⟨rfl, rfl⟩, fun q => absurd hb q, by rw [hb, sgn_mul, Int.natAbs_zero, Nat.gcd_zero_right]; omega⟩)
  have HG := Lib.hid (show str (Nat.gcd a.natAbs b.natAbs) = str a.natAbs by rw [hb, Int.natAbs_zero, Nat.gcd_zero_right])
  have HZ := Lib.hid zS_zero
  obtain ⟨s, hs2⟩ : ∃ s, s = zS a := ⟨_, rfl⟩
  obtain ⟨t, ht⟩ : ∃ t, t = zS b := ⟨_, rfl⟩
  obtain ⟨g, hg⟩ : ∃ t, t = str (Nat.gcd a.natAbs b.natAbs) := ⟨_, rfl⟩
  obtain ⟨p, hp⟩ : ∃ t, t = str a.natAbs := ⟨_, rfl⟩
  obtain ⟨u, hu⟩ : ∃ t, t = zS (sgnI a) := ⟨_, rfl⟩
  obtain ⟨k, hk⟩ : ∃ k, k = sgnI a := ⟨_, rfl⟩
  have HU := Lib.hid hu
  rw [← hs2] at HCA HA HSG ⊢
  rw [← ht] at HCB hz ⊢
  rw [← hg, ← hp] at HG
  rw [← hg]
  rw [← hp] at HA
  rw [← hu] at HO
  rw [← hk] at HSG HO
  clear hs hb hsb hfa hfb hca hcb hs2 ht hg hp hu hk ha
  go_enter Tryz.func43, Tryz.ntmps43
  go_wp2_with fail
  refine (HCA.out _).mono ?_
  rintro e w1 ⟨rfl, h1⟩
  have B1 := Lib.hid h1
  clear h1
  go_wp2_with fail
  refine (HCB.out _).mono ?_
  rintro e w2 ⟨rfl, h2⟩
  have B2 := Lib.hid (B1.out.trans (h2.mono B1.out.size))
  clear h2
  go_wp2_with fail
  refine (HA.out _).mono ?_
  rintro e w3 ⟨rfl, h3⟩
  have B3 := Lib.hid (B2.out.trans (h3.mono B2.out.size))
  clear h3
  go_wp2_with fail
  refine (HSG.out _).mono ?_
  rintro e w4 ⟨rfl, rfl⟩
  go_wp2_with fail
  refine (HO.out _ (HS.out.below B3.out)).mono ?_
  rintro e w5 ⟨rfl, h5⟩
  have B5 := Lib.hid (B3.out.trans (h5.mono B3.out.size))
  clear h5
  go_wp2_with fail
  go_ret3
  exact ⟨⟨sgnI a, 0, by rw [HG.out, ← HU.out, HZ.out]; rfl, HP.out⟩, B5.out⟩
set_option maxHeartbeats 3200000 in
theorem bezW_pos (a b : Int) (w : World) (hs : Std w) (ha : (str a.natAbs).size ≤ 100000) (hb : (str b.natAbs).size ≤ 100000) (hb0 : b ≠ 0) :
    Calls Tryz.prog 43 #[.string (zS a), .string (zS b)] w fun e w' => (∃ x y : Int, e = .returned (.tuple #[.string (str (Nat.gcd a.natAbs b.natAbs)), .string (zS x), .string (zS y)]) ∧ IsBz a b x y) ∧ Below w.heap.size w w' := by
  have hfa := (zF a (by omega)).lim
  have hfb := (zF b (by omega)).lim
  have hz := (zF b (by omega)).zero
  rw [decide_eq_false hb0] at hz
  have hca := fun wx => canonW_any (zS a) wx hfa
  have hcb := fun wx => canonW_any (zS b) wx hfb
  rw [zCan_zS] at hca hcb
  have HCA := Lib.hid hca
  have HCB := Lib.hid hcb
  have HA := Lib.hid (fun wx => abs_any b wx (by omega))
  have hd := fun wx hw => divW_any a (b.natAbs : Int) wx hw (by omega) (by rw [Int.natAbs_natCast]; omega) (by omega)
  obtain ⟨-, hr⟩ := fl_range a (y := (b.natAbs : Int)) (by omega)
  obtain ⟨R, hR⟩ : ∃ R : Nat, (R : Int) = a.fmod (b.natAbs : Int) := ⟨(a.fmod (b.natAbs : Int)).toNat, by omega⟩
  rw [← hR] at hd hr
  rw [zS_of_nat, zS_of_nat] at hd
  have HD := Lib.hid hd
  have hRm : R ≤ b.natAbs := by omega
  have HC := Lib.hid (fun wx hw => comb_any R b.natAbs wx hw (by omega) (Nat.le_trans (sz_le hRm hb) (by decide)) (by omega))
  have HX := Lib.hid (show ∀ x, IsX (b.natAbs : Int) (R : Int) x → IsX b a x from fun x h => isX_of (by rw [← hR]; exact h))
  have hg0 : Nat.gcd b.natAbs R = Nat.gcd a.natAbs b.natAbs := by
    have := gcd_fmod a b
    rw [← hR, Int.natAbs_natCast] at this; exact this
  have HG := Lib.hid hg0
  have HM := Lib.hid (fun (x : Int) wx hw (h : x.natAbs ≤ b.natAbs) => mulW_any a x wx hw (by omega) (Nat.le_trans (sz_le h hb) (by decide)))
  have hgb : Nat.gcd a.natAbs b.natAbs ≤ b.natAbs := Nat.gcd_le_right _ (by omega)
  have HU := Lib.hid (fun (x : Int) wx hw (h : x.natAbs ≤ b.natAbs) => subW_any ((Nat.gcd a.natAbs b.natAbs : Nat) : Int) (a * x) wx hw (by rw [Int.natAbs_natCast]; exact Nat.le_trans (sz_le hgb hb) (by decide)) (by
    rw [Int.natAbs_mul]; exact Nat.le_trans (zsz_mul ha (sz_le h hb) (by decide)) (by decide)))
  have HV := Lib.hid (fun (x : Int) wx hw (h : x.natAbs ≤ b.natAbs) => divW_any (((Nat.gcd a.natAbs b.natAbs : Nat) : Int) - a * x) b wx hw (by
    have h1 : (str (a * x).natAbs).size ≤ 200000 := by rw [Int.natAbs_mul]; exact zsz_mul ha (sz_le h hb) (by decide)
    have h2 : (str (Nat.gcd a.natAbs b.natAbs)).size ≤ 200000 := Nat.le_trans (sz_le hgb hb) (by decide)
    exact Nat.le_trans (sz_le (b := Nat.gcd a.natAbs b.natAbs + (a * x).natAbs) (by omega) (zsz_add h2 h1 (by decide))) (by decide)) (by omega) hb0)
  have HS := Lib.hid hs
  have HB0 := Lib.hid hb0
  have HAA := Lib.hid (show ∀ z : Nat, zS (z : Int) = str z from zS_of_nat)
  obtain ⟨s, hs2⟩ : ∃ s, s = zS a := ⟨_, rfl⟩
  obtain ⟨t, ht⟩ : ∃ t, t = zS b := ⟨_, rfl⟩
  obtain ⟨q, hq⟩ : ∃ t, t = str b.natAbs := ⟨_, rfl⟩
  obtain ⟨r, hr2⟩ : ∃ t, t = str R := ⟨_, rfl⟩
  obtain ⟨k, hk⟩ : ∃ t, t = zS (a.fdiv (b.natAbs : Int)) := ⟨_, rfl⟩
  obtain ⟨G, hG⟩ : ∃ G, G = Nat.gcd a.natAbs b.natAbs := ⟨_, rfl⟩
  rw [← hG] at HG HU HV ⊢
  rw [← hs2] at HCA HD HM ⊢
  rw [← ht] at HCB HA HV hz ⊢
  rw [← hq] at HA HD HC
  rw [← hr2] at HD HC
  rw [← hk] at HD
  have HGG := Lib.hid hG
  clear hs hfa hfb hca hcb hs2 ht hq hr2 hk ha hb hd hr hR hRm hg0 hgb hG hb0
  go_enter Tryz.func43, Tryz.ntmps43
  go_wp2_with fail
  refine (HCA.out _).mono ?_
  rintro e w1 ⟨rfl, h1⟩
  have B1 := Lib.hid h1
  clear h1
  go_wp2_with fail
  refine (HCB.out _).mono ?_
  rintro e w2 ⟨rfl, h2⟩
  have B2 := Lib.hid (B1.out.trans (h2.mono B1.out.size))
  clear h2
  go_wp2_with fail
  refine (HA.out _).mono ?_
  rintro e w3 ⟨rfl, h3⟩
  have B3 := Lib.hid (B2.out.trans (h3.mono B2.out.size))
  clear h3
  go_wp2_with fail
  refine (HD.out _ (HS.out.below B3.out)).mono ?_
  rintro e w4 ⟨rfl, h4⟩
  have B4 := Lib.hid (B3.out.trans (h4.mono B3.out.size))
  clear h4
  go_wp2_with fail
  refine (HC.out _ (HS.out.below B4.out)).mono ?_
  rintro e w5 ⟨⟨g, x, rfl, hg, hx⟩, h5⟩
  have B5 := Lib.hid (B4.out.trans (h5.mono B4.out.size))
  obtain rfl : g = G := by rw [hg, HG.out]
  have hx2 := HX.out x hx
  have hxl := isX_lt hx2
  have HXX := Lib.hid hx2
  have HM2 := Lib.hid (fun wx hw => HM.out x wx hw hxl)
  have hU2 := fun wx hw => HU.out x wx hw hxl
  rw [HAA.out] at hU2
  have HU2 := Lib.hid hU2
  have HV2 := Lib.hid (fun wx hw => HV.out x wx hw hxl)
  obtain ⟨xs, hxs⟩ : ∃ t, t = zS x := ⟨_, rfl⟩
  obtain ⟨ms, hms⟩ : ∃ t, t = zS (a * x) := ⟨_, rfl⟩
  obtain ⟨gs, hgs⟩ : ∃ t, t = str g := ⟨_, rfl⟩
  obtain ⟨ls, hls⟩ : ∃ t, t = zS ((g : Int) - a * x) := ⟨_, rfl⟩
  obtain ⟨ys, hys⟩ : ∃ t, t = zS (((g : Int) - a * x).fdiv b) := ⟨_, rfl⟩
  obtain ⟨zs, hzs⟩ : ∃ t, t = zS (((g : Int) - a * x).fmod b) := ⟨_, rfl⟩
  have HX3 := Lib.hid hxs
  have HY3 := Lib.hid hys
  have HG3 := Lib.hid hgs
  rw [← hxs] at HM2
  rw [← hms] at HM2 HU2
  rw [← hgs] at HU2
  rw [← hls] at HU2 HV2
  rw [← hys, ← hzs] at HV2
  rw [← hxs, ← hgs]
  clear h5 hg hx hx2 hxl hU2 hxs hms hgs hls hys hzs HX HM HU HV HAA HG
  go_wp2_with fail
  refine (HM2.out _ (HS.out.below B5.out)).mono ?_
  rintro e w6 ⟨rfl, h6⟩
  have B6 := Lib.hid (B5.out.trans (h6.mono B5.out.size))
  clear h6
  go_wp2_with fail
  refine (HU2.out _ (HS.out.below B6.out)).mono ?_
  rintro e w7 ⟨rfl, h7⟩
  have B7 := Lib.hid (B6.out.trans (h7.mono B6.out.size))
  clear h7
  go_wp2_with fail
  refine (HV2.out _ (HS.out.below B7.out)).mono ?_
  rintro e w8 ⟨rfl, h8⟩
  have B8 := Lib.hid (B7.out.trans (h8.mono B7.out.size))
  clear h8
  go_wp2_with fail
  go_ret3
  exact ⟨⟨x, ((g : Int) - a * x).fdiv b, by rw [← HX3.out, ← HY3.out, ← HG3.out]; rfl, by
    have := bz_sum HB0.out HXX.out
    rw [← HGG.out] at this; exact this⟩, B8.out⟩
theorem bezW_any (a b : Int) (w : World) (hs : Std w) (ha : (str a.natAbs).size ≤ 100000) (hb : (str b.natAbs).size ≤ 100000) :
    Calls Tryz.prog 43 #[.string (zS a), .string (zS b)] w fun e w' => (∃ x y : Int, e = .returned (.tuple #[.string (str (Nat.gcd a.natAbs b.natAbs)), .string (zS x), .string (zS y)]) ∧ IsBz a b x y) ∧ Below w.heap.size w w' := by
  by_cases h : b = 0
  · exact bezW_zero a b w hs ha h
  · exact bezW_pos a b w hs ha hb h
end Go.Proofs.YtjebddpapbopnaaGreatDoor
