/-
  The reference of package whole: Gcd, Lcm, Bezout.
-/
import Derived.Test.YtjebddpapbopnaaGreatDoorZRDiv
namespace Go.Proofs.YtjebddpapbopnaaGreatDoor
open Go.RowKit

theorem zero_tl (z : Int) (h : (str z.natAbs).size ≤ 1000000) : ((zS z).toList == [48]) = decide (z = 0) := (zF z h).zero
set_option maxHeartbeats 1600000 in
theorem gcdZR_any (x y : Int) (w : World) (hs : Std w) (hx : (str x.natAbs).size ≤ 8000) (hy : (str y.natAbs).size ≤ 8000) :
    Calls Tryz.prog 46 #[.string (zS x), .string (zS y)] w fun e w' => e = .returned (.string (str (Nat.gcd x.natAbs y.natAbs))) ∧ Below w.heap.size w w' := by
  have HX := Lib.hid (fun wx => absR_any x wx (by omega))
  have HY := Lib.hid (fun wx => absR_any y wx (by omega))
  have HS := Lib.hid hs
  obtain ⟨d, hd⟩ : ∃ d, d = Nat.gcd x.natAbs y.natAbs := ⟨_, rfl⟩
  rw [← hd]
  have HD := Lib.hid hd
  have HZX := Lib.hid hx
  have HZY := Lib.hid hy
  clear hs hd hx hy
  go_enter Tryz.func46, Tryz.ntmps46
  go_wp2_with fail
  refine (HX.out _).mono ?_
  rintro e w1 ⟨rfl, rfl⟩
  go_wp2_with fail
  refine (HY.out _).mono ?_
  rintro e w1 ⟨rfl, rfl⟩
  go_wp2_with fail
  go_loopw [0, 1, 5, 6] (fun av bv _ _ wr => ∃ A B : Nat, av = .string (str A) ∧ bv = .string (str B) ∧ Hid ((str A).size ≤ 8000 ∧ (str B).size ≤ 8000 ∧ d = Nat.gcd A B) ∧ Hid (Below w.heap.size w wr)) (fun _ bv _ _ _ => match bv with | .string s => val s.data.toList | _ => 0)
  case atStart => exact ⟨x.natAbs, y.natAbs, rfl, rfl, ⟨HZX.out, HZY.out, HD.out⟩, Below.refl _ _⟩
  case round =>
    obtain ⟨A, B, rfl, rfl, HI, HB⟩ := hrel
    have i0 := rest_zero B (by have := HI.out.2.1; omega)
    by_cases hB0 : B = 0
    · rw [decide_eq_true hB0] at i0
      have HV := Lib.hid (show str d = str A by rw [HI.out.2.2, hB0, Nat.gcd_zero_right])
      clear hB0
      go_wp2_with fail
      go_ret
      exact ⟨by rw [HV.out]; rfl, HB.out⟩
    · rw [decide_eq_false hB0] at i0
      have hBp : 0 < B := Nat.pos_of_ne_zero hB0
      have hdm := fun wx hw => divZR_any (A : Int) (B : Int) wx hw (by rw [Int.natAbs_natCast]; have := HI.out.1; omega) (by rw [Int.natAbs_natCast]; have := HI.out.2.1; omega) (by omega)
      rw [nat_fdiv, nat_fmod, zS_of_nat, zS_of_nat, zS_of_nat, zS_of_nat] at hdm
      have hlt := Nat.mod_lt A hBp
      have HI2 := Lib.hid (show (str B).size ≤ 8000 ∧ (str (A % B)).size ≤ 8000 ∧ d = Nat.gcd B (A % B) from ⟨HI.out.2.1, sz_le (Nat.le_of_lt hlt) HI.out.2.1, by rw [HI.out.2.2, Nat.gcd_comm B (A % B), ← Nat.gcd_rec B A, Nat.gcd_comm]⟩)
      have HLT := Lib.hid (show val (str (A % B)).data.toList < val (str B).data.toList by rw [val_str, val_str]; exact hlt)
      obtain ⟨r, hr⟩ : ∃ r, r = A % B := ⟨_, rfl⟩
      rw [← hr] at hdm HI2 HLT
      have HDM := Lib.hid hdm
      obtain ⟨q, hq⟩ : ∃ q, q = str (A / B) := ⟨_, rfl⟩
      obtain ⟨as', ha⟩ : ∃ q, q = str A := ⟨_, rfl⟩
      obtain ⟨bs, hb⟩ : ∃ q, q = str B := ⟨_, rfl⟩
      obtain ⟨rs, hrs⟩ : ∃ q, q = str r := ⟨_, rfl⟩
      have HBS := Lib.hid hb
      have HRS := Lib.hid hrs
      rw [← hq] at HDM
      rw [← ha] at HDM ⊢
      rw [← hb] at HDM HLT i0 ⊢
      rw [← hrs] at HDM HLT
      clear hdm hlt hr hq ha hb hrs hB0 hBp
      go_wp2_with fail
      refine (HDM.out _ (HS.out.below HB.out)).mono ?_
      rintro e w2 ⟨rfl, h2⟩
      have B2 := Lib.hid (HB.out.trans (h2.mono HB.out.size))
      clear h2
      go_wp2_with fail
      refine ⟨⟨B, r, by rw [← HBS.out], by rw [← HRS.out], HI2, B2.out⟩, ?_⟩
      exact HLT.out
set_option maxHeartbeats 1600000 in
theorem lcmZR_any (x y : Int) (w : World) (hs : Std w) (hx : (str x.natAbs).size ≤ 4000) (hy : (str y.natAbs).size ≤ 4000) :
    Calls Tryz.prog 48 #[.string (zS x), .string (zS y)] w fun e w' => e = .returned (.string (str (lcmZ x y))) ∧ Below w.heap.size w w' := by
  have hzx := zero_tl x (by omega)
  have hzy := zero_tl y (by omega)
  have HS := Lib.hid hs
  by_cases hx0 : x = 0
  · rw [decide_eq_true hx0] at hzx
    have HV := Lib.hid (show str (lcmZ x y) = ⟨#[48]⟩ by unfold lcmZ; rw [hx0, Int.natAbs_zero, Nat.zero_div, Nat.zero_mul]; exact zS_zero)
    obtain ⟨V, hV⟩ : ∃ V, V = str (lcmZ x y) := ⟨_, rfl⟩
    rw [← hV] at HV ⊢
    obtain ⟨s, hs2⟩ : ∃ s, s = zS x := ⟨_, rfl⟩
    obtain ⟨t, ht⟩ : ∃ s, s = zS y := ⟨_, rfl⟩
    rw [← hs2] at hzx ⊢
    rw [← ht]
    clear hs hx hy hzy hx0 hV hs2 ht
    go_enter Tryz.func48, Tryz.ntmps48
    go_wp2_with fail
    go_ret
    exact ⟨by rw [HV.out]; rfl, Below.refl _ _⟩
  · rw [decide_eq_false hx0] at hzx
    by_cases hy0 : y = 0
    · rw [decide_eq_true hy0] at hzy
      have HV := Lib.hid (show str (lcmZ x y) = ⟨#[48]⟩ by unfold lcmZ; rw [hy0, Int.natAbs_zero, Nat.mul_zero]; exact zS_zero)
      obtain ⟨V, hV⟩ : ∃ V, V = str (lcmZ x y) := ⟨_, rfl⟩
      rw [← hV] at HV ⊢
      obtain ⟨s, hs2⟩ : ∃ s, s = zS x := ⟨_, rfl⟩
      obtain ⟨t, ht⟩ : ∃ s, s = zS y := ⟨_, rfl⟩
      rw [← hs2] at hzx ⊢
      rw [← ht] at hzy ⊢
      clear hs hx hy hx0 hy0 hV hs2 ht
      go_enter Tryz.func48, Tryz.ntmps48
      go_wp2_with fail
      go_ret
      exact ⟨by rw [HV.out]; rfl, Below.refl _ _⟩
    · rw [decide_eq_false hy0] at hzy
      have HAX := Lib.hid (fun wx => absR_any x wx (by omega))
      have HAY := Lib.hid (fun wx => absR_any y wx (by omega))
      have HG := Lib.hid (fun wx hw => gcdZR_any x y wx hw (by omega) (by omega))
      have hgp : 0 < Nat.gcd x.natAbs y.natAbs := Nat.gcd_pos_of_pos_left _ (by omega)
      have hgx : Nat.gcd x.natAbs y.natAbs ≤ x.natAbs := Nat.gcd_le_left _ (by omega)
      have hgs := sz_le hgx hx
      have hdv := fun wx hw => divZR_any (x.natAbs : Int) ((Nat.gcd x.natAbs y.natAbs : Nat) : Int) wx hw (by rw [Int.natAbs_natCast]; omega) (by rw [Int.natAbs_natCast]; omega) (by omega)
      rw [nat_fdiv, nat_fmod, zS_of_nat, zS_of_nat, zS_of_nat, zS_of_nat] at hdv
      have hqs := sz_le (Nat.div_le_self x.natAbs (Nat.gcd x.natAbs y.natAbs)) hx
      have hmu := fun wx hw => mulZR_any ((x.natAbs / Nat.gcd x.natAbs y.natAbs : Nat) : Int) (y.natAbs : Int) wx hw (by rw [Int.natAbs_natCast]; omega) (by rw [Int.natAbs_natCast]; omega)
      rw [← Int.natCast_mul, zS_of_nat, zS_of_nat, zS_of_nat] at hmu
      have HDV := Lib.hid hdv
      have HMU := Lib.hid hmu
      have HV := Lib.hid (show str (lcmZ x y) = str (x.natAbs / Nat.gcd x.natAbs y.natAbs * y.natAbs) from rfl)
      obtain ⟨V, hV⟩ : ∃ V, V = str (lcmZ x y) := ⟨_, rfl⟩
      rw [← hV] at HV ⊢
      rw [← HV.out] at HMU
      obtain ⟨s, hs2⟩ : ∃ s, s = zS x := ⟨_, rfl⟩
      obtain ⟨t, ht⟩ : ∃ s, s = zS y := ⟨_, rfl⟩
      obtain ⟨g, hg⟩ : ∃ s, s = str (Nat.gcd x.natAbs y.natAbs) := ⟨_, rfl⟩
      obtain ⟨q, hq⟩ : ∃ s, s = str (x.natAbs / Nat.gcd x.natAbs y.natAbs) := ⟨_, rfl⟩
      obtain ⟨m, hm⟩ : ∃ s, s = str (x.natAbs % Nat.gcd x.natAbs y.natAbs) := ⟨_, rfl⟩
      obtain ⟨ax, hax⟩ : ∃ s, s = str x.natAbs := ⟨_, rfl⟩
      obtain ⟨ay, hay⟩ : ∃ s, s = str y.natAbs := ⟨_, rfl⟩
      rw [← hs2] at HAX HG hzx ⊢
      rw [← ht] at HAY HG hzy ⊢
      rw [← hg] at HG HDV
      rw [← hq] at HDV HMU
      rw [← hm] at HDV
      rw [← hax] at HAX HDV
      rw [← hay] at HAY HMU
      clear hs hx hy hx0 hy0 hgp hgx hgs hdv hqs hmu hV hs2 ht hg hq hm hax hay HV
      go_enter Tryz.func48, Tryz.ntmps48
      go_wp2_with fail
      refine (HAX.out _).mono ?_
      rintro e w1 ⟨rfl, rfl⟩
      go_wp2_with fail
      refine (HG.out _ HS.out).mono ?_
      rintro e w2 ⟨rfl, h2⟩
      have B2 := Lib.hid h2
      clear h2
      go_wp2_with fail
      refine (HDV.out _ (HS.out.below B2.out)).mono ?_
      rintro e w3 ⟨rfl, h3⟩
      have B3 := Lib.hid (B2.out.trans (h3.mono B2.out.size))
      clear h3
      go_wp2_with fail
      refine (HAY.out _).mono ?_
      rintro e w4 ⟨rfl, rfl⟩
      go_wp2_with fail
      refine (HMU.out _ (HS.out.below B3.out)).mono ?_
      rintro e w5 ⟨rfl, h5⟩
      have B5 := Lib.hid (B3.out.trans (h5.mono B3.out.size))
      clear h5
      go_wp2_with fail
      go_ret
      exact ⟨rfl, B5.out⟩
theorem sg_div {t : Int} (ht : t = 1 ∨ t = -1) {A B : Nat} (hB : 0 < B) : (t * (A : Int)).fdiv (t * (B : Int)) = ((A / B : Nat) : Int) ∧ (t * (A : Int)).fmod (t * (B : Int)) = t * ((A % B : Nat) : Int) := by
  have e := Nat.div_add_mod A B
  have hm := Nat.mod_lt A hB
  obtain ⟨Q, hQ⟩ : ∃ Q, Q = A / B := ⟨_, rfl⟩
  obtain ⟨R, hR⟩ : ∃ Q, Q = A % B := ⟨_, rfl⟩
  rw [← hQ, ← hR] at e
  rw [← hR] at hm
  rw [← hQ, ← hR]
  have e2 : (A : Int) = (B : Int) * (Q : Int) + (R : Int) := by rw [← e]; push_cast; rfl
  have h := fl_unique (x := t * (A : Int)) (y := t * (B : Int)) (q := (Q : Int)) (r := t * (R : Int)) (by rw [e2, Int.mul_add, Int.mul_assoc]) (by
    rcases ht with h | h <;> rw [h] <;> omega)
  exact ⟨h.1.symm, h.2.symm⟩
theorem sd_ways (b : Int) : (b < 0 ∧ sdI b = -1) ∨ (¬ b < 0 ∧ sdI b = 1) := by
  unfold sdI
  by_cases h : b < 0
  · exact .inl ⟨h, if_pos h⟩
  · exact .inr ⟨h, if_neg h⟩
/-- the head of the reference's loop -/
def BzS (a b r s x y : Int) : Prop := (r = a ∧ s = b ∧ x = 1 ∧ y = 0) ∨ ∃ (A B : Nat) (f g : Int), r = sdI b * A ∧ s = sdI b * B ∧ x = sdI b * f ∧ y = sdI b * g ∧ BzI (b.natAbs : Int) a A B f g ∧ B ≤ b.natAbs ∧ A ≤ b.natAbs
structure BzSt (a b r s x y : Int) : Prop where
  next : BzS a b s (r.fmod s) y (x - r.fdiv s * y)
  fr : r.natAbs ≤ a.natAbs + b.natAbs + 1
  fs : s.natAbs ≤ a.natAbs + b.natAbs + 1
  fx : x.natAbs ≤ a.natAbs + b.natAbs + 1
  fy : y.natAbs ≤ a.natAbs + b.natAbs + 1
  fq : (r.fdiv s).natAbs ≤ a.natAbs + b.natAbs + 1
  fqy : (r.fdiv s * y).natAbs ≤ a.natAbs + b.natAbs + 1
  fxq : (x - r.fdiv s * y).natAbs ≤ a.natAbs + b.natAbs + 1
  lt : (r.fmod s).natAbs < s.natAbs
theorem sd_abs (b z : Int) : (sdI b * z).natAbs = z.natAbs := by
  rcases sd_ways b with ⟨_, e⟩ | ⟨_, e⟩ <;> rw [e] <;> omega
theorem sd_sq (b z : Int) : sdI b * (sdI b * z) = z := by
  rcases sd_ways b with ⟨_, e⟩ | ⟨_, e⟩ <;> rw [e] <;> omega
theorem sd_self (b : Int) : b = sdI b * (b.natAbs : Int) := by
  rcases sd_ways b with ⟨_, e⟩ | ⟨_, e⟩ <;> rw [e] <;> omega
theorem fdiv_le (x : Int) {y : Int} (hy : y ≠ 0) : (x.fdiv y).natAbs ≤ x.natAbs + 1 := by
  obtain ⟨h1, h2⟩ := fl_range x hy
  rcases (by omega : x.fdiv y = 0 ∨ x.fdiv y ≠ 0) with h | h
  · rw [h]; simp
  · have h3 : (y * x.fdiv y).natAbs = y.natAbs * (x.fdiv y).natAbs := Int.natAbs_mul _ _
    have h4 : (y * x.fdiv y).natAbs ≤ x.natAbs + (x.fmod y).natAbs := by omega
    have h5 : (x.fmod y).natAbs < y.natAbs := by omega
    apply Nat.le_of_not_lt; intro hlt
    have h6 : y.natAbs * (x.natAbs + 2) ≤ y.natAbs * (x.fdiv y).natAbs := Nat.mul_le_mul_left _ (by omega)
    have h7 : y.natAbs * (x.natAbs + 2) = y.natAbs * (x.natAbs + 1) + y.natAbs := by rw [show x.natAbs + 2 = (x.natAbs + 1) + 1 by omega, Nat.mul_add, Nat.mul_one]
    have h8 : 1 * (x.natAbs + 1) ≤ y.natAbs * (x.natAbs + 1) := Nat.mul_le_mul_right _ (by omega)
    omega
theorem gcd_fmod_s (a b : Int) (_hb : b ≠ 0) : Nat.gcd b.natAbs (a.fmod b).natAbs = Nat.gcd b.natAbs a.natAbs := by
  have h := Int.fmod_def a b
  apply Nat.dvd_antisymm
  · apply Nat.dvd_gcd (Nat.gcd_dvd_left _ _)
    have h1 : ((Nat.gcd b.natAbs (a.fmod b).natAbs : Nat) : Int) ∣ b := Int.ofNat_dvd_left.2 (Nat.gcd_dvd_left _ _)
    have h2 : ((Nat.gcd b.natAbs (a.fmod b).natAbs : Nat) : Int) ∣ a.fmod b := Int.ofNat_dvd_left.2 (Nat.gcd_dvd_right _ _)
    have h3 := Int.dvd_add h2 (Int.dvd_mul_of_dvd_left (c := a.fdiv b) h1)
    rw [show a.fmod b + b * a.fdiv b = a by omega] at h3
    exact Int.ofNat_dvd_left.1 h3
  · apply Nat.dvd_gcd (Nat.gcd_dvd_left _ _)
    have h1 : ((Nat.gcd b.natAbs a.natAbs : Nat) : Int) ∣ b := Int.ofNat_dvd_left.2 (Nat.gcd_dvd_left _ _)
    have h2 : ((Nat.gcd b.natAbs a.natAbs : Nat) : Int) ∣ a := Int.ofNat_dvd_left.2 (Nat.gcd_dvd_right _ _)
    have h3 := Int.dvd_sub h2 (Int.dvd_mul_of_dvd_left (c := a.fdiv b) h1)
    rw [← h] at h3
    exact Int.ofNat_dvd_left.1 h3
theorem BzS.step {a b r s x y : Int} (h : BzS a b r s x y) (hb : b ≠ 0) (hs : s ≠ 0) : BzSt a b r s x y := by
  have hlt : (r.fmod s).natAbs < s.natAbs := by obtain ⟨-, h⟩ := fl_range r hs; omega
  rcases h with ⟨rfl, rfl, rfl, rfl⟩ | ⟨A, B, f, g, rfl, rfl, rfl, rfl, hI, hBb, hAb⟩
  · obtain ⟨h1, h2⟩ := fl_range r hb
    have hq := fdiv_le r hb
    refine ⟨.inr ⟨s.natAbs, (r.fmod s).natAbs, 0, sdI s, sd_self s, ?_, by rw [Int.mul_zero], ?_, ⟨by omega, ?_, ⟨-1, by omega⟩, ?_, ?_, by omega, by simp⟩, by omega, by omega⟩, by omega, by omega, by first | (simp; done) | (simp; omega), by simp, by omega, by rw [Int.mul_zero]; simp, by rw [Int.mul_zero]; first | (simp; done) | (simp; omega), hlt⟩
    · rcases sd_ways s with ⟨q1, e⟩ | ⟨q1, e⟩ <;> rw [e] <;> omega
    · rw [Int.mul_zero, Int.sub_zero]; rcases sd_ways s with ⟨_, e⟩ | ⟨_, e⟩ <;> rw [e] <;> rfl
    · have := gcd_fmod_s r s hb; rw [Int.natAbs_natCast]; exact this
    · refine Int.natAbs_dvd_natAbs.1 ?_
      rw [Int.natAbs_natCast]
      have e : sdI s * r - ((r.fmod s).natAbs : Int) = sdI s * (s * r.fdiv s) := by
        have e2 : ((r.fmod s).natAbs : Int) = sdI s * r.fmod s := by rcases sd_ways s with ⟨q1, e⟩ | ⟨q1, e⟩ <;> rw [e] <;> omega
        rw [e2, ← Int.mul_sub, show r - r.fmod s = s * r.fdiv s by omega]
      rw [e, Int.natAbs_mul, Int.natAbs_mul]
      exact ⟨(sdI s).natAbs * (r.fdiv s).natAbs, by rw [Nat.mul_left_comm]⟩
    · rw [Int.natAbs_natCast]
      have e : (sdI s).natAbs = 1 := by rcases sd_ways s with ⟨_, e⟩ | ⟨_, e⟩ <;> rw [e] <;> rfl
      rw [e]; simp
  · have ht : sdI b = 1 ∨ sdI b = -1 := by rcases sd_ways b with ⟨_, e⟩ | ⟨_, e⟩ <;> rw [e] <;> omega
    have hB : 0 < B := by
      apply Nat.pos_of_ne_zero; intro h; rw [h] at hs; simp at hs
    obtain ⟨d1, d2⟩ := sg_div ht (A := A) hB
    obtain ⟨q1, q2⟩ := hI.qx hB
    rw [Int.natAbs_natCast] at q1 q2
    have hst := hI.step hB
    have hfb := hI.fb
    have hab := hI.ab
    rw [Int.natAbs_natCast] at hfb hab
    have hmod := Nat.mod_lt A hB
    have hdiv := Nat.div_le_self A B
    have e1 : sdI b * f - ((A / B : Nat) : Int) * (sdI b * g) = sdI b * (f - ((A / B : Nat) : Int) * g) := by
      rw [Int.mul_sub, Int.mul_left_comm]
    have e2 : (((A / B : Nat) : Int) * (sdI b * g)).natAbs = (A / B) * g.natAbs := by rw [Int.natAbs_mul, sd_abs, Int.natAbs_natCast]
    refine ⟨.inr ⟨B, A % B, g, f - ((A / B : Nat) : Int) * g, rfl, d2, rfl, by rw [d1]; exact e1, hst, by omega, hBb⟩, ?_, ?_, ?_, ?_, ?_, ?_, ?_, hlt⟩
    · rw [sd_abs, Int.natAbs_natCast]; omega
    · rw [sd_abs, Int.natAbs_natCast]; omega
    · rw [sd_abs]; omega
    · rw [sd_abs]; omega
    · rw [d1, Int.natAbs_natCast]; omega
    · rw [d1, e2]; omega
    · rw [d1, e1, sd_abs]; omega
/-- where the loop ends -/
structure BzE (a b r x : Int) (A : Nat) (f : Int) : Prop where
  er : r = sdI b * A
  ex : x = sdI b * f
  pos : 0 < A
  gcd : A = Nat.gcd a.natAbs b.natAbs
  fb : f.natAbs ≤ b.natAbs
  per : 0 < b.natAbs / A
  isx : IsX b a (f.fmod ((b.natAbs / A : Nat) : Int))
theorem BzS.done {a b r x y : Int} (h : BzS a b r 0 x y) (hb : b ≠ 0) : ∃ A f, BzE a b r x A f := by
  rcases h with ⟨_, h, _, _⟩ | ⟨A, B, f, g, rfl, hs, rfl, rfl, hI, hBb, hAb⟩
  · exact absurd h.symm hb
  · have hB : B = 0 := by
      have := sd_abs b (B : Int)
      rw [← hs, Int.natAbs_zero, Int.natAbs_natCast] at this; exact this.symm
    subst hB
    obtain ⟨d1, d2, d3⟩ := hI.done
    rw [Int.natAbs_natCast] at d1 d2 d3
    refine ⟨A, f, ⟨rfl, rfl, hI.apos, by rw [d1, Nat.gcd_comm], by have := hI.fb; rw [Int.natAbs_natCast] at this; exact this, d2, ?_⟩⟩
    obtain ⟨x1, x2, x3⟩ := d3
    rw [Int.natAbs_natCast] at x2 x3
    exact ⟨x1, x2, Int.dvd_trans (Int.dvd_natAbs.2 (Int.dvd_refl b)) x3⟩
end Go.Proofs.YtjebddpapbopnaaGreatDoor
