/-
  smallGcd, and the reference's Gcd.
-/
import Derived.Test.YtfhmdlpjeiockaaDoorRefBits
namespace Go.Proofs.YtfhmdlpjeiockaaDoor
open Go.RowKit

theorem gcd_step (a b : Nat) : Nat.gcd b (a % b) = Nat.gcd a b := by
  rw [Nat.gcd_comm b, ← Nat.gcd_rec, Nat.gcd_comm]

set_option maxHeartbeats 800000 in
set_option maxRecDepth 100000 in
theorem smallGcd_any (a b : Nat) (w : World) (ha : a < 18446744073709551616) (hb : b < 18446744073709551616) :
    Calls Tryd.prog 33 #[.int .u64 a, .int .u64 b] w fun e w' => e = .returned (.int .u64 ((Nat.gcd a b : Nat) : Int)) ∧ Below w.heap.size w w' := by
  obtain ⟨d, hd⟩ : ∃ d, d = Nat.gcd a b := ⟨_, rfl⟩
  rw [← hd]
  have HD := Lib.hid hd
  clear hd
  go_enter Tryd.func33, Tryd.ntmps33
  go_wp2_with fail
  go_loopw [0, 1] (fun av bv wr => ∃ x y : Nat, av = .int .u64 x ∧ bv = .int .u64 y ∧ x < 18446744073709551616 ∧ y < 18446744073709551616 ∧ Hid (d = Nat.gcd x y) ∧ Below w.heap.size w wr) (fun _ bv _ => (intOf bv).toNat)
  case atStart => exact ⟨a, b, rfl, rfl, ha, hb, HD, Below.refl _ _⟩
  case round =>
    obtain ⟨x, y, rfl, rfl, hx, hy, HI, hbel⟩ := hrel
    have HBL := Lib.hid hbel
    clear hbel HD ha hb
    by_cases hy0 : y = 0
    · subst hy0
      have hdx : d = x := by rw [HI.out, Nat.gcd_zero_right]
      subst hdx
      go_wp2_with fail
      go_ret
      exact ⟨rfl, HBL.out⟩
    · have hyz : ((y : Int) == 0) = false := by rw [beq_eq_false_iff_ne]; omega
      obtain ⟨r, hr⟩ : ∃ r, r = x % y := ⟨_, rfl⟩
      have hri : (x : Int).tmod (y : Int) = (r : Int) := by rw [Int.tmod_eq_emod_of_nonneg (by omega), hr]; simp
      have hry : r < y := by rw [hr]; exact Nat.mod_lt _ (by omega)
      have HI2 := Lib.hid (show d = Nat.gcd y r by rw [hr, gcd_step]; exact HI.out)
      clear hr hy0
      go_wp2_with fail
      go_quiet (fail)
      go_wp2_with fail
      refine ⟨⟨y, r, rfl, rfl, hy, by omega, HI2, below_drewN HBL.out _⟩, ?_⟩
      simp [intOf] <;> omega

theorem str_zero_beq (b : Nat) : ((str b).toList == [48]) = decide (b = 0) := is0 b

set_option maxHeartbeats 1600000 in
set_option maxRecDepth 100000 in
theorem gcdR_any (a b : Nat) (w : World) (ha : (str a).size ≤ 400000) (hb : (str b).size ≤ 400000) :
    Calls Tryd.prog 13 #[.string (str a), .string (str b)] w fun e w' => e = .returned (.string (str (Nat.gcd a b))) ∧ Below w.heap.size w w' := by
  obtain ⟨d, hd⟩ : ∃ d, d = Nat.gcd a b := ⟨_, rfl⟩
  rw [← hd]
  have HD := Lib.hid hd
  clear hd
  go_enter Tryd.func13, Tryd.ntmps13
  go_wp2_with fail
  go_loopw [0, 1, 5, 6, 7, 8, 9, 10] (fun av bv _ _ _ _ _ _ wr => ∃ x y : Nat, av = .string (str x) ∧ bv = .string (str y) ∧ (str x).size ≤ 400000 ∧ (str y).size ≤ 400000 ∧ Hid (d = Nat.gcd x y) ∧ Below w.heap.size w wr) (fun _ bv _ _ _ _ _ _ _ => match bv with | .string s => val s.data.toList | _ => 0)
  case atStart => exact ⟨a, b, rfl, rfl, ha, hb, HD, Below.refl _ _⟩
  case round =>
    obtain ⟨x, y, rfl, rfl, hx, hy, HI, hbel⟩ := hrel
    have HB := Lib.hid hbel
    have i0 := is0 y
    clear hbel HD ha hb
    by_cases hy0 : y = 0
    · have hyz : ((str y).toList == [48]) = true := by rw [i0]; simpa using hy0
      have hdx : d = x := by rw [HI.out, hy0, Nat.gcd_zero_right]
      subst hdx
      clear i0 hy0
      go_wp2_with fail
      go_ret
      exact ⟨rfl, HB.out⟩
    · have hyz : ((str y).toList == [48]) = false := by rw [i0]; simpa using hy0
      have HY0 := Lib.hid (Nat.pos_of_ne_zero hy0)
      clear i0 hy0
      by_cases hq : (str x).size ≤ 18 ∧ (str y).size ≤ 18
      · have HQ1 := Lib.hid (fun wx => quick_yes x wx hq.1)
        have HQ2 := Lib.hid (fun wx => quick_yes y wx hq.2)
        have hx18 := lt_of_size hq.1
        have hy18 := lt_of_size hq.2
        have HO := Lib.hid (fun (z : Nat) (wx : World) (hz : z < 18446744073709551616) => ofR_any z wx hz)
        have hxb : x < 1000000000000000000 := by omega
        have hyb : y < 1000000000000000000 := by omega
        clear hq hx18 hy18 hx hy
        go_wp2_with fail
        refine (HQ1.out _).mono ?_
        rintro e w1 ⟨rfl, rfl⟩
        go_wp2_with fail
        refine (HQ2.out _).mono ?_
        rintro e w1 ⟨rfl, rfl⟩
        go_wp2_with fail
        go_loopw [5, 7] (fun xv yv wr2 => ∃ p q : Nat, xv = .int .u64 p ∧ yv = .int .u64 q ∧ p < 1000000000000000000 ∧ q < 1000000000000000000 ∧ Hid (d = Nat.gcd p q) ∧ Below w.heap.size w wr2) (fun _ yv _ => (intOf yv).toNat)
        case atStart => exact ⟨x, y, rfl, rfl, hxb, hyb, HI, HB.out⟩
        case round =>
          obtain ⟨p, q, rfl, rfl, hp, hq, HJ, hbel⟩ := hrel
          have HBJ := Lib.hid hbel
          clear hbel
          by_cases hq0 : q = 0
          · subst hq0
            have hdx : d = p := by rw [HJ.out, Nat.gcd_zero_right]
            subst hdx
            have HOP := Lib.hid (fun wx => HO.out d wx (by omega))
            go_wp2_with fail
            refine (HOP.out _).mono ?_
            rintro e w2 ⟨rfl, h2⟩
            have HB2 := Lib.hid (HBJ.out.trans (h2.mono HBJ.out.size))
            clear h2
            go_wp2_with fail
            go_ret
            exact ⟨rfl, HB2.out⟩
          · have hqz : ((q : Int) == 0) = false := by rw [beq_eq_false_iff_ne]; omega
            have hqp : (0 : Int) < (q : Int) := by omega
            obtain ⟨r, hr⟩ : ∃ r, r = p % q := ⟨_, rfl⟩
            have hri : (p : Int).tmod (q : Int) = (r : Int) := by rw [Int.tmod_eq_emod_of_nonneg (by omega), hr]; simp
            have hrq : r < q := by rw [hr]; exact Nat.mod_lt _ (by omega)
            have HJ2 := Lib.hid (show d = Nat.gcd q r by rw [hr, gcd_step]; exact HJ.out)
            clear hr hq0
            go_wp2_with fail
            go_quiet (fail)
            go_wp2_with fail
            refine ⟨⟨q, r, rfl, rfl, hq, by omega, HJ2, below_drewN HBJ.out _⟩, ?_⟩
            simp [intOf] <;> omega
      · obtain ⟨q1, bx, HA, HA2⟩ : ∃ (q1 : Nat) (bx : Bool), Hid (∀ wx, Calls Tryd.prog 26 #[.string (str x)] wx fun e w' => e = .returned (.tuple #[.int .u64 q1, .bool bx]) ∧ wx = w') ∧ (bx = true → (str x).size ≤ 18) := by
          by_cases h : (str x).size ≤ 18
          · exact ⟨x, true, fun wx => quick_yes x wx h, fun _ => h⟩
          · exact ⟨0, false, fun wx => quick_no x wx (by omega), fun h => by cases h⟩
        obtain ⟨q2, by', HB', HB2⟩ : ∃ (q2 : Nat) (bx : Bool), Hid (∀ wx, Calls Tryd.prog 26 #[.string (str y)] wx fun e w' => e = .returned (.tuple #[.int .u64 q2, .bool bx]) ∧ wx = w') ∧ (bx = true → (str y).size ≤ 18) := by
          by_cases h : (str y).size ≤ 18
          · exact ⟨y, true, fun wx => quick_yes y wx h, fun _ => h⟩
          · exact ⟨0, false, fun wx => quick_no y wx (by omega), fun h => by cases h⟩
        have hbb : bx = false ∨ (bx = true ∧ by' = false) := by
          cases bx with
          | false => exact .inl rfl
          | true => cases by' with
                    | false => exact .inr ⟨rfl, rfl⟩
                    | true => exact absurd ⟨HA2 rfl, HB2 rfl⟩ hq
        have HDM := Lib.hid (fun wx => divR_any x y wx hx hy HY0.out)
        obtain ⟨t, ht⟩ : ∃ t, t = x / y := ⟨_, rfl⟩
        obtain ⟨r, hr⟩ : ∃ r, r = x % y := ⟨_, rfl⟩
        rw [← ht, ← hr] at HDM
        have HRY := Lib.hid (show r < y by rw [hr]; exact Nat.mod_lt _ HY0.out)
        have hrs : (str r).size ≤ 400000 := Nat.le_trans (size_mono (Nat.le_of_lt HRY.out)) hy
        have HI2 := Lib.hid (show d = Nat.gcd y r by rw [hr, gcd_step]; exact HI.out)
        clear hq HA2 HB2 ht hr
        rcases hbb with rfl | ⟨rfl, rfl⟩
        all_goals
          go_wp2_with fail
          refine (HA.out _).mono ?_
          rintro e w1 ⟨rfl, rfl⟩
          go_wp2_with fail
          refine (HB'.out _).mono ?_
          rintro e w1 ⟨rfl, rfl⟩
          go_wp2_with fail
          refine (HDM.out _).mono ?_
          rintro e w2 ⟨rfl, h2⟩
          have HB3 := Lib.hid (HB.out.trans (h2.mono HB.out.size))
          clear h2
          go_wp2_with fail
          refine ⟨⟨y, r, rfl, rfl, hy, hrs, HI2, HB3.out⟩, ?_⟩
          show val (str r).data.toList < val (str y).data.toList
          rw [strval, strval]; exact HRY.out
end Go.Proofs.YtfhmdlpjeiockaaDoor
