/-
  Greatest common divisors, Content.
-/
import Derived.Test.YtkpaopfdnfgjeaaGreatDoorWScale
namespace Go.Proofs.YtkpaopfdnfgjeaaGreatDoor
open Go.RowKit

/-- the content -/
def gcdL (l : List Int) : Nat := l.foldl (fun g z => Nat.gcd g z.natAbs) 0
theorem gcdL_snoc (l : List Int) (z : Int) : gcdL (l ++ [z]) = Nat.gcd (gcdL l) z.natAbs := by simp [gcdL, List.foldl_append]
theorem gcdL_dvd_aux : ∀ (l : List Int) (g : Nat), l.foldl (fun g z => Nat.gcd g z.natAbs) g ∣ g ∧ ∀ z ∈ l, l.foldl (fun g z => Nat.gcd g z.natAbs) g ∣ z.natAbs := by
  intro l
  induction l with
  | nil => intro g; exact ⟨Nat.dvd_refl _, by simp⟩
  | cons x l ih =>
    intro g
    obtain ⟨h1, h2⟩ := ih (Nat.gcd g x.natAbs)
    refine ⟨Nat.dvd_trans h1 (Nat.gcd_dvd_left _ _), ?_⟩
    intro z hz
    rcases List.mem_cons.1 hz with rfl | hz
    · exact Nat.dvd_trans h1 (Nat.gcd_dvd_right _ _)
    · exact h2 z hz
theorem gcdL_dvd {l : List Int} {z : Int} (h : z ∈ l) : gcdL l ∣ z.natAbs := (gcdL_dvd_aux l 0).2 z h
theorem gcd_le_of {g b : Nat} {z : Int} (hg : g ≤ b) (h1 : z.natAbs ≤ b) : Nat.gcd g z.natAbs ≤ b := by
  by_cases h : g = 0
  · rw [h, Nat.gcd_zero_left]; exact h1
  · exact Nat.le_trans (Nat.gcd_le_left _ (by omega)) hg
theorem gcdL_zero_all : ∀ (l : List Int) (g : Nat), l.foldl (fun g z => Nat.gcd g z.natAbs) g = 0 → ∀ z ∈ l, z = 0 := by
  intro l g h z hz
  have := (gcdL_dvd_aux l g).2 z hz
  rw [h] at this
  have := Nat.eq_zero_of_zero_dvd this
  omega
theorem gcdL_zero {l : List Int} : gcdL l = 0 ↔ zeroB l = true := by
  constructor
  · intro h
    unfold zeroB; rw [List.all_eq_true]
    intro z hz; simp [gcdL_zero_all l 0 h z hz]
  · intro h
    rw [zeroB_all h]
    generalize l.length = n
    induction n with
    | zero => rfl
    | succ n ih => rw [List.replicate_succ', gcdL_snoc, ih]; rfl
theorem gcd_tmod (m n : Int) : Int.gcd n (m.tmod n) = Int.gcd m n := by
  unfold Int.gcd
  rw [Int.natAbs_tmod, Nat.gcd_comm n.natAbs, ← Nat.gcd_rec, Nat.gcd_comm]

set_option maxHeartbeats 800000 in
set_option maxRecDepth 100000 in
theorem commonD_any (g : Nat) (z : Int) (w : World) (h0 : g ≤ 1000000000) (h1 : -1000000000 ≤ z) (h2 : z ≤ 1000000000) :
    Calls Tryz.prog 47 #[.int .i64 (g : Int), .int .i64 z] w fun e w' => e = .returned (.int .i64 ((Nat.gcd g z.natAbs : Nat) : Int)) ∧ Below w.heap.size w w' := by
  obtain ⟨d, hd⟩ : ∃ d, d = Nat.gcd g z.natAbs := ⟨_, rfl⟩
  rw [← hd]
  have HD := Lib.hid (show d = Int.gcd (g : Int) z by rw [hd]; rfl)
  clear hd
  go_enter Tryz.func47, Tryz.ntmps47
  go_wp2_with fail
  go_loopw [0, 1] (fun av bv wr => ∃ x y : Int, av = .int .i64 x ∧ bv = .int .i64 y ∧ -1000000000 ≤ x ∧ x ≤ 1000000000 ∧ -1000000000 ≤ y ∧ y ≤ 1000000000 ∧ Hid (d = Int.gcd x y) ∧ Below w.heap.size w wr) (fun _ bv _ => (intOf bv).natAbs)
  case atStart => exact ⟨g, z, rfl, rfl, by omega, by omega, h1, h2, HD, Below.refl _ _⟩
  case round =>
    obtain ⟨x, y, rfl, rfl, hx1, hx2, hy1, hy2, HI, hbel⟩ := hrel
    have HBL := Lib.hid hbel
    clear hbel HD h0 h1 h2
    by_cases hy0 : y = 0
    · subst hy0
      have HA := Lib.hid (magN_any x)
      have hdx : (d : Int) = absI x := by rw [HI.out, Int.gcd_zero_right, absI_nat]
      have HDX := Lib.hid hdx
      clear hdx
      go_wp2_with fail
      refine (HA.out _ (by omega) (by omega)).mono ?_
      rintro e w1 ⟨rfl, rfl⟩
      go_wp2_with fail
      go_ret
      exact ⟨ret_int HDX.out.symm, HBL.out⟩
    · have hyz : (y != 0) = true := by simp; exact hy0
      have hyz' : (y == 0) = false := by simp; exact hy0
      obtain ⟨r, hr⟩ : ∃ r, r = x.tmod y := ⟨_, rfl⟩
      have hri : x.tmod y = r := hr.symm
      have hrl : r.natAbs < y.natAbs := by rw [hr, Int.natAbs_tmod]; exact Nat.mod_lt _ (by omega)
      have HI2 := Lib.hid (show d = Int.gcd y r by rw [hr, gcd_tmod]; exact HI.out)
      have HRL := Lib.hid hrl
      have hr1 : -1000000000 ≤ r ∧ r ≤ 1000000000 := by omega
      have hwr := in64 (x := r) (by omega) (by omega)
      clear hr hrl
      go_wp2_with fail
      go_quiet (fail)
      go_wp2_with fail
      refine ⟨⟨y, r, rfl, rfl, hy1, hy2, hr1.1, hr1.2, HI2, below_drewN HBL.out _⟩, ?_⟩
      simp only [intOf]; exact HRL.out

end Go.Proofs.YtkpaopfdnfgjeaaGreatDoor
