/-
  guess.
-/
import Derived.Test.YtfhmdlpjeiockaaDoorShort2
import Derived.Deep.QuietTactic
import Derived.BigQuiet
namespace Go.Proofs.YtfhmdlpjeiockaaDoor
open Go.RowKit

set_option maxHeartbeats 400000 in
theorem div64_q0 (lo y : Nat) (hy : 0 < y) (hlo : lo < 18446744073709551616) (w : World) :
    Calls Tryd.prog 62 #[.int .u64 0, .int .u64 lo, .int .u64 y] w fun e w' => e = .returned (.tuple #[.int .u64 ((lo / y : Nat) : Int), .int .u64 ((lo % y : Nat) : Int)]) ∧ ∃ m, w' = w.drewN m := by
  have hy0 : ((y : Int) == 0) = false := by rw [beq_eq_false_iff_ne]; omega
  have hwr : IntKind.u64.wrap ((lo : Int) / (y : Int)) = (lo : Int) / (y : Int) := by
    have hq := Nat.div_le_self lo y
    rw [← Int.natCast_ediv, IntKind.wrap_u64]; generalize lo / y = q at hq ⊢; omega
  clear hlo
  go_enter Tryd.func62, Tryd.ntmps62
  go_wp2
  go_quiet (fail)
  go_wp2
  go_ret2
  exact ⟨ret_two (a := .int .u64 ((lo : Int) / (y : Int))) (c := .int .u64 ((lo : Int) % (y : Int))) (by rw [Int.natCast_ediv]) (by rw [Int.natCast_emod]), _, rfl⟩
theorem div64_q (hi lo y : Nat) (hy : hi < y) (hy2 : y < 18446744073709551616) (hlo : lo < 18446744073709551616) (w : World) :
    Calls Tryd.prog 62 #[.int .u64 hi, .int .u64 lo, .int .u64 y] w fun e w' => e = .returned (.tuple #[.int .u64 (((hi * 18446744073709551616 + lo) / y : Nat) : Int), .int .u64 (((hi * 18446744073709551616 + lo) % y : Nat) : Int)]) ∧ ∃ m, w' = w.drewN m := by
  by_cases h : hi = 0
  · subst h
    rw [Nat.zero_mul, Nat.zero_add]
    exact div64_q0 lo y hy hlo w
  · refine (div64_big hi lo y (by omega) hy hy2 hlo w).mono ?_
    rintro e w' ⟨rfl, rfl⟩
    exact ⟨rfl, 0, rfl⟩

/-- a quiet call behind draws that were made before -/
theorem quiet_behind {P : Program} {f : FuncId} {args : Array Value} {v : Value} (h : ∀ x : World, Calls P f args x fun e y => e = .returned v ∧ ∃ m, y = x.drewN m) {w : World} {a n : Nat} :
    Calls P f args (w.drewN (a + n)) fun e y => e = .returned v ∧ ∃ m, y = w.drewN (a + m) :=
  (h (w.drewN (a + n))).mono fun e y hy => ⟨hy.1, by obtain ⟨m, hm⟩ := hy.2; exact ⟨n + m, by rw [hm, World.drewN_drewN, Nat.add_assoc]⟩⟩

set_option maxHeartbeats 1600000 in
set_option maxRecDepth 100000 in
theorem guess_cells (g g' o n cap cap' m n1 n2 t x1 x2 y1 y2 : Nat) (w : World) (hn1 : n = n1 + 1) (hn2 : n1 = n2 + 1) (hn : n ≤ 200000) (hm : m = n + 1) (ht : t < 1000000000) (hx1 : x1 < 1000000000) (hx2 : x2 < 1000000000) (hy0 : 1 ≤ y1) (hy1 : y1 < 1000000000) (hy2 : y2 < 1000000000)
    (c0 : w.cell? ⟨g, o + n, none⟩ = some (.int .u64 (t : Int))) (c1 : w.cell? ⟨g, o + n1, none⟩ = some (.int .u64 (x1 : Int))) (c2 : w.cell? ⟨g, o + n2, none⟩ = some (.int .u64 (x2 : Int)))
    (d1 : w.cell? ⟨g', n1, none⟩ = some (.int .u64 (y1 : Int))) (d2 : w.cell? ⟨g', n2, none⟩ = some (.int .u64 (y2 : Int))) :
    Calls Tryd.prog 73 #[.slice (some ⟨g, o, none⟩) m cap, .slice (some ⟨g', 0, none⟩) n cap'] w fun e w' => e = .returned (.int .u64 ((((t * 1000000000 + x1) * 1000000000 + x2) / (y1 * 1000000000 + y2) : Nat) : Int)) ∧ ∃ k, w' = w.drewN k := by
  obtain ⟨tA, htA⟩ : ∃ tA, tA = t * 1000000000 := ⟨_, rfl⟩
  obtain ⟨p1, hp1⟩ : ∃ p1, p1 = tA + x1 := ⟨_, rfl⟩
  obtain ⟨yA, hyA⟩ : ∃ yA, yA = y1 * 1000000000 := ⟨_, rfl⟩
  obtain ⟨Y, hY⟩ : ∃ Y, Y = yA + y2 := ⟨_, rfl⟩
  rw [← htA, ← hp1, ← hyA, ← hY]
  have hm0 := fun w => Tryd.bits_Mul64 p1 1000000000 (by omega) (by omega) w
  obtain ⟨V, hV⟩ : ∃ V : Nat, V = p1 * 1000000000 := ⟨_, rfl⟩
  rw [← hV] at hm0 ⊢
  obtain ⟨hi, hhi⟩ : ∃ hi : Nat, hi = V / 18446744073709551616 := ⟨_, rfl⟩
  obtain ⟨lo, hlo⟩ : ∃ lo : Nat, lo = V % 18446744073709551616 := ⟨_, rfl⟩
  rw [← hhi, ← hlo] at hm0
  obtain ⟨c, hc⟩ : ∃ c : Nat, c = (lo + x2) / 18446744073709551616 := ⟨_, rfl⟩
  obtain ⟨l2, hl2⟩ : ∃ l2 : Nat, l2 = (lo + x2) % 18446744073709551616 := ⟨_, rfl⟩
  obtain ⟨h2, hh2⟩ : ∃ h2 : Nat, h2 = hi + c := ⟨_, rfl⟩
  have ha' : ∀ wx, (callFunc 61 #[.int .u64 (lo : Int), .int .u64 (x2 : Int), .int .u64 0]).run Tryd.prog wx = .ok (.value (.tuple #[.int .u64 (l2 : Int), .int .u64 (c : Int)])) wx := fun wx => by
    have h := Tryd.bits_Add64 lo x2 0 (by omega) wx
    rw [Nat.add_zero, ← hc, ← hl2] at h
    exact h
  have hlt : h2 < Y := by omega
  have hd := fun wx => div64_q h2 l2 Y hlt (by omega) (by omega) wx
  rw [show h2 * 18446744073709551616 + l2 = V + x2 by omega] at hd
  obtain ⟨D, hD⟩ : ∃ D, D = (V + x2) / Y := ⟨_, rfl⟩
  rw [← hD] at hd ⊢
  have HM := Lib.hid hm0
  have HD := Lib.hid hd
  have hmi : (m : Int) = (n : Int) + 1 := by omega
  have hn1b : (n1 : Int) < (n : Int) := by omega
  have hn2b : (n2 : Int) < (n : Int) := by omega
  have wA : IntKind.u64.wrap ((t : Int) * 1000000000) = (tA : Int) := by rw [IntKind.wrap_u64]; omega
  have wB : IntKind.u64.wrap ((tA : Int) + (x1 : Int)) = (p1 : Int) := by rw [IntKind.wrap_u64]; omega
  have wC : IntKind.u64.wrap ((y1 : Int) * 1000000000) = (yA : Int) := by rw [IntKind.wrap_u64]; omega
  have wD : IntKind.u64.wrap ((yA : Int) + (y2 : Int)) = (Y : Int) := by rw [IntKind.wrap_u64]; omega
  have wE : IntKind.u64.wrap ((hi : Int) + (c : Int)) = (h2 : Int) := by rw [IntKind.wrap_u64]; omega
  have wF : IntKind.i64.wrap ((n : Int) - 1) = (n1 : Int) := by rw [IntKind.wrap_i64]; omega
  have wG : IntKind.i64.wrap ((n : Int) - 2) = (n2 : Int) := by rw [IntKind.wrap_i64]; omega
  have wH : (n : Int) - 2 = (n2 : Int) := by omega
  clear hm0 hd hV hhi hlo hc hl2 hh2 htA hp1 hyA hY hD hlt hn1 hn2 hm
  go_enter Tryd.func73, Tryd.ntmps73
  go_wp2_with fail
  go_quiet ((go_at_call 49; exact Calls.quiet_of_same (HM.out _)))
  go_wp2_with fail
  go_quiet ((go_at_call 62; exact quiet_behind HD.out))
  go_wp2_with fail
  go_ret
  exact ⟨rfl, _, World.drewN_drewN _ _ _⟩
end Go.Proofs.YtfhmdlpjeiockaaDoor
