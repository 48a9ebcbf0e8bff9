/-
  The contract of known: the chapter's examples.
-/
import Derived.Test.YtfhmdlpjeiockaaDoorPow
namespace Go.Proofs.YtfhmdlpjeiockaaDoor
open Go.RowKit

set_option maxRecDepth 100000 in
theorem known_divmod (w : World) (hs : Std w) :
    Calls Tryd.prog 8 #[.string ⟨#[49, 48, 48, 48, 48, 48, 48, 48, 48, 48, 48, 48, 48, 48, 48, 48, 48, 48, 48, 48, 48, 48]⟩, .string ⟨#[55]⟩] w fun e w' => e = .returned (.tuple #[.string ⟨#[49, 52, 50, 56, 53, 55, 49, 52, 50, 56, 53, 55, 49, 52, 50, 56, 53, 55, 49, 52, 50]⟩, .string ⟨#[54]⟩, .int .i64 0]) ∧ Below w.heap.size w w' := by
  have e1 : (⟨#[49, 48, 48, 48, 48, 48, 48, 48, 48, 48, 48, 48, 48, 48, 48, 48, 48, 48, 48, 48, 48, 48]⟩ : ByteArray) = str 1000000000000000000000 := str_eq _ (by decide +kernel) (by decide +kernel)
  have e2 : (⟨#[55]⟩ : ByteArray) = str 7 := str_eq _ (by decide +kernel) (by decide +kernel)
  have e3 : (⟨#[49, 52, 50, 56, 53, 55, 49, 52, 50, 56, 53, 55, 49, 52, 50, 56, 53, 55, 49, 52, 50]⟩ : ByteArray) = str (1000000000000000000000 / 7) := str_eq _ (by decide +kernel) (by decide +kernel)
  have e4 : (⟨#[54]⟩ : ByteArray) = str (1000000000000000000000 % 7) := str_eq _ (by decide +kernel) (by decide +kernel)
  rw [e1, e2, e3, e4]
  exact divmod_small 1000000000000000000000 7 w hs (Nat.le_trans (str_big (n := 22) (by decide) (by decide)) (by decide)) (by decide) (by decide) (by decide)

set_option maxRecDepth 100000 in
theorem known_small (w : World) (hs : Std w) :
    Calls Tryd.prog 17 #[.string ⟨#[49, 56, 52, 52, 54, 55, 52, 52, 48, 55, 51, 55, 48, 57, 53, 53, 49, 54, 49, 54]⟩] w fun e w' => e = .returned (.tuple #[.int .u64 0, .bool false]) ∧ Below w.heap.size w w' := by
  have e1 : (⟨#[49, 56, 52, 52, 54, 55, 52, 52, 48, 55, 51, 55, 48, 57, 53, 53, 49, 54, 49, 54]⟩ : ByteArray) = str 18446744073709551616 := str_eq _ (by decide +kernel) (by decide +kernel)
  rw [e1]
  exact small_no 18446744073709551616 (by decide) w hs

set_option maxRecDepth 100000 in
theorem known_power (w : World) (hs : Std w) :
    Calls Tryd.prog 18 #[.string ⟨#[50]⟩, .int .i64 64] w fun e w' => e = .returned (.tuple #[.string ⟨#[49, 56, 52, 52, 54, 55, 52, 52, 48, 55, 51, 55, 48, 57, 53, 53, 49, 54, 49, 54]⟩, .int .i64 0]) ∧ Below w.heap.size w w' := by
  have e1 : (⟨#[50]⟩ : ByteArray) = str 2 := str_eq _ (by decide +kernel) (by decide +kernel)
  have e2 : (⟨#[49, 56, 52, 52, 54, 55, 52, 52, 48, 55, 51, 55, 48, 57, 53, 53, 49, 54, 49, 54]⟩ : ByteArray) = str (2 ^ 64) := str_eq _ (by decide +kernel) (by decide +kernel)
  rw [e1, e2]
  refine (power_any 2 64 w hs (Nat.le_trans (str_big (n := 1) (by decide) (by decide)) (by decide)) (by decide) (by decide)).mono ?_
  rintro e w' ⟨h, hb⟩
  refine ⟨?_, hb⟩
  rcases h with ⟨_, h⟩ | ⟨h, _⟩
  · exact h
  · have := str_big (a := 2 ^ 64) (n := 20) (by decide) (by decide)
    omega

theorem known_bits8 (w : World) :
    Calls Tryd.prog 19 #[.string ⟨#[50, 53, 53]⟩] w fun e w' => e = .returned (.int .i64 8) ∧ Below w.heap.size w w' := by
  have e1 : (⟨#[50, 53, 53]⟩ : ByteArray) = str 255 := str_eq _ (by decide +kernel) (by decide +kernel)
  rw [e1]
  exact bits_small 255 (by decide) w

theorem known_bits9 (w : World) :
    Calls Tryd.prog 19 #[.string ⟨#[50, 53, 54]⟩] w fun e w' => e = .returned (.int .i64 9) ∧ Below w.heap.size w w' := by
  have e1 : (⟨#[50, 53, 54]⟩ : ByteArray) = str 256 := str_eq _ (by decide +kernel) (by decide +kernel)
  rw [e1]
  exact bits_small 256 (by decide) w

theorem known_007 (w : World) :
    Calls Tryd.prog 20 #[.string ⟨#[48, 48, 55]⟩] w fun e w' => e = .returned (.bool false) ∧ w = w' :=
  canonical_any ⟨#[48, 48, 55]⟩ w (by decide)

set_option maxHeartbeats 1600000 in
set_option maxRecDepth 100000 in
theorem known_any (w : World) (hs : Std w) :
    Calls Tryd.prog 5 #[] w fun e w' => e = .returned (.bool true) ∧ Below w.heap.size w w' := by
  have HS := Lib.hid hs
  clear hs
  go_enter Tryd.func5, Tryd.ntmps5
  go_wp2_with fail
  refine (known_divmod _ HS.out).mono ?_
  rintro e w1 ⟨rfl, h1⟩
  have HS1 := Lib.hid (HS.out.below h1)
  have H1 := Lib.hid h1
  clear h1
  go_wp2_with fail
  refine (known_small _ HS1.out).mono ?_
  rintro e w2 ⟨rfl, h2⟩
  have HS2 := Lib.hid (HS1.out.below h2)
  have H2 := Lib.hid (H1.out.trans (h2.mono H1.out.size))
  clear h2
  go_wp2_with fail
  refine (known_power _ HS2.out).mono ?_
  rintro e w3 ⟨rfl, h3⟩
  have H3 := Lib.hid (H2.out.trans (h3.mono H2.out.size))
  clear h3
  go_wp2_with fail
  refine (known_bits8 _).mono ?_
  rintro e w4 ⟨rfl, h4⟩
  have H4 := Lib.hid (H3.out.trans (h4.mono H3.out.size))
  clear h4
  go_wp2_with fail
  refine (known_bits9 _).mono ?_
  rintro e w5 ⟨rfl, h5⟩
  have H5 := Lib.hid (H4.out.trans (h5.mono H4.out.size))
  clear h5
  go_wp2_with fail
  refine (known_007 _).mono ?_
  rintro e w6 ⟨rfl, rfl⟩
  go_wp2_with fail
  go_ret
  exact ⟨rfl, H5.out⟩
end Go.Proofs.YtfhmdlpjeiockaaDoor
