/-
  Rows in memory that are only read; the first leaves.
-/
import Derived.Test.YtkpaopfdnfgjeaaGreatDoorProg
import Derived.Test.YtkpaopfdnfgjeaaGreatDoorWPlain
import Derived.WalkKit
import Derived.WalkSpells
import Derived.WalkLawsBesides
import Derived.LoopTactic
import Derived.BigQuiet
import Derived.BigGuard
import Derived.Lib.Hide
import Derived.Lib.Bytealg
import Derived.IntWalk
import Derived.OwnWalk
import Derived.Laws.OwnMore
import Derived.OneCell
import Derived.Deep.Draws
import Derived.Deep.QuietTactic
namespace Go.Proofs.YtkpaopfdnfgjeaaGreatDoor
open Go.RowKit

theorem ret_bool {a b : Bool} (h : a = b) : Ending.returned (.bool a) = Ending.returned (.bool b) := by rw [h]
theorem ret_int {k : IntKind} {a b : Int} (h : a = b) : Ending.returned (.int k a) = Ending.returned (.int k b) := by rw [h]
theorem below_draw {w : World} : Below w.heap.size w w.drew := Below.drew (Below.refl _ _)

/-- a slice of ints that reads as a list -/
def Rd (w : World) (a : Option Addr) (n cap : Nat) (l : List Int) : Prop :=
  l.length = n ∧ n ≤ cap ∧ cap ≤ maxLen ∧ (∀ z ∈ l, -9223372036854775808 ≤ z ∧ z ≤ 9223372036854775807) ∧
  (l = [] ∨ ∃ b off, a = some ⟨b, off, none⟩ ∧ b < w.heap.size ∧ ∀ i (h : i < l.length), w.cell? ⟨b, off + i, none⟩ = some (.int .i64 (l[i]'h)))
theorem Rd.below {w w' : World} {a : Option Addr} {n cap : Nat} {l : List Int} (h : Rd w a n cap l) (hb : Below w.heap.size w w') : Rd w' a n cap l := by
  obtain ⟨h1, h2, h3, h4, h5⟩ := h
  refine ⟨h1, h2, h3, h4, ?_⟩
  rcases h5 with h5 | ⟨b, off, e, hlt, hc⟩
  · exact .inl h5
  · exact .inr ⟨b, off, e, Nat.lt_of_lt_of_le hlt hb.size, fun i hi => by rw [hb.cell (p := ⟨b, off + i, none⟩) hlt]; exact hc i hi⟩
theorem Rd.len {w : World} {a : Option Addr} {n cap : Nat} {l : List Int} (h : Rd w a n cap l) : l.length = n := h.1
theorem Rd.cap {w : World} {a : Option Addr} {n cap : Nat} {l : List Int} (h : Rd w a n cap l) : n ≤ cap ∧ cap ≤ 9223372036854775807 := by
  have := h.2.2.1; unfold maxLen at this; exact ⟨h.2.1, this⟩
theorem Rd.bd {w : World} {a : Option Addr} {n cap : Nat} {l : List Int} (h : Rd w a n cap l) (i : Nat) (hi : i < l.length) : -9223372036854775808 ≤ l[i] ∧ l[i] ≤ 9223372036854775807 := h.2.2.2.1 _ (List.getElem_mem hi)
/-- the two ways of a row -/
theorem Rd.ways {w : World} {a : Option Addr} {n cap : Nat} {l : List Int} (h : Rd w a n cap l) :
    (l = [] ∧ n = 0) ∨ ∃ b off, a = some ⟨b, off, none⟩ ∧ b < w.heap.size ∧ ∀ i (h : i < l.length), w.cell? ⟨b, off + i, none⟩ = some (.int .i64 (l[i]'h)) := by
  obtain ⟨h1, h2, h3, h4, h5⟩ := h
  rcases h5 with h5 | h5
  · exact .inl ⟨h5, by rw [← h1, h5]; rfl⟩
  · exact .inr h5

set_option maxHeartbeats 400000 in
theorem isEntry_any (z : Int) (w : World) :
    Calls Tryz.prog 32 #[.int .i64 z] w fun e w' => e = .returned (.bool (entB z)) ∧ w = w' := by
  by_cases h1 : -1000000000 ≤ z
  · by_cases h2 : z ≤ 1000000000
    · have e : entB z = true := by unfold entB; simp [h1, h2]
      rw [e]; clear e
      go_enter Tryz.func32, Tryz.ntmps32
      go_wp2
      go_ret
      exact ⟨rfl, rfl⟩
    · have e : entB z = false := by unfold entB; simp [h1, h2]
      have h2' : 1000000000 < z := by omega
      rw [e]; clear e
      go_enter Tryz.func32, Tryz.ntmps32
      go_wp2
      go_ret
      exact ⟨rfl, rfl⟩
  · have e : entB z = false := by unfold entB; simp [h1]
    have h1' : z < -1000000000 := by omega
    rw [e]; clear e
    go_enter Tryz.func32, Tryz.ntmps32
    go_wp2
    go_ret
    exact ⟨rfl, rfl⟩

set_option maxHeartbeats 400000 in
theorem checkN_any (a : Option Addr) (n cap : Nat) (l : List Int) (w : World) (h : Rd w a n cap l) :
    Calls Tryz.prog 15 #[.slice a n cap] w fun e w' => e = .returned (.int .i64 (errR l)) ∧ w = w' := by
  have hc := h.cap
  have hl := h.len
  by_cases h64 : n ≤ 64
  · rcases h.ways with ⟨rfl, rfl⟩ | ⟨b, off, rfl, hb, hcell⟩
    · clear h
      go_enter Tryz.func15, Tryz.ntmps15
      go_wp2_with fail
      refine wp_loop_rounds 1 ?_
      rw [rounds_succ]
      go_wp2_with fail
      go_ret
      exact ⟨rfl, rfl⟩
    · have HL := Lib.hid hl
      have HC := Lib.hid hcell
      clear hl hcell h
      go_enter Tryz.func15, Tryz.ntmps15
      go_wp2_with fail
      go_loop [4, 10, 11, 12, 13, 14, 15, 16, 17] (fun _ iv _ _ _ _ _ _ _ => ∃ k : Nat, iv = .int .i64 k ∧ k ≤ n ∧ Hid ((l.take k).all entB = true)) (fun _ iv _ _ _ _ _ _ _ => n - (intOf iv).toNat)
      case atStart => exact ⟨0, rfl, Nat.zero_le _, by simp [Hid]⟩
      case round =>
        obtain ⟨k, rfl, hk, HA⟩ := hrel
        by_cases hlt : k < n
        · have hkl : k < l.length := by rw [HL.out]; exact hlt
          have hcl := HC.out k hkl
          obtain ⟨z, hz⟩ : ∃ z, z = l[k] := ⟨_, rfl⟩
          rw [← hz] at hcl
          have HZ := Lib.hid hz
          have HE := Lib.hid (isEntry_any z w)
          clear hz
          cases he : entB z with
          | true =>
            rw [he] at HE
            have HT := Lib.hid (show (l.take (k + 1)).all entB = true by rw [all_take_succ _ _ _ hkl, HA.out, ← HZ.out, he]; rfl)
            clear he
            go_wp2_with fail
            refine HE.out.mono ?_
            rintro e w' ⟨rfl, rfl⟩
            go_wp2_with fail
            go_round
            case rel => exact ⟨k + 1, by go_num, by omega, HT⟩
            case measure => simp [intOf]; omega
          | false =>
            rw [he] at HE
            have HR := Lib.hid (show errR l = 4 from errR_no (okB_bad hkl (by rw [← HZ.out]; exact he)))
            clear he
            go_wp2_with fail
            refine HE.out.mono ?_
            rintro e w' ⟨rfl, rfl⟩
            go_wp2_with fail
            go_ret
            exact ⟨ret_int HR.out.symm, rfl⟩
        · obtain rfl : k = n := by omega
          have HR := Lib.hid (show errR l = 0 from errR_ok (okB_good (by rw [HL.out]; omega) (by have := HA.out; rw [List.take_of_length_le (by rw [HL.out]; omega)] at this; exact this)))
          go_wp2_with fail
          go_ret
          exact ⟨ret_int HR.out.symm, rfl⟩
  · have HR := Lib.hid (show errR l = 4 from errR_no (okB_long (by omega)))
    have h64' : 64 < n := by omega
    clear h hl
    go_enter Tryz.func15, Tryz.ntmps15
    go_wp2_with fail
    go_ret
    exact ⟨ret_int HR.out.symm, rfl⟩
end Go.Proofs.YtkpaopfdnfgjeaaGreatDoor
