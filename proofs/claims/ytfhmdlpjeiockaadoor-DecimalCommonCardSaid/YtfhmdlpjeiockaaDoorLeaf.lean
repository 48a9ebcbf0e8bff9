/-
  Contracts of the leaves of package decimal: begins, Canonical, value; the reference's Canonical.
-/
import Derived.Test.YtfhmdlpjeiockaaDoorProg
import Derived.Test.YtfhmdlpjeiockaaDoorPlain
import Derived.WalkKit
import Derived.WalkSpells
import Derived.WalkLawsBesides
import Derived.LoopTactic
import Derived.BigQuiet
import Derived.BigGuard
import Derived.Lib.Hide
import Derived.Lib.Bytealg
namespace Go.Proofs.YtfhmdlpjeiockaaDoor
open Go.RowKit

theorem ret_bool {a b : Bool} (h : a = b) : Ending.returned (.bool a) = Ending.returned (.bool b) := by rw [h]
theorem ret_int {k : IntKind} {a b : Int} (h : a = b) : Ending.returned (.int k a) = Ending.returned (.int k b) := by rw [h]
theorem ret_str {a b : ByteArray} (h : a = b) : Ending.returned (.string a) = Ending.returned (.string b) := by rw [h]
theorem tl (s : ByteArray) : s.toList = s.data.toList := Lib.toList_data s
theorem len_list (s : ByteArray) : s.data.toList.length = s.size := (Lib.size_eq s).symm
theorem at_list (s : ByteArray) (k : Nat) (h : k < s.size) : s.data.toList[k]'(by rw [len_list]; exact h) = s[k]'h := by simp; rfl
theorem hd1 {s : ByteArray} (h : 0 < s.size) : headOk s.data.toList = (s.toList == [48] || ((s[0]'h).toNat : Int) != 48) := by
  rw [tl]
  have e : s.data.toList[0]? = some (s[0]'h) := by rw [List.getElem?_eq_getElem (by rw [len_list]; exact h), at_list s 0 h]
  cases hl : s.data.toList with
  | nil => have := len_list s; rw [hl] at this; simp at this; omega
  | cons c l =>
    rw [hl] at e
    have e2 : c = s[0]'h := by simpa using e
    rw [← e2]
    unfold headOk
    have e3 : (((c.toNat : Int)) != 48) = !(c == 48) := by
      rw [Bool.eq_iff_iff]; simp [← UInt8.toNat_inj]; omega
    simp [e3]
theorem hd2 {s : ByteArray} (h : ¬ 0 < s.size) : headOk s.data.toList = (s.toList == [48]) := by
  rw [tl]
  cases hl : s.data.toList with
  | nil => rfl
  | cons c l => have := len_list s; rw [hl] at this; simp at this; omega
theorem hd0 {s : ByteArray} (h : s.toList = [48]) : headOk s.data.toList = true := by
  rw [tl] at h; rw [h]; rfl
theorem take_all (s : ByteArray) (k : Nat) (h : k < s.size) : (s.data.toList.take (k + 1)).all isD = ((s.data.toList.take k).all isD && isD (s[k]'h)) := by
  rw [List.take_succ_eq_append_getElem (by rw [len_list]; exact h), List.all_append, at_list s k h]; simp
theorem take_val (s : ByteArray) (k : Nat) (h : k < s.size) : val (s.data.toList.take (k + 1)) = 10 * val (s.data.toList.take k) + ((s[k]'h).toNat - 48) := by
  rw [List.take_succ_eq_append_getElem (by rw [len_list]; exact h), val_snoc, at_list s k h]
theorem take_all_len (s : ByteArray) (k : Nat) (h : s.size ≤ k) : s.data.toList.take k = s.data.toList := List.take_of_length_le (by rw [len_list]; exact h)
theorem all_take_false {s : ByteArray} {k : Nat} (h : k < s.size) (hd : isD (s[k]'h) = false) : s.data.toList.all isD = false := by
  rw [← List.take_append_drop (k + 1) s.data.toList, List.all_append, take_all s k h, hd]; simp
set_option maxHeartbeats 400000 in
theorem begins_any (s : ByteArray) (w : World) :
    Calls Tryd.prog 41 #[.string s] w fun e w' => e = .returned (.bool (headOk s.data.toList)) ∧ w = w' := by
  go_enter Tryd.func41, Tryd.ntmps41
  go_wp2
  all_goals go_ret
  · exact ⟨ret_bool (hd0 (by assumption)).symm, rfl⟩
  · exact ⟨ret_bool (hd1 (by assumption)).symm, rfl⟩
  · exact ⟨ret_bool (hd2 (by assumption)).symm, rfl⟩

set_option maxHeartbeats 800000 in
/-- the loop over the digits, for strings that begin well -/
theorem canonical_any (s : ByteArray) (w : World) (hs : s.size ≤ 9223372036854775806) :
    Calls Tryd.prog 20 #[.string s] w fun e w' => e = .returned (.bool (canonL s.data.toList)) ∧ w = w' := by
  cases hb : headOk s.data.toList with
  | false =>
    have hc : canonL s.data.toList = false := by unfold canonL; rw [hb]; rfl
    have HC := Lib.hid hc
    have HB := Lib.hid hb
    clear hc hb
    go_enter Tryd.func20, Tryd.ntmps20
    go_wp2_with (go_at_call 41; refine (begins_any _ _).mono ?_; rintro e w' ⟨rfl, rfl⟩; rw [HB.out])
    go_ret
    exact ⟨ret_bool HC.out.symm, rfl⟩
  | true =>
    have hc : canonL s.data.toList = s.data.toList.all isD := by unfold canonL; rw [hb]; simp
    have HC := Lib.hid hc
    have HB := Lib.hid hb
    clear hc hb
    go_enter Tryd.func20, Tryd.ntmps20
    go_wp2_with (go_at_call 41; refine (begins_any _ _).mono ?_; rintro e w' ⟨rfl, rfl⟩; rw [HB.out])
    go_loop [3, 9] (fun _ i => ∃ k : Nat, k ≤ s.size ∧ i = .int .i64 k ∧ Hid ((s.data.toList.take k).all isD = true)) (fun _ i => s.size - (intOf i).toNat)
    case atStart => exact ⟨0, Nat.zero_le _, rfl, rfl⟩
    case round =>
      obtain ⟨k, hk, rfl, HA⟩ := hrel
      by_cases hlt : k < s.size
      · have hta := take_all s k hlt
        cases hd : isD (s[k]'hlt) with
        | true =>
          have h1 := isD_lt hd
          have HT := Lib.hid hta
          have HD := Lib.hid hd
          have g1 : 48 ≤ (s[k].toNat : Int) := by omega
          have g2 : (s[k].toNat : Int) ≤ 57 := by omega
          clear hta hd h1
          go_wp2
          all_goals go_round
          case rel => exact ⟨k + 1, by omega, by go_num, by show _ = true; rw [HT.out, HA.out, HD.out]; rfl⟩
          case measure => simp [intOf]; omega
        | false =>
          have hf := all_take_false hlt hd
          have HF := Lib.hid hf
          have h1 : (s[k].toNat : Int) < 48 ∨ (57 : Int) < s[k].toNat := by simp [isD] at hd; omega
          clear hf hd hta
          rcases h1 with h1 | h1
          · go_wp2
            go_ret
            exact ⟨ret_bool (by rw [HC.out, HF.out]), rfl⟩
          · go_wp2
            go_ret
            exact ⟨ret_bool (by rw [HC.out, HF.out]), rfl⟩
      · go_wp2
        go_ret
        exact ⟨ret_bool (by rw [HC.out, ← take_all_len s k (by omega)]; exact HA.out.symm), rfl⟩
end Go.Proofs.YtfhmdlpjeiockaaDoor
