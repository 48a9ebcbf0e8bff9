/-
  Slices of pieces in memory; contracts of value, trim, short.
-/
import Derived.Test.YtfhmdlpjeiockaaDoorText
import Derived.OwnWalk
import Derived.Laws.OwnMore
import Derived.OneCell
import Derived.Deep.Draws
namespace Go.Proofs.YtfhmdlpjeiockaaDoor
open Go.RowKit

/-- numbers as cells -/
def c64 (l : List Nat) : List Value := l.map fun n : Nat => Value.int .u64 (n : Int)
theorem c64_len (l : List Nat) : (c64 l).length = l.length := by simp [c64]
theorem c64_at (l : List Nat) (i : Nat) (h : i < l.length) : (c64 l)[i]? = some (.int .u64 ((l[i]'h : Nat) : Int)) := by simp [c64, h]
theorem c64_take (l : List Nat) (k : Nat) : (c64 l).take k = c64 (l.take k) := by simp [c64, List.map_take]
theorem c64_append (l m : List Nat) : c64 (l ++ m) = c64 l ++ c64 m := by simp [c64]
theorem c64_set (l : List Nat) (k v : Nat) : (c64 l).set k (.int .u64 (v : Int)) = c64 (l.set k v) := by simp [c64, List.map_set]

/-- block g, from B on, is a row of the call's own that holds l, with room for cap -/
def Row (w : World) (B g cap : Nat) (l : List Nat) : Prop := w.ownsRow B 37 1 (.slice (some ⟨g, 0, none⟩) l.length cap) l.length (c64 l)
theorem Row.cell {w : World} {B g cap : Nat} {l : List Nat} (h : Row w B g cap l) (i : Nat) (hi : i < l.length) : w.cell? ⟨g, i, none⟩ = some (.int .u64 ((l[i]'hi : Nat) : Int)) := by
  rw [World.ownsRow.cellAt h i (by omega), c64_at l i hi]
theorem Row.free {w : World} {B g cap : Nat} {l : List Nat} (h : Row w B g cap l) (i : Nat) : w.frozen? ⟨g, i, none⟩ = false := World.ownsRow.frozenAt h i
theorem Row.below {w w' : World} {B g cap : Nat} {l : List Nat} (h : Row w B g cap l) (hb : Below w.heap.size w w') : Row w' B g cap l :=
  World.ownsRow.kept (row := none) h ⟨hb.os, hb.tape, hb.output, hb.size, fun j hj _ => hb.block j hj⟩ (.inr (by simp [Value.ownBlock]))
theorem Row.lt {w : World} {B g cap : Nat} {l : List Nat} (h : Row w B g cap l) : B ≤ g ∧ g < w.heap.size := World.ownsRow.lt h g rfl
theorem Row.mono {w : World} {B B' g cap : Nat} {l : List Nat} (h : Row w B g cap l) (hB : B' ≤ B) : Row w B' g cap l := by
  obtain ⟨h1, h2⟩ := h
  refine ⟨h1, ?_⟩
  rcases h2 with h2 | ⟨g', cap', cur, e, hg, r⟩
  · exact .inl h2
  · exact .inr ⟨g', cap', cur, e, by omega, r⟩
theorem Row.len_cap {w : World} {B g cap : Nat} {l : List Nat} (h : Row w B g cap l) : l.length ≤ cap ∧ cap ≤ maxLen := by
  rcases h.2 with ⟨h0, _⟩ | ⟨g', cap', cur, e, hg, hh, h1, h2, _⟩
  · cases h0
  · cases e; exact ⟨h1, h2⟩
theorem Row.take {w : World} {B g cap : Nat} {l : List Nat} (h : Row w B g cap l) (k : Nat) (hk : k ≤ l.length) : Row w B g cap (l.take k) := by
  have e : (l.take k).length = k := by rw [List.length_take]; omega
  obtain ⟨h1, h2⟩ := h
  rcases h2 with ⟨h0, _⟩ | ⟨g', cap', cur, e', hg, hh, hn, hcap, hsz, htake⟩
  · cases h0
  · cases e'
    refine ⟨by rw [c64_len, e]; omega, .inr ⟨g, cap, cur, by rw [e], hg, hh, by omega, hcap, hsz, ?_⟩⟩
    rw [e, ← c64_take, ← htake, List.take_take, Nat.mul_one, Nat.mul_one, Nat.min_eq_left (by omega)]
theorem Row.set {w : World} {B g cap : Nat} {l : List Nat} (h : Row w B g cap l) (k v : Nat) : Row (w.setCell ⟨g, k, none⟩ (.int .u64 (v : Int))) B g cap (l.set k v) := by
  have h1 := (World.ownsRow.stored h k (.int .u64 (v : Int))).1
  rw [c64_set] at h1
  unfold Row; rw [List.length_set]; exact h1
theorem Row.drew {w : World} {B g cap : Nat} {l : List Nat} (h : Row w B g cap l) : Row w.drew B g cap l := h
theorem Row.alloc {w : World} {B g cap : Nat} {l : List Nat} (h : Row w B g cap l) (o : Obj) : Row (w.alloc o) B g cap l := World.ownsRow.alloc h o

theorem ret_int2 {k : IntKind} {a b : Nat} {v : Value} (h : a = b) : Ending.returned (.tuple #[.int k a, v]) = Ending.returned (.tuple #[.int k b, v]) := by rw [h]
theorem ret_slice {g cap n m : Nat} (h : n = m) : Ending.returned (.slice (some ⟨g, 0, none⟩) n cap) = Ending.returned (.slice (some ⟨g, 0, none⟩) m cap) := by rw [h]
theorem trimP_take {l : List Nat} {j : Nat} (hj : j < l.length) (h0 : l[j] = 0) : trimP (l.take (j + 1)) = trimP (l.take j) := by
  rw [List.take_succ_eq_append_getElem hj, h0, trimP_snoc0]
theorem trimP_take' {l : List Nat} {j : Nat} (hj : j < l.length) (h0 : l[j] ≠ 0) : trimP (l.take (j + 1)) = l.take (j + 1) := by
  rw [List.take_succ_eq_append_getElem hj, trimP_snoc h0]

set_option maxHeartbeats 800000 in
theorem value_any (s : ByteArray) (w : World) (hs : s.size ≤ 9) (hd : s.data.toList.all isD = true) :
    Calls Tryd.prog 54 #[.string s] w fun e w' => e = .returned (.tuple #[.int .u64 (val s.data.toList), .bool true]) ∧ w = w' := by
  have HD : ∀ k (h : k < s.size), isD (s[k]'h) = true := fun k h => by
    rw [← at_list s k h]; exact List.all_eq_true.1 hd _ (List.getElem_mem _)
  have HB : ∀ k, val (s.data.toList.take k) < 10 ^ k := fun k => by
    have h1 := val_lt (s.data.toList.take k) (List.all_eq_true.2 fun x hx => List.all_eq_true.1 hd x (List.mem_of_mem_take hx))
    have h2 : 10 ^ (s.data.toList.take k).length ≤ 10 ^ k := Nat.pow_le_pow_right (by decide) (by rw [List.length_take]; omega)
    omega
  have HD' := Lib.hid HD
  have HB' := Lib.hid HB
  clear HD HB hd
  go_enter Tryd.func54, Tryd.ntmps54
  go_wp2
  go_loop [4, 5, 8] (fun n _ i => ∃ k v : Nat, k ≤ s.size ∧ i = .int .i64 k ∧ n = .int .u64 v ∧ Hid (v = val (s.data.toList.take k))) (fun _ _ i => s.size - (intOf i).toNat)
  case atStart => exact ⟨0, 0, Nat.zero_le _, rfl, rfl, rfl⟩
  case round =>
    obtain ⟨k, v, hk, rfl, rfl, HV⟩ := hrel
    by_cases hlt : k < s.size
    · have h1 := isD_lt (HD'.out k hlt)
      have h2 := HB'.out k
      have h3 : 10 ^ k ≤ 10 ^ 8 := Nat.pow_le_pow_right (by decide) (by omega)
      have hv0 := HV.out
      have g0 : v < 100000000 := by rw [hv0]; omega
      have g1 : 48 ≤ (s[k].toNat : Int) := by omega
      have g2 : (s[k].toNat : Int) ≤ 57 := by omega
      have HT := Lib.hid (take_val s k hlt)
      clear h1 h2 h3 hv0
      go_wp2
      all_goals go_round
      case rel => exact ⟨k + 1, 10 * v + (s[k].toNat - 48), by omega, by go_num, by go_num, by show _ = _; rw [HT.out, HV.out]⟩
      case measure => simp [intOf]; omega
    · go_wp2
      go_ret2
      exact ⟨ret_int2 (by rw [HV.out, take_all_len s k (by omega)]), rfl⟩

set_option maxHeartbeats 800000 in
theorem trim_any (B g cap : Nat) (l : List Nat) (w : World) (h : Row w B g cap l) :
    Calls Tryd.prog 45 #[.slice (some ⟨g, 0, none⟩) l.length cap] w fun e w' => e = .returned (.slice (some ⟨g, 0, none⟩) (trimP l).length cap) ∧ w = w' := by
  have hlc := h.len_cap
  unfold maxLen at hlc
  have HR := Lib.hid h
  have HP := Lib.hid (trimP_props l).2.2.2.2
  have HL := Lib.hid (trimP_props l).2.2.2.1
  clear h
  go_enter Tryd.func45, Tryd.ntmps45
  go_wp2
  go_loop [0] (fun v => ∃ k : Nat, k ≤ l.length ∧ v = .slice (some ⟨g, 0, none⟩) k cap ∧ Hid (trimP (l.take k) = trimP l)) (fun v => match v with | .slice _ n _ => n | _ => 0)
  case atStart => exact ⟨l.length, Nat.le_refl _, rfl, by show _ = _; rw [List.take_length]⟩
  case round =>
    obtain ⟨k, hk, rfl, HT⟩ := hrel
    by_cases hk0 : k = 0
    · subst hk0
      go_wp2
      go_ret
      exact ⟨ret_slice (by rw [← HT.out]; rfl), rfl⟩
    · obtain ⟨j, rfl⟩ : ∃ j, k = j + 1 := ⟨k - 1, by omega⟩
      have hj : j < l.length := by omega
      have hcell := HR.out.cell j hj
      by_cases h0 : l[j] = 0
      · have HT2 := Lib.hid (trimP_take hj h0)
        rw [h0] at hcell
        clear h0
        go_wp2
        all_goals go_round
        case rel => exact ⟨j, by omega, rfl, by show _ = _; rw [← HT2.out]; exact HT.out⟩
        case measure => simp
      · have HT2 := Lib.hid (trimP_take' hj h0)
        have hb : (((l[j] : Nat) : Int) == 0) = false := by rw [beq_eq_false_iff_ne]; omega
        have hpos : 0 < l[j] := by omega
        clear h0
        go_wp2
        go_ret
        exact ⟨ret_slice (by rw [← HT.out, HT2.out, List.length_take]; omega), rfl⟩
end Go.Proofs.YtfhmdlpjeiockaaDoor
