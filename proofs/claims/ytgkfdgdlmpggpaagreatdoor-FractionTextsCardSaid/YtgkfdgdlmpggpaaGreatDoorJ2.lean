/-
  Texts of one seat, joined: Leaf Text Row.
-/
import Derived.Test.YtgkfdgdlmpggpaaGreatDoorProg
import Derived.Test.YtgkfdgdlmpggpaaGreatDoorJ1
import Derived.WalkKit
import Derived.WalkSpells
import Derived.WalkLawsBesides
import Derived.LoopTactic
import Derived.BigQuiet
import Derived.BigGuard
import Derived.Lib.Hide
import Derived.Lib.Bytealg
import Derived.Test.YtgkfdgdlmpggpaaGreatDoorShelf
import Derived.Lib.ItoaMem
import Derived.Lib.ItoaLen
import Derived.Lib.AtoiErrMem
import Derived.Lib.AppendIntMem
import Derived.WalkSmall
import Derived.RegionTactic
import Derived.Deep.QuietTactic
import Derived.OwnWalk
import Derived.Laws.OwnMore
import Derived.OneCell
import Derived.Deep.Draws
namespace Go.Proofs.YtgkfdgdlmpggpaaGreatDoor
open Go.RowKit

theorem ret_bool {a b : Bool} (h : a = b) : Ending.returned (.bool a) = Ending.returned (.bool b) := by rw [h]
theorem ret_int {k : IntKind} {a b : Int} (h : a = b) : Ending.returned (.int k a) = Ending.returned (.int k b) := by rw [h]
theorem ret_str {a b : ByteArray} (h : a = b) : Ending.returned (.string a) = Ending.returned (.string b) := by rw [h]
theorem tl (s : ByteArray) : s.toList = s.data.toList := Lib.toList_data s
theorem len_list (s : ByteArray) : s.data.toList.length = s.size := (Lib.size_eq s).symm
theorem at_list (s : ByteArray) (k : Nat) (h : k < s.size) : s.data.toList[k]'(by rw [len_list]; exact h) = s[k]'h := by simp; rfl
theorem hd1 {s : ByteArray} (h : 0 < s.size) : headOk s.data.toList = (s.toList == [48] || ((s[0]'h).toNat : Int) != 48) := by
  rw [tl]
  have e : s.data.toList[0]? = some (s[0]'h) := by rw [List.getElem?_eq_getElem (by rw [len_list]; exact h), at_list s 0 h]
  cases hl : s.data.toList with
  | nil => have := len_list s; rw [hl] at this; simp at this; omega
  | cons c l =>
    rw [hl] at e
    have e2 : c = s[0]'h := by simpa using e
    rw [← e2]
    unfold headOk
    have e3 : (((c.toNat : Int)) != 48) = !(c == 48) := by
      rw [Bool.eq_iff_iff]; simp [← UInt8.toNat_inj]; omega
    simp [e3]
theorem hd2 {s : ByteArray} (h : ¬ 0 < s.size) : headOk s.data.toList = (s.toList == [48]) := by
  rw [tl]
  cases hl : s.data.toList with
  | nil => rfl
  | cons c l => have := len_list s; rw [hl] at this; simp at this; omega
theorem hd0 {s : ByteArray} (h : s.toList = [48]) : headOk s.data.toList = true := by
  rw [tl] at h; rw [h]; rfl
theorem take_all (s : ByteArray) (k : Nat) (h : k < s.size) : (s.data.toList.take (k + 1)).all isD = ((s.data.toList.take k).all isD && isD (s[k]'h)) := by
  rw [List.take_succ_eq_append_getElem (by rw [len_list]; exact h), List.all_append, at_list s k h]; simp
theorem take_val (s : ByteArray) (k : Nat) (h : k < s.size) : val (s.data.toList.take (k + 1)) = 10 * val (s.data.toList.take k) + ((s[k]'h).toNat - 48) := by
  rw [List.take_succ_eq_append_getElem (by rw [len_list]; exact h), val_snoc, at_list s k h]
theorem take_all_len (s : ByteArray) (k : Nat) (h : s.size ≤ k) : s.data.toList.take k = s.data.toList := List.take_of_length_le (by rw [len_list]; exact h)
theorem all_take_false {s : ByteArray} {k : Nat} (h : k < s.size) (hd : isD (s[k]'h) = false) : s.data.toList.all isD = false := by
  rw [← List.take_append_drop (k + 1) s.data.toList, List.all_append, take_all s k h, hd]; simp
set_option maxHeartbeats 400000 in
theorem begins_any (s : ByteArray) (w : World) :
    Calls Tryz.prog 182 #[.string s] w fun e w' => e = .returned (.bool (headOk s.data.toList)) ∧ w = w' := by
  go_enter Tryz.func182, Tryz.ntmps182
  go_wp2
  all_goals go_ret
  · exact ⟨ret_bool (hd0 (by assumption)).symm, rfl⟩
  · exact ⟨ret_bool (hd1 (by assumption)).symm, rfl⟩
  · exact ⟨ret_bool (hd2 (by assumption)).symm, rfl⟩

set_option maxHeartbeats 800000 in
/-- the loop over the digits, for strings that begin well -/
theorem canonical_any (s : ByteArray) (w : World) (hs : s.size ≤ 9223372036854775806) :
    Calls Tryz.prog 150 #[.string s] w fun e w' => e = .returned (.bool (canonL s.data.toList)) ∧ w = w' := by
  cases hb : headOk s.data.toList with
  | false =>
    have hc : canonL s.data.toList = false := by unfold canonL; rw [hb]; rfl
    have HC := Lib.hid hc
    have HB := Lib.hid hb
    clear hc hb
    go_enter Tryz.func150, Tryz.ntmps150
    go_wp2_with (go_at_call 182; refine (begins_any _ _).mono ?_; rintro e w' ⟨rfl, rfl⟩; rw [HB.out])
    go_ret
    exact ⟨ret_bool HC.out.symm, rfl⟩
  | true =>
    have hc : canonL s.data.toList = s.data.toList.all isD := by unfold canonL; rw [hb]; simp
    have HC := Lib.hid hc
    have HB := Lib.hid hb
    clear hc hb
    go_enter Tryz.func150, Tryz.ntmps150
    go_wp2_with (go_at_call 182; refine (begins_any _ _).mono ?_; rintro e w' ⟨rfl, rfl⟩; rw [HB.out])
    go_loop [3, 9] (fun _ i => ∃ k : Nat, k ≤ s.size ∧ i = .int .i64 k ∧ Hid ((s.data.toList.take k).all isD = true)) (fun _ i => s.size - (intOf i).toNat)
    case atStart => exact ⟨0, Nat.zero_le _, rfl, rfl⟩
    case round =>
      obtain ⟨k, hk, rfl, HA⟩ := hrel
      by_cases hlt : k < s.size
      · have hta := take_all s k hlt
        cases hd : isD (s[k]'hlt) with
        | true =>
          have h1 := isD_lt hd
          have HT := Lib.hid hta
          have HD := Lib.hid hd
          have g1 : 48 ≤ (s[k].toNat : Int) := by omega
          have g2 : (s[k].toNat : Int) ≤ 57 := by omega
          clear hta hd h1
          go_wp2
          all_goals go_round
          case rel => exact ⟨k + 1, by omega, by go_num, by show _ = true; rw [HT.out, HA.out, HD.out]; rfl⟩
          case measure => simp [intOf]; omega
        | false =>
          have hf := all_take_false hlt hd
          have HF := Lib.hid hf
          have h1 : (s[k].toNat : Int) < 48 ∨ (57 : Int) < s[k].toNat := by simp [isD] at hd; omega
          clear hf hd hta
          rcases h1 with h1 | h1
          · go_wp2
            go_ret
            exact ⟨ret_bool (by rw [HC.out, HF.out]), rfl⟩
          · go_wp2
            go_ret
            exact ⟨ret_bool (by rw [HC.out, HF.out]), rfl⟩
      · go_wp2
        go_ret
        exact ⟨ret_bool (by rw [HC.out, ← take_all_len s k (by omega)]; exact HA.out.symm), rfl⟩
end Go.Proofs.YtgkfdgdlmpggpaaGreatDoor

namespace Go.Proofs.YtgkfdgdlmpggpaaGreatDoor
open Go.RowKit Go.Sort

theorem var_below {P : Program} {w w' : World} {n : String} {cs : Array Value} (h : w.var? P n = some cs) (hb : Below w.heap.size w w') : w'.var? P n = some cs := by
  unfold World.var? at h ⊢
  cases hg : P.globalNamed n with
  | none => rw [hg] at h; cases h
  | some g =>
    rw [hg] at h
    simp only [Option.bind_some] at h ⊢
    have hlt : g < w.heap.size := by
      apply Nat.lt_of_not_le; intro hle
      rw [Array.getElem?_eq_none hle] at h; simp at h
    rw [hb.block g hlt]; exact h
/-- what the contracts ask of the world: the table of powers, and the variable ErrRange -/
structure Std (w : World) : Prop where
  tab : Lib.TabIs Tryz.prog w "internal/strconv.uint64pow10" .u64 Lib.pow10Tab
  rng : ∃ tp p, w.var? Tryz.prog "strconv.ErrRange" = some #[.iface tp p]
theorem Std.below {w w' : World} (h : Std w) (hb : Below w.heap.size w w') : Std w' :=
  ⟨var_below h.tab hb, by obtain ⟨tp, p, h2⟩ := h.rng; exact ⟨tp, p, var_below h2 hb⟩⟩
theorem Std.alloc {w : World} (h : Std w) (o : Obj) : Std (w.alloc o) := h.below ((Below.refl _ _).alloc (Nat.le_refl _) o)

theorem zero_row (w : World) (T : TypeId) (nd : Nat) (hs : nd ≤ 24) : Holds (fun (b : UInt8) => Value.int .u8 (b.toNat : Int)) (w.alloc (.cells Lib.zeros24 T)) w.heap.size 0 (Array.replicate nd (0 : UInt8)) := fun j hj => by
  have hj' : j < nd := by simpa using hj
  refine ⟨?_, World.frozen?_alloc_new _ _ _ _⟩
  rw [World.cell?_alloc_new, Lib.zeros24_at _ (by omega), getElem!_pos _ j hj]
  simp
theorem fmt_fin (w : World) (o : Obj) (dk : Array UInt8) (k : Nat) : Below w.heap.size w ((putRow (fun (b : UInt8) => Value.int .u8 (b.toNat : Int)) (w.alloc o) w.heap.size 0 dk).drewN k) := by
  have e : ∃ os, (putRow (fun (b : UInt8) => Value.int .u8 (b.toNat : Int)) (w.alloc o) w.heap.size 0 dk).drewN k = grow (w.drewN k) os := by
    rw [alloc_eq_grow]
    obtain ⟨os', _, e⟩ := putRow_grow_new (fun (b : UInt8) => Value.int .u8 (b.toNat : Int)) w #[o] w.heap.size 0 dk (Nat.le_refl _)
    exact ⟨os', by rw [e]; rfl⟩
  obtain ⟨os, e⟩ := e
  rw [e]; exact Lib.below_grow _ _ (Nat.le_refl _) _ _

set_option maxHeartbeats 1600000 in
set_option maxRecDepth 100000 in
theorem formatUint_inner (u : Nat) (hu64 : u < 18446744073709551616) (w : World) (hs : Std w) :
    Calls Tryz.prog 204 #[.int .u64 u, .int .i64 10] w fun e w' => e = .returned (.string (str u)) ∧ Below w.heap.size w w' := by
  by_cases h100 : u < 100
  · go_enter Tryz.func204, Tryz.ntmps204
    go_wp2_with (go_at_call 191; refine (Tryz.internal_strconv_small u h100 _).mono ?_; rintro e w' ⟨rfl, rfl⟩)
    go_ret
    exact ⟨rfl, Below.refl _ _⟩
  · have hu1 : 1 ≤ u := by omega
    have htab := hs.tab
    have hnd20 : Lib.nDigits u ≤ 20 := Lib.nDigits_le20 u hu64
    have hal : Tryz.prog.arrayLen 197 = 24 := by kernel_rfl
    have hel : Tryz.prog.elem 197 = 5 := by kernel_rfl
    have hsl1 : ∀ W, (Instr.sliceAt 197 (.pointer (some ⟨w.heap.size, 0, none⟩)) none (some (.int .i64 (Lib.nDigits u : Int))) none).run Tryz.prog W = .ok (.slice (some ⟨w.heap.size, 0, none⟩) (Lib.nDigits u) 24) W := fun W => by
      rw [run_sliceAt_array_h W 197 ⟨w.heap.size, 0, none⟩ (by rw [hal, hel]; exact Tryz.underlying197) .i64 (Lib.nDigits u : Int) (by omega) (by rw [hal]; omega), hal]
      go_simp
    have hH0 := zero_row w 197 (Lib.nDigits u) (by omega)
    have hfmt := Tryz.internal_strconv_formatBase10 w.heap.size 0 24 u (Array.replicate (Lib.nDigits u) 0) (w.alloc (.cells Lib.zeros24 197)) hH0 (by rw [Array.size_replicate]; exact Lib.lt_pow_nDigits u) hu64 (by rw [Array.size_replicate]; omega)
    rw [Array.size_replicate] at hfmt
    have HH0 := Lib.hid hH0
    clear hH0 hal hel
    go_enter Tryz.func204, Tryz.ntmps204
    go_wp2_with (first
      | (go_at_call 192; refine (Tryz.internal_strconv_numDigits u hu1 hu64 _ (Lib.tabIs_alloc htab _)).mono ?_; rintro e w' ⟨rfl, rfl⟩))
    go_at_call 193
    refine hfmt.mono ?_
    rintro e w' ⟨rfl, k, v', dk, rfl, hF⟩
    have hcv : (convert 98 9 (.slice (some ⟨w.heap.size, 0, none⟩) (Lib.nDigits u) 24)).run Tryz.prog ((putRow (fun (b : UInt8) => Value.int .u8 (b.toNat : Int)) (w.alloc (.cells Lib.zeros24 197)) w.heap.size 0 dk).drewN k) = .ok (.string ⟨(Lib.decDigits u).toArray⟩) ((putRow (fun (b : UInt8) => Value.int .u8 (b.toNat : Int)) (w.alloc (.cells Lib.zeros24 197)) w.heap.size 0 dk).drewN k) := by
      have h := run_convert_bytes_back (P := Tryz.prog) ((putRow (fun (b : UInt8) => Value.int .u8 (b.toNat : Int)) (w.alloc (.cells Lib.zeros24 197)) w.heap.size 0 dk).drewN k) 98 9 5 ⟨w.heap.size, 0, none⟩ 24 (Lib.decDigits u) Tryz.underlying98 Tryz.underlying5 Tryz.underlying9 (fun j hj => by
        rw [Lib.row_is_numeral hF j hj, Lib.add_plain, World.cell?_drewN]
        exact cell?_putRow (fun (b : UInt8) => Value.int .u8 (b.toNat : Int)) _ w.heap.size 0 _ dk HH0.out (by rw [hF.size, Array.size_replicate]) j (by rw [hF.size]; rw [Lib.decDigits_length] at hj; exact hj))
      rw [Lib.decDigits_length] at h
      exact h
    go_wp2
    go_ret
    exact ⟨rfl, fmt_fin w _ dk k⟩

set_option maxHeartbeats 400000 in
theorem formatUint (u : Nat) (hu64 : u < 18446744073709551616) (w : World) (hs : Std w) :
    Calls Tryz.prog 183 #[.int .u64 u, .int .i64 10] w fun e w' => e = .returned (.string (str u)) ∧ Below w.heap.size w w' := by
  go_enter Tryz.func183, Tryz.ntmps183
  go_wp2_with (go_at_call 204; refine (formatUint_inner u hu64 _ hs).mono ?_; rintro e w' ⟨rfl, hb⟩)
  go_ret
  exact ⟨rfl, hb⟩
set_option maxHeartbeats 400000 in
theorem of_any (u : Nat) (hu64 : u < 18446744073709551616) (w : World) (hs : Std w) :
    Calls Tryz.prog 152 #[.int .u64 u] w fun e w' => e = .returned (.string (str u)) ∧ Below w.heap.size w w' := by
  go_enter Tryz.func152, Tryz.ntmps152
  go_wp2_with (go_at_call 183; refine (formatUint u hu64 _ hs).mono ?_; rintro e w' ⟨rfl, hb⟩)
  go_ret
  exact ⟨rfl, hb⟩

theorem nd20 {a : Nat} (h : a < 18446744073709551616) : (str a).size ≤ 20 := by rw [str_size]; exact Lib.nDigits_le20 a h
theorem str_big {a n : Nat} (h : a < 10 ^ n) (h0 : 0 < n) : (str a).size ≤ n := by rw [str_size]; exact nDigits_le h0 h

set_option maxHeartbeats 800000 in
/-- Small of a number that fits -/
theorem small_yes (a : Nat) (h : a < 18446744073709551616) (w : World) :
    Calls Tryz.prog 157 #[.string (str a)] w fun e w' => e = .returned (.tuple #[.int .u64 a, .bool true]) ∧ Below w.heap.size w w' := by
  have hl := nd20 h
  have hc := Lib.hid (show canonL (str a).data.toList = true by rw [str_list]; exact canon_dd a)
  have hp := Lib.hid (show Lib.parseUintB 64 (str a).data.toList = .ok a by rw [parse_str, if_pos h])
  go_enter Tryz.func157, Tryz.ntmps157
  go_wp2_with (first
    | (go_at_call 150; refine (canonical_any _ _ (by omega)).mono ?_; rintro e w' ⟨rfl, rfl⟩; rw [hc.out])
    | (go_at_call 190; refine (Tryz.strconv_ParseUint_10_at64_ok _ (by omega) a hp.out _).mono ?_; rintro e w' ⟨rfl, hw⟩))
  go_ret2
  refine ⟨rfl, ?_⟩
  rcases hw with rfl | rfl
  · exact Below.refl _ _
  · exact Lib.bytesWorld_below _ _ _
set_option maxHeartbeats 800000 in
/-- Small of a number that is too great -/
theorem small_no (a : Nat) (h : ¬ a < 18446744073709551616) (w : World) (hs : Std w) :
    Calls Tryz.prog 157 #[.string (str a)] w fun e w' => e = .returned (.tuple #[.int .u64 0, .bool false]) ∧ Below w.heap.size w w' := by
  have hc := Lib.hid (show canonL (str a).data.toList = true by rw [str_list]; exact canon_dd a)
  have hp := Lib.hid (show Lib.parseUintB 64 (str a).data.toList = .range by rw [parse_str, if_neg h])
  obtain ⟨tp, p, hr⟩ := hs.rng
  have HR := Lib.hid hr
  clear hs hr
  by_cases hl : (str a).size ≤ 20
  · go_enter Tryz.func157, Tryz.ntmps157
    go_wp2_with (first
      | (go_at_call 150; refine (canonical_any _ _ (by omega)).mono ?_; rintro e w' ⟨rfl, rfl⟩; rw [hc.out])
      | (go_at_call 190; refine (Tryz.strconv_ParseUint_10_at64_range_var _ (by omega) hp.out tp p _ HR.out).mono ?_; rintro e w' ⟨N, rfl, -, -, hb⟩))
    go_ret2
    exact ⟨rfl, hb⟩
  · go_enter Tryz.func157, Tryz.ntmps157
    go_wp2_with fail
    go_ret2
    exact ⟨rfl, Below.refl _ _⟩
set_option maxHeartbeats 800000 in
theorem both_yes (a b : Nat) (ha : a < 18446744073709551616) (hb : b < 18446744073709551616) (w : World) :
    Calls Tryz.prog 151 #[.string (str a), .string (str b)] w fun e w' => e = .returned (.tuple #[.int .u64 a, .int .u64 b, .bool true]) ∧ Below w.heap.size w w' := by
  go_enter Tryz.func151, Tryz.ntmps151
  go_wp2_with fail
  refine (small_yes a ha _).mono ?_
  rintro e w1 ⟨rfl, hb1⟩
  go_wp2_with fail
  refine (small_yes b hb _).mono ?_
  rintro e w2 ⟨rfl, hb2⟩
  go_wp2_with fail
  go_ret3
  exact ⟨rfl, hb1.trans (hb2.mono hb1.size)⟩
set_option maxHeartbeats 800000 in
theorem both_no (a b : Nat) (h : ¬ (a < 18446744073709551616 ∧ b < 18446744073709551616)) (w : World) (hs : Std w) :
    Calls Tryz.prog 151 #[.string (str a), .string (str b)] w fun e w' => ∃ x y : Nat, e = .returned (.tuple #[.int .u64 x, .int .u64 y, .bool false]) ∧ Below w.heap.size w w' := by
  by_cases ha : a < 18446744073709551616
  · have hb : ¬ b < 18446744073709551616 := fun hb => h ⟨ha, hb⟩
    clear h
    go_enter Tryz.func151, Tryz.ntmps151
    go_wp2_with fail
    refine (small_yes a ha _).mono ?_
    rintro e w1 ⟨rfl, hb1⟩
    go_wp2_with fail
    refine (small_no b hb _ (hs.below hb1)).mono ?_
    rintro e w2 ⟨rfl, hb2⟩
    go_wp2_with fail
    go_ret3
    exact ⟨a, 0, rfl, hb1.trans (hb2.mono hb1.size)⟩
  · clear h
    go_enter Tryz.func151, Tryz.ntmps151
    go_wp2_with fail
    refine (small_no a ha _ hs).mono ?_
    rintro e w1 ⟨rfl, hb1⟩
    go_wp2_with fail
    go_ret3
    exact ⟨0, 0, rfl, hb1⟩
end Go.Proofs.YtgkfdgdlmpggpaaGreatDoor

namespace Go.Proofs.YtgkfdgdlmpggpaaGreatDoor
open Go.RowKit

/-- numbers as cells -/
def c64 (l : List Nat) : List Value := l.map fun n : Nat => Value.int .u64 (n : Int)
theorem c64_len (l : List Nat) : (c64 l).length = l.length := by simp [c64]
theorem c64_at (l : List Nat) (i : Nat) (h : i < l.length) : (c64 l)[i]? = some (.int .u64 ((l[i]'h : Nat) : Int)) := by simp [c64, h]
theorem c64_take (l : List Nat) (k : Nat) : (c64 l).take k = c64 (l.take k) := by simp [c64, List.map_take]
theorem c64_append (l m : List Nat) : c64 (l ++ m) = c64 l ++ c64 m := by simp [c64]
theorem c64_set (l : List Nat) (k v : Nat) : (c64 l).set k (.int .u64 (v : Int)) = c64 (l.set k v) := by simp [c64, List.map_set]

/-- block g, from B on, is a row of the call's own that holds l, with room for cap -/
def Row (w : World) (B g cap : Nat) (l : List Nat) : Prop := w.ownsRow B 135 1 (.slice (some ⟨g, 0, none⟩) l.length cap) l.length (c64 l)
theorem Row.cell {w : World} {B g cap : Nat} {l : List Nat} (h : Row w B g cap l) (i : Nat) (hi : i < l.length) : w.cell? ⟨g, i, none⟩ = some (.int .u64 ((l[i]'hi : Nat) : Int)) := by
  rw [World.ownsRow.cellAt h i (by omega), c64_at l i hi]
theorem Row.free {w : World} {B g cap : Nat} {l : List Nat} (h : Row w B g cap l) (i : Nat) : w.frozen? ⟨g, i, none⟩ = false := World.ownsRow.frozenAt h i
theorem Row.below {w w' : World} {B g cap : Nat} {l : List Nat} (h : Row w B g cap l) (hb : Below w.heap.size w w') : Row w' B g cap l :=
  World.ownsRow.kept (row := none) h ⟨hb.os, hb.tape, hb.output, hb.size, fun j hj _ => hb.block j hj⟩ (.inr (by simp [Value.ownBlock]))
theorem Row.lt {w : World} {B g cap : Nat} {l : List Nat} (h : Row w B g cap l) : B ≤ g ∧ g < w.heap.size := World.ownsRow.lt h g rfl
theorem Row.mono {w : World} {B B' g cap : Nat} {l : List Nat} (h : Row w B g cap l) (hB : B' ≤ B) : Row w B' g cap l := by
  obtain ⟨h1, h2⟩ := h
  refine ⟨h1, ?_⟩
  rcases h2 with h2 | ⟨g', cap', cur, e, hg, r⟩
  · exact .inl h2
  · exact .inr ⟨g', cap', cur, e, by omega, r⟩
theorem Row.len_cap {w : World} {B g cap : Nat} {l : List Nat} (h : Row w B g cap l) : l.length ≤ cap ∧ cap ≤ maxLen := by
  rcases h.2 with ⟨h0, _⟩ | ⟨g', cap', cur, e, hg, hh, h1, h2, _⟩
  · cases h0
  · cases e; exact ⟨h1, h2⟩
theorem Row.take {w : World} {B g cap : Nat} {l : List Nat} (h : Row w B g cap l) (k : Nat) (hk : k ≤ l.length) : Row w B g cap (l.take k) := by
  have e : (l.take k).length = k := by rw [List.length_take]; omega
  obtain ⟨h1, h2⟩ := h
  rcases h2 with ⟨h0, _⟩ | ⟨g', cap', cur, e', hg, hh, hn, hcap, hsz, htake⟩
  · cases h0
  · cases e'
    refine ⟨by rw [c64_len, e]; omega, .inr ⟨g, cap, cur, by rw [e], hg, hh, by omega, hcap, hsz, ?_⟩⟩
    rw [e, ← c64_take, ← htake, List.take_take, Nat.mul_one, Nat.mul_one, Nat.min_eq_left (by omega)]
theorem Row.set {w : World} {B g cap : Nat} {l : List Nat} (h : Row w B g cap l) (k v : Nat) : Row (w.setCell ⟨g, k, none⟩ (.int .u64 (v : Int))) B g cap (l.set k v) := by
  have h1 := (World.ownsRow.stored h k (.int .u64 (v : Int))).1
  rw [c64_set] at h1
  unfold Row; rw [List.length_set]; exact h1
theorem Row.drew {w : World} {B g cap : Nat} {l : List Nat} (h : Row w B g cap l) : Row w.drew B g cap l := h
theorem Row.alloc {w : World} {B g cap : Nat} {l : List Nat} (h : Row w B g cap l) (o : Obj) : Row (w.alloc o) B g cap l := World.ownsRow.alloc h o

theorem ret_int2 {k : IntKind} {a b : Nat} {v : Value} (h : a = b) : Ending.returned (.tuple #[.int k a, v]) = Ending.returned (.tuple #[.int k b, v]) := by rw [h]
theorem ret_slice {g cap n m : Nat} (h : n = m) : Ending.returned (.slice (some ⟨g, 0, none⟩) n cap) = Ending.returned (.slice (some ⟨g, 0, none⟩) m cap) := by rw [h]
theorem trimP_take {l : List Nat} {j : Nat} (hj : j < l.length) (h0 : l[j] = 0) : trimP (l.take (j + 1)) = trimP (l.take j) := by
  rw [List.take_succ_eq_append_getElem hj, h0, trimP_snoc0]
theorem trimP_take' {l : List Nat} {j : Nat} (hj : j < l.length) (h0 : l[j] ≠ 0) : trimP (l.take (j + 1)) = l.take (j + 1) := by
  rw [List.take_succ_eq_append_getElem hj, trimP_snoc h0]

set_option maxHeartbeats 800000 in
theorem value_any (s : ByteArray) (w : World) (hs : s.size ≤ 9) (hd : s.data.toList.all isD = true) :
    Calls Tryz.prog 205 #[.string s] w fun e w' => e = .returned (.tuple #[.int .u64 (val s.data.toList), .bool true]) ∧ w = w' := by
  have HD : ∀ k (h : k < s.size), isD (s[k]'h) = true := fun k h => by
    rw [← at_list s k h]; exact List.all_eq_true.1 hd _ (List.getElem_mem _)
  have HB : ∀ k, val (s.data.toList.take k) < 10 ^ k := fun k => by
    have h1 := val_lt (s.data.toList.take k) (List.all_eq_true.2 fun x hx => List.all_eq_true.1 hd x (List.mem_of_mem_take hx))
    have h2 : 10 ^ (s.data.toList.take k).length ≤ 10 ^ k := Nat.pow_le_pow_right (by decide) (by rw [List.length_take]; omega)
    omega
  have HD' := Lib.hid HD
  have HB' := Lib.hid HB
  clear HD HB hd
  go_enter Tryz.func205, Tryz.ntmps205
  go_wp2
  go_loop [4, 5, 8] (fun n _ i => ∃ k v : Nat, k ≤ s.size ∧ i = .int .i64 k ∧ n = .int .u64 v ∧ Hid (v = val (s.data.toList.take k))) (fun _ _ i => s.size - (intOf i).toNat)
  case atStart => exact ⟨0, 0, Nat.zero_le _, rfl, rfl, rfl⟩
  case round =>
    obtain ⟨k, v, hk, rfl, rfl, HV⟩ := hrel
    by_cases hlt : k < s.size
    · have h1 := isD_lt (HD'.out k hlt)
      have h2 := HB'.out k
      have h3 : 10 ^ k ≤ 10 ^ 8 := Nat.pow_le_pow_right (by decide) (by omega)
      have hv0 := HV.out
      have g0 : v < 100000000 := by rw [hv0]; omega
      have g1 : 48 ≤ (s[k].toNat : Int) := by omega
      have g2 : (s[k].toNat : Int) ≤ 57 := by omega
      have HT := Lib.hid (take_val s k hlt)
      clear h1 h2 h3 hv0
      go_wp2
      all_goals go_round
      case rel => exact ⟨k + 1, 10 * v + (s[k].toNat - 48), by omega, by go_num, by go_num, by show _ = _; rw [HT.out, HV.out]⟩
      case measure => simp [intOf]; omega
    · go_wp2
      go_ret2
      exact ⟨ret_int2 (by rw [HV.out, take_all_len s k (by omega)]), rfl⟩

set_option maxHeartbeats 800000 in
theorem trim_any (B g cap : Nat) (l : List Nat) (w : World) (h : Row w B g cap l) :
    Calls Tryz.prog 189 #[.slice (some ⟨g, 0, none⟩) l.length cap] w fun e w' => e = .returned (.slice (some ⟨g, 0, none⟩) (trimP l).length cap) ∧ w = w' := by
  have hlc := h.len_cap
  unfold maxLen at hlc
  have HR := Lib.hid h
  have HP := Lib.hid (trimP_props l).2.2.2.2
  have HL := Lib.hid (trimP_props l).2.2.2.1
  clear h
  go_enter Tryz.func189, Tryz.ntmps189
  go_wp2
  go_loop [0] (fun v => ∃ k : Nat, k ≤ l.length ∧ v = .slice (some ⟨g, 0, none⟩) k cap ∧ Hid (trimP (l.take k) = trimP l)) (fun v => match v with | .slice _ n _ => n | _ => 0)
  case atStart => exact ⟨l.length, Nat.le_refl _, rfl, by show _ = _; rw [List.take_length]⟩
  case round =>
    obtain ⟨k, hk, rfl, HT⟩ := hrel
    by_cases hk0 : k = 0
    · subst hk0
      go_wp2
      go_ret
      exact ⟨ret_slice (by rw [← HT.out]; rfl), rfl⟩
    · obtain ⟨j, rfl⟩ : ∃ j, k = j + 1 := ⟨k - 1, by omega⟩
      have hj : j < l.length := by omega
      have hcell := HR.out.cell j hj
      by_cases h0 : l[j] = 0
      · have HT2 := Lib.hid (trimP_take hj h0)
        rw [h0] at hcell
        clear h0
        go_wp2
        all_goals go_round
        case rel => exact ⟨j, by omega, rfl, by show _ = _; rw [← HT2.out]; exact HT.out⟩
        case measure => simp
      · have HT2 := Lib.hid (trimP_take' hj h0)
        have hb : (((l[j] : Nat) : Int) == 0) = false := by rw [beq_eq_false_iff_ne]; omega
        have hpos : 0 < l[j] := by omega
        clear h0
        go_wp2
        go_ret
        exact ⟨ret_slice (by rw [← HT.out, HT2.out, List.length_take]; omega), rfl⟩
end Go.Proofs.YtgkfdgdlmpggpaaGreatDoor
