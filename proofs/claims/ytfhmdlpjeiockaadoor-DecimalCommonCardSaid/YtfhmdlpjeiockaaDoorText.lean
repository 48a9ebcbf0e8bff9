/-
  Contracts of strconv.FormatUint, decimal.Of, decimal.Small, bothSmall; what the listed variables hold.
-/
import Derived.Test.YtfhmdlpjeiockaaDoorLeaf
import Derived.Test.YtfhmdlpjeiockaaDoorShelf
import Derived.Lib.ItoaMem
import Derived.Lib.ItoaLen
import Derived.Lib.AtoiErrMem
import Derived.Lib.AppendIntMem
import Derived.WalkSmall
import Derived.RegionTactic
import Derived.Deep.QuietTactic
namespace Go.Proofs.YtfhmdlpjeiockaaDoor
open Go.RowKit Go.Sort

theorem var_below {P : Program} {w w' : World} {n : String} {cs : Array Value} (h : w.var? P n = some cs) (hb : Below w.heap.size w w') : w'.var? P n = some cs := by
  unfold World.var? at h ⊢
  cases hg : P.globalNamed n with
  | none => rw [hg] at h; cases h
  | some g =>
    rw [hg] at h
    simp only [Option.bind_some] at h ⊢
    have hlt : g < w.heap.size := by
      apply Nat.lt_of_not_le; intro hle
      rw [Array.getElem?_eq_none hle] at h; simp at h
    rw [hb.block g hlt]; exact h
/-- what the contracts ask of the world: the table of powers, and the variable ErrRange -/
structure Std (w : World) : Prop where
  tab : Lib.TabIs Tryd.prog w "internal/strconv.uint64pow10" .u64 Lib.pow10Tab
  rng : ∃ tp p, w.var? Tryd.prog "strconv.ErrRange" = some #[.iface tp p]
theorem Std.below {w w' : World} (h : Std w) (hb : Below w.heap.size w w') : Std w' :=
  ⟨var_below h.tab hb, by obtain ⟨tp, p, h2⟩ := h.rng; exact ⟨tp, p, var_below h2 hb⟩⟩
theorem Std.alloc {w : World} (h : Std w) (o : Obj) : Std (w.alloc o) := h.below ((Below.refl _ _).alloc (Nat.le_refl _) o)

theorem zero_row (w : World) (T : TypeId) (nd : Nat) (hs : nd ≤ 24) : Holds (fun (b : UInt8) => Value.int .u8 (b.toNat : Int)) (w.alloc (.cells Lib.zeros24 T)) w.heap.size 0 (Array.replicate nd (0 : UInt8)) := fun j hj => by
  have hj' : j < nd := by simpa using hj
  refine ⟨?_, World.frozen?_alloc_new _ _ _ _⟩
  rw [World.cell?_alloc_new, Lib.zeros24_at _ (by omega), getElem!_pos _ j hj]
  simp
theorem fmt_fin (w : World) (o : Obj) (dk : Array UInt8) (k : Nat) : Below w.heap.size w ((putRow (fun (b : UInt8) => Value.int .u8 (b.toNat : Int)) (w.alloc o) w.heap.size 0 dk).drewN k) := by
  have e : ∃ os, (putRow (fun (b : UInt8) => Value.int .u8 (b.toNat : Int)) (w.alloc o) w.heap.size 0 dk).drewN k = grow (w.drewN k) os := by
    rw [alloc_eq_grow]
    obtain ⟨os', _, e⟩ := putRow_grow_new (fun (b : UInt8) => Value.int .u8 (b.toNat : Int)) w #[o] w.heap.size 0 dk (Nat.le_refl _)
    exact ⟨os', by rw [e]; rfl⟩
  obtain ⟨os, e⟩ := e
  rw [e]; exact Lib.below_grow _ _ (Nat.le_refl _) _ _

set_option maxHeartbeats 1600000 in
set_option maxRecDepth 100000 in
theorem formatUint_inner (u : Nat) (hu64 : u < 18446744073709551616) (w : World) (hs : Std w) :
    Calls Tryd.prog 55 #[.int .u64 u, .int .i64 10] w fun e w' => e = .returned (.string (str u)) ∧ Below w.heap.size w w' := by
  by_cases h100 : u < 100
  · go_enter Tryd.func55, Tryd.ntmps55
    go_wp2_with (go_at_call 69; refine (Tryd.internal_strconv_small u h100 _).mono ?_; rintro e w' ⟨rfl, rfl⟩)
    go_ret
    exact ⟨rfl, Below.refl _ _⟩
  · have hu1 : 1 ≤ u := by omega
    have htab := hs.tab
    have hnd20 : Lib.nDigits u ≤ 20 := Lib.nDigits_le20 u hu64
    have hal : Tryd.prog.arrayLen 98 = 24 := by kernel_rfl
    have hel : Tryd.prog.elem 98 = 5 := by kernel_rfl
    have hsl1 : ∀ W, (Instr.sliceAt 98 (.pointer (some ⟨w.heap.size, 0, none⟩)) none (some (.int .i64 (Lib.nDigits u : Int))) none).run Tryd.prog W = .ok (.slice (some ⟨w.heap.size, 0, none⟩) (Lib.nDigits u) 24) W := fun W => by
      rw [run_sliceAt_array_h W 98 ⟨w.heap.size, 0, none⟩ (by rw [hal, hel]; exact Tryd.underlying98) .i64 (Lib.nDigits u : Int) (by omega) (by rw [hal]; omega), hal]
      go_simp
    have hH0 := zero_row w 98 (Lib.nDigits u) (by omega)
    have hfmt := Tryd.internal_strconv_formatBase10 w.heap.size 0 24 u (Array.replicate (Lib.nDigits u) 0) (w.alloc (.cells Lib.zeros24 98)) hH0 (by rw [Array.size_replicate]; exact Lib.lt_pow_nDigits u) hu64 (by rw [Array.size_replicate]; omega)
    rw [Array.size_replicate] at hfmt
    have HH0 := Lib.hid hH0
    clear hH0 hal hel
    go_enter Tryd.func55, Tryd.ntmps55
    go_wp2_with (first
      | (go_at_call 70; refine (Tryd.internal_strconv_numDigits u hu1 hu64 _ (Lib.tabIs_alloc htab _)).mono ?_; rintro e w' ⟨rfl, rfl⟩))
    go_at_call 71
    refine hfmt.mono ?_
    rintro e w' ⟨rfl, k, v', dk, rfl, hF⟩
    have hcv : (convert 22 9 (.slice (some ⟨w.heap.size, 0, none⟩) (Lib.nDigits u) 24)).run Tryd.prog ((putRow (fun (b : UInt8) => Value.int .u8 (b.toNat : Int)) (w.alloc (.cells Lib.zeros24 98)) w.heap.size 0 dk).drewN k) = .ok (.string ⟨(Lib.decDigits u).toArray⟩) ((putRow (fun (b : UInt8) => Value.int .u8 (b.toNat : Int)) (w.alloc (.cells Lib.zeros24 98)) w.heap.size 0 dk).drewN k) := by
      have h := run_convert_bytes_back (P := Tryd.prog) ((putRow (fun (b : UInt8) => Value.int .u8 (b.toNat : Int)) (w.alloc (.cells Lib.zeros24 98)) w.heap.size 0 dk).drewN k) 22 9 5 ⟨w.heap.size, 0, none⟩ 24 (Lib.decDigits u) Tryd.underlying22 Tryd.underlying5 Tryd.underlying9 (fun j hj => by
        rw [Lib.row_is_numeral hF j hj, Lib.add_plain, World.cell?_drewN]
        exact cell?_putRow (fun (b : UInt8) => Value.int .u8 (b.toNat : Int)) _ w.heap.size 0 _ dk HH0.out (by rw [hF.size, Array.size_replicate]) j (by rw [hF.size]; rw [Lib.decDigits_length] at hj; exact hj))
      rw [Lib.decDigits_length] at h
      exact h
    go_wp2
    go_ret
    exact ⟨rfl, fmt_fin w _ dk k⟩

set_option maxHeartbeats 400000 in
theorem formatUint (u : Nat) (hu64 : u < 18446744073709551616) (w : World) (hs : Std w) :
    Calls Tryd.prog 42 #[.int .u64 u, .int .i64 10] w fun e w' => e = .returned (.string (str u)) ∧ Below w.heap.size w w' := by
  go_enter Tryd.func42, Tryd.ntmps42
  go_wp2_with (go_at_call 55; refine (formatUint_inner u hu64 _ hs).mono ?_; rintro e w' ⟨rfl, hb⟩)
  go_ret
  exact ⟨rfl, hb⟩
set_option maxHeartbeats 400000 in
theorem of_any (u : Nat) (hu64 : u < 18446744073709551616) (w : World) (hs : Std w) :
    Calls Tryd.prog 22 #[.int .u64 u] w fun e w' => e = .returned (.string (str u)) ∧ Below w.heap.size w w' := by
  go_enter Tryd.func22, Tryd.ntmps22
  go_wp2_with (go_at_call 42; refine (formatUint u hu64 _ hs).mono ?_; rintro e w' ⟨rfl, hb⟩)
  go_ret
  exact ⟨rfl, hb⟩

theorem nd20 {a : Nat} (h : a < 18446744073709551616) : (str a).size ≤ 20 := by rw [str_size]; exact Lib.nDigits_le20 a h
theorem str_big {a n : Nat} (h : a < 10 ^ n) (h0 : 0 < n) : (str a).size ≤ n := by rw [str_size]; exact nDigits_le h0 h

set_option maxHeartbeats 800000 in
/-- Small of a number that fits -/
theorem small_yes (a : Nat) (h : a < 18446744073709551616) (w : World) :
    Calls Tryd.prog 17 #[.string (str a)] w fun e w' => e = .returned (.tuple #[.int .u64 a, .bool true]) ∧ Below w.heap.size w w' := by
  have hl := nd20 h
  have hc := Lib.hid (show canonL (str a).data.toList = true by rw [str_list]; exact canon_dd a)
  have hp := Lib.hid (show Lib.parseUintB 64 (str a).data.toList = .ok a by rw [parse_str, if_pos h])
  go_enter Tryd.func17, Tryd.ntmps17
  go_wp2_with (first
    | (go_at_call 20; refine (canonical_any _ _ (by omega)).mono ?_; rintro e w' ⟨rfl, rfl⟩; rw [hc.out])
    | (go_at_call 36; refine (Tryd.strconv_ParseUint_10_at64_ok _ (by omega) a hp.out _).mono ?_; rintro e w' ⟨rfl, hw⟩))
  go_ret2
  refine ⟨rfl, ?_⟩
  rcases hw with rfl | rfl
  · exact Below.refl _ _
  · exact Lib.bytesWorld_below _ _ _
set_option maxHeartbeats 800000 in
/-- Small of a number that is too great -/
theorem small_no (a : Nat) (h : ¬ a < 18446744073709551616) (w : World) (hs : Std w) :
    Calls Tryd.prog 17 #[.string (str a)] w fun e w' => e = .returned (.tuple #[.int .u64 0, .bool false]) ∧ Below w.heap.size w w' := by
  have hc := Lib.hid (show canonL (str a).data.toList = true by rw [str_list]; exact canon_dd a)
  have hp := Lib.hid (show Lib.parseUintB 64 (str a).data.toList = .range by rw [parse_str, if_neg h])
  obtain ⟨tp, p, hr⟩ := hs.rng
  have HR := Lib.hid hr
  clear hs hr
  by_cases hl : (str a).size ≤ 20
  · go_enter Tryd.func17, Tryd.ntmps17
    go_wp2_with (first
      | (go_at_call 20; refine (canonical_any _ _ (by omega)).mono ?_; rintro e w' ⟨rfl, rfl⟩; rw [hc.out])
      | (go_at_call 36; refine (Tryd.strconv_ParseUint_10_at64_range_var _ (by omega) hp.out tp p _ HR.out).mono ?_; rintro e w' ⟨N, rfl, -, -, hb⟩))
    go_ret2
    exact ⟨rfl, hb⟩
  · go_enter Tryd.func17, Tryd.ntmps17
    go_wp2_with fail
    go_ret2
    exact ⟨rfl, Below.refl _ _⟩
set_option maxHeartbeats 800000 in
theorem both_yes (a b : Nat) (ha : a < 18446744073709551616) (hb : b < 18446744073709551616) (w : World) :
    Calls Tryd.prog 21 #[.string (str a), .string (str b)] w fun e w' => e = .returned (.tuple #[.int .u64 a, .int .u64 b, .bool true]) ∧ Below w.heap.size w w' := by
  go_enter Tryd.func21, Tryd.ntmps21
  go_wp2_with fail
  refine (small_yes a ha _).mono ?_
  rintro e w1 ⟨rfl, hb1⟩
  go_wp2_with fail
  refine (small_yes b hb _).mono ?_
  rintro e w2 ⟨rfl, hb2⟩
  go_wp2_with fail
  go_ret3
  exact ⟨rfl, hb1.trans (hb2.mono hb1.size)⟩
set_option maxHeartbeats 800000 in
theorem both_no (a b : Nat) (h : ¬ (a < 18446744073709551616 ∧ b < 18446744073709551616)) (w : World) (hs : Std w) :
    Calls Tryd.prog 21 #[.string (str a), .string (str b)] w fun e w' => ∃ x y : Nat, e = .returned (.tuple #[.int .u64 x, .int .u64 y, .bool false]) ∧ Below w.heap.size w w' := by
  by_cases ha : a < 18446744073709551616
  · have hb : ¬ b < 18446744073709551616 := fun hb => h ⟨ha, hb⟩
    clear h
    go_enter Tryd.func21, Tryd.ntmps21
    go_wp2_with fail
    refine (small_yes a ha _).mono ?_
    rintro e w1 ⟨rfl, hb1⟩
    go_wp2_with fail
    refine (small_no b hb _ (hs.below hb1)).mono ?_
    rintro e w2 ⟨rfl, hb2⟩
    go_wp2_with fail
    go_ret3
    exact ⟨a, 0, rfl, hb1.trans (hb2.mono hb1.size)⟩
  · clear h
    go_enter Tryd.func21, Tryd.ntmps21
    go_wp2_with fail
    refine (small_no a ha _ hs).mono ?_
    rintro e w1 ⟨rfl, hb1⟩
    go_wp2_with fail
    go_ret3
    exact ⟨0, 0, rfl, hb1⟩
end Go.Proofs.YtfhmdlpjeiockaaDoor
