/-
  Division by short numbers: Div64 without a high word, takeShort, divideShort, divide.
-/
import Derived.Test.YtfhmdlpjeiockaaDoorJoin
namespace Go.Proofs.YtfhmdlpjeiockaaDoor
open Go.RowKit

theorem ret_two {a b c d : Value} (h : a = b) (k : c = d) : Ending.returned (.tuple #[a, c]) = Ending.returned (.tuple #[b, d]) := by rw [h, k]

set_option maxHeartbeats 400000 in
theorem div64_small (lo y : Nat) (hy : 0 < y) (hlo : lo < 18446744073709551616) (w : World) :
    Calls Tryd.prog 62 #[.int .u64 0, .int .u64 lo, .int .u64 y] w fun e w' => e = .returned (.tuple #[.int .u64 ((lo / y : Nat) : Int), .int .u64 ((lo % y : Nat) : Int)]) ∧ Below w.heap.size w w' := by
  have hy0 : ((y : Int) == 0) = false := by rw [beq_eq_false_iff_ne]; omega
  have hwr : IntKind.u64.wrap ((lo : Int) / (y : Int)) = (lo : Int) / (y : Int) := by
    have hq := Nat.div_le_self lo y
    rw [← Int.natCast_ediv, IntKind.wrap_u64]; generalize lo / y = q at hq ⊢; omega
  clear hlo
  go_enter Tryd.func62, Tryd.ntmps62
  go_wp2
  go_quiet (fail)
  go_wp2
  go_ret2
  exact ⟨ret_two (a := .int .u64 ((lo : Int) / (y : Int))) (c := .int .u64 ((lo : Int) % (y : Int))) (by rw [Int.natCast_ediv]) (by rw [Int.natCast_emod]), below_drewN (Below.refl _ _) _⟩

set_option maxHeartbeats 800000 in
set_option maxRecDepth 100000 in
theorem takeShort_small (rest piece n : Nat) (hr : rest < n) (hp : piece < 1000000000) (hn : n ≤ 18446744072) (w : World) :
    Calls Tryd.prog 48 #[.int .u64 rest, .int .u64 piece, .int .u64 n] w fun e w' => e = .returned (.tuple #[.int .u64 (((rest * 1000000000 + piece) / n : Nat) : Int), .int .u64 (((rest * 1000000000 + piece) % n : Nat) : Int)]) ∧ Below w.heap.size w w' := by
  have hm := Tryd.bits_Mul64 rest 1000000000 (by omega) (by omega) w
  obtain ⟨v, hv⟩ : ∃ v : Nat, v = rest * 1000000000 := ⟨_, rfl⟩
  rw [← hv] at hm ⊢
  rw [Nat.div_eq_of_lt (show v < 18446744073709551616 by omega), Nat.mod_eq_of_lt (show v < 18446744073709551616 by omega)] at hm
  obtain ⟨u, hu⟩ : ∃ u : Nat, u = v + piece := ⟨_, rfl⟩
  have ha := fun wx => Tryd.bits_Add64 v piece 0 (by omega) wx
  have ha' : ∀ wx, (callFunc 61 #[.int .u64 (v : Int), .int .u64 (piece : Int), .int .u64 0]).run Tryd.prog wx = .ok (.value (.tuple #[.int .u64 (u : Int), .int .u64 0])) wx := fun wx => by
    have h := ha wx
    rw [Nat.add_zero, ← hu, Nat.div_eq_of_lt (show u < 18446744073709551616 by omega), Nat.mod_eq_of_lt (show u < 18446744073709551616 by omega)] at h
    exact h
  clear ha
  have hd := fun wx => div64_small u n (by omega) (by omega) wx
  rw [hu] at hd
  rw [← hu] at hd ⊢
  have HM := Lib.hid hm
  have HD := Lib.hid hd
  clear hm hd hv hu
  go_enter Tryd.func48, Tryd.ntmps48
  go_wp2_with (first
    | (go_at_call 49; refine HM.out.mono ?_; rintro e w' ⟨rfl, rfl⟩)
    | (go_at_call 62; refine (HD.out _).mono ?_; rintro e w' ⟨rfl, hb⟩))
  go_ret2
  exact ⟨rfl, hb⟩

/-- zeros, then what has been written -/
def z0 (m : Nat) (s : List Nat) : List Nat := List.replicate m 0 ++ s
theorem z0_set (m : Nat) (s : List Nat) (c : Nat) : (z0 (m + 1) s).set m c = z0 m (c :: s) := by
  unfold z0
  rw [List.replicate_succ', List.append_assoc, List.set_append_right _ _ (by simp)]
  simp
theorem z0_len (m : Nat) (s : List Nat) : (z0 m s).length = m + s.length := by simp [z0]
theorem Row.made {w : World} {B g n : Nat} (h : w.ownsRow B 37 1 (.slice (some ⟨g, 0, none⟩) n n) n (madeCells (Value.int .u64 0).cells (n * 1)).toList) : Row w B g n (z0 n []) := by
  refine Row.of h (by rw [z0_len]; rfl) ?_
  rw [show (Value.int .u64 0).cells = #[.int .u64 0] from rfl, toList_madeCells_one, Nat.mul_one]; simp [c64, z0]

set_option maxHeartbeats 3200000 in
set_option maxRecDepth 100000 in
theorem divideShort_small (B g cap : Nat) (p : List Nat) (n : Nat) (w : World) (h : Row w B g cap p) (h9 : lt9 p) (hn0 : 0 < n) (hn1 : n ≤ 18446744072) (hl : p.length ≤ 200000) :
    Calls Tryd.prog 44 #[.slice (some ⟨g, 0, none⟩) p.length cap, .int .u64 n] w fun e w' => ∃ (g' cap' : Nat) (q : List Nat), e = .returned (.tuple #[.slice (some ⟨g', 0, none⟩) q.length cap', .int .u64 ((pv p % n : Nat) : Int)]) ∧ Pcs q (pv p / n) ∧ Row w' w.heap.size g' cap' q ∧ Below w.heap.size w w' := by
  have hlc := h.len_cap
  unfold maxLen at hlc
  obtain ⟨i0, hi, hz0, hz1, hz2⟩ := info_parts info64
  have HH := Lib.hid h
  have H9 := Lib.hid h9
  clear h h9
  go_enter Tryd.func44, Tryd.ntmps44
  go_wp2_with (at_make; refine wpList_make_full _ rfl _ _ 47 rfl w.heap.size 37 i0 (.int .u64 0) 1 Tryd.underlying47 hi hz0 hz1 .i64 .i64 _ _ p.length rfl rfl (by omega) (by omega) (by rw [hz2]; omega) (by unfold maxLen; omega) (Nat.le_refl _) ?_; intro w0 hown0 hgrow0)
  have hbel0 : Below w.heap.size w w0 := (Below.refl _ _).grown hgrow0 (Nat.le_refl _) (by intro k hk; cases hk)
  have hrow0 := Row.made hown0
  clear hown0 hgrow0
  go_wp2_with fail
  go_loopw [5, 6] (fun rv iv wr => ∃ (k r : Nat) (E : Int), iv = .int .i64 E ∧ k ≤ p.length ∧ -1 ≤ E ∧ E < p.length ∧ rv = .int .u64 r ∧ r < n ∧ Hid (E = (k : Int) - 1 ∧ r = (divS n (p.drop k)).2) ∧ Row wr w.heap.size w.heap.size p.length (z0 k (divS n (p.drop k)).1) ∧ Below w.heap.size w wr) (fun _ iv _ => (intOf iv + 1).toNat)
  case atStart =>
    refine ⟨p.length, 0, (p.length : Int) - 1, rfl, Nat.le_refl _, by omega, by omega, rfl, hn0, ⟨rfl, ?_⟩, ?_, hbel0⟩
    · rw [List.drop_length]; rfl
    · rw [List.drop_length]; exact hrow0
  case round =>
    obtain ⟨k, r, E, rfl, hk, hE1, hE2, rfl, hr, HI, hrow, hbel⟩ := hrel
    have hkE := HI.1
    by_cases hE : 0 ≤ E
    · obtain ⟨j, rfl⟩ : ∃ j : Nat, E = j := ⟨E.toNat, by omega⟩
      obtain rfl : k = j + 1 := by omega
      have hj : j < p.length := by omega
      have hcell := (HH.out.below hbel).cell j hj
      have hx9 := lt9_at H9.out j hj
      have hds := divS_drop n p j hj
      obtain ⟨x, hx⟩ : ∃ x : Nat, x = p[j] := ⟨_, rfl⟩
      rw [← hx] at hcell hx9 hds
      have hts := takeShort_small r x n hr hx9 hn1 wr
      rw [← HI.2] at hds
      obtain ⟨d, hd⟩ : ∃ d : Nat, d = (r * 1000000000 + x) / n := ⟨_, rfl⟩
      obtain ⟨m, hm⟩ : ∃ m : Nat, m = (r * 1000000000 + x) % n := ⟨_, rfl⟩
      have hmn : m < n := by rw [hm]; exact Nat.mod_lt _ hn0
      rw [← hd, ← hm] at hts hds
      have HD := Lib.hid hds
      have HT := Lib.hid hts
      have HR2 := Lib.hid hrow
      have HB2 := Lib.hid hbel
      have hlen : j < (z0 (j + 1) (divS n (p.drop (j + 1))).1).length := by rw [z0_len]; omega
      obtain ⟨c0, hc0⟩ : ∃ c0 : Int, ∀ w1, Below wr.heap.size wr w1 → w1.cell? ⟨w.heap.size, j, none⟩ = some (.int .u64 c0) ∧ w1.frozen? ⟨w.heap.size, j, none⟩ = false := ⟨_, fun w1 hb => ⟨(hrow.below hb).cell j hlen, (hrow.below hb).free j⟩⟩
      have HC := Lib.hid hc0
      clear hds hts hd hm hx hrow hbel hlen hc0 hkE
      go_wp2_with fail
      refine HT.out.mono ?_
      rintro e w1 ⟨rfl, hb1⟩
      have hcz := (HC.out w1 hb1).1
      have hfz := (HC.out w1 hb1).2
      have HB1 := Lib.hid hb1
      clear hb1
      go_wp2_with fail
      all_goals go_roundw
      case rel =>
        have h1 := (HR2.out.below HB1.out).set j d
        rw [z0_set] at h1
        refine ⟨j, m, (j : Int) - 1, rfl, by omega, by omega, by omega, rfl, hmn, ⟨rfl, by rw [HD.out]⟩, by rw [HD.out]; exact h1, (HB2.out.trans (HB1.out.mono HB2.out.size)).setCell (Nat.le_refl _) _⟩
      case measure => simp [intOf] <;> omega
    · obtain rfl : k = 0 := by omega
      have hdr := HI.2
      rw [List.drop_zero] at hdr
      have hrow2 : Row wr w.heap.size w.heap.size p.length (divS n p).1 := by have := hrow; rw [List.drop_zero] at this; exact this
      have hlen := divS_len n p
      have hprops := divS_props n hn0 p
      have hq : pv (divS n p).1 = pv p / n ∧ r = pv p % n := by
        rw [hdr, ← hprops.1]
        constructor
        · rw [Nat.mul_comm, Nat.mul_add_div hn0, Nat.div_eq_of_lt hprops.2, Nat.add_zero]
        · rw [Nat.mul_comm, Nat.mul_add_mod, Nat.mod_eq_of_lt hprops.2]
      have ht := trim_any w.heap.size w.heap.size p.length (divS n p).1 wr hrow2
      rw [hlen] at ht
      have HT := Lib.hid ht
      have HQ := Lib.hid hq
      have HR2 := Lib.hid hrow2
      have HB2 := Lib.hid hbel
      have HP := Lib.hid hprops
      clear ht hq hrow2 hbel hrow hdr hprops HI
      go_wp2_with fail
      refine HT.out.mono ?_
      rintro e w1 ⟨rfl, rfl⟩
      go_wp2_with fail
      go_ret2
      refine ⟨w.heap.size, p.length, trimP (divS n p).1, ret_two (c := .int .u64 (r : Int)) rfl (by rw [HQ.out.2]), ?_, ?_, HB2.out⟩
      · rw [← HQ.out.1]; exact Pcs.of_trim (divS_lt9 n hn0 p H9.out)
      · have := HR2.out.take (trimP (divS n p).1).length (trimP_props _).2.2.2.1
        rw [← (trimP_props (divS n p).1).2.2.2.2] at this; exact this
end Go.Proofs.YtfhmdlpjeiockaaDoor
