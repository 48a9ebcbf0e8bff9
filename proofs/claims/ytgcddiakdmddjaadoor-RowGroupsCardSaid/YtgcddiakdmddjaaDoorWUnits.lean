/-
  Zero, Unit; the walk of the law RowUnits.
-/
import Derived.Test.YtgcddiakdmddjaaDoorWChecks
namespace Go.Proofs.YtgcddiakdmddjaaDoor
open Go.RowKit

theorem zero_bad (n : Int) (w : World) (h : n < 0 ∨ 64 < n) :
    Calls Tryd.prog 15 #[.int .i64 n] w fun e w' => e = .returned (.tuple #[.slice none 0 0, .int .i64 3]) ∧ w = w' := by
  rcases h with h | h
  · go_enter Tryd.func15, Tryd.ntmps15
    go_wp2_with fail
    go_ret2
    exact ⟨rfl, rfl⟩
  · have h0 : 0 ≤ n := by omega
    go_enter Tryd.func15, Tryd.ntmps15
    go_wp2_with fail
    go_ret2
    exact ⟨rfl, rfl⟩
set_option maxHeartbeats 800000 in
set_option maxRecDepth 100000 in
theorem zero_good (N : Nat) (w : World) (hN : N ≤ 64) :
    Calls Tryd.prog 15 #[.int .i64 (N : Int)] w fun e w' => e = .returned (.tuple #[.slice (some ⟨w.heap.size, 0, none⟩) N N, .int .i64 0]) ∧ RowI w' w.heap.size w.heap.size N (List.replicate N 0) ∧ Below w.heap.size w w' := by
  obtain ⟨i0, hi, hz0, hz1, hz2⟩ := info_parts infoI
  go_enter Tryd.func15, Tryd.ntmps15
  go_wp2_with (at_make; refine wpList_make_full _ rfl _ _ 23 rfl w.heap.size 3 i0 (.int .i64 0) 1 Tryd.underlying23 hi hz0 hz1 .i64 .i64 _ _ N rfl rfl (by omega) (by omega) (by rw [hz2]; omega) (by unfold maxLen; omega) (Nat.le_refl _) ?_; intro w0 hown0 hgrow0)
  have HB := Lib.hid (show Below w.heap.size w w0 from (Below.refl _ _).grown hgrow0 (Nat.le_refl _) (by intro k hk; cases hk))
  have HR := Lib.hid (RowI.made hown0)
  clear hown0 hgrow0
  go_wp2_with fail
  go_ret2
  exact ⟨rfl, HR.out, HB.out⟩
theorem unit_bad (n i : Int) (w : World) (h : n < 0 ∨ 64 < n) :
    Calls Tryd.prog 16 #[.int .i64 n, .int .i64 i] w fun e w' => e = .returned (.tuple #[.slice none 0 0, .int .i64 3]) ∧ w = w' := by
  have HZ := Lib.hid (zero_bad n w h)
  clear h
  go_enter Tryd.func16, Tryd.ntmps16
  go_wp2_with fail
  refine HZ.out.mono ?_
  rintro e w1 ⟨rfl, rfl⟩
  go_wp2_with fail
  go_ret2
  exact ⟨rfl, rfl⟩
theorem unit_none (N : Nat) (i : Int) (w : World) (hN : N ≤ 64) (h : i < 0 ∨ (N : Int) ≤ i) :
    Calls Tryd.prog 16 #[.int .i64 (N : Int), .int .i64 i] w fun e w' => e = .returned (.tuple #[.slice none 0 0, .int .i64 3]) ∧ Below w.heap.size w w' := by
  have HZ := Lib.hid (zero_good N w hN)
  rcases h with h | h
  · go_enter Tryd.func16, Tryd.ntmps16
    go_wp2_with fail
    refine HZ.out.mono ?_
    rintro e w1 ⟨rfl, hr, hb⟩
    have HB := Lib.hid hb
    clear hr hb
    go_wp2_with fail
    go_ret2
    exact ⟨rfl, HB.out⟩
  · have h0 : 0 ≤ i := by omega
    go_enter Tryd.func16, Tryd.ntmps16
    go_wp2_with fail
    refine HZ.out.mono ?_
    rintro e w1 ⟨rfl, hr, hb⟩
    have HB := Lib.hid hb
    clear hr hb
    go_wp2_with fail
    go_ret2
    exact ⟨rfl, HB.out⟩
theorem unit_good (N I : Nat) (w : World) (hN : N ≤ 64) (h : I < N) :
    Calls Tryd.prog 16 #[.int .i64 (N : Int), .int .i64 (I : Int)] w fun e w' => e = .returned (.tuple #[.slice (some ⟨w.heap.size, 0, none⟩) N N, .int .i64 0]) ∧ RowI w' w.heap.size w.heap.size N ((List.replicate N 0).set I 1) ∧ Below w.heap.size w w' := by
  have HZ := Lib.hid (zero_good N w hN)
  go_enter Tryd.func16, Tryd.ntmps16
  go_wp2_with fail
  refine HZ.out.mono ?_
  rintro e w1 ⟨rfl, hr, hb⟩
  have hcl := hr.cell I (by simpa using h)
  rw [List.getElem_replicate] at hcl
  have hfr := hr.free I
  have HS := Lib.hid (hr.set I 1)
  have HB := Lib.hid (hb.setCell (p := ⟨w.heap.size, I, none⟩) (Nat.le_refl _) (.int .i64 1))
  clear hr hb
  go_wp2_with fail
  go_ret2
  exact ⟨rfl, HS.out, HB.out⟩
theorem set_back (N I : Nat) (_h : I < N) : ((List.replicate N (0 : Int)).set I 1).set I 0 = List.replicate N 0 := by
  rw [List.set_set]
  apply List.ext_getElem
  · simp
  · intro i h1 h2
    rw [List.getElem_set]
    split <;> simp
theorem zeros_zero (N : Nat) : zeroB (List.replicate N 0) = true := List.all_eq_true.2 fun z hz => by rw [(List.mem_replicate.1 hz).2]; rfl
theorem Rd.zeros {w : World} {B g N : Nat} (h : RowI w B g N (List.replicate N 0)) : Rd w (some ⟨g, 0, none⟩) N N (List.replicate N 0) := by
  have := h.rd (rep_bd N)
  rw [List.length_replicate] at this; exact this

set_option maxHeartbeats 1600000 in
set_option maxRecDepth 100000 in
theorem units_bad0 (n i : Int) (h : n < 0) (w : World) (hs : Std w) :
    Calls Tryd.prog 4 #[.int .i64 n, .int .i64 i] w fun e w' => e = .returned (.bool true) ∧ Below w.heap.size w w' := by
  have HS := Lib.hid hs
  clear hs
  have HZ := Lib.hid (fun wx => zero_bad n wx (.inl h))
  have HU := Lib.hid (fun wx => unit_bad n i wx (.inl h))
  go_enter Tryd.func4, Tryd.ntmps4
  go_wp2_with fail
  refine (known_any _ HS.out).mono ?_
  rintro e w1 ⟨rfl, h1⟩
  have B1 := Lib.hid h1
  clear h1
  go_wp2_with fail
  refine (HZ.out _).mono ?_
  rintro e w2 ⟨rfl, rfl⟩
  go_wp2_with fail
  refine (HU.out _).mono ?_
  rintro e w3 ⟨rfl, rfl⟩
  go_wp2_with fail
  go_ret
  exact ⟨rfl, B1.out⟩

set_option maxHeartbeats 1600000 in
set_option maxRecDepth 100000 in
theorem units_bad1 (n i : Int) (h : 64 < n) (w : World) (hs : Std w) :
    Calls Tryd.prog 4 #[.int .i64 n, .int .i64 i] w fun e w' => e = .returned (.bool true) ∧ Below w.heap.size w w' := by
  have HS := Lib.hid hs
  clear hs
  have HZ := Lib.hid (fun wx => zero_bad n wx (.inr h))
  have HU := Lib.hid (fun wx => unit_bad n i wx (.inr h))
  have h0 : 0 ≤ n := by omega
  go_enter Tryd.func4, Tryd.ntmps4
  go_wp2_with fail
  refine (known_any _ HS.out).mono ?_
  rintro e w1 ⟨rfl, h1⟩
  have B1 := Lib.hid h1
  clear h1
  go_wp2_with fail
  refine (HZ.out _).mono ?_
  rintro e w2 ⟨rfl, rfl⟩
  go_wp2_with fail
  refine (HU.out _).mono ?_
  rintro e w3 ⟨rfl, rfl⟩
  go_wp2_with fail
  go_ret
  exact ⟨rfl, B1.out⟩

set_option maxHeartbeats 1600000 in
set_option maxRecDepth 100000 in
theorem units_none0 (N : Nat) (i : Int) (hN : N ≤ 64) (h : i < 0) (w : World) (hs : Std w) :
    Calls Tryd.prog 4 #[.int .i64 (N : Int), .int .i64 i] w fun e w' => e = .returned (.bool true) ∧ Below w.heap.size w w' := by
  have HS := Lib.hid hs
  clear hs
  have HZ := Lib.hid (fun wx => zero_good N wx hN)
  have HI := Lib.hid (fun wx a c hr => zeroR_any a N c (List.replicate N 0) wx hr)
  rw [zeros_zero] at HI
  have HU := Lib.hid (fun wx => unit_none N i wx hN (.inl h))
  go_enter Tryd.func4, Tryd.ntmps4
  go_wp2_with fail
  refine (known_any _ HS.out).mono ?_
  rintro e w1 ⟨rfl, h1⟩
  have B1 := Lib.hid h1
  clear h1
  go_wp2_with fail
  refine (HZ.out _).mono ?_
  rintro e w2 ⟨rfl, hr2, h2⟩
  have HR2 := Lib.hid (Rd.zeros hr2)
  have B2 := Lib.hid (B1.out.trans (h2.mono B1.out.size))
  clear hr2 h2
  go_wp2_with fail
  refine (HU.out _).mono ?_
  rintro e w3 ⟨rfl, h3⟩
  have B3 := Lib.hid (B2.out.trans (h3.mono B2.out.size))
  have HR3 := Lib.hid (HR2.out.below h3)
  clear h3
  go_wp2_with fail
  refine (HI.out _ _ _ HR3.out).mono ?_
  rintro e w4 ⟨rfl, rfl⟩
  go_wp2_with fail
  go_ret
  exact ⟨rfl, B3.out⟩

set_option maxHeartbeats 1600000 in
set_option maxRecDepth 100000 in
theorem units_none1 (N : Nat) (i : Int) (hN : N ≤ 64) (h : (N : Int) ≤ i) (w : World) (hs : Std w) :
    Calls Tryd.prog 4 #[.int .i64 (N : Int), .int .i64 i] w fun e w' => e = .returned (.bool true) ∧ Below w.heap.size w w' := by
  have HS := Lib.hid hs
  clear hs
  have HZ := Lib.hid (fun wx => zero_good N wx hN)
  have HI := Lib.hid (fun wx a c hr => zeroR_any a N c (List.replicate N 0) wx hr)
  rw [zeros_zero] at HI
  have HU := Lib.hid (fun wx => unit_none N i wx hN (.inr h))
  have h0 : 0 ≤ i := by omega
  go_enter Tryd.func4, Tryd.ntmps4
  go_wp2_with fail
  refine (known_any _ HS.out).mono ?_
  rintro e w1 ⟨rfl, h1⟩
  have B1 := Lib.hid h1
  clear h1
  go_wp2_with fail
  refine (HZ.out _).mono ?_
  rintro e w2 ⟨rfl, hr2, h2⟩
  have HR2 := Lib.hid (Rd.zeros hr2)
  have B2 := Lib.hid (B1.out.trans (h2.mono B1.out.size))
  clear hr2 h2
  go_wp2_with fail
  refine (HU.out _).mono ?_
  rintro e w3 ⟨rfl, h3⟩
  have B3 := Lib.hid (B2.out.trans (h3.mono B2.out.size))
  have HR3 := Lib.hid (HR2.out.below h3)
  clear h3
  go_wp2_with fail
  refine (HI.out _ _ _ HR3.out).mono ?_
  rintro e w4 ⟨rfl, rfl⟩
  go_wp2_with fail
  go_ret
  exact ⟨rfl, B3.out⟩

set_option maxHeartbeats 1600000 in
set_option maxRecDepth 100000 in
theorem units_good (N I : Nat) (hN : N ≤ 64) (h : I < N) (w : World) (hs : Std w) :
    Calls Tryd.prog 4 #[.int .i64 (N : Int), .int .i64 (I : Int)] w fun e w' => e = .returned (.bool true) ∧ Below w.heap.size w w' := by
  have HS := Lib.hid hs
  clear hs
  have HZ := Lib.hid (fun wx => zero_good N wx hN)
  have HI := Lib.hid (fun wx a c hr => zeroR_any a N c (List.replicate N 0) wx hr)
  rw [zeros_zero] at HI
  have HU := Lib.hid (fun wx => unit_good N I wx hN h)
  go_enter Tryd.func4, Tryd.ntmps4
  go_wp2_with fail
  refine (known_any _ HS.out).mono ?_
  rintro e w1 ⟨rfl, h1⟩
  have B1 := Lib.hid h1
  clear h1
  go_wp2_with fail
  refine (HZ.out _).mono ?_
  rintro e w2 ⟨rfl, hr2, h2⟩
  have HR2 := Lib.hid (Rd.zeros hr2)
  have B2 := Lib.hid (B1.out.trans (h2.mono B1.out.size))
  clear hr2 h2
  go_wp2_with fail
  refine (HU.out _).mono ?_
  rintro e w3 ⟨rfl, hr3, h3⟩
  have HR3 := Lib.hid (HR2.out.below h3)
  have B3 := Lib.hid (B2.out.trans (h3.mono B2.out.size))
  have hcl := hr3.cell I (by simpa using h)
  rw [List.getElem_set_self] at hcl
  have hfr := hr3.free I
  have hst := hr3.set I 0
  rw [set_back N I h] at hst
  have HST := Lib.hid (Rd.zeros hst)
  have B4 := Lib.hid (B3.out.setCell (p := ⟨w2.heap.size, I, none⟩) B2.out.size (.int .i64 0))
  clear hr3 h3 hst
  go_wp2_with fail
  refine (HI.out _ _ _ HR3.out).mono ?_
  rintro e w5 ⟨rfl, rfl⟩
  go_wp2_with fail
  refine (HI.out _ _ _ HST.out).mono ?_
  rintro e w6 ⟨rfl, rfl⟩
  go_wp2_with fail
  go_ret
  exact ⟨rfl, B4.out⟩

theorem units_law (n i : Int) (w : World) (hs : Std w) (_wn : (Lit.int .i64 n).wf = true) (_wi : (Lit.int .i64 i).wf = true) :
    Calls Tryd.prog 4 #[.int .i64 n, .int .i64 i] w fun e w' => e = .returned (.bool true) ∧ Below w.heap.size w w' := by
  by_cases h : n < 0
  · exact units_bad0 n i h w hs
  · by_cases h2 : 64 < n
    · exact units_bad1 n i h2 w hs
    · obtain ⟨N, rfl⟩ : ∃ N : Nat, n = N := ⟨n.toNat, by omega⟩
      by_cases h3 : i < 0
      · exact units_none0 N i (by omega) h3 w hs
      · by_cases h4 : (N : Int) ≤ i
        · exact units_none1 N i (by omega) h4 w hs
        · obtain ⟨I, rfl⟩ : ∃ I : Nat, i = I := ⟨i.toNat, by omega⟩
          exact units_good N I (by omega) (by omega) w hs
end Go.Proofs.YtgcddiakdmddjaaDoor
