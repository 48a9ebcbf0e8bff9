/-
  The walk of the law RowParses.
-/
import Derived.Test.YtkpaopfdnfgjeaaGreatDoorWParR
import Derived.Test.YtkpaopfdnfgjeaaGreatDoorWComp
namespace Go.Proofs.YtkpaopfdnfgjeaaGreatDoor
open Go.RowKit

theorem infoU8 : (Tryz.prog.info? 5).map (fun i => (i.zero, i.size, i.bytes)) = some (some (.int .u8 0), 1, 1) := by kernel_rfl
theorem zeros_conv (W : World) (B g N : Nat) (h : W.ownsRow B 5 1 (.slice (some ⟨g, 0, none⟩) N N) N (madeCells (Value.int .u8 0).cells (N * 1)).toList) (Z : List UInt8) (hZ : Z = List.replicate N 0) :
    (convert 34 9 (.slice (some ⟨g, 0, none⟩) N N)).run Tryz.prog W = .ok (.string ⟨Z.toArray⟩) W := by
  have e2 : (madeCells (Value.int .u8 0).cells (N * 1)).toList = List.replicate N (Value.int .u8 0) := by
    rw [show (Value.int .u8 0).cells = #[.int .u8 0] from rfl, toList_madeCells_one, Nat.mul_one]
  rw [e2] at h
  have hl : Z.length = N := by rw [hZ, List.length_replicate]
  have hr := run_convert_bytes_back (P := Tryz.prog) W 34 9 5 ⟨g, 0, none⟩ N Z Tryz.underlying34 Tryz.underlying5 Tryz.underlying9 (fun j hj => by
    have hj2 : j < N := by rw [← hl]; exact hj
    have hc := World.ownsRow.cellAt h j (by omega)
    rw [List.getElem?_replicate, if_pos hj2] at hc
    rw [Lib.add_plain, Nat.zero_add]
    refine hc.trans ?_
    simp only [hZ, List.getElem_replicate]
    rfl)
  rw [hl] at hr
  exact hr

set_option maxHeartbeats 1600000 in
set_option maxRecDepth 100000 in
theorem parses_long (s : ByteArray) (w : World) (hs : StdP w) (h : 200 < s.size) (hmax : s.size ≤ 9223372036854775807) :
    Calls Tryz.prog 4 #[.string s] w fun e w' => e = .returned (.bool true) ∧ Below w.heap.size w w' := by
  have HS := Lib.hid hs.1
  have hi : (200 : Int) < s.size := by omega
  clear hs
  go_enter Tryz.func4, Tryz.ntmps4
  go_wp2_with fail
  refine (known_any _ HS.out).mono ?_
  rintro e w1 ⟨rfl, h1⟩
  have B1 := Lib.hid h1
  clear h1
  go_wp2_with fail
  refine (known_any _ (HS.out.below B1.out)).mono ?_
  rintro e w2 ⟨rfl, h2⟩
  have B2 := Lib.hid (B1.out.trans (h2.mono B1.out.size))
  clear h2
  go_wp2_with fail
  go_ret
  exact ⟨rfl, B2.out⟩
set_option maxHeartbeats 1600000 in
set_option maxRecDepth 100000 in
theorem parses_short (s : ByteArray) (w : World) (hs : StdP w) (h : s.size ≤ 200) :
    Calls Tryz.prog 4 #[.string s] w fun e w' => e = .returned (.bool true) ∧ Below w.heap.size w w' := by
  have HS := Lib.hid hs
  have hi : ¬ (200 : Int) < s.size := by omega
  have HP := Lib.hid (fun wx hw => parN_any s wx hw (by omega))
  have HR := Lib.hid (fun wx => parR_any s wx h)
  obtain ⟨zs, k, c, hpm⟩ : ∃ zs k c, parM s.data.toList = (zs, k, c) := ⟨_, _, _, rfl⟩
  rw [hpm] at HP HR
  obtain ⟨i0, hi0, hz0, hz1, hz2⟩ := info_parts infoU8
  obtain ⟨Z, hZ⟩ : ∃ Z : List UInt8, Z = List.replicate 65537 0 := ⟨_, rfl⟩
  have hZl : (⟨Z.toArray⟩ : ByteArray).size = 65537 := by
    rw [← wlen_list]
    simp only [hZ, List.length_replicate]
  have HL := Lib.hid (fun wx => parN_long ⟨Z.toArray⟩ wx (by rw [hZl]; decide) (by rw [hZl]; decide))
  have HZC := Lib.hid (fun W B g hh => zeros_conv W B g 65537 hh Z hZ)
  have HE := Lib.hid (fun (wx : World) (a a' : Option Addr) (n cap n' cap' : Nat) (hx : Rd wx a n cap zs) (hy : Rd wx a' n' cap' zs) => equalR_any a a' n cap n' cap' zs zs wx hx hy)
  simp only [decide_true] at HE
  clear hs hpm hZ hZl
  go_enter Tryz.func4, Tryz.ntmps4
  go_wp2_with fail
  refine (known_any _ HS.out.1).mono ?_
  rintro e w1 ⟨rfl, h1⟩
  have B1 := Lib.hid h1
  clear h1
  go_wp2_with fail
  refine (HP.out _ (HS.out.below B1.out)).mono ?_
  rintro e w2 ⟨a2, n2, c2, rfl, hr2, h2⟩
  have B2 := Lib.hid (B1.out.trans (h2.mono B1.out.size))
  have R2 := Lib.hid hr2
  have hc2 := hr2.cap
  clear h2 hr2
  go_wp2_with fail
  refine (HR.out _).mono ?_
  rintro e w3 ⟨a3, n3, c3, rfl, hr3, h3⟩
  have B3 := Lib.hid (B2.out.trans (h3.mono B2.out.size))
  have R3 := Lib.hid hr3
  have R23 := Lib.hid (R2.out.below h3)
  have hc3 := hr3.cap
  have hs3 := B3.out.size
  clear h3 hr3
  go_wp2_with (at_make; refine wpList_make_full _ rfl _ _ 34 rfl w3.heap.size 5 i0 (.int .u8 0) 1 Tryz.underlying34 hi0 hz0 hz1 .i64 .i64 _ _ 65537 rfl rfl (by omega) (by omega) (by rw [hz2]; omega) (by unfold maxLen; omega) (Nat.le_refl _) ?_; intro w4 hown4 hgrow4; have hcv := HZC.out _ _ _ hown4; have h4 : Below w3.heap.size w3 w4 := (Below.refl _ _).grown hgrow4 (Nat.le_refl _) (by intro k hk; cases hk); have B4 := Lib.hid (B3.out.trans (h4.mono hs3)); have R4 := Lib.hid (R3.out.below h4); have R24 := Lib.hid (R23.out.below h4); clear hown4 hgrow4 h4)
  refine (HL.out _).mono ?_
  rintro e w5 ⟨a5, n5, c5, rfl, hr5, h5⟩
  have B5 := Lib.hid (B4.out.trans (h5.mono B4.out.size))
  have R5 := Lib.hid (R4.out.below h5)
  have R25 := Lib.hid (R24.out.below h5)
  have hc5 := hr5.cap
  clear h5 hr5
  go_wp2_with fail
  refine (HE.out _ _ _ _ _ _ _ R25.out R5.out).mono ?_
  rintro e w6 ⟨rfl, h6⟩
  have B6 := Lib.hid (B5.out.trans (h6.mono B5.out.size))
  clear h6
  go_wp2_with fail
  go_ret
  exact ⟨by simp, B6.out⟩
theorem parses_law (s : ByteArray) (w : World) (hs : StdP w) (hmax : s.size ≤ maxLen) :
    Calls Tryz.prog 4 #[.string s] w fun e w' => e = .returned (.bool true) ∧ Below w.heap.size w w' := by
  unfold maxLen at hmax
  by_cases h : 200 < s.size
  · exact parses_long s w hs h hmax
  · exact parses_short s w hs (by omega)
end Go.Proofs.YtkpaopfdnfgjeaaGreatDoor
