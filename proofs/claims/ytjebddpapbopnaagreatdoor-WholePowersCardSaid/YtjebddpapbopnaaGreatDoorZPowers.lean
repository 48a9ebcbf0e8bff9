/-
  The law WholePowers.
-/
import Derived.Test.YtjebddpapbopnaaGreatDoorZPow
namespace Go.Proofs.YtjebddpapbopnaaGreatDoor
open Go.RowKit

set_option maxHeartbeats 3200000 in
set_option maxRecDepth 100000 in
theorem powersZ (b : Bool) (a : Option Addr) (l c : Nat) (z : List Int) (n : Int) (w : World) (hs : Std w) (h : IsRow .u8 w a l c z) (hn : (Lit.int .i64 n).wf = true) :
    Calls Tryz.prog 9 #[.agg #[.bool b, .slice a l c], .int .i64 n] w fun e w' => e = .returned (.bool true) ∧ Below w.heap.size w w' := by
  obtain ⟨hn1, hn2⟩ := bounds_i64 hn
  have HS := Lib.hid hs
  have HX := Lib.hid (Bx.new w b a l c)
  have HB0 := Lib.hid ((Below.refl _ w).alloc (Nat.le_refl _) (numO b a l c))
  have HM := Lib.hid (fun (wx : World) (hb : Below w.heap.size w wx) => makeZ_any b a l c z 20 wx (h.below hb) (by decide))
  clear hs h hn
  go_enter Tryz.func9, Tryz.ntmps9
  go_wp2_with fail
  obtain ⟨W0, hW0⟩ : ∃ W0, W0 = w.alloc (numO b a l c) := ⟨_, rfl⟩
  rw [← hW0] at HX HB0 ⊢
  clear hW0
  refine (knownZ_any _ (HS.out.below HB0.out)).mono ?_
  rintro e w1 ⟨rfl, h1⟩
  have X1 := Lib.hid (HX.out.below h1)
  have B1 := Lib.hid (HB0.out.trans (h1.mono HB0.out.size))
  have p0 := X1.out.neg
  have p1 := X1.out.dig
  clear h1
  go_wp2_with fail
  refine (HM.out _ B1.out).mono ?_
  rintro e w2 ⟨⟨x, rfl, hx⟩, h2⟩
  have B2 := Lib.hid (B1.out.trans (h2.mono B1.out.size))
  clear h2 p0 p1
  have hsx := pow_size hx (by decide)
  by_cases hneg : n < 0
  · have HA := Lib.hid (fun wx => powW_neg x n wx hneg (by omega))
    obtain ⟨s, hs⟩ : ∃ s, s = zS x := ⟨_, rfl⟩
    rw [← hs] at HA ⊢
    have hnd : decide (n < 0) = true := decide_eq_true hneg
    clear hs hx hsx hneg hn1 hn2
    go_wp2_with fail
    refine (HA.out _).mono ?_
    rintro e w3 ⟨rfl, h3⟩
    have B3 := Lib.hid (B2.out.trans (h3.mono B2.out.size))
    clear h3
    go_wp2_with fail
    go_ret
    exact ⟨rfl, B3.out⟩
  · obtain ⟨N, rfl⟩ : ∃ N : Nat, n = (N : Int) := ⟨n.toNat, by omega⟩
    have HAB := Lib.hid (fun wx => absR_any x wx (by omega))
    have hp := str_pos x.natAbs
    have hq := nat_tdiv 4000 (str x.natAbs).size
    have HBIG := Lib.hid (fun wx (h : 4000 / (str x.natAbs).size < N) => powW_big x N wx (by omega) h)
    have HOK := Lib.hid (fun wx hw (h : ¬ 4000 / (str x.natAbs).size < N) => powW_ok x N wx hw (by omega) (by omega))
    have HR := Lib.hid (fun wx hw (h : N ≤ 40) => powZR_any x N wx hw hx h)
    obtain ⟨q, hqq⟩ : ∃ q, q = 4000 / (str x.natAbs).size := ⟨_, rfl⟩
    rw [← hqq] at hq HBIG HOK
    have hq4 : q ≤ 4000 := by rw [hqq]; exact Nat.div_le_self _ _
    obtain ⟨s, hs⟩ : ∃ s, s = zS x := ⟨_, rfl⟩
    obtain ⟨v, hv⟩ : ∃ s, s = zS (x ^ N) := ⟨_, rfl⟩
    obtain ⟨d, hd⟩ : ∃ s, s = str x.natAbs := ⟨_, rfl⟩
    rw [← hs] at HAB HBIG HOK HR ⊢
    rw [← hv] at HOK HR
    rw [← hd] at HAB hp hq hsx
    have hq' : (4000 : Int).tdiv (d.size : Int) = (q : Int) := hq
    have hz0 : ((d.size : Int) == 0) = false := by rw [beq_eq_false_iff_ne]; omega
    have wq := IntWalk.i64_in (q : Int) ⟨by omega, by omega⟩
    have ev : (v.toList == v.toList) = true := beq_self_eq_true _
    clear hs hv hd hqq hq hx hneg
    by_cases hbig : q < N
    · have HB := Lib.hid (fun wx => HBIG.out wx hbig)
      have hgt2 : decide (q < N) = true := decide_eq_true hbig
      have hgt : decide ((N : Int) > (q : Int)) = true := decide_eq_true (by omega)
      clear HBIG HOK HR hbig
      go_wp2_with fail
      refine (HB.out _).mono ?_
      rintro e w3 ⟨rfl, h3⟩
      have B3 := Lib.hid (B2.out.trans (h3.mono B2.out.size))
      clear h3
      go_wp2_with fail
      refine (HAB.out _).mono ?_
      rintro e w4 ⟨rfl, rfl⟩
      go_wp2_with fail
      go_ret
      exact ⟨rfl, B3.out⟩
    · have HO := Lib.hid (fun wx hw => HOK.out wx hw hbig)
      have hgt2 : decide (q < N) = false := decide_eq_false hbig
      have hgt : decide ((N : Int) > (q : Int)) = false := decide_eq_false (by omega)
      clear HBIG HOK hbig
      by_cases h40 : 40 < N
      · have h40b : decide (40 < N) = true := decide_eq_true h40
        have h40i : (40 : Int) < (N : Int) := by omega
        clear HR h40
        go_wp2_with fail
        refine (HO.out _ (HS.out.below B2.out)).mono ?_
        rintro e w3 ⟨rfl, h3⟩
        have B3 := Lib.hid (B2.out.trans (h3.mono B2.out.size))
        clear h3
        go_wp2_with fail
        refine (HAB.out _).mono ?_
        rintro e w4 ⟨rfl, rfl⟩
        go_wp2_with fail
        go_ret
        exact ⟨rfl, B3.out⟩
      · have h40b : decide (40 < N) = false := decide_eq_false h40
        have h40i : ¬ (40 : Int) < (N : Int) := by omega
        have HR2 := Lib.hid (fun wx hw => HR.out wx hw (by omega))
        clear HR h40
        go_wp2_with fail
        refine (HO.out _ (HS.out.below B2.out)).mono ?_
        rintro e w3 ⟨rfl, h3⟩
        have B3 := Lib.hid (B2.out.trans (h3.mono B2.out.size))
        clear h3
        go_wp2_with fail
        refine (HAB.out _).mono ?_
        rintro e w4 ⟨rfl, rfl⟩
        go_wp2_with fail
        refine (HR2.out _ (HS.out.below B3.out)).mono ?_
        rintro e w5 ⟨rfl, h5⟩
        have B5 := Lib.hid (B3.out.trans (h5.mono B3.out.size))
        clear h5
        go_wp2_with fail
        go_ret
        exact ⟨rfl, B5.out⟩
end Go.Proofs.YtjebddpapbopnaaGreatDoor
