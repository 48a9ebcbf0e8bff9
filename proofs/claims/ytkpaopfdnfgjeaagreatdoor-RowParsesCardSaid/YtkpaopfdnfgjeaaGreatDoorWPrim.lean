/-
  Content, Primitive, Normal of rows.
-/
import Derived.Test.YtkpaopfdnfgjeaaGreatDoorWContent
import Derived.Test.YtkpaopfdnfgjeaaGreatDoorShelf
namespace Go.Proofs.YtkpaopfdnfgjeaaGreatDoor
open Go.RowKit

theorem ret_ii {a b c d : Int} (h : a = b) (k : c = d) : Ending.returned (.tuple #[.int .i64 a, .int .i64 c]) = Ending.returned (.tuple #[.int .i64 b, .int .i64 d]) := by rw [h, k]
/-- what Content answers -/
def contV (zs : List Int) : Int := if okB zs = true then (gcdL zs : Int) else 0
theorem ok_abs {l : List Int} (h : okB l = true) (i : Nat) (hi : i < l.length) : l[i].natAbs ≤ 1000000000 := by have := okB_at h i hi; omega

set_option maxHeartbeats 800000 in
set_option maxRecDepth 100000 in
theorem contentN_any (a : Option Addr) (n cap : Nat) (zs : List Int) (w : World) (h : Rd w a n cap zs) :
    Calls Tryz.prog 30 #[.slice a n cap] w fun e w' => e = .returned (.tuple #[.int .i64 (contV zs), .int .i64 (errR zs)]) ∧ Below w.heap.size w w' := by
  have HC := Lib.hid (checkN_any a n cap zs w h)
  have hc := h.cap
  have hl := h.len
  cases ok : okB zs with
  | false =>
    have HE := Lib.hid (errR_no ok)
    have HV := Lib.hid (show contV zs = 0 from if_neg (by simp [ok]))
    rw [errR_no ok] at HC
    clear ok h hl
    go_enter Tryz.func30, Tryz.ntmps30
    go_wp2_with fail
    refine HC.out.mono ?_
    rintro e w' ⟨rfl, rfl⟩
    go_wp2_with fail
    go_ret2
    exact ⟨ret_ii HV.out.symm HE.out.symm, Below.refl _ _⟩
  | true =>
    have HE := Lib.hid (errR_ok ok)
    rw [errR_ok ok] at HC
    rcases h.ways with ⟨rfl, rfl⟩ | ⟨b, off, rfl, hb, hcell⟩
    · clear h ok hl
      go_enter Tryz.func30, Tryz.ntmps30
      go_wp2_with fail
      refine HC.out.mono ?_
      rintro e w' ⟨rfl, rfl⟩
      go_wp2_with fail
      refine wp_loop_rounds 1 ?_
      rw [rounds_succ]
      go_wp2_with fail
      go_ret2
      exact ⟨ret_ii rfl HE.out.symm, Below.refl _ _⟩
    · have HX := Lib.hid hcell
      have HL := Lib.hid hl
      have HOK := Lib.hid ok
      clear h ok hl hcell
      go_enter Tryz.func30, Tryz.ntmps30
      go_wp2_with fail
      refine HC.out.mono ?_
      rintro e w' ⟨rfl, rfl⟩
      go_wp2_with fail
      go_loopw [5, 7, 15] (fun dv _ iv wr => ∃ i g : Nat, iv = .int .i64 i ∧ i ≤ n ∧ dv = .int .i64 g ∧ g ≤ 1000000000 ∧ Hid (g = gcdL (zs.take i)) ∧ Below w.heap.size w wr) (fun _ _ iv _ => n - (intOf iv).toNat)
      case atStart => exact ⟨0, 0, rfl, Nat.zero_le _, rfl, by omega, Lib.hid rfl, Below.refl _ _⟩
      case round =>
        obtain ⟨i, g, rfl, hi, rfl, hg, HI, hbel⟩ := hrel
        have HBL := Lib.hid hbel
        clear hbel
        by_cases hlt : i < n
        · have hil : i < zs.length := by rw [HL.out]; exact hlt
          have hcl : wr.cell? ⟨b, off + i, none⟩ = some (.int .i64 (zs[i]'hil)) := (HBL.out.cell (p := ⟨b, off + i, none⟩) hb).trans (HX.out i hil)
          have hze := okB_at HOK.out i hil
          obtain ⟨z, hz⟩ : ∃ z, z = zs[i] := ⟨_, rfl⟩
          rw [← hz] at hcl hze
          have HN := Lib.hid (show Nat.gcd g z.natAbs = gcdL (zs.take (i + 1)) by rw [List.take_succ_eq_append_getElem hil, gcdL_snoc, ← HI.out, hz])
          have hgd := gcd_le_of hg (z := z) (by omega)
          have HCD := Lib.hid (commonD_any g z wr hg hze.1 hze.2)
          obtain ⟨g2, hg2⟩ : ∃ g2, g2 = Nat.gcd g z.natAbs := ⟨_, rfl⟩
          rw [← hg2] at HN hgd HCD
          clear hz hg2
          go_wp2_with fail
          refine HCD.out.mono ?_
          rintro e w2 ⟨rfl, h2⟩
          have HB2 := Lib.hid (HBL.out.trans (h2.mono HBL.out.size))
          clear h2
          go_wp2_with fail
          go_roundw
          case rel => exact ⟨i + 1, g2, by go_num, by omega, rfl, hgd, HN, HB2.out⟩
          case measure => simp [intOf]; omega
        · obtain rfl : i = n := by omega
          have HF := Lib.hid (show (g : Int) = contV zs by unfold contV; rw [if_pos HOK.out, HI.out, List.take_of_length_le (by rw [HL.out]; omega)])
          go_wp2_with fail
          go_ret2
          exact ⟨ret_ii HF.out HE.out.symm, HBL.out⟩

end Go.Proofs.YtkpaopfdnfgjeaaGreatDoor
