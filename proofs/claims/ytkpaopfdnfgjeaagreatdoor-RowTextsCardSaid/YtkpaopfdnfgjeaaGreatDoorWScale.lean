/-
  Scale, Neg.
-/
import Derived.Test.YtkpaopfdnfgjeaaGreatDoorWOwn
namespace Go.Proofs.YtkpaopfdnfgjeaaGreatDoor
open Go.RowKit

def scaleV (zs : List Int) (k : Int) : List Int := if okB zs = true then (if zeroB zs = true then zs else if entB k = true then chkV (zs.map (k * ·)) else []) else []
def scaleE (zs : List Int) (k : Int) : Int := if okB zs = true then (if zeroB zs = true then 0 else if entB k = true then errR (zs.map (k * ·)) else 4) else 4
theorem zeroB_all {l : List Int} (h : zeroB l = true) : l = List.replicate l.length 0 := by
  unfold zeroB at h
  rw [List.all_eq_true] at h
  exact List.eq_replicate_of_mem (fun z hz => by simpa using h z hz)
theorem zeroB_ne {l : List Int} (h : zeroB l = false) : l ≠ [] := by intro e; rw [e] at h; cases h
theorem map_bd {zs : List Int} {k : Int} (ok : okB zs = true) (h1 : -1000000000 ≤ k) (h2 : k ≤ 1000000000) : ∀ z ∈ zs.map (k * ·), -9223372036854775808 ≤ z ∧ z ≤ 9223372036854775807 := by
  intro z hz
  obtain ⟨y, hy, rfl⟩ := List.mem_map.1 hz
  have := okB_ent ok hy
  have := prod_bd h1 h2 this.1 this.2
  show _ ≤ k * y ∧ k * y ≤ _
  omega
theorem rep_bd (n : Nat) : ∀ z ∈ List.replicate n (0 : Int), -9223372036854775808 ≤ z ∧ z ≤ 9223372036854775807 := by
  intro z hz; rw [(List.mem_replicate.1 hz).2]; decide

set_option maxHeartbeats 1600000 in
set_option maxRecDepth 100000 in
theorem scaleN_any (a : Option Addr) (n cap : Nat) (zs : List Int) (k : Int) (w : World) (h : Rd w a n cap zs) :
    Calls Tryz.prog 14 #[.slice a n cap, .int .i64 k] w (RowPost (scaleV zs k) (scaleE zs k) w) := by
  have HC := Lib.hid (checkN_any a n cap zs w h)
  have hc := h.cap
  have hl := h.len
  cases ok : okB zs with
  | false =>
    have HP := Lib.hid (show RowPost (scaleV zs k) (scaleE zs k) w (.returned (.tuple #[.slice none 0 0, .int .i64 4])) w by
      unfold scaleV scaleE; rw [if_neg (by simp [ok]), if_neg (by simp [ok])]; exact .mk (Rd.nil w) (Below.refl _ _))
    rw [errR_no ok] at HC
    clear ok h hl
    go_enter Tryz.func14, Tryz.ntmps14
    go_wp2_with fail
    refine HC.out.mono ?_
    rintro e w' ⟨rfl, rfl⟩
    go_wp2_with fail
    go_ret2
    exact HP.out
  | true =>
    rw [errR_ok ok] at HC
    have h64 : n ≤ 64 := by rw [← hl]; exact okB_len ok
    obtain ⟨i0, hi, hz0, hz1, hz2⟩ := info_parts infoI
    have HZ := Lib.hid (fun wx (hw : Below w.heap.size w wx) => zeroN_any a n cap zs wx (h.below hw))
    cases oz : zeroB zs with
    | true =>
      rw [oz] at HZ
      have HV := Lib.hid (show scaleV zs k = zs ∧ scaleE zs k = 0 by unfold scaleV scaleE; rw [if_pos ok, if_pos oz, if_pos ok, if_pos oz]; exact ⟨rfl, rfl⟩)
      have hrep := zeroB_all oz
      rw [hl] at hrep
      have HREP := Lib.hid hrep
      clear ok oz h hl hrep
      go_enter Tryz.func14, Tryz.ntmps14
      go_wp2_with fail
      refine HC.out.mono ?_
      rintro e w' ⟨rfl, rfl⟩
      go_wp2_with (at_make; refine wpList_make_full _ rfl _ _ 23 rfl w.heap.size 3 i0 (.int .i64 0) 1 Tryz.underlying23 hi hz0 hz1 .i64 .i64 _ _ n rfl rfl (by omega) (by omega) (by rw [hz2]; omega) (by unfold maxLen; omega) (Nat.le_refl _) ?_; intro w0 hown0 hgrow0)
      have hbel0 : Below w.heap.size w w0 := (Below.refl _ _).grown hgrow0 (Nat.le_refl _) (by intro k hk; cases hk)
      have hrow0 := RowI.made hown0
      have hrd := hrow0.rd (rep_bd n)
      rw [List.length_replicate] at hrd
      have HP := Lib.hid (show RowPost (scaleV zs k) (scaleE zs k) w (.returned (.tuple #[.slice (some ⟨w.heap.size, 0, none⟩) n n, .int .i64 0])) w0 by
        rw [HV.out.1, HV.out.2, HREP.out]; exact .mk hrd hbel0)
      have HZZ := Lib.hid (HZ.out w0 hbel0)
      clear hown0 hgrow0 hrow0 hrd hbel0
      go_wp2_with fail
      refine HZZ.out.mono ?_
      rintro e w' ⟨rfl, rfl⟩
      go_wp2_with fail
      go_ret2
      exact HP.out
    | false =>
      rw [oz] at HZ
      have HE := Lib.hid (fun wx => isEntry_any k wx)
      cases oe : entB k with
      | false =>
        rw [oe] at HE
        have HV := Lib.hid (show scaleV zs k = [] ∧ scaleE zs k = 4 by unfold scaleV scaleE; rw [if_pos ok, if_neg (by simp [oz]), if_neg (by simp [oe]), if_pos ok, if_neg (by simp [oz]), if_neg (by simp [oe])]; exact ⟨rfl, rfl⟩)
        clear ok oz h hl oe
        go_enter Tryz.func14, Tryz.ntmps14
        go_wp2_with fail
        refine HC.out.mono ?_
        rintro e w' ⟨rfl, rfl⟩
        go_wp2_with (at_make; refine wpList_make_full _ rfl _ _ 23 rfl w.heap.size 3 i0 (.int .i64 0) 1 Tryz.underlying23 hi hz0 hz1 .i64 .i64 _ _ n rfl rfl (by omega) (by omega) (by rw [hz2]; omega) (by unfold maxLen; omega) (Nat.le_refl _) ?_; intro w0 hown0 hgrow0)
        have hbel0 : Below w.heap.size w w0 := (Below.refl _ _).grown hgrow0 (Nat.le_refl _) (by intro k hk; cases hk)
        have HP := Lib.hid (show RowPost (scaleV zs k) (scaleE zs k) w (.returned (.tuple #[.slice none 0 0, .int .i64 4])) w0 by
          rw [HV.out.1, HV.out.2]; exact .mk (Rd.nil _) hbel0)
        have HZZ := Lib.hid (HZ.out w0 hbel0)
        clear hown0 hgrow0 hbel0
        go_wp2_with fail
        refine HZZ.out.mono ?_
        rintro e w' ⟨rfl, rfl⟩
        go_wp2_with fail
        refine (HE.out _).mono ?_
        rintro e w' ⟨rfl, rfl⟩
        go_wp2_with fail
        go_ret2
        exact HP.out
      | true =>
        rw [oe] at HE
        have hke := entB_iff.1 oe
        have HV := Lib.hid (show scaleV zs k = chkV (zs.map (k * ·)) ∧ scaleE zs k = errR (zs.map (k * ·)) by unfold scaleV scaleE; rw [if_pos ok, if_neg (by simp [oz]), if_pos oe, if_pos ok, if_neg (by simp [oz]), if_pos oe]; exact ⟨rfl, rfl⟩)
        obtain ⟨b, off, rfl, hbw, hcell⟩ : ∃ b off, a = some ⟨b, off, none⟩ ∧ b < w.heap.size ∧ ∀ i (h : i < zs.length), w.cell? ⟨b, off + i, none⟩ = some (.int .i64 (zs[i]'h)) := by
          rcases h.ways with ⟨e, _⟩ | h2
          · exact absurd e (zeroB_ne oz)
          · exact h2
        have HX := Lib.hid hcell
        have HOK := Lib.hid ok
        have HL := Lib.hid hl
        have HBD := Lib.hid (map_bd ok hke.1 hke.2)
        clear ok oz h hl oe hcell
        go_enter Tryz.func14, Tryz.ntmps14
        go_wp2_with fail
        refine HC.out.mono ?_
        rintro e w' ⟨rfl, rfl⟩
        go_wp2_with (at_make; refine wpList_make_full _ rfl _ _ 23 rfl w.heap.size 3 i0 (.int .i64 0) 1 Tryz.underlying23 hi hz0 hz1 .i64 .i64 _ _ n rfl rfl (by omega) (by omega) (by rw [hz2]; omega) (by unfold maxLen; omega) (Nat.le_refl _) ?_; intro w0 hown0 hgrow0)
        have hbel0 : Below w.heap.size w w0 := (Below.refl _ _).grown hgrow0 (Nat.le_refl _) (by intro k hk; cases hk)
        have HR0 := Lib.hid (RowI.made hown0)
        have HB0 := Lib.hid hbel0
        have HZZ := Lib.hid (HZ.out w0 hbel0)
        clear hown0 hgrow0 hbel0
        go_wp2_with fail
        refine HZZ.out.mono ?_
        rintro e w' ⟨rfl, rfl⟩
        go_wp2_with fail
        refine (HE.out _).mono ?_
        rintro e w' ⟨rfl, rfl⟩
        go_wp2_with fail
        go_loopw [8, 9, 26] (fun _ _ iv wr => ∃ i : Nat, iv = .int .i64 i ∧ i ≤ n ∧ RowI wr w.heap.size w.heap.size n (part (k * ·) zs n i) ∧ Below w.heap.size w wr) (fun _ _ iv _ => n - (intOf iv).toNat)
        case atStart => exact ⟨0, rfl, Nat.zero_le _, by rw [part_zero]; exact HR0.out, HB0.out⟩
        case round =>
          obtain ⟨i, rfl, hi2, hrow, hbel⟩ := hrel
          have hpl := part_len (k * ·) zs HL.out hi2
          by_cases hlt : i < n
          · have hil : i < zs.length := by rw [HL.out]; exact hlt
            have hcl : wr.cell? ⟨b, off + i, none⟩ = some (.int .i64 (zs[i]'hil)) := (hbel.cell (p := ⟨b, off + i, none⟩) hbw).trans (HX.out i hil)
            have hset := hrow.set i (k * zs[i])
            rw [part_set (k * ·) zs HL.out hil] at hset
            have hcl2 := hrow.cell i (by omega)
            obtain ⟨old, hold⟩ : ∃ old, old = (part (k * ·) zs n i)[i]'(by omega) := ⟨_, rfl⟩
            rw [← hold] at hcl2
            have hfr := hrow.free i
            have hze := okB_at HOK.out i hil
            obtain ⟨z, hz⟩ : ∃ z, z = zs[i] := ⟨_, rfl⟩
            rw [← hz] at hcl hset hze
            have hpr := prod_bd hke.1 hke.2 hze.1 hze.2
            have hwr := in64 (x := k * z) (by omega) (by omega)
            have HSET := Lib.hid hset
            have HB2 := Lib.hid (hbel.setCell (p := ⟨w.heap.size, i, none⟩) (Nat.le_refl _) (.int .i64 (k * z)))
            clear hrow hbel hset hold hz hpl
            go_wp2_with fail
            go_roundw
            case rel => exact ⟨i + 1, by go_num, by omega, HSET.out, HB2.out⟩
            case measure => simp [intOf]; omega
          · obtain rfl : i = n := by omega
            rw [part_all _ _ HL.out] at hrow
            have hml : (zs.map (k * ·)).length = i := by rw [List.length_map]; exact HL.out
            have hrd := hrow.rd HBD.out
            rw [hml] at hrd
            have HK := Lib.hid (checkedN_any _ _ _ _ wr hrd)
            have HB1 := Lib.hid hbel
            clear hrow hbel hml hrd hpl
            go_wp2_with fail
            refine HK.out.mono ?_
            rintro e w' ⟨a2, n2, cap2, rfl, hr2, hb2⟩
            have HR2 := Lib.hid hr2
            have HB2 := Lib.hid hb2
            clear hr2 hb2
            go_wp2_with fail
            go_ret2
            rw [HV.out.1, HV.out.2]
            exact .mk HR2.out (HB1.out.trans (HB2.out.mono HB1.out.size))

end Go.Proofs.YtkpaopfdnfgjeaaGreatDoor
