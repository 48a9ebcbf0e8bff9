/-
  Sum, Max; the reference's Dot.
-/
import Derived.Test.YtgcddiakdmddjaaDoorWRefScale
namespace Go.Proofs.YtgcddiakdmddjaaDoor
open Go.RowKit

/-- block B holds a sum's parts -/
def SumC (B : Nat) (S : Int) (m : Nat) (W : World) : Prop :=
  ∃ U L : Int, W.cell? ⟨B, 0, none⟩ = some (.int .i64 U) ∧ W.cell? ⟨B, 1, none⟩ = some (.int .i64 L) ∧ W.frozen? ⟨B, 0, none⟩ = false ∧ W.frozen? ⟨B, 1, none⟩ = false ∧ Hid (U * 1000000000 + L = S ∧ -(1000000000 * (m : Int)) ≤ U ∧ U ≤ 1000000000 * (m : Int) ∧ -(1000000000 * (m : Int)) ≤ L ∧ L ≤ 1000000000 * (m : Int))
theorem sumC_new (w : World) (T : TypeId) : SumC w.heap.size 0 0 (w.alloc (.cells #[.int .i64 0, .int .i64 0] T)) :=
  ⟨0, 0, by rw [World.cell?_alloc_new]; rfl, by rw [World.cell?_alloc_new]; rfl, World.frozen?_alloc_new _ _ _ _, World.frozen?_alloc_new _ _ _ _, Lib.hid ⟨rfl, by simp, by simp, by simp, by simp⟩⟩
theorem sumC_step {B m : Nat} {S P q r U L : Int} {W : World} (hs : Spl P q r) (h1 : W.cell? ⟨B, 0, none⟩ = some (.int .i64 U)) (h2 : W.cell? ⟨B, 1, none⟩ = some (.int .i64 L)) (h3 : W.frozen? ⟨B, 0, none⟩ = false) (h4 : W.frozen? ⟨B, 1, none⟩ = false)
    (h5 : U * 1000000000 + L = S ∧ -(1000000000 * (m : Int)) ≤ U ∧ U ≤ 1000000000 * (m : Int) ∧ -(1000000000 * (m : Int)) ≤ L ∧ L ≤ 1000000000 * (m : Int)) :
    SumC B (S + P) (m + 1) ((W.setCell ⟨B, 0, none⟩ (.int .i64 (U + q))).setCell ⟨B, 1, none⟩ (.int .i64 (L + r))) := by
  obtain ⟨-, -, hv, q1, q2, r1, r2⟩ := hs
  obtain ⟨a, b, c, d⟩ := two_set (.int .i64 (U + q)) (.int .i64 (L + r)) h1 h2 h3 h4
  exact ⟨U + q, L + r, a, b, c, d, Lib.hid ⟨by omega, by push_cast; omega, by push_cast; omega, by push_cast; omega, by push_cast; omega⟩⟩

/-- sums of magnitudes, and the greatest -/
def absTo (zs : List Int) (k : Nat) : Int := sumTo (fun j => absI (zs[j]?.getD 0)) k
def maxTo (zs : List Int) : Nat → Int
  | 0 => 0
  | k + 1 => max (maxTo zs k) (absI (zs[k]?.getD 0))
theorem absTo_succ (zs : List Int) {k : Nat} (h : k < zs.length) : absTo zs (k + 1) = absTo zs k + absI zs[k] := by
  show _ + absI (zs[k]?.getD 0) = _
  rw [List.getElem?_eq_getElem h]; rfl
theorem maxTo_succ (zs : List Int) {k : Nat} (h : k < zs.length) : maxTo zs (k + 1) = max (maxTo zs k) (absI zs[k]) := by
  show max _ (absI (zs[k]?.getD 0)) = _
  rw [List.getElem?_eq_getElem h]; rfl
theorem absTo_bd {zs : List Int} (ok : okB zs = true) : ∀ k, k ≤ zs.length → 0 ≤ absTo zs k ∧ absTo zs k ≤ 1000000000 * (k : Int) := by
  intro k
  induction k with
  | zero => intro _; exact ⟨by show (0 : Int) ≤ 0; decide, by simp [absTo, sumTo]⟩
  | succ k ih =>
    intro hk
    have h := ih (by omega)
    have hz := okB_at ok k (by omega)
    have ha := absI_nn (zs[k]'(by omega))
    have hb := absI_le hz.1 hz.2
    rw [absTo_succ zs (by omega)]
    push_cast; omega
theorem maxTo_bd {zs : List Int} (ok : okB zs = true) : ∀ k, k ≤ zs.length → 0 ≤ maxTo zs k ∧ maxTo zs k ≤ 1000000000 := by
  intro k
  induction k with
  | zero => intro _; exact ⟨by show (0 : Int) ≤ 0; decide, by show (0 : Int) ≤ _; decide⟩
  | succ k ih =>
    intro hk
    have h := ih (by omega)
    have hz := okB_at ok k (by omega)
    have ha := absI_nn (zs[k]'(by omega))
    have hb := absI_le hz.1 hz.2
    rw [maxTo_succ zs (by omega)]
    omega

set_option maxHeartbeats 1600000 in
set_option maxRecDepth 100000 in
theorem sumN_good (a : Option Addr) (n cap : Nat) (zs : List Int) (w : World) (h : Rd w a n cap zs) (ok : okB zs = true) :
    Calls Tryd.prog 35 #[.slice a n cap] w fun e w' => e = .returned (.tuple #[.int .i64 (sumV (absTo zs n)), .int .i64 (sumE (absTo zs n))]) ∧ Below w.heap.size w w' := by
  have hcn := checkN_any a n cap zs w h
  rw [errR_ok ok] at hcn
  have HC := Lib.hid hcn
  have hc := h.cap
  have hl := h.len
  have h64 : n ≤ 64 := by rw [← hl]; exact okB_len ok
  rcases h.ways with ⟨rfl, rfl⟩ | ⟨b, off, rfl, hb, hcell⟩
  · have HEN := Lib.hid (fun wx => entry_any 0 0 wx (by decide) (by decide) (by decide) (by decide))
    clear h hl ok hcn
    go_enter Tryd.func35, Tryd.ntmps35
    go_wp2_with fail
    refine HC.out.mono ?_
    rintro e w1 ⟨rfl, rfl⟩
    go_wp2_with fail
    refine wp_loop_rounds 1 ?_
    rw [rounds_succ]
    go_wp2_with fail
    refine (HEN.out _).mono ?_
    rintro e w1 ⟨rfl, h1⟩
    go_wp2_with fail
    go_ret2
    exact ⟨rfl, (below_alloc _).trans (h1.mono (by simp))⟩
  · have HX := Lib.hid hcell
    have HL := Lib.hid hl
    have HOK := Lib.hid ok
    clear h hl ok hcell hcn
    go_enter Tryd.func35, Tryd.ntmps35
    go_wp2_with fail
    refine HC.out.mono ?_
    rintro e w1 ⟨rfl, rfl⟩
    go_wp2_with fail
    go_loopw [7, 15] (fun _ iv wr => ∃ i : Nat, iv = .int .i64 i ∧ i ≤ n ∧ Hid (SumC w.heap.size (absTo zs i) i wr) ∧ Below w.heap.size w wr) (fun _ iv _ => n - (intOf iv).toNat)
    case atStart => exact ⟨0, rfl, Nat.zero_le _, Lib.hid (sumC_new w _), below_alloc _⟩
    case round =>
      obtain ⟨i, rfl, hi, HS, hbel⟩ := hrel
      have HBL := Lib.hid hbel
      clear hbel
      obtain ⟨U, L, h1, h2, h3, h4, h5⟩ := HS.out
      obtain ⟨k1, k2, k3, k4, k5⟩ := h5.out
      clear HS
      by_cases hlt : i < n
      · have hil : i < zs.length := by rw [HL.out]; exact hlt
        have hcl : wr.cell? ⟨b, off + i, none⟩ = some (.int .i64 (zs[i]'hil)) := (HBL.out.cell (p := ⟨b, off + i, none⟩) hb).trans (HX.out i hil)
        have hze := okB_at HOK.out i hil
        have hab := absTo_succ zs hil
        obtain ⟨z, hz⟩ : ∃ z, z = zs[i] := ⟨_, rfl⟩
        rw [← hz] at hcl hze hab
        have ha0 := absI_nn z
        have ha1 := absI_le hze.1 hze.2
        have HM := Lib.hid (fun wx => magN_any z wx (by omega) (by omega))
        obtain ⟨A, hA⟩ : ∃ A, A = absI z := ⟨_, rfl⟩
        rw [← hA] at HM ha0 ha1 hab
        obtain ⟨q, r, hs⟩ := spl_of A (by omega) (by omega)
        have HA := Lib.hid (addP_any w.heap.size U L A q r wr hs h1 h2 h3 h4 (by omega) (by omega) (by omega) (by omega))
        have hst := sumC_step hs h1 h2 h3 h4 ⟨k1, k2, k3, k4, k5⟩
        rw [← hab] at hst
        have HST := Lib.hid hst
        have HB2 := Lib.hid ((HBL.out.setCell (p := ⟨w.heap.size, 0, none⟩) (Nat.le_refl _) (.int .i64 (U + q))).setCell (p := ⟨w.heap.size, 1, none⟩) (Nat.le_refl _) (.int .i64 (L + r)))
        clear hst hs h1 h2 h3 h4 h5 k1 k2 k3 k4 k5 hz hab hA
        go_wp2_with fail
        refine (HM.out _).mono ?_
        rintro e w1 ⟨rfl, rfl⟩
        go_wp2_with fail
        refine HA.out.mono ?_
        rintro e w1 ⟨rfl, rfl⟩
        go_wp2_with fail
        go_roundw
        case rel => exact ⟨i + 1, by go_num, by omega, HST, HB2.out⟩
        case measure => simp [intOf]; omega
      · obtain rfl : i = n := by omega
        have hE := fun wx => entry_any U L wx (by omega) (by omega) (by omega) (by omega)
        rw [k1] at hE
        have HE := Lib.hid hE
        clear hE k1 k2 k3 k4 k5 h5
        go_wp2_with fail
        refine (HE.out _).mono ?_
        rintro e w1 ⟨rfl, hb1⟩
        go_wp2_with fail
        go_ret2
        exact ⟨rfl, HBL.out.trans (hb1.mono HBL.out.size)⟩

set_option maxHeartbeats 400000 in
theorem sumN_bad (a : Option Addr) (n cap : Nat) (zs : List Int) (w : World) (h : Rd w a n cap zs) (ok : okB zs = false) :
    Calls Tryd.prog 35 #[.slice a n cap] w fun e w' => e = .returned (.tuple #[.int .i64 0, .int .i64 4]) ∧ w = w' := by
  have hcn := checkN_any a n cap zs w h
  rw [errR_no ok] at hcn
  have HC := Lib.hid hcn
  have hc := h.cap
  clear h ok hcn
  go_enter Tryd.func35, Tryd.ntmps35
  go_wp2_with fail
  refine HC.out.mono ?_
  rintro e w1 ⟨rfl, rfl⟩
  go_wp2_with fail
  go_ret2
  exact ⟨rfl, rfl⟩
set_option maxHeartbeats 400000 in
theorem maxN_bad (a : Option Addr) (n cap : Nat) (zs : List Int) (w : World) (h : Rd w a n cap zs) (ok : okB zs = false) :
    Calls Tryd.prog 36 #[.slice a n cap] w fun e w' => e = .returned (.tuple #[.int .i64 0, .int .i64 4]) ∧ w = w' := by
  have hcn := checkN_any a n cap zs w h
  rw [errR_no ok] at hcn
  have HC := Lib.hid hcn
  have hc := h.cap
  clear h ok hcn
  go_enter Tryd.func36, Tryd.ntmps36
  go_wp2_with fail
  refine HC.out.mono ?_
  rintro e w1 ⟨rfl, rfl⟩
  go_wp2_with fail
  go_ret2
  exact ⟨rfl, rfl⟩

set_option maxHeartbeats 1600000 in
set_option maxRecDepth 100000 in
theorem maxN_good (a : Option Addr) (n cap : Nat) (zs : List Int) (w : World) (h : Rd w a n cap zs) (ok : okB zs = true) :
    Calls Tryd.prog 36 #[.slice a n cap] w fun e w' => e = .returned (.tuple #[.int .i64 (maxTo zs n), .int .i64 0]) ∧ w = w' := by
  have hcn := checkN_any a n cap zs w h
  rw [errR_ok ok] at hcn
  have HC := Lib.hid hcn
  have hc := h.cap
  have hl := h.len
  rcases h.ways with ⟨rfl, rfl⟩ | ⟨b, off, rfl, hb, hcell⟩
  · clear h hl ok hcn
    go_enter Tryd.func36, Tryd.ntmps36
    go_wp2_with fail
    refine HC.out.mono ?_
    rintro e w1 ⟨rfl, rfl⟩
    go_wp2_with fail
    refine wp_loop_rounds 1 ?_
    rw [rounds_succ]
    go_wp2_with fail
    go_ret2
    exact ⟨rfl, rfl⟩
  · have HX := Lib.hid hcell
    have HL := Lib.hid hl
    have HOK := Lib.hid ok
    clear h hl ok hcell hcn
    go_enter Tryd.func36, Tryd.ntmps36
    go_wp2_with fail
    refine HC.out.mono ?_
    rintro e w1 ⟨rfl, rfl⟩
    go_wp2_with fail
    go_loop [5, 7, 15] (fun gv _ iv => ∃ (i : Nat) (g : Int), iv = .int .i64 i ∧ i ≤ n ∧ gv = .int .i64 g ∧ Hid (g = maxTo zs i)) (fun _ _ iv => n - (intOf iv).toNat)
    case atStart => exact ⟨0, 0, rfl, Nat.zero_le _, rfl, Lib.hid rfl⟩
    case round =>
      obtain ⟨i, g, rfl, hi, rfl, HG⟩ := hrel
      by_cases hlt : i < n
      · have hil : i < zs.length := by rw [HL.out]; exact hlt
        have hcl := HX.out i hil
        have hze := okB_at HOK.out i hil
        have hab := maxTo_succ zs hil
        rw [← HG.out] at hab
        obtain ⟨z, hz⟩ : ∃ z, z = zs[i] := ⟨_, rfl⟩
        rw [← hz] at hcl hze hab
        have HM := Lib.hid (fun wx => magN_any z wx (by omega) (by omega))
        obtain ⟨A, hA⟩ : ∃ A, A = absI z := ⟨_, rfl⟩
        rw [← hA] at HM hab
        clear hz hA
        by_cases hga : g ≤ A
        · have HN := Lib.hid (show A = maxTo zs (i + 1) by rw [hab]; omega)
          clear hab
          go_wp2_with fail
          refine (HM.out _).mono ?_
          rintro e w1 ⟨rfl, rfl⟩
          go_wp2_with fail
          go_round
          case rel => exact ⟨i + 1, A, by go_num, by omega, by first | rfl | (congr 1; omega), HN⟩
          case measure => simp [intOf]; omega
        · have hga' : A < g := by omega
          have HN := Lib.hid (show g = maxTo zs (i + 1) by rw [hab]; omega)
          clear hab hga
          go_wp2_with fail
          refine (HM.out _).mono ?_
          rintro e w1 ⟨rfl, rfl⟩
          go_wp2_with fail
          go_round
          case rel => exact ⟨i + 1, g, by go_num, by omega, by first | rfl | (congr 1; omega), HN⟩
          case measure => simp [intOf]; omega
      · obtain rfl : i = n := by omega
        go_wp2_with fail
        go_ret2
        exact ⟨ret_ii HG.out rfl, rfl⟩
end Go.Proofs.YtgcddiakdmddjaaDoor
