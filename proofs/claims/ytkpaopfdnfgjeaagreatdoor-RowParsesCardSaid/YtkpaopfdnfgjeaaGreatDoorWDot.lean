/-
  Dot of rows.
-/
import Derived.Test.YtkpaopfdnfgjeaaGreatDoorWPairs
namespace Go.Proofs.YtkpaopfdnfgjeaaGreatDoor
open Go.RowKit Go.Shelf

attribute [local go_sem] Oper.semAt_some

/-- the error of two rows that must have the same length -/
def pairE (xs ys : List Int) : Int := if okB xs = true then (if okB ys = true then (if xs.length = ys.length then 0 else 5) else 4) else 4
/-- sum of products -/
def dotL (l : List EPair) : Int := (l.map fun x => x.1.1 * x.1.2).sum
theorem dotL_snoc (l : List EPair) (x : EPair) : dotL (l ++ [x]) = dotL l + x.1.1 * x.1.2 := by simp [dotL]
/-- the first k summands -/
def sumTo (f : Nat → Int) : Nat → Int
  | 0 => 0
  | k + 1 => sumTo f k + f k
theorem dotL_upto (f : Nat → EPair) (k : Nat) : dotL (upto f k) = sumTo (fun j => (f j).1.1 * (f j).1.2) k := by
  induction k with
  | zero => rfl
  | succ k ih => rw [upto_succ, dotL_snoc, ih]; rfl
def dotI (xs ys : List Int) : Int := sumTo (fun j => xs[j]?.getD 0 * ys[j]?.getD 0) xs.length
theorem prod_bd {a b : Int} (h1 : -1000000000 ≤ a) (h2 : a ≤ 1000000000) (h3 : -1000000000 ≤ b) (h4 : b ≤ 1000000000) : -1000000000000000000 ≤ a * b ∧ a * b ≤ 1000000000000000000 := by
  have ha : a.natAbs ≤ 1000000000 := by omega
  have hb : b.natAbs ≤ 1000000000 := by omega
  have hm : (a * b).natAbs ≤ 1000000000 * 1000000000 := by rw [Int.natAbs_mul]; exact Nat.mul_le_mul ha hb
  omega

set_option maxHeartbeats 800000 in
theorem checkPair_any (a a' : Option Addr) (len cap len' cap' : Nat) (xs ys : List Int) (w : World) (hx : Rd w a len cap xs) (hy : Rd w a' len' cap' ys) :
    Calls Tryz.prog 26 #[.slice a len cap, .slice a' len' cap'] w fun e w' => e = .returned (.int .i64 (pairE xs ys)) ∧ w = w' := by
  have HX := Lib.hid (checkN_any a len cap xs w hx)
  have HY := Lib.hid (checkN_any a' len' cap' ys w hy)
  have hc := hx.cap
  have hc' := hy.cap
  have HL := Lib.hid hx.len
  have HL' := Lib.hid hy.len
  clear hx hy
  cases ox : okB xs with
  | false =>
    rw [errR_no ox] at HX
    have HE := Lib.hid (show pairE xs ys = 4 by unfold pairE; rw [if_neg (by simp [ox])])
    clear ox
    go_enter Tryz.func26, Tryz.ntmps26
    go_wp2_with fail
    refine HX.out.mono ?_
    rintro e w' ⟨rfl, rfl⟩
    go_wp2_with fail
    go_ret
    exact ⟨ret_int HE.out.symm, rfl⟩
  | true =>
    rw [errR_ok ox] at HX
    cases oy : okB ys with
    | false =>
      rw [errR_no oy] at HY
      have HE := Lib.hid (show pairE xs ys = 4 by unfold pairE; rw [if_pos ox, if_neg (by simp [oy])])
      clear ox oy
      go_enter Tryz.func26, Tryz.ntmps26
      go_wp2_with fail
      refine HX.out.mono ?_
      rintro e w' ⟨rfl, rfl⟩
      go_wp2_with fail
      refine HY.out.mono ?_
      rintro e w' ⟨rfl, rfl⟩
      go_wp2_with fail
      go_ret
      exact ⟨ret_int HE.out.symm, rfl⟩
    | true =>
      rw [errR_ok oy] at HY
      by_cases hl : len = len'
      · have HE := Lib.hid (show pairE xs ys = 0 by unfold pairE; rw [if_pos ox, if_pos oy, if_pos (by rw [HL.out, HL'.out]; exact hl)])
        clear ox oy
        subst hl
        go_enter Tryz.func26, Tryz.ntmps26
        go_wp2_with fail
        refine HX.out.mono ?_
        rintro e w' ⟨rfl, rfl⟩
        go_wp2_with fail
        refine HY.out.mono ?_
        rintro e w' ⟨rfl, rfl⟩
        go_wp2_with fail
        go_ret
        exact ⟨ret_int HE.out.symm, rfl⟩
      · have HE := Lib.hid (show pairE xs ys = 5 by unfold pairE; rw [if_pos ox, if_pos oy, if_neg (by rw [HL.out, HL'.out]; exact hl)])
        have hne : ((len : Int) != (len' : Int)) = true := by simp; omega
        clear ox oy hl
        go_enter Tryz.func26, Tryz.ntmps26
        go_wp2_with fail
        refine HX.out.mono ?_
        rintro e w' ⟨rfl, rfl⟩
        go_wp2_with fail
        refine HY.out.mono ?_
        rintro e w' ⟨rfl, rfl⟩
        go_wp2_with fail
        go_ret
        exact ⟨ret_int HE.out.symm, rfl⟩

/-- what Dot answers -/
def dotV (xs ys : List Int) : Int := if pairE xs ys = 0 then sumV (dotI xs ys) else 0
def dotE (xs ys : List Int) : Int := if pairE xs ys = 0 then sumE (dotI xs ys) else pairE xs ys

set_option maxHeartbeats 800000 in
theorem dotN_bad (a a' : Option Addr) (len cap len' cap' : Nat) (xs ys : List Int) (w : World) (hx : Rd w a len cap xs) (hy : Rd w a' len' cap' ys) (h : pairE xs ys ≠ 0) :
    Calls Tryz.prog 12 #[.slice a len cap, .slice a' len' cap'] w fun e w' => e = .returned (.tuple #[.int .i64 (dotV xs ys), .int .i64 (dotE xs ys)]) ∧ Below w.heap.size w w' := by
  have HC := Lib.hid (checkPair_any a a' len cap len' cap' xs ys w hx hy)
  have HV := Lib.hid (show dotV xs ys = 0 from if_neg h)
  have HE := Lib.hid (show dotE xs ys = pairE xs ys from if_neg h)
  obtain ⟨E, hE⟩ : ∃ E, E = pairE xs ys := ⟨_, rfl⟩
  rw [← hE] at HC HE h
  have hne : (E != 0) = true := by simpa using h
  clear hx hy hE h
  go_enter Tryz.func12, Tryz.ntmps12
  go_wp2_with fail
  refine HC.out.mono ?_
  rintro e w' ⟨rfl, rfl⟩
  go_wp2_with fail
  go_ret2
  exact ⟨by rw [HV.out, HE.out]; rfl, Below.refl _ _⟩

theorem cell_far (w : World) (p a : Addr) (v : Value) (h : p.block ≠ a.block) : (w.setCell p v).cell? a = w.cell? a := World.cell?_setCell_other (w := w) (a := p) (b := a) (v := v) (fun e => h (by rw [e]))
/-- the state of the sum -/
def SumIs (B : Nat) (pre : List EPair) (W : World) : Prop :=
  ∃ U L : Int, W.cell? ⟨B, 0, none⟩ = some (.int .i64 U) ∧ W.cell? ⟨B, 1, none⟩ = some (.int .i64 L) ∧ W.frozen? ⟨B, 0, none⟩ = false ∧ W.frozen? ⟨B, 1, none⟩ = false ∧ Hid (U * 1000000000 + L = dotL pre ∧ -(1000000000 * (pre.length : Int)) ≤ U ∧ U ≤ 1000000000 * (pre.length : Int) ∧ -(1000000000 * (pre.length : Int)) ≤ L ∧ L ≤ 1000000000 * (pre.length : Int))
theorem SumIs.kept {B : Nat} {pre : List EPair} {W W' : World} {row : Option Nat} (h : SumIs B pre W) (hg : W.grownBy W' row) (hr : ∀ r, row = some r → ∃ o : Obj, W.heap[r]? = some o ∧ o.isCells = false) : SumIs B pre W' := by
  obtain ⟨U, L, h1, h2, h3, h4, h5⟩ := h
  exact ⟨U, L, cell_kept h1 hg hr, cell_kept h2 hg hr, (frozen_kept h1 hg hr).trans h3, (frozen_kept h2 hg hr).trans h4, h5⟩
theorem SumIs.step {B : Nat} {pre : List EPair} {W : World} {x : EPair} {q r U L : Int} (hs : Spl (x.1.1 * x.1.2) q r) (h1 : W.cell? ⟨B, 0, none⟩ = some (.int .i64 U)) (h2 : W.cell? ⟨B, 1, none⟩ = some (.int .i64 L)) (h3 : W.frozen? ⟨B, 0, none⟩ = false) (h4 : W.frozen? ⟨B, 1, none⟩ = false)
    (h5 : U * 1000000000 + L = dotL pre ∧ -(1000000000 * (pre.length : Int)) ≤ U ∧ U ≤ 1000000000 * (pre.length : Int) ∧ -(1000000000 * (pre.length : Int)) ≤ L ∧ L ≤ 1000000000 * (pre.length : Int)) :
    SumIs B (pre ++ [x]) ((W.setCell ⟨B, 0, none⟩ (.int .i64 (U + q))).setCell ⟨B, 1, none⟩ (.int .i64 (L + r))) := by
  obtain ⟨-, -, hv, q1, q2, r1, r2⟩ := hs
  refine ⟨U + q, L + r, ?_, ?_, ?_, ?_, ?_⟩
  · refine (World.cell?_setCell_other (w := W.setCell ⟨B, 0, none⟩ (.int .i64 (U + q))) (a := ⟨B, 1, none⟩) (b := ⟨B, 0, none⟩) (v := .int .i64 (L + r)) (fun e => by cases e)).trans ?_
    exact World.cell?_setCell_same' _ _ _ (by rw [h1]; rfl)
  · refine World.cell?_setCell_same' _ _ _ ?_
    have h2' := (World.cell?_setCell_other (w := W) (a := ⟨B, 0, none⟩) (b := ⟨B, 1, none⟩) (v := .int .i64 (U + q)) (fun e => by cases e)).trans h2
    rw [h2']; rfl
  · rw [World.frozen?_setCell, World.frozen?_setCell]; exact h3
  · rw [World.frozen?_setCell, World.frozen?_setCell]; exact h4
  · rw [dotL_snoc]
    have hl : ((pre ++ [x]).length : Int) = (pre.length : Int) + 1 := by simp
    rw [hl]
    exact Lib.hid ⟨by omega, by omega, by omega, by omega, by omega⟩

set_option maxRecDepth 100000 in
set_option maxHeartbeats 2000000 in
theorem dotN_good (a a' : Option Addr) (len cap cap' : Nat) (xs ys : List Int) (w : World) (hx : Rd w a len cap xs) (hy : Rd w a' len cap' ys) (ox : okB xs = true) (oy : okB ys = true) :
    Calls Tryz.prog 12 #[.slice a len cap, .slice a' len cap'] w fun e w' => e = .returned (.tuple #[.int .i64 (sumV (dotI xs ys)), .int .i64 (sumE (dotI xs ys))]) ∧ Below w.heap.size w w' := by
  have hpe : pairE xs ys = 0 := by unfold pairE; rw [if_pos ox, if_pos oy, if_pos (by rw [hx.len, hy.len])]
  have HC := Lib.hid (checkPair_any a a' len cap len cap' xs ys w hx hy)
  rw [hpe] at HC
  have h64 := okB_len ox
  have hxl := hx.len
  have HT := Lib.hid (Two.of hx hy ox oy)
  have HD := Lib.hid (show dotL (upto (pairF ox oy) len) = dotI xs ys by rw [dotL_upto, ← hxl]; rfl)
  have hlen : len ≤ 64 := by omega
  clear hpe hx hy h64 hxl
  refine (callsIn_wide (n := 3)).1 ?_
  refine callsIn_of_wp_marks Tryz.func12 rfl trivial ?_ rfl
  simp only [Tryz.ntmps12, List.size_toArray, List.length_cons, List.length_nil, Nat.reduceAdd, Nat.reduceSub, Array.replicate_succ, Array.replicate_zero, List.push_toArray, List.append_toArray, List.nil_append, List.cons_append]
  gi_wp2_with (first
    | (refine ⟨trivial, ?_⟩; gi_at_call 26; refine (callsIn_wide.2 HC.out).mono ?_; rintro e w' ⟨rfl, rfl⟩)
    | (refine ⟨trivial, ?_⟩; gi_at_call 27; refine (pairs_in Fence.wide _ trivial rfl _ _ _ _ _ _ _).mono ?_; rintro e w' ⟨rfl, rfl⟩))
  have b0 : (w.alloc (.cells #[.int .i64 0, .int .i64 0] 58)).cell? ⟨w.heap.size, 0, none⟩ = some (.int .i64 0) := by rw [World.cell?_alloc_new]; rfl
  have b1 : (w.alloc (.cells #[.int .i64 0, .int .i64 0] 58)).cell? ⟨w.heap.size, 1, none⟩ = some (.int .i64 0) := by rw [World.cell?_alloc_new]; rfl
  have g0 : (w.alloc (.cells #[.int .i64 0, .int .i64 0] 58)).frozen? ⟨w.heap.size, 0, none⟩ = false := World.frozen?_alloc_new _ _ _ _
  have g1 : (w.alloc (.cells #[.int .i64 0, .int .i64 0] 58)).frozen? ⟨w.heap.size, 1, none⟩ = false := World.frozen?_alloc_new _ _ _ _
  have bA := Boxed.new (w.alloc (.cells #[.int .i64 0, .int .i64 0] 58)) 23 (.slice a len cap)
  have bB := Boxed.new ((w.alloc (.cells #[.int .i64 0, .int .i64 0] 58)).alloc (.cells #[.slice a len cap] 23)) 23 (.slice a' len cap')
  simp only [World.size_alloc] at bA bB
  have hB0 : Below w.heap.size w (((w.alloc (.cells #[.int .i64 0, .int .i64 0] 58)).alloc (.cells #[.slice a len cap] 23)).alloc (.cells #[.slice a' len cap'] 23)) := (((Below.refl _ w).alloc (Nat.le_refl _) _).alloc (by simp) _).alloc (by simp; omega) _
  refine wpIn_rangeFunc_ownG rfl (by decide) (gf := 45) (lb := #[.pointer (some ⟨w.heap.size + 1, 0, none⟩), .pointer (some ⟨w.heap.size + 1 + 1, 0, none⟩)]) rfl trivial (enters_of Tryz.func45 (by kernel_rfl) rfl)
    (pairs_stops Fence.wide _ trivial rfl (by decide) (w.heap.size + 1) (w.heap.size + 1 + 1) w.heap.size a a' len cap cap' (pairF ox oy) (by omega) _ (by simp) (by simp) (by simp; omega) (bA.alloc _).cell bB.cell (HT.out.below hB0)) keepP_t (keepP_b (by simp; omega)) (Below.refl _ _) (fun _ => rfl)
    (fun pre W => SumIs w.heap.size pre W ∧ Below w.heap.size w W)
    (fun _ _ _ => False)
    (OwnFrom.and (Own.from (fun s A B row hs hg hr => hs.kept hg hr) _) (ownFrom_below (Nat.le_refl _) (by simp; omega)))
    (fun _ _ _ _ _ hs _ _ => hs)
    ⟨(SumIs.kept (SumIs.kept (B := w.heap.size) (pre := []) ⟨0, 0, b0, b1, g0, g1, Lib.hid ⟨rfl, by simp, by simp, by simp, by simp⟩⟩ (World.grownBy_alloc _ _ none) (fun r e => by cases e)) (World.grownBy_alloc _ _ none) (fun r e => by cases e)), hB0⟩
    (fun x => { tmps := #[.slice a len cap, .slice a' len cap', undef, undef, .int .i64 0, .int .i64 0, .int .i64 0, .pointer (some ⟨w.heap.size, 0, none⟩), .int .i64 x.1.1, .int .i64 x.1.2, .slice a len cap, .slice a' len cap', .int .i64 0, .int .i64 0, .bool false, undef, .slice a len cap, .slice a' len cap', .func (.func 45) #[] #[.pointer (some ⟨w.heap.size + 1, 0, none⟩), .pointer (some ⟨w.heap.size + 1 + 1, 0, none⟩)], .int .i64 x.1.1, .int .i64 x.1.2, undef, undef, undef, undef, undef, undef, undef, undef], defers := [] }) ?assign ?body ?done ?stop
  case assign =>
    intro l x W K hK
    gi_wp2
    exact hK
  case body =>
    rintro l pre x W ⟨⟨U, L, h1, h2, h3, h4, h5⟩, hB⟩ hpre
    obtain ⟨p1, p2⟩ := prod_bd x.2.1.1 x.2.1.2 x.2.2.1 x.2.2.2
    obtain ⟨q, r, hs⟩ := spl_of (x.1.1 * x.1.2) p1 p2
    obtain ⟨k1, k2, k3, k4, k5⟩ := h5.out
    have HA := Lib.hid (addP_any w.heap.size U L (x.1.1 * x.1.2) q r W hs h1 h2 h3 h4 (by omega) (by omega) (by omega) (by omega))
    have hstep := SumIs.step (x := x) hs h1 h2 h3 h4 h5.out
    have hw := in64 (x := x.1.1 * x.1.2) (by omega) (by omega)
    have HF := Lib.hid (show (KeepsFrom (((w.alloc (.cells #[.int .i64 0, .int .i64 0] 58)).alloc (.cells #[.slice a len cap] 23)).alloc (.cells #[.slice a' len cap'] 23)).heap.size W ((W.setCell ⟨w.heap.size, 0, none⟩ (.int .i64 (U + q))).setCell ⟨w.heap.size, 1, none⟩ (.int .i64 (L + r)))) ∧ KeepP w.heap.size (w.heap.size + 1 + 1) (.slice a' len cap') W ((W.setCell ⟨w.heap.size, 0, none⟩ (.int .i64 (U + q))).setCell ⟨w.heap.size, 1, none⟩ (.int .i64 (L + r))) ∧ SumIs w.heap.size (pre ++ [x]) ((W.setCell ⟨w.heap.size, 0, none⟩ (.int .i64 (U + q))).setCell ⟨w.heap.size, 1, none⟩ (.int .i64 (L + r))) ∧ Below w.heap.size w ((W.setCell ⟨w.heap.size, 0, none⟩ (.int .i64 (U + q))).setCell ⟨w.heap.size, 1, none⟩ (.int .i64 (L + r))) from
      ⟨((KeepsOthers.setCell _ _ _).trans (KeepsOthers.setCell _ _ _)).from _,
        ⟨((Below.refl w.heap.size W).setCell (p := ⟨w.heap.size, 0, none⟩) (Nat.le_refl _) _).setCell (p := ⟨w.heap.size, 1, none⟩) (Nat.le_refl _) _, fun hc => by rw [cell_far _ _ _ _ (by simp; omega), cell_far _ _ _ _ (by simp; omega)]; exact hc⟩,
        hstep, (hB.setCell (p := ⟨w.heap.size, 0, none⟩) (Nat.le_refl _) _).setCell (p := ⟨w.heap.size, 1, none⟩) (Nat.le_refl _) _⟩)
    clear hstep hs h1 h2 h3 h4 h5 k1 k2 k3 k4 k5 hB p1 p2
    gi_wp2_with (refine ⟨trivial, ?_⟩; gi_at_call 28; refine (CallsIn.inRound l (callsIn_wide.2 HA.out)).mono ?_; rintro e w' ⟨rfl, rfl⟩)
    exact ⟨HF.out.1, HF.out.2.1, HF.out.2.2.1, HF.out.2.2.2⟩
  case done =>
    rintro D zs W hD rfl ⟨⟨U, L, h1, h2, h3, h4, h5⟩, hB⟩ hK
    obtain ⟨k1, k2, k3, k4, k5⟩ := h5.out
    rw [HD.out] at k1
    rw [upto_length] at k2 k3 k4 k5
    have hE := fun wx => entry_any U L wx (by omega) (by omega) (by omega) (by omega)
    rw [k1] at hE
    have HE := Lib.hid hE
    clear hE k1 k2 k3 k4 k5 h5
    gi_wp2_with (refine ⟨trivial, ?_⟩; gi_at_call 29; refine (callsIn_wide.2 (HE.out _)).mono ?_; rintro e w' ⟨rfl, hb'⟩)
    have hK2 : w'.heap[D]? = some (.deferred (some [])) := by rw [hb'.block D (Array.getElem?_eq_some_iff.1 hK).1]; exact hK
    refine ⟨by simp, .inl ⟨_, _, rfl, run_takeDeferred hK2, ?_⟩⟩
    exact ⟨.tuple #[.int .i64 (sumV (dotI xs ys)), .int .i64 (sumE (dotI xs ys))], by simp [results, Tryz.f12, go_sem], rfl, (hB.trans (hb'.mono hB.size)).trans (belowK_b (w := w) (Nat.le_refl _) w' D _ _ (by simp at hD; omega) hK2 rfl rfl)⟩
  case stop =>
    rintro D c pre W _ _ h _
    exact h.elim

theorem dotN_any (a a' : Option Addr) (len cap len' cap' : Nat) (xs ys : List Int) (w : World) (hx : Rd w a len cap xs) (hy : Rd w a' len' cap' ys) :
    Calls Tryz.prog 12 #[.slice a len cap, .slice a' len' cap'] w fun e w' => e = .returned (.tuple #[.int .i64 (dotV xs ys), .int .i64 (dotE xs ys)]) ∧ Below w.heap.size w w' := by
  by_cases h : pairE xs ys = 0
  · have hh := h
    unfold pairE at hh
    cases ox : okB xs with
    | false => rw [if_neg (by simp [ox])] at hh; cases hh
    | true =>
      rw [if_pos ox] at hh
      cases oy : okB ys with
      | false => rw [if_neg (by simp [oy])] at hh; cases hh
      | true =>
        rw [if_pos oy] at hh
        by_cases hl : xs.length = ys.length
        · obtain rfl : len = len' := by rw [← hx.len, ← hy.len]; exact hl
          unfold dotV dotE; rw [if_pos h, if_pos h]
          exact dotN_good a a' len cap cap' xs ys w hx hy ox oy
        · rw [if_neg hl] at hh; cases hh
  · exact dotN_bad a a' len cap len' cap' xs ys w hx hy h
end Go.Proofs.YtkpaopfdnfgjeaaGreatDoor
