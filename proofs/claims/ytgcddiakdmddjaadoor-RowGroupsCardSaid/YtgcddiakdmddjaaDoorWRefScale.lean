/-
  The reference's Scale and Normal.
-/
import Derived.Test.YtgcddiakdmddjaaDoorWRefs
import Derived.Deep.AppendSrc
namespace Go.Proofs.YtgcddiakdmddjaaDoor
open Go.RowKit

/-- append of nothing to an empty row -/
theorem ap_empty {P : Program} {w : World} {ops : Array Oper} {rest : List Oper} {o : Oper} {a : Act} {Q : Exit → Act → World → Prop} (hgd : o.guard = none) (s x : Operand) (t : TypeId)
    (ho : o.op = .call { callee := .builtin .append, args := #[s, x], argTypes := #[t, t] })
    (e : TypeId) (i : TypeInfo) (ht : P.underlying t = some (.slice e)) (hi : P.info? e = some i) (g : Nat) (A : Option Addr) (c : Nat)
    (hs : a.eval s = .slice (some ⟨g, 0, none⟩) 0 0) (hx : a.eval x = .slice A 0 c) (h : wpList P ops Q rest (a.put o.dst (.slice (some ⟨g, 0, none⟩) 0 0)) w) : wpList P ops Q (o :: rest) a w := by
  refine wpList_plain hgd fun K hK => ?_
  have hrun : (Builtin.append_ #[t, t] o.type #[.slice (some ⟨g, 0, none⟩) 0 0, .slice A 0 c]).run P w = .ok (.slice (some ⟨g, 0, none⟩) 0 0) w := by
    cases A with
    | none => exact run_append_room_src w t t o.type e i ht hi g 0 0 0 _ 0 [] (Src.ofNil w ht c) (Nat.le_refl _) (fun j hj => absurd hj (by simp)) (fun j hj => absurd hj (by simp))
    | some ad => exact run_append_room_src w t t o.type e i ht hi g 0 0 0 _ 0 [] (Src.ofSlice w ht ad 0 c [] (by simp) (by simp) (by simp)) (Nat.le_refl _) (fun j hj => absurd hj (by simp)) (fun j hj => absurd hj (by simp))
  unfold Oper.wp
  simp [execOp, ho, resolve, invoke, builtin, hs, hx, hrun, Result.andThen]
  exact hK _ _ h
/-- a literal without elements -/
theorem own_empty (w : World) (T : TypeId) : (w.alloc (.cells #[] T)).ownsRow w.heap.size T 1 (.slice (some ⟨w.heap.size, 0, none⟩) 0 0) 0 [] :=
  ⟨rfl, .inr ⟨w.heap.size, 0, _, rfl, Nat.le_refl _, heap_alloc_new w _, Nat.le_refl _, by unfold maxLen; decide, rfl, rfl⟩⟩
theorem Rd.empty (w : World) (g : Nat) : Rd w (some ⟨g, 0, none⟩) 0 0 [] := ⟨rfl, Nat.le_refl _, by unfold maxLen; omega, by simp, .inl rfl⟩
theorem ci_one {zs : List Int} : ∀ u ∈ ci zs, u.oneCell' = true := by
  intro u hu
  obtain ⟨z, _, rfl⟩ := List.mem_map.1 hu
  rfl

theorem src_cells {w : World} {b off : Nat} {zs : List Int} {o : Obj} (hb : b < w.heap.size) (h : ∀ i (h : i < zs.length), w.cell? ⟨b, off + i, none⟩ = some (.int .i64 (zs[i]'h))) : ∀ j u, (ci zs)[j]? = some u → (w.alloc o).cell? ((⟨b, off, none⟩ : Addr).add j) = some u := by
  intro j u hu
  have hj : j < zs.length := by
    have := (List.getElem?_eq_some_iff.1 hu).1
    rw [ci_len] at this; exact this
  rw [ci_at _ _ hj] at hu
  cases hu
  rw [Lib.add_plain, (below_alloc (w := w) o).cell (p := ⟨b, off + j, none⟩) hb]
  exact h j hj

set_option maxHeartbeats 1600000 in
set_option maxRecDepth 100000 in
theorem scaleR_zero (a : Option Addr) (n cap : Nat) (zs : List Int) (k : Int) (w : World) (h : Rd w a n cap zs) (ok : okB zs = true) (oz : zeroB zs = true) :
    Calls Tryd.prog 27 #[.slice a n cap, .int .i64 k] w (CombPost zs true w) := by
  have hz := zeroR_any a n cap zs w h
  rw [oz] at hz
  have HZ := Lib.hid hz
  have hc := h.cap
  have hl := h.len
  have h64 : n ≤ 64 := by rw [← hl]; exact okB_len ok
  obtain ⟨i0, hi, hz0, hz1, hz2⟩ := info_parts infoI
  rcases h.ways with ⟨rfl, rfl⟩ | ⟨b, off, rfl, hbw, hcell⟩
  · clear h hl ok oz hz
    go_enter Tryd.func27, Tryd.ntmps27
    go_wp2_with fail
    refine HZ.out.mono ?_
    rintro e w1 ⟨rfl, rfl⟩
    go_wp2_with (at_builtin; refine ap_empty rfl _ _ 23 rfl 3 i0 Tryd.underlying23 hi w.heap.size a cap rfl rfl ?_)
    go_ret2
    exact CombPost.yes (Rd.empty _ _) (below_alloc _)
  · have HX := Lib.hid hcell
    have HL := Lib.hid hl
    have HOK := Lib.hid ok
    clear h hl ok oz hz hcell
    go_enter Tryd.func27, Tryd.ntmps27
    go_wp2_with fail
    refine HZ.out.mono ?_
    rintro e w1 ⟨rfl, rfl⟩
    go_wp2_with (at_builtin; refine wpList_append_own _ rfl _ _ 23 rfl w.heap.size 3 i0 (.int .i64 0) 1 8 Tryd.underlying23 hi hz0 hz1 hz2 rfl (by decide) _ _ _ rfl (own_empty w 3) ⟨b, off, none⟩ n cap (ci zs) rfl (by rw [ci_len, Nat.mul_one]; exact HL.out) (src_cells hbw HX.out) ci_one (by unfold maxLen; omega) (by omega) (by simp) ?_; intro v' w2 hown' hgrow _)
    rw [Nat.zero_add, List.nil_append] at hown'
    obtain ⟨a2, c2, rfl, hrd⟩ := Rd.of_owns hown' HL.out (okB_bd HOK.out)
    have HRD := Lib.hid hrd
    have HB := Lib.hid (show Below w.heap.size w w2 from ((Below.refl w.heap.size w).alloc (Nat.le_refl _) _).grown hgrow (by simp) (by intro q hq; exact (World.ownsRow.lt (own_empty w 3) q hq).1))
    clear hown' hgrow hrd
    go_wp2_with fail
    go_ret2
    exact CombPost.yes HRD.out HB.out

set_option maxHeartbeats 800000 in
theorem scaleR_big (a : Option Addr) (n cap : Nat) (zs : List Int) (k : Int) (w : World) (h : Rd w a n cap zs) (oz : zeroB zs = false) (hk : entB k = false) :
    Calls Tryd.prog 27 #[.slice a n cap, .int .i64 k] w (CombPost [] false w) := by
  have hz := zeroR_any a n cap zs w h
  rw [oz] at hz
  have HZ := Lib.hid hz
  have hc := h.cap
  have hkk : 1000000000 < k ∨ (k ≤ 1000000000 ∧ k < -1000000000) := by
    by_cases h1 : 1000000000 < k
    · exact .inl h1
    · exact .inr ⟨by omega, by
        apply Int.lt_of_not_ge; intro h2
        rw [entB_iff.2 ⟨h2, by omega⟩] at hk; cases hk⟩
  clear h oz hz hk
  rcases hkk with h1 | ⟨h1, h2⟩
  all_goals
    go_enter Tryd.func27, Tryd.ntmps27
    go_wp2_with fail
    refine HZ.out.mono ?_
    rintro e w1 ⟨rfl, rfl⟩
    go_wp2_with fail
    go_ret2
    exact CombPost.no (Below.refl _ _)

set_option maxHeartbeats 800000 in
theorem scaleR_mul (a : Option Addr) (n cap : Nat) (zs : List Int) (k : Int) (w : World) (h : Rd w a n cap zs) (ok : okB zs = true) (oz : zeroB zs = false) (hk : entB k = true) :
    Calls Tryd.prog 27 #[.slice a n cap, .int .i64 k] w (CombPost (zs.map (k * ·)) (okB (zs.map (k * ·))) w) := by
  have hz := zeroR_any a n cap zs w h
  rw [oz] at hz
  have HZ := Lib.hid hz
  have hc := h.cap
  have HC := Lib.hid (comb1 a n cap zs k w h ok hk)
  obtain ⟨h1, h2⟩ := entB_iff.1 hk
  clear h oz hz hk ok
  go_enter Tryd.func27, Tryd.ntmps27
  go_wp2_with fail
  refine HZ.out.mono ?_
  rintro e w1 ⟨rfl, rfl⟩
  go_wp2_with fail
  refine HC.out.mono ?_
  rintro e w' ⟨a2, n2, cap2, rfl, hr2, hb2⟩
  have HR2 := Lib.hid hr2
  have HB2 := Lib.hid hb2
  clear hr2 hb2
  go_wp2_with fail
  go_ret2
  exact ⟨_, _, _, rfl, HR2.out, HB2.out⟩
/-- whether a multiple is right -/
def scOk (zs : List Int) (k : Int) : Bool := zeroB zs || (entB k && okB (zs.map (k * ·)))
theorem zero_map {zs : List Int} (h : zeroB zs = true) (k : Int) : zs.map (k * ·) = zs := by
  have e := zeroB_all h
  rw [e]; simp
theorem scaleR_any (a : Option Addr) (n cap : Nat) (zs : List Int) (k : Int) (w : World) (h : Rd w a n cap zs) (ok : okB zs = true) :
    Calls Tryd.prog 27 #[.slice a n cap, .int .i64 k] w (CombPost (zs.map (k * ·)) (scOk zs k) w) := by
  cases oz : zeroB zs with
  | true =>
    have e : scOk zs k = true := by unfold scOk; rw [oz]; rfl
    rw [e, zero_map oz]
    exact scaleR_zero a n cap zs k w h ok oz
  | false =>
    cases hk : entB k with
    | true =>
      have e : scOk zs k = okB (zs.map (k * ·)) := by unfold scOk; rw [oz, hk]; rfl
      rw [e]
      exact scaleR_mul a n cap zs k w h ok oz hk
    | false =>
      have e : scOk zs k = false := by unfold scOk; rw [oz, hk]; rfl
      rw [e]
      refine (scaleR_big a n cap zs k w h oz hk).mono ?_
      rintro e w' ⟨a2, n2, cap2, rfl, hr2, hb2⟩
      exact ⟨_, _, _, rfl, hr2, hb2⟩
/-- the program's Scale against the reference's -/
theorem scale_rel {zs : List Int} {k : Int} (ok : okB zs = true) : (scOk zs k = true ∧ scaleV zs k = zs.map (k * ·) ∧ scaleE zs k = 0) ∨ (scOk zs k = false ∧ scaleV zs k = [] ∧ scaleE zs k = 4) := by
  cases oz : zeroB zs with
  | true => left; simp [scaleV, scaleE, scOk, ok, oz, zero_map oz]
  | false =>
    cases hk : entB k with
    | false => right; simp [scaleV, scaleE, scOk, ok, oz, hk]
    | true =>
      cases om : okB (zs.map (k * ·)) with
      | true => left; simp [scaleV, scaleE, scOk, ok, oz, hk, chkV, om, errR]
      | false => right; simp [scaleV, scaleE, scOk, ok, oz, hk, chkV, om, errR]
end Go.Proofs.YtgcddiakdmddjaaDoor
