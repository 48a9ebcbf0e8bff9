/-
  Add and Sub of rows.
-/
import Derived.Test.YtgcddiakdmddjaaDoorWKnown
import Derived.RangeFuncBox
import Derived.Maps.AppendAt
namespace Go.Proofs.YtgcddiakdmddjaaDoor
open Go.RowKit Go.Shelf

attribute [local go_sem] Oper.semAt_some

theorem Two.mono {n₀ m₀ : Nat} {W : World} {a : Option Addr} {len : Nat} {a' : Option Addr} {f : Nat → EPair} (h : Two n₀ W a len a' f) (hm : n₀ ≤ m₀) : Two m₀ W a len a' f := by
  rcases h with h | ⟨b, off, b', off', e1, e2, hb, hb', h1, h2⟩
  · exact .inl h
  · exact .inr ⟨b, off, b', off', e1, e2, by omega, by omega, h1, h2⟩
theorem Rd.of_owns {W : World} {B : Nat} {v : Value} {k : Nat} {l : List Int} (h : W.ownsRow B 3 1 v k (ci l)) (hk : l.length = k) (hb : ∀ z ∈ l, -9223372036854775808 ≤ z ∧ z ≤ 9223372036854775807) : ∃ a cap, v = .slice a k cap ∧ Rd W a k cap l := by
  have h0 := h
  rcases h.2 with ⟨hv, hl⟩ | ⟨g, cap, cur, rfl, _, _, _⟩
  · have e : l = [] := List.eq_nil_of_length_eq_zero (hk.trans hl)
    subst e
    obtain rfl : k = 0 := hk.symm
    exact ⟨none, 0, hv, Rd.nil W⟩
  · subst hk
    exact ⟨some ⟨g, 0, none⟩, cap, rfl, RowI.rd (B := B) h0 hb⟩
theorem Rd.put {W : World} {a : Option Addr} {n cap : Nat} {l : List Int} (h : Rd W a n cap l) {D : Nat} {o : Obj} (hD : W.heap[D]? = some o) (hc : o.isCells = false) (o' : Obj) : Rd (W.putObj D o') a n cap l := by
  obtain ⟨h1, h2, h3, h4, h5⟩ := h
  refine ⟨h1, h2, h3, h4, ?_⟩
  rcases h5 with h5 | ⟨b, off, e, hlt, hcell⟩
  · exact .inl h5
  · exact .inr ⟨b, off, e, Nat.lt_of_lt_of_le hlt (grownBy_putObj' W D o').size, fun i hi => cell_kept (hcell i hi) (grownBy_putObj' W D o') (fun r e => by cases e; exact ⟨o, hD, hc⟩)⟩
/-- sums of elements -/
def plusL (s : Int) (xs ys : List Int) : List Int := (List.range xs.length).map fun k => xs[k]?.getD 0 + s * ys[k]?.getD 0
theorem plusL_upto {xs ys : List Int} (ox : okB xs = true) (oy : okB ys = true) (s : Int) : (upto (pairF ox oy) xs.length).map (fun x => x.1.1 + s * x.1.2) = plusL s xs ys := by
  unfold upto plusL; rw [List.map_map]; rfl
theorem plus_el {s : Int} (hs : s = 1 ∨ s = -1) (x : EPair) : (-1000000000 ≤ s * x.1.2 ∧ s * x.1.2 ≤ 1000000000) ∧ -2000000000 ≤ x.1.1 + s * x.1.2 ∧ x.1.1 + s * x.1.2 ≤ 2000000000 := by
  have h1 := x.2.1
  have h2 := x.2.2
  rcases hs with rfl | rfl <;> omega
theorem plusL_bd {xs ys : List Int} (ox : okB xs = true) (oy : okB ys = true) {s : Int} (hs : s = 1 ∨ s = -1) : ∀ z ∈ plusL s xs ys, -9223372036854775808 ≤ z ∧ z ≤ 9223372036854775807 := by
  intro z hz
  rw [← plusL_upto ox oy s] at hz
  obtain ⟨x, _, rfl⟩ := List.mem_map.1 hz
  have := plus_el hs x
  show _ ≤ x.1.1 + s * x.1.2 ∧ x.1.1 + s * x.1.2 ≤ _
  omega
def plusV (s : Int) (xs ys : List Int) : List Int := if pairE xs ys = 0 then chkV (plusL s xs ys) else []
def plusE (s : Int) (xs ys : List Int) : Int := if pairE xs ys = 0 then errR (plusL s xs ys) else pairE xs ys

set_option maxHeartbeats 800000 in
theorem plusN_bad (a a' : Option Addr) (len cap len' cap' : Nat) (xs ys : List Int) (s : Int) (w : World) (hx : Rd w a len cap xs) (hy : Rd w a' len' cap' ys) (h : pairE xs ys ≠ 0) :
    Calls Tryd.prog 51 #[.slice a len cap, .slice a' len' cap', .int .i64 s] w (RowPost (plusV s xs ys) (plusE s xs ys) w) := by
  have HC := Lib.hid (checkPair_any a a' len cap len' cap' xs ys (w.alloc (.cells #[.int .i64 s] 3)) (hx.below (below_alloc _)) (hy.below (below_alloc _)))
  have HV := Lib.hid (show plusV s xs ys = [] from if_neg h)
  have HE := Lib.hid (show plusE s xs ys = pairE xs ys from if_neg h)
  obtain ⟨E, hE⟩ : ∃ E, E = pairE xs ys := ⟨_, rfl⟩
  rw [← hE] at HC HE h
  have hne : (E != 0) = true := by simpa using h
  clear hx hy hE h
  go_enter Tryd.func51, Tryd.ntmps51
  go_wp2_with fail
  refine HC.out.mono ?_
  rintro e w' ⟨rfl, hw⟩
  obtain rfl := hw
  go_wp2_with fail
  go_ret2
  rw [HV.out, HE.out]
  exact .mk (Rd.nil _) (below_alloc _)

set_option maxRecDepth 100000 in
set_option maxHeartbeats 3200000 in
theorem plusN_good (a a' : Option Addr) (len cap cap' : Nat) (xs ys : List Int) (s : Int) (w : World) (hs : s = 1 ∨ s = -1) (hx : Rd w a len cap xs) (hy : Rd w a' len cap' ys) (ox : okB xs = true) (oy : okB ys = true) :
    Calls Tryd.prog 51 #[.slice a len cap, .slice a' len cap', .int .i64 s] w (RowPost (chkV (plusL s xs ys)) (errR (plusL s xs ys)) w) := by
  have hpe : pairE xs ys = 0 := by unfold pairE; rw [if_pos ox, if_pos oy, if_pos (by rw [hx.len, hy.len])]
  have HC := Lib.hid (checkPair_any a a' len cap len cap' xs ys (w.alloc (.cells #[.int .i64 s] 3)) (hx.below (below_alloc _)) (hy.below (below_alloc _)))
  rw [hpe] at HC
  have h64 := okB_len ox
  have hxl := hx.len
  obtain ⟨i0, hi, hz0, hz1, hz2⟩ := info_parts infoI
  have HT := Lib.hid (Two.of hx hy ox oy)
  have HM := Lib.hid (plusL_upto ox oy s)
  rw [hxl] at HM
  have HBD := Lib.hid (plusL_bd ox oy hs)
  have hlen : len ≤ 64 := by omega
  have HSG := Lib.hid hs
  clear hpe hx hy h64 hxl hs
  refine (callsIn_wide (n := 3)).1 ?_
  refine callsIn_of_wp_marks Tryd.func51 rfl trivial ?_ rfl
  simp only [Tryd.ntmps51, List.size_toArray, List.length_cons, List.length_nil, Nat.reduceAdd, Nat.reduceSub, Array.replicate_succ, Array.replicate_zero, List.push_toArray, List.append_toArray, List.nil_append, List.cons_append]
  gi_wp2_with (first
    | (refine ⟨trivial, ?_⟩; gi_at_call 57; refine (callsIn_wide.2 HC.out).mono ?_; rintro e w' ⟨rfl, hw⟩; obtain rfl := hw)
    | (gi_at_make; refine wpListIn_make_own _ rfl _ _ 23 rfl (w.heap.size + 1) 3 i0 (.int .i64 0) 1 Tryd.underlying23 hi hz0 hz1 .i64 .i64 _ len rfl rfl (by omega) (by rw [hz2]; omega) (by unfold maxLen; omega) (by simp) ?_; intro w0 hown0 hgrow0)
    | (refine ⟨trivial, ?_⟩; gi_at_call 58; refine (pairs_in Fence.wide _ trivial rfl _ _ _ _ _ _ _).mono ?_; rintro e w' ⟨rfl, rfl⟩))
  have hsb : (w.alloc (.cells #[.int .i64 s] 3)).cell? ⟨w.heap.size, 0, none⟩ = some (.int .i64 s) := (Boxed.new w 3 (.int .i64 s)).cell
  have hz1' : (w.alloc (.cells #[.int .i64 s] 3)).heap.size = w.heap.size + 1 := by simp
  have hg0 : Below (w.heap.size + 1) (w.alloc (.cells #[.int .i64 s] 3)) w0 := (Below.refl _ _).grown hgrow0 (by simp) (by intro k hk; cases hk)
  have hs0 := hg0.size
  rw [hz1'] at hs0 hown0
  have bR := Boxed.new w0 23 (.slice (some ⟨w.heap.size + 1, 0, none⟩) 0 len)
  have bA := Boxed.new (w0.alloc (.cells #[.slice (some ⟨w.heap.size + 1, 0, none⟩) 0 len] 23)) 23 (.slice a len cap)
  have bB := Boxed.new ((w0.alloc (.cells #[.slice (some ⟨w.heap.size + 1, 0, none⟩) 0 len] 23)).alloc (.cells #[.slice a len cap] 23)) 23 (.slice a' len cap')
  simp only [World.size_alloc] at bA bB
  have hB0 : Below (w.heap.size + 1) (w.alloc (.cells #[.int .i64 s] 3)) (((w0.alloc (.cells #[.slice (some ⟨w.heap.size + 1, 0, none⟩) 0 len] 23)).alloc (.cells #[.slice a len cap] 23)).alloc (.cells #[.slice a' len cap'] 23)) := ((hg0.alloc hs0 _).alloc (by simp; omega) _).alloc (by simp; omega) _
  have hBW : Below w.heap.size w (((w0.alloc (.cells #[.slice (some ⟨w.heap.size + 1, 0, none⟩) 0 len] 23)).alloc (.cells #[.slice a len cap] 23)).alloc (.cells #[.slice a' len cap'] 23)) := (below_alloc _).trans (hB0.mono (Nat.le_succ _))
  refine wpIn_rangeFunc_ownG rfl (by decide) (gf := 65) (lb := #[.pointer (some ⟨w0.heap.size + 1, 0, none⟩), .pointer (some ⟨w0.heap.size + 1 + 1, 0, none⟩)]) rfl trivial (enters_of Tryd.func65 (by kernel_rfl) rfl)
    (pairs_stops Fence.wide _ trivial rfl (by decide) (w0.heap.size + 1) (w0.heap.size + 1 + 1) (w.heap.size + 1) a a' len cap cap' (pairF ox oy) (by omega) _ (by simp) (by simp) (by simp; omega) (bA.alloc _).cell bB.cell ((HT.out.below hBW).mono (Nat.le_succ _))) keepP_t (keepP_b (by simp; omega)) (Below.refl _ _) (fun _ => rfl)
    (fun pre W => (∃ v, Boxed W w0.heap.size 23 v ∧ W.ownsRow (w.heap.size + 1) 3 1 v pre.length (ci (pre.map fun x => x.1.1 + s * x.1.2)) ∧ True) ∧ (Boxed W (w0.heap.size + 1 + 1) 23 (.slice a' len cap') ∧ Below (w.heap.size + 1) (w.alloc (.cells #[.int .i64 s] 3)) W))
    (fun _ _ _ => False)
    (OwnFrom.and (Own.from (holdsRow_own (w.heap.size + 1) w0.heap.size 23 3 1 (fun pre : List EPair => pre.length) (fun pre => ci (pre.map fun x => x.1.1 + s * x.1.2)) (fun _ _ => True)) _) (OwnFrom.and (Own.from (boxed_own _ _ _) _) (ownFrom_below (by simp) (by simp; omega))))
    (fun _ _ _ _ _ hs _ _ => hs)
    ⟨⟨_, (bR.alloc _).alloc _, (((hown0.alloc _).alloc _).alloc _), trivial⟩, bB, hB0⟩
    (fun x => { tmps := #[.slice a len cap, .slice a' len cap', .int .i64 s, undef, undef, .pointer (some ⟨w.heap.size, 0, none⟩), .slice none 0 0, .int .i64 0, .int .i64 0, .pointer (some ⟨w0.heap.size, 0, none⟩), .int .i64 x.1.1, .int .i64 x.1.2, .slice a len cap, .slice a' len cap', .int .i64 0, .int .i64 0, .bool false, undef, .slice a len cap, .int .i64 (len : Int), .slice (some ⟨w.heap.size + 1, 0, none⟩) 0 len, .slice a len cap, .slice a' len cap', .func (.func 65) #[] #[.pointer (some ⟨w0.heap.size + 1, 0, none⟩), .pointer (some ⟨w0.heap.size + 1 + 1, 0, none⟩)], .int .i64 x.1.1, .int .i64 x.1.2, undef, undef, undef, undef, undef, undef, undef, undef, undef, undef, undef, undef], defers := [] }) ?assign ?body ?done ?stop
  case assign =>
    intro l x W K hK
    gi_wp2
    exact hK
  case body =>
    rintro l pre x W ⟨⟨v, hv, hrow, -⟩, hbb, hB⟩ hlt
    have hc := hv.cell
    have hsc : W.cell? ⟨w.heap.size, 0, none⟩ = some (.int .i64 s) := (hB.cell (p := ⟨w.heap.size, 0, none⟩) (Nat.lt_succ_self _)).trans hsb
    have hsz : w.heap.size + 1 ≤ W.heap.size := by have := hB.size; rw [hz1'] at this; exact this
    obtain ⟨⟨p1, p2⟩, p3, p4⟩ := plus_el HSG.out x
    have hw1 := in64 (x := s * x.1.2) (by omega) (by omega)
    have hw2 := in64 (x := x.1.1 + s * x.1.2) (by omega) (by omega)
    have HBB := Lib.hid hbb
    have HB := Lib.hid hB
    have HROW := Lib.hid hrow
    have HV := Lib.hid hv
    clear hbb hB hrow hv p1 p2 p3 p4
    gi_wp2_with (gi_at_builtin; refine wpListIn_append_own _ rfl _ _ 23 rfl (w.heap.size + 1) 3 i0 (.int .i64 0) 1 8 Tryd.underlying23 hi hz0 hz1 hz2 rfl (by decide) _ _ _ rfl (HROW.out.alloc _) ⟨W.heap.size, 0, none⟩ 1 1 [.int .i64 (x.1.1 + s * x.1.2)] rfl rfl (cell_one_new _ _ _) (by simp [Value.oneCell']) (by unfold maxLen; omega) (by omega) (by simp; omega) ?_; intro v' w1' hown' hgrow _; obtain ⟨g', cap2, rfl⟩ := ownsRow_succ hown'; obtain ⟨hv1, hv2, hr2, hk2, hb2⟩ := HV.out.appended (by decide) HROW.out hsz hs0 hown' hgrow; have hc1 := hv1.cell; have hf1 := hv1.frozen)
    have hbb2 := (((HBB.out.alloc _).kept hgrow (HBB.out.not_row (by decide) HROW.out)).other (B' := w0.heap.size) (by omega) (.slice (some ⟨g', 0, none⟩) (pre.length + 1) cap2))
    refine ⟨hk2.from _, ⟨hb2, fun _ => hbb2.cell⟩, ⟨⟨_, hv2, ?_, trivial⟩, hbb2, HB.out.trans hb2⟩⟩
    simpa [ci] using hr2
  case done =>
    rintro D zs W hD rfl ⟨⟨v, hv, hrow, -⟩, hbb, hB⟩ hK
    have hc := hv.cell
    rw [upto_length, HM.out] at hrow
    obtain ⟨aR, cR, rfl, hrd⟩ := Rd.of_owns hrow (by rw [← HM.out, List.length_map, upto_length]) HBD.out
    have hcR := hrd.cap
    have HCK := Lib.hid (checkedN_any aR len cR _ W hrd)
    have HB := Lib.hid hB
    clear hrow hrd hbb hB hv
    gi_wp2_with (refine ⟨trivial, ?_⟩; gi_at_call 52; refine (callsIn_wide.2 HCK.out).mono ?_; rintro e w' ⟨a2, n2, cap2, rfl, hr2, hb'⟩)
    have hK2 : w'.heap[D]? = some (.deferred (some [])) := by rw [hb'.block D (Array.getElem?_eq_some_iff.1 hK).1]; exact hK
    refine ⟨by simp, .inl ⟨_, _, rfl, run_takeDeferred hK2, ?_⟩⟩
    have hBx : Below w.heap.size w w' := ((below_alloc _).trans (HB.out.mono (Nat.le_succ _))).trans (hb'.mono (by have := HB.out.size; rw [hz1'] at this; omega))
    have hBy := belowK_b (w := w) (Nat.le_refl _) w' D _ (.deferred none) (by simp at hD; omega) hK2 rfl rfl
    exact ⟨.tuple #[.slice a2 n2 cap2, .int .i64 (errR (plusL s xs ys))], by simp [results, Tryd.f51, go_sem], a2, n2, cap2, rfl, hr2.put hK2 rfl _, hBx.trans hBy⟩
  case stop =>
    rintro D c pre W _ _ h _
    exact h.elim

theorem pairE_cases {xs ys : List Int} (h : pairE xs ys = 0) : okB xs = true ∧ okB ys = true ∧ xs.length = ys.length := by
  unfold pairE at h
  cases ox : okB xs with
  | false => rw [if_neg (by simp [ox])] at h; cases h
  | true =>
    rw [if_pos ox] at h
    cases oy : okB ys with
    | false => rw [if_neg (by simp [oy])] at h; cases h
    | true =>
      rw [if_pos oy] at h
      by_cases hl : xs.length = ys.length
      · exact ⟨rfl, rfl, hl⟩
      · rw [if_neg hl] at h; cases h
theorem plusN_any (a a' : Option Addr) (len cap len' cap' : Nat) (xs ys : List Int) (s : Int) (w : World) (hs : s = 1 ∨ s = -1) (hx : Rd w a len cap xs) (hy : Rd w a' len' cap' ys) :
    Calls Tryd.prog 51 #[.slice a len cap, .slice a' len' cap', .int .i64 s] w (RowPost (plusV s xs ys) (plusE s xs ys) w) := by
  by_cases h : pairE xs ys = 0
  · obtain ⟨ox, oy, hl⟩ := pairE_cases h
    obtain rfl : len = len' := by rw [← hx.len, ← hy.len]; exact hl
    unfold plusV plusE
    rw [if_pos h, if_pos h]
    exact plusN_good a a' len cap cap' xs ys s w hs hx hy ox oy
  · exact plusN_bad a a' len cap len' cap' xs ys s w hx hy h
theorem addRow_any (a a' : Option Addr) (len cap len' cap' : Nat) (xs ys : List Int) (w : World) (hx : Rd w a len cap xs) (hy : Rd w a' len' cap' ys) :
    Calls Tryd.prog 23 #[.slice a len cap, .slice a' len' cap'] w (RowPost (plusV 1 xs ys) (plusE 1 xs ys) w) := by
  have HP := Lib.hid (plusN_any a a' len cap len' cap' xs ys 1 w (.inl rfl) hx hy)
  have hc := hx.cap
  have hc' := hy.cap
  clear hx hy
  go_enter Tryd.func23, Tryd.ntmps23
  go_wp2_with fail
  refine HP.out.mono ?_
  rintro e w' ⟨a2, n2, cap2, rfl, hr2, hb2⟩
  have HR2 := Lib.hid hr2
  have HB2 := Lib.hid hb2
  clear hr2 hb2
  go_wp2_with fail
  go_ret2
  exact .mk HR2.out HB2.out
theorem subRow_any (a a' : Option Addr) (len cap len' cap' : Nat) (xs ys : List Int) (w : World) (hx : Rd w a len cap xs) (hy : Rd w a' len' cap' ys) :
    Calls Tryd.prog 24 #[.slice a len cap, .slice a' len' cap'] w (RowPost (plusV (-1) xs ys) (plusE (-1) xs ys) w) := by
  have HP := Lib.hid (plusN_any a a' len cap len' cap' xs ys (-1) w (.inr rfl) hx hy)
  have hc := hx.cap
  have hc' := hy.cap
  clear hx hy
  go_enter Tryd.func24, Tryd.ntmps24
  go_wp2_with fail
  refine HP.out.mono ?_
  rintro e w' ⟨a2, n2, cap2, rfl, hr2, hb2⟩
  have HR2 := Lib.hid hr2
  have HB2 := Lib.hid hb2
  clear hr2 hb2
  go_wp2_with fail
  go_ret2
  exact .mk HR2.out HB2.out
end Go.Proofs.YtgcddiakdmddjaaDoor
