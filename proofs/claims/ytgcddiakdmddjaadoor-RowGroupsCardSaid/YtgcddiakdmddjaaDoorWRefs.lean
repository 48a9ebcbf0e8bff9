/-
  The reference's Neg, Primitive, Add, Sub, Scale.
-/
import Derived.Test.YtgcddiakdmddjaaDoorWRefComb
import Derived.Test.YtgcddiakdmddjaaDoorWComp2
namespace Go.Proofs.YtgcddiakdmddjaaDoor
open Go.RowKit

theorem neg_bd {zs : List Int} (ok : okB zs = true) : ∀ z ∈ zs.map (fun z => -z), -9223372036854775808 ≤ z ∧ z ≤ 9223372036854775807 := by
  intro z hz
  obtain ⟨y, hy, rfl⟩ := List.mem_map.1 hz
  have := okB_ent ok hy
  show _ ≤ -y ∧ -y ≤ _
  omega

set_option maxHeartbeats 1600000 in
set_option maxRecDepth 100000 in
theorem negR_any (a : Option Addr) (n cap : Nat) (zs : List Int) (w : World) (h : Rd w a n cap zs) (ok : okB zs = true) :
    Calls Tryd.prog 28 #[.slice a n cap] w fun e w' => ∃ a n cap, e = .returned (.slice a n cap) ∧ Rd w' a n cap (zs.map (fun z => -z)) ∧ Below w.heap.size w w' := by
  have hc := h.cap
  have hl := h.len
  have h64 : n ≤ 64 := by rw [← hl]; exact okB_len ok
  obtain ⟨i0, hi, hz0, hz1, hz2⟩ := info_parts infoI
  rcases h.ways with ⟨rfl, rfl⟩ | ⟨b, off, rfl, hbw, hcell⟩
  · clear h hl ok
    go_enter Tryd.func28, Tryd.ntmps28
    go_wp2_with fail
    refine wp_loop_rounds 1 ?_
    rw [rounds_succ]
    go_wp2_with fail
    go_ret
    exact ⟨_, _, _, rfl, Rd.nil _, Below.refl _ _⟩
  · have HX := Lib.hid hcell
    have HL := Lib.hid hl
    have HOK := Lib.hid ok
    clear h hl ok hcell
    go_enter Tryd.func28, Tryd.ntmps28
    go_wp2_with fail
    go_loopw [3, 4] (fun v iv wr => ∃ (i : Nat) (vo : Option Addr) (vc : Nat), iv = .int .i64 i ∧ i ≤ n ∧ v = .slice vo i vc ∧ wr.ownsRow w.heap.size 3 1 (.slice vo i vc) i (ci ((zs.take i).map (fun z => -z))) ∧ Below w.heap.size w wr) (fun _ iv _ => n - (intOf iv).toNat)
    case atStart => exact ⟨0, none, 0, rfl, Nat.zero_le _, rfl, World.ownsRow_nil _ _ _ _, Below.refl _ _⟩
    case round =>
      obtain ⟨i, vo, vc, rfl, hiL, rfl, hown, hbel⟩ := hrel
      have HO3 := Lib.hid hown
      have HBL := Lib.hid hbel
      have hs3 := hbel.size
      clear hown hbel
      by_cases hlt : i < n
      · have hil : i < zs.length := by rw [HL.out]; exact hlt
        have hcl : wr.cell? ⟨b, off + i, none⟩ = some (.int .i64 (zs[i]'hil)) := (HBL.out.cell (p := ⟨b, off + i, none⟩) hbw).trans (HX.out i hil)
        have hze := okB_at HOK.out i hil
        have hnx : (zs.take (i + 1)).map (fun z => -z) = (zs.take i).map (fun z => -z) ++ [-(zs[i])] := by rw [List.take_succ_eq_append_getElem hil, List.map_append]; rfl
        obtain ⟨z, hz⟩ : ∃ z, z = zs[i] := ⟨_, rfl⟩
        rw [← hz] at hcl hze hnx
        have HNX := Lib.hid hnx
        clear hz hnx
        have hwr := in64 (x := -z) (by omega) (by omega)
        go_wp2_with (at_builtin; refine wpList_append_own _ rfl _ _ 23 rfl w.heap.size 3 i0 (.int .i64 0) 1 8 Tryd.underlying23 hi hz0 hz1 hz2 rfl (by decide) _ _ _ rfl (World.ownsRow.alloc HO3.out _) ⟨wr.heap.size, 0, none⟩ 1 1 [.int .i64 (-z)] rfl rfl (cell_one_new _ _ _) (by simp [Value.oneCell']) (by unfold maxLen; omega) (by omega) (by simp; omega) ?_; intro v' w4 hown' hgrow _)
        · skip
          obtain ⟨g', cap', rfl⟩ := own_someI hown' (by omega)
          have HO4 := Lib.hid (show w4.ownsRow w.heap.size 3 1 (.slice (some ⟨g', 0, none⟩) (i + 1) cap') (i + 1) (ci ((zs.take (i + 1)).map (fun z => -z))) by rw [HNX.out, ci_append]; exact hown')
          have HB4 := Lib.hid (show Below w.heap.size w w4 from (HBL.out.alloc hs3 _).grown hgrow (by simp; omega) (by intro q hq; exact (World.ownsRow.lt HO3.out q hq).1))
          clear hown' hgrow
          go_wp2_with fail
          go_roundw
          case rel => exact ⟨i + 1, _, _, by go_num, by omega, rfl, HO4.out, HB4.out⟩
          case measure => simp [intOf]; omega
      · obtain rfl : i = n := by omega
        have hown := HO3.out
        rw [List.take_of_length_le (by rw [HL.out]; omega)] at hown
        obtain ⟨a2, c2, e2, hrd⟩ := Rd.of_owns hown (by rw [List.length_map]; exact HL.out) (neg_bd HOK.out)
        cases e2
        have HRD := Lib.hid hrd
        clear hown hrd
        go_wp2_with fail
        go_ret
        exact ⟨_, _, _, rfl, HRD.out, HBL.out⟩

set_option maxHeartbeats 1600000 in
set_option maxRecDepth 100000 in
theorem primR_any (a : Option Addr) (n cap : Nat) (zs : List Int) (c : Nat) (hcc : c = gcdL zs) (hc0 : 0 < c) (w : World) (h : Rd w a n cap zs) (ok : okB zs = true) :
    Calls Tryd.prog 44 #[.slice a n cap] w fun e w' => ∃ a n cap, e = .returned (.slice a n cap) ∧ Rd w' a n cap (zs.map (fun z => z.tdiv (c : Int))) ∧ Below w.heap.size w w' := by
  have hc := h.cap
  have hl := h.len
  have h64 : n ≤ 64 := by rw [← hl]; exact okB_len ok
  obtain ⟨i0, hi, hz0, hz1, hz2⟩ := info_parts infoI
  have hg := contentR_any a n cap zs w h ok
  rw [← hcc] at hg
  have HG := Lib.hid hg
  have hcz : ((c : Int) == 0) = false := by rw [beq_eq_false_iff_ne]; omega
  have hcz2 : (c : Int) ≠ 0 := by omega
  clear hg hcc hc0
  rcases h.ways with ⟨rfl, rfl⟩ | ⟨b, off, rfl, hbw, hcell⟩
  · clear h hl ok
    go_enter Tryd.func44, Tryd.ntmps44
    go_wp2_with fail
    refine HG.out.mono ?_
    rintro e w1 ⟨rfl, hb1⟩
    have HB1 := Lib.hid hb1
    clear hb1
    go_wp2_with fail
    refine wp_loop_rounds 1 ?_
    rw [rounds_succ]
    go_wp2_with fail
    go_ret
    exact ⟨_, _, _, rfl, Rd.nil _, HB1.out⟩
  · have HX := Lib.hid hcell
    have HL := Lib.hid hl
    have HOK := Lib.hid ok
    clear h hl ok hcell
    go_enter Tryd.func44, Tryd.ntmps44
    go_wp2_with fail
    refine HG.out.mono ?_
    rintro e w1 ⟨rfl, hb1⟩
    have HB1 := Lib.hid hb1
    clear hb1
    go_wp2_with fail
    go_loopw [4, 5] (fun v iv wr => ∃ (i : Nat) (vo : Option Addr) (vc : Nat), iv = .int .i64 i ∧ i ≤ n ∧ v = .slice vo i vc ∧ wr.ownsRow w.heap.size 3 1 (.slice vo i vc) i (ci ((zs.take i).map (fun z => z.tdiv (c : Int)))) ∧ Below w.heap.size w wr) (fun _ iv _ => n - (intOf iv).toNat)
    case atStart => exact ⟨0, none, 0, rfl, Nat.zero_le _, rfl, World.ownsRow_nil _ _ _ _, HB1.out⟩
    case round =>
      obtain ⟨i, vo, vc, rfl, hiL, rfl, hown, hbel⟩ := hrel
      have HO3 := Lib.hid hown
      have HBL := Lib.hid hbel
      have hs3 := hbel.size
      clear hown hbel
      by_cases hlt : i < n
      · have hil : i < zs.length := by rw [HL.out]; exact hlt
        have hcl : wr.cell? ⟨b, off + i, none⟩ = some (.int .i64 (zs[i]'hil)) := (HBL.out.cell (p := ⟨b, off + i, none⟩) hbw).trans (HX.out i hil)
        have hze := okB_at HOK.out i hil
        have hnx : (zs.take (i + 1)).map (fun z => z.tdiv (c : Int)) = (zs.take i).map (fun z => z.tdiv (c : Int)) ++ [(zs[i]).tdiv (c : Int)] := by rw [List.take_succ_eq_append_getElem hil, List.map_append]; rfl
        obtain ⟨z, hz⟩ : ∃ z, z = zs[i] := ⟨_, rfl⟩
        rw [← hz] at hcl hze hnx
        have HNX := Lib.hid hnx
        clear hz hnx
        have hpr := tdiv_bd z c hze.1 hze.2
        obtain ⟨q, hq⟩ : ∃ q, q = z.tdiv (c : Int) := ⟨_, rfl⟩
        rw [← hq] at hpr HNX
        have hq' : z.tdiv (c : Int) = q := hq.symm
        have hwr := in64 (x := q) (by omega) (by omega)
        clear hq
        go_wp2_with (at_builtin; refine wpList_append_own _ rfl _ _ 23 rfl w.heap.size 3 i0 (.int .i64 0) 1 8 Tryd.underlying23 hi hz0 hz1 hz2 rfl (by decide) _ _ _ rfl (World.ownsRow.alloc HO3.out _) ⟨wr.heap.size, 0, none⟩ 1 1 [.int .i64 q] rfl rfl (cell_one_new _ _ _) (by simp [Value.oneCell']) (by unfold maxLen; omega) (by omega) (by simp; omega) ?_; intro v' w4 hown' hgrow _)
        · skip
          obtain ⟨g', cap', rfl⟩ := own_someI hown' (by omega)
          have HO4 := Lib.hid (show w4.ownsRow w.heap.size 3 1 (.slice (some ⟨g', 0, none⟩) (i + 1) cap') (i + 1) (ci ((zs.take (i + 1)).map (fun z => z.tdiv (c : Int)))) by rw [HNX.out, ci_append]; exact hown')
          have HB4 := Lib.hid (show Below w.heap.size w w4 from (HBL.out.alloc hs3 _).grown hgrow (by simp; omega) (by intro q hq; exact (World.ownsRow.lt HO3.out q hq).1))
          clear hown' hgrow
          go_wp2_with fail
          go_roundw
          case rel => exact ⟨i + 1, _, _, by go_num, by omega, rfl, HO4.out, HB4.out⟩
          case measure => simp [intOf]; omega
      · obtain rfl : i = n := by omega
        have hown := HO3.out
        rw [List.take_of_length_le (by rw [HL.out]; omega)] at hown
        obtain ⟨a2, c2, e2, hrd⟩ := Rd.of_owns hown (by rw [List.length_map]; exact HL.out) (quo_bd HOK.out)
        cases e2
        have HRD := Lib.hid hrd
        clear hown hrd
        go_wp2_with fail
        go_ret
        exact ⟨_, _, _, rfl, HRD.out, HBL.out⟩

theorem cols_two (e1 e2 : Ent) (s : Int) : cols [e1, e2] [1, s] e1.zs.length = plusL s e1.zs e2.zs := by
  unfold cols plusL
  refine List.map_congr_left fun i _ => ?_
  show (0 + e1.zs[i]?.getD 0 * 1) + e2.zs[i]?.getD 0 * s = e1.zs[i]?.getD 0 + s * e2.zs[i]?.getD 0
  rw [Int.mul_comm s]; omega
theorem cols_one (e : Ent) (k : Int) : cols [e] [k] e.zs.length = e.zs.map (k * ·) := by
  unfold cols
  apply List.ext_getElem
  · simp
  · intro i h1 h2
    simp at h1
    simp only [List.getElem_map, List.getElem_range]
    show 0 + e.zs[i]?.getD 0 * k = k * e.zs[i]
    rw [List.getElem?_eq_getElem h1, Option.getD_some, Int.mul_comm k]; omega
theorem plusL_len (s : Int) (xs ys : List Int) : (plusL s xs ys).length = xs.length := by simp [plusL]
theorem all_ok {l : List Int} (h : l.length ≤ 64) : l.all entB = okB l := by unfold okB; simp [h]

/-- the literal of the factors -/
theorem Rd.fac (w : World) (l : List Int) (cs : Array Value) (T : TypeId) (hcs : cs = (ci l).toArray) (ok : okB l = true) : Rd (w.alloc (.cells cs T)) (some ⟨w.heap.size, 0, none⟩) l.length l.length l :=
  Rd.lit w l cs T hcs (okB_bd ok) (by have := okB_len ok; omega)

theorem comb2 (a a' : Option Addr) (n cap cap' : Nat) (xs ys : List Int) (s : Int) (w : World) (hs : s = 1 ∨ s = -1) (hx : Rd w a n cap xs) (hy : Rd w a' n cap' ys) (ox : okB xs = true) (oy : okB ys = true) :
    Calls Tryd.prog 33 #[.slice (some ⟨w.heap.size, 0, none⟩) 2 2, .slice (some ⟨w.heap.size + 1, 0, none⟩) 2 2] ((w.alloc (.cells #[.slice a n cap, .slice a' n cap'] 23)).alloc (.cells #[.int .i64 1, .int .i64 s] 3)) (CombPost (plusL s xs ys) (okB (plusL s xs ys)) w) := by
  have hm := RdM.lit w [⟨a, n, cap, xs⟩, ⟨a', n, cap', ys⟩] #[.slice a n cap, .slice a' n cap'] 23 rfl (fun i hi => by
    match i, hi with
    | 0, _ => exact hx
    | 1, _ => exact hy) (by simp)
  have hf := Rd.fac (w.alloc (.cells #[.slice a n cap, .slice a' n cap'] 23)) [1, s] #[.int .i64 1, .int .i64 s] 3 rfl (by rcases hs with rfl | rfl <;> decide)
  rw [World.size_alloc] at hf
  have h64 : n ≤ 64 := by rw [← hx.len]; exact okB_len ox
  have h := combR_any _ _ _ _ n _ _ _ _ _ (hm.below (below_alloc _)) hf ⟨fun i hi => by
    match i, hi with
    | 0, _ => exact ox
    | 1, _ => exact oy, fun i hi => by
    match i, hi with
    | 0, _ => rfl
    | 1, _ => rfl⟩ (by rcases hs with rfl | rfl <;> decide) (by simp) (by simp) h64
  have e := cols_two ⟨a, n, cap, xs⟩ ⟨a', n, cap', ys⟩ s
  have e' : cols [⟨a, n, cap, xs⟩, ⟨a', n, cap', ys⟩] [1, s] n = plusL s xs ys := by rw [← hx.len]; exact e
  rw [e', all_ok (by rw [plusL_len, hx.len]; exact h64)] at h
  refine h.mono ?_
  rintro e w' ⟨a2, n2, c2, rfl, hr, hb⟩
  exact ⟨a2, n2, c2, rfl, hr, ((below_alloc _).trans ((below_alloc _).mono (by simp))).trans (hb.mono (by simp; omega))⟩
theorem comb1 (a : Option Addr) (n cap : Nat) (xs : List Int) (k : Int) (w : World) (hx : Rd w a n cap xs) (ox : okB xs = true) (hk : entB k = true) :
    Calls Tryd.prog 33 #[.slice (some ⟨w.heap.size, 0, none⟩) 1 1, .slice (some ⟨w.heap.size + 1, 0, none⟩) 1 1] ((w.alloc (.cells #[.slice a n cap] 23)).alloc (.cells #[.int .i64 k] 3)) (CombPost (xs.map (k * ·)) (okB (xs.map (k * ·))) w) := by
  have hm := RdM.lit w [⟨a, n, cap, xs⟩] #[.slice a n cap] 23 rfl (fun i hi => by
    match i, hi with
    | 0, _ => exact hx) (by simp)
  have okk : okB [k] = true := by unfold okB; simp [hk]
  have hf := Rd.fac (w.alloc (.cells #[.slice a n cap] 23)) [k] #[.int .i64 k] 3 rfl okk
  rw [World.size_alloc] at hf
  have h64 : n ≤ 64 := by rw [← hx.len]; exact okB_len ox
  have h := combR_any _ _ _ _ n _ _ _ _ _ (hm.below (below_alloc _)) hf ⟨fun i hi => by
    match i, hi with
    | 0, _ => exact ox, fun i hi => by
    match i, hi with
    | 0, _ => rfl⟩ okk (by simp) (by simp) h64
  have e' : cols [⟨a, n, cap, xs⟩] [k] n = xs.map (k * ·) := by rw [← hx.len]; exact cols_one ⟨a, n, cap, xs⟩ k
  rw [e', all_ok (by rw [List.length_map, hx.len]; exact h64)] at h
  refine h.mono ?_
  rintro e w' ⟨a2, n2, c2, rfl, hr, hb⟩
  exact ⟨a2, n2, c2, rfl, hr, ((below_alloc _).trans ((below_alloc _).mono (by simp))).trans (hb.mono (by simp; omega))⟩

theorem addR5 (a a' : Option Addr) (n cap cap' : Nat) (xs ys : List Int) (w : World) (hx : Rd w a n cap xs) (hy : Rd w a' n cap' ys) (ox : okB xs = true) (oy : okB ys = true) :
    Calls Tryd.prog 30 #[.slice a n cap, .slice a' n cap'] w (CombPost (plusL 1 xs ys) (okB (plusL 1 xs ys)) w) := by
  have HP := Lib.hid (comb2 a a' n cap cap' xs ys 1 w (.inl rfl) hx hy ox oy)
  have hc := hx.cap
  have hc' := hy.cap
  clear hx hy ox oy
  go_enter Tryd.func30, Tryd.ntmps30
  go_wp2_with fail
  refine HP.out.mono ?_
  rintro e w' ⟨a2, n2, cap2, rfl, hr2, hb2⟩
  have HR2 := Lib.hid hr2
  have HB2 := Lib.hid hb2
  clear hr2 hb2
  go_wp2_with fail
  go_ret2
  exact ⟨_, _, _, rfl, HR2.out, HB2.out⟩

theorem subR5 (a a' : Option Addr) (n cap cap' : Nat) (xs ys : List Int) (w : World) (hx : Rd w a n cap xs) (hy : Rd w a' n cap' ys) (ox : okB xs = true) (oy : okB ys = true) :
    Calls Tryd.prog 31 #[.slice a n cap, .slice a' n cap'] w (CombPost (plusL (-1) xs ys) (okB (plusL (-1) xs ys)) w) := by
  have HP := Lib.hid (comb2 a a' n cap cap' xs ys (-1) w (.inr rfl) hx hy ox oy)
  have hc := hx.cap
  have hc' := hy.cap
  clear hx hy ox oy
  go_enter Tryd.func31, Tryd.ntmps31
  go_wp2_with fail
  refine HP.out.mono ?_
  rintro e w' ⟨a2, n2, cap2, rfl, hr2, hb2⟩
  have HR2 := Lib.hid hr2
  have HB2 := Lib.hid hb2
  clear hr2 hb2
  go_wp2_with fail
  go_ret2
  exact ⟨_, _, _, rfl, HR2.out, HB2.out⟩
end Go.Proofs.YtgcddiakdmddjaaDoor
