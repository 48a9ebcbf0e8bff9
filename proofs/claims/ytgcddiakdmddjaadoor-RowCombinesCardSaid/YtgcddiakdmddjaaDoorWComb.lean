/-
  Combine.
-/
import Derived.Test.YtgcddiakdmddjaaDoorWRefComb
namespace Go.Proofs.YtgcddiakdmddjaaDoor
open Go.RowKit

/-- the cells of a row of parts -/
def pc : List (Int × Int) → List Value
  | [] => []
  | x :: l => .int .i64 x.1 :: .int .i64 x.2 :: pc l
theorem pc_len : ∀ P : List (Int × Int), (pc P).length = P.length * 2
  | [] => rfl
  | x :: l => by show (pc l).length + 1 + 1 = (l.length + 1) * 2; rw [pc_len l]; omega
theorem pc_at : ∀ (P : List (Int × Int)) (j : Nat) (h : j < P.length), (pc P)[j * 2]? = some (.int .i64 (P[j]'h).1) ∧ (pc P)[j * 2 + 1]? = some (.int .i64 (P[j]'h).2)
  | [], j, h => absurd h (Nat.not_lt_zero _)
  | x :: l, 0, _ => ⟨rfl, rfl⟩
  | x :: l, j + 1, h => by
    have ih := pc_at l j (by simpa using h)
    have e : (j + 1) * 2 = j * 2 + 1 + 1 := by omega
    rw [e]
    exact ⟨ih.1, ih.2⟩
theorem pc_set : ∀ (P : List (Int × Int)) (j : Nat) (u l : Int), ((pc P).set (j * 2) (.int .i64 u)).set (j * 2 + 1) (.int .i64 l) = pc (P.set j (u, l))
  | [], j, u, l => by simp [pc]
  | x :: p, 0, u, l => rfl
  | x :: p, j + 1, u, l => by
    have ih := pc_set p j u l
    have e : (j + 1) * 2 = j * 2 + 1 + 1 := by omega
    rw [e]
    show .int .i64 x.1 :: .int .i64 x.2 :: ((pc p).set (j * 2) (.int .i64 u)).set (j * 2 + 1) (.int .i64 l) = _
    rw [ih]; rfl
theorem pc_rep : ∀ n : Nat, pc (List.replicate n (0, 0)) = List.replicate (n * 2) (.int .i64 0)
  | 0 => rfl
  | n + 1 => by
    have e : (n + 1) * 2 = n * 2 + 1 + 1 := by omega
    rw [e, List.replicate_succ, List.replicate_succ, List.replicate_succ]
    show .int .i64 0 :: .int .i64 0 :: pc (List.replicate n (0, 0)) = _
    rw [pc_rep n]
theorem made_two (n : Nat) : (madeCells #[.int .i64 0, .int .i64 0] n).toList = List.replicate n (.int .i64 0) := by
  refine List.ext_getElem (by simp [size_madeCells]) fun i h1 h2 => ?_
  simp only [madeCells, Array.toList_map, List.getElem_map, List.getElem_replicate]
  have : ∀ k : Nat, (#[Value.int .i64 0, Value.int .i64 0] : Array Value)[k % 2]! = .int .i64 0 := by
    intro k
    rcases (by omega : k % 2 = 0 ∨ k % 2 = 1) with h | h <;> rw [h] <;> rfl
  exact this _
theorem infoP : (Tryd.prog.info? 68).map (fun i => (i.zero, i.size, i.bytes)) = some (some (.agg #[.int .i64 0, .int .i64 0]), 2, 16) := by kernel_rfl
theorem cols_at (es : List Ent) (fs : List Int) (L j : Nat) (h : j < (cols es fs L).length) : (cols es fs L)[j] = col es fs j := by
  simp [cols]
/-- parts of the first m products of column k -/
def PV (x : Int × Int) (es : List Ent) (fs : List Int) (k m : Nat) : Prop :=
  x.1 * 1000000000 + x.2 = sumTo (fun r => at2 es r k * fs[r]?.getD 0) m ∧ -(1000000000 * (m : Int)) ≤ x.1 ∧ x.1 ≤ 1000000000 * (m : Int) ∧ -(1000000000 * (m : Int)) ≤ x.2 ∧ x.2 ≤ 1000000000 * (m : Int)
def PInv (P : List (Int × Int)) (es : List Ent) (fs : List Int) (L i j : Nat) : Prop := P.length = L ∧ ∀ k (h : k < P.length), PV (P[k]'h) es fs k (if k < j then i + 1 else i)
theorem pinv_zero (es : List Ent) (fs : List Int) (L : Nat) : PInv (List.replicate L (0, 0)) es fs L 0 0 := by
  refine ⟨by simp, fun k h => ?_⟩
  rw [List.getElem_replicate, if_neg (Nat.not_lt_zero _)]
  exact ⟨rfl, by simp, by simp, by simp, by simp⟩
theorem pinv_next {P : List (Int × Int)} {es : List Ent} {fs : List Int} {L i : Nat} (h : PInv P es fs L i L) : PInv P es fs L (i + 1) 0 := by
  refine ⟨h.1, fun k hk => ?_⟩
  have := h.2 k hk
  rw [if_pos (by rw [← h.1]; exact hk)] at this
  rw [if_neg (Nat.not_lt_zero _)]; exact this
theorem pinv_step {P : List (Int × Int)} {es : List Ent} {fs : List Int} {L i j : Nat} (h : PInv P es fs L i j) (hj : j < P.length) {z f q r : Int} (hz : at2 es i j = z) (hf : fs[i]?.getD 0 = f) (hs : Spl (f * z) q r) :
    PInv (P.set j ((P[j]).1 + q, (P[j]).2 + r)) es fs L i (j + 1) := by
  refine ⟨by rw [List.length_set]; exact h.1, fun k hk => ?_⟩
  have hk' : k < P.length := by rw [List.length_set] at hk; exact hk
  have hp := h.2 k hk'
  by_cases e : k = j
  · subst e
    rw [List.getElem_set_self, if_pos (Nat.lt_succ_self _)]
    rw [if_neg (Nat.lt_irrefl _)] at hp
    obtain ⟨k1, k2, k3, k4, k5⟩ := hp
    obtain ⟨-, -, hv, q1, q2, r1, r2⟩ := hs
    have hsum : sumTo (fun r => at2 es r k * fs[r]?.getD 0) (i + 1) = sumTo (fun r => at2 es r k * fs[r]?.getD 0) i + f * z := by
      show _ + at2 es i k * fs[i]?.getD 0 = _
      rw [hz, hf, Int.mul_comm]
    refine ⟨?_, ?_, ?_, ?_, ?_⟩
    · rw [hsum, ← k1, ← hv]; show (_ + q) * 1000000000 + (_ + r) = _; omega
    · show _ ≤ _ + q; push_cast; omega
    · show _ + q ≤ _; push_cast; omega
    · show _ ≤ _ + r; push_cast; omega
    · show _ + r ≤ _; push_cast; omega
  · rw [List.getElem_set_ne (Ne.symm e)]
    by_cases hlt : k < j
    · rw [if_pos hlt] at hp; rw [if_pos (by omega)]; exact hp
    · rw [if_neg hlt] at hp; rw [if_neg (by omega)]; exact hp
theorem allE_drop_ok {es : List Ent} {L : Nat} (h : RowsOk es L) : ∀ k, k ≤ es.length → allE (L : Int) (es.drop (es.length - k)) = 0 := by
  intro k
  induction k with
  | zero => intro _; rw [Nat.sub_zero, List.drop_length]; rfl
  | succ k ih =>
    intro hk
    have hlt : es.length - (k + 1) < es.length := by omega
    rw [allE_drop hlt, if_pos (h.ok _ hlt), if_pos (by rw [h.len _ hlt]), show es.length - (k + 1) + 1 = es.length - k by omega]
    exact ih (by omega)
theorem allE_ok {es : List Ent} {L : Nat} (h : RowsOk es L) : allE (L : Int) es = 0 := by
  have := allE_drop_ok h es.length (Nat.le_refl _)
  rw [Nat.sub_self, List.drop_zero] at this; exact this
set_option maxHeartbeats 800000 in
theorem addP_at (B o : Nat) (U L P q r : Int) (w : World) (hs : Spl P q r) (c0 : w.cell? ⟨B, o, none⟩ = some (.int .i64 U)) (c1 : w.cell? ⟨B, o + 1, none⟩ = some (.int .i64 L))
    (f0 : w.frozen? ⟨B, o, none⟩ = false) (f1 : w.frozen? ⟨B, o + 1, none⟩ = false) (u1 : -1000000000000 ≤ U) (u2 : U ≤ 1000000000000) (l1 : -1000000000000 ≤ L) (l2 : L ≤ 1000000000000) :
    Calls Tryd.prog 53 #[.pointer (some ⟨B, o, none⟩), .int .i64 P] w fun e w' => e = .returned (.tuple #[]) ∧ w' = (w.setCell ⟨B, o, none⟩ (.int .i64 (U + q))).setCell ⟨B, o + 1, none⟩ (.int .i64 (L + r)) := by
  obtain ⟨hq, hr, hv, q1, q2, r1, r2⟩ := hs
  have HV := Lib.hid hv
  have w1 := in64 (x := U + q) (by omega) (by omega)
  have w2 := in64 (x := L + r) (by omega) (by omega)
  have w3 := in64 (x := q) (by omega) (by omega)
  clear hv
  go_enter Tryd.func53, Tryd.ntmps53
  go_wp2
  refine bodyPost_end (results_none rfl _ _ _) rfl ?_
  exact ⟨rfl, rfl⟩
def combV (es : List Ent) (fs : List Int) (L : Nat) : List Int := if (cols es fs L).all entB = true then cols es fs L else []
def combE (es : List Ent) (fs : List Int) (L : Nat) : Int := if (cols es fs L).all entB = true then 0 else 4

set_option maxHeartbeats 3200000 in
set_option maxRecDepth 100000 in
theorem combN_good (A : Option Addr) (N C : Nat) (es : List Ent) (L : Nat) (fa : Option Addr) (fc : Nat) (fs : List Int) (w : World) (h : RdM w A N C es) (hf : Rd w fa N fc fs) (hes : RowsOk es L) (hfs : okB fs = true) (hN : 0 < N) (hL : L ≤ 64) :
    Calls Tryd.prog 32 #[.slice A N C, .slice fa N fc] w (RowPost (combV es fs L) (combE es fs L) w) := by
  have hca := checkAll_any A N C es (L : Int) w h
  rw [allE_ok hes] at hca
  have HCA := Lib.hid hca
  have hck := checkN_any fa N fc fs w hf
  rw [errR_ok hfs] at hck
  have HCK := Lib.hid hck
  clear hca hck
  have hc := h.cap
  have hcf := hf.cap
  have hfl := hf.len
  have hN64 : N ≤ 64 := by have := okB_len hfs; omega
  obtain ⟨i0, hi, hz0, hz1, hz2⟩ := info_parts infoI
  obtain ⟨p0, pi, pz0, pz1, pz2⟩ := info_parts infoP
  obtain ⟨hl, -, -, hr, hw⟩ := h
  obtain ⟨b, off, rfl, hb, hcell⟩ : ∃ b off, A = some ⟨b, off, none⟩ ∧ b < w.heap.size ∧ ∀ i (h : i < es.length), w.cell? ⟨b, off + i, none⟩ = some (.slice (es[i]'h).a (es[i]'h).n (es[i]'h).cap) := by
    rcases hw with rfl | hw
    · simp at hl; omega
    · exact hw
  obtain ⟨fb, foff, rfl, hfb, hfcell⟩ : ∃ b off, fa = some ⟨b, off, none⟩ ∧ b < w.heap.size ∧ ∀ i (h : i < fs.length), w.cell? ⟨b, off + i, none⟩ = some (.int .i64 (fs[i]'h)) := by
    rcases hf.ways with ⟨_, h0⟩ | h0
    · omega
    · exact h0
  have HX := Lib.hid hcell
  have HF := Lib.hid hfcell
  have HR := Lib.hid hr
  have HL := Lib.hid hl
  have HFL := Lib.hid hfl
  have HES := Lib.hid hes
  have HFS := Lib.hid hfs
  have hl0 : 0 < es.length := by omega
  obtain ⟨e0, he0⟩ : ∃ e0, e0 = es[0] := ⟨_, rfl⟩
  have hn0 : e0.n = L := by rw [he0]; exact hes.len 0 hl0
  have hc0 : w.cell? ⟨b, off, none⟩ = some (.slice e0.a L e0.cap) := by rw [← hn0, he0]; exact hcell 0 hl0
  have hcap0 : L ≤ e0.cap ∧ e0.cap ≤ 9223372036854775807 := by have := (hr 0 hl0).cap; rw [← he0, hn0] at this; exact this
  have hNz : ((N : Int) == 0) = false := by rw [beq_eq_false_iff_ne]; omega
  clear hcell hfcell hr hl hfl hes hfs hf hw hl0 he0 hn0
  go_enter Tryd.func32, Tryd.ntmps32
  go_wp2_with fail
  refine HCA.out.mono ?_
  rintro e w' ⟨rfl, rfl⟩
  go_wp2_with fail
  refine HCK.out.mono ?_
  rintro e w' ⟨rfl, rfl⟩
  go_wp2_with (at_make; refine wpList_make_full _ rfl _ _ 66 rfl w.heap.size 68 p0 (.agg #[.int .i64 0, .int .i64 0]) 2 Tryd.underlying66 pi pz0 pz1 .i64 .i64 _ _ L rfl rfl (by omega) (by omega) (by rw [pz2]; omega) (by unfold maxLen; omega) (Nat.le_refl _) ?_; intro w0 hown0 hgrow0)
  have hbel0 : Below w.heap.size w w0 := (Below.refl _ _).grown hgrow0 (Nat.le_refl _) (by intro k hk; cases hk)
  have HR0 := Lib.hid (show w0.ownsRow w.heap.size 68 2 (.slice (some ⟨w.heap.size, 0, none⟩) L L) L (pc (List.replicate L (0, 0))) by
    rw [pc_rep, ← made_two]; exact hown0)
  have HB0 := Lib.hid hbel0
  clear hown0 hgrow0 hbel0
  go_wp2_with fail
  go_loopw [9, 10, 11, 12, 47] (fun _ _ _ _ iv wr => ∃ (i : Nat) (P : List (Int × Int)), iv = .int .i64 i ∧ i ≤ N ∧ Hid (PInv P es fs L i 0) ∧ wr.ownsRow w.heap.size 68 2 (.slice (some ⟨w.heap.size, 0, none⟩) L L) L (pc P) ∧ Below w.heap.size w wr) (fun _ _ _ _ iv _ => N - (intOf iv).toNat)
  case atStart => exact ⟨0, _, rfl, Nat.zero_le _, Lib.hid (pinv_zero es fs L), HR0.out, HB0.out⟩
  case round =>
    obtain ⟨i, P, rfl, hiN, HP, hown, hbel⟩ := hrel
    have HO := Lib.hid hown
    have HBL := Lib.hid hbel
    clear hown hbel
    by_cases hlt : i < N
    · have hke : i < es.length := by rw [HL.out]; exact hlt
      have hkf : i < fs.length := by rw [HFL.out]; exact hlt
      have hcl := (HBL.out.cell (p := ⟨b, off + i, none⟩) hb).trans (HX.out i hke)
      have hrd := HR.out i hke
      have hen := HES.out.len i hke
      have heo := HES.out.ok i hke
      have hAt : ∀ j, at2 es i j = (es[i]).zs[j]?.getD 0 := by intro j; unfold at2; rw [List.getElem?_eq_getElem hke]
      obtain ⟨⟨ea, en, ec, ez⟩, he⟩ : ∃ e, e = es[i] := ⟨_, rfl⟩
      rw [← he] at hcl hrd hen heo hAt
      obtain rfl : en = L := hen
      have hcap := hrd.cap
      have HRD := Lib.hid hrd
      have HEO := Lib.hid heo
      have HAT := Lib.hid hAt
      obtain ⟨f, hfe⟩ : ∃ f, f = fs[i] := ⟨_, rfl⟩
      have HFE := Lib.hid (show fs[i]?.getD 0 = f by rw [List.getElem?_eq_getElem hkf, hfe]; rfl)
      have hff := okB_at HFS.out i hkf
      rw [← hfe] at hff
      have HCF := Lib.hid (show w.cell? ⟨fb, foff + i, none⟩ = some (.int .i64 f) by rw [hfe]; exact HF.out i hkf)
      clear hrd heo hAt he hfe hkf hke
      go_wp2_with fail
      go_loopw [11, 12, 54] (fun _ _ jv wr => ∃ (j : Nat) (P : List (Int × Int)), jv = .int .i64 j ∧ j ≤ en ∧ Hid (PInv P es fs en i j) ∧ wr.ownsRow w.heap.size 68 2 (.slice (some ⟨w.heap.size, 0, none⟩) en en) en (pc P) ∧ Below w.heap.size w wr) (fun _ _ jv _ => en - (intOf jv).toNat)
      case atStart => exact ⟨0, _, rfl, Nat.zero_le _, HP, HO.out, HBL.out⟩
      case round =>
        obtain ⟨j, P2, rfl, hjL, HP2, hown, hbel⟩ := hrel
        by_cases hj : j < en
        · have hjz : j < ez.length := by rw [HRD.out.len]; exact hj
          obtain ⟨zb, zoff, rfl, hzb, hzc⟩ : ∃ b off, ea = some ⟨b, off, none⟩ ∧ b < w.heap.size ∧ ∀ i (h : i < ez.length), w.cell? ⟨b, off + i, none⟩ = some (.int .i64 (ez[i]'h)) := by
            rcases HRD.out.ways with ⟨e, _⟩ | h2
            · have e' : ez = [] := e
              rw [e'] at hjz; exact absurd hjz (Nat.not_lt_zero _)
            · exact h2
          have hcz := (hbel.cell (p := ⟨zb, zoff + j, none⟩) hzb).trans (hzc j hjz)
          have hcf2 := (hbel.cell (p := ⟨fb, foff + i, none⟩) hfb).trans HCF.out
          have hzz := okB_at HEO.out j hjz
          have hat := HAT.out j
          simp only [List.getElem?_eq_getElem hjz, Option.getD_some] at hat
          obtain ⟨z, hz⟩ : ∃ z, z = ez[j] := ⟨_, rfl⟩
          rw [← hz] at hcz hzz hat
          have hjP : j < P2.length := by rw [HP2.out.1]; exact hj
          obtain ⟨g1, g2⟩ := pc_at P2 j hjP
          have c0 := (hown.cellAt (j * 2) (by omega)).trans g1
          have c1 := (hown.cellAt (j * 2 + 1) (by omega)).trans g2
          have f0 := hown.frozenAt (j * 2)
          have f1 := hown.frozenAt (j * 2 + 1)
          obtain ⟨p1, p2⟩ := prod_bd hff.1 hff.2 hzz.1 hzz.2
          have hwr := in64 (x := f * z) (by omega) (by omega)
          obtain ⟨q, r, hs⟩ := spl_of (f * z) p1 p2
          have HN := Lib.hid (pinv_step HP2.out hjP hat HFE.out hs)
          obtain ⟨k1, k2, k3, k4, k5⟩ := HP2.out.2 j hjP
          rw [if_neg (Nat.lt_irrefl _)] at k2 k3 k4 k5
          obtain ⟨U, hU⟩ : ∃ U, U = (P2[j]).1 := ⟨_, rfl⟩
          obtain ⟨V, hV⟩ : ∃ V, V = (P2[j]).2 := ⟨_, rfl⟩
          rw [← hU] at c0 k2 k3 HN
          rw [← hV] at c1 k4 k5 HN
          have HA := Lib.hid (addP_at w.heap.size (j * 2) U V (f * z) q r wr.drew hs c0 c1 f0 f1 (by omega) (by omega) (by omega) (by omega))
          have hst := ((World.ownsRow.stored hown.drew (j * 2) (.int .i64 (U + q))).1.stored (j * 2 + 1) (.int .i64 (V + r))).1
          rw [pc_set] at hst
          have HST := Lib.hid hst
          have HB4 := Lib.hid (((Below.drew hbel).setCell (p := ⟨w.heap.size, j * 2, none⟩) (Nat.le_refl _) (.int .i64 (U + q))).setCell (p := ⟨w.heap.size, j * 2 + 1, none⟩) (Nat.le_refl _) (.int .i64 (V + r)))
          clear hown hbel hat hz hzc hjz hs k1 k2 k3 k4 k5 hU hV hst g1 g2 hjP HP2 c0 c1 f0 f1 p1 p2
          go_wp2_with fail
          go_still_tail 9, (by kernel_rfl)
          change wpList _ _ _ _ _ wr.drew
          go_wp2_with fail
          refine HA.out.mono ?_
          rintro e w3 ⟨rfl, rfl⟩
          go_wp2_with fail
          go_roundw
          case rel => exact ⟨j + 1, _, by go_num, by omega, HN, HST.out, HB4.out⟩
          case measure => simp [intOf]; omega
        · obtain rfl : j = en := by omega
          have HNX := Lib.hid (pinv_next HP2.out)
          have HOX := Lib.hid hown
          have HBX := Lib.hid hbel
          clear hown hbel HP2
          go_wp2_with fail
          go_roundw
          case rel => exact ⟨i + 1, _, by go_num, by omega, HNX, HOX.out, HBX.out⟩
          case measure => simp [intOf]; omega
    · obtain rfl : i = N := by omega
      have hPL : P.length = L := HP.out.1
      have hsz := HBL.out.size
      go_wp2_with (at_make; refine wpList_make_full _ rfl _ _ 23 rfl w.heap.size 3 i0 (.int .i64 0) 1 Tryd.underlying23 hi hz0 hz1 .i64 .i64 _ _ L rfl rfl (by omega) (by omega) (by rw [hz2]; omega) (by unfold maxLen; omega) hsz ?_; intro w1 hown1 hgrow1)
      obtain ⟨gr, hgr⟩ : ∃ gr, gr = wr.heap.size := ⟨_, rfl⟩
      rw [← hgr] at hown1 hsz ⊢
      have HR1 := Lib.hid (RowI.made hown1)
      have hb1 : Below w.heap.size w w1 := HBL.out.grown hgrow1 (by rw [← hgr]; exact hsz) (by intro k hk; cases hk)
      have HB1 := Lib.hid hb1
      have HO1 := Lib.hid (show w1.ownsRow w.heap.size 68 2 (.slice (some ⟨w.heap.size, 0, none⟩) L L) L (pc P) from World.ownsRow.kept HO.out hgrow1 (.inr (by simp [Value.ownBlock])))
      have HGN := Lib.hid (show w.heap.size ≠ gr by
        have := World.ownsRow.lt HO.out w.heap.size rfl; omega)
      have HCL := Lib.hid (cols_len es fs L)
      clear hown1 hgrow1 hb1 hgr HO HBL
      go_wp2_with fail
      go_loopw [14, 16, 17, 76] (fun _ _ _ iv wr => ∃ j : Nat, iv = .int .i64 j ∧ j ≤ L ∧ Hid (((cols es fs L).take j).all entB = true) ∧ RowI wr w.heap.size gr L (part (fun x => x) (cols es fs L) L j) ∧ wr.ownsRow w.heap.size 68 2 (.slice (some ⟨w.heap.size, 0, none⟩) L L) L (pc P) ∧ Below w.heap.size w wr) (fun _ _ _ iv _ => L - (intOf iv).toNat)
      case atStart => exact ⟨0, rfl, Nat.zero_le _, Lib.hid rfl, by rw [part_zero]; exact HR1.out, HO1.out, HB1.out⟩
      case round =>
        obtain ⟨j, rfl, hjL, HALL, hrow, hown, hbel⟩ := hrel
        by_cases hj : j < L
        · have hjP : j < P.length := by rw [hPL]; exact hj
          have hjc : j < (cols es fs L).length := by rw [HCL.out]; exact hj
          obtain ⟨g1, g2⟩ := pc_at P j hjP
          have c0 := (hown.cellAt (j * 2) (by omega)).trans g1
          have c1 := (hown.cellAt (j * 2 + 1) (by omega)).trans g2
          obtain ⟨k1, k2, k3, k4, k5⟩ := HP.out.2 j hjP
          rw [if_neg (Nat.not_lt_zero _)] at k1 k2 k3 k4 k5
          have hcol : (P[j]).1 * 1000000000 + (P[j]).2 = (cols es fs L)[j] := by
            rw [k1, cols_at, ← HL.out]; rfl
          have hen := fun wx => entry_any (P[j]).1 (P[j]).2 wx (by omega) (by omega) (by omega) (by omega)
          rw [hcol] at hen
          have hset := hrow.set j ((cols es fs L)[j])
          rw [part_set (fun x => x) _ HCL.out hjc] at hset
          have HTK := Lib.hid (all_take_succ entB (cols es fs L) j hjc)
          have hrl := part_len (fun x => x) (cols es fs L) HCL.out hjL
          have HRW := Lib.hid hrow
          have HOW := Lib.hid hown
          have HBW := Lib.hid hbel
          obtain ⟨S, hS⟩ : ∃ S, S = (cols es fs L)[j] := ⟨_, rfl⟩
          obtain ⟨U, hU⟩ : ∃ U, U = (P[j]).1 := ⟨_, rfl⟩
          obtain ⟨V, hV⟩ : ∃ V, V = (P[j]).2 := ⟨_, rfl⟩
          rw [← hS] at hen HTK
          rw [← hU] at c0 hen
          rw [← hV] at c1 hen
          have HNO := Lib.hid (fun (h : entB S = false) => all_false_at (p := entB) hjc (by rw [← hS]; exact h))
          have HCS := Lib.hid (show (cols es fs L)[j] = S from hS.symm)
          clear hS hU hV g1 g2 k1 k2 k3 k4 k5 hcol hset hrow hown hbel
          cases he : entB S with
          | false =>
            have hv : sumV S = 0 := sumV_no he
            rw [hv, sumE_no he] at hen
            have HEN := Lib.hid hen
            have HV2 := Lib.hid (show combV es fs L = [] ∧ combE es fs L = 4 by unfold combV combE; rw [HNO.out he]; exact ⟨rfl, rfl⟩)
            clear hen he
            go_wp2_with fail
            refine (HEN.out _).mono ?_
            rintro e w3 ⟨rfl, h3⟩
            have HB3 := Lib.hid ((HBW.out.alloc HBW.out.size _).trans (h3.mono (by have := HBW.out.size; simp; omega)))
            clear h3
            go_wp2_with fail
            go_ret2
            rw [HV2.out.1, HV2.out.2]
            exact .mk (Rd.nil _) HB3.out
          | true =>
            rw [sumV_ok he, sumE_ok he] at hen
            have HEN := Lib.hid hen
            have HT := Lib.hid (show ((cols es fs L).take (j + 1)).all entB = true by rw [HTK.out, HALL.out, he]; rfl)
            clear hen he
            go_wp2_with fail
            refine (HEN.out _).mono ?_
            rintro e w3 ⟨rfl, h3⟩
            have HB3 := Lib.hid ((HBW.out.alloc HBW.out.size _).trans (h3.mono (by have := HBW.out.size; simp; omega)))
            have hr3 : RowI w3 w.heap.size gr L (part (fun x => x) (cols es fs L) L j) := (HRW.out.alloc _).below h3
            have ho3 : w3.ownsRow w.heap.size 68 2 (.slice (some ⟨w.heap.size, 0, none⟩) L L) L (pc P) := own_kept (World.ownsRow.alloc HOW.out _) h3
            have hcl2 := hr3.cell j (by omega)
            have hfr := hr3.free j
            obtain ⟨old, hold⟩ : ∃ old, old = (part (fun x => x) (cols es fs L) L j)[j]'(by omega) := ⟨_, rfl⟩
            rw [← hold] at hcl2
            have hset := hr3.set j S
            have hps := part_set (fun x => x) (cols es fs L) HCL.out hjc
            rw [HCS.out] at hps
            rw [hps] at hset
            have HSET := Lib.hid hset
            have HO4 := Lib.hid (World.ownsRow.kept ho3 (World.ownsRow.stored (n := (part (fun x => x) (cols es fs L) L j).length) hr3 j (.int .i64 S)).2 (.inr (by simp [Value.ownBlock]; exact HGN.out)))
            have HB4 := Lib.hid (HB3.out.setCell (p := ⟨gr, j, none⟩) hsz (.int .i64 S))
            clear h3 hr3 ho3 hold hset hps
            go_wp2_with fail
            go_roundw
            case rel => exact ⟨j + 1, by go_num, by omega, HT, HSET.out, HO4.out, HB4.out⟩
            case measure => simp [intOf]; omega
        · obtain rfl : j = L := by omega
          rw [part_all _ _ HCL.out, List.map_id'] at hrow
          have hall := HALL.out
          rw [List.take_of_length_le (by rw [HCL.out]; omega)] at hall
          have hrd := hrow.rd (fun z hz => by have := entB_iff.1 (List.all_eq_true.1 hall z hz); omega)
          rw [HCL.out] at hrd
          have HRD := Lib.hid hrd
          have HV2 := Lib.hid (show combV es fs j = cols es fs j ∧ combE es fs j = 0 by unfold combV combE; rw [hall]; exact ⟨rfl, rfl⟩)
          have HB1 := Lib.hid hbel
          clear hrow hown hbel hall hrd
          go_wp2_with fail
          go_ret2
          rw [HV2.out.1, HV2.out.2]
          exact .mk HRD.out HB1.out
end Go.Proofs.YtgcddiakdmddjaaDoor
