/-
  Texts of one seat, joined: YNeg ZRight ZRAdd ZTimes ZDivd.
-/
import Derived.Test.YtgkfdgdlmpggpaaGreatDoorJ20
import Derived.Test.YtgkfdgdlmpggpaaGreatDoorJ5
import Derived.Test.YtgkfdgdlmpggpaaGreatDoorJ19
import Derived.Test.YtgkfdgdlmpggpaaGreatDoorJ22
import Derived.Deep.AppendSrc
import Derived.OneCell
namespace Go.Proofs.YtgkfdgdlmpggpaaGreatDoor
open Go.RowKit

set_option maxHeartbeats 800000 in
theorem signWY_any (b : Bool) (o : Option Addr) (c : Nat) (L : List Nat) (z : Int) (w : World) (h : Wh w b o c L z) :
    Calls Tryz.prog 62 #[whV b o c L] w fun e w' => e = .returned (.int .i64 (sgnI z)) ∧ Below w.heap.size w w' := by
  have HX := BxO.new w w.heap.size (Nat.le_refl _) b (.slice o L.length c)
  have x0 := HX.neg
  have x1 := HX.dig
  have HB := Lib.hid ((Below.refl w.heap.size w).alloc (Nat.le_refl _) (.cells #[.bool b, .slice o L.length c] 43))
  have hz := h.len_zero
  have hb := h.neg
  clear HX h
  obtain ⟨n, hn⟩ : ∃ n, n = L.length := ⟨_, rfl⟩
  unfold whV
  rw [← hn] at x0 x1 HB hz ⊢
  clear hn
  by_cases h0 : z = 0
  · have hn0 : n = 0 := hz.2 h0
    subst hn0
    have HV := Lib.hid (show sgnI z = 0 by rw [h0]; rfl)
    clear hz hb h0
    go_enter Tryz.func62, Tryz.ntmps62
    go_wp2_with fail
    go_ret
    exact ⟨by rw [HV.out]; rfl, HB.out⟩
  · have hn0 : ((n : Int) == 0) = false := by rw [beq_eq_false_iff_ne]; intro q; exact h0 (hz.1 (by omega))
    cases b
    · have HV := Lib.hid (show sgnI z = 1 by have := of_decide_eq_false hb.symm; rcases sgnI_ways z with ⟨q, e⟩ | ⟨q, e⟩ | ⟨q, e⟩ <;> omega)
      clear hz hb h0
      go_enter Tryz.func62, Tryz.ntmps62
      go_wp2_with fail
      go_ret
      exact ⟨by rw [HV.out]; rfl, HB.out⟩
    · have HV := Lib.hid (show sgnI z = -1 by have := of_decide_eq_true hb.symm; rcases sgnI_ways z with ⟨q, e⟩ | ⟨q, e⟩ | ⟨q, e⟩ <;> omega)
      clear hz hb h0
      go_enter Tryz.func62, Tryz.ntmps62
      go_wp2_with fail
      go_ret
      exact ⟨by rw [HV.out]; rfl, HB.out⟩
theorem BxO.kept {w w' : World} {B g : Nat} {b : Bool} {v : Value} (h : BxO w B g b v) (hb : Below w.heap.size w w') : BxO w' B g b v := by
  refine World.ownsRow.kept (row := none) h ⟨hb.os, hb.tape, hb.output, hb.size, fun j hj _ => hb.block j hj⟩ (.inr (by simp [Value.ownBlock]))
set_option maxHeartbeats 1600000 in
theorem negWY_any (b : Bool) (o : Option Addr) (c : Nat) (L : List Nat) (z : Int) (w : World) (h : Wh w b o c L z) :
    Calls Tryz.prog 53 #[whV b o c L] w fun e w' => (∃ (b' : Bool) (L' : List Nat), e = .returned (whV b' o c L') ∧ Wh w' b' o c L' (-z)) ∧ Below w.heap.size w w' := by
  have HX := BxO.new w w.heap.size (Nat.le_refl _) b (.slice o L.length c)
  have x0 := HX.neg
  have x1 := HX.dig
  have HA := (Below.refl w.heap.size w).alloc (Nat.le_refl _) (.cells #[.bool b, .slice o L.length c] 43)
  have HH := Lib.hid h
  clear h
  go_enter Tryz.func53, Tryz.ntmps53
  go_wp2_with fail
  obtain ⟨W1, hW1⟩ : ∃ W1, W1 = w.alloc (.cells #[.bool b, .slice o L.length c] 43) := ⟨_, rfl⟩
  rw [← hW1] at HX HA x0 x1 ⊢
  have hsz : W1.heap.size = w.heap.size + 1 := by rw [hW1]; exact push_sz _ _
  have HW2 := Lib.hid (BxO.new W1 w.heap.size (by omega) false (.slice none 0 0))
  have HB := Lib.hid (HA.alloc (by omega) (.cells #[.bool false, .slice none 0 0] 43))
  rw [hsz] at HW2
  obtain ⟨W2, hW2⟩ : ∃ W2, W2 = W1.alloc (.cells #[.bool false, .slice none 0 0] 43) := ⟨_, rfl⟩
  rw [← hW2] at HW2 HB ⊢
  clear hW1 hW2 hsz HA HX x0 x1
  have HT := Lib.hid (trimY_any (!b) o c L W2 (HH.out.pd.below HB.out))
  refine HT.out.mono ?_
  rintro e w1 ⟨rfl, h1⟩
  have B1 := Lib.hid (HB.out.trans (h1.mono HB.out.size))
  have R1 := Lib.hid (HW2.out.kept h1)
  have HN := Lib.hid (Wh.trimmed (!b) HH.out.pd (-z) (by rw [HH.out.pcs.val, Int.natAbs_neg]) (fun h0 => by
    rw [HH.out.neg]
    by_cases q : z < 0
    · rw [decide_eq_true q, decide_eq_false (by omega)]; rfl
    · rw [decide_eq_false q, decide_eq_true (by omega)]; rfl))
  clear h1 HT HB HW2
  obtain ⟨V, hV⟩ : ∃ V, V = (!b && decide (0 < (trimP L).length)) := ⟨_, rfl⟩
  obtain ⟨M, hM⟩ : ∃ M, M = trimP L := ⟨_, rfl⟩
  rw [← hM] at hV HN ⊢
  rw [← hV] at HN ⊢
  unfold whV
  obtain ⟨m, hm⟩ : ∃ m, m = M.length := ⟨_, rfl⟩
  have HM := Lib.hid hm
  rw [← hm]
  clear hV hM hm HH
  have f0 := R1.out.free 0
  have f1 := R1.out.free 1
  have e0 := R1.out.neg
  have e1 := R1.out.dig
  have Y1 := R1.out.set0 V
  have y1 := Y1.free 1
  have z1 := Y1.dig
  have Y2 := Y1.set1 (.slice o m c)
  have u0 := Y2.neg
  have u1 := Y2.dig
  have HBE := Lib.hid ((B1.out.setCell (p := ⟨w.heap.size + 1, 0, none⟩) (by show w.heap.size ≤ w.heap.size + 1; omega) (.bool V)).setCell (p := ⟨w.heap.size + 1, 1, none⟩) (by show w.heap.size ≤ w.heap.size + 1; omega) (.slice o m c))
  clear Y1 Y2 R1
  go_wp2_with fail
  (try simp only [Exit.inBlock, Exit.then])
  refine bodyPost_ret (v := .agg #[.bool V, .slice o m c]) ?_ rfl ⟨⟨V, M, by rw [HM.out], HN.out.below HBE.out⟩, HBE.out⟩
  rw [results_cell_one rfl]
  go_simp
end Go.Proofs.YtgkfdgdlmpggpaaGreatDoor

namespace Go.Proofs.YtgkfdgdlmpggpaaGreatDoor
open Go.RowKit

theorem canon_no {m : ByteArray} (h : m.data.toList.all isD = false) : canonL m.data.toList = false := by unfold canonL; rw [h, Bool.and_false]
theorem canon_nil {m : ByteArray} (h : m.size = 0) : canonL m.data.toList = false := by
  have := len_list m
  rw [h] at this
  rw [List.length_eq_zero_iff.1 this]; rfl
theorem canon_hd {m : ByteArray} (h0 : 0 < m.size) (h : m.data.toList.all isD = true) : canonL m.data.toList = (!(((m[0]'h0).toNat : Int) == 48) || decide (m.size = 1)) := by
  unfold canonL
  rw [h, Bool.and_true, hd1 h0]
  have hl := len_list m
  have hg := at_list m 0 h0
  cases hb : (((m[0]'h0).toNat : Int) == 48) with
  | false => rw [show (((m[0]'h0).toNat : Int) != 48) = true by rw [bne, hb]; rfl]; simp
  | true =>
    rw [show (((m[0]'h0).toNat : Int) != 48) = false by rw [bne, hb]; rfl]
    have h48 : m[0] = 48 := by have := beq_iff_eq.1 hb; exact UInt8.toNat_inj.1 (by show _ = 48; omega)
    rw [Bool.or_false, Bool.not_true, Bool.false_or, Bool.eq_iff_iff, beq_iff_eq, decide_eq_true_iff, tl]
    constructor
    · intro q; rw [q] at hl; simp at hl; omega
    · intro q
      cases hm : m.data.toList with
      | nil => rw [hm] at hl; simp at hl; omega
      | cons c l =>
        rw [hm] at hl
        have : l = [] := by cases l with
          | nil => rfl
          | cons d l => simp at hl; omega
        have hcc : c = m[0] := by rw [← hg]; simp [hm]
        rw [this, hcc, h48]
def rgt (s : ByteArray) : Bool := zCan s && decide ((magB s).size ≤ 400)
theorem chk_rgt (s : ByteArray) : chkZ s = if rgt s = true then 0 else 2 := by
  unfold chkZ rgt
  by_cases h : zCan s = true ∧ (magB s).size ≤ 400
  · rw [if_pos h, if_pos (by rw [h.1, decide_eq_true h.2]; rfl)]
  · rw [if_neg h, if_neg (by intro q; rw [Bool.and_eq_true, decide_eq_true_iff] at q; exact h q)]
theorem n63 {n : Int} (h1 : -9223372036854775808 ≤ n) (h2 : n ≤ 9223372036854775807) : (str n.natAbs).size ≤ 1000000 := Nat.le_trans (str_big (n := 19) (by omega) (by decide)) (by decide)



end Go.Proofs.YtgkfdgdlmpggpaaGreatDoor

namespace Go.Proofs.YtgkfdgdlmpggpaaGreatDoor
open Go.RowKit





theorem pcs_len {p : List Nat} {a k : Nat} (h : Pcs p a) (hs : (str a).size ≤ k) : p.length ≤ k := by
  have ha := lt_of_size hs
  by_cases h0 : p = []
  · rw [h0]; simp
  · have h1 := h.len_lower h0
    apply Nat.le_of_not_lt; intro hlt
    have h2 : (10 : Nat) ^ k ≤ 1000000000 ^ (p.length - 1) := by
      calc (10 : Nat) ^ k ≤ 10 ^ (9 * (p.length - 1)) := Nat.pow_le_pow_right (by decide) (by omega)
        _ = _ := pow9 _
    omega


end Go.Proofs.YtgkfdgdlmpggpaaGreatDoor

namespace Go.Proofs.YtgkfdgdlmpggpaaGreatDoor
open Go.RowKit

theorem made_zero (n : Nat) : (madeCells (Value.int .i64 0).cells n).toList = List.replicate n (Value.int .i64 0) := by
  rw [show (Value.int .i64 0).cells = #[.int .i64 0] from rfl, toList_madeCells_one]
theorem Ow.made {w : World} {B g n : Nat} (h : w.ownsRow B 3 1 (.slice (some ⟨g, 0, none⟩) n n) n (madeCells (Value.int .i64 0).cells (n * 1)).toList) : Ow w B (some ⟨g, 0, none⟩) n (List.replicate n 0) := by
  unfold Ow
  rw [List.length_replicate]
  have e : (madeCells (Value.int .i64 0).cells (n * 1)).toList = cI (List.replicate n 0) := by
    rw [Nat.mul_one, show cI (List.replicate n 0) = List.replicate n (Value.int .i64 0) by simp [cI]]
    exact made_zero n
  rw [← e]; exact h
theorem Ow.cell {w : World} {B g cap : Nat} {l : List Nat} (h : Ow w B (some ⟨g, 0, none⟩) cap l) (i : Nat) (hi : i < l.length) : w.cell? ⟨g, i, none⟩ = some (.int .i64 ((l[i]'hi : Nat) : Int)) := by
  rw [World.ownsRow.cellAt h i (by omega), cI_at l i hi]
theorem Ow.free {w : World} {B g cap : Nat} {l : List Nat} (h : Ow w B (some ⟨g, 0, none⟩) cap l) (i : Nat) : w.frozen? ⟨g, i, none⟩ = false := World.ownsRow.frozenAt h i
theorem Ow.set {w : World} {B g cap : Nat} {l : List Nat} (h : Ow w B (some ⟨g, 0, none⟩) cap l) (k v : Nat) : Ow (w.setCell ⟨g, k, none⟩ (.int .i64 (v : Int))) B (some ⟨g, 0, none⟩) cap (l.set k v) := by
  have h1 := (World.ownsRow.stored h k (.int .i64 (v : Int))).1
  rw [cI_set] at h1
  unfold Ow; rw [List.length_set]; exact h1
theorem Ow.drewN {w : World} {B : Nat} {vo : Option Addr} {vc : Nat} {l : List Nat} (h : Ow w B vo vc l) (n : Nat) : Ow (w.drewN n) B vo vc l := h
theorem set_last {L : List Nat} {k c A : Nat} (hk : k < L.length) (h0 : L[k] = 0) (h : pv L + 1000000000 ^ k * c = A) : pv (L.set k c) = A := by
  have h1 := pv_set c hk
  rw [h0] at h1; omega
end Go.Proofs.YtgkfdgdlmpggpaaGreatDoor

namespace Go.Proofs.YtgkfdgdlmpggpaaGreatDoor
open Go.RowKit

/-- append of nothing to a literal of one element -/
theorem ap_more {P : Program} {w : World} {ops : Array Oper} {rest : List Oper} {o : Oper} {a : Act} {Q : Exit → Act → World → Prop} (hgd : o.guard = none) (s x : Operand) (t : TypeId)
    (ho : o.op = .call { callee := .builtin .append, args := #[s, x], argTypes := #[t, t] })
    (e : TypeId) (i : TypeInfo) (ht : P.underlying t = some (.slice e)) (hi : P.info? e = some i) (g : Nat) (A : Option Addr) (c : Nat)
    (hs : a.eval s = .slice (some ⟨g, 0, none⟩) 1 1) (hx : a.eval x = .slice A 0 c) (h : wpList P ops Q rest (a.put o.dst (.slice (some ⟨g, 0, none⟩) 1 1)) w) : wpList P ops Q (o :: rest) a w := by
  refine wpList_plain hgd fun K hK => ?_
  have hrun : (Builtin.append_ #[t, t] o.type #[.slice (some ⟨g, 0, none⟩) 1 1, .slice A 0 c]).run P w = .ok (.slice (some ⟨g, 0, none⟩) 1 1) w := by
    cases A with
    | none => exact run_append_room_src w t t o.type e i ht hi g 0 1 1 _ 0 [] (Src.ofNil w ht c) (Nat.le_refl _) (fun j hj => absurd hj (by simp)) (fun j hj => absurd hj (by simp))
    | some ad => exact run_append_room_src w t t o.type e i ht hi g 0 1 1 _ 0 [] (Src.ofSlice w ht ad 0 c [] (by simp) (by simp) (by simp)) (Nat.le_refl _) (fun j hj => absurd hj (by simp)) (fun j hj => absurd hj (by simp))
  unfold Oper.wp
  simp [execOp, ho, resolve, invoke, builtin, hs, hx, hrun, Result.andThen]
  exact hK _ _ h
theorem own_one (w : World) (B : Nat) (hB : B ≤ w.heap.size) (n : Int) : (w.alloc (.cells #[.int .i64 n] 3)).ownsRow B 3 1 (.slice (some ⟨w.heap.size, 0, none⟩) 1 1) 1 [.int .i64 n] :=
  World.ownsRow_lit w #[.int .i64 n] 1 hB (by unfold maxLen; decide) rfl
theorem Pd.one (w : World) (n : Nat) (hn : n < 1000000000) : Pd (w.alloc (.cells #[.int .i64 (n : Int)] 3)) (some ⟨w.heap.size, 0, none⟩) 1 [n] := by
  refine ⟨Nat.le_refl _, by decide, fun x hx => by simp at hx; omega, .inr ⟨w.heap.size, rfl, by rw [alloc_size]; omega, fun i hi => ?_⟩⟩
  have : i = 0 := by simp at hi; omega
  subst this
  rw [World.cell?_alloc_new]; rfl
theorem src_cellsZ {w : World} {g : Nat} {l : List Nat} (hg : g < w.heap.size) (h : ∀ i (h : i < l.length), w.cell? ⟨g, i, none⟩ = some (.int .i64 ((l[i]'h : Nat) : Int))) (o : Obj) : ∀ j u, (cI l)[j]? = some u → (w.alloc o).cell? ((⟨g, 0, none⟩ : Addr).add j) = some u := by
  intro j u hu
  have hj : j < l.length := by
    apply Nat.lt_of_not_le; intro hle
    rw [List.getElem?_eq_none (by rw [cI_len]; exact hle)] at hu; cases hu
  rw [cI_at l j hj] at hu
  rw [Lib.add_plain, Nat.zero_add, ← hu]
  have hb := ((Below.refl w.heap.size w).alloc (Nat.le_refl _) o).cell (p := ⟨g, j, none⟩) hg
  rw [hb]; exact h j hj
theorem ones_cI (l : List Nat) : ∀ u ∈ cI l, u.oneCell' = true := by
  intro u hu
  obtain ⟨z, _, rfl⟩ := List.mem_map.1 hu
  rfl
theorem pv_one (n : Nat) : pv [n] = n := by simp [pv]
theorem pv_cons (n : Nat) (l : List Nat) : pv (n :: l) = n + 1000000000 * pv l := rfl
theorem quot_lt {u r y : Nat} (hu : u < 1000000000) (hr : r < y) : (u + 1000000000 * r) / y < 1000000000 := by
  rw [Nat.div_lt_iff_lt_mul (by omega)]
  have h : 1000000000 * (r + 1) ≤ 1000000000 * y := Nat.mul_le_mul_left _ hr
  omega
theorem Pd.stored {w : World} {o : Option Addr} {c : Nat} {l : List Nat} (h : Pd w o c l) (g k : Nat) (v : Value) (hne : ∀ g', o = some ⟨g', 0, none⟩ → g' ≠ g) : Pd (w.setCell ⟨g, k, none⟩ v) o c l := by
  refine ⟨h.lc, h.lim, h.nine, ?_⟩
  rcases h.cell with h6 | ⟨g6, e6, hl6, hc6⟩
  · exact .inl h6
  · exact .inr ⟨g6, e6, Nat.lt_of_lt_of_le hl6 ((Below.refl 0 w).setCell (p := ⟨g, k, none⟩) (Nat.zero_le _) v).size, fun i hi6 => by
      rw [World.cell?_of_block (w := w) (a := ⟨g6, i, none⟩) (Below.heap_setCell w ⟨g, k, none⟩ v g6 (hne g6 e6))]; exact hc6 i hi6⟩
theorem Ow.below {w w' : World} {B : Nat} {vo : Option Addr} {vc : Nat} {L : List Nat} (h : Ow w B vo vc L) (hb : Below w.heap.size w w') : Ow w' B vo vc L :=
  World.ownsRow.kept (row := none) h ⟨hb.os, hb.tape, hb.output, hb.size, fun t ht _ => hb.block t ht⟩ (by cases vo with
    | none => exact .inl rfl
    | some ad => exact .inr (by simp [Value.ownBlock]))
/-- what holds at the head of the division's loop -/
structure DvZ (p L : List Nat) (m k y r : Nat) : Prop where
  len : L.length = m
  nine : lt9 L
  eq : pv (p.drop k) = pv (L.drop k) * y + r
  lt : r < y
theorem DvZ.step {p L : List Nat} {m j y r : Nat} (h : DvZ p L m (j + 1) y r) (hm : p.length = m) (hj : j < m) (hu : p.getD j 0 < 1000000000) :
    DvZ p (L.set j ((p.getD j 0 + 1000000000 * r) / y)) m j y ((p.getD j 0 + 1000000000 * r) - y * ((p.getD j 0 + 1000000000 * r) / y)) := by
  obtain ⟨h1, h2, h3, h4⟩ := h
  have hq := quot_lt hu h4
  have hdm := Nat.div_add_mod (p.getD j 0 + 1000000000 * r) y
  have hmd := Nat.mod_lt (p.getD j 0 + 1000000000 * r) (show 0 < y by omega)
  obtain ⟨Q, hQ⟩ : ∃ Q, Q = (p.getD j 0 + 1000000000 * r) / y := ⟨_, rfl⟩
  rw [← hQ] at hq hdm ⊢
  have hp := drop_pv (p := p) (j := j) (by omega)
  rw [← getD_in (l := p) (k := j) (by omega)] at hp
  have hl : j < (L.set j Q).length := by rw [List.length_set]; omega
  have hL := drop_pv (p := L.set j Q) (j := j) hl
  have hdr : (L.set j Q).drop (j + 1) = L.drop (j + 1) := List.drop_set_of_lt (by omega)
  rw [List.getElem_set_self, hdr] at hL
  refine ⟨by rw [List.length_set]; exact h1, lt9_set h2 hq, ?_, by omega⟩
  rw [hp, hL, h3, Nat.add_mul, Nat.mul_assoc, Nat.mul_comm Q y]
  omega
end Go.Proofs.YtgkfdgdlmpggpaaGreatDoor
