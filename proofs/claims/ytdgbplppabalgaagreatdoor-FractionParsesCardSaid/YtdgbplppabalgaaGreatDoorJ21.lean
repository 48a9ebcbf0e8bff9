/-
  Texts of one seat, joined: ZDivd YTo YFrom.
-/
import Derived.Test.YtdgbplppabalgaaGreatDoorJ20
import Derived.Deep.AppendSrc
import Derived.OneCell
import Derived.Test.YtdgbplppabalgaaGreatDoorShelf3
import Derived.Test.YtdgbplppabalgaaGreatDoorJ15
import Derived.Test.YtdgbplppabalgaaGreatDoorJ16
import Derived.Test.YtdgbplppabalgaaGreatDoorShelf2
namespace Go.Proofs.YtdgbplppabalgaaGreatDoor
open Go.RowKit

/-- append of nothing to a literal of one element -/
theorem ap_more {P : Program} {w : World} {ops : Array Oper} {rest : List Oper} {o : Oper} {a : Act} {Q : Exit → Act → World → Prop} (hgd : o.guard = none) (s x : Operand) (t : TypeId)
    (ho : o.op = .call { callee := .builtin .append, args := #[s, x], argTypes := #[t, t] })
    (e : TypeId) (i : TypeInfo) (ht : P.underlying t = some (.slice e)) (hi : P.info? e = some i) (g : Nat) (A : Option Addr) (c : Nat)
    (hs : a.eval s = .slice (some ⟨g, 0, none⟩) 1 1) (hx : a.eval x = .slice A 0 c) (h : wpList P ops Q rest (a.put o.dst (.slice (some ⟨g, 0, none⟩) 1 1)) w) : wpList P ops Q (o :: rest) a w := by
  refine wpList_plain hgd fun K hK => ?_
  have hrun : (Builtin.append_ #[t, t] o.type #[.slice (some ⟨g, 0, none⟩) 1 1, .slice A 0 c]).run P w = .ok (.slice (some ⟨g, 0, none⟩) 1 1) w := by
    cases A with
    | none => exact run_append_room_src w t t o.type e i ht hi g 0 1 1 _ 0 [] (Src.ofNil w ht c) (Nat.le_refl _) (fun j hj => absurd hj (by simp)) (fun j hj => absurd hj (by simp))
    | some ad => exact run_append_room_src w t t o.type e i ht hi g 0 1 1 _ 0 [] (Src.ofSlice w ht ad 0 c [] (by simp) (by simp) (by simp)) (Nat.le_refl _) (fun j hj => absurd hj (by simp)) (fun j hj => absurd hj (by simp))
  unfold Oper.wp
  simp [execOp, ho, resolve, invoke, builtin, hs, hx, hrun, Result.andThen]
  exact hK _ _ h
theorem own_one (w : World) (B : Nat) (hB : B ≤ w.heap.size) (n : Int) : (w.alloc (.cells #[.int .i64 n] 3)).ownsRow B 3 1 (.slice (some ⟨w.heap.size, 0, none⟩) 1 1) 1 [.int .i64 n] :=
  World.ownsRow_lit w #[.int .i64 n] 1 hB (by unfold maxLen; decide) rfl
theorem Pd.one (w : World) (n : Nat) (hn : n < 1000000000) : Pd (w.alloc (.cells #[.int .i64 (n : Int)] 3)) (some ⟨w.heap.size, 0, none⟩) 1 [n] := by
  refine ⟨Nat.le_refl _, by decide, fun x hx => by simp at hx; omega, .inr ⟨w.heap.size, rfl, by rw [alloc_size]; omega, fun i hi => ?_⟩⟩
  have : i = 0 := by simp at hi; omega
  subst this
  rw [World.cell?_alloc_new]; rfl
theorem src_cellsZ {w : World} {g : Nat} {l : List Nat} (hg : g < w.heap.size) (h : ∀ i (h : i < l.length), w.cell? ⟨g, i, none⟩ = some (.int .i64 ((l[i]'h : Nat) : Int))) (o : Obj) : ∀ j u, (cI l)[j]? = some u → (w.alloc o).cell? ((⟨g, 0, none⟩ : Addr).add j) = some u := by
  intro j u hu
  have hj : j < l.length := by
    apply Nat.lt_of_not_le; intro hle
    rw [List.getElem?_eq_none (by rw [cI_len]; exact hle)] at hu; cases hu
  rw [cI_at l j hj] at hu
  rw [Lib.add_plain, Nat.zero_add, ← hu]
  have hb := ((Below.refl w.heap.size w).alloc (Nat.le_refl _) o).cell (p := ⟨g, j, none⟩) hg
  rw [hb]; exact h j hj
theorem ones_cI (l : List Nat) : ∀ u ∈ cI l, u.oneCell' = true := by
  intro u hu
  obtain ⟨z, _, rfl⟩ := List.mem_map.1 hu
  rfl
theorem pv_one (n : Nat) : pv [n] = n := by simp [pv]
theorem pv_cons (n : Nat) (l : List Nat) : pv (n :: l) = n + 1000000000 * pv l := rfl
theorem quot_lt {u r y : Nat} (hu : u < 1000000000) (hr : r < y) : (u + 1000000000 * r) / y < 1000000000 := by
  rw [Nat.div_lt_iff_lt_mul (by omega)]
  have h : 1000000000 * (r + 1) ≤ 1000000000 * y := Nat.mul_le_mul_left _ hr
  omega
theorem Pd.stored {w : World} {o : Option Addr} {c : Nat} {l : List Nat} (h : Pd w o c l) (g k : Nat) (v : Value) (hne : ∀ g', o = some ⟨g', 0, none⟩ → g' ≠ g) : Pd (w.setCell ⟨g, k, none⟩ v) o c l := by
  refine ⟨h.lc, h.lim, h.nine, ?_⟩
  rcases h.cell with h6 | ⟨g6, e6, hl6, hc6⟩
  · exact .inl h6
  · exact .inr ⟨g6, e6, Nat.lt_of_lt_of_le hl6 ((Below.refl 0 w).setCell (p := ⟨g, k, none⟩) (Nat.zero_le _) v).size, fun i hi6 => by
      rw [World.cell?_of_block (w := w) (a := ⟨g6, i, none⟩) (Below.heap_setCell w ⟨g, k, none⟩ v g6 (hne g6 e6))]; exact hc6 i hi6⟩
theorem Ow.below {w w' : World} {B : Nat} {vo : Option Addr} {vc : Nat} {L : List Nat} (h : Ow w B vo vc L) (hb : Below w.heap.size w w') : Ow w' B vo vc L :=
  World.ownsRow.kept (row := none) h ⟨hb.os, hb.tape, hb.output, hb.size, fun t ht _ => hb.block t ht⟩ (by cases vo with
    | none => exact .inl rfl
    | some ad => exact .inr (by simp [Value.ownBlock]))
/-- what holds at the head of the division's loop -/
structure DvZ (p L : List Nat) (m k y r : Nat) : Prop where
  len : L.length = m
  nine : lt9 L
  eq : pv (p.drop k) = pv (L.drop k) * y + r
  lt : r < y
theorem DvZ.step {p L : List Nat} {m j y r : Nat} (h : DvZ p L m (j + 1) y r) (hm : p.length = m) (hj : j < m) (hu : p.getD j 0 < 1000000000) :
    DvZ p (L.set j ((p.getD j 0 + 1000000000 * r) / y)) m j y ((p.getD j 0 + 1000000000 * r) - y * ((p.getD j 0 + 1000000000 * r) / y)) := by
  obtain ⟨h1, h2, h3, h4⟩ := h
  have hq := quot_lt hu h4
  have hdm := Nat.div_add_mod (p.getD j 0 + 1000000000 * r) y
  have hmd := Nat.mod_lt (p.getD j 0 + 1000000000 * r) (show 0 < y by omega)
  obtain ⟨Q, hQ⟩ : ∃ Q, Q = (p.getD j 0 + 1000000000 * r) / y := ⟨_, rfl⟩
  rw [← hQ] at hq hdm ⊢
  have hp := drop_pv (p := p) (j := j) (by omega)
  rw [← getD_in (l := p) (k := j) (by omega)] at hp
  have hl : j < (L.set j Q).length := by rw [List.length_set]; omega
  have hL := drop_pv (p := L.set j Q) (j := j) hl
  have hdr : (L.set j Q).drop (j + 1) = L.drop (j + 1) := List.drop_set_of_lt (by omega)
  rw [List.getElem_set_self, hdr] at hL
  refine ⟨by rw [List.length_set]; exact h1, lt9_set h2 hq, ?_, by omega⟩
  rw [hp, hL, h3, Nat.add_mul, Nat.mul_assoc, Nat.mul_comm Q y]
  omega
end Go.Proofs.YtdgbplppabalgaaGreatDoor

namespace Go.Proofs.YtdgbplppabalgaaGreatDoor
open Go.RowKit

theorem BxO.grown {w w' : World} {B g : Nat} {b : Bool} {v : Value} {row : Option Nat} (h : BxO w B g b v) (hg : w.grownBy w' row) (hne : ∀ k, row = some k → k ≠ g) : BxO w' B g b v :=
  World.ownsRow.kept h hg (.inr (by
    intro hh
    cases row with
    | none => simp [Value.ownBlock] at hh
    | some k => exact hne k rfl (by simpa [Value.ownBlock] using hh.symm)))
theorem max_from (n : Nat) : max (0 : Int) ((n : Int) - 9) = ((n - 9 : Nat) : Int) := by omega
theorem atoiY {u : ByteArray} {f : Nat} (hf : f < u.size) (h9 : u.size ≤ f + 9) (ha : u.data.toList.all isD = true) (w : World) :
    Calls Tryz.prog 77 #[.string (u.extract f u.size)] w fun e w' => e = .returned (.tuple #[.int .i64 ((val (u.data.toList.drop f) : Nat) : Int), .nilIface]) ∧ Below w.heap.size w w' := by
  have e : (u.extract f u.size).data.toList = u.data.toList.drop f := by rw [ext_list, List.take_of_length_le (by rw [len_list]; exact Nat.le_refl _)]
  have hl : (u.data.toList.drop f).length = u.size - f := by rw [List.length_drop, len_list]
  have hne : u.data.toList.drop f ≠ [] := by intro q; rw [q] at hl; simp at hl; omega
  have ha2 : (u.data.toList.drop f).all isD = true := List.all_eq_true.2 fun x hx => List.all_eq_true.1 ha x (List.mem_of_mem_drop hx)
  refine (Tryz.strconv_Atoi (u.extract f u.size) ((val (u.data.toList.drop f) : Nat) : Int) (by rw [ByteArray.size_extract]; omega) (by rw [e]; exact atoi_val hne ha2) w).mono ?_
  rintro e2 w2 ⟨rfl, t, hw⟩
  exact ⟨rfl, by rw [hw]; exact Lib.bytesWorld_below w _ t⟩
set_option maxHeartbeats 3200000 in
set_option maxRecDepth 100000 in
theorem toY_any (z : Int) (w : World) (hz : (str z.natAbs).size ≤ 100000) :
    Calls Tryz.prog 25 #[.string (zS z)] w fun e w' => (∃ (b : Bool) (o : Option Addr) (c : Nat) (L : List Nat), e = .returned (whV b o c L) ∧ Wf w.heap.size w' b o c L z) ∧ Below w.heap.size w w' := by
  obtain ⟨i0, hi, hz0, hz1, hz2⟩ := info_parts infoZ
  obtain ⟨a, ha⟩ : ∃ a, a = z.natAbs := ⟨_, rfl⟩
  have HAZ := Lib.hid ha
  have HNB := Lib.hid (show Lib.hasPrefix (zS z).data.toList [45] = decide (z < 0) by rw [hasP_neg]; exact negB_zS z)
  by_cases hneg : z < 0
  · have hsm : (str a).size ≤ 100000 := by rw [ha]; exact hz
    have he : (zS z).extract 1 (zS z).size = str a := by rw [zS_neg hneg, ha]; exact (negS _).tl
    have hsp : 1 ≤ (zS z).size := by rw [zS_neg hneg]; exact (negS _).pos
    have HSS := Lib.hid (show (str a).size ≤ 100000 ∧ (str a).data.toList.all isD = true ∧ val (str a).data.toList = a from ⟨hsm, by rw [str_list]; exact all_dd a, val_str a⟩)
    obtain ⟨s0, hs0⟩ : ∃ s0, s0 = str a := ⟨_, rfl⟩
    rw [← hs0] at he HSS
    obtain ⟨s, hs⟩ : ∃ s, s = zS z := ⟨_, rfl⟩
    rw [← hs] at he HNB hsp ⊢
    rw [decide_eq_true hneg] at HNB
    have HE := Lib.hid he
    clear ha he hs0 hsm
    have HS0 := Lib.hid (show ∀ wx, Calls Tryz.prog 76 #[.string s, .string ⟨#[45]⟩] wx fun e w' => e = .returned (.bool true) ∧ wx = w' from fun wx => (Tryz.strings_HasPrefix s ⟨#[45]⟩ wx).mono fun e w' h => ⟨by rw [h.1]; exact congrArg (fun x => Ending.returned (.bool x)) HNB.out, h.2.symm⟩)
    have HBZ := Lib.hid (show z ≠ 0 → true = decide (z < 0) from fun _ => by rw [decide_eq_true (by omega)])
    clear hs
    go_enter Tryz.func25, Tryz.ntmps25
    go_wp2_with fail
    refine (HS0.out _).mono ?_
    rintro e w1 ⟨rfl, rfl⟩
    go_wp2_with fail
    obtain ⟨W0, hW0⟩ : ∃ W0, W0 = (w.alloc (.cells #[.bool false, .slice none 0 0] 43)).alloc (.cells #[.bool true, .slice none 0 0] 43) := ⟨_, rfl⟩
    have hb0 : Below w.heap.size w (w.alloc (.cells #[.bool false, .slice none 0 0] 43)) := (Below.refl _ _).alloc (Nat.le_refl _) _
    have HB0 := Lib.hid (show Below w.heap.size w W0 by rw [hW0]; exact hb0.alloc hb0.size _)
    have HR := Lib.hid (show BxO W0 w.heap.size w.heap.size false (.slice none 0 0) by rw [hW0]; exact (BxO.new w w.heap.size (Nat.le_refl _) false (.slice none 0 0)).alloc _)
    have HX := Lib.hid (show BxO W0 w.heap.size (w.heap.size + 1) true (.slice none 0 0) by
      have h := BxO.new (w.alloc (.cells #[.bool false, .slice none 0 0] 43)) w.heap.size hb0.size true (.slice none 0 0)
      rw [push_size, ← hW0] at h; exact h)
    rw [← hW0]
    clear hW0 hb0
    rw [HE.out]
    go_loopw [3, 5, 6, 7] (fun tv _ _ _ wr => ∃ (u : ByteArray) (vo : Option Addr) (vc : Nat) (L : List Nat), tv = .string u ∧ u.size ≤ 100000 ∧ L.length + u.size ≤ 100000 ∧ Hid (u.data.toList.all isD = true ∧ lt9 L ∧ val u.data.toList * 1000000000 ^ L.length + pv L = a) ∧ Hid (Ow wr (w.heap.size + 2) vo vc L) ∧ Hid (BxO wr w.heap.size (w.heap.size + 1) true (.slice vo L.length vc)) ∧ Hid (BxO wr w.heap.size w.heap.size false (.slice none 0 0)) ∧ Hid (Below w.heap.size w wr)) (fun tv _ _ _ _ => match tv with | .string u => u.size | _ => 0)
    case atStart => exact ⟨s0, none, 0, [], rfl, HSS.out.1, by simp; exact HSS.out.1, ⟨HSS.out.2.1, by simp [lt9], by simp [pv, HSS.out.2.2]⟩, Ow.nil _ _, HX, HR, HB0⟩
    case round =>
      obtain ⟨u, vo, vc, L, rfl, hul, hLl, HI, HO, HXR, HRR, HB⟩ := hrel
      have hbs := HB.out.size
      by_cases hu0 : u.size = 0
      · have hI := HI.out.2.2
        have hnil : u.data.toList = [] := by have := len_list u; rw [hu0] at this; exact List.length_eq_zero_iff.1 this
        rw [hnil, val_nil, Nat.zero_mul, Nat.zero_add] at hI
        have hgt : ¬ (0 : Int) < u.size := by omega
        have hpd := HO.out.pd HI.out.2.1
        have HT := Lib.hid (trimY_any true vo vc L wr hpd)
        have HNW := Lib.hid (show NewO (w.heap.size + 2) vo from HO.out.newO)
        have HWH := Lib.hid (Wh.trimmed true hpd z (by rw [hI]; exact HAZ.out) (fun h0 => HBZ.out h0))
        have x0 := HXR.out.neg
        have x1 := HXR.out.dig
        have HRX := HRR.out
        clear hI hnil hu0 hpd HI HO
        go_wp2_with fail
        refine HT.out.mono ?_
        rintro e w1 ⟨rfl, h1⟩
        have B1 := Lib.hid (HB.out.trans (h1.mono HB.out.size))
        have R1 := Lib.hid (HRX.kept h1)
        have HN := Lib.hid (HWH.out.below h1)
        clear h1 HT HB HRR HXR x0 x1 HRX HWH
        obtain ⟨V, hV⟩ : ∃ V, V = (true && decide (0 < (trimP L).length)) := ⟨_, rfl⟩
        obtain ⟨M, hM⟩ : ∃ M, M = trimP L := ⟨_, rfl⟩
        rw [← hM] at hV HN ⊢
        rw [← hV] at HN ⊢
        unfold whV
        obtain ⟨m, hm⟩ : ∃ m, m = M.length := ⟨_, rfl⟩
        have HM := Lib.hid hm
        rw [← hm]
        clear hV hM hm
        have f0 := R1.out.free 0
        have f1 := R1.out.free 1
        have e0 := R1.out.neg
        have e1 := R1.out.dig
        have Y1 := R1.out.set0 V
        have y1 := Y1.free 1
        have z1 := Y1.dig
        have Y2 := Y1.set1 (.slice vo m vc)
        have u0 := Y2.neg
        have u1 := Y2.dig
        have HBE := Lib.hid ((B1.out.setCell (p := ⟨w.heap.size, 0, none⟩) (Nat.le_refl _) (.bool V)).setCell (p := ⟨w.heap.size, 1, none⟩) (Nat.le_refl _) (.slice vo m vc))
        have HWE := Lib.hid ((HN.out.stored w.heap.size 0 (.bool V) (HNW.out.ne (by omega))).stored w.heap.size 1 (.slice vo m vc) (HNW.out.ne (by omega)))
        clear Y1 Y2 R1 HN
        go_wp2_with fail
        (try simp only [Exit.inBlock, Exit.then])
        refine bodyPost_ret (v := .agg #[.bool V, .slice vo m vc]) ?_ rfl ⟨⟨V, vo, vc, M, by rw [HM.out], HWE.out, HNW.out.mono (by omega)⟩, HBE.out⟩
        rw [results_cell_one rfl]
        go_simp
      · have hup : (0 : Int) < u.size := by omega
        obtain ⟨f, hf⟩ : ∃ f, f = u.size - 9 := ⟨_, rfl⟩
        have hfu : f ≤ u.size := by omega
        have hf9 : u.size ≤ f + 9 := by omega
        have hflt : f < u.size := by omega
        have hmx := max_from u.size
        rw [← hf] at hmx
        have hw9 := IntWalk.i64_in ((u.size : Int) - 9) ⟨by omega, by omega⟩
        have HSV := Lib.hid (split_val hfu (by omega) (1000000000 ^ L.length))
        have HF := Lib.hid hflt
        have HAT := Lib.hid (fun wx => atoiY hflt hf9 HI.out.1 wx)
        have hv9 : val (u.data.toList.drop f) < 1000000000 := by
          have h1 := val_lt (u.data.toList.drop f) (List.all_eq_true.2 fun x hx => List.all_eq_true.1 HI.out.1 x (List.mem_of_mem_drop hx))
          have h2 : (u.data.toList.drop f).length ≤ 9 := by rw [List.length_drop, len_list]; omega
          exact Nat.lt_of_lt_of_le h1 (Nat.le_trans (Nat.pow_le_pow_right (by decide) h2) (show 10 ^ 9 ≤ 1000000000 by decide))
        obtain ⟨v, hv⟩ : ∃ v, v = val (u.data.toList.drop f) := ⟨_, rfl⟩
        rw [← hv] at hv9 HSV HAT
        have HI2 := Lib.hid (show (u.extract 0 f).data.toList.all isD = true ∧ lt9 (L ++ [v]) ∧ val (u.extract 0 f).data.toList * 1000000000 ^ (L ++ [v]).length + pv (L ++ [v]) = a by
          have e : (u.extract 0 f).data.toList = u.data.toList.take f := by rw [ext_list, List.drop_zero]
          refine ⟨by rw [e]; exact List.all_eq_true.2 fun x hx => List.all_eq_true.1 HI.out.1 x (List.mem_of_mem_take hx), lt9_snoc HI.out.2.1 hv9, ?_⟩
          have h3 := HI.out.2.2
          rw [HSV.out] at h3
          rw [e, List.length_append, pv_snoc]
          show val (List.take f u.data.toList) * 1000000000 ^ (L.length + 1) + _ = a
          rw [Nat.pow_succ]; omega)
        have HES := Lib.hid (show (u.extract 0 f).size = f by rw [ByteArray.size_extract]; omega)
        obtain ⟨us, hus⟩ : ∃ us, us = u.extract 0 f := ⟨_, rfl⟩
        rw [← hus] at HI2 HES
        have HUS := Lib.hid hus.symm
        clear hv hf hu0 HSV HI hus
        have HOO := HO.out
        have HXX := HXR.out
        have HRX := HRR.out
        clear HO HXR HRR
        go_wp2_with fail
        refine (HAT.out _).mono ?_
        rintro e w1 ⟨rfl, h1⟩
        have B1 := Lib.hid (HB.out.trans (h1.mono HB.out.size))
        have O1 := Lib.hid (HOO.below h1)
        have X1 := Lib.hid (HXX.kept h1)
        have R1 := Lib.hid (HRX.kept h1)
        have x1 := X1.out.dig
        have hbs1 := B1.out.size
        have hlt1 := X1.out.lt.2
        clear h1 HAT HOO HXX HRX HB
        go_wp2_with (at_builtin; refine wpList_append_own _ rfl _ _ 41 rfl (w.heap.size + 2) 3 i0 (.int .i64 0) 1 8 Tryz.underlying41 hi hz0 hz1 hz2 rfl (by decide) _ _ _ rfl (World.ownsRow.alloc O1.out _) ⟨w1.heap.size, 0, none⟩ 1 1 [.int .i64 (v : Int)] rfl rfl (lies1 _ _) (ones1 _) (by unfold maxLen; omega) (by omega) (by rw [push_size]; omega) ?_)
        intro v' w2 hown' hgrow _
        obtain ⟨g', cap', rfl, how⟩ := Ow.snoc (L := L) (x := v) hown' (by omega) (by first | rfl | (simp [cI]))
        have hrow : ∀ k, (Value.slice vo L.length vc).ownBlock = some k → w.heap.size + 2 ≤ k := fun k hk => (World.ownsRow.lt O1.out k hk).1
        have hbel2 : Below w.heap.size w w2 := (B1.out.alloc hbs1 _).grown hgrow (by simp; omega) (by intro q hq; have := hrow q hq; omega)
        have X2 := (X1.out.alloc (.cells #[.int .i64 (v : Int)] 3)).grown hgrow (fun k hk => by have := hrow k hk; omega)
        have R2 := Lib.hid ((R1.out.alloc (.cells #[.int .i64 (v : Int)] 3)).grown hgrow (fun k hk => by have := hrow k hk; omega))
        have f1 := X2.free 1
        have x2 := X2.dig
        have hln : ((L ++ [v]).length) = L.length + 1 := by simp
        have hX3 := X2.set1 (.slice (some ⟨g', 0, none⟩) (L.length + 1) cap')
        have X3 := Lib.hid (show BxO (w2.setCell ⟨w.heap.size + 1, 1, none⟩ (.slice (some ⟨g', 0, none⟩) (L.length + 1) cap')) w.heap.size (w.heap.size + 1) true (.slice (some ⟨g', 0, none⟩) (L ++ [v]).length cap') by rw [hln]; exact hX3)
        have R3 := Lib.hid (R2.out.other (p := ⟨w.heap.size + 1, 1, none⟩) (by show w.heap.size ≠ w.heap.size + 1; omega) (.slice (some ⟨g', 0, none⟩) (L.length + 1) cap'))
        have O3 := Lib.hid (show Ow (w2.setCell ⟨w.heap.size + 1, 1, none⟩ (.slice (some ⟨g', 0, none⟩) (L.length + 1) cap')) (w.heap.size + 2) (some ⟨g', 0, none⟩) cap' (L ++ [v]) from ownsRow_setCell_other how (by have := (World.ownsRow.lt how g' rfl).1; simp [Value.ownBlock]; omega) _)
        have B3 := Lib.hid (hbel2.setCell (p := ⟨w.heap.size + 1, 1, none⟩) (by show w.heap.size ≤ w.heap.size + 1; omega) (.slice (some ⟨g', 0, none⟩) (L.length + 1) cap'))
        have HLN := Lib.hid hln
        rw [hln]
        clear hown' hgrow how hbel2 hln hX3 X2 R2 x1 X1 R1 O1 hrow
        go_wp2_with fail
        rw [HUS.out]
        all_goals go_roundw
        case rel => exact ⟨us, some ⟨g', 0, none⟩, cap', L ++ [v], rfl, by rw [HES.out]; omega, by rw [HES.out, HLN.out]; omega, HI2, O3, X3, R3, B3⟩
        case measure => show us.size < u.size; rw [HES.out]; exact HF.out
  · have hsm : (str a).size ≤ 100000 := by rw [ha]; exact hz
    have he : zS z = str a := by rw [zS_pos hneg, ha]
    have HSS := Lib.hid (show (str a).size ≤ 100000 ∧ (str a).data.toList.all isD = true ∧ val (str a).data.toList = a from ⟨hsm, by rw [str_list]; exact all_dd a, val_str a⟩)
    rw [he] at HNB ⊢
    obtain ⟨s0, hs0⟩ : ∃ s0, s0 = str a := ⟨_, rfl⟩
    rw [← hs0] at HSS HNB ⊢
    obtain ⟨s, hs⟩ : ∃ s, s = s0 := ⟨_, rfl⟩
    rw [← hs] at HNB ⊢
    rw [decide_eq_false hneg] at HNB
    have HE := Lib.hid hs
    clear ha he hs0 hsm
    have HS0 := Lib.hid (show ∀ wx, Calls Tryz.prog 76 #[.string s, .string ⟨#[45]⟩] wx fun e w' => e = .returned (.bool false) ∧ wx = w' from fun wx => (Tryz.strings_HasPrefix s ⟨#[45]⟩ wx).mono fun e w' h => ⟨by rw [h.1]; exact congrArg (fun x => Ending.returned (.bool x)) HNB.out, h.2.symm⟩)
    have HBZ := Lib.hid (show z ≠ 0 → false = decide (z < 0) from fun _ => by rw [decide_eq_false (by omega)])
    clear hs
    go_enter Tryz.func25, Tryz.ntmps25
    go_wp2_with fail
    refine (HS0.out _).mono ?_
    rintro e w1 ⟨rfl, rfl⟩
    go_wp2_with fail
    obtain ⟨W0, hW0⟩ : ∃ W0, W0 = (w.alloc (.cells #[.bool false, .slice none 0 0] 43)).alloc (.cells #[.bool false, .slice none 0 0] 43) := ⟨_, rfl⟩
    have hb0 : Below w.heap.size w (w.alloc (.cells #[.bool false, .slice none 0 0] 43)) := (Below.refl _ _).alloc (Nat.le_refl _) _
    have HB0 := Lib.hid (show Below w.heap.size w W0 by rw [hW0]; exact hb0.alloc hb0.size _)
    have HR := Lib.hid (show BxO W0 w.heap.size w.heap.size false (.slice none 0 0) by rw [hW0]; exact (BxO.new w w.heap.size (Nat.le_refl _) false (.slice none 0 0)).alloc _)
    have HX := Lib.hid (show BxO W0 w.heap.size (w.heap.size + 1) false (.slice none 0 0) by
      have h := BxO.new (w.alloc (.cells #[.bool false, .slice none 0 0] 43)) w.heap.size hb0.size false (.slice none 0 0)
      rw [push_size, ← hW0] at h; exact h)
    rw [← hW0]
    clear hW0 hb0
    rw [HE.out]
    go_loopw [3, 5, 6, 7] (fun tv _ _ _ wr => ∃ (u : ByteArray) (vo : Option Addr) (vc : Nat) (L : List Nat), tv = .string u ∧ u.size ≤ 100000 ∧ L.length + u.size ≤ 100000 ∧ Hid (u.data.toList.all isD = true ∧ lt9 L ∧ val u.data.toList * 1000000000 ^ L.length + pv L = a) ∧ Hid (Ow wr (w.heap.size + 2) vo vc L) ∧ Hid (BxO wr w.heap.size (w.heap.size + 1) false (.slice vo L.length vc)) ∧ Hid (BxO wr w.heap.size w.heap.size false (.slice none 0 0)) ∧ Hid (Below w.heap.size w wr)) (fun tv _ _ _ _ => match tv with | .string u => u.size | _ => 0)
    case atStart => exact ⟨s0, none, 0, [], rfl, HSS.out.1, by simp; exact HSS.out.1, ⟨HSS.out.2.1, by simp [lt9], by simp [pv, HSS.out.2.2]⟩, Ow.nil _ _, HX, HR, HB0⟩
    case round =>
      obtain ⟨u, vo, vc, L, rfl, hul, hLl, HI, HO, HXR, HRR, HB⟩ := hrel
      have hbs := HB.out.size
      by_cases hu0 : u.size = 0
      · have hI := HI.out.2.2
        have hnil : u.data.toList = [] := by have := len_list u; rw [hu0] at this; exact List.length_eq_zero_iff.1 this
        rw [hnil, val_nil, Nat.zero_mul, Nat.zero_add] at hI
        have hgt : ¬ (0 : Int) < u.size := by omega
        have hpd := HO.out.pd HI.out.2.1
        have HT := Lib.hid (trimY_any false vo vc L wr hpd)
        have HNW := Lib.hid (show NewO (w.heap.size + 2) vo from HO.out.newO)
        have HWH := Lib.hid (Wh.trimmed false hpd z (by rw [hI]; exact HAZ.out) (fun h0 => HBZ.out h0))
        have x0 := HXR.out.neg
        have x1 := HXR.out.dig
        have HRX := HRR.out
        clear hI hnil hu0 hpd HI HO
        go_wp2_with fail
        refine HT.out.mono ?_
        rintro e w1 ⟨rfl, h1⟩
        have B1 := Lib.hid (HB.out.trans (h1.mono HB.out.size))
        have R1 := Lib.hid (HRX.kept h1)
        have HN := Lib.hid (HWH.out.below h1)
        clear h1 HT HB HRR HXR x0 x1 HRX HWH
        obtain ⟨V, hV⟩ : ∃ V, V = (false && decide (0 < (trimP L).length)) := ⟨_, rfl⟩
        obtain ⟨M, hM⟩ : ∃ M, M = trimP L := ⟨_, rfl⟩
        rw [← hM] at hV HN ⊢
        rw [← hV] at HN ⊢
        unfold whV
        obtain ⟨m, hm⟩ : ∃ m, m = M.length := ⟨_, rfl⟩
        have HM := Lib.hid hm
        rw [← hm]
        clear hV hM hm
        have f0 := R1.out.free 0
        have f1 := R1.out.free 1
        have e0 := R1.out.neg
        have e1 := R1.out.dig
        have Y1 := R1.out.set0 V
        have y1 := Y1.free 1
        have z1 := Y1.dig
        have Y2 := Y1.set1 (.slice vo m vc)
        have u0 := Y2.neg
        have u1 := Y2.dig
        have HBE := Lib.hid ((B1.out.setCell (p := ⟨w.heap.size, 0, none⟩) (Nat.le_refl _) (.bool V)).setCell (p := ⟨w.heap.size, 1, none⟩) (Nat.le_refl _) (.slice vo m vc))
        have HWE := Lib.hid ((HN.out.stored w.heap.size 0 (.bool V) (HNW.out.ne (by omega))).stored w.heap.size 1 (.slice vo m vc) (HNW.out.ne (by omega)))
        clear Y1 Y2 R1 HN
        go_wp2_with fail
        (try simp only [Exit.inBlock, Exit.then])
        refine bodyPost_ret (v := .agg #[.bool V, .slice vo m vc]) ?_ rfl ⟨⟨V, vo, vc, M, by rw [HM.out], HWE.out, HNW.out.mono (by omega)⟩, HBE.out⟩
        rw [results_cell_one rfl]
        go_simp
      · have hup : (0 : Int) < u.size := by omega
        obtain ⟨f, hf⟩ : ∃ f, f = u.size - 9 := ⟨_, rfl⟩
        have hfu : f ≤ u.size := by omega
        have hf9 : u.size ≤ f + 9 := by omega
        have hflt : f < u.size := by omega
        have hmx := max_from u.size
        rw [← hf] at hmx
        have hw9 := IntWalk.i64_in ((u.size : Int) - 9) ⟨by omega, by omega⟩
        have HSV := Lib.hid (split_val hfu (by omega) (1000000000 ^ L.length))
        have HF := Lib.hid hflt
        have HAT := Lib.hid (fun wx => atoiY hflt hf9 HI.out.1 wx)
        have hv9 : val (u.data.toList.drop f) < 1000000000 := by
          have h1 := val_lt (u.data.toList.drop f) (List.all_eq_true.2 fun x hx => List.all_eq_true.1 HI.out.1 x (List.mem_of_mem_drop hx))
          have h2 : (u.data.toList.drop f).length ≤ 9 := by rw [List.length_drop, len_list]; omega
          exact Nat.lt_of_lt_of_le h1 (Nat.le_trans (Nat.pow_le_pow_right (by decide) h2) (show 10 ^ 9 ≤ 1000000000 by decide))
        obtain ⟨v, hv⟩ : ∃ v, v = val (u.data.toList.drop f) := ⟨_, rfl⟩
        rw [← hv] at hv9 HSV HAT
        have HI2 := Lib.hid (show (u.extract 0 f).data.toList.all isD = true ∧ lt9 (L ++ [v]) ∧ val (u.extract 0 f).data.toList * 1000000000 ^ (L ++ [v]).length + pv (L ++ [v]) = a by
          have e : (u.extract 0 f).data.toList = u.data.toList.take f := by rw [ext_list, List.drop_zero]
          refine ⟨by rw [e]; exact List.all_eq_true.2 fun x hx => List.all_eq_true.1 HI.out.1 x (List.mem_of_mem_take hx), lt9_snoc HI.out.2.1 hv9, ?_⟩
          have h3 := HI.out.2.2
          rw [HSV.out] at h3
          rw [e, List.length_append, pv_snoc]
          show val (List.take f u.data.toList) * 1000000000 ^ (L.length + 1) + _ = a
          rw [Nat.pow_succ]; omega)
        have HES := Lib.hid (show (u.extract 0 f).size = f by rw [ByteArray.size_extract]; omega)
        obtain ⟨us, hus⟩ : ∃ us, us = u.extract 0 f := ⟨_, rfl⟩
        rw [← hus] at HI2 HES
        have HUS := Lib.hid hus.symm
        clear hv hf hu0 HSV HI hus
        have HOO := HO.out
        have HXX := HXR.out
        have HRX := HRR.out
        clear HO HXR HRR
        go_wp2_with fail
        refine (HAT.out _).mono ?_
        rintro e w1 ⟨rfl, h1⟩
        have B1 := Lib.hid (HB.out.trans (h1.mono HB.out.size))
        have O1 := Lib.hid (HOO.below h1)
        have X1 := Lib.hid (HXX.kept h1)
        have R1 := Lib.hid (HRX.kept h1)
        have x1 := X1.out.dig
        have hbs1 := B1.out.size
        have hlt1 := X1.out.lt.2
        clear h1 HAT HOO HXX HRX HB
        go_wp2_with (at_builtin; refine wpList_append_own _ rfl _ _ 41 rfl (w.heap.size + 2) 3 i0 (.int .i64 0) 1 8 Tryz.underlying41 hi hz0 hz1 hz2 rfl (by decide) _ _ _ rfl (World.ownsRow.alloc O1.out _) ⟨w1.heap.size, 0, none⟩ 1 1 [.int .i64 (v : Int)] rfl rfl (lies1 _ _) (ones1 _) (by unfold maxLen; omega) (by omega) (by rw [push_size]; omega) ?_)
        intro v' w2 hown' hgrow _
        obtain ⟨g', cap', rfl, how⟩ := Ow.snoc (L := L) (x := v) hown' (by omega) (by first | rfl | (simp [cI]))
        have hrow : ∀ k, (Value.slice vo L.length vc).ownBlock = some k → w.heap.size + 2 ≤ k := fun k hk => (World.ownsRow.lt O1.out k hk).1
        have hbel2 : Below w.heap.size w w2 := (B1.out.alloc hbs1 _).grown hgrow (by simp; omega) (by intro q hq; have := hrow q hq; omega)
        have X2 := (X1.out.alloc (.cells #[.int .i64 (v : Int)] 3)).grown hgrow (fun k hk => by have := hrow k hk; omega)
        have R2 := Lib.hid ((R1.out.alloc (.cells #[.int .i64 (v : Int)] 3)).grown hgrow (fun k hk => by have := hrow k hk; omega))
        have f1 := X2.free 1
        have x2 := X2.dig
        have hln : ((L ++ [v]).length) = L.length + 1 := by simp
        have hX3 := X2.set1 (.slice (some ⟨g', 0, none⟩) (L.length + 1) cap')
        have X3 := Lib.hid (show BxO (w2.setCell ⟨w.heap.size + 1, 1, none⟩ (.slice (some ⟨g', 0, none⟩) (L.length + 1) cap')) w.heap.size (w.heap.size + 1) false (.slice (some ⟨g', 0, none⟩) (L ++ [v]).length cap') by rw [hln]; exact hX3)
        have R3 := Lib.hid (R2.out.other (p := ⟨w.heap.size + 1, 1, none⟩) (by show w.heap.size ≠ w.heap.size + 1; omega) (.slice (some ⟨g', 0, none⟩) (L.length + 1) cap'))
        have O3 := Lib.hid (show Ow (w2.setCell ⟨w.heap.size + 1, 1, none⟩ (.slice (some ⟨g', 0, none⟩) (L.length + 1) cap')) (w.heap.size + 2) (some ⟨g', 0, none⟩) cap' (L ++ [v]) from ownsRow_setCell_other how (by have := (World.ownsRow.lt how g' rfl).1; simp [Value.ownBlock]; omega) _)
        have B3 := Lib.hid (hbel2.setCell (p := ⟨w.heap.size + 1, 1, none⟩) (by show w.heap.size ≤ w.heap.size + 1; omega) (.slice (some ⟨g', 0, none⟩) (L.length + 1) cap'))
        have HLN := Lib.hid hln
        rw [hln]
        clear hown' hgrow how hbel2 hln hX3 X2 R2 x1 X1 R1 O1 hrow
        go_wp2_with fail
        rw [HUS.out]
        all_goals go_roundw
        case rel => exact ⟨us, some ⟨g', 0, none⟩, cap', L ++ [v], rfl, by rw [HES.out]; omega, by rw [HES.out, HLN.out]; omega, HI2, O3, X3, R3, B3⟩
        case measure => show us.size < u.size; rw [HES.out]; exact HF.out
end Go.Proofs.YtdgbplppabalgaaGreatDoor

namespace Go.Proofs.YtdgbplppabalgaaGreatDoor
open Go.RowKit

theorem repY (k : Nat) (w : World) (hk : k ≤ 100000) :
    Calls Tryz.prog 30 #[.string ⟨#[48]⟩, .int .i64 (k : Int)] w fun e w' => e = .returned (.string ⟨(List.replicate k (48 : UInt8)).toArray⟩) ∧ Below w.heap.size w w' := by
  refine (Tryz.strings_Repeat ⟨#[48]⟩ k w (by omega) (by show 1 * k ≤ _; omega)).mono ?_
  rintro e w2 ⟨rfl, h⟩
  exact ⟨by rw [show (⟨#[48]⟩ : ByteArray).data.toList = [48] from rfl, rep_zero], h⟩
theorem rep_size (k : Nat) : (⟨(List.replicate k (48 : UInt8)).toArray⟩ : ByteArray).size = k := by
  rw [← len_list]; simp
set_option maxHeartbeats 3200000 in
set_option maxRecDepth 100000 in
theorem fromY_any (b : Bool) (o : Option Addr) (c : Nat) (L : List Nat) (z : Int) (w : World) (hs : Std w) (h : Wh w b o c L z) (hl : L.length ≤ 100000) :
    Calls Tryz.prog 52 #[whV b o c L] w fun e w' => e = .returned (.string (zS z)) ∧ Below w.heap.size w w' := by
  have HX0 := BxO.new w w.heap.size (Nat.le_refl _) b (.slice o L.length c)
  have hlc := h.pd.lc
  have hlim := h.pd.lim
  by_cases h0 : L.length = 0
  · have hz := h.len_zero.1 h0
    have HV := Lib.hid (show zS z = ⟨#[48]⟩ by rw [hz]; exact zS_zero)
    have x1 := HX0.dig
    have HB := Lib.hid ((Below.refl w.heap.size w).alloc (Nat.le_refl _) (.cells #[.bool b, .slice o L.length c] 43))
    unfold whV
    obtain ⟨n, hn⟩ : ∃ n, n = L.length := ⟨_, rfl⟩
    rw [← hn] at x1 HB h0 ⊢
    subst h0
    clear HX0 h hl hz hn
    go_enter Tryz.func52, Tryz.ntmps52
    go_wp2_with fail
    go_ret
    exact ⟨by rw [HV.out]; rfl, HB.out⟩
  · have htop := last_pos h.pcs (by omega)
    have HPV := Lib.hid h.pcs.val
    have HNG := Lib.hid h.neg
    have HPD := Lib.hid h.pd
    have HT := Lib.hid (fun wx hw (r : Nat) (hr : r < 1000000000) => itoaZ (r : Int) wx hw (by omega) (by omega))
    have HREP := Lib.hid (fun wx (k : Nat) (hk : k ≤ 100000) => repY k wx hk)
    have HS := Lib.hid hs
    obtain ⟨a, ha⟩ : ∃ a, a = z.natAbs := ⟨_, rfl⟩
    rw [← ha] at HPV
    have HZ := Lib.hid (show zS z = if b = true then ⟨#[45]⟩ ++ str a else str a by
      rw [HNG.out, ha]
      by_cases hz : z < 0
      · rw [decide_eq_true hz, if_pos rfl, zS_neg hz]
      · rw [decide_eq_false hz, if_neg (by decide), zS_pos hz])
    have has : (str a).size ≤ 1000000 := by
      have h1 := pv_lt L h.pcs.lt
      rw [h.pcs.val, ← ha, ← pow9] at h1
      exact Nat.le_trans (str_big (n := 9 * L.length + 1) (Nat.lt_of_lt_of_le h1 (Nat.pow_le_pow_right (by decide) (by omega))) (by omega)) (by omega)
    obtain ⟨m, hm⟩ : ∃ m, m = L.length := ⟨_, rfl⟩
    have HM := Lib.hid hm
    have HTOP := Lib.hid (show 0 < L.getD (m - 1) 0 by
      rw [getD_in (by omega)]
      have := htop
      simp only [hm]; exact this)
    unfold whV
    rw [← hm] at HX0 h0 hl hlc ⊢
    have hmp : ((m : Int) == 0) = false := by rw [beq_eq_false_iff_ne]; omega
    clear h hs htop hm ha
    go_enter Tryz.func52, Tryz.ntmps52
    obtain ⟨W0, hW0⟩ : ∃ W0, W0 = w.alloc (.cells #[.bool b, .slice o m c] 43) := ⟨_, rfl⟩
    have HB0 := Lib.hid (show Below w.heap.size w W0 by rw [hW0]; exact (Below.refl w.heap.size w).alloc (Nat.le_refl _) _)
    have HX := Lib.hid (show BxO W0 w.heap.size w.heap.size b (.slice o m c) by rw [hW0]; exact HX0)
    have x1 := HX.out.dig
    clear HX0
    rw [hW0] at x1
    go_wp2_with fail
    rw [← hW0] at x1 ⊢
    clear hW0 x1
    go_loopw [3, 4, 5] (fun sv iv _ wr => ∃ (s : ByteArray) (i : Nat), sv = .string s ∧ iv = .int .i64 (i : Int) ∧ i ≤ m ∧ s.size ≤ 1000000 ∧ Hid ((i < m → Lows s (L.take i)) ∧ (i = m → s = str a)) ∧ Hid (BxO wr w.heap.size w.heap.size b (.slice o m c)) ∧ Hid (Below w.heap.size w wr)) (fun _ iv _ _ => m - (intOf iv).toNat)
    case atStart => exact ⟨⟨#[]⟩, 0, rfl, rfl, Nat.zero_le _, by decide, ⟨fun _ => Lows.nil, fun h => absurd h.symm h0⟩, HX, HB0⟩
    case round =>
      obtain ⟨s, i, rfl, rfl, him, hss, HI, HXR, HB⟩ := hrel
      have x0 := HXR.out.neg
      have x1 := HXR.out.dig
      by_cases hlt : i < m
      · obtain ⟨g, rfl, hci⟩ := (HPD.out.below HB.out).at i (by have := HM.out; omega)
        have hx9 := getD_lt HPD.out.nine i
        have HLW := Lib.hid (HI.out.1 hlt)
        have HTK := Lib.hid (show L.take (i + 1) = L.take i ++ [L.getD i 0] by
          have hi : i < L.length := by have := HM.out; omega
          rw [getD_in hi, List.take_add_one, List.getElem?_eq_getElem hi]; rfl)
        have HTX := Lib.hid (show i + 1 = m → 0 < L.getD i 0 from fun h => by have := HTOP.out; rw [← h] at this; exact this)
        obtain ⟨x, hx⟩ : ∃ x, x = L.getD i 0 := ⟨_, rfl⟩
        rw [← hx] at hci hx9 HTK HTX
        have HT1 := Lib.hid (fun wx hw => HT.out wx hw x hx9)
        rw [zS_of_nat] at HT1
        have hxs : (str x).size ≤ 9 := str_big (n := 9) (Nat.lt_of_lt_of_le hx9 (by decide)) (by decide)
        have hXRo := HXR.out
        by_cases hmore : i + 1 < m
        · obtain ⟨k, hk⟩ : ∃ k, k = 9 - (str x).size := ⟨_, rfl⟩
          have HL2 := Lib.hid (HLW.out.more (x := x) (k := k) (by omega))
          rw [← HTK.out] at HL2
          have HR1 := Lib.hid (fun wx => HREP.out wx k (by omega))
          have hrs := rep_size k
          obtain ⟨zs, hzs⟩ : ∃ zs, zs = (⟨(List.replicate k (48 : UInt8)).toArray⟩ : ByteArray) := ⟨_, rfl⟩
          rw [← hzs] at HL2 HR1 hrs
          obtain ⟨d, hd⟩ : ∃ d, d = str x := ⟨_, rfl⟩
          rw [← hd] at HT1 hxs HL2 hk
          have hki : (9 : Int) - (d.size : Int) = (k : Int) := by omega
          have hwk := IntWalk.i64_in (k : Int) ⟨by omega, by omega⟩
          have hmi : ((i : Int) + 1) < (m : Int) := by omega
          have HSZ := Lib.hid (show ((zs ++ d) ++ s).size ≤ 1000000 by
            have h5 := HL2.out.size
            have h6 : (L.take (i + 1)).length ≤ 100000 := by rw [List.length_take]; omega
            omega)
          clear hx hzs hd hk HTX HTK HLW HXR HI
          go_wp2_with fail
          refine (HT1.out _ (HS.out.below HB.out)).mono ?_
          rintro e w1 ⟨rfl, h1⟩
          have B1 := Lib.hid (HB.out.trans (h1.mono HB.out.size))
          have X1 := Lib.hid (hXRo.kept h1)
          have y1 := X1.out.dig
          clear h1 hXRo
          go_wp2_with fail
          refine (HR1.out _).mono ?_
          rintro e w2 ⟨rfl, h2⟩
          have B2 := Lib.hid (B1.out.trans (h2.mono B1.out.size))
          have X2 := Lib.hid (X1.out.kept h2)
          clear h2
          go_wp2_with fail
          all_goals go_roundw
          case rel => exact ⟨(zs ++ d) ++ s, i + 1, rfl, by go_num, by omega, HSZ.out, ⟨fun _ => HL2.out, fun h => absurd h (by omega)⟩, X2, B2⟩
          case measure => simp [intOf] <;> omega
        · have hie : i + 1 = m := by omega
          have HTP := Lib.hid (show str x ++ s = str a by
            rw [HLW.out.top (HTX.out hie), ← HTK.out, pv_all (by have := HM.out; omega), HPV.out])
          obtain ⟨d, hd⟩ : ∃ d, d = str x := ⟨_, rfl⟩
          rw [← hd] at HT1 hxs HTP
          have hmi : ¬ ((i : Int) + 1) < (m : Int) := by omega
          clear hx hd HTX HTK HLW HXR HI
          go_wp2_with fail
          refine (HT1.out _ (HS.out.below HB.out)).mono ?_
          rintro e w1 ⟨rfl, h1⟩
          have B1 := Lib.hid (HB.out.trans (h1.mono HB.out.size))
          have X1 := Lib.hid (hXRo.kept h1)
          have y1 := X1.out.dig
          clear h1 hXRo
          go_wp2_with fail
          all_goals go_roundw
          case rel => exact ⟨d ++ s, i + 1, rfl, by go_num, by omega, by rw [HTP.out]; exact has, ⟨fun h => absurd h (by omega), fun _ => HTP.out⟩, X1, B1⟩
          case measure => simp [intOf] <;> omega
      · have HSE := Lib.hid (HI.out.2 (by omega))
        have HZ2 := HZ.out
        rw [← HSE.out] at HZ2
        clear HI HSE
        cases b with
        | true =>
          have HV := Lib.hid (show zS z = ⟨#[45]⟩ ++ s by rw [HZ2, if_pos rfl])
          clear HZ2 HZ HNG
          go_wp2_with fail
          go_ret
          exact ⟨by rw [HV.out]; rfl, HB.out⟩
        | false =>
          have HV := Lib.hid (show zS z = s by rw [HZ2, if_neg (by decide)])
          clear HZ2 HZ HNG
          go_wp2_with fail
          go_ret
          exact ⟨by rw [HV.out]; rfl, HB.out⟩
end Go.Proofs.YtdgbplppabalgaaGreatDoor
