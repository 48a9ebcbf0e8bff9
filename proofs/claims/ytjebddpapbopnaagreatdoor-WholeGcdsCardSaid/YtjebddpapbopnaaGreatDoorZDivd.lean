/-
  The reference of package whole: divide.
-/
import Derived.Test.YtjebddpapbopnaaGreatDoorZTimes
import Derived.Deep.AppendSrc
import Derived.OneCell
namespace Go.Proofs.YtjebddpapbopnaaGreatDoor
open Go.RowKit

/-- append of nothing to a literal of one element -/
theorem ap_more {P : Program} {w : World} {ops : Array Oper} {rest : List Oper} {o : Oper} {a : Act} {Q : Exit → Act → World → Prop} (hgd : o.guard = none) (s x : Operand) (t : TypeId)
    (ho : o.op = .call { callee := .builtin .append, args := #[s, x], argTypes := #[t, t] })
    (e : TypeId) (i : TypeInfo) (ht : P.underlying t = some (.slice e)) (hi : P.info? e = some i) (g : Nat) (A : Option Addr) (c : Nat)
    (hs : a.eval s = .slice (some ⟨g, 0, none⟩) 1 1) (hx : a.eval x = .slice A 0 c) (h : wpList P ops Q rest (a.put o.dst (.slice (some ⟨g, 0, none⟩) 1 1)) w) : wpList P ops Q (o :: rest) a w := by
  refine wpList_plain hgd fun K hK => ?_
  have hrun : (Builtin.append_ #[t, t] o.type #[.slice (some ⟨g, 0, none⟩) 1 1, .slice A 0 c]).run P w = .ok (.slice (some ⟨g, 0, none⟩) 1 1) w := by
    cases A with
    | none => exact run_append_room_src w t t o.type e i ht hi g 0 1 1 _ 0 [] (Src.ofNil w ht c) (Nat.le_refl _) (fun j hj => absurd hj (by simp)) (fun j hj => absurd hj (by simp))
    | some ad => exact run_append_room_src w t t o.type e i ht hi g 0 1 1 _ 0 [] (Src.ofSlice w ht ad 0 c [] (by simp) (by simp) (by simp)) (Nat.le_refl _) (fun j hj => absurd hj (by simp)) (fun j hj => absurd hj (by simp))
  unfold Oper.wp
  simp [execOp, ho, resolve, invoke, builtin, hs, hx, hrun, Result.andThen]
  exact hK _ _ h
theorem own_one (w : World) (B : Nat) (hB : B ≤ w.heap.size) (n : Int) : (w.alloc (.cells #[.int .i64 n] 3)).ownsRow B 3 1 (.slice (some ⟨w.heap.size, 0, none⟩) 1 1) 1 [.int .i64 n] :=
  World.ownsRow_lit w #[.int .i64 n] 1 hB (by unfold maxLen; decide) rfl
theorem Pd.one (w : World) (n : Nat) (hn : n < 1000000000) : Pd (w.alloc (.cells #[.int .i64 (n : Int)] 3)) (some ⟨w.heap.size, 0, none⟩) 1 [n] := by
  refine ⟨Nat.le_refl _, by decide, fun x hx => by simp at hx; omega, .inr ⟨w.heap.size, rfl, by rw [alloc_size]; omega, fun i hi => ?_⟩⟩
  have : i = 0 := by simp at hi; omega
  subst this
  rw [World.cell?_alloc_new]; rfl
theorem src_cellsZ {w : World} {g : Nat} {l : List Nat} (hg : g < w.heap.size) (h : ∀ i (h : i < l.length), w.cell? ⟨g, i, none⟩ = some (.int .i64 ((l[i]'h : Nat) : Int))) (o : Obj) : ∀ j u, (cI l)[j]? = some u → (w.alloc o).cell? ((⟨g, 0, none⟩ : Addr).add j) = some u := by
  intro j u hu
  have hj : j < l.length := by
    apply Nat.lt_of_not_le; intro hle
    rw [List.getElem?_eq_none (by rw [cI_len]; exact hle)] at hu; cases hu
  rw [cI_at l j hj] at hu
  rw [Lib.add_plain, Nat.zero_add, ← hu]
  have hb := ((Below.refl w.heap.size w).alloc (Nat.le_refl _) o).cell (p := ⟨g, j, none⟩) hg
  rw [hb]; exact h j hj
theorem ones_cI (l : List Nat) : ∀ u ∈ cI l, u.oneCell' = true := by
  intro u hu
  obtain ⟨z, _, rfl⟩ := List.mem_map.1 hu
  rfl
theorem pv_one (n : Nat) : pv [n] = n := by simp [pv]
theorem pv_cons (n : Nat) (l : List Nat) : pv (n :: l) = n + 1000000000 * pv l := rfl
theorem quot_lt {u r y : Nat} (hu : u < 1000000000) (hr : r < y) : (u + 1000000000 * r) / y < 1000000000 := by
  rw [Nat.div_lt_iff_lt_mul (by omega)]
  have h : 1000000000 * (r + 1) ≤ 1000000000 * y := Nat.mul_le_mul_left _ hr
  omega
theorem Pd.stored {w : World} {o : Option Addr} {c : Nat} {l : List Nat} (h : Pd w o c l) (g k : Nat) (v : Value) (hne : ∀ g', o = some ⟨g', 0, none⟩ → g' ≠ g) : Pd (w.setCell ⟨g, k, none⟩ v) o c l := by
  refine ⟨h.lc, h.lim, h.nine, ?_⟩
  rcases h.cell with h6 | ⟨g6, e6, hl6, hc6⟩
  · exact .inl h6
  · exact .inr ⟨g6, e6, Nat.lt_of_lt_of_le hl6 ((Below.refl 0 w).setCell (p := ⟨g, k, none⟩) (Nat.zero_le _) v).size, fun i hi6 => by
      rw [World.cell?_of_block (w := w) (a := ⟨g6, i, none⟩) (Below.heap_setCell w ⟨g, k, none⟩ v g6 (hne g6 e6))]; exact hc6 i hi6⟩
theorem Ow.below {w w' : World} {B : Nat} {vo : Option Addr} {vc : Nat} {L : List Nat} (h : Ow w B vo vc L) (hb : Below w.heap.size w w') : Ow w' B vo vc L :=
  World.ownsRow.kept (row := none) h ⟨hb.os, hb.tape, hb.output, hb.size, fun t ht _ => hb.block t ht⟩ (by cases vo with
    | none => exact .inl rfl
    | some ad => exact .inr (by simp [Value.ownBlock]))
/-- what holds at the head of the division's loop -/
structure DvZ (p L : List Nat) (m k y r : Nat) : Prop where
  len : L.length = m
  nine : lt9 L
  eq : pv (p.drop k) = pv (L.drop k) * y + r
  lt : r < y
theorem DvZ.step {p L : List Nat} {m j y r : Nat} (h : DvZ p L m (j + 1) y r) (hm : p.length = m) (hj : j < m) (hu : p.getD j 0 < 1000000000) :
    DvZ p (L.set j ((p.getD j 0 + 1000000000 * r) / y)) m j y ((p.getD j 0 + 1000000000 * r) - y * ((p.getD j 0 + 1000000000 * r) / y)) := by
  obtain ⟨h1, h2, h3, h4⟩ := h
  have hq := quot_lt hu h4
  have hdm := Nat.div_add_mod (p.getD j 0 + 1000000000 * r) y
  have hmd := Nat.mod_lt (p.getD j 0 + 1000000000 * r) (show 0 < y by omega)
  obtain ⟨Q, hQ⟩ : ∃ Q, Q = (p.getD j 0 + 1000000000 * r) / y := ⟨_, rfl⟩
  rw [← hQ] at hq hdm ⊢
  have hp := drop_pv (p := p) (j := j) (by omega)
  rw [← getD_in (l := p) (k := j) (by omega)] at hp
  have hl : j < (L.set j Q).length := by rw [List.length_set]; omega
  have hL := drop_pv (p := L.set j Q) (j := j) hl
  have hdr : (L.set j Q).drop (j + 1) = L.drop (j + 1) := List.drop_set_of_lt (by omega)
  rw [List.getElem_set_self, hdr] at hL
  refine ⟨by rw [List.length_set]; exact h1, lt9_set h2 hq, ?_, by omega⟩
  rw [hp, hL, h3, Nat.add_mul, Nat.mul_assoc, Nat.mul_comm Q y]
  omega
set_option maxHeartbeats 6400000 in
set_option maxRecDepth 100000 in
theorem divideZ_any (a : Option Addr) (ca : Nat) (p : List Nat) (b : Option Addr) (cb : Nat) (q : List Nat) (x y : Nat) (w : World) (ha : Pd w a ca p) (hb : Pd w b cb q) (hp : Pcs p x) (hq : Pcs q y) (hy : 0 < y) (hpl : p.length ≤ 50000) (hql : q.length ≤ 50000) :
    Calls Tryz.prog 78 #[.slice a p.length ca, .slice b q.length cb] w fun e w' => ∃ (o : Option Addr) (c : Nat) (r : List Nat) (o2 : Option Addr) (c2 : Nat) (r2 : List Nat), e = .returned (.tuple #[.slice o r.length c, .slice o2 r2.length c2]) ∧ Pd w' o c r ∧ Pcs r (x / y) ∧ Pd w' o2 c2 r2 ∧ Pcs r2 (x % y) ∧ Below w.heap.size w w' := by
  obtain ⟨i0, hi, hz0, hz1, hz2⟩ := info_parts infoZ
  have h1 := ha.lc
  have h2 := ha.lim
  have h3 := hb.lc
  have h4 := hb.lim
  have HPA := Lib.hid (fun (wx : World) (hw : Below w.heap.size w wx) i hi => (ha.below hw).at i hi)
  have HQB := Lib.hid (fun (wx : World) (hw : Below w.heap.size w wx) => hb.below hw)
  have HQ := Lib.hid hq
  have HV : Hid (lt9 p ∧ pv p = x) := ⟨hp.lt, hp.val⟩
  have HY := Lib.hid hy
  have HTIM := Lib.hid (fun (wx : World) (n : Nat) (hn : n < 1000000000) (hw : Below w.heap.size w wx) => (show Calls Tryz.prog 74 #[.slice b q.length cb, .slice (some ⟨wx.heap.size, 0, none⟩) 1 1] (wx.alloc (.cells #[.int .i64 (n : Int)] 3)) fun e w' => ∃ (o : Option Addr) (c : Nat) (r : List Nat), e = .returned (.slice o r.length c) ∧ Pd w' o c r ∧ Pcs r (y * n) ∧ r.length ≤ q.length + 1 ∧ Below wx.heap.size wx w' by
    have hal := (Below.refl wx.heap.size wx).alloc (Nat.le_refl _) (.cells #[.int .i64 (n : Int)] 3)
    have h := timesZ_any b cb q (some ⟨wx.heap.size, 0, none⟩) 1 [n] _ ((hb.below hw).below hal) (Pd.one wx n hn) (by omega) (by simp)
    refine h.mono ?_
    rintro e w' ⟨o, c, r, he, hr, hrp, hbb⟩
    rw [pv_one, hq.val] at hrp
    refine ⟨o, c, r, he, hr, hrp, ?_, hal.trans (hbb.mono hal.size)⟩
    have hlt := pv_lt q hq.lt
    rw [hq.val] at hlt
    have hyn : y * n < 1000000000 ^ (q.length + 1) := by
      rw [Nat.pow_succ]
      rcases Nat.eq_zero_or_pos n with h0 | h0
      · subst h0; rw [Nat.mul_zero]; exact Nat.mul_pos (Nat.pow_pos (by decide)) (by decide)
      · exact Nat.mul_lt_mul'' hlt hn
    exact hrp.len_of_lt hyn))
  clear ha hb hp hq
  obtain ⟨m, hm⟩ : ∃ m, m = p.length := ⟨_, rfl⟩
  obtain ⟨n, hn⟩ : ∃ m, m = q.length := ⟨_, rfl⟩
  have HM := Lib.hid hm
  have HN := Lib.hid hn
  rw [← hm] at h1 hpl HPA ⊢
  rw [← hn] at h3 hql HTIM ⊢
  clear hm hn
  go_enter Tryz.func78, Tryz.ntmps78
  go_wp2_with (at_make; refine wpList_make_full _ rfl _ _ 68 rfl w.heap.size 3 i0 (.int .i64 0) 1 Tryz.underlying68 hi hz0 hz1 .i64 .i64 _ _ m rfl rfl (by omega) (by omega) (by rw [hz2]; omega) (by unfold maxLen; omega) (Nat.le_refl _) ?_; intro w0 hown0 hgrow0)
  have hbel0 : Below w.heap.size w w0 := (Below.refl _ _).grown hgrow0 (Nat.le_refl _) (by intro k hk; cases hk)
  have HB0 := Lib.hid hbel0
  have HR0 := Lib.hid (Ow.made hown0)
  clear hown0 hgrow0 hbel0
  go_wp2_with fail
  go_loopw [7, 8, 9, 10, 11] (fun rv iv _ _ _ wr => ∃ (E : Int) (k r : Nat) (L R : List Nat) (o : Option Addr) (c : Nat), rv = .slice o R.length c ∧ iv = .int .i64 E ∧ -1 ≤ E ∧ E < m ∧ R.length ≤ n ∧ Hid (E = (k : Int) - 1 ∧ DvZ p L m k y r ∧ Pcs R r ∧ Pd wr o c R) ∧ Hid (Ow wr w.heap.size (some ⟨w.heap.size, 0, none⟩) m L) ∧ Hid (Below w.heap.size w wr)) (fun _ iv _ _ _ _ => (intOf iv + 1).toNat)
  case atStart => exact ⟨_, m, 0, List.replicate m 0, [], none, 0, rfl, rfl, by omega, by omega, Nat.zero_le _, ⟨rfl, ⟨by simp, lt9_replicate _, by rw [List.drop_of_length_le (by have := HM.out; omega), List.drop_of_length_le (by simp)]; simp [pv], HY.out⟩, Pcs.nil, ⟨Nat.le_refl _, by decide, by simp [lt9], .inl ⟨rfl, rfl, rfl⟩⟩⟩, HR0, HB0⟩
  case round =>
    obtain ⟨E, k, r, L, R, o, c, rfl, rfl, hE1, hE2, hRn, HI, HO, HB⟩ := hrel
    by_cases hk0 : k = 0
    · have hE : E = -1 := by have := HI.out.1; omega
      subst hE
      have hdv := HI.out.2.1
      rw [hk0] at hdv
      have heq := hdv.eq
      rw [List.drop_zero, List.drop_zero, HV.out.2] at heq
      have hx1 : x / y = pv L := by
        rw [heq, Nat.mul_comm, Nat.add_comm]
        rw [Nat.add_mul_div_left _ _ HY.out, Nat.div_eq_of_lt hdv.lt, Nat.zero_add]
      have hx2 : x % y = r := by
        rw [heq, Nat.mul_comm, Nat.add_comm, Nat.add_mul_mod_self_left, Nat.mod_eq_of_lt hdv.lt]
      have hpd := HO.out.pd hdv.nine
      have HPC := Lib.hid (show Pcs (trimP L) (x / y) by rw [hx1]; exact Pcs.of_trim hdv.nine)
      have HR2 := Lib.hid (show Pcs R (x % y) by rw [hx2]; exact HI.out.2.2.1)
      have hT := trimZ_any (some ⟨w.heap.size, 0, none⟩) m L wr hpd
      rw [hdv.len] at hT
      have HT := Lib.hid hT
      have HPD := Lib.hid hpd.trim
      have HRD := Lib.hid HI.out.2.2.2
      clear heq hx1 hx2 hpd hT hdv HI hk0
      go_wp2_with fail
      refine HT.out.mono ?_
      rintro e w' ⟨rfl, rfl⟩
      go_wp2_with fail
      go_ret2
      exact ⟨_, _, trimP L, o, c, R, rfl, HPD.out, HPC.out, HRD.out, HR2.out, HB.out⟩
    · obtain ⟨j, rfl⟩ : ∃ j, k = j + 1 := ⟨k - 1, by omega⟩
      obtain rfl : E = (j : Int) := by have := HI.out.1; omega
      have hjm : j < m := by omega
      obtain ⟨g, rfl, hcj⟩ := HPA.out wr HB.out j hjm
      have hu9 := getD_lt HV.out.1 j
      have HST := Lib.hid (HI.out.2.1.step HM.out.symm hjm hu9)
      have hql2 := quot_lt hu9 HI.out.2.1.lt
      have HRP := Lib.hid HI.out.2.2.1
      have HRD := Lib.hid HI.out.2.2.2
      have hrl := HRD.out.lc
      have hrm := HRD.out.lim
      obtain ⟨u, hu⟩ : ∃ u, u = p.getD j 0 := ⟨_, rfl⟩
      rw [← hu] at hcj hu9 HST hql2
      obtain ⟨V, hV⟩ : ∃ V, V = u + 1000000000 * r := ⟨_, rfl⟩
      rw [← hV] at HST hql2
      have HPV := Lib.hid (show lt9 (u :: R) ∧ pv (u :: R) = V from ⟨fun z hz => by
          rcases List.mem_cons.1 hz with h | h
          · rw [h]; exact hu9
          · exact HRP.out.lt z h, by rw [pv_cons, HRP.out.val, hV]⟩)
      have HQS := Lib.hid (show ∀ t, (y * t ≤ V → t ≤ V / y) ∧ (t ≤ V / y → y * t ≤ V) from fun t => ⟨fun h => by rw [Nat.le_div_iff_mul_le HY.out, Nat.mul_comm]; exact h, fun h => by rw [Nat.le_div_iff_mul_le HY.out, Nat.mul_comm] at h; exact h⟩)
      obtain ⟨Qs, hQs⟩ : ∃ Q, Q = V / y := ⟨_, rfl⟩
      rw [← hQs] at HST hql2 HQS
      have hbs := HB.out.size
      have HHI := Lib.hid (show DvZ p L m (j + 1) y r from HI.out.2.1)
      clear hu hV hQs HI hk0
      by_cases hR0 : R.length = 0
      · have hRe : R = [] := List.length_eq_zero_iff.1 hR0
        subst hRe
        have HAL := Lib.hid ((Below.refl wr.heap.size wr).alloc (Nat.le_refl _) (.cells #[.int .i64 (u : Int)] 3))
        have HLP := Lib.hid (Pd.one wr u hu9)
        go_wp2_with (at_builtin; refine ap_more rfl _ _ 68 rfl 3 i0 Tryz.underlying68 hi wr.heap.size o c rfl rfl ?_)
        have hTT := trimZ_any (some ⟨wr.heap.size, 0, none⟩) 1 [u] (wr.alloc (.cells #[.int .i64 (u : Int)] 3)) HLP.out
        have HTT := Lib.hid hTT
        have HNP := Lib.hid HLP.out.trim
        have HNB := Lib.hid (HB.out.trans (HAL.out.mono hbs))
        have HNO := Lib.hid (show Ow (wr.alloc (.cells #[.int .i64 (u : Int)] 3)) w.heap.size (some ⟨w.heap.size, 0, none⟩) m L from World.ownsRow.alloc HO.out _)
        have hwlt := (World.ownsRow.lt HO.out w.heap.size rfl).2
        have HNE := Lib.hid (show ∀ g', (some ⟨wr.heap.size, 0, none⟩ : Option Addr) = some ⟨g', 0, none⟩ → g' ≠ w.heap.size from fun g' h => by injection h with h; injection h with h; omega)
        clear hTT HLP HAL hwlt
        go_wp2_with fail
        refine HTT.out.mono ?_
        rintro e w1 ⟨rfl, rfl⟩
        obtain ⟨w1, hw1⟩ : ∃ w1, w1 = wr.alloc (.cells #[.int .i64 (u : Int)] 3) := ⟨_, rfl⟩
        rw [← hw1] at HNP HNB HNO ⊢
        have HT1 := Lib.hid (show Pcs (trimP [u]) V by rw [← HPV.out.2]; exact Pcs.of_trim HPV.out.1)
        obtain ⟨T, hT⟩ : ∃ T, T = trimP [u] := ⟨_, rfl⟩
        rw [← hT] at HNP HT1 ⊢
        clear hw1 hT HTT HRD HRP HPV HO HB hbs
        obtain ⟨o1, ho1⟩ : ∃ o1 : Option Addr, o1 = some ⟨wr.heap.size, 0, none⟩ := ⟨_, rfl⟩
        obtain ⟨c1, hc1⟩ : ∃ c1, c1 = 1 := ⟨_, rfl⟩
        rw [← ho1, ← hc1] at HNP
        rw [← ho1] at HNE
        rw [← ho1]
        have hslc : (Value.slice o1 T.length 1) = Value.slice o1 T.length c1 := by rw [hc1]
        rw [hslc]
        clear ho1 hc1 hslc
        have htl : T.length ≤ n + 1 := by
          have hlt := pv_lt q HQ.out.lt
          rw [HQ.out.val, ← HN.out] at hlt
          have hVb : V < y * 1000000000 := by
            apply Nat.lt_of_not_le; intro hh
            have := (HQS.out 1000000000).1 hh; omega
          refine HT1.out.len_of_lt ?_
          rw [Nat.pow_succ]
          exact Nat.lt_of_lt_of_le hVb (Nat.mul_le_mul_right _ (Nat.le_of_lt hlt))
        have HTS := Lib.hid (fun (h : V < y) => HQ.out.len_mono HT1.out (Nat.le_of_lt h))
        obtain ⟨tn, htn⟩ : ∃ tn, tn = T.length := ⟨_, rfl⟩
        have HTN := Lib.hid htn
        rw [← htn] at htl ⊢
        clear htn
        go_wp2_with fail
        go_loopw [9, 10, 11] (fun lv hv _ wx => ∃ lo hi : Nat, lv = .int .i64 (lo : Int) ∧ hv = .int .i64 (hi : Int) ∧ hi ≤ 999999999 ∧ lo ≤ hi ∧ Hid (lo ≤ Qs ∧ Qs ≤ hi) ∧ Hid (Below w1.heap.size w1 wx)) (fun lv hv _ _ => (intOf hv - intOf lv).toNat)
        case atStart => exact ⟨0, 999999999, rfl, rfl, by decide, by decide, ⟨Nat.zero_le _, by omega⟩, Below.refl _ _⟩
        case round =>
          obtain ⟨lo, hi', rfl, rfl, hh9, hlh, HS, HBX⟩ := hrel
          have HWB := Lib.hid (show Below w.heap.size w wr from HNB.out.trans (HBX.out.mono HNB.out.size))
          by_cases hlt : lo < hi'
          · obtain ⟨mid, hmid⟩ : ∃ t, t = (lo + hi' + 1) / 2 := ⟨_, rfl⟩
            have hm1 : lo < mid := by omega
            have hm2 : mid ≤ hi' := by omega
            have hmi : ((lo : Int) + hi' + 1).tdiv 2 = (mid : Int) := by rw [Int.tdiv_eq_ediv_of_nonneg (by omega)]; omega
            have hmd : ((lo : Int) + hi' + 1) / 2 = (mid : Int) := by omega
            have ws := IntWalk.i64_in ((lo : Int) + hi' + 1) ⟨by omega, by omega⟩
            have wm := IntWalk.i64_in (mid : Int) ⟨by omega, by omega⟩
            have hti := HTIM.out wr mid (by omega) HWB.out
            have HTI := Lib.hid hti
            have hlti : (lo : Int) < (hi' : Int) := by omega
            clear hti hmid
            go_wp2_with fail
            refine HTI.out.mono ?_
            rintro e w4 ⟨o4, c4, r4, rfl, hr41, hr42, hr43, hb4⟩
            have hB4 := HBX.out.trans (hb4.mono HBX.out.size)
            have hor := orderZ_any o4 c4 r4 o1 c1 T (y * mid) V w4 hr41 (HNP.out.below hB4) hr42 HT1.out
            rw [← HTN.out] at hor
            obtain ⟨n4, hn4⟩ : ∃ n4, n4 = r4.length := ⟨_, rfl⟩
            rw [← hn4] at hor hr43 ⊢
            by_cases hle : y * mid ≤ V
            · have hc0 : cmpN (y * mid) V ≤ 0 := by rcases cmpN_ways (y * mid) V with ⟨h, e⟩ | ⟨h, e⟩ | ⟨h, e⟩ <;> rw [e] <;> omega
              obtain ⟨cc, hcc⟩ : ∃ t, t = cmpN (y * mid) V := ⟨_, rfl⟩
              rw [← hcc] at hor hc0
              have hcd : decide (cc ≤ 0) = true := decide_eq_true hc0
              have HOR := Lib.hid hor
              have HS2 := Lib.hid (show mid ≤ Qs ∧ Qs ≤ hi' from ⟨(HQS.out mid).1 hle, HS.out.2⟩)
              have HB4 := Lib.hid hB4
              clear hor hcc hr41 hr42 hb4 hB4 hle hn4
              go_wp2_with fail
              refine HOR.out.mono ?_
              rintro e w5 ⟨rfl, hb5⟩
              have HB5 := Lib.hid (HB4.out.trans (hb5.mono HB4.out.size))
              clear hb5
              go_wp2_with fail
              all_goals go_roundw
              case rel => exact ⟨mid, hi', rfl, rfl, hh9, hm2, HS2, HB5⟩
              case measure => simp [intOf] <;> omega
            · have hc0 : 0 < cmpN (y * mid) V := by rcases cmpN_ways (y * mid) V with ⟨h, e⟩ | ⟨h, e⟩ | ⟨h, e⟩ <;> rw [e] <;> omega
              obtain ⟨cc, hcc⟩ : ∃ t, t = cmpN (y * mid) V := ⟨_, rfl⟩
              rw [← hcc] at hor hc0
              have hcd : decide (cc ≤ 0) = false := decide_eq_false (by omega)
              have hcn : ¬ cc ≤ 0 := by omega
              have HOR := Lib.hid hor
              have HS2 := Lib.hid (show lo ≤ Qs ∧ Qs ≤ mid - 1 from ⟨HS.out.1, by
                have h5 := (HQS.out mid).2
                have h6 : ¬ mid ≤ Qs := fun h => hle (h5 h)
                omega⟩)
              have HB4 := Lib.hid hB4
              clear hor hcc hr41 hr42 hb4 hB4 hle hn4
              go_wp2_with fail
              refine HOR.out.mono ?_
              rintro e w5 ⟨rfl, hb5⟩
              have HB5 := Lib.hid (HB4.out.trans (hb5.mono HB4.out.size))
              clear hb5
              go_wp2_with fail
              all_goals go_roundw
              case rel => exact ⟨lo, mid - 1, rfl, by go_num, by omega, by omega, HS2, HB5⟩
              case measure => simp [intOf] <;> omega
          · obtain rfl : lo = hi' := by omega
            have hlq : lo = Qs := by have := HS.out; omega
            subst hlq
            have hnlt : ¬ (lo : Int) < (lo : Int) := by omega
            have hokr : Ow wr w.heap.size (some ⟨w.heap.size, 0, none⟩) m L := World.ownsRow.kept (row := none) HNO.out ⟨HBX.out.os, HBX.out.tape, HBX.out.output, HBX.out.size, fun t ht _ => HBX.out.block t ht⟩ (.inr (by simp [Value.ownBlock]))
            have hfp := hokr.free j
            have hcp := hokr.cell j (by have := HHI.out.len; omega)
            obtain ⟨old, hold⟩ : ∃ old, old = L[j]'(by have := HHI.out.len; omega) := ⟨_, rfl⟩
            rw [← hold] at hcp
            have HW := Lib.hid (hokr.set j lo)
            have HBW := Lib.hid (HWB.out.setCell (p := ⟨w.heap.size, j, none⟩) (Nat.le_refl _) (.int .i64 (lo : Int)))
            have HTP := Lib.hid ((HNP.out.below HBX.out).stored w.heap.size j (.int .i64 (lo : Int)) HNE.out)
            have HLT := Lib.hid (show V - y * lo < y ∧ y * lo ≤ V from ⟨HST.out.lt, (HQS.out lo).2 (Nat.le_refl _)⟩)
            clear hold hokr HS hlt
            by_cases hl0 : lo = 0
            · subst hl0
              have hgt : ¬ (0 : Int) < ((0 : Nat) : Int) := by omega
              have HST2 := Lib.hid HST.out
              have htn2 : tn ≤ n := by have h5 := HTS.out (by have := HLT.out.1; rw [Nat.mul_zero, Nat.sub_zero] at this; exact this); rw [← HTN.out, ← HN.out] at h5; exact h5
              go_wp2_with fail
              all_goals go_roundw
              case rel => exact ⟨_, j, V - y * 0, L.set j 0, T, o1, c1, by rw [HTN.out], rfl, by omega, by omega, by rw [← HTN.out]; exact htn2, ⟨rfl, HST2.out, by rw [Nat.mul_zero, Nat.sub_zero]; exact HT1.out, HTP.out⟩, HW.out, HBW.out⟩
              case measure => simp [intOf] <;> omega
            · have hgt : (0 : Int) < (lo : Int) := by omega
              obtain ⟨w6, hw6⟩ : ∃ w6, w6 = wr.setCell ⟨w.heap.size, j, none⟩ (.int .i64 (lo : Int)) := ⟨_, rfl⟩
              rw [← hw6] at HTP HW HBW
              have hw6' := hw6.symm
              have hti := HTIM.out w6 lo (by omega) HBW.out
              have HTI := Lib.hid hti
              have HRL := Lib.hid (fun r5 (h : Pcs r5 (V - y * lo)) => HQ.out.len_mono h (Nat.le_of_lt HLT.out.1))
              clear hti hw6 hl0
              go_wp2_with fail
              refine HTI.out.mono ?_
              rintro e w7 ⟨o7, c7, r7, rfl, hr71, hr72, hr73, hb7⟩
              have HB7 := Lib.hid (HBW.out.trans (hb7.mono HBW.out.size))
              have hmi := minusZ_any o1 c1 T o7 c7 r7 V (y * lo) w7 (HTP.out.below hb7) hr71 HT1.out hr72 HLT.out.2 (by rw [← HTN.out]; omega)
              rw [← HTN.out] at hmi
              have HMI := Lib.hid hmi
              have HW7 := Lib.hid (HW.out.below hb7)
              obtain ⟨n7, hn7⟩ : ∃ n7, n7 = r7.length := ⟨_, rfl⟩
              rw [← hn7] at HMI ⊢
              clear hmi hr71 hr72 hr73 hb7 hn7
              go_wp2_with fail
              refine HMI.out.mono ?_
              rintro e w8 ⟨o8, c8, r8, rfl, hr81, hr82, hb8⟩
              have HB8 := Lib.hid (HB7.out.trans (hb8.mono HB7.out.size))
              have HW8 := Lib.hid (HW7.out.below hb8)
              have HR8 := Lib.hid hr81
              have HP8 := Lib.hid hr82
              have h8n : r8.length ≤ n := by rw [HN.out]; exact HRL.out r8 hr82
              clear hr81 hr82 hb8
              go_wp2_with fail
              all_goals go_roundw
              case rel => exact ⟨_, j, V - y * lo, L.set j lo, r8, o8, c8, rfl, rfl, by omega, by omega, h8n, ⟨rfl, HST.out, HP8.out, HR8.out⟩, HW8.out, HB8.out⟩
              case measure => simp [intOf] <;> omega
      · obtain ⟨gr, hgr, hcr, hcells⟩ : ∃ gr, o = some ⟨gr, 0, none⟩ ∧ gr < wr.heap.size ∧ ∀ i (h : i < R.length), wr.cell? ⟨gr, i, none⟩ = some (.int .i64 ((R[i]'h : Nat) : Int)) := by
          rcases HRD.out.cell with ⟨_, h, _⟩ | h
          · rw [h] at hR0; exact absurd rfl hR0
          · exact h
        subst hgr
        have HSC := Lib.hid (src_cellsZ hcr hcells (.cells #[.int .i64 (u : Int)] 3))
        clear hcells
        obtain ⟨rn, hrn⟩ : ∃ rn, rn = R.length := ⟨_, rfl⟩
        have HRN := Lib.hid hrn
        rw [← hrn] at hRn hrl hR0 ⊢
        clear hrn
        go_wp2_with (at_builtin; refine wpList_append_own _ rfl _ _ 68 rfl wr.heap.size 3 i0 (.int .i64 0) 1 8 Tryz.underlying68 hi hz0 hz1 hz2 rfl (by decide) _ _ _ rfl (own_one wr wr.heap.size (Nat.le_refl _) (u : Int)) ⟨gr, 0, none⟩ rn c (cI R) rfl (by rw [cI_len, Nat.mul_one]; exact HRN.out.symm) HSC.out (ones_cI R) (by unfold maxLen; omega) (by omega) (by rw [alloc_size]; omega) ?_)
        intro v' w2 hown' hgrow _
        obtain ⟨gn, cn, rfl⟩ := own_some hown' (by omega)
        have how : Ow w2 wr.heap.size (some ⟨gn, 0, none⟩) cn (u :: R) := by
          unfold Ow
          have e1 : (u :: R).length = 1 + rn := by rw [List.length_cons, HRN.out]; omega
          rw [e1]
          exact hown'
        have hbel2 : Below w.heap.size w w2 := (HB.out.alloc hbs _).grown hgrow (by rw [alloc_size]; omega) (by intro t ht; exact Nat.le_trans hbs (World.ownsRow.lt (own_one wr wr.heap.size (Nat.le_refl _) (u : Int)) t ht).1)
        have hno : Ow w2 w.heap.size (some ⟨w.heap.size, 0, none⟩) m L := World.ownsRow.kept (World.ownsRow.alloc HO.out _) hgrow (.inr (by
          intro hh
          have h5 := (World.ownsRow.lt HO.out w.heap.size rfl).2
          have h6 : w.heap.size = wr.heap.size := by simpa [Value.ownBlock] using hh
          omega))
        have hgn := (World.ownsRow.lt how gn rfl).1
        have hwlt := (World.ownsRow.lt HO.out w.heap.size rfl).2
        have HNE := Lib.hid (show ∀ g', (some ⟨gn, 0, none⟩ : Option Addr) = some ⟨g', 0, none⟩ → g' ≠ w.heap.size from fun g' h => by injection h with h; injection h with h; omega)
        have HLP := Lib.hid (how.pd HPV.out.1)
        have hTT := trimZ_any (some ⟨gn, 0, none⟩) cn (u :: R) w2 HLP.out
        have e1 : (u :: R).length = 1 + rn := by rw [List.length_cons, HRN.out]; omega
        rw [e1] at hTT
        have HTT := Lib.hid hTT
        have HNP := Lib.hid HLP.out.trim
        have HNB := Lib.hid hbel2
        have HNO := Lib.hid hno
        clear hown' hgrow how hbel2 hno hTT e1 hgn hwlt
        go_wp2_with fail
        refine HTT.out.mono ?_
        rintro e w3 ⟨rfl, rfl⟩
        have HT1 := Lib.hid (show Pcs (trimP (u :: R)) V by rw [← HPV.out.2]; exact Pcs.of_trim HPV.out.1)
        obtain ⟨T, hT⟩ : ∃ T, T = trimP (u :: R) := ⟨_, rfl⟩
        rw [← hT] at HNP HT1 ⊢
        clear hT HTT HRD HRP HPV HO HB hbs HSC HLP
        obtain ⟨o1, ho1⟩ : ∃ o1 : Option Addr, o1 = some ⟨gn, 0, none⟩ := ⟨_, rfl⟩
        obtain ⟨c1, hc1⟩ : ∃ c1, c1 = cn := ⟨_, rfl⟩
        obtain ⟨w1, hw1⟩ : ∃ w1, w1 = w2 := ⟨_, rfl⟩
        rw [← ho1, ← hc1, ← hw1] at HNP
        rw [← ho1] at HNE
        rw [← hw1] at HNB HNO
        rw [← ho1, ← hc1, ← hw1]
        clear ho1 hc1 hw1
        have htl : T.length ≤ n + 1 := by
          have hlt := pv_lt q HQ.out.lt
          rw [HQ.out.val, ← HN.out] at hlt
          have hVb : V < y * 1000000000 := by
            apply Nat.lt_of_not_le; intro hh
            have := (HQS.out 1000000000).1 hh; omega
          refine HT1.out.len_of_lt ?_
          rw [Nat.pow_succ]
          exact Nat.lt_of_lt_of_le hVb (Nat.mul_le_mul_right _ (Nat.le_of_lt hlt))
        have HTS := Lib.hid (fun (h : V < y) => HQ.out.len_mono HT1.out (Nat.le_of_lt h))
        obtain ⟨tn, htn⟩ : ∃ tn, tn = T.length := ⟨_, rfl⟩
        have HTN := Lib.hid htn
        rw [← htn] at htl ⊢
        clear htn
        go_wp2_with fail
        go_loopw [9, 10, 11] (fun lv hv _ wx => ∃ lo hi : Nat, lv = .int .i64 (lo : Int) ∧ hv = .int .i64 (hi : Int) ∧ hi ≤ 999999999 ∧ lo ≤ hi ∧ Hid (lo ≤ Qs ∧ Qs ≤ hi) ∧ Hid (Below w1.heap.size w1 wx)) (fun lv hv _ _ => (intOf hv - intOf lv).toNat)
        case atStart => exact ⟨0, 999999999, rfl, rfl, by decide, by decide, ⟨Nat.zero_le _, by omega⟩, Below.refl _ _⟩
        case round =>
          obtain ⟨lo, hi', rfl, rfl, hh9, hlh, HS, HBX⟩ := hrel
          have HWB := Lib.hid (show Below w.heap.size w wr from HNB.out.trans (HBX.out.mono HNB.out.size))
          by_cases hlt : lo < hi'
          · obtain ⟨mid, hmid⟩ : ∃ t, t = (lo + hi' + 1) / 2 := ⟨_, rfl⟩
            have hm1 : lo < mid := by omega
            have hm2 : mid ≤ hi' := by omega
            have hmi : ((lo : Int) + hi' + 1).tdiv 2 = (mid : Int) := by rw [Int.tdiv_eq_ediv_of_nonneg (by omega)]; omega
            have hmd : ((lo : Int) + hi' + 1) / 2 = (mid : Int) := by omega
            have ws := IntWalk.i64_in ((lo : Int) + hi' + 1) ⟨by omega, by omega⟩
            have wm := IntWalk.i64_in (mid : Int) ⟨by omega, by omega⟩
            have hti := HTIM.out wr mid (by omega) HWB.out
            have HTI := Lib.hid hti
            have hlti : (lo : Int) < (hi' : Int) := by omega
            clear hti hmid
            go_wp2_with fail
            refine HTI.out.mono ?_
            rintro e w4 ⟨o4, c4, r4, rfl, hr41, hr42, hr43, hb4⟩
            have hB4 := HBX.out.trans (hb4.mono HBX.out.size)
            have hor := orderZ_any o4 c4 r4 o1 c1 T (y * mid) V w4 hr41 (HNP.out.below hB4) hr42 HT1.out
            rw [← HTN.out] at hor
            obtain ⟨n4, hn4⟩ : ∃ n4, n4 = r4.length := ⟨_, rfl⟩
            rw [← hn4] at hor hr43 ⊢
            by_cases hle : y * mid ≤ V
            · have hc0 : cmpN (y * mid) V ≤ 0 := by rcases cmpN_ways (y * mid) V with ⟨h, e⟩ | ⟨h, e⟩ | ⟨h, e⟩ <;> rw [e] <;> omega
              obtain ⟨cc, hcc⟩ : ∃ t, t = cmpN (y * mid) V := ⟨_, rfl⟩
              rw [← hcc] at hor hc0
              have hcd : decide (cc ≤ 0) = true := decide_eq_true hc0
              have HOR := Lib.hid hor
              have HS2 := Lib.hid (show mid ≤ Qs ∧ Qs ≤ hi' from ⟨(HQS.out mid).1 hle, HS.out.2⟩)
              have HB4 := Lib.hid hB4
              clear hor hcc hr41 hr42 hb4 hB4 hle hn4
              go_wp2_with fail
              refine HOR.out.mono ?_
              rintro e w5 ⟨rfl, hb5⟩
              have HB5 := Lib.hid (HB4.out.trans (hb5.mono HB4.out.size))
              clear hb5
              go_wp2_with fail
              all_goals go_roundw
              case rel => exact ⟨mid, hi', rfl, rfl, hh9, hm2, HS2, HB5⟩
              case measure => simp [intOf] <;> omega
            · have hc0 : 0 < cmpN (y * mid) V := by rcases cmpN_ways (y * mid) V with ⟨h, e⟩ | ⟨h, e⟩ | ⟨h, e⟩ <;> rw [e] <;> omega
              obtain ⟨cc, hcc⟩ : ∃ t, t = cmpN (y * mid) V := ⟨_, rfl⟩
              rw [← hcc] at hor hc0
              have hcd : decide (cc ≤ 0) = false := decide_eq_false (by omega)
              have hcn : ¬ cc ≤ 0 := by omega
              have HOR := Lib.hid hor
              have HS2 := Lib.hid (show lo ≤ Qs ∧ Qs ≤ mid - 1 from ⟨HS.out.1, by
                have h5 := (HQS.out mid).2
                have h6 : ¬ mid ≤ Qs := fun h => hle (h5 h)
                omega⟩)
              have HB4 := Lib.hid hB4
              clear hor hcc hr41 hr42 hb4 hB4 hle hn4
              go_wp2_with fail
              refine HOR.out.mono ?_
              rintro e w5 ⟨rfl, hb5⟩
              have HB5 := Lib.hid (HB4.out.trans (hb5.mono HB4.out.size))
              clear hb5
              go_wp2_with fail
              all_goals go_roundw
              case rel => exact ⟨lo, mid - 1, rfl, by go_num, by omega, by omega, HS2, HB5⟩
              case measure => simp [intOf] <;> omega
          · obtain rfl : lo = hi' := by omega
            have hlq : lo = Qs := by have := HS.out; omega
            subst hlq
            have hnlt : ¬ (lo : Int) < (lo : Int) := by omega
            have hokr : Ow wr w.heap.size (some ⟨w.heap.size, 0, none⟩) m L := World.ownsRow.kept (row := none) HNO.out ⟨HBX.out.os, HBX.out.tape, HBX.out.output, HBX.out.size, fun t ht _ => HBX.out.block t ht⟩ (.inr (by simp [Value.ownBlock]))
            have hfp := hokr.free j
            have hcp := hokr.cell j (by have := HHI.out.len; omega)
            obtain ⟨old, hold⟩ : ∃ old, old = L[j]'(by have := HHI.out.len; omega) := ⟨_, rfl⟩
            rw [← hold] at hcp
            have HW := Lib.hid (hokr.set j lo)
            have HBW := Lib.hid (HWB.out.setCell (p := ⟨w.heap.size, j, none⟩) (Nat.le_refl _) (.int .i64 (lo : Int)))
            have HTP := Lib.hid ((HNP.out.below HBX.out).stored w.heap.size j (.int .i64 (lo : Int)) HNE.out)
            have HLT := Lib.hid (show V - y * lo < y ∧ y * lo ≤ V from ⟨HST.out.lt, (HQS.out lo).2 (Nat.le_refl _)⟩)
            clear hold hokr HS hlt
            by_cases hl0 : lo = 0
            · subst hl0
              have hgt : ¬ (0 : Int) < ((0 : Nat) : Int) := by omega
              have HST2 := Lib.hid HST.out
              have htn2 : tn ≤ n := by have h5 := HTS.out (by have := HLT.out.1; rw [Nat.mul_zero, Nat.sub_zero] at this; exact this); rw [← HTN.out, ← HN.out] at h5; exact h5
              go_wp2_with fail
              all_goals go_roundw
              case rel => exact ⟨_, j, V - y * 0, L.set j 0, T, o1, c1, by rw [HTN.out], rfl, by omega, by omega, by rw [← HTN.out]; exact htn2, ⟨rfl, HST2.out, by rw [Nat.mul_zero, Nat.sub_zero]; exact HT1.out, HTP.out⟩, HW.out, HBW.out⟩
              case measure => simp [intOf] <;> omega
            · have hgt : (0 : Int) < (lo : Int) := by omega
              obtain ⟨w6, hw6⟩ : ∃ w6, w6 = wr.setCell ⟨w.heap.size, j, none⟩ (.int .i64 (lo : Int)) := ⟨_, rfl⟩
              rw [← hw6] at HTP HW HBW
              have hw6' := hw6.symm
              have hti := HTIM.out w6 lo (by omega) HBW.out
              have HTI := Lib.hid hti
              have HRL := Lib.hid (fun r5 (h : Pcs r5 (V - y * lo)) => HQ.out.len_mono h (Nat.le_of_lt HLT.out.1))
              clear hti hw6 hl0
              go_wp2_with fail
              refine HTI.out.mono ?_
              rintro e w7 ⟨o7, c7, r7, rfl, hr71, hr72, hr73, hb7⟩
              have HB7 := Lib.hid (HBW.out.trans (hb7.mono HBW.out.size))
              have hmi := minusZ_any o1 c1 T o7 c7 r7 V (y * lo) w7 (HTP.out.below hb7) hr71 HT1.out hr72 HLT.out.2 (by rw [← HTN.out]; omega)
              rw [← HTN.out] at hmi
              have HMI := Lib.hid hmi
              have HW7 := Lib.hid (HW.out.below hb7)
              obtain ⟨n7, hn7⟩ : ∃ n7, n7 = r7.length := ⟨_, rfl⟩
              rw [← hn7] at HMI ⊢
              clear hmi hr71 hr72 hr73 hb7 hn7
              go_wp2_with fail
              refine HMI.out.mono ?_
              rintro e w8 ⟨o8, c8, r8, rfl, hr81, hr82, hb8⟩
              have HB8 := Lib.hid (HB7.out.trans (hb8.mono HB7.out.size))
              have HW8 := Lib.hid (HW7.out.below hb8)
              have HR8 := Lib.hid hr81
              have HP8 := Lib.hid hr82
              have h8n : r8.length ≤ n := by rw [HN.out]; exact HRL.out r8 hr82
              clear hr81 hr82 hb8
              go_wp2_with fail
              all_goals go_roundw
              case rel => exact ⟨_, j, V - y * lo, L.set j lo, r8, o8, c8, rfl, rfl, by omega, by omega, h8n, ⟨rfl, HST.out, HP8.out, HR8.out⟩, HW8.out, HB8.out⟩
              case measure => simp [intOf] <;> omega
end Go.Proofs.YtjebddpapbopnaaGreatDoor
