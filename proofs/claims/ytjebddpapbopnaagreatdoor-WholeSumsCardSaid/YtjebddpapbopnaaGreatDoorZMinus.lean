/-
  The reference of package whole: minus.
-/
import Derived.Test.YtjebddpapbopnaaGreatDoorZOrd
namespace Go.Proofs.YtjebddpapbopnaaGreatDoor
open Go.RowKit

theorem pv_take_d (l : List Nat) (k : Nat) : pv (l.take (k + 1)) = pv (l.take k) + 1000000000 ^ k * l.getD k 0 := by
  by_cases h : k < l.length
  · rw [pv_take_succ h, List.getD_eq_getElem?_getD, List.getElem?_eq_getElem h]; rfl
  · rw [List.take_of_length_le (by omega), List.take_of_length_le (by omega), List.getD_eq_getElem?_getD, List.getElem?_eq_none (by omega)]; rfl
theorem getD_in {l : List Nat} {k : Nat} (h : k < l.length) : l.getD k 0 = l[k] := by rw [List.getD_eq_getElem?_getD, List.getElem?_eq_getElem h]; rfl
theorem getD_out {l : List Nat} {k : Nat} (h : ¬ k < l.length) : l.getD k 0 = 0 := by rw [List.getD_eq_getElem?_getD, List.getElem?_eq_none (by omega)]; rfl
theorem getD_lt {l : List Nat} (h9 : lt9 l) (k : Nat) : l.getD k 0 < 1000000000 := by
  by_cases h : k < l.length
  · rw [getD_in h]; exact lt9_at h9 k h
  · rw [getD_out h]; decide
theorem Pd.at {w : World} {a : Option Addr} {cap : Nat} {l : List Nat} (h : Pd w a cap l) (i : Nat) (hi : i < l.length) : ∃ g, a = some ⟨g, 0, none⟩ ∧ w.cell? ⟨g, i, none⟩ = some (.int .i64 ((l.getD i 0 : Nat) : Int)) := by
  rcases h.cell with ⟨_, e, _⟩ | ⟨g, e1, _, c1⟩
  · rw [e] at hi; simp at hi
  · exact ⟨g, e1, by rw [getD_in hi]; exact c1 i hi⟩
theorem pv_all {l : List Nat} {k : Nat} (h : l.length ≤ k) : pv (l.take k) = pv l := by rw [List.take_of_length_le h]
theorem plus_step {P A B c T k : Nat} (hI : P + 1000000000 ^ k * c = A + B) {x y : Nat} (hT : T = c + x + y) :
    (P + 1000000000 ^ k * (T % 1000000000)) + 1000000000 ^ (k + 1) * (T / 1000000000) = (A + 1000000000 ^ k * x) + (B + 1000000000 ^ k * y) := by
  have h1 : 1000000000 ^ (k + 1) * (T / 1000000000) + 1000000000 ^ k * (T % 1000000000) = 1000000000 ^ k * T := by
    rw [Nat.pow_succ, Nat.mul_assoc, ← Nat.mul_add, Nat.div_add_mod]
  have h2 : 1000000000 ^ k * T = 1000000000 ^ k * c + 1000000000 ^ k * x + 1000000000 ^ k * y := by rw [hT, Nat.mul_add, Nat.mul_add]
  omega
theorem minus_step {P A B o o' x y v k : Nat} (hI : P + B = A + 1000000000 ^ k * o) (hv : v + (o + y) = x + 1000000000 * o') :
    (P + 1000000000 ^ k * v) + (B + 1000000000 ^ k * y) = (A + 1000000000 ^ k * x) + 1000000000 ^ (k + 1) * o' := by
  have h2 : 1000000000 ^ k * (v + (o + y)) = 1000000000 ^ k * (x + 1000000000 * o') := by rw [hv]
  have h3 : 1000000000 ^ k * (v + (o + y)) = 1000000000 ^ k * v + 1000000000 ^ k * o + 1000000000 ^ k * y := by rw [Nat.mul_add, Nat.mul_add]; omega
  have h4 : 1000000000 ^ k * (x + 1000000000 * o') = 1000000000 ^ k * x + 1000000000 ^ (k + 1) * o' := by rw [Nat.mul_add, ← Nat.mul_assoc, ← Nat.pow_succ]
  omega
set_option maxHeartbeats 3200000 in
set_option maxRecDepth 100000 in
theorem minusZ_any (a : Option Addr) (ca : Nat) (p : List Nat) (b : Option Addr) (cb : Nat) (q : List Nat) (x y : Nat) (w : World) (ha : Pd w a ca p) (hb : Pd w b cb q) (hp : Pcs p x) (hq : Pcs q y) (hle : y ≤ x) (hpl : p.length ≤ 100000) :
    Calls Tryz.prog 66 #[.slice a p.length ca, .slice b q.length cb] w fun e w' => ∃ (o : Option Addr) (c : Nat) (r : List Nat), e = .returned (.slice o r.length c) ∧ Pd w' o c r ∧ Pcs r (x - y) ∧ Below w.heap.size w w' := by
  obtain ⟨i0, hi, hz0, hz1, hz2⟩ := info_parts infoZ
  have h1 := ha.lc
  have h2 := ha.lim
  have h3 := hb.lc
  have h4 := hb.lim
  have hql := hp.len_mono hq hle
  have HPA := Lib.hid (fun (wx : World) (hw : Below w.heap.size w wx) i hi => (ha.below hw).at i hi)
  have HQB := Lib.hid (fun (wx : World) (hw : Below w.heap.size w wx) i hi => (hb.below hw).at i hi)
  have HV : Hid (pv p = x ∧ pv q = y ∧ lt9 p ∧ lt9 q) := ⟨hp.val, hq.val, hp.lt, hq.lt⟩
  have HLE := Lib.hid hle
  clear ha hb hp hq hle
  obtain ⟨m, hm⟩ : ∃ m, m = p.length := ⟨_, rfl⟩
  obtain ⟨n, hn⟩ : ∃ m, m = q.length := ⟨_, rfl⟩
  have HM := Lib.hid hm
  have HN := Lib.hid hn
  rw [← hm] at h1 hpl hql HPA ⊢
  rw [← hn] at h3 hql HQB ⊢
  clear hm hn
  go_enter Tryz.func66, Tryz.ntmps66
  go_wp2_with fail
  go_loopw [5, 6, 7, 8] (fun ov bv iv _ wr => ∃ (k o : Nat) (vo : Option Addr) (vc : Nat) (L : List Nat), ov = .slice vo L.length vc ∧ bv = .int .i64 (o : Int) ∧ iv = .int .i64 (k : Int) ∧ k ≤ m ∧ o ≤ 1 ∧ L.length = k ∧ Hid (lt9 L ∧ pv L + pv (q.take k) = pv (p.take k) + 1000000000 ^ k * o) ∧ Hid (Ow wr w.heap.size vo vc L) ∧ Hid (Below w.heap.size w wr)) (fun _ _ iv _ _ => m - (intOf iv).toNat)
  case atStart => exact ⟨0, 0, none, 0, [], rfl, rfl, rfl, Nat.zero_le _, Nat.zero_le _, rfl, ⟨by simp [lt9], by simp [pv]⟩, Ow.nil _ _, Below.refl _ _⟩
  case round =>
    obtain ⟨k, o, vo, vc, L, rfl, rfl, rfl, hk, ho, hL, HI, HO, HB⟩ := hrel
    subst hL
    have hbs := HB.out.size
    by_cases hlt : L.length < m
    · obtain ⟨g, rfl, hca⟩ := HPA.out wr HB.out L.length hlt
      have hu9 := getD_lt HV.out.2.2.1 L.length
      have hv9 := getD_lt HV.out.2.2.2 L.length
      have HPT := Lib.hid (pv_take_d p L.length)
      have HQT := Lib.hid (pv_take_d q L.length)
      have HQ0 := Lib.hid (fun (h : ¬ L.length < q.length) => getD_out h)
      obtain ⟨u, hu⟩ : ∃ u, u = p.getD L.length 0 := ⟨_, rfl⟩
      rw [← hu] at hca hu9 HPT
      by_cases hkn : L.length < n
      · obtain ⟨g2, rfl, hcb⟩ := HQB.out wr HB.out L.length hkn
        obtain ⟨v, hv⟩ : ∃ v, v = q.getD L.length 0 := ⟨_, rfl⟩
        rw [← hv] at hcb hv9 HQT
        clear hu hv HQ0
        by_cases hneg : u < o + v
        · obtain ⟨z, hz⟩ : ∃ z : Nat, z + (o + v) = u + 1000000000 * 1 := ⟨u + 1000000000 - (o + v), by omega⟩
          have hz9 : z < 1000000000 := by omega
          have hd : (u : Int) - o - v + 1000000000 = (z : Int) := by omega
          have hd0 : decide ((u : Int) - o - v < 0) = true := decide_eq_true (by omega)
          have HI2 := Lib.hid (show lt9 (L ++ [z]) ∧ pv (L ++ [z]) + pv (q.take (L.length + 1)) = pv (p.take (L.length + 1)) + 1000000000 ^ (L.length + 1) * 1 from ⟨lt9_snoc HI.out.1 hz9, by rw [pv_snoc, HPT.out, HQT.out]; exact minus_step HI.out.2 hz⟩)
          clear hz hneg HI HPT HQT
          go_wp2_with (at_builtin; refine wpList_append_own _ rfl _ _ 68 rfl w.heap.size 3 i0 (.int .i64 0) 1 8 Tryz.underlying68 hi hz0 hz1 hz2 rfl (by decide) _ _ _ rfl (World.ownsRow.alloc HO.out _) ⟨wr.heap.size, 0, none⟩ 1 1 [.int .i64 (z : Int)] rfl rfl ?c1 ?c2 ?c3 ?c4 ?c5 ?_)
          try (case c1 =>
            intro j u hj
            match j, hj with
            | 0, hj => simp at hj; subst hj; simp [Addr.add])
          try (case c2 => first | rfl | (intro u hu; simp at hu; subst hu; rfl))
          case c3 => unfold maxLen; omega
          case c4 => omega
          case c5 => first | omega | (simp; omega)
          intro v' w2 hown' hgrow _
          obtain ⟨g', cap', rfl, how⟩ := Ow.snoc (L := L) (x := z) hown' (by omega) (by first | rfl | (simp [cI]))
          have hbel2 : Below w.heap.size w w2 := (HB.out.alloc hbs _).grown hgrow (by simp; omega) (by intro q hq; exact (World.ownsRow.lt HO.out q hq).1)
          have HW2 := Lib.hid how
          have HB2 := Lib.hid hbel2
          have hln : ((L ++ [z]).length) = L.length + 1 := by simp
          have HLN := Lib.hid hln
          clear hown' hgrow how hbel2 hln
          go_wp2_with fail
          all_goals go_roundw
          case rel => exact ⟨L.length + 1, 1, some ⟨g', 0, none⟩, cap', L ++ [z], rfl, rfl, by go_num, by omega, by omega, HLN.out, HI2, HW2, HB2⟩
          case measure => simp [intOf] <;> omega
        · obtain ⟨z, hz⟩ : ∃ z : Nat, z + (o + v) = u + 1000000000 * 0 := ⟨u - (o + v), by omega⟩
          have hz9 : z < 1000000000 := by omega
          have hd : (u : Int) - o - v = (z : Int) := by omega
          have hd0 : decide ((z : Int) < 0) = false := decide_eq_false (by omega)
          have HI2 := Lib.hid (show lt9 (L ++ [z]) ∧ pv (L ++ [z]) + pv (q.take (L.length + 1)) = pv (p.take (L.length + 1)) + 1000000000 ^ (L.length + 1) * 0 from ⟨lt9_snoc HI.out.1 hz9, by rw [pv_snoc, HPT.out, HQT.out]; exact minus_step HI.out.2 hz⟩)
          clear hz hneg HI HPT HQT
          go_wp2_with (at_builtin; refine wpList_append_own _ rfl _ _ 68 rfl w.heap.size 3 i0 (.int .i64 0) 1 8 Tryz.underlying68 hi hz0 hz1 hz2 rfl (by decide) _ _ _ rfl (World.ownsRow.alloc HO.out _) ⟨wr.heap.size, 0, none⟩ 1 1 [.int .i64 (z : Int)] rfl rfl ?c1 ?c2 ?c3 ?c4 ?c5 ?_)
          try (case c1 =>
            intro j u hj
            match j, hj with
            | 0, hj => simp at hj; subst hj; simp [Addr.add])
          try (case c2 => first | rfl | (intro u hu; simp at hu; subst hu; rfl))
          case c3 => unfold maxLen; omega
          case c4 => omega
          case c5 => first | omega | (simp; omega)
          intro v' w2 hown' hgrow _
          obtain ⟨g', cap', rfl, how⟩ := Ow.snoc (L := L) (x := z) hown' (by omega) (by first | rfl | (simp [cI]))
          have hbel2 : Below w.heap.size w w2 := (HB.out.alloc hbs _).grown hgrow (by simp; omega) (by intro q hq; exact (World.ownsRow.lt HO.out q hq).1)
          have HW2 := Lib.hid how
          have HB2 := Lib.hid hbel2
          have hln : ((L ++ [z]).length) = L.length + 1 := by simp
          have HLN := Lib.hid hln
          clear hown' hgrow how hbel2 hln
          go_wp2_with fail
          all_goals go_roundw
          case rel => exact ⟨L.length + 1, 0, some ⟨g', 0, none⟩, cap', L ++ [z], rfl, rfl, by go_num, by omega, by omega, HLN.out, HI2, HW2, HB2⟩
          case measure => simp [intOf] <;> omega
      · have hq0 := HQ0.out (by have := HN.out; omega)
        clear hu HQ0
        rw [hq0] at HQT
        clear hq0 hv9
        by_cases hneg : u < o
        · obtain ⟨z, hz⟩ : ∃ z : Nat, z + (o + 0) = u + 1000000000 * 1 := ⟨u + 1000000000 - o, by omega⟩
          have hz9 : z < 1000000000 := by omega
          have hd : (u : Int) - o + 1000000000 = (z : Int) := by omega
          have hd0 : decide ((u : Int) - o < 0) = true := decide_eq_true (by omega)
          have HI2 := Lib.hid (show lt9 (L ++ [z]) ∧ pv (L ++ [z]) + pv (q.take (L.length + 1)) = pv (p.take (L.length + 1)) + 1000000000 ^ (L.length + 1) * 1 from ⟨lt9_snoc HI.out.1 hz9, by rw [pv_snoc, HPT.out, HQT.out]; exact minus_step HI.out.2 hz⟩)
          clear hz hneg HI HPT HQT
          go_wp2_with (at_builtin; refine wpList_append_own _ rfl _ _ 68 rfl w.heap.size 3 i0 (.int .i64 0) 1 8 Tryz.underlying68 hi hz0 hz1 hz2 rfl (by decide) _ _ _ rfl (World.ownsRow.alloc HO.out _) ⟨wr.heap.size, 0, none⟩ 1 1 [.int .i64 (z : Int)] rfl rfl ?c1 ?c2 ?c3 ?c4 ?c5 ?_)
          try (case c1 =>
            intro j u hj
            match j, hj with
            | 0, hj => simp at hj; subst hj; simp [Addr.add])
          try (case c2 => first | rfl | (intro u hu; simp at hu; subst hu; rfl))
          case c3 => unfold maxLen; omega
          case c4 => omega
          case c5 => first | omega | (simp; omega)
          intro v' w2 hown' hgrow _
          obtain ⟨g', cap', rfl, how⟩ := Ow.snoc (L := L) (x := z) hown' (by omega) (by first | rfl | (simp [cI]))
          have hbel2 : Below w.heap.size w w2 := (HB.out.alloc hbs _).grown hgrow (by simp; omega) (by intro q hq; exact (World.ownsRow.lt HO.out q hq).1)
          have HW2 := Lib.hid how
          have HB2 := Lib.hid hbel2
          have hln : ((L ++ [z]).length) = L.length + 1 := by simp
          have HLN := Lib.hid hln
          clear hown' hgrow how hbel2 hln
          go_wp2_with fail
          all_goals go_roundw
          case rel => exact ⟨L.length + 1, 1, some ⟨g', 0, none⟩, cap', L ++ [z], rfl, rfl, by go_num, by omega, by omega, HLN.out, HI2, HW2, HB2⟩
          case measure => simp [intOf] <;> omega
        · obtain ⟨z, hz⟩ : ∃ z : Nat, z + (o + 0) = u + 1000000000 * 0 := ⟨u - o, by omega⟩
          have hz9 : z < 1000000000 := by omega
          have hd : (u : Int) - o = (z : Int) := by omega
          have hd0 : decide ((z : Int) < 0) = false := decide_eq_false (by omega)
          have HI2 := Lib.hid (show lt9 (L ++ [z]) ∧ pv (L ++ [z]) + pv (q.take (L.length + 1)) = pv (p.take (L.length + 1)) + 1000000000 ^ (L.length + 1) * 0 from ⟨lt9_snoc HI.out.1 hz9, by rw [pv_snoc, HPT.out, HQT.out]; exact minus_step HI.out.2 hz⟩)
          clear hz hneg HI HPT HQT
          go_wp2_with (at_builtin; refine wpList_append_own _ rfl _ _ 68 rfl w.heap.size 3 i0 (.int .i64 0) 1 8 Tryz.underlying68 hi hz0 hz1 hz2 rfl (by decide) _ _ _ rfl (World.ownsRow.alloc HO.out _) ⟨wr.heap.size, 0, none⟩ 1 1 [.int .i64 (z : Int)] rfl rfl ?c1 ?c2 ?c3 ?c4 ?c5 ?_)
          try (case c1 =>
            intro j u hj
            match j, hj with
            | 0, hj => simp at hj; subst hj; simp [Addr.add])
          try (case c2 => first | rfl | (intro u hu; simp at hu; subst hu; rfl))
          case c3 => unfold maxLen; omega
          case c4 => omega
          case c5 => first | omega | (simp; omega)
          intro v' w2 hown' hgrow _
          obtain ⟨g', cap', rfl, how⟩ := Ow.snoc (L := L) (x := z) hown' (by omega) (by first | rfl | (simp [cI]))
          have hbel2 : Below w.heap.size w w2 := (HB.out.alloc hbs _).grown hgrow (by simp; omega) (by intro q hq; exact (World.ownsRow.lt HO.out q hq).1)
          have HW2 := Lib.hid how
          have HB2 := Lib.hid hbel2
          have hln : ((L ++ [z]).length) = L.length + 1 := by simp
          have HLN := Lib.hid hln
          clear hown' hgrow how hbel2 hln
          go_wp2_with fail
          all_goals go_roundw
          case rel => exact ⟨L.length + 1, 0, some ⟨g', 0, none⟩, cap', L ++ [z], rfl, rfl, by go_num, by omega, by omega, HLN.out, HI2, HW2, HB2⟩
          case measure => simp [intOf] <;> omega
    · have hI := HI.out.2
      rw [pv_all (by have := HM.out; have := HN.out; omega), pv_all (by have := HM.out; have := HN.out; omega), HV.out.1, HV.out.2.1] at hI
      have hlt9 := pv_lt L HI.out.1
      have ho0 : o = 0 := by
        rcases (by omega : o = 0 ∨ o = 1) with h | h
        · exact h
        · rw [h] at hI; have := HLE.out; omega
      rw [ho0] at hI
      have HPD := Lib.hid (HO.out.pd HI.out.1)
      have HPC := Lib.hid (show Pcs (trimP L) (x - y) by
        have := Pcs.of_trim HI.out.1
        rw [show pv L = x - y by have := HLE.out; omega] at this; exact this)
      have HT := Lib.hid (fun wx h => trimZ_any vo vc L wx h)
      clear hI hlt9 ho0
      go_wp2_with fail
      refine (HT.out _ HPD.out).mono ?_
      rintro e w' ⟨rfl, rfl⟩
      go_wp2_with fail
      go_ret
      exact ⟨vo, vc, trimP L, rfl, HPD.out.trim, HPC.out, HB.out⟩
end Go.Proofs.YtjebddpapbopnaaGreatDoor
