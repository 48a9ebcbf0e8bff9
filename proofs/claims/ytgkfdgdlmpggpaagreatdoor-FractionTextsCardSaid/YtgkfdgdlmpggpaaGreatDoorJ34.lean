/-
  Texts of one seat, joined: YPlus YMinus.
-/
import Derived.Test.YtgkfdgdlmpggpaaGreatDoorJ19
import Derived.Test.YtgkfdgdlmpggpaaGreatDoorJ22
namespace Go.Proofs.YtgkfdgdlmpggpaaGreatDoor
open Go.RowKit

set_option maxHeartbeats 3200000 in
set_option maxRecDepth 100000 in
theorem plusY_any (a : Option Addr) (ca : Nat) (p : List Nat) (b : Option Addr) (cb : Nat) (q : List Nat) (w : World) (ha : Pd w a ca p) (hb : Pd w b cb q) (hpl : p.length ≤ 100000) (hql : q.length ≤ 100000) :
    Calls Tryz.prog 133 #[.slice a p.length ca, .slice b q.length cb] w fun e w' => ∃ (o : Option Addr) (c : Nat) (r : List Nat), e = .returned (.slice o r.length c) ∧ Pd w' o c r ∧ pv r = pv p + pv q ∧ r.length ≤ 200001 ∧ NewO w.heap.size o ∧ Below w.heap.size w w' := by
  obtain ⟨i0, hi, hz0, hz1, hz2⟩ := info_parts infoZ
  have h1 := ha.lc
  have h2 := ha.lim
  have h3 := hb.lc
  have h4 := hb.lim
  have HPA := Lib.hid (fun (wx : World) (hw : Below w.heap.size w wx) i hi => (ha.below hw).at i hi)
  have HQB := Lib.hid (fun (wx : World) (hw : Below w.heap.size w wx) i hi => (hb.below hw).at i hi)
  have HV : Hid (lt9 p ∧ lt9 q) := ⟨ha.nine, hb.nine⟩
  clear ha hb
  obtain ⟨m, hm⟩ : ∃ m, m = p.length := ⟨_, rfl⟩
  obtain ⟨n, hn⟩ : ∃ m, m = q.length := ⟨_, rfl⟩
  have HM := Lib.hid hm
  have HN := Lib.hid hn
  rw [← hm] at h1 hpl HPA ⊢
  rw [← hn] at h3 hql HQB ⊢
  clear hm hn
  go_enter Tryz.func133, Tryz.ntmps133
  go_wp2_with fail
  go_loopw [5, 6, 7] (fun ov bv iv wr => ∃ (k c : Nat) (vo : Option Addr) (vc : Nat) (L : List Nat), ov = .slice vo L.length vc ∧ bv = .int .i64 (c : Int) ∧ iv = .int .i64 (k : Int) ∧ k ≤ m + n + 1 ∧ c ≤ 1 ∧ (0 < c → k ≤ m + n) ∧ L.length = k ∧ Hid (lt9 L ∧ pv L + 1000000000 ^ k * c = pv (p.take k) + pv (q.take k)) ∧ Hid (Ow wr w.heap.size vo vc L) ∧ Hid (Below w.heap.size w wr)) (fun _ _ iv _ => m + n + 1 - (intOf iv).toNat)
  case atStart => exact ⟨0, 0, none, 0, [], rfl, rfl, rfl, Nat.zero_le _, Nat.zero_le _, fun h => absurd h (by decide), rfl, ⟨by simp [lt9], by simp [pv]⟩, Ow.nil _ _, Below.refl _ _⟩
  case round =>
    obtain ⟨k, c, vo, vc, L, rfl, rfl, rfl, hk, hc, hck, hL, HI, HO, HB⟩ := hrel
    subst hL
    have hbs := HB.out.size
    have hu9 := getD_lt HV.out.1 L.length
    have hv9 := getD_lt HV.out.2 L.length
    have HPT := Lib.hid (pv_take_d p L.length)
    have HQT := Lib.hid (pv_take_d q L.length)
    have hp0 := fun (h : ¬ L.length < m) => getD_out (l := p) (k := L.length) (by have := HM.out; omega)
    have hq0 := fun (h : ¬ L.length < n) => getD_out (l := q) (k := L.length) (by have := HN.out; omega)
    have HCA := Lib.hid (HPA.out wr HB.out L.length)
    have HCB := Lib.hid (HQB.out wr HB.out L.length)
    obtain ⟨u, hu⟩ : ∃ u, u = p.getD L.length 0 := ⟨_, rfl⟩
    obtain ⟨v, hv⟩ : ∃ v, v = q.getD L.length 0 := ⟨_, rfl⟩
    rw [← hu] at HCA hu9 HPT hp0
    rw [← hv] at HCB hv9 HQT hq0
    clear hu hv
    by_cases hgo : L.length < m ∨ L.length < n ∨ 0 < c
    · obtain ⟨T, hT⟩ : ∃ T, T = c + u + v := ⟨_, rfl⟩
      obtain ⟨r, hr⟩ : ∃ r, r = T % 1000000000 := ⟨_, rfl⟩
      obtain ⟨d, hd⟩ : ∃ r, r = T / 1000000000 := ⟨_, rfl⟩
      have hr9 : r < 1000000000 := by omega
      have hd1 : d ≤ 1 := by omega
      have hkk : L.length ≤ m + n := by rcases hgo with h | h | h <;> first | omega | exact hck h
      have hri : (T : Int).tmod 1000000000 = (r : Int) := by rw [Int.tmod_eq_emod_of_nonneg (by omega)]; omega
      have hdi : (T : Int).tdiv 1000000000 = (d : Int) := by rw [Int.tdiv_eq_ediv_of_nonneg (by omega)]; omega
      have hrm : (T : Int) % 1000000000 = (r : Int) := by omega
      have hdm : (T : Int) / 1000000000 = (d : Int) := by omega
      have hck2 : 0 < d → L.length + 1 ≤ m + n := fun h => by
        by_cases h1 : L.length < m
        · omega
        · by_cases h2 : L.length < n
          · omega
          · have := hp0 h1; have := hq0 h2; omega
      have HI2 := Lib.hid (show lt9 (L ++ [r]) ∧ pv (L ++ [r]) + 1000000000 ^ (L.length + 1) * d = pv (p.take (L.length + 1)) + pv (q.take (L.length + 1)) from ⟨lt9_snoc HI.out.1 hr9, by rw [pv_snoc, HPT.out, HQT.out, hr, hd]; exact plus_step HI.out.2 hT⟩)
      have HCK := Lib.hid hck2
      have wT := IntWalk.i64_in (T : Int) ⟨by omega, by omega⟩
      by_cases hkm : L.length < m
      · obtain ⟨g, rfl, hca⟩ := HCA.out hkm
        by_cases hkn : L.length < n
        · obtain ⟨g2, rfl, hcb⟩ := HCB.out hkn
          have hs : (c : Int) + u + v = (T : Int) := by omega
          have ws := IntWalk.i64_in ((c : Int) + u) ⟨by omega, by omega⟩
          clear hck2 hr hd hT hp0 hq0 hck hgo HI HPT HQT HCA HCB
          go_wp2_with (at_builtin; refine wpList_append_own _ rfl _ _ 41 rfl w.heap.size 3 i0 (.int .i64 0) 1 8 Tryz.underlying41 hi hz0 hz1 hz2 rfl (by decide) _ _ _ rfl (World.ownsRow.alloc HO.out _) ⟨wr.heap.size, 0, none⟩ 1 1 [.int .i64 (r : Int)] rfl rfl ?c1 ?c2 ?c3 ?c4 ?c5 ?_)
          try (case c1 =>
            intro j u hj
            match j, hj with
            | 0, hj => simp at hj; subst hj; simp [Addr.add])
          try (case c2 => first | rfl | (intro u hu; simp at hu; subst hu; rfl))
          case c3 => unfold maxLen; omega
          case c4 => omega
          case c5 => first | omega | (simp; omega)
          intro v' w2 hown' hgrow _
          obtain ⟨g', cap', rfl, how⟩ := Ow.snoc (L := L) (x := r) hown' (by omega) (by first | rfl | (simp [cI]))
          have hbel2 : Below w.heap.size w w2 := (HB.out.alloc hbs _).grown hgrow (by simp; omega) (by intro q hq; exact (World.ownsRow.lt HO.out q hq).1)
          have HW2 := Lib.hid how
          have HB2 := Lib.hid hbel2
          have hln : ((L ++ [r]).length) = L.length + 1 := by simp
          have HLN := Lib.hid hln
          clear hown' hgrow how hbel2 hln
          go_wp2_with fail
          all_goals go_roundw
          case rel => exact ⟨L.length + 1, d, some ⟨g', 0, none⟩, cap', L ++ [r], rfl, rfl, by go_num, by omega, hd1, HCK.out, HLN.out, HI2, HW2, HB2⟩
          case measure => simp [intOf] <;> omega
        · have hv0 := hq0 hkn
          have hs : (c : Int) + u = (T : Int) := by omega
          clear hck2 hr hd hT hp0 hq0 hck hgo HI HPT HQT HCA HCB hv0
          go_wp2_with (at_builtin; refine wpList_append_own _ rfl _ _ 41 rfl w.heap.size 3 i0 (.int .i64 0) 1 8 Tryz.underlying41 hi hz0 hz1 hz2 rfl (by decide) _ _ _ rfl (World.ownsRow.alloc HO.out _) ⟨wr.heap.size, 0, none⟩ 1 1 [.int .i64 (r : Int)] rfl rfl ?c1 ?c2 ?c3 ?c4 ?c5 ?_)
          try (case c1 =>
            intro j u hj
            match j, hj with
            | 0, hj => simp at hj; subst hj; simp [Addr.add])
          try (case c2 => first | rfl | (intro u hu; simp at hu; subst hu; rfl))
          case c3 => unfold maxLen; omega
          case c4 => omega
          case c5 => first | omega | (simp; omega)
          intro v' w2 hown' hgrow _
          obtain ⟨g', cap', rfl, how⟩ := Ow.snoc (L := L) (x := r) hown' (by omega) (by first | rfl | (simp [cI]))
          have hbel2 : Below w.heap.size w w2 := (HB.out.alloc hbs _).grown hgrow (by simp; omega) (by intro q hq; exact (World.ownsRow.lt HO.out q hq).1)
          have HW2 := Lib.hid how
          have HB2 := Lib.hid hbel2
          have hln : ((L ++ [r]).length) = L.length + 1 := by simp
          have HLN := Lib.hid hln
          clear hown' hgrow how hbel2 hln
          go_wp2_with fail
          all_goals go_roundw
          case rel => exact ⟨L.length + 1, d, some ⟨g', 0, none⟩, cap', L ++ [r], rfl, rfl, by go_num, by omega, hd1, HCK.out, HLN.out, HI2, HW2, HB2⟩
          case measure => simp [intOf] <;> omega
      · have hu0 := hp0 hkm
        by_cases hkn : L.length < n
        · obtain ⟨g2, rfl, hcb⟩ := HCB.out hkn
          have hs : (c : Int) + v = (T : Int) := by omega
          clear hck2 hr hd hT hp0 hq0 hck hgo HI HPT HQT HCA HCB hu0
          go_wp2_with (at_builtin; refine wpList_append_own _ rfl _ _ 41 rfl w.heap.size 3 i0 (.int .i64 0) 1 8 Tryz.underlying41 hi hz0 hz1 hz2 rfl (by decide) _ _ _ rfl (World.ownsRow.alloc HO.out _) ⟨wr.heap.size, 0, none⟩ 1 1 [.int .i64 (r : Int)] rfl rfl ?c1 ?c2 ?c3 ?c4 ?c5 ?_)
          try (case c1 =>
            intro j u hj
            match j, hj with
            | 0, hj => simp at hj; subst hj; simp [Addr.add])
          try (case c2 => first | rfl | (intro u hu; simp at hu; subst hu; rfl))
          case c3 => unfold maxLen; omega
          case c4 => omega
          case c5 => first | omega | (simp; omega)
          intro v' w2 hown' hgrow _
          obtain ⟨g', cap', rfl, how⟩ := Ow.snoc (L := L) (x := r) hown' (by omega) (by first | rfl | (simp [cI]))
          have hbel2 : Below w.heap.size w w2 := (HB.out.alloc hbs _).grown hgrow (by simp; omega) (by intro q hq; exact (World.ownsRow.lt HO.out q hq).1)
          have HW2 := Lib.hid how
          have HB2 := Lib.hid hbel2
          have hln : ((L ++ [r]).length) = L.length + 1 := by simp
          have HLN := Lib.hid hln
          clear hown' hgrow how hbel2 hln
          go_wp2_with fail
          all_goals go_roundw
          case rel => exact ⟨L.length + 1, d, some ⟨g', 0, none⟩, cap', L ++ [r], rfl, rfl, by go_num, by omega, hd1, HCK.out, HLN.out, HI2, HW2, HB2⟩
          case measure => simp [intOf] <;> omega
        · have hv0 := hq0 hkn
          have hc0 : (0 : Int) < (c : Int) := by omega
          obtain rfl : c = T := by omega
          clear hck2 hr hd hT hp0 hq0 hck hgo HI HPT HQT HCA HCB hu0 hv0
          go_wp2_with (at_builtin; refine wpList_append_own _ rfl _ _ 41 rfl w.heap.size 3 i0 (.int .i64 0) 1 8 Tryz.underlying41 hi hz0 hz1 hz2 rfl (by decide) _ _ _ rfl (World.ownsRow.alloc HO.out _) ⟨wr.heap.size, 0, none⟩ 1 1 [.int .i64 (r : Int)] rfl rfl ?c1 ?c2 ?c3 ?c4 ?c5 ?_)
          try (case c1 =>
            intro j u hj
            match j, hj with
            | 0, hj => simp at hj; subst hj; simp [Addr.add])
          try (case c2 => first | rfl | (intro u hu; simp at hu; subst hu; rfl))
          case c3 => unfold maxLen; omega
          case c4 => omega
          case c5 => first | omega | (simp; omega)
          intro v' w2 hown' hgrow _
          obtain ⟨g', cap', rfl, how⟩ := Ow.snoc (L := L) (x := r) hown' (by omega) (by first | rfl | (simp [cI]))
          have hbel2 : Below w.heap.size w w2 := (HB.out.alloc hbs _).grown hgrow (by simp; omega) (by intro q hq; exact (World.ownsRow.lt HO.out q hq).1)
          have HW2 := Lib.hid how
          have HB2 := Lib.hid hbel2
          have hln : ((L ++ [r]).length) = L.length + 1 := by simp
          have HLN := Lib.hid hln
          clear hown' hgrow how hbel2 hln
          go_wp2_with fail
          all_goals go_roundw
          case rel => exact ⟨L.length + 1, d, some ⟨g', 0, none⟩, cap', L ++ [r], rfl, rfl, by go_num, by omega, hd1, HCK.out, HLN.out, HI2, HW2, HB2⟩
          case measure => simp [intOf] <;> omega
    · have hkm : ¬ L.length < m := fun h => hgo (.inl h)
      have hkn : ¬ L.length < n := fun h => hgo (.inr (.inl h))
      have hc0 : c = 0 := by omega
      subst hc0
      have hI := HI.out.2
      rw [pv_all (by have := HM.out; have := HN.out; omega), pv_all (by have := HM.out; have := HN.out; omega), Nat.mul_zero, Nat.add_zero] at hI
      have HPD := Lib.hid (HO.out.pd HI.out.1)
      have HR := Lib.hid hI
      clear hI hgo hp0 hq0
      go_wp2_with fail
      go_ret
      exact ⟨vo, vc, L, rfl, HPD.out, HR.out, by omega, HO.out.newO, HB.out⟩
end Go.Proofs.YtgkfdgdlmpggpaaGreatDoor

namespace Go.Proofs.YtgkfdgdlmpggpaaGreatDoor
open Go.RowKit

set_option maxHeartbeats 3200000 in
set_option maxRecDepth 100000 in
theorem minusY_any (a : Option Addr) (ca : Nat) (p : List Nat) (b : Option Addr) (cb : Nat) (q : List Nat) (x y : Nat) (w : World) (ha : Pd w a ca p) (hb : Pd w b cb q) (hp : Pcs p x) (hq : Pcs q y) (hle : y ≤ x) (hpl : p.length ≤ 100000) :
    Calls Tryz.prog 120 #[.slice a p.length ca, .slice b q.length cb] w fun e w' => ∃ (o : Option Addr) (c : Nat) (r : List Nat), e = .returned (.slice o r.length c) ∧ Pd w' o c r ∧ pv r = x - y ∧ r.length = p.length ∧ NewO w.heap.size o ∧ Below w.heap.size w w' := by
  obtain ⟨i0, hi, hz0, hz1, hz2⟩ := info_parts infoZ
  have h1 := ha.lc
  have h2 := ha.lim
  have h3 := hb.lc
  have h4 := hb.lim
  have hql := hp.len_mono hq hle
  have HPA := Lib.hid (fun (wx : World) (hw : Below w.heap.size w wx) i hi => (ha.below hw).at i hi)
  have HQB := Lib.hid (fun (wx : World) (hw : Below w.heap.size w wx) i hi => (hb.below hw).at i hi)
  have HV : Hid (pv p = x ∧ pv q = y ∧ lt9 p ∧ lt9 q) := ⟨hp.val, hq.val, hp.lt, hq.lt⟩
  have HLE := Lib.hid hle
  clear ha hb hp hq hle
  obtain ⟨m, hm⟩ : ∃ m, m = p.length := ⟨_, rfl⟩
  obtain ⟨n, hn⟩ : ∃ m, m = q.length := ⟨_, rfl⟩
  have HM := Lib.hid hm
  have HN := Lib.hid hn
  rw [← hm] at h1 hpl hql HPA ⊢
  rw [← hn] at h3 hql HQB ⊢
  clear hm hn
  go_enter Tryz.func120, Tryz.ntmps120
  go_wp2_with fail
  go_loopw [5, 6, 7, 8] (fun ov bv iv _ wr => ∃ (k o : Nat) (vo : Option Addr) (vc : Nat) (L : List Nat), ov = .slice vo L.length vc ∧ bv = .int .i64 (o : Int) ∧ iv = .int .i64 (k : Int) ∧ k ≤ m ∧ o ≤ 1 ∧ L.length = k ∧ Hid (lt9 L ∧ pv L + pv (q.take k) = pv (p.take k) + 1000000000 ^ k * o) ∧ Hid (Ow wr w.heap.size vo vc L) ∧ Hid (Below w.heap.size w wr)) (fun _ _ iv _ _ => m - (intOf iv).toNat)
  case atStart => exact ⟨0, 0, none, 0, [], rfl, rfl, rfl, Nat.zero_le _, Nat.zero_le _, rfl, ⟨by simp [lt9], by simp [pv]⟩, Ow.nil _ _, Below.refl _ _⟩
  case round =>
    obtain ⟨k, o, vo, vc, L, rfl, rfl, rfl, hk, ho, hL, HI, HO, HB⟩ := hrel
    subst hL
    have hbs := HB.out.size
    by_cases hlt : L.length < m
    · obtain ⟨g, rfl, hca⟩ := HPA.out wr HB.out L.length hlt
      have hu9 := getD_lt HV.out.2.2.1 L.length
      have hv9 := getD_lt HV.out.2.2.2 L.length
      have HPT := Lib.hid (pv_take_d p L.length)
      have HQT := Lib.hid (pv_take_d q L.length)
      have HQ0 := Lib.hid (fun (h : ¬ L.length < q.length) => getD_out h)
      obtain ⟨u, hu⟩ : ∃ u, u = p.getD L.length 0 := ⟨_, rfl⟩
      rw [← hu] at hca hu9 HPT
      by_cases hkn : L.length < n
      · obtain ⟨g2, rfl, hcb⟩ := HQB.out wr HB.out L.length hkn
        obtain ⟨v, hv⟩ : ∃ v, v = q.getD L.length 0 := ⟨_, rfl⟩
        rw [← hv] at hcb hv9 HQT
        clear hu hv HQ0
        by_cases hneg : u < o + v
        · obtain ⟨z, hz⟩ : ∃ z : Nat, z + (o + v) = u + 1000000000 * 1 := ⟨u + 1000000000 - (o + v), by omega⟩
          have hz9 : z < 1000000000 := by omega
          have hd : (u : Int) - o - v + 1000000000 = (z : Int) := by omega
          have hd0 : decide ((u : Int) - o - v < 0) = true := decide_eq_true (by omega)
          have HI2 := Lib.hid (show lt9 (L ++ [z]) ∧ pv (L ++ [z]) + pv (q.take (L.length + 1)) = pv (p.take (L.length + 1)) + 1000000000 ^ (L.length + 1) * 1 from ⟨lt9_snoc HI.out.1 hz9, by rw [pv_snoc, HPT.out, HQT.out]; exact minus_step HI.out.2 hz⟩)
          clear hz hneg HI HPT HQT
          go_wp2_with (at_builtin; refine wpList_append_own _ rfl _ _ 41 rfl w.heap.size 3 i0 (.int .i64 0) 1 8 Tryz.underlying41 hi hz0 hz1 hz2 rfl (by decide) _ _ _ rfl (World.ownsRow.alloc HO.out _) ⟨wr.heap.size, 0, none⟩ 1 1 [.int .i64 (z : Int)] rfl rfl ?c1 ?c2 ?c3 ?c4 ?c5 ?_)
          try (case c1 =>
            intro j u hj
            match j, hj with
            | 0, hj => simp at hj; subst hj; simp [Addr.add])
          try (case c2 => first | rfl | (intro u hu; simp at hu; subst hu; rfl))
          case c3 => unfold maxLen; omega
          case c4 => omega
          case c5 => first | omega | (simp; omega)
          intro v' w2 hown' hgrow _
          obtain ⟨g', cap', rfl, how⟩ := Ow.snoc (L := L) (x := z) hown' (by omega) (by first | rfl | (simp [cI]))
          have hbel2 : Below w.heap.size w w2 := (HB.out.alloc hbs _).grown hgrow (by simp; omega) (by intro q hq; exact (World.ownsRow.lt HO.out q hq).1)
          have HW2 := Lib.hid how
          have HB2 := Lib.hid hbel2
          have hln : ((L ++ [z]).length) = L.length + 1 := by simp
          have HLN := Lib.hid hln
          clear hown' hgrow how hbel2 hln
          go_wp2_with fail
          all_goals go_roundw
          case rel => exact ⟨L.length + 1, 1, some ⟨g', 0, none⟩, cap', L ++ [z], rfl, rfl, by go_num, by omega, by omega, HLN.out, HI2, HW2, HB2⟩
          case measure => simp [intOf] <;> omega
        · obtain ⟨z, hz⟩ : ∃ z : Nat, z + (o + v) = u + 1000000000 * 0 := ⟨u - (o + v), by omega⟩
          have hz9 : z < 1000000000 := by omega
          have hd : (u : Int) - o - v = (z : Int) := by omega
          have hd0 : decide ((z : Int) < 0) = false := decide_eq_false (by omega)
          have HI2 := Lib.hid (show lt9 (L ++ [z]) ∧ pv (L ++ [z]) + pv (q.take (L.length + 1)) = pv (p.take (L.length + 1)) + 1000000000 ^ (L.length + 1) * 0 from ⟨lt9_snoc HI.out.1 hz9, by rw [pv_snoc, HPT.out, HQT.out]; exact minus_step HI.out.2 hz⟩)
          clear hz hneg HI HPT HQT
          go_wp2_with (at_builtin; refine wpList_append_own _ rfl _ _ 41 rfl w.heap.size 3 i0 (.int .i64 0) 1 8 Tryz.underlying41 hi hz0 hz1 hz2 rfl (by decide) _ _ _ rfl (World.ownsRow.alloc HO.out _) ⟨wr.heap.size, 0, none⟩ 1 1 [.int .i64 (z : Int)] rfl rfl ?c1 ?c2 ?c3 ?c4 ?c5 ?_)
          try (case c1 =>
            intro j u hj
            match j, hj with
            | 0, hj => simp at hj; subst hj; simp [Addr.add])
          try (case c2 => first | rfl | (intro u hu; simp at hu; subst hu; rfl))
          case c3 => unfold maxLen; omega
          case c4 => omega
          case c5 => first | omega | (simp; omega)
          intro v' w2 hown' hgrow _
          obtain ⟨g', cap', rfl, how⟩ := Ow.snoc (L := L) (x := z) hown' (by omega) (by first | rfl | (simp [cI]))
          have hbel2 : Below w.heap.size w w2 := (HB.out.alloc hbs _).grown hgrow (by simp; omega) (by intro q hq; exact (World.ownsRow.lt HO.out q hq).1)
          have HW2 := Lib.hid how
          have HB2 := Lib.hid hbel2
          have hln : ((L ++ [z]).length) = L.length + 1 := by simp
          have HLN := Lib.hid hln
          clear hown' hgrow how hbel2 hln
          go_wp2_with fail
          all_goals go_roundw
          case rel => exact ⟨L.length + 1, 0, some ⟨g', 0, none⟩, cap', L ++ [z], rfl, rfl, by go_num, by omega, by omega, HLN.out, HI2, HW2, HB2⟩
          case measure => simp [intOf] <;> omega
      · have hq0 := HQ0.out (by have := HN.out; omega)
        clear hu HQ0
        rw [hq0] at HQT
        clear hq0 hv9
        by_cases hneg : u < o
        · obtain ⟨z, hz⟩ : ∃ z : Nat, z + (o + 0) = u + 1000000000 * 1 := ⟨u + 1000000000 - o, by omega⟩
          have hz9 : z < 1000000000 := by omega
          have hd : (u : Int) - o + 1000000000 = (z : Int) := by omega
          have hd0 : decide ((u : Int) - o < 0) = true := decide_eq_true (by omega)
          have HI2 := Lib.hid (show lt9 (L ++ [z]) ∧ pv (L ++ [z]) + pv (q.take (L.length + 1)) = pv (p.take (L.length + 1)) + 1000000000 ^ (L.length + 1) * 1 from ⟨lt9_snoc HI.out.1 hz9, by rw [pv_snoc, HPT.out, HQT.out]; exact minus_step HI.out.2 hz⟩)
          clear hz hneg HI HPT HQT
          go_wp2_with (at_builtin; refine wpList_append_own _ rfl _ _ 41 rfl w.heap.size 3 i0 (.int .i64 0) 1 8 Tryz.underlying41 hi hz0 hz1 hz2 rfl (by decide) _ _ _ rfl (World.ownsRow.alloc HO.out _) ⟨wr.heap.size, 0, none⟩ 1 1 [.int .i64 (z : Int)] rfl rfl ?c1 ?c2 ?c3 ?c4 ?c5 ?_)
          try (case c1 =>
            intro j u hj
            match j, hj with
            | 0, hj => simp at hj; subst hj; simp [Addr.add])
          try (case c2 => first | rfl | (intro u hu; simp at hu; subst hu; rfl))
          case c3 => unfold maxLen; omega
          case c4 => omega
          case c5 => first | omega | (simp; omega)
          intro v' w2 hown' hgrow _
          obtain ⟨g', cap', rfl, how⟩ := Ow.snoc (L := L) (x := z) hown' (by omega) (by first | rfl | (simp [cI]))
          have hbel2 : Below w.heap.size w w2 := (HB.out.alloc hbs _).grown hgrow (by simp; omega) (by intro q hq; exact (World.ownsRow.lt HO.out q hq).1)
          have HW2 := Lib.hid how
          have HB2 := Lib.hid hbel2
          have hln : ((L ++ [z]).length) = L.length + 1 := by simp
          have HLN := Lib.hid hln
          clear hown' hgrow how hbel2 hln
          go_wp2_with fail
          all_goals go_roundw
          case rel => exact ⟨L.length + 1, 1, some ⟨g', 0, none⟩, cap', L ++ [z], rfl, rfl, by go_num, by omega, by omega, HLN.out, HI2, HW2, HB2⟩
          case measure => simp [intOf] <;> omega
        · obtain ⟨z, hz⟩ : ∃ z : Nat, z + (o + 0) = u + 1000000000 * 0 := ⟨u - o, by omega⟩
          have hz9 : z < 1000000000 := by omega
          have hd : (u : Int) - o = (z : Int) := by omega
          have hd0 : decide ((z : Int) < 0) = false := decide_eq_false (by omega)
          have HI2 := Lib.hid (show lt9 (L ++ [z]) ∧ pv (L ++ [z]) + pv (q.take (L.length + 1)) = pv (p.take (L.length + 1)) + 1000000000 ^ (L.length + 1) * 0 from ⟨lt9_snoc HI.out.1 hz9, by rw [pv_snoc, HPT.out, HQT.out]; exact minus_step HI.out.2 hz⟩)
          clear hz hneg HI HPT HQT
          go_wp2_with (at_builtin; refine wpList_append_own _ rfl _ _ 41 rfl w.heap.size 3 i0 (.int .i64 0) 1 8 Tryz.underlying41 hi hz0 hz1 hz2 rfl (by decide) _ _ _ rfl (World.ownsRow.alloc HO.out _) ⟨wr.heap.size, 0, none⟩ 1 1 [.int .i64 (z : Int)] rfl rfl ?c1 ?c2 ?c3 ?c4 ?c5 ?_)
          try (case c1 =>
            intro j u hj
            match j, hj with
            | 0, hj => simp at hj; subst hj; simp [Addr.add])
          try (case c2 => first | rfl | (intro u hu; simp at hu; subst hu; rfl))
          case c3 => unfold maxLen; omega
          case c4 => omega
          case c5 => first | omega | (simp; omega)
          intro v' w2 hown' hgrow _
          obtain ⟨g', cap', rfl, how⟩ := Ow.snoc (L := L) (x := z) hown' (by omega) (by first | rfl | (simp [cI]))
          have hbel2 : Below w.heap.size w w2 := (HB.out.alloc hbs _).grown hgrow (by simp; omega) (by intro q hq; exact (World.ownsRow.lt HO.out q hq).1)
          have HW2 := Lib.hid how
          have HB2 := Lib.hid hbel2
          have hln : ((L ++ [z]).length) = L.length + 1 := by simp
          have HLN := Lib.hid hln
          clear hown' hgrow how hbel2 hln
          go_wp2_with fail
          all_goals go_roundw
          case rel => exact ⟨L.length + 1, 0, some ⟨g', 0, none⟩, cap', L ++ [z], rfl, rfl, by go_num, by omega, by omega, HLN.out, HI2, HW2, HB2⟩
          case measure => simp [intOf] <;> omega
    · have hI := HI.out.2
      rw [pv_all (by have := HM.out; have := HN.out; omega), pv_all (by have := HM.out; have := HN.out; omega), HV.out.1, HV.out.2.1] at hI
      have hlt9 := pv_lt L HI.out.1
      have ho0 : o = 0 := by
        rcases (by omega : o = 0 ∨ o = 1) with h | h
        · exact h
        · rw [h] at hI; have := HLE.out; omega
      rw [ho0] at hI
      have HPD := Lib.hid (HO.out.pd HI.out.1)
      have HPV := Lib.hid (show pv L = x - y by have := HLE.out; omega)
      have HLL := Lib.hid (show L.length = m by omega)
      clear hI hlt9 ho0
      go_wp2_with fail
      go_ret
      exact ⟨vo, vc, L, rfl, HPD.out, HPV.out, by rw [HLL.out], HO.out.newO, HB.out⟩
end Go.Proofs.YtgkfdgdlmpggpaaGreatDoor
