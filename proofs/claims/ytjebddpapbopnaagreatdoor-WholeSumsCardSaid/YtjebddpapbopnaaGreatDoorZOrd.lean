/-
  The reference of package whole: order.
-/
import Derived.Test.YtjebddpapbopnaaGreatDoorZPz
namespace Go.Proofs.YtjebddpapbopnaaGreatDoor
open Go.RowKit

theorem pv_split {l : List Nat} {k : Nat} (hk : k < l.length) : pv l = pv (l.take k) + 1000000000 ^ k * (l[k] + 1000000000 * pv (l.drop (k + 1))) := by
  have h : l = l.take k ++ (l[k] :: l.drop (k + 1)) := by rw [← List.drop_eq_getElem_cons hk, List.take_append_drop]
  have h2 := pv_append (l.take k) (l[k] :: l.drop (k + 1))
  rw [← h, List.length_take, Nat.min_eq_left (by omega)] at h2
  rw [h2]; rfl
theorem order_lt {a b : List Nat} {k : Nat} (ha : k < a.length) (hb : k < b.length) (h9 : lt9 a) (hd : a.drop (k + 1) = b.drop (k + 1)) (h : a[k] < b[k]) : pv a < pv b := by
  rw [pv_split ha, pv_split hb, hd]
  have h1 := pv_lt (a.take k) (lt9_take h9 k)
  rw [List.length_take, Nat.min_eq_left (by omega)] at h1
  have h2 : 1000000000 ^ k * (a[k] + 1 + 1000000000 * pv (b.drop (k + 1))) ≤ 1000000000 ^ k * (b[k] + 1000000000 * pv (b.drop (k + 1))) := Nat.mul_le_mul_left _ (by omega)
  have h3 : 1000000000 ^ k * (a[k] + 1 + 1000000000 * pv (b.drop (k + 1))) = 1000000000 ^ k * (a[k] + 1000000000 * pv (b.drop (k + 1))) + 1000000000 ^ k := by
    rw [show a[k] + 1 + 1000000000 * pv (b.drop (k + 1)) = (a[k] + 1000000000 * pv (b.drop (k + 1))) + 1 by omega, Nat.mul_add, Nat.mul_one]
  omega
theorem drop_eq {a b : List Nat} {k : Nat} (ha : k < a.length) (hb : k < b.length) (hd : a.drop (k + 1) = b.drop (k + 1)) (h : a[k] = b[k]) : a.drop k = b.drop k := by
  rw [List.drop_eq_getElem_cons ha, List.drop_eq_getElem_cons hb, hd, h]
set_option maxHeartbeats 1600000 in
theorem orderZ_any (a : Option Addr) (ca : Nat) (p : List Nat) (b : Option Addr) (cb : Nat) (q : List Nat) (x y : Nat) (w : World) (ha : Pd w a ca p) (hb : Pd w b cb q) (hp : Pcs p x) (hq : Pcs q y) :
    Calls Tryz.prog 65 #[.slice a p.length ca, .slice b q.length cb] w fun e w' => e = .returned (.int .i64 (cmpN x y)) ∧ Below w.heap.size w w' := by
  have h1 := ha.lc
  have h2 := ha.lim
  have h3 := hb.lc
  have h4 := hb.lim
  by_cases hl : p.length = q.length
  · have hne : ((p.length : Int) != (q.length : Int)) = false := by rw [hl]; simp
    have HC : Hid (∀ (wx : World), Below w.heap.size w wx → ∀ i (h : i < p.length) (h' : i < q.length), ∃ g g', a = some ⟨g, 0, none⟩ ∧ b = some ⟨g', 0, none⟩ ∧ wx.cell? ⟨g, i, none⟩ = some (.int .i64 ((p[i] : Nat) : Int)) ∧ wx.cell? ⟨g', i, none⟩ = some (.int .i64 ((q[i] : Nat) : Int))) := by
      intro wx hw i h h'
      rcases (ha.below hw).cell with ⟨_, e, _⟩ | ⟨g, e1, _, c1⟩
      · rw [e] at h; simp at h
      · rcases (hb.below hw).cell with ⟨_, e, _⟩ | ⟨g', e2, _, c2⟩
        · rw [e] at h'; simp at h'
        · exact ⟨g, g', e1, e2, c1 i h, c2 i h'⟩
    have HV : Hid (pv p = x ∧ pv q = y ∧ lt9 p ∧ lt9 q) := ⟨hp.val, hq.val, hp.lt, hq.lt⟩
    obtain ⟨V, hV⟩ : ∃ V, V = cmpN x y := ⟨_, rfl⟩
    rw [← hV]
    have HVV := Lib.hid hV
    have HL := Lib.hid hl
    clear ha hb hp hq hV hl
    obtain ⟨m, hm⟩ : ∃ m, m = p.length := ⟨_, rfl⟩
    obtain ⟨n, hn⟩ : ∃ m, m = q.length := ⟨_, rfl⟩
    have HM := Lib.hid hm
    have HN := Lib.hid hn
    rw [← hm] at h1 hne ⊢
    rw [← hn] at h3 hne ⊢
    clear hm hn
    go_enter Tryz.func65, Tryz.ntmps65
    go_wp2_with fail
    go_loopw [5] (fun iv wr => ∃ (E : Int) (k : Nat), iv = .int .i64 E ∧ -1 ≤ E ∧ E < m ∧ Hid (E = (k : Int) - 1 ∧ p.drop k = q.drop k) ∧ Below w.heap.size w wr) (fun iv _ => (intOf iv + 1).toNat)
    case atStart => exact ⟨_, m, rfl, by omega, by omega, ⟨rfl, by rw [HM.out, List.drop_length, HL.out, List.drop_length]⟩, Below.refl _ _⟩
    case round =>
      obtain ⟨E, k, rfl, hE1, hE2, HI, hbel⟩ := hrel
      have HB := Lib.hid hbel
      by_cases hk0 : k = 0
      · have hE : E = -1 := by have := HI.out.1; omega
        subst hE
        have HR := Lib.hid (show V = 0 by
          have h := HI.out.2
          rw [hk0, List.drop_zero, List.drop_zero] at h
          rw [HVV.out, ← HV.out.1, ← HV.out.2.1, h, cmp_eq])
        clear hbel
        go_wp2_with fail
        go_ret
        exact ⟨by rw [HR.out]; rfl, HB.out⟩
      · obtain ⟨j, rfl⟩ : ∃ j, k = j + 1 := ⟨k - 1, by omega⟩
        obtain rfl : E = (j : Int) := by have := HI.out.1; omega
        have hjp : j < p.length := by have := HM.out; omega
        have hjq : j < q.length := by have := HL.out; omega
        obtain ⟨g, g', rfl, rfl, hc1, hc2⟩ := HC.out wr hbel j hjp hjq
        have hd := HI.out.2
        have hjm : (j : Int) < m := by omega
        have hjn : (j : Int) < n := by have := HM.out; have := HN.out; have := HL.out; omega
        have HD1 := Lib.hid (fun (h : p[j] < q[j]) => order_lt hjp hjq HV.out.2.2.1 hd h)
        have HD2 := Lib.hid (fun (h : q[j] < p[j]) => order_lt hjq hjp HV.out.2.2.2 hd.symm h)
        have HD3 := Lib.hid (fun (h : p[j] = q[j]) => drop_eq hjp hjq hd h)
        obtain ⟨u, hu⟩ : ∃ u, u = p[j] := ⟨_, rfl⟩
        obtain ⟨v, hv⟩ : ∃ u, u = q[j] := ⟨_, rfl⟩
        rw [← hu] at hc1 HD1 HD2 HD3
        rw [← hv] at hc2 HD1 HD2 HD3
        clear hbel hd hu hv
        rcases (by omega : u < v ∨ v < u ∨ u = v) with h | h | h
        · have hb1 : decide (u < v) = true := decide_eq_true h
          have HR := Lib.hid (show V = -1 by rw [HVV.out, cmp_lt (by have := HD1.out h; rw [HV.out.1, HV.out.2.1] at this; exact this)])
          clear h
          go_wp2_with fail
          go_quiet (fail)
          go_wp2_with fail
          go_ret
          exact ⟨by rw [HR.out]; rfl, by first | exact below_drewN HB.out _ | exact below_drewN (below_drewN HB.out _) _⟩
        · have hb1 : decide (u < v) = false := decide_eq_false (by omega)
          have hb2 : decide (v < u) = true := decide_eq_true h
          have HR := Lib.hid (show V = 1 by rw [HVV.out, cmp_gt (by have := HD2.out h; rw [HV.out.1, HV.out.2.1] at this; exact this)])
          clear h
          go_wp2_with fail
          go_quiet (fail)
          go_wp2_with fail
          go_quiet (fail)
          go_wp2_with fail
          go_ret
          exact ⟨by rw [HR.out]; rfl, by first | exact below_drewN HB.out _ | exact below_drewN (below_drewN HB.out _) _⟩
        · have HD4 := Lib.hid (HD3.out h)
          subst h
          go_wp2_with fail
          go_quiet (fail)
          go_wp2_with fail
          go_quiet (fail)
          go_wp2_with fail
          all_goals go_roundw
          case rel => exact ⟨_, j, rfl, by omega, by omega, ⟨rfl, HD4.out⟩, by first | exact below_drewN HB.out _ | exact below_drewN (below_drewN HB.out _) _⟩
          case measure => simp [intOf] <;> omega
  · have hne : ((p.length : Int) != (q.length : Int)) = true := by rw [bne_iff_ne]; omega
    have HR := Lib.hid (show (p.length < q.length → cmpN x y = -1) ∧ (q.length < p.length → cmpN x y = 1) from ⟨fun h => cmp_lt (by
        apply Nat.lt_of_not_le; intro q2; have := hp.len_mono hq q2; omega), fun h => cmp_gt (by
        apply Nat.lt_of_not_le; intro q2; have := hq.len_mono hp q2; omega)⟩)
    obtain ⟨V, hV⟩ : ∃ V, V = cmpN x y := ⟨_, rfl⟩
    rw [← hV] at HR ⊢
    clear ha hb hp hq hV
    obtain ⟨m, hm⟩ : ∃ m, m = p.length := ⟨_, rfl⟩
    obtain ⟨n, hn⟩ : ∃ m, m = q.length := ⟨_, rfl⟩
    rw [← hm] at h1 hne HR ⊢
    rw [← hn] at h3 hne HR ⊢
    rcases (by omega : m < n ∨ n < m) with h | h
    · have hb1 : decide (m < n) = true := decide_eq_true h
      have HR1 := Lib.hid (HR.out.1 h)
      clear hm hn hl h HR
      go_enter Tryz.func65, Tryz.ntmps65
      go_wp2_with fail
      go_ret
      exact ⟨by rw [HR1.out]; rfl, Below.refl _ _⟩
    · have hb1 : decide (m < n) = false := decide_eq_false (by omega)
      have HR1 := Lib.hid (HR.out.2 h)
      clear hm hn hl h HR
      go_enter Tryz.func65, Tryz.ntmps65
      go_wp2_with fail
      go_ret
      exact ⟨by rw [HR1.out]; rfl, Below.refl _ _⟩
end Go.Proofs.YtjebddpapbopnaaGreatDoor
