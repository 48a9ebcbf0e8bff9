/-
  Texts of one seat, joined: Away Reduce Quot Divide DivMod Gcd.
-/
import Derived.Test.YtjebddpapbopnaaGreatDoorG2
import Derived.Maps.AppendAt
import Derived.Deep.LoopGhost
namespace Go.Proofs.YtjebddpapbopnaaGreatDoor
open Go.RowKit

theorem away_step {S p1 b1 : List Nat} {d c x y v c2 : Nat} (hp : p1.length = S.length) (hb : b1.length = S.length) (h : pv S + d * pv b1 = pv p1 + 1000000000 ^ S.length * c) (hv : v + (c + d * y) = x + 1000000000 * c2) :
    pv (S ++ [v]) + d * pv (b1 ++ [y]) = pv (p1 ++ [x]) + 1000000000 ^ (S.length + 1) * c2 := by
  rw [pv_snoc, pv_snoc, pv_snoc, hp, hb, Nat.pow_succ, Nat.mul_assoc, Nat.mul_add d, Nat.mul_left_comm d]
  have h2 : 1000000000 ^ S.length * (v + (c + d * y)) = 1000000000 ^ S.length * (x + 1000000000 * c2) := by rw [hv]
  rw [Nat.mul_add, Nat.mul_add, Nat.mul_add] at h2
  omega
/-- the guess of a digit is right, or one too much -/
theorem guess_near {T Y k lo lb P bv q d : Nat} (hP : P = T * k + lo) (hlo : lo < k) (hb : bv = Y * k + lb) (hlb : lb < k) (hY : 1000000000 ≤ Y) (hq : q = P / bv) (hq9 : q < 1000000000) (hd : d = T / Y) : d = q ∨ d = q + 1 := by
  have hk : 0 < k := by omega
  have hbv : 0 < bv := by
    have : 1 * k ≤ Y * k := Nat.mul_le_mul_right k (by omega)
    omega
  have e := Nat.div_add_mod P bv
  have l := Nat.mod_lt P hbv
  rw [← hq] at e
  have e2 := Nat.div_add_mod T Y
  have l2 := Nat.mod_lt T (show 0 < Y by omega)
  rw [← hd] at e2
  have h1 : q ≤ d := by
    rw [hd, Nat.le_div_iff_mul_le (by omega)]
    apply Nat.le_of_lt_succ
    apply Nat.lt_of_mul_lt_mul_right (a := k)
    have a1 : q * Y * k ≤ q * bv := by rw [hb, Nat.mul_add, ← Nat.mul_assoc]; omega
    have a2 : bv * q = q * bv := Nat.mul_comm _ _
    have a3 : (T + 1) * k = T * k + k := by rw [Nat.add_mul, Nat.one_mul]
    rw [Nat.succ_eq_add_one, a3]
    omega
  have h2 : d ≤ q + 1 := by
    apply Nat.le_of_lt_succ
    apply Nat.lt_of_not_le; intro hc
    have b1 : (q + 2) * Y ≤ T := by
      have : (q + 2) * Y ≤ d * Y := Nat.mul_le_mul_right Y hc
      have : Y * d = d * Y := Nat.mul_comm _ _
      omega
    have b2 : (q + 2) * Y * k ≤ T * k := Nat.mul_le_mul_right k b1
    have b3 : bv * (q + 1) = bv * q + bv := by rw [Nat.mul_add, Nat.mul_one]
    have b4 : bv * (q + 1) ≤ (Y + 1) * k * (q + 1) := Nat.mul_le_mul_right _ (by rw [hb, Nat.add_mul, Nat.one_mul]; omega)
    have b5 : (Y + 1) * k * (q + 1) = (q + 1) * (Y + 1) * k := by rw [Nat.mul_comm ((Y + 1) * k), Nat.mul_assoc]
    have b6 : (q + 2) * Y * k < (q + 1) * (Y + 1) * k := by omega
    have b7 := Nat.lt_of_mul_lt_mul_right b6
    have b8 : (q + 2) * Y = q * Y + 2 * Y := by rw [Nat.add_mul]
    have b9 : (q + 1) * (Y + 1) = q * Y + q + (Y + 1) := by rw [Nat.add_mul, Nat.mul_add]; omega
    omega
  omega
/-- what stands behind the loop -/
theorem away_end {P t bv q d s c M : Nat} (hbM : bv ≤ M) (hb0 : 0 < bv) (hq : q = (P + M * t) / bv) (hd : d = q ∨ d = q + 1) (hs : s < M) (h : s + d * bv = P + M * c) :
    (c ≤ t → d = q ∧ s = (P + M * t) % bv) ∧ (t < c → d = q + 1 ∧ ∀ s2 c3, s2 < M → s2 + M * c3 = s + bv → s2 = (P + M * t) % bv) := by
  have e := Nat.div_add_mod (P + M * t) bv
  have l := Nat.mod_lt (P + M * t) hb0
  rw [← hq] at e
  generalize (P + M * t) % bv = r at *
  have eq1 : bv * q = q * bv := Nat.mul_comm _ _
  have eq2 : (q + 1) * bv = q * bv + bv := by rw [Nat.add_mul, Nat.one_mul]
  constructor
  · intro hct
    obtain ⟨k, rfl⟩ : ∃ k, t = c + k := ⟨t - c, by omega⟩
    rw [Nat.mul_add] at e
    rcases hd with rfl | rfl
    · have h3 : r = s + M * k := by omega
      have hk0 : k = 0 := by
        apply Nat.eq_zero_of_not_pos; intro hk
        have : M * 1 ≤ M * k := Nat.mul_le_mul_left M hk
        omega
      rw [hk0] at h3
      exact ⟨rfl, by omega⟩
    · exfalso; rw [eq2] at h; omega
  · intro hct
    obtain ⟨k, rfl⟩ : ∃ k, c = t + (k + 1) := ⟨c - t - 1, by omega⟩
    rw [Nat.mul_add, Nat.mul_add] at h
    rcases hd with rfl | rfl
    · exfalso; omega
    · refine ⟨rfl, ?_⟩
      intro s2 c3 h4 h5
      rw [eq2] at h
      have h6 : r + M * k + M = s + bv := by omega
      have h7 : s2 + M * c3 = r + M * (k + 1) := by rw [Nat.mul_add]; omega
      have h8 := congrArg (· % M) h7
      simp only [Nat.add_mul_mod_self_left] at h8
      rw [Nat.mod_eq_of_lt h4, Nat.mod_eq_of_lt (by omega)] at h8
      exact h8
theorem two_last {l : List Nat} (h : 2 ≤ l.length) : ∃ l0 x y, l = l0 ++ [x, y] := by
  rcases snoc_cases l with rfl | ⟨l1, y, rfl⟩
  · simp at h
  · rcases snoc_cases l1 with rfl | ⟨l0, x, rfl⟩
    · simp at h
    · exact ⟨l0, x, y, by simp⟩
theorem end_at (A S C : List Nat) (x : Nat) : ∃ h : A.length + S.length < (A ++ S ++ x :: C).length, (A ++ S ++ x :: C)[A.length + S.length]'h = x := by
  refine ⟨by simp, ?_⟩
  rw [List.getElem_append_right (by simp)]
  simp
theorem end_set (A S C : List Nat) (x v : Nat) : (A ++ S ++ x :: C).set (A.length + S.length) v = A ++ S ++ v :: C := by
  rw [List.set_append_right _ _ (by simp)]
  simp
theorem Row.drawn {w : World} {B g cap : Nat} {l : List Nat} (h : Row w B g cap l) (n : Nat) : Row (w.drewN n) B g cap l := h
theorem Row.cellAt {w : World} {B g cap : Nat} {l : List Nat} (h : Row w B g cap l) {i x : Nat} (e : ∃ k : i < l.length, l[i]'k = x) : w.cell? ⟨g, i, none⟩ = some (.int .u64 (x : Int)) := by
  obtain ⟨k, rfl⟩ := e; exact h.cell i k
theorem pow_two_more (k : Nat) : 1000000000 ^ (k + 2) = 1000000000 ^ k * 1000000000000000000 := by rw [Nat.pow_add]
theorem pv_two (l : List Nat) (x y : Nat) : pv (l ++ [x, y]) = (y * 1000000000 + x) * 1000000000 ^ l.length + pv l := by
  rw [pv_append, Nat.mul_comm _ (1000000000 ^ l.length)]
  have : pv [x, y] = y * 1000000000 + x := by simp [pv]; omega
  rw [this]; omega

set_option maxHeartbeats 3200000 in
set_option maxRecDepth 100000 in
theorem takeAway_any (B g cap g' cap' : Nat) (A P C bl : List Nat) (t : Nat) (w : World) (h : Row w B g cap (A ++ P ++ t :: C)) (hb : Row w B g' cap' bl) (hg : g' ≠ g) (hl : P.length = bl.length) (h2 : 2 ≤ bl.length) (hP9 : lt9 P) (ht9 : t < 1000000000) (hb9 : lt9 bl) (htop : Go.Proofs.YtjebddpapbopnaaGreatDoor.top bl) (hlt : pv P + 1000000000 ^ bl.length * t < pv bl * 1000000000) (m : Nat) (hm : m = bl.length + 1) (hlen : bl.length ≤ 200000) :
    Calls Tryz.prog 144 #[.slice (some ⟨g, A.length, none⟩) m (cap - A.length), .slice (some ⟨g', 0, none⟩) bl.length cap'] w fun e w' => ∃ S : List Nat, e = .returned (.int .u64 (((pv P + 1000000000 ^ bl.length * t) / pv bl : Nat) : Int)) ∧ S.length = bl.length ∧ lt9 S ∧ pv S = (pv P + 1000000000 ^ bl.length * t) % pv bl ∧ Row w' B g cap (A ++ S ++ 0 :: C) ∧ w.grownBy w' (some g) := by
  have hlc := hb.len_cap
  unfold maxLen at hlc
  have HH := Lib.hid h
  have HBR := Lib.hid hb
  have HP9 := Lib.hid hP9
  have HB9 := Lib.hid hb9
  have HL := Lib.hid hl
  have HMB := Lib.hid hm
  have hmi : (m : Int) = (bl.length : Int) + 1 := by omega
  have hbM := pv_lt bl hb9
  obtain ⟨q, hq⟩ : ∃ q, q = (pv P + 1000000000 ^ bl.length * t) / pv bl := ⟨_, rfl⟩
  have hq9 : q < 1000000000 := by rw [hq]; exact Nat.div_lt_of_lt_mul hlt
  -- the highest pieces
  obtain ⟨P0, x2, x1, eP⟩ := two_last (show 2 ≤ P.length by omega)
  obtain ⟨b0, y2, y1, eb⟩ := two_last h2
  have hlP : P.length = P0.length + 2 := by rw [eP]; simp
  have hlb : bl.length = b0.length + 2 := by rw [eb]; simp
  have hx1 : x1 < 1000000000 := hP9 x1 (by rw [eP]; simp)
  have hx2 : x2 < 1000000000 := hP9 x2 (by rw [eP]; simp)
  have hy1 : y1 < 1000000000 := hb9 y1 (by rw [eb]; simp)
  have hy2 : y2 < 1000000000 := hb9 y2 (by rw [eb]; simp)
  have hy0 : 1 ≤ y1 := by
    apply Nat.pos_of_ne_zero; intro e
    rw [eb, e] at htop
    simp [Go.Proofs.YtjebddpapbopnaaGreatDoor.top] at htop
  have c0 := h.cellAt (end_at A P C t)
  rw [hl] at c0
  have hP' := h
  rw [eP] at hP'
  have c2 := hP'.cellAt (mid_at A P0 [x1] (t :: C) x2)
  rw [show P0.length = b0.length by omega] at c2
  have c1m := mid_at A (P0 ++ [x2]) [] (t :: C) x1
  rw [show A ++ ((P0 ++ [x2]) ++ x1 :: []) ++ t :: C = A ++ (P0 ++ [x2, x1]) ++ t :: C by simp, show (P0 ++ [x2]).length = b0.length + 1 by simp; omega] at c1m
  have c1 := hP'.cellAt c1m
  have d1 : w.cell? ⟨g', b0.length + 1, none⟩ = some (.int .u64 (y1 : Int)) := hb.cellAt ⟨by omega, by simp [eb]⟩
  have d2 : w.cell? ⟨g', b0.length, none⟩ = some (.int .u64 (y2 : Int)) := hb.cellAt ⟨by omega, by simp [eb]⟩
  have hgu := guess_cells g g' A.length bl.length (cap - A.length) cap' m (b0.length + 1) b0.length t x1 x2 y1 y2 w (by omega) rfl hlen hm ht9 hx1 hx2 hy0 hy1 hy2 c0 c1 c2 d1 d2
  obtain ⟨d, hd⟩ : ∃ d, d = ((t * 1000000000 + x1) * 1000000000 + x2) / (y1 * 1000000000 + y2) := ⟨_, rfl⟩
  rw [← hd] at hgu
  have hP0 : pv P0 < 1000000000 ^ P0.length := pv_lt P0 (fun x hx => hP9 x (by rw [eP]; simp [hx]))
  have hb0 : pv b0 < 1000000000 ^ b0.length := pv_lt b0 (fun x hx => hb9 x (by rw [eb]; simp [hx]))
  have hne := guess_near (T := (t * 1000000000 + x1) * 1000000000 + x2) (Y := y1 * 1000000000 + y2) (k := 1000000000 ^ b0.length) (lo := pv P0) (lb := pv b0) (P := pv P + 1000000000 ^ bl.length * t) (bv := pv bl) (q := q) (d := d) (by
    rw [eP, pv_two, hlb, pow_two_more, show P0.length = b0.length by omega]
    generalize 1000000000 ^ b0.length = k
    have a0 : (t * 1000000000 + x1) * 1000000000 + x2 = t * 1000000000000000000 + (x1 * 1000000000 + x2) := by omega
    have a1 : ((t * 1000000000 + x1) * 1000000000 + x2) * k = t * 1000000000000000000 * k + (x1 * 1000000000 + x2) * k := by rw [a0, Nat.add_mul]
    have a2 : k * 1000000000000000000 * t = t * 1000000000000000000 * k := by rw [Nat.mul_comm k, Nat.mul_right_comm, Nat.mul_comm 1000000000000000000 t]
    omega) (by rw [show b0.length = P0.length by omega]; exact hP0) (by rw [eb, pv_two]) hb0 (by omega) hq hq9 hd
  have hbv0 : 0 < pv bl := by
    rw [eb, pv_two]
    have : 1 * 1000000000 ^ b0.length ≤ (y1 * 1000000000 + y2) * 1000000000 ^ b0.length := Nat.mul_le_mul_right _ (by omega)
    have : 0 < 1000000000 ^ b0.length := Nat.pow_pos (by decide)
    omega
  have hd9 : d ≤ 1000000000 := by omega
  have HNE := Lib.hid hne
  have HBM := Lib.hid (Nat.le_of_lt hbM)
  have HBV := Lib.hid hbv0
  have HQ := Lib.hid hq
  have HGU := Lib.hid hgu
  rw [← hq]
  clear h hb hP9 hb9 hl hm hbM hq eP eb hlP hlb hx1 hx2 hy1 hy2 hy0 c0 c1 c2 d1 d2 hP' c1m hgu hd hP0 hb0 hne hbv0 htop hlt
  go_enter Tryz.func144, Tryz.ntmps144
  go_wp2_with fail
  refine HGU.out.mono ?_
  rintro e w1 ⟨rfl, dk, rfl⟩
  have HG0 : Hid (w.grownBy (w.drewN dk) (some g)) := Lib.hid ⟨rfl, rfl, rfl, Nat.le_refl _, fun _ _ _ => rfl⟩
  have HH1 := Lib.hid (HH.out.drawn dk)
  obtain ⟨w1, hw1⟩ : ∃ w1, w1 = w.drewN dk := ⟨_, rfl⟩
  rw [← hw1] at HG0 HH1 ⊢
  clear hw1
  go_wp2_with fail
  go_loopw [6, 7, 8, 9, 15] (fun cv _ _ _ iv wr => ∃ (i c : Nat) (S p1 R b1 b2 : List Nat), iv = .int .i64 i ∧ i ≤ bl.length ∧ cv = .int .u64 c ∧ c ≤ 1000000001 ∧ Hid (S.length = i ∧ p1.length = i ∧ b1.length = i ∧ P = p1 ++ R ∧ bl = b1 ++ b2 ∧ lt9 S ∧ pv S + d * pv b1 = pv p1 + 1000000000 ^ S.length * c) ∧ Row wr B g cap (A ++ (S ++ R) ++ t :: C) ∧ w.grownBy wr (some g)) (fun _ _ _ _ iv _ => bl.length - (intOf iv).toNat)
  case atStart => exact ⟨0, 0, [], [], P, [], bl, rfl, Nat.zero_le _, rfl, by omega, Lib.hid ⟨rfl, rfl, rfl, rfl, rfl, (by intro x hx; cases hx), rfl⟩, HH1.out, HG0.out⟩
  case round =>
    obtain ⟨i, c, S, p1, R, b1, b2, rfl, hi, rfl, hc, HI, hrow, hgr⟩ := hrel
    by_cases hlt : i < bl.length
    · obtain ⟨e1, e2, e3, e4, e5, e6, e7⟩ := HI.out
      obtain ⟨x, R, rfl⟩ : ∃ x R', R = x :: R' := by
        cases R with
        | nil => have := HL.out; rw [e4, List.append_nil] at this; omega
        | cons x R' => exact ⟨x, R', rfl⟩
      obtain ⟨y, b2, rfl⟩ : ∃ y b', b2 = y :: b' := by
        cases b2 with
        | nil => rw [e5, List.append_nil] at hlt; omega
        | cons y b' => exact ⟨y, b', rfl⟩
      have hx9 : x < 1000000000 := HP9.out x (by rw [e4]; simp)
      have hy9 : y < 1000000000 := HB9.out y (by rw [e5]; simp)
      have hcell := hrow.cellAt (mid_at A S R (t :: C) x)
      have hfree := hrow.free (A.length + S.length)
      have hbc : wr.cell? ⟨g', i, none⟩ = some (.int .u64 (y : Int)) := (HBR.out.grown hgr hg).cellAt ⟨hlt, by
        simp only [e5]
        rw [List.getElem_append_right (by omega)]
        simp [e3]⟩
      obtain ⟨z, hz⟩ : ∃ z, z = d * y := ⟨_, rfl⟩
      have hzi : (d : Int) * (y : Int) = (z : Int) := by rw [hz]; simp
      have hzb : z ≤ 999999999000000000 := by rw [hz]; exact Nat.le_trans (Nat.mul_le_mul hd9 (show y ≤ 999999999 by omega)) (by decide)
      obtain ⟨a, ha⟩ : ∃ a, a = (c + z) % 1000000000 := ⟨_, rfl⟩
      obtain ⟨c1, hc1⟩ : ∃ c1, c1 = (c + z) / 1000000000 := ⟨_, rfl⟩
      have hai : ((c : Int) + (z : Int)) % 1000000000 = (a : Int) := by omega
      have hci : ((c : Int) + (z : Int)) / 1000000000 = (c1 : Int) := by omega
      have ha9 : a < 1000000000 := by omega
      have hc1b : c1 ≤ 1000000000 := by omega
      rw [e1] at hcell hfree
      have fin : ∀ v c2 : Nat, v < 1000000000 → v + (c + d * y) = x + 1000000000 * c2 →
          Hid ((S ++ [v]).length = i + 1 ∧ (p1 ++ [x]).length = i + 1 ∧ (b1 ++ [y]).length = i + 1 ∧ P = (p1 ++ [x]) ++ R ∧ bl = (b1 ++ [y]) ++ b2 ∧ lt9 (S ++ [v]) ∧ pv (S ++ [v]) + d * pv (b1 ++ [y]) = pv (p1 ++ [x]) + 1000000000 ^ (S ++ [v]).length * c2) := fun v c2 hv9 hv =>
        Lib.hid ⟨by simp; omega, by simp; omega, by simp; omega, by rw [e4]; simp, by rw [e5]; simp, lt9_snoc e6 hv9, by rw [List.length_append]; exact away_step (by omega) (by omega) e7 hv⟩
      have FIN := Lib.hid fin
      have fset : ∀ v : Nat, Row (wr.setCell ⟨g, A.length + i, none⟩ (.int .u64 (v : Int))) B g cap (A ++ ((S ++ [v]) ++ R) ++ t :: C) := fun v => by
        have := hrow.set (A.length + S.length) v
        rw [mid_set, e1] at this; exact this
      have FSET := Lib.hid fset
      have fset2 : ∀ (u v : Nat) (U : Int), U = (u : Int) → Row ((wr.setCell ⟨g, A.length + i, none⟩ (.int .u64 U)).setCell ⟨g, A.length + i, none⟩ (.int .u64 (v : Int))) B g cap (A ++ ((S ++ [v]) ++ R) ++ t :: C) := fun u v U hU => by
        have := (hrow.set (A.length + S.length) u).set (A.length + S.length) v
        rw [List.set_set, mid_set, e1] at this; rw [hU]; exact this
      have FSET2 := Lib.hid fset2
      have GR := Lib.hid hgr
      by_cases hxa : x < a
      · obtain ⟨v, hv⟩ : ∃ v, v = x + 1000000000 - a := ⟨_, rfl⟩
        have hvi : (x : Int) + 1000000000 - (a : Int) = (v : Int) := by omega
        have HI2 := fin v (c1 + 1) (by omega) (by omega)
        clear e1 e2 e3 e4 e5 e6 e7 hz ha hc1 hv fin fset fset2 hrow hgr HI
        go_wp2_with fail
        refine ⟨⟨i + 1, c1 + 1, S ++ [v], p1 ++ [x], R, b1 ++ [y], b2, by push_cast; rfl, by omega, by push_cast; rfl, by omega, HI2, FSET2.out (x + 1000000000) v _ (by omega), grown_trans GR.out (grown_trans (grown_set _ _ _ _) (grown_set _ _ _ _))⟩, ?_⟩
        simp [intOf] <;> omega
      · obtain ⟨v, hv⟩ : ∃ v, v = x - a := ⟨_, rfl⟩
        have hvi : (x : Int) - (a : Int) = (v : Int) := by omega
        have HI2 := fin v c1 (by omega) (by omega)
        clear e1 e2 e3 e4 e5 e6 e7 hz ha hc1 hv fin fset fset2 hrow hgr HI
        go_wp2_with fail
        refine ⟨⟨i + 1, c1, S ++ [v], p1 ++ [x], R, b1 ++ [y], b2, by push_cast; rfl, by omega, by rw [hci], by omega, HI2, FSET.out v, grown_trans GR.out (grown_set _ _ _ _)⟩, ?_⟩
        simp [intOf] <;> omega
    · obtain rfl : i = bl.length := by omega
      obtain ⟨e1, e2, e3, e4, e5, e6, e7⟩ := HI.out
      have eR : R = [] := by
        cases R with
        | nil => rfl
        | cons x R' =>
          have := HL.out
          rw [e4, List.length_append, e2, List.length_cons] at this; omega
      have eb : b2 = [] := by
        cases b2 with
        | nil => rfl
        | cons x R' =>
          have := congrArg List.length e5
          rw [List.length_append, e3, List.length_cons] at this; omega
      subst eR eb
      rw [List.append_nil] at e4 e5 hrow
      rw [← e4, ← e5, e1] at e7
      have hsM := pv_lt S e6
      rw [e1] at hsM
      have hend := away_end HBM.out HBV.out HQ.out HNE.out hsM e7
      have c0 := hrow.cellAt (end_at A S C t)
      have f0 := hrow.free (A.length + bl.length)
      rw [e1] at c0
      have HROW := Lib.hid hrow
      have HGR := Lib.hid hgr
      have HS1 := Lib.hid e1
      have HS9 := Lib.hid e6
      by_cases hct : t < c
      · obtain ⟨hdq, hun⟩ := hend.2 hct
        have hdi : (d : Int) - 1 = (q : Int) := by omega
        have HUN := Lib.hid hun
        have HGB := Lib.hid (giveBack_any B g cap g' cap' A S (t :: C) bl wr hrow (HBR.out.grown hgr hg) hg e1 e6 HB9.out m HMB.out hlen)
        clear e1 e2 e3 e4 e5 e6 e7 hsM hend hrow hgr hdq hun HI
        go_wp2_with fail
        refine HGB.out.mono ?_
        rintro e w2 ⟨S2, c3, rfl, k1, k2, k3, k4, k5⟩
        have c02 := k4.cellAt (end_at A S2 C t)
        have f02 := k4.free (A.length + bl.length)
        rw [k1] at c02
        have hset := k4.set (A.length + S2.length) 0
        rw [end_set, k1] at hset
        have HSET := Lib.hid hset
        have HG2 := Lib.hid (grown_trans HGR.out (grown_trans k5 (grown_set w2 g (A.length + bl.length) (.int .u64 0))))
        have hs2M := pv_lt S2 k2
        rw [k1] at hs2M
        have HR := Lib.hid (HUN.out (pv S2) c3 hs2M k3)
        have HK1 := Lib.hid k1
        have HK2 := Lib.hid k2
        clear k1 k2 k3 k4 k5 hset hs2M c0 f0
        go_wp2_with fail
        go_ret
        exact ⟨S2, rfl, HK1.out, HK2.out, HR.out, HSET.out, HG2.out⟩
      · obtain ⟨hdq, hr⟩ := hend.1 (by omega)
        have hset := hrow.set (A.length + S.length) 0
        rw [end_set, e1] at hset
        have HSET := Lib.hid hset
        have HG2 := Lib.hid (grown_trans hgr (grown_set wr g (A.length + bl.length) (.int .u64 0)))
        have HR := Lib.hid hr
        have HDQ := Lib.hid hdq
        clear e1 e2 e3 e4 e5 e6 e7 hsM hend hrow hgr hdq hr hset HI
        go_wp2_with fail
        go_ret
        exact ⟨S, by rw [HDQ.out]; rfl, HS1.out, HS9.out, HR.out, HSET.out, HG2.out⟩
end Go.Proofs.YtjebddpapbopnaaGreatDoor

namespace Go.Proofs.YtjebddpapbopnaaGreatDoor
open Go.RowKit

theorem pv_consN (x : Nat) (l : List Nat) : pv (x :: l) = x + 1000000000 * pv l := by
  simp [pv]
theorem top_big {b : List Nat} (h : Go.Proofs.YtjebddpapbopnaaGreatDoor.top b) (h0 : b ≠ []) : 1000000000 ^ (b.length - 1) ≤ pv b := by
  rcases snoc_cases b with rfl | ⟨l, x, rfl⟩
  · exact absurd rfl h0
  · have hx : x ≠ 0 := by intro e; rw [e] at h; simp [Go.Proofs.YtjebddpapbopnaaGreatDoor.top] at h
    rw [pv_snoc, List.length_append, List.length_singleton, Nat.add_sub_cancel]
    have : 1000000000 ^ l.length * 1 ≤ 1000000000 ^ l.length * x := Nat.mul_le_mul_left _ (by omega)
    omega
theorem zeros_pv (X : List Nat) (k : Nat) : pv (X ++ List.replicate k 0) = pv X := by rw [pv_append, pv_replicate]; simp

set_option maxHeartbeats 3200000 in
set_option maxRecDepth 100000 in
theorem reduce_nil (B g cap g' cap' : Nat) (a b : List Nat) (w : World) (ha : Row w B g cap a) (hb : Row w B g' cap' b) (hg : g' ≠ g) (hab : b.length ≤ a.length) (h2 : 2 ≤ b.length) (ha9 : lt9 a) (hb9 : lt9 b) (htop : Go.Proofs.YtjebddpapbopnaaGreatDoor.top b) (hlen : a.length ≤ 200000) (hB : B ≤ w.heap.size) :
    Calls Tryz.prog 123 #[.slice (some ⟨g, 0, none⟩) a.length cap, .slice (some ⟨g', 0, none⟩) b.length cap', .slice none 0 0] w fun e w' => ∃ (g1 cap1 : Nat) (p : List Nat), e = .returned (.slice (some ⟨g1, 0, none⟩) p.length cap1) ∧ Pcs p (pv a % pv b) ∧ Row w' B g1 cap1 p ∧ Row w' B g' cap' b ∧ g1 ≠ g' ∧ Below B w w' := by
  obtain ⟨i0, hi, hz0, hz1, hz2⟩ := info_parts info64
  have hlca := ha.len_cap
  have hlcb := hb.len_cap
  unfold maxLen at hlca hlcb
  have HA := Lib.hid ha
  have HB := Lib.hid hb
  have hb0 : 0 < pv b := Nat.lt_of_lt_of_le (Nat.pow_pos (by decide)) (top_big htop (by intro e; rw [e] at h2; simp at h2))
  have HB9 := Lib.hid hb9
  have HA9 := Lib.hid ha9
  have HT := Lib.hid htop
  have HB0 := Lib.hid hb0
  have HGB := Lib.hid hb.lt
  have HGA := Lib.hid ha.lt
  clear ha hb ha9 hb9 htop hb0
  go_enter Tryz.func123, Tryz.ntmps123
  go_wp2_with (first
    | (at_builtin; refine wpList_append_own_at _ rfl _ _ 103 rfl B 61 i0 (.int .u64 0) 1 8 Tryz.underlying103 hi hz0 hz1 hz2 rfl (by decide) _ _ _ rfl (World.ownsRow.alloc HA.out _) ⟨w.heap.size, 0, none⟩ 1 1 [.int .u64 0] rfl rfl ?c1 ?c2 ?c3 ?c4 ?c5 ?_)
    | fail)
  case c1 =>
    intro j u hj
    match j, hj with
    | 0, hj => simp at hj; subst hj; simp [Addr.add]
  case c2 => intro u hu; simp at hu; subst hu; rfl
  case c3 => unfold maxLen; omega
  case c4 => omega
  case c5 => simp; omega
  · intro v' w2 hown' hgrow _ hblk
    obtain ⟨g1, cap1, rfl⟩ := own_some hown' (by omega)
    have hrow' : Row w2 B g1 cap1 (a ++ [0]) := Row.of hown' (by simp) (by rw [c64_append]; rfl)
    have hgg : g' ≠ g1 := by
      have h1 := HGB.out.2
      rcases hblk with h | h
      · simp [Value.ownBlock] at h; omega
      · simp [Value.ownBlock] at h; omega
    have hbel : Below B w w2 := (((Below.refl B w).alloc hB _).grown hgrow (by simp; omega) (by intro q hq; simp [Value.ownBlock] at hq; have := HGA.out; omega))
    have hrb : Row w2 B g' cap' b := World.ownsRow.kept (World.ownsRow.alloc HB.out _) hgrow (.inr (by simp [Value.ownBlock]; exact hg))
    have HROW := Lib.hid hrow'
    have HRB := Lib.hid hrb
    have HBEL := Lib.hid hbel
    have hl1 : (a ++ [0]).length = a.length + 1 := by simp
    have hlc1 := hrow'.len_cap
    unfold maxLen at hlc1
    rw [hl1] at hlc1
    have HG1 := Lib.hid hrow'.lt
    clear hown' hgrow hblk hrow' hrb hbel hl1
    go_wp2_with fail
    go_loopw [8, 9] (fun iv _ wr => ∃ (E : Int) (k z : Nat) (A Wd : List Nat), iv = .int .i64 E ∧ -1 ≤ E ∧ E ≤ a.length ∧ Hid (E = (k : Int) - 1 ∧ A.length = k ∧ Wd.length = b.length ∧ lt9 A ∧ lt9 Wd ∧ pv Wd < pv b ∧ pv (A ++ Wd) % pv b = pv a % pv b ∧ k + b.length + z = a.length + 1) ∧ Row wr B g1 cap1 (A ++ Wd ++ List.replicate z 0) ∧ w2.grownBy wr (some g1)) (fun iv _ _ => (intOf iv + 1).toNat)
    case atStart =>
      refine ⟨(a.length : Int) - (b.length : Int), a.length - b.length + 1, 0, a.take (a.length - b.length + 1), a.drop (a.length - b.length + 1) ++ [0], rfl, by omega, by omega, ?_, ?_, grown_refl _ _⟩
      · refine Lib.hid ⟨by omega, by rw [List.length_take]; omega, by simp; omega, lt9_take HA9.out _, lt9_snoc (lt9_drop HA9.out _) (by decide), ?_, ?_, by omega⟩
        · have h1 := zeros_pv (a.drop (a.length - b.length + 1)) 1
          rw [show [0] = List.replicate 1 0 from rfl, h1]
          have h3 := pv_lt _ (lt9_drop HA9.out (a.length - b.length + 1))
          have h4 := top_big HT.out (by intro e; rw [e] at h2; simp at h2)
          rw [List.length_drop, show a.length - (a.length - b.length + 1) = b.length - 1 by omega] at h3
          omega
        · rw [← List.append_assoc, List.take_append_drop, show [0] = List.replicate 1 0 from rfl, zeros_pv]
      · rw [← List.append_assoc, List.take_append_drop, List.replicate_zero, List.append_nil]; exact HROW.out
    case round =>
      obtain ⟨E, k, z, A, Wd, rfl, hE1, hE2, HI, hrow, hgr⟩ := hrel
      have hkE := HI.1
      by_cases hE : 0 ≤ E
      · obtain ⟨j, rfl⟩ : ∃ j : Nat, E = j := ⟨E.toNat, by omega⟩
        obtain rfl : k = j + 1 := by omega
        obtain ⟨e0, e1, e2, e3, e4, e5, e6, e7⟩ := HI.out
        rcases snoc_cases A with rfl | ⟨A', x, rfl⟩
        · simp at e1
        rcases snoc_cases Wd with rfl | ⟨W', t, rfl⟩
        · simp at e2; omega
        have hA' : A'.length = j := by simp at e1; exact e1
        have hW' : (x :: W').length = b.length := by simp at e2 ⊢; omega
        have hx9 : x < 1000000000 := e3 x (by simp)
        have ht9 : t < 1000000000 := e4 t (by simp)
        have hP9 : lt9 (x :: W') := by
          intro y hy
          rcases List.mem_cons.1 hy with rfl | hy
          · exact hx9
          · exact e4 y (by simp [hy])
        have hwin : pv (x :: W') + 1000000000 ^ b.length * t = x + 1000000000 * pv (W' ++ [t]) := by
          rw [← hW', ← pv_snoc, List.cons_append, pv_consN]
        have hrow2 : Row wr B g1 cap1 (A' ++ (x :: W') ++ t :: List.replicate z 0) := by
          have e : A' ++ [x] ++ (W' ++ [t]) ++ List.replicate z 0 = A' ++ (x :: W') ++ t :: List.replicate z 0 := by simp
          rw [← e]; exact hrow
        have htk := takeAway_any B g1 cap1 g' cap' A' (x :: W') (List.replicate z 0) b t wr hrow2 (HRB.out.grown hgr hgg) hgg hW' h2 hP9 ht9 HB9.out HT.out (by rw [hwin]; omega) (j + b.length + 1 - j) (by omega) (by omega)
        rw [hA'] at htk
        have HTK := Lib.hid htk
        have HGR := Lib.hid hgr
        have next : ∀ S : List Nat, S.length = b.length → lt9 S → pv S = (pv (x :: W') + 1000000000 ^ b.length * t) % pv b →
            Hid ((j : Int) - 1 = (j : Int) - 1 ∧ A'.length = j ∧ S.length = b.length ∧ lt9 A' ∧ lt9 S ∧ pv S < pv b ∧ pv (A' ++ S) % pv b = pv a % pv b ∧ j + b.length + (z + 1) = a.length + 1) := fun S hS hS9 hSv => by
          refine Lib.hid ⟨rfl, hA', hS, fun y hy => e3 y (by simp [hy]), hS9, by rw [hSv]; exact Nat.mod_lt _ HB0.out, ?_, by omega⟩
          rw [← e6, pv_append, show A' ++ [x] ++ (W' ++ [t]) = A' ++ (x :: (W' ++ [t])) by simp, pv_append, pv_consN, hSv, hwin]
          rw [Nat.add_mod, Nat.mul_mod, Nat.mod_mod, ← Nat.mul_mod, ← Nat.add_mod]
        have NEXT := Lib.hid next
        have hjb : j + b.length ≤ a.length := by omega
        clear e0 e1 e2 e3 e4 e5 e6 e7 hA' hP9 hwin hrow hrow2 htk hgr next hkE HI hW' hx9 ht9
        go_wp2_with fail
        refine HTK.out.mono ?_
        rintro e w3 ⟨S, rfl, k1, k2, k3, k4, k5⟩
        have HN := NEXT.out S k1 k2 k3
        have HK4 := Lib.hid k4
        have HK5 := Lib.hid (grown_trans HGR.out k5)
        clear k1 k2 k3 k4 k5
        go_wp2_with fail
        refine ⟨⟨(j : Int) - 1, j, z + 1, A', S, rfl, by omega, by omega, Lib.hid ⟨rfl, HN.out.2⟩, by rw [List.replicate_succ]; exact HK4.out, HK5.out⟩, ?_⟩
        clear NEXT HN HK4 HK5
        show ((j : Int) - 1 + 1).toNat < ((j : Int) + 1).toNat
        omega
      · obtain rfl : k = 0 := by omega
        obtain ⟨e0, e1, e2, e3, e4, e5, e6, e7⟩ := HI.out
        obtain rfl : A = [] := List.length_eq_zero_iff.1 e1
        rw [List.nil_append] at hrow e6
        have h9 : lt9 (Wd ++ List.replicate z 0) := by
          intro y hy
          rcases List.mem_append.1 hy with h | h
          · exact e4 y h
          · rw [(List.mem_replicate.1 h).2]; decide
        have hL : (Wd ++ List.replicate z 0).length = a.length + 1 := by simp; omega
        have hpc := Pcs.of_trim h9
        rw [zeros_pv, show pv Wd = pv a % pv b by rw [← e6]; exact (Nat.mod_eq_of_lt e5).symm] at hpc
        have ht := trim_any B g1 cap1 _ wr hrow
        rw [hL] at ht
        have HTR := Lib.hid ht
        have htk := hrow.take (trimP (Wd ++ List.replicate z 0)).length (trimP_props _).2.2.2.1
        rw [← (trimP_props (Wd ++ List.replicate z 0)).2.2.2.2] at htk
        have HF := Lib.hid (show Pcs (trimP (Wd ++ List.replicate z 0)) (pv a % pv b) ∧ Row wr B g1 cap1 (trimP (Wd ++ List.replicate z 0)) ∧ Row wr B g' cap' b ∧ g1 ≠ g' ∧ Below B w wr from
          ⟨hpc, htk, HRB.out.grown hgr hgg, fun e => hgg e.symm, HBEL.out.trans (grown_below hgr HG1.out.1 (by have := HG1.out; omega))⟩)
        clear e0 e1 e2 e3 e4 e5 e6 h9 hpc ht htk hrow hgr hkE HI
        go_wp2_with fail
        refine HTR.out.mono ?_
        rintro e w3 ⟨rfl, rfl⟩
        go_wp2_with fail
        go_ret
        exact ⟨g1, cap1, _, rfl, HF.out.1, HF.out.2.1, HF.out.2.2.1, HF.out.2.2.2.1, HF.out.2.2.2.2⟩

set_option maxHeartbeats 3200000 in
set_option maxRecDepth 100000 in
theorem reduce_less (B g cap g' cap' : Nat) (a b : List Nat) (w : World) (ha : Row w B g cap a) (hb : Row w B g' cap' b) (hg : g' ≠ g) (hab : a.length < b.length) (ha9 : lt9 a) (htop : Go.Proofs.YtjebddpapbopnaaGreatDoor.top b) (hlen : a.length ≤ 200000) (hB : B ≤ w.heap.size) :
    Calls Tryz.prog 123 #[.slice (some ⟨g, 0, none⟩) a.length cap, .slice (some ⟨g', 0, none⟩) b.length cap', .slice none 0 0] w fun e w' => ∃ (g1 cap1 : Nat) (p : List Nat), e = .returned (.slice (some ⟨g1, 0, none⟩) p.length cap1) ∧ Pcs p (pv a % pv b) ∧ Row w' B g1 cap1 p ∧ Row w' B g' cap' b ∧ g1 ≠ g' ∧ Below B w w' := by
  obtain ⟨i0, hi, hz0, hz1, hz2⟩ := info_parts info64
  have hlca := ha.len_cap
  have hlcb := hb.len_cap
  unfold maxLen at hlca hlcb
  have HA := Lib.hid ha
  have HB := Lib.hid hb
  have hlt : pv a < pv b := by
    have h1 := top_big htop (by intro e; rw [e] at hab; simp at hab)
    have h3 := pv_lt a ha9
    have h4 : 1000000000 ^ a.length ≤ 1000000000 ^ (b.length - 1) := Nat.pow_le_pow_right (by decide) (by omega)
    omega
  have HA9 := Lib.hid ha9
  have HLT := Lib.hid hlt
  have HGB := Lib.hid hb.lt
  have HGA := Lib.hid ha.lt
  clear ha hb ha9 htop hlt
  go_enter Tryz.func123, Tryz.ntmps123
  go_wp2_with (first
    | (at_builtin; refine wpList_append_own_at _ rfl _ _ 103 rfl B 61 i0 (.int .u64 0) 1 8 Tryz.underlying103 hi hz0 hz1 hz2 rfl (by decide) _ _ _ rfl (World.ownsRow.alloc HA.out _) ⟨w.heap.size, 0, none⟩ 1 1 [.int .u64 0] rfl rfl ?c1 ?c2 ?c3 ?c4 ?c5 ?_)
    | fail)
  case c1 =>
    intro j u hj
    match j, hj with
    | 0, hj => simp at hj; subst hj; simp [Addr.add]
  case c2 => intro u hu; simp at hu; subst hu; rfl
  case c3 => unfold maxLen; omega
  case c4 => omega
  case c5 => simp; omega
  · intro v' w2 hown' hgrow _ hblk
    obtain ⟨g1, cap1, rfl⟩ := own_some hown' (by omega)
    have hrow' : Row w2 B g1 cap1 (a ++ [0]) := Row.of hown' (by simp) (by rw [c64_append]; rfl)
    have hgg : g' ≠ g1 := by
      have h1 := HGB.out.2
      rcases hblk with h | h
      · simp [Value.ownBlock] at h; omega
      · simp [Value.ownBlock] at h; omega
    have hbel : Below B w w2 := (((Below.refl B w).alloc hB _).grown hgrow (by simp; omega) (by intro q hq; simp [Value.ownBlock] at hq; have := HGA.out; omega))
    have hrb : Row w2 B g' cap' b := World.ownsRow.kept (World.ownsRow.alloc HB.out _) hgrow (.inr (by simp [Value.ownBlock]; exact hg))
    have HROW := Lib.hid hrow'
    have HRB := Lib.hid hrb
    have HBEL := Lib.hid hbel
    have hl1 : (a ++ [0]).length = a.length + 1 := by simp
    have hlc1 := hrow'.len_cap
    unfold maxLen at hlc1
    rw [hl1] at hlc1
    have HG1 := Lib.hid hrow'.lt
    clear hown' hgrow hblk hrow' hrb hbel hl1
    go_wp2_with fail
    go_loopw [8, 9] (fun iv _ wr => iv = .int .i64 ((a.length : Int) - (b.length : Int)) ∧ wr = w2) (fun _ _ _ => 0)
    case atStart => exact ⟨rfl, rfl⟩
    case round =>
      obtain ⟨rfl, hw⟩ := hrel
      obtain rfl := hw.symm
      clear hw
      have hneg : (a.length : Int) - (b.length : Int) < 0 := by omega
      have h9 : lt9 (a ++ [0]) := lt9_snoc HA9.out (by decide)
      have hpc := Pcs.of_trim h9
      have hz := zeros_pv a 1
      rw [show a ++ List.replicate 1 0 = a ++ [0] from rfl] at hz
      rw [hz, show pv a = pv a % pv b from (Nat.mod_eq_of_lt HLT.out).symm] at hpc
      have hrow := HROW.out
      have ht := trim_any B g1 cap1 _ w2 hrow
      have hl1 : (a ++ [0]).length = a.length + 1 := by simp
      rw [hl1] at ht
      have HTR := Lib.hid ht
      have htk := hrow.take (trimP (a ++ [0])).length (trimP_props _).2.2.2.1
      rw [← (trimP_props (a ++ [0])).2.2.2.2] at htk
      have HF := Lib.hid (show Pcs (trimP (a ++ [0])) (pv a % pv b) ∧ Row w2 B g1 cap1 (trimP (a ++ [0])) ∧ Row w2 B g' cap' b ∧ g1 ≠ g' ∧ Below B w w2 from
        ⟨hpc, htk, HRB.out, fun e => hgg e.symm, HBEL.out⟩)
      clear h9 hpc hz hrow ht htk hl1
      go_wp2_with fail
      refine HTR.out.mono ?_
      rintro e w3 ⟨rfl, rfl⟩
      go_wp2_with fail
      go_ret
      exact ⟨g1, cap1, _, rfl, HF.out.1, HF.out.2.1, HF.out.2.2.1, HF.out.2.2.2.1, HF.out.2.2.2.2⟩
end Go.Proofs.YtjebddpapbopnaaGreatDoor

namespace Go.Proofs.YtjebddpapbopnaaGreatDoor
open Go.RowKit

theorem rep_at (j : Nat) (Q : List Nat) : ∃ h : j < (List.replicate (j + 1) 0 ++ Q).length, (List.replicate (j + 1) 0 ++ Q)[j]'h = 0 :=
  ⟨by simp; omega, by rw [List.getElem_append_left (by simp)]; simp⟩
theorem rep_set (j d : Nat) (Q : List Nat) : (List.replicate (j + 1) 0 ++ Q).set j d = List.replicate j 0 ++ d :: Q := by
  rw [List.replicate_succ', List.append_assoc, List.set_append_right _ _ (by simp)]; simp
theorem quot_step {P b m T d s j : Nat} (h : s + b * d = T) : P + 1000000000 ^ j * s + b * (1000000000 ^ j * (d + 1000000000 * m)) = P + 1000000000 ^ j * T + b * (1000000000 ^ (j + 1) * m) := by
  subst h
  obtain ⟨u, hu⟩ : ∃ u, u = 1000000000 ^ j := ⟨_, rfl⟩
  rw [Nat.pow_succ, ← hu]
  simp only [Nat.mul_add]
  have e1 : b * (u * d) = u * (b * d) := by rw [Nat.mul_left_comm]
  have e2 : b * (u * (1000000000 * m)) = b * (u * 1000000000 * m) := by rw [Nat.mul_assoc u]
  rw [e1, e2]
  omega
theorem quot_end {s b q a : Nat} (hs : s < b) (h : s + b * q = a) : s = a % b ∧ q = a / b := by
  subst h
  exact ⟨by rw [Nat.add_mul_mod_self_left, Nat.mod_eq_of_lt hs], by rw [Nat.add_mul_div_left _ _ (by omega), Nat.div_eq_of_lt hs, Nat.zero_add]⟩

set_option maxHeartbeats 3200000 in
set_option maxRecDepth 100000 in
theorem reduce_quot (B g cap g' cap' gq capq n : Nat) (a b : List Nat) (w : World) (ha : Row w B g cap a) (hb : Row w B g' cap' b) (hq : Row w B gq capq (List.replicate n 0)) (hg : g' ≠ g) (hgq : gq ≠ g) (hgq' : gq ≠ g') (hn : n + b.length = a.length + 1) (hab : b.length ≤ a.length) (h2 : 2 ≤ b.length) (ha9 : lt9 a) (hb9 : lt9 b) (htop : Go.Proofs.YtjebddpapbopnaaGreatDoor.top b) (hlen : a.length ≤ 200000) (hB : B ≤ w.heap.size) :
    Calls Tryz.prog 123 #[.slice (some ⟨g, 0, none⟩) a.length cap, .slice (some ⟨g', 0, none⟩) b.length cap', .slice (some ⟨gq, 0, none⟩) n capq] w fun e w' => ∃ (g1 cap1 : Nat) (p q : List Nat), e = .returned (.slice (some ⟨g1, 0, none⟩) p.length cap1) ∧ Pcs p (pv a % pv b) ∧ lt9 q ∧ q.length = n ∧ pv q = pv a / pv b ∧ Row w' B g1 cap1 p ∧ Row w' B gq capq q ∧ Below B w w' := by
  obtain ⟨i0, hi, hz0, hz1, hz2⟩ := info_parts info64
  have hlca := ha.len_cap
  have hlcb := hb.len_cap
  unfold maxLen at hlca hlcb
  have hlcq := hq.len_cap
  unfold maxLen at hlcq
  rw [List.length_replicate] at hlcq
  have HQ := Lib.hid hq
  have HGQ := Lib.hid hq.lt
  have HA := Lib.hid ha
  have HB := Lib.hid hb
  have hb0 : 0 < pv b := Nat.lt_of_lt_of_le (Nat.pow_pos (by decide)) (top_big htop (by intro e; rw [e] at h2; simp at h2))
  have HB9 := Lib.hid hb9
  have HA9 := Lib.hid ha9
  have HT := Lib.hid htop
  have HB0 := Lib.hid hb0
  have HGB := Lib.hid hb.lt
  have HGA := Lib.hid ha.lt
  clear ha hb hq ha9 hb9 htop hb0
  go_enter Tryz.func123, Tryz.ntmps123
  go_wp2_with (first
    | (at_builtin; refine wpList_append_own_at _ rfl _ _ 103 rfl B 61 i0 (.int .u64 0) 1 8 Tryz.underlying103 hi hz0 hz1 hz2 rfl (by decide) _ _ _ rfl (World.ownsRow.alloc HA.out _) ⟨w.heap.size, 0, none⟩ 1 1 [.int .u64 0] rfl rfl ?c1 ?c2 ?c3 ?c4 ?c5 ?_)
    | fail)
  case c1 =>
    intro j u hj
    match j, hj with
    | 0, hj => simp at hj; subst hj; simp [Addr.add]
  case c2 => intro u hu; simp at hu; subst hu; rfl
  case c3 => unfold maxLen; omega
  case c4 => omega
  case c5 => simp; omega
  · intro v' w2 hown' hgrow _ hblk
    obtain ⟨g1, cap1, rfl⟩ := own_some hown' (by omega)
    have hrow' : Row w2 B g1 cap1 (a ++ [0]) := Row.of hown' (by simp) (by rw [c64_append]; rfl)
    have hgg : g' ≠ g1 := by
      have h1 := HGB.out.2
      rcases hblk with h | h
      · simp [Value.ownBlock] at h; omega
      · simp [Value.ownBlock] at h; omega
    have hgqg : gq ≠ g1 := by
      have h1 := HGQ.out.2
      rcases hblk with h | h
      · simp [Value.ownBlock] at h; omega
      · simp [Value.ownBlock] at h; omega
    have hrq : Row w2 B gq capq (List.replicate n 0) := World.ownsRow.kept (World.ownsRow.alloc HQ.out _) hgrow (.inr (by simp [Value.ownBlock]; exact hgq))
    have HRQ := Lib.hid hrq
    have hbel : Below B w w2 := (((Below.refl B w).alloc hB _).grown hgrow (by simp; omega) (by intro q hq; simp [Value.ownBlock] at hq; have := HGA.out; omega))
    have hrb : Row w2 B g' cap' b := World.ownsRow.kept (World.ownsRow.alloc HB.out _) hgrow (.inr (by simp [Value.ownBlock]; exact hg))
    have HROW := Lib.hid hrow'
    have HRB := Lib.hid hrb
    have HBEL := Lib.hid hbel
    have hl1 : (a ++ [0]).length = a.length + 1 := by simp
    have hlc1 := hrow'.len_cap
    unfold maxLen at hlc1
    rw [hl1] at hlc1
    have HG1 := Lib.hid hrow'.lt
    clear hown' hgrow hblk hrow' hrb hrq hbel hl1
    go_wp2_with fail
    go_loopw [8, 9] (fun iv _ wr => ∃ (E : Int) (k z : Nat) (A Wd Q : List Nat), iv = .int .i64 E ∧ -1 ≤ E ∧ E ≤ a.length ∧ Hid (E = (k : Int) - 1 ∧ A.length = k ∧ Wd.length = b.length ∧ lt9 A ∧ lt9 Wd ∧ pv Wd < pv b ∧ pv (A ++ Wd) + pv b * (1000000000 ^ k * pv Q) = pv a ∧ k + b.length + z = a.length + 1 ∧ lt9 Q ∧ k + Q.length = n) ∧ Row wr B g1 cap1 (A ++ Wd ++ List.replicate z 0) ∧ Row wr B gq capq (List.replicate k 0 ++ Q) ∧ Row wr B g' cap' b ∧ Below B w2 wr) (fun iv _ _ => (intOf iv + 1).toNat)
    case atStart =>
      refine ⟨(a.length : Int) - (b.length : Int), a.length - b.length + 1, 0, a.take (a.length - b.length + 1), a.drop (a.length - b.length + 1) ++ [0], [], rfl, by omega, by omega, ?_, ?_, ?_, HRB.out, Below.refl _ _⟩
      · refine Lib.hid ⟨by omega, by rw [List.length_take]; omega, by simp; omega, lt9_take HA9.out _, lt9_snoc (lt9_drop HA9.out _) (by decide), ?_, ?_, by omega, by simp [lt9], by simp; omega⟩
        · have h1 := zeros_pv (a.drop (a.length - b.length + 1)) 1
          rw [show [0] = List.replicate 1 0 from rfl, h1]
          have h3 := pv_lt _ (lt9_drop HA9.out (a.length - b.length + 1))
          have h4 := top_big HT.out (by intro e; rw [e] at h2; simp at h2)
          rw [List.length_drop, show a.length - (a.length - b.length + 1) = b.length - 1 by omega] at h3
          omega
        · rw [← List.append_assoc, List.take_append_drop, show [0] = List.replicate 1 0 from rfl, zeros_pv, show pv [] = 0 from rfl, Nat.mul_zero, Nat.mul_zero, Nat.add_zero]
      · rw [← List.append_assoc, List.take_append_drop, List.replicate_zero, List.append_nil]; exact HROW.out
      · rw [show a.length - b.length + 1 = n by omega, List.append_nil]; exact HRQ.out
    case round =>
      obtain ⟨E, k, z, A, Wd, Q, rfl, hE1, hE2, HI, hrow, hrowq, hrowb, hgr⟩ := hrel
      have hkE := HI.1
      by_cases hE : 0 ≤ E
      · obtain ⟨j, rfl⟩ : ∃ j : Nat, E = j := ⟨E.toNat, by omega⟩
        obtain rfl : k = j + 1 := by omega
        obtain ⟨e0, e1, e2, e3, e4, e5, e6, e7, e8, e9⟩ := HI.out
        rcases snoc_cases A with rfl | ⟨A', x, rfl⟩
        · simp at e1
        rcases snoc_cases Wd with rfl | ⟨W', t, rfl⟩
        · simp at e2; omega
        have hA' : A'.length = j := by simp at e1; exact e1
        have hW' : (x :: W').length = b.length := by simp at e2 ⊢; omega
        have hx9 : x < 1000000000 := e3 x (by simp)
        have ht9 : t < 1000000000 := e4 t (by simp)
        have hP9 : lt9 (x :: W') := by
          intro y hy
          rcases List.mem_cons.1 hy with rfl | hy
          · exact hx9
          · exact e4 y (by simp [hy])
        have hwin : pv (x :: W') + 1000000000 ^ b.length * t = x + 1000000000 * pv (W' ++ [t]) := by
          rw [← hW', ← pv_snoc, List.cons_append, pv_consN]
        have hrow2 : Row wr B g1 cap1 (A' ++ (x :: W') ++ t :: List.replicate z 0) := by
          have e : A' ++ [x] ++ (W' ++ [t]) ++ List.replicate z 0 = A' ++ (x :: W') ++ t :: List.replicate z 0 := by simp
          rw [← e]; exact hrow
        have htk := takeAway_any B g1 cap1 g' cap' A' (x :: W') (List.replicate z 0) b t wr hrow2 hrowb hgg hW' h2 hP9 ht9 HB9.out HT.out (by rw [hwin]; omega) (j + b.length + 1 - j) (by omega) (by omega)
        rw [hA'] at htk
        have HTK := Lib.hid htk
        have HGR := Lib.hid hgr
        have HQW := Lib.hid hrowq
        have HBW := Lib.hid hrowb
        have hT : pv (x :: W') + 1000000000 ^ b.length * t < pv b * 1000000000 := by rw [hwin]; omega
        obtain ⟨T, hTe⟩ : ∃ T, T = pv (x :: W') + 1000000000 ^ b.length * t := ⟨_, rfl⟩
        have hd9 : T / pv b < 1000000000 := by rw [Nat.div_lt_iff_lt_mul HB0.out, Nat.mul_comm, hTe]; exact hT
        rw [← hTe] at hT HTK
        obtain ⟨d, hd⟩ : ∃ d, d = T / pv b := ⟨_, rfl⟩
        rw [← hd] at hd9 HTK
        have next : ∀ S : List Nat, S.length = b.length → lt9 S → pv S = T % pv b →
            Hid ((j : Int) - 1 = (j : Int) - 1 ∧ A'.length = j ∧ S.length = b.length ∧ lt9 A' ∧ lt9 S ∧ pv S < pv b ∧ pv (A' ++ S) + pv b * (1000000000 ^ j * pv (d :: Q)) = pv a ∧ j + b.length + (z + 1) = a.length + 1 ∧ lt9 (d :: Q) ∧ j + (d :: Q).length = n) := fun S hS hS9 hSv => by
          refine Lib.hid ⟨rfl, hA', hS, fun y hy => e3 y (by simp [hy]), hS9, by rw [hSv]; exact Nat.mod_lt _ HB0.out, ?_, by omega, ?_, by simp; omega⟩
          · rw [← e6, pv_append, show A' ++ [x] ++ (W' ++ [t]) = A' ++ (x :: (W' ++ [t])) by simp, pv_append, pv_consN x, ← hwin, ← hTe, hSv, pv_consN d, hA']
            exact quot_step (by rw [hd]; exact Nat.mod_add_div T (pv b))
          · intro y hy
            rcases List.mem_cons.1 hy with rfl | hy
            · exact hd9
            · exact e8 y hy
        have NEXT := Lib.hid next
        have hjb : j + b.length ≤ a.length := by omega
        have hjn : j < n := by omega
        clear e0 e1 e2 e3 e4 e5 e6 e7 e8 e9 hA' hP9 hwin hrow hrow2 hrowq hrowb htk hgr next hkE HI hW' hx9 ht9 hT hTe hd
        go_wp2_with fail
        refine HTK.out.mono ?_
        rintro e w3 ⟨S, rfl, k1, k2, k3, k4, k5⟩
        have HN := NEXT.out S k1 k2 k3
        have hq3 := HQW.out.grown k5 hgqg
        have hcell := hq3.cellAt (i := j) (x := 0) (rep_at j Q)
        have hfree := hq3.free j
        have hq4 := hq3.set j d
        rw [rep_set] at hq4
        have hset := grown_set w3 gq j (.int .u64 (d : Int))
        have HK4 := Lib.hid (k4.grown hset (fun e => hgqg e.symm))
        have HK6 := Lib.hid ((HBW.out.grown k5 hgg).grown hset (fun e => hgq' e.symm))
        have HK5 := Lib.hid ((HGR.out.trans (grown_below k5 HG1.out.1 (by have := HG1.out.2; have := HGR.out.size; have := HG1.out.1; omega))).trans (grown_below hset hq3.lt.1 (by have := hq3.lt; omega)))
        have HK7 := Lib.hid hq4
        clear k1 k2 k3 k4 k5 hq3 hq4 hset
        go_wp2_with fail
        refine ⟨⟨(j : Int) - 1, j, z + 1, A', S, d :: Q, rfl, by omega, by omega, Lib.hid ⟨rfl, HN.out.2⟩, by rw [List.replicate_succ]; exact HK4.out, HK7.out, HK6.out, HK5.out⟩, ?_⟩
        clear NEXT HN HK4 HK5 HK6 HK7
        show ((j : Int) - 1 + 1).toNat < ((j : Int) + 1).toNat
        omega
      · obtain rfl : k = 0 := by omega
        obtain ⟨e0, e1, e2, e3, e4, e5, e6, e7, e8, e9⟩ := HI.out
        obtain rfl : A = [] := List.length_eq_zero_iff.1 e1
        rw [List.nil_append] at hrow e6
        have h9 : lt9 (Wd ++ List.replicate z 0) := by
          intro y hy
          rcases List.mem_append.1 hy with h | h
          · exact e4 y h
          · rw [(List.mem_replicate.1 h).2]; decide
        have hL : (Wd ++ List.replicate z 0).length = a.length + 1 := by simp; omega
        have hpc := Pcs.of_trim h9
        rw [Nat.pow_zero, Nat.one_mul] at e6
        have hmv : pv Wd = pv a % pv b ∧ pv Q = pv a / pv b := quot_end e5 e6
        rw [zeros_pv, hmv.1] at hpc
        have ht := trim_any B g1 cap1 _ wr hrow
        rw [hL] at ht
        have HTR := Lib.hid ht
        have htk := hrow.take (trimP (Wd ++ List.replicate z 0)).length (trimP_props _).2.2.2.1
        rw [← (trimP_props (Wd ++ List.replicate z 0)).2.2.2.2] at htk
        rw [List.replicate_zero, List.nil_append] at hrowq
        have HF := Lib.hid (show Pcs (trimP (Wd ++ List.replicate z 0)) (pv a % pv b) ∧ lt9 Q ∧ Q.length = n ∧ pv Q = pv a / pv b ∧ Row wr B g1 cap1 (trimP (Wd ++ List.replicate z 0)) ∧ Row wr B gq capq Q ∧ Below B w wr from
          ⟨hpc, e8, by omega, hmv.2, htk, hrowq, HBEL.out.trans hgr⟩)
        clear e0 e1 e2 e3 e4 e5 e6 e8 h9 hpc ht htk hrow hrowq hrowb hmv hgr hkE HI
        go_wp2_with fail
        refine HTR.out.mono ?_
        rintro e w3 ⟨rfl, rfl⟩
        go_wp2_with fail
        go_ret
        exact ⟨g1, cap1, _, Q, rfl, HF.out⟩

end Go.Proofs.YtjebddpapbopnaaGreatDoor

namespace Go.Proofs.YtjebddpapbopnaaGreatDoor
open Go.RowKit

/-- a value is a row of the call's own, or nil -/
def OwnP (w : World) (B : Nat) (v : Value) (p : List Nat) : Prop := (p = [] ∧ v = .slice none 0 0) ∨ ∃ g cap, v = .slice (some ⟨g, 0, none⟩) p.length cap ∧ Row w B g cap p
theorem OwnP.below {w w' : World} {B : Nat} {v : Value} {p : List Nat} (h : OwnP w B v p) (hb : Below w.heap.size w w') : OwnP w' B v p := by
  rcases h with h | ⟨g, cap, e, hr⟩
  · exact .inl h
  · exact .inr ⟨g, cap, e, hr.below hb⟩
theorem pv_two18 {b : List Nat} (h : lt9 b) (hl : b.length ≤ 2) : pv b < 1000000000000000000 := by
  have h1 := pv_lt b h
  have h2 : 1000000000 ^ b.length ≤ 1000000000 ^ 2 := Nat.pow_le_pow_right (by decide) hl
  omega

/-- what divide leaves -/
def DivPost (B x y : Nat) (w : World) (e : Ending) (w' : World) : Prop := ∃ (v1 v2 : Value) (q r : List Nat), e = .returned (.tuple #[v1, v2]) ∧ Pcs q (x / y) ∧ Pcs r (x % y) ∧ OwnP w' B v1 q ∧ OwnP w' B v2 r ∧ Below B w w'

set_option maxHeartbeats 1600000 in
set_option maxRecDepth 100000 in
theorem divide_short (B g cap g' cap' : Nat) (a b : List Nat) (x y : Nat) (w : World) (ha : Row w B g cap a) (hb : Row w B g' cap' b) (pa : Pcs a x) (pb : Pcs b y) (hla : a.length ≤ 200000) (hlb : b.length ≤ 2) (hy : 0 < y) (hB : B ≤ w.heap.size) :
    Calls Tryz.prog 103 #[.slice (some ⟨g, 0, none⟩) a.length cap, .slice (some ⟨g', 0, none⟩) b.length cap'] w (DivPost B x y w) := by
  have hlc := ha.len_cap
  have hlc' := hb.len_cap
  unfold maxLen at hlc hlc'
  have hpa := pa.val
  have hpb := pb.val
  have hb1 := pv_two18 pb.lt hlb
  have HS := Lib.hid (short_yes B g' cap' b w hb hlb pb.lt)
  have HD := Lib.hid (fun wx (hw : Below w.heap.size w wx) => divideShort_any B g cap a (pv b) wx (ha.below hw) pa.lt (by omega) (by omega) hla)
  have hm : x % y < y := Nat.mod_lt _ hy
  rw [hpa, hpb] at HD
  rw [hpb] at HS hb1
  obtain ⟨m, hme⟩ : ∃ m : Nat, m = x % y := ⟨_, rfl⟩
  rw [← hme] at HD hm
  have HM := Lib.hid hme
  have HBB := Lib.hid hB
  have HPB := Lib.hid pb
  clear ha hb pa pb hpa hpb hme hB
  go_enter Tryz.func103, Tryz.ntmps103
  go_wp2_with fail
  refine HS.out.mono ?_
  rintro e w1 ⟨rfl, hb1'⟩
  go_wp2_with fail
  refine (HD.out _ hb1').mono ?_
  rintro e w2 ⟨h, c, q, rfl, hq, hr, hb2⟩
  have hrt := Row.two w2 (m % 1000000000) (m / 1000000000)
  have e1 : ((m % 1000000000 : Nat) : Int) = (m : Int) % 1000000000 := by omega
  have e2 : ((m / 1000000000 : Nat) : Int) = (m : Int) / 1000000000 := by omega
  rw [e1, e2] at hrt
  have htr := trim_any w2.heap.size w2.heap.size 2 [m % 1000000000, m / 1000000000] _ hrt
  have h9r : lt9 [m % 1000000000, m / 1000000000] := by
    intro z hz; simp at hz; omega
  have hpr : pv [m % 1000000000, m / 1000000000] = m := by simp [pv]; omega
  have HT := Lib.hid htr
  have HRT := Lib.hid hrt
  have HQ := Lib.hid hq
  have HR := Lib.hid hr
  have H9R := Lib.hid h9r
  have HPR := Lib.hid hpr
  clear hq hr htr hrt e1 e2 h9r hpr
  go_wp2_with fail
  refine HT.out.mono ?_
  rintro e w3 ⟨rfl, rfl⟩
  go_wp2_with fail
  go_ret2
  have hbz : Below w2.heap.size w2 (w2.alloc (.cells #[.int .u64 ((m : Int) % 1000000000), .int .u64 ((m : Int) / 1000000000)] 61)) := (Below.refl _ _).alloc (Nat.le_refl _) _
  have hs2 : w.heap.size ≤ w2.heap.size := Nat.le_trans hb1'.size hb2.size
  refine ⟨_, _, q, trimP [m % 1000000000, m / 1000000000], rfl, HQ.out, ?_, .inr ⟨_, _, rfl, ((HR.out.mono (Nat.le_trans HBB.out hb1'.size)).below hbz)⟩, .inr ⟨_, _, rfl, ?_⟩, ((hb1'.trans (hb2.mono hb1'.size)).trans (hbz.mono hs2)).mono HBB.out⟩
  · have := Pcs.of_trim H9R.out
    rw [HPR.out] at this; rw [← HM.out]; exact this
  · have := HRT.out.take (trimP [m % 1000000000, m / 1000000000]).length (trimP_props _).2.2.2.1
    rw [← (trimP_props [m % 1000000000, m / 1000000000]).2.2.2.2] at this
    exact this.mono (Nat.le_trans HBB.out hs2)

set_option maxHeartbeats 800000 in
theorem divide_less (B g cap g' cap' : Nat) (a b : List Nat) (x y : Nat) (w : World) (ha : Row w B g cap a) (hb : Row w B g' cap' b) (pa : Pcs a x) (pb : Pcs b y) (hlb : 2 < b.length) (hab : a.length < b.length) (_hB : B ≤ w.heap.size) :
    Calls Tryz.prog 103 #[.slice (some ⟨g, 0, none⟩) a.length cap, .slice (some ⟨g', 0, none⟩) b.length cap'] w (DivPost B x y w) := by
  have hlc := ha.len_cap
  have hlc' := hb.len_cap
  unfold maxLen at hlc hlc'
  have hlt : x < y := by
    rw [← pa.val, ← pb.val]
    have h1 := top_big pb.top (by intro e; rw [e] at hab; simp at hab)
    have h3 := pv_lt a pa.lt
    have h4 : 1000000000 ^ a.length ≤ 1000000000 ^ (b.length - 1) := Nat.pow_le_pow_right (by decide) (by omega)
    omega
  have HS := Lib.hid (short_no B g' cap' b w hb hlb)
  have HA := Lib.hid ha
  have HP := Lib.hid pa
  have HL := Lib.hid hlt
  have hdl : decide (a.length < b.length) = true := decide_eq_true hab
  clear ha hb pa pb hlt
  go_enter Tryz.func103, Tryz.ntmps103
  go_wp2_with fail
  refine HS.out.mono ?_
  rintro e w1 ⟨rfl, rfl⟩
  go_wp2_with fail
  go_ret2
  refine ⟨_, _, [], a, rfl, ?_, ?_, .inl ⟨rfl, rfl⟩, .inr ⟨_, _, rfl, HA.out⟩, Below.refl _ _⟩
  · rw [Nat.div_eq_of_lt HL.out]; exact Pcs.nil
  · rw [Nat.mod_eq_of_lt HL.out]; exact HP.out

set_option maxHeartbeats 1600000 in
set_option maxRecDepth 100000 in
theorem divide_long (B g cap g' cap' : Nat) (a b : List Nat) (x y : Nat) (w : World) (ha : Row w B g cap a) (hb : Row w B g' cap' b) (hgg : g' ≠ g) (pa : Pcs a x) (pb : Pcs b y) (hla : a.length ≤ 200000) (hlb : 2 < b.length) (hab : b.length ≤ a.length) (hB : B ≤ w.heap.size) :
    Calls Tryz.prog 103 #[.slice (some ⟨g, 0, none⟩) a.length cap, .slice (some ⟨g', 0, none⟩) b.length cap'] w (DivPost B x y w) := by
  have hlc := ha.len_cap
  have hlc' := hb.len_cap
  unfold maxLen at hlc hlc'
  obtain ⟨i0, hi, hz0, hz1, hz2⟩ := info_parts info64
  have HS := Lib.hid (short_no B g' cap' b w hb hlb)
  have HA := Lib.hid ha
  have HBR := Lib.hid hb
  have HPA := Lib.hid pa
  have HPB := Lib.hid pb
  have HG := Lib.hid hgg
  have hdl : decide (a.length < b.length) = false := decide_eq_false (by omega)
  obtain ⟨n, hn⟩ : ∃ n : Nat, n = a.length - b.length + 1 := ⟨_, rfl⟩
  have hn1 : n + b.length = a.length + 1 := by omega
  have HN := Lib.hid hn1
  have hsum : (a.length : Int) - (b.length : Int) + 1 = (n : Int) := by omega
  have hnb : n ≤ 200001 := by omega
  have hwr : IntKind.i64.wrap ((a.length : Int) - (b.length : Int) + 1) = (n : Int) := by rw [IntWalk.i64_in _ (by omega)]; exact hsum
  clear ha hb pa pb hgg hn hn1
  go_enter Tryz.func103, Tryz.ntmps103
  go_wp2_with fail
  refine HS.out.mono ?_
  rintro e w1 ⟨rfl, rfl⟩
  go_wp2_with (at_make; refine wpList_make_full _ rfl _ _ 103 rfl w.heap.size 61 i0 (.int .u64 0) 1 Tryz.underlying103 hi hz0 hz1 .i64 .i64 _ _ n rfl rfl (by omega) (by omega) (by rw [hz2]; omega) (by unfold maxLen; omega) (Nat.le_refl _) ?_; intro w0 hown0 hgrow0)
  have hbel0 : Below w.heap.size w w0 := (Below.refl _ _).grown hgrow0 (Nat.le_refl _) (by intro k hk; cases hk)
  have hrow0 := Row.made hown0
  rw [show z0 n [] = List.replicate n 0 by simp [z0]] at hrow0
  have HR := Lib.hid (reduce_quot B g cap g' cap' w.heap.size n n a b w0 (HA.out.below hbel0) (HBR.out.below hbel0) (hrow0.mono hB) HG.out (by have := HA.out.lt; omega) (by have := HBR.out.lt; omega) HN.out hab (by omega) HPA.out.lt HPB.out.lt HPB.out.top hla (Nat.le_trans hB hbel0.size))
  have HB0 := Lib.hid hbel0
  clear hown0 hgrow0 hbel0 hrow0 hsum hwr
  go_wp2_with fail
  refine HR.out.mono ?_
  rintro e w2 ⟨g1, cap1, p, q, rfl, hp, hq9, hql, hqv, hrp, hrq, hb2⟩
  have htr := trim_any B w.heap.size n q w2 hrq
  rw [hql] at htr
  have HT := Lib.hid htr
  have hpc := Pcs.of_trim hq9
  rw [hqv, HPA.out.val, HPB.out.val] at hpc
  rw [HPA.out.val, HPB.out.val] at hp
  have htk := hrq.take (trimP q).length (trimP_props _).2.2.2.1
  rw [← (trimP_props q).2.2.2.2] at htk
  have HF := Lib.hid (show Pcs (trimP q) (x / y) ∧ Pcs p (x % y) ∧ Row w2 B w.heap.size n (trimP q) ∧ Row w2 B g1 cap1 p ∧ Below B w w2 from ⟨hpc, hp, htk, hrp, (HB0.out.mono hB).trans hb2⟩)
  clear hp hq9 hql hqv hrp hrq hb2 htr hpc htk
  go_wp2_with fail
  refine HT.out.mono ?_
  rintro e w3 ⟨rfl, rfl⟩
  go_wp2_with fail
  go_ret2
  exact ⟨_, _, trimP q, p, rfl, HF.out.1, HF.out.2.1, .inr ⟨_, _, rfl, HF.out.2.2.1⟩, .inr ⟨_, _, rfl, HF.out.2.2.2.1⟩, HF.out.2.2.2.2⟩

theorem divide_any (B g cap g' cap' : Nat) (a b : List Nat) (x y : Nat) (w : World) (ha : Row w B g cap a) (hb : Row w B g' cap' b) (hgg : g' ≠ g) (pa : Pcs a x) (pb : Pcs b y) (hla : a.length ≤ 200000) (hy : 0 < y) (hB : B ≤ w.heap.size) :
    Calls Tryz.prog 103 #[.slice (some ⟨g, 0, none⟩) a.length cap, .slice (some ⟨g', 0, none⟩) b.length cap'] w (DivPost B x y w) := by
  by_cases h2 : b.length ≤ 2
  · exact divide_short B g cap g' cap' a b x y w ha hb pa pb hla h2 hy hB
  · by_cases hab : a.length < b.length
    · exact divide_less B g cap g' cap' a b x y w ha hb pa pb (by omega) hab hB
    · exact divide_long B g cap g' cap' a b x y w ha hb hgg pa pb hla (by omega) (by omega) hB
end Go.Proofs.YtjebddpapbopnaaGreatDoor

namespace Go.Proofs.YtjebddpapbopnaaGreatDoor
open Go.RowKit

theorem OwnP.join {w : World} {B : Nat} {v : Value} {p : List Nat} {a : Nat} (h : OwnP w B v p) (hp : Pcs p a) (hn : p.length ≤ 200000) :
    Calls Tryz.prog 97 #[v] w fun e w' => e = .returned (.string (str a)) ∧ Below w.heap.size w w' := by
  rcases h with ⟨rfl, rfl⟩ | ⟨g, cap, rfl, hr⟩
  · have ha : a = 0 := hp.val.symm
    have hs : str a = ⟨#[48]⟩ := by rw [ha]; exact (str_eq 0 (by decide) (by decide)).symm
    rw [hs]
    clear hs ha hp hn
    go_enter Tryz.func97, Tryz.ntmps97
    go_wp2_with fail
    go_ret
    exact ⟨rfl, Below.refl _ _⟩
  · exact join_any B g cap p a w hr hp hn

set_option maxHeartbeats 1600000 in
set_option maxRecDepth 100000 in
theorem dm_small (a b : Nat) (w : World) (hs : Std w) (ha : a < 18446744073709551616) (hb : b < 18446744073709551616) (hb0 : 0 < b) :
    Calls Tryz.prog 77 #[.string (str a), .string (str b)] w fun e w' => e = .returned (.tuple #[.string (str (a / b)), .string (str (a % b)), .int .i64 0]) ∧ Below w.heap.size w w' := by
  have hq0 : a / b ≤ a := Nat.div_le_self _ _
  have hm0 : a % b ≤ a := Nat.mod_le _ _
  have HB := Lib.hid (both_yes a b ha hb w)
  obtain ⟨q, hq⟩ : ∃ q, q = a / b := ⟨_, rfl⟩
  obtain ⟨r, hr⟩ : ∃ r, r = a % b := ⟨_, rfl⟩
  rw [← hq] at hq0 ⊢
  rw [← hr] at hm0 ⊢
  have HO : Hid (∀ (z : Nat) (w1 wx : World), z ≤ a → Std w1 → Below w1.heap.size w1 wx → Calls Tryz.prog 95 #[.int .u64 z] wx fun e w' => e = .returned (.string (str z)) ∧ Below w1.heap.size w1 w') :=
    Lib.hid (fun z w1 wx hz h1 hb => (of_any z (by omega) wx (h1.below hb)).mono fun e w' h => ⟨h.1, hb.trans (h.2.mono hb.size)⟩)
  have hqi : (a : Int) / (b : Int) = (q : Int) := by rw [hq]; simp
  have hri : (a : Int) % (b : Int) = (r : Int) := by rw [hr]; simp
  have hwq : IntKind.u64.wrap (q : Int) = (q : Int) := by rw [IntKind.wrap_u64]; omega
  have htm : (a : Int).tmod (b : Int) = (r : Int) := by rw [Int.tmod_eq_emod_of_nonneg (by omega)]; exact hri
  have htd : (a : Int).tdiv (b : Int) = (q : Int) := by rw [Int.tdiv_eq_ediv_of_nonneg (by omega)]; exact hqi
  have hnz : ((b : Int) == 0) = false := by rw [beq_eq_false_iff_ne]; omega
  have hnz' : ((b : Int) != 0) = true := by simp; omega
  clear hq hr ha hb
  go_enter Tryz.func77, Tryz.ntmps77
  go_wp2_with fail
  refine HB.out.mono ?_
  rintro e w1 ⟨rfl, h1⟩
  have HS1 := Lib.hid (hs.below h1)
  have H1 := Lib.hid h1
  clear h1 hs
  go_wp2_with fail
  have hb0 : Below w1.heap.size w1 w1.drew := Below.drew (Below.refl _ _)
  go_region_with (go_at_call 95; refine (HO.out _ w1 _ ?hz HS1.out ?hb).mono ?_; (case hb => assumption); (case hz => first | exact hq0 | exact hm0); rintro e w' ⟨rfl, h1⟩)
  all_goals
    go_wp2_with fail
    go_ret3
    exact ⟨rfl, H1.out.trans (Below.mono (by assumption) H1.out.size)⟩

set_option maxHeartbeats 1600000 in
set_option maxRecDepth 100000 in
theorem dm_zero (a b : Nat) (w : World) (hs : Std w) (ha : (str a).size ≤ 450000) (hb0 : b = 0) :
    Calls Tryz.prog 77 #[.string (str a), .string (str b)] w fun e w' => e = .returned (.tuple #[.string ⟨#[]⟩, .string ⟨#[]⟩, .int .i64 17]) ∧ Below w.heap.size w w' := by
  have hbs : (str b).size ≤ 20 := nd20 (by omega)
  have HCUT := Lib.hid (fun wx => cutBoth_any a b wx (by omega) (by omega))
  have HBN : ∃ (x y : Nat) (s : Bool), (s = true → y = 0) ∧ Hid (Calls Tryz.prog 93 #[.string (str a), .string (str b)] w fun e w' => e = .returned (.tuple #[.int .u64 x, .int .u64 y, .bool s]) ∧ Below w.heap.size w w') ∨ Hid (Calls Tryz.prog 93 #[.string (str a), .string (str b)] w fun e w' => ∃ x y : Nat, e = .returned (.tuple #[.int .u64 x, .int .u64 y, .bool false]) ∧ Below w.heap.size w w') := by
    by_cases h : a < 18446744073709551616 ∧ b < 18446744073709551616
    · exact ⟨a, b, true, .inl ⟨fun _ => hb0, Lib.hid (both_yes a b h.1 h.2 w)⟩⟩
    · exact ⟨0, 0, true, .inr (Lib.hid (both_no a b h w hs))⟩
  have HB0 := Lib.hid hb0
  clear hb0
  obtain ⟨x, y, s, ⟨hy, HB⟩ | HB⟩ := HBN
  · cases s with
    | false =>
      clear hy
      go_enter Tryz.func77, Tryz.ntmps77
      go_wp2_with fail
      refine HB.out.mono ?_
      rintro e w1 ⟨rfl, h1⟩
      go_wp2_with fail
      refine (HCUT.out _).mono ?_
      rintro e w3 ⟨g, cap, p, g', cap', q, rfl, hp, hq, hrp, hrq, hgg, hb3⟩
      have hq0 : q = [] := pv_zero hq.top (by rw [hq.val]; exact HB0.out)
      subst hq0
      clear hp hq hrp hrq hgg
      go_wp2_with fail
      go_ret3
      exact ⟨rfl, h1.trans (hb3.mono h1.size)⟩
    | true =>
      obtain rfl : y = 0 := hy rfl
      clear hy
      go_enter Tryz.func77, Tryz.ntmps77
      go_wp2_with fail
      refine HB.out.mono ?_
      rintro e w1 ⟨rfl, h1⟩
      go_wp2_with fail
      refine (HCUT.out _).mono ?_
      rintro e w3 ⟨g, cap, p, g', cap', q, rfl, hp, hq, hrp, hrq, hgg, hb3⟩
      have hq0 : q = [] := pv_zero hq.top (by rw [hq.val]; exact HB0.out)
      subst hq0
      clear hp hq hrp hrq hgg
      go_wp2_with fail
      go_ret3
      exact ⟨rfl, h1.trans (hb3.mono h1.size)⟩
  · go_enter Tryz.func77, Tryz.ntmps77
    go_wp2_with fail
    refine HB.out.mono ?_
    rintro e w1 ⟨x, y, rfl, h1⟩
    go_wp2_with fail
    refine (HCUT.out _).mono ?_
    rintro e w3 ⟨g, cap, p, g', cap', q, rfl, hp, hq, hrp, hrq, hgg, hb3⟩
    have hq0 : q = [] := pv_zero hq.top (by rw [hq.val]; exact HB0.out)
    subst hq0
    clear hp hq hrp hrq hgg
    go_wp2_with fail
    go_ret3
    exact ⟨rfl, h1.trans (hb3.mono h1.size)⟩

set_option maxHeartbeats 1600000 in
theorem dm_big (a b : Nat) (w : World) (hs : Std w) (ha : (str a).size ≤ 450000) (hb : (str b).size ≤ 450000) (h64 : ¬ (a < 18446744073709551616 ∧ b < 18446744073709551616)) (hb0 : 0 < b) :
    Calls Tryz.prog 77 #[.string (str a), .string (str b)] w fun e w' => e = .returned (.tuple #[.string (str (a / b)), .string (str (a % b)), .int .i64 0]) ∧ Below w.heap.size w w' := by
  have HCUT := Lib.hid (fun wx => cutBoth_any a b wx (by omega) (by omega))
  have HBN := Lib.hid (both_no a b h64 w hs)
  obtain ⟨dq, dr, hdq⟩ : ∃ d r : Nat, d = a / b ∧ r = a % b := ⟨_, _, rfl, rfl⟩
  have hla : (str dq).size ≤ 450000 ∧ (str dr).size ≤ 450000 := by
    rw [hdq.1, hdq.2]
    exact ⟨Nat.le_trans (size_mono (Nat.div_le_self a b)) ha, Nat.le_trans (size_mono (Nat.mod_le a b)) ha⟩
  rw [← hdq.1, ← hdq.2]
  have HDQ := Lib.hid hdq
  have HLA := Lib.hid hla
  clear h64 hdq hla
  go_enter Tryz.func77, Tryz.ntmps77
  go_wp2_with fail
  refine HBN.out.mono ?_
  rintro e w1 ⟨x, y, rfl, hb1'⟩
  go_wp2_with fail
  refine (HCUT.out _).mono ?_
  rintro e w3 ⟨g, cap, p, g', cap', q, rfl, hp, hq, hrp, hrq, hgg, hb3⟩
  have hlp := hp.len_le (n := 50000) (by omega)
  have hlq0 := pcs_pos hq hb0
  have hqn : ((q.length : Int) == 0) = false := by rw [beq_eq_false_iff_ne]; omega
  have hdv := divide_any _ g cap g' cap' p q a b w3 hrp hrq (by omega) hp hq (by omega) hb0 hb3.size
  have hsz := hrp.len_cap
  have hsz' := hrq.len_cap
  unfold maxLen at hsz hsz'
  have HDV := Lib.hid hdv
  clear hp hq hrp hrq hgg hdv
  go_wp2_with fail
  refine HDV.out.mono ?_
  rintro e w4 ⟨v1, v2, q1, r1, rfl, hq1, hr1, ho1, ho2, hb4⟩
  rw [← HDQ.out.1] at hq1
  rw [← HDQ.out.2] at hr1
  have hl1 := hq1.len_le (n := 50000) HLA.out.1
  have hl2 := hr1.len_le (n := 50000) HLA.out.2
  have HJ1 := Lib.hid (ho1.join hq1 (by omega))
  have HJ2 := Lib.hid (fun wx (hw : Below w4.heap.size w4 wx) => (ho2.below hw).join hr1 (by omega))
  clear hq1 hr1 ho1 ho2 hl1 hl2
  clear HDV HCUT HBN
  go_wp2_with fail
  refine HJ1.out.mono ?_
  rintro e w5 ⟨rfl, hb5⟩
  go_wp2_with fail
  refine (HJ2.out _ hb5).mono ?_
  rintro e w6 ⟨rfl, hb6⟩
  go_wp2_with fail
  go_ret3
  have s1 := hb1'.size
  have s3 := hb3.size
  have s4 := hb4.size
  have s5 := hb5.size
  exact ⟨rfl, (((hb1'.trans ((hb3.trans hb4).mono s1))).trans (hb5.mono (by omega))).trans (hb6.mono (by omega))⟩

theorem dm_any (a b : Nat) (w : World) (hs : Std w) (ha : (str a).size ≤ 450000) (hb : (str b).size ≤ 450000) (hb0 : 0 < b) :
    Calls Tryz.prog 77 #[.string (str a), .string (str b)] w fun e w' => e = .returned (.tuple #[.string (str (a / b)), .string (str (a % b)), .int .i64 0]) ∧ Below w.heap.size w w' := by
  by_cases h : a < 18446744073709551616 ∧ b < 18446744073709551616
  · exact dm_small a b w hs h.1 h.2 hb0
  · exact dm_big a b w hs ha hb h hb0
end Go.Proofs.YtjebddpapbopnaaGreatDoor

namespace Go.Proofs.YtjebddpapbopnaaGreatDoor
open Go.RowKit

theorem modH_step (P B x n : Nat) : (x + B * P) % n = (P % n * B + x) % n := by
  rw [Nat.add_comm x, Nat.mul_comm B, Nat.add_mod (P * B), Nat.mul_mod P B, Nat.add_mod (P % n * B), Nat.mul_mod (P % n) B, Nat.mod_mod]
/-- what short answers -/
def shB (b : List Nat) : Bool := decide (b.length ≤ 2)
def shN (b : List Nat) : Nat := if b.length ≤ 2 then pv b else 0
theorem short_both (B g cap : Nat) (l : List Nat) (w : World) (h : Row w B g cap l) (h9 : lt9 l) :
    Calls Tryz.prog 121 #[.slice (some ⟨g, 0, none⟩) l.length cap] w fun e w' => e = .returned (.tuple #[.int .u64 (shN l : Int), .bool (shB l)]) ∧ Below w.heap.size w w' := by
  by_cases hl : l.length ≤ 2
  · unfold shN shB; rw [if_pos hl, decide_eq_true hl]; exact short_yes B g cap l w h hl h9
  · unfold shN shB; rw [if_neg hl, decide_eq_false hl]
    refine (short_no B g cap l w h (by omega)).mono ?_
    rintro e w' ⟨rfl, rfl⟩
    exact ⟨rfl, Below.refl _ _⟩
theorem reduce_both (B g cap g' cap' : Nat) (a b : List Nat) (w : World) (ha : Row w B g cap a) (hb : Row w B g' cap' b) (hg : g' ≠ g) (h2 : 2 ≤ b.length) (ha9 : lt9 a) (hb9 : lt9 b) (htop : Go.Proofs.YtjebddpapbopnaaGreatDoor.top b) (hlen : a.length ≤ 200000) (hB : B ≤ w.heap.size) :
    Calls Tryz.prog 123 #[.slice (some ⟨g, 0, none⟩) a.length cap, .slice (some ⟨g', 0, none⟩) b.length cap', .slice none 0 0] w fun e w' => ∃ (g1 cap1 : Nat) (p : List Nat), e = .returned (.slice (some ⟨g1, 0, none⟩) p.length cap1) ∧ Pcs p (pv a % pv b) ∧ Row w' B g1 cap1 p ∧ Row w' B g' cap' b ∧ g1 ≠ g' ∧ Below B w w' := by
  by_cases hab : a.length < b.length
  · exact reduce_less B g cap g' cap' a b w ha hb hg hab ha9 htop hlen hB
  · exact reduce_nil B g cap g' cap' a b w ha hb hg (by omega) h2 ha9 hb9 htop hlen hB
/-- what gcd leaves -/
def GcdPost (B d : Nat) (w : World) (e : Ending) (w' : World) : Prop := ∃ (g cap : Nat) (p : List Nat), e = .returned (.slice (some ⟨g, 0, none⟩) p.length cap) ∧ Pcs p d ∧ Row w' B g cap p ∧ Below B w w'
theorem mod_len {p b : List Nat} {x y : Nat} (hp : Pcs p (x % y)) (hb : Pcs b y) (hy : 0 < y) : p.length ≤ b.length :=
  hp.len_of_lt (Nat.lt_trans (Nat.mod_lt x hy) (by have := pv_lt b hb.lt; rw [hb.val] at this; exact this))

set_option maxHeartbeats 3200000 in
set_option maxRecDepth 100000 in
theorem gcd_rows (B g cap g' cap' : Nat) (a b : List Nat) (x y : Nat) (w : World) (ha : Row w B g cap a) (hb : Row w B g' cap' b) (hgg : g' ≠ g) (pa : Pcs a x) (pb : Pcs b y) (hla : a.length ≤ 200000) (hlb : b.length ≤ 200000) (hB : B ≤ w.heap.size) :
    Calls Tryz.prog 106 #[.slice (some ⟨g, 0, none⟩) a.length cap, .slice (some ⟨g', 0, none⟩) b.length cap'] w (GcdPost B (Nat.gcd x y) w) := by
  obtain ⟨d, hd⟩ : ∃ d, d = Nat.gcd x y := ⟨_, rfl⟩
  rw [← hd]
  have HD := Lib.hid hd
  have HSB := Lib.hid (short_both B g' cap' b w hb pb.lt)
  have HA := Lib.hid ha
  have HBR := Lib.hid hb
  have HPA := Lib.hid pa
  have HPB := Lib.hid pb
  have HG := Lib.hid hgg
  have hca := ha.len_cap
  have hcb := hb.len_cap
  unfold maxLen at hca hcb
  clear ha hb pa pb hgg hd
  go_enter Tryz.func106, Tryz.ntmps106
  go_wp2_with fail
  refine HSB.out.mono ?_
  rintro e w0 ⟨rfl, hb0⟩
  have HB0 := Lib.hid hb0
  clear hb0
  go_wp2_with fail
  go_loopg [0, 1, 5, 6] y (fun k av bv nv sv  wr => ∃ (g cap g' cap' : Nat) (a b : List Nat) (x : Nat), av = .slice (some ⟨g, 0, none⟩) a.length cap ∧ bv = .slice (some ⟨g', 0, none⟩) b.length cap' ∧ nv = .int .u64 (shN b : Int) ∧ sv = .bool (shB b) ∧ a.length ≤ 200000 ∧ b.length ≤ 200000 ∧ Hid (Pcs a x ∧ Pcs b k ∧ d = Nat.gcd x k ∧ g' ≠ g ∧ Row wr B g cap a ∧ Row wr B g' cap' b ∧ Below B w wr))
  case atStart =>
    exact ⟨g, cap, g', cap', a, b, x, rfl, rfl, rfl, rfl, hla, hlb, Lib.hid ⟨HPA.out, HPB.out, HD.out, HG.out, HA.out.below HB0.out, HBR.out.below HB0.out, HB0.out.mono hB⟩⟩
  case round =>
    obtain ⟨g, cap, g', cap', a, b, x, rfl, rfl, rfl, rfl, hla, hlb, HI⟩ := hrel
    clear HSB HA HBR HPA HPB HG hca hcb HB0
    have hca := HI.out.2.2.2.2.1.len_cap
    have hcb := HI.out.2.2.2.2.2.1.len_cap
    unfold maxLen at hca hcb
    by_cases hl : b.length ≤ 2
    · have hsb : shB b = true := decide_eq_true hl
      have hsn : shN b = gk := by unfold shN; rw [if_pos hl]; exact HI.out.2.1.val
      rw [hsb, hsn]
      clear hsb hsn
      by_cases h0 : gk = 0
      · subst h0
        have HF : Hid (GcdPost B d w (.returned (.slice (some ⟨g, 0, none⟩) a.length cap)) wr) := by
          obtain ⟨i1, i2, i3, i4, i5, i6, i7⟩ := HI.out
          exact Lib.hid ⟨g, cap, a, rfl, by rw [i3, Nat.gcd_zero_right]; exact i1, i5, i7⟩
        clear HI
        go_wp2_with fail
        go_ret
        exact HF.out
      · have hk18 : gk < 1000000000000000000 := by have := pv_two18 HI.out.2.1.lt hl; rw [HI.out.2.1.val] at this; exact this
        have hkz : ((gk : Int) == 0) = false := by rw [beq_eq_false_iff_ne]; omega
        have hk0 : 0 < gk := by omega
        obtain ⟨M, hM⟩ : ∃ M : Nat, M = 18446744073709551616 := ⟨_, rfl⟩
        have hkM : gk < M := by omega
        have HTS := Lib.hid (fun r p (wx : World) (h1 : r < gk) (h2 : p < 1000000000) => takeShort_any r p gk h1 h2 (by omega) wx)
        have HGS := Lib.hid (fun r (wx : World) (h1 : r < gk) => smallGcd_any gk r wx (by omega) (by omega))
        have HK18 := Lib.hid hk18
        clear h0 hM hkM hk18
        obtain ⟨wo, rfl⟩ : ∃ wo : World, wo = wr := ⟨_, rfl⟩
        go_wp2_with fail
        go_loopw [7, 8] (fun rv iv wr2 => ∃ (E : Int) (k r : Nat), iv = .int .i64 E ∧ -1 ≤ E ∧ E < a.length ∧ rv = .int .u64 (r : Int) ∧ r < gk ∧ Hid (E = (k : Int) - 1 ∧ k ≤ a.length ∧ r = pv (a.drop k) % gk ∧ Below wo.heap.size wo wr2)) (fun rv iv _ => (intOf iv + 1).toNat)
        case atStart =>
          refine ⟨(a.length : Int) - 1, a.length, 0, rfl, by omega, by omega, rfl, hk0, Lib.hid ⟨rfl, Nat.le_refl _, by rw [List.drop_length]; simp [pv], Below.refl _ _⟩⟩
        case round =>
          obtain ⟨E, k, r, rfl, hE1, hE2, rfl, hr, HJ⟩ := hrel
          have hEk := HJ.out.1
          by_cases hE : 0 ≤ E
          · obtain ⟨j, rfl⟩ : ∃ j : Nat, E = j := ⟨E.toNat, by omega⟩
            obtain rfl : k = j + 1 := by omega
            have hj : j < a.length := by omega
            have hcell := (HI.out.2.2.2.2.1.below HJ.out.2.2.2).cell j hj
            have hp9 := lt9_at HI.out.1.lt j hj
            have hnx : pv (a.drop j) % gk = (r * 1000000000 + a[j]) % gk := by
              rw [List.drop_eq_getElem_cons hj, pv_consN, HJ.out.2.2.1]
              exact modH_step _ _ _ _
            obtain ⟨p, hp⟩ : ∃ p, p = a[j] := ⟨_, rfl⟩
            rw [← hp] at hcell hp9 hnx
            have HNX := Lib.hid hnx
            have hmk : (r * 1000000000 + p) % gk < gk := Nat.mod_lt _ hk0
            have HC := Lib.hid (HTS.out r p wr hr hp9)
            obtain ⟨m, hm⟩ : ∃ m, m = (r * 1000000000 + p) % gk := ⟨_, rfl⟩
            obtain ⟨q, hq⟩ : ∃ q, q = (r * 1000000000 + p) / gk := ⟨_, rfl⟩
            rw [← hm, ← hq] at HC
            rw [← hm] at HNX hmk
            clear hp hnx hm hq hEk
            go_wp2_with fail
            refine HC.out.mono ?_
            rintro e w3 ⟨rfl, hb3⟩
            have HJ2 : Hid ((j : Int) - 1 = (j : Int) - 1 ∧ j ≤ a.length ∧ m = pv (a.drop j) % gk ∧ Below wo.heap.size wo w3) := Lib.hid ⟨rfl, by omega, HNX.out.symm, HJ.out.2.2.2.trans (hb3.mono HJ.out.2.2.2.size)⟩
            clear hb3 HC HNX
            go_wp2_with fail
            refine ⟨⟨(j : Int) - 1, j, m, rfl, by omega, by omega, rfl, hmk, Lib.hid ⟨rfl, HJ2.out.2⟩⟩, ?_⟩
            clear HJ2
            show ((j : Int) - 1 + 1).toNat < ((j : Int) + 1).toNat
            omega
          · obtain rfl : k = 0 := by omega
            have hr2 : r = x % gk := by rw [HJ.out.2.2.1, List.drop_zero, HI.out.1.val]
            have hdg : Nat.gcd gk r = d := by rw [hr2, gcd_step, ← HI.out.2.2.1]
            have HC := Lib.hid (HGS.out r wr hr)
            rw [hdg] at HC
            have hd18 : d < 1000000000000000000 := by
              have : d ≤ gk := by rw [← hdg]; exact Nat.gcd_le_left _ hk0
              have := HK18.out
              omega
            clear hr2 hdg hEk
            go_wp2_with fail
            refine HC.out.mono ?_
            rintro e w4 ⟨rfl, hb4⟩
            have hrt := Row.two w4 (d % 1000000000) (d / 1000000000)
            have e1 : ((d % 1000000000 : Nat) : Int) = (d : Int) % 1000000000 := by omega
            have e2 : ((d / 1000000000 : Nat) : Int) = (d : Int) / 1000000000 := by omega
            rw [e1, e2] at hrt
            have htr := trim_any w4.heap.size w4.heap.size 2 [d % 1000000000, d / 1000000000] _ hrt
            have h9r : lt9 [d % 1000000000, d / 1000000000] := by
              intro z hz; simp at hz; omega
            have hpr : pv [d % 1000000000, d / 1000000000] = d := by simp [pv]; omega
            have HT := Lib.hid htr
            have hpc := Pcs.of_trim h9r
            rw [hpr] at hpc
            have htk := hrt.take (trimP [d % 1000000000, d / 1000000000]).length (trimP_props _).2.2.2.1
            rw [← (trimP_props [d % 1000000000, d / 1000000000]).2.2.2.2] at htk
            have hbz : Below w4.heap.size w4 (w4.alloc (.cells #[.int .u64 ((d : Int) % 1000000000), .int .u64 ((d : Int) / 1000000000)] 61)) := (Below.refl _ _).alloc (Nat.le_refl _) _
            have hs1 := HI.out.2.2.2.2.2.2.size
            have hs2 := HJ.out.2.2.2.size
            have hs3 := hb4.size
            have HF : Hid (GcdPost B d w (.returned (.slice (some ⟨w4.heap.size, 0, none⟩) (trimP [d % 1000000000, d / 1000000000]).length 2)) (w4.alloc (.cells #[.int .u64 ((d : Int) % 1000000000), .int .u64 ((d : Int) / 1000000000)] 61))) :=
              Lib.hid ⟨_, _, _, rfl, hpc, htk.mono (by omega), (((HI.out.2.2.2.2.2.2.trans (HJ.out.2.2.2.mono (by omega))).trans (hb4.mono (by omega))).trans (hbz.mono (by omega)))⟩
            clear hrt e1 e2 htr h9r hpr hpc htk hbz hb4 HI HJ HTS HGS hs1 hs2 hs3
            go_wp2_with fail
            refine HT.out.mono ?_
            rintro e w5 ⟨rfl, rfl⟩
            go_wp2_with fail
            go_ret
            exact HF.out
    · have hsb : shB b = false := decide_eq_false hl
      obtain ⟨sn, hsn⟩ : ∃ sn, sn = shN b := ⟨_, rfl⟩
      rw [hsb, ← hsn]
      obtain ⟨i1, i2, i3, i4, i5, i6, i7⟩ := HI.out
      have hk0 : 0 < gk := by
        rw [← i2.val]
        exact Nat.lt_of_lt_of_le (Nat.pow_pos (by decide)) (top_big i2.top (by intro e; rw [e] at hl; simp at hl))
      have hs7 := i7.size
      have hrd := reduce_both B g cap g' cap' a b wr i5 i6 i4 (by omega) i1.lt i2.lt i2.top hla (Nat.le_trans hB hs7)
      rw [i1.val, i2.val] at hrd
      have HR := Lib.hid hrd
      have HK0 := Lib.hid hk0
      have HB7 := Lib.hid i7
      have HP2 := Lib.hid i2
      have HGC := Lib.hid (show d = Nat.gcd gk (x % gk) by rw [gcd_step]; exact i3)
      clear hsb hsn i1 i2 i3 i4 i5 i6 i7 hk0 hs7 hrd HI HD
      go_wp2_with fail
      refine HR.out.mono ?_
      rintro e w3 ⟨g1, cap1, p, rfl, hp, hrp, hrb, hne, hb3⟩
      have hlp : p.length ≤ 200000 := Nat.le_trans (mod_len hp HP2.out HK0.out) hlb
      have HSB := Lib.hid (short_both B g1 cap1 p w3 hrp hp.lt)
      have HI2 := Lib.hid (show Pcs b gk ∧ Pcs p (x % gk) ∧ d = Nat.gcd gk (x % gk) ∧ g1 ≠ g' ∧ Row w3 B g' cap' b ∧ Row w3 B g1 cap1 p ∧ Below B w w3 from ⟨HP2.out, hp, HGC.out, hne, hrb, hrp, HB7.out.trans hb3⟩)
      have hcp := hrp.len_cap
      unfold maxLen at hcp
      clear hp hrp hrb hne hb3 HR HB7 HP2 HGC
      go_wp2_with fail
      refine HSB.out.mono ?_
      rintro e w4 ⟨rfl, hb4⟩
      have HI3 := Lib.hid (show Pcs b gk ∧ Pcs p (x % gk) ∧ d = Nat.gcd gk (x % gk) ∧ g1 ≠ g' ∧ Row w4 B g' cap' b ∧ Row w4 B g1 cap1 p ∧ Below B w w4 from
        ⟨HI2.out.1, HI2.out.2.1, HI2.out.2.2.1, HI2.out.2.2.2.1, HI2.out.2.2.2.2.1.below hb4, HI2.out.2.2.2.2.2.1.below hb4, HI2.out.2.2.2.2.2.2.trans (hb4.mono (Nat.le_trans hB HI2.out.2.2.2.2.2.2.size))⟩)
      clear HSB HI2 hb4
      go_wp2_with fail
      go_roundg (x % gk)
      case measure => exact Nat.mod_lt _ HK0.out
      case rel => exact ⟨g', cap', g1, cap1, b, p, gk, rfl, rfl, rfl, rfl, hlb, hlp, HI3⟩

set_option maxHeartbeats 1600000 in
set_option maxRecDepth 100000 in
theorem gcdN_any (a b : Nat) (w : World) (hs : Std w) (ha : (str a).size ≤ 450000) (hb : (str b).size ≤ 450000) :
    Calls Tryz.prog 80 #[.string (str a), .string (str b)] w fun e w' => e = .returned (.string (str (Nat.gcd a b))) ∧ Below w.heap.size w w' := by
  have hgs : (str (Nat.gcd a b)).size ≤ 450000 := by
    by_cases h : a = 0
    · rw [h, Nat.gcd_zero_left]; exact hb
    · exact Nat.le_trans (size_mono (Nat.gcd_le_left b (by omega))) ha
  by_cases h64 : a < 18446744073709551616 ∧ b < 18446744073709551616
  · have HB := Lib.hid (both_yes a b h64.1 h64.2 w)
    have HG := Lib.hid (fun wx => smallGcd_any a b wx h64.1 h64.2)
    have hd64 : Nat.gcd a b < 18446744073709551616 := by
      by_cases h : a = 0
      · rw [h, Nat.gcd_zero_left]; exact h64.2
      · exact Nat.lt_of_le_of_lt (Nat.gcd_le_left b (by omega)) h64.1
    obtain ⟨d, hd⟩ : ∃ d, d = Nat.gcd a b := ⟨_, rfl⟩
    rw [← hd] at HG hd64 ⊢
    have HO := Lib.hid (fun wx hx => of_any d hd64 wx hx)
    clear hgs h64 hd hd64
    go_enter Tryz.func80, Tryz.ntmps80
    go_wp2_with fail
    refine HB.out.mono ?_
    rintro e w1 ⟨rfl, h1⟩
    have H1 := Lib.hid h1
    clear h1
    go_wp2_with fail
    refine (HG.out _).mono ?_
    rintro e w2 ⟨rfl, h2⟩
    have H2 := Lib.hid (H1.out.trans (h2.mono H1.out.size))
    clear h2
    go_wp2_with fail
    refine (HO.out _ (hs.below H2.out)).mono ?_
    rintro e w3 ⟨rfl, h3⟩
    go_wp2_with fail
    go_ret
    exact ⟨rfl, H2.out.trans (h3.mono H2.out.size)⟩
  · have HCUT := Lib.hid (fun wx => cutBoth_any a b wx (by omega) (by omega))
    have HBN := Lib.hid (both_no a b h64 w hs)
    have HGS := Lib.hid hgs
    clear h64 hgs
    go_enter Tryz.func80, Tryz.ntmps80
    go_wp2_with fail
    refine HBN.out.mono ?_
    rintro e w1 ⟨x, y, rfl, hb1⟩
    go_wp2_with fail
    refine (HCUT.out _).mono ?_
    rintro e w3 ⟨g, cap, p, g', cap', q, rfl, hp, hq, hrp, hrq, hgg, hb3⟩
    have hlp := hp.len_le (n := 50000) (by omega)
    have hlq := hq.len_le (n := 50000) (by omega)
    have HG := Lib.hid (gcd_rows _ g cap g' cap' p q a b w3 hrp hrq (by omega) hp hq (by omega) (by omega) hb3.size)
    clear hp hq hrp hrq hgg
    go_wp2_with fail
    refine HG.out.mono ?_
    rintro e w4 ⟨g2, cap2, r, rfl, hr, hrr, hb4⟩
    have hlr := hr.len_le (n := 50000) (by have := HGS.out; omega)
    have HJ := Lib.hid (join_any _ g2 cap2 r _ w4 hrr hr (by omega))
    clear hr hrr
    go_wp2_with fail
    refine HJ.out.mono ?_
    rintro e w5 ⟨rfl, hb5⟩
    go_wp2_with fail
    go_ret
    have s1 := hb1.size
    have s3 := hb3.size
    have s4 := hb4.size
    exact ⟨rfl, (hb1.trans ((hb3.trans hb4).mono s1)).trans (hb5.mono (by omega))⟩

set_option maxHeartbeats 800000 in
theorem lcm_zero (a b : Nat) (w : World) (h : a = 0 ∨ b = 0) :
    Calls Tryz.prog 81 #[.string (str a), .string (str b)] w fun e w' => e = .returned (.string ⟨#[48]⟩) ∧ Below w.heap.size w w' := by
  have ia := is0 a
  have ib := is0 b
  have e0 : ((str a).toList == [48]) = true ∨ (((str a).toList == [48]) = false ∧ ((str b).toList == [48]) = true) := by
    by_cases ha : a = 0
    · exact .inl (by rw [ia]; simpa using ha)
    · exact .inr ⟨by rw [ia]; simpa using ha, by rw [ib]; simpa using (h.resolve_left ha)⟩
  clear ia ib h
  rcases e0 with e0 | ⟨e0, e1⟩
  all_goals
    go_enter Tryz.func81, Tryz.ntmps81
    go_wp2_with fail
    go_ret
    exact ⟨rfl, Below.refl _ _⟩

set_option maxHeartbeats 800000 in
theorem lcm_any (a b : Nat) (w : World) (hs : Std w) (ha : (str a).size ≤ 400000) (hb : (str b).size ≤ 400000) (ha0 : 0 < a) (hb0 : 0 < b) :
    Calls Tryz.prog 81 #[.string (str a), .string (str b)] w fun e w' => e = .returned (.string (str (a / Nat.gcd a b * b))) ∧ Below w.heap.size w w' := by
  have ia := is0 a
  have ib := is0 b
  have e0 : ((str a).toList == [48]) = false := by rw [ia]; simp; omega
  have e1 : ((str b).toList == [48]) = false := by rw [ib]; simp; omega
  have HG := Lib.hid (gcdN_any a b w hs (by omega) (by omega))
  have hg0 : 0 < Nat.gcd a b := Nat.gcd_pos_of_pos_left b ha0
  have hgs : (str (Nat.gcd a b)).size ≤ 450000 := Nat.le_trans (size_mono (Nat.gcd_le_left b ha0)) (by omega)
  have HD := Lib.hid (fun wx hx => dm_any a (Nat.gcd a b) wx hx (by omega) hgs hg0)
  have hqs : (str (a / Nat.gcd a b)).size ≤ 450000 := Nat.le_trans (size_mono (Nat.div_le_self _ _)) (by omega)
  have HM := Lib.hid (fun wx hx => mul_any (a / Nat.gcd a b) b wx hx hqs (by omega))
  obtain ⟨d, hd⟩ : ∃ d, d = Nat.gcd a b := ⟨_, rfl⟩
  rw [← hd] at HG HD HM ⊢
  obtain ⟨q, hq⟩ : ∃ q, q = a / d := ⟨_, rfl⟩
  obtain ⟨r, hr⟩ : ∃ r, r = a % d := ⟨_, rfl⟩
  rw [← hq] at HD HM ⊢
  rw [← hr] at HD
  clear ia ib hg0 hgs hqs hd hq hr ha hb ha0 hb0
  go_enter Tryz.func81, Tryz.ntmps81
  go_wp2_with fail
  refine HG.out.mono ?_
  rintro e w1 ⟨rfl, h1⟩
  have H1 := Lib.hid h1
  clear h1
  go_wp2_with fail
  refine (HD.out _ (hs.below H1.out)).mono ?_
  rintro e w2 ⟨rfl, h2⟩
  have H2 := Lib.hid (H1.out.trans (h2.mono H1.out.size))
  clear h2
  go_wp2_with fail
  refine (HM.out _ (hs.below H2.out)).mono ?_
  rintro e w3 ⟨rfl, h3⟩
  go_wp2_with fail
  go_ret
  exact ⟨rfl, H2.out.trans (h3.mono H2.out.size)⟩
end Go.Proofs.YtjebddpapbopnaaGreatDoor
