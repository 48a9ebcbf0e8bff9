/-
  giveBack.
-/
import Derived.Test.YtfhmdlpjeiockaaDoorMul
import Derived.Test.YtfhmdlpjeiockaaDoorShort2
namespace Go.Proofs.YtfhmdlpjeiockaaDoor
open Go.RowKit

theorem grown_refl (w : World) (r : Option Nat) : w.grownBy w r := ⟨rfl, rfl, rfl, Nat.le_refl _, fun _ _ _ => rfl⟩
theorem grown_trans {a b c : World} {r : Option Nat} (h : a.grownBy b r) (k : b.grownBy c r) : a.grownBy c r :=
  ⟨k.os.trans h.os, k.tape.trans h.tape, k.output.trans h.output, Nat.le_trans h.size k.size, fun j hj hr => (k.block j (Nat.lt_of_lt_of_le hj h.size) hr).trans (h.block j hj hr)⟩
theorem grown_set (w : World) (g j : Nat) (u : Value) : w.grownBy (w.setCell ⟨g, j, none⟩ u) (some g) :=
  have h : Below g w (w.setCell ⟨g, j, none⟩ u) := (Below.refl g w).setCell (p := ⟨g, j, none⟩) (Nat.le_refl _) u
  ⟨h.os, h.tape, h.output, h.size, fun k _ hr => Below.heap_setCell _ _ _ _ (by intro e; exact hr (congrArg some e))⟩
theorem grown_below {a b : World} {g B : Nat} (h : a.grownBy b (some g)) (hB : B ≤ g) (hs : B ≤ a.heap.size) : Below B a b :=
  ⟨h.os, h.tape, h.output, h.size, fun k hk => h.block k (by omega) (by intro e; injection e with e; omega)⟩
theorem Row.grown {w w' : World} {B g g' cap : Nat} {l : List Nat} (h : Row w B g' cap l) (k : w.grownBy w' (some g)) (hg : g' ≠ g) : Row w' B g' cap l :=
  World.ownsRow.kept (row := some g) h k (.inr (by simp [Value.ownBlock]; exact hg))
/-- the piece in the middle of a row -/
theorem mid_at (A S R C : List Nat) (x : Nat) : ∃ h : A.length + S.length < (A ++ (S ++ x :: R) ++ C).length, (A ++ (S ++ x :: R) ++ C)[A.length + S.length]'h = x := by
  refine ⟨by simp, ?_⟩
  simp [List.getElem_append_right]
theorem mid_set (A S R C : List Nat) (x v : Nat) : (A ++ (S ++ x :: R) ++ C).set (A.length + S.length) v = A ++ ((S ++ [v]) ++ R) ++ C := by
  rw [List.append_assoc, List.set_append_right _ _ (by omega), Nat.add_sub_cancel_left, List.append_assoc, List.set_append_right _ _ (Nat.le_refl _), Nat.sub_self]
  simp
/-- one piece of a sum with a carry -/
theorem back_step {S p1 b1 : List Nat} {c x y v c' : Nat} (hp : p1.length = S.length) (hb : b1.length = S.length) (h : pv S + 1000000000 ^ S.length * c = pv p1 + pv b1) (hv : v + 1000000000 * c' = c + (x + y)) :
    pv (S ++ [v]) + 1000000000 ^ (S.length + 1) * c' = pv (p1 ++ [x]) + pv (b1 ++ [y]) := by
  rw [pv_snoc, pv_snoc, pv_snoc, hp, hb, Nat.pow_succ, Nat.mul_assoc]
  have h2 : 1000000000 ^ S.length * (v + 1000000000 * c') = 1000000000 ^ S.length * (c + (x + y)) := by rw [hv]
  rw [Nat.mul_add, Nat.mul_add, Nat.mul_add] at h2
  omega

set_option maxHeartbeats 1600000 in
set_option maxRecDepth 100000 in
theorem giveBack_any (B g cap g' cap' : Nat) (A P C bl : List Nat) (w : World) (h : Row w B g cap (A ++ P ++ C)) (hb : Row w B g' cap' bl) (hg : g' ≠ g) (hl : P.length = bl.length) (hP9 : lt9 P) (hb9 : lt9 bl) (m : Nat) (hm : m = bl.length + 1) (hlen : bl.length ≤ 200000) :
    Calls Tryd.prog 74 #[.slice (some ⟨g, A.length, none⟩) m (cap - A.length), .slice (some ⟨g', 0, none⟩) bl.length cap'] w fun e w' => ∃ (S : List Nat) (c : Nat), e = .returned (.tuple #[]) ∧ S.length = bl.length ∧ lt9 S ∧ pv S + 1000000000 ^ bl.length * c = pv P + pv bl ∧ Row w' B g cap (A ++ S ++ C) ∧ w.grownBy w' (some g) := by
  have hlc := hb.len_cap
  unfold maxLen at hlc
  have HH := Lib.hid h
  have HBR := Lib.hid hb
  have HP9 := Lib.hid hP9
  have HB9 := Lib.hid hb9
  have HL := Lib.hid hl
  have HM := Lib.hid hm
  have hmi : (m : Int) = (bl.length : Int) + 1 := by omega
  clear h hb hP9 hb9 hl hm
  go_enter Tryd.func74, Tryd.ntmps74
  go_wp2_with fail
  go_loopw [4, 5, 6, 9] (fun cv _ _ iv wr => ∃ (i c : Nat) (S p1 R b1 b2 : List Nat), iv = .int .i64 i ∧ i ≤ bl.length ∧ cv = .int .u64 c ∧ c ≤ 1 ∧ Hid (S.length = i ∧ p1.length = i ∧ b1.length = i ∧ P = p1 ++ R ∧ bl = b1 ++ b2 ∧ lt9 S ∧ pv S + 1000000000 ^ S.length * c = pv p1 + pv b1) ∧ Row wr B g cap (A ++ (S ++ R) ++ C) ∧ w.grownBy wr (some g)) (fun _ _ _ iv _ => bl.length - (intOf iv).toNat)
  case atStart => exact ⟨0, 0, [], [], P, [], bl, rfl, Nat.zero_le _, rfl, by omega, Lib.hid ⟨rfl, rfl, rfl, rfl, rfl, (by intro x hx; cases hx), rfl⟩, HH.out, grown_refl _ _⟩
  case round =>
    obtain ⟨i, c, S, p1, R, b1, b2, rfl, hi, rfl, hc, HI, hrow, hgr⟩ := hrel
    by_cases hlt : i < bl.length
    · obtain ⟨e1, e2, e3, e4, e5, e6, e7⟩ := HI.out
      obtain ⟨x, R, rfl⟩ : ∃ x R', R = x :: R' := by
        cases R with
        | nil => have := HL.out; rw [e4, List.append_nil] at this; omega
        | cons x R' => exact ⟨x, R', rfl⟩
      obtain ⟨y, b2, rfl⟩ : ∃ y b', b2 = y :: b' := by
        cases b2 with
        | nil => rw [e5, List.append_nil] at hlt; omega
        | cons y b' => exact ⟨y, b', rfl⟩
      have hx9 : x < 1000000000 := HP9.out x (by rw [e4]; simp)
      have hy9 : y < 1000000000 := HB9.out y (by rw [e5]; simp)
      obtain ⟨hk, hat⟩ := mid_at A S R C x
      have hcell := hrow.cell _ hk
      rw [hat] at hcell
      have hfree := hrow.free (A.length + S.length)
      have hbc := (HBR.out.grown hgr hg).cell i hlt
      have hby : bl[i]'hlt = y := by
        simp only [e5]
        rw [List.getElem_append_right (by omega)]
        simp [e3]
      rw [hby] at hbc
      obtain ⟨v, hv⟩ : ∃ v, v = (c + (x + y)) % 1000000000 := ⟨_, rfl⟩
      obtain ⟨c2, hc2⟩ : ∃ c2, c2 = (c + (x + y)) / 1000000000 := ⟨_, rfl⟩
      have hset := hrow.set (A.length + S.length) v
      rw [mid_set] at hset
      have HSET := Lib.hid hset
      have HGR := Lib.hid (grown_trans hgr (grown_set wr g (A.length + S.length) (.int .u64 (v : Int))))
      have hst := back_step (x := x) (y := y) (v := v) (c' := c2) (by omega) (by omega) e7 (by omega)
      have HI2 : Hid ((S ++ [v]).length = i + 1 ∧ (p1 ++ [x]).length = i + 1 ∧ (b1 ++ [y]).length = i + 1 ∧ P = (p1 ++ [x]) ++ R ∧ bl = (b1 ++ [y]) ++ b2 ∧ lt9 (S ++ [v]) ∧ pv (S ++ [v]) + 1000000000 ^ (S ++ [v]).length * c2 = pv (p1 ++ [x]) + pv (b1 ++ [y])) :=
        Lib.hid ⟨by simp; omega, by simp; omega, by simp; omega, by rw [e4]; simp, by rw [e5]; simp, lt9_snoc e6 (by omega), by rw [List.length_append]; exact hst⟩
      have hvi : ((c : Int) + ((x : Int) + (y : Int))) % 1000000000 = (v : Int) := by omega
      have hci : ((c : Int) + ((x : Int) + (y : Int))) / 1000000000 = (c2 : Int) := by omega
      have hc2b : c2 ≤ 1 ∨ c2 = 2 := by omega
      have hc2c : c2 ≤ 1 := by omega
      rw [e1] at hcell hfree HSET HGR
      clear e1 e2 e3 e4 e5 e6 e7 hk hat hv hc2 hset hst hrow hgr hby HI hc2b
      go_wp2_with fail
      refine ⟨⟨i + 1, c2, S ++ [v], p1 ++ [x], R, b1 ++ [y], b2, by push_cast; rfl, by omega, by rw [hci], hc2c, HI2, HSET.out, HGR.out⟩, ?_⟩
      simp [intOf] <;> omega
    · obtain rfl : i = bl.length := by omega
      obtain ⟨e1, e2, e3, e4, e5, e6, e7⟩ := HI.out
      have eR : R = [] := by
        cases R with
        | nil => rfl
        | cons x R' =>
          have := HL.out
          rw [e4, List.length_append, e2, List.length_cons] at this; omega
      have eb : b2 = [] := by
        cases b2 with
        | nil => rfl
        | cons x R' =>
          have := congrArg List.length e5
          rw [List.length_append, e3, List.length_cons] at this; omega
      subst eR eb
      rw [List.append_nil] at e4 e5 hrow
      have HF : Hid (S.length = bl.length ∧ lt9 S ∧ pv S + 1000000000 ^ bl.length * c = pv P + pv bl) := Lib.hid ⟨e1, e6, by rw [← e1, e7, ← e4, ← e5]⟩
      have HROW := Lib.hid hrow
      have HGR := Lib.hid hgr
      clear e1 e2 e3 e4 e5 e6 e7 hrow hgr HI
      go_wp2_with fail
      first | go_end0 | refine bodyPost_end (results_none rfl _ _ _) rfl ?_
      exact ⟨S, c, rfl, HF.out.1, HF.out.2.1, HF.out.2.2, HROW.out, HGR.out⟩
end Go.Proofs.YtfhmdlpjeiockaaDoor
